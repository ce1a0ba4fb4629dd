/- Columns that are right: what is asked of them, and that it stays. Columns that are right stay so: for some of their spots, and for what lies within. The first column that has a row: the closure, slices.IndexFunc. Trees of switches in memory; what a call of tree does. The columns of rows that are right are good. What families say, if they are right: KnOk. -/
import Derived.Test.YtpdmkhnonbbhnaaMhx
namespace Go.Proofs.Ytpdmkhnonbbhnaa

/-- What the families say: a place in a family has one name; no name is empty; fields at most eight; families are there. -/
structure KnOk (k : Kn) (fs : List Fam) : Prop where
  place : ∀ e ∈ k, ∀ e' ∈ k, e.2.1 = e'.2.1 → e.2.2.1 = e'.2.2.1 → e.1 = e'.1
  name : ∀ e ∈ k, e.1 ≠ []
  fields : ∀ e ∈ k, e.2.2.2 ≤ 8
  family : ∀ e ∈ k, e.2.1 < fs.length
theorem look_mem {k : Kn} {n : Str} {c : Nat × Nat × Nat} (h : look k n = some c) : (n, c) ∈ k := by
  unfold look at h
  rw [Option.map_eq_some_iff] at h
  obtain ⟨e, h1, h2⟩ := h
  have h3 := List.find?_some h1
  have h4 := List.mem_of_find?_eq_some h1
  have : e.1 = n := by simpa using h3
  rw [← this, ← h2]
  exact h4
theorem looks_nil {k : Kn} {fs : List Fam} (h : KnOk k fs) : looks k [] = (0, 0, 0) := by
  unfold looks
  cases hl : look k [] with
  | none => rfl
  | some c => exact absurd rfl (h.name _ (look_mem hl))
theorem looks_fields {k : Kn} {fs : List Fam} (h : KnOk k fs) (n : Str) : (looks k n).2.2 ≤ 8 := by
  unfold looks
  cases hl : look k n with
  | none => simp
  | some c => exact h.fields _ (look_mem hl)
theorem cnd_facts {k : Kn} {f s : Pt} (h : cnd k f s = true) : s.kind = f.kind ∧ mayBe k s = true ∧ (f.kind = 4 → (looks k s.name).1 = (looks k f.name).1) := by
  unfold cnd at h
  simp only [Bool.and_eq_true, Bool.or_eq_true, beq_iff_eq, bne_iff_ne] at h
  exact ⟨h.1.1, h.1.2, fun h4 => h.2.resolve_left (fun h5 => h5 h4)⟩
theorem together_all {k : Kn} {spots : List Sp} (h : together k spots = true) : ∀ s ∈ spots, ∀ t ∈ spots, s.2.kind = t.2.kind ∧ mayBe k s.2 = true ∧ (t.2.kind = 4 → (looks k s.2.name).1 = (looks k t.2.name).1) := by
  cases spots with
  | nil => intro s hs; simp at hs
  | cons f r =>
    have h : (f :: r).all (fun s => cnd k f.2 s.2) = true := h
    rw [List.all_eq_true] at h
    intro s hs t ht
    obtain ⟨a1, a2, a3⟩ := cnd_facts (h s hs)
    obtain ⟨b1, b2, b3⟩ := cnd_facts (h t ht)
    exact ⟨a1.trans b1.symm, a2, fun h4 => (a3 (b1.symm.trans h4)).trans (b3 (b1.symm.trans h4)).symm⟩
theorem together_of {k : Kn} {spots : List Sp} (h : ∀ s ∈ spots, ∀ t ∈ spots, s.2.kind = t.2.kind ∧ mayBe k s.2 = true ∧ (t.2.kind = 4 → (looks k s.2.name).1 = (looks k t.2.name).1)) : together k spots = true := by
  cases spots with
  | nil => rfl
  | cons f r =>
    show (f :: r).all (fun s => cnd k f.2 s.2) = true
    rw [List.all_eq_true]
    intro s hs
    obtain ⟨a1, a2, a3⟩ := h s hs f (by simp)
    unfold cnd
    simp only [Bool.and_eq_true, Bool.or_eq_true, beq_iff_eq, bne_iff_ne]
    refine ⟨⟨a1, a2⟩, ?_⟩
    by_cases h4 : f.2.kind = 4
    · exact .inr (a3 h4)
    · exact .inl h4
theorem mayBe_kind {k : Kn} {p : Pt} (h : mayBe k p = true) : p.kind = 3 ∨ p.kind = 4 := by
  unfold mayBe at h
  by_cases h3 : p.kind = 3
  · exact .inl h3
  · rw [if_neg h3] at h
    by_cases h4 : p.kind = 4
    · exact .inr h4
    · rw [if_neg h4] at h; cases h
theorem mayBe_con {k : Kn} {p : Pt} (h : mayBe k p = true) (h4 : p.kind = 4) : ∃ c, look k p.name = some c ∧ p.kids.length = c.2.2 ∧ looks k p.name = c := by
  unfold mayBe at h
  rw [if_neg (by omega), if_pos h4] at h
  unfold looks
  cases hl : look k p.name with
  | none => rw [hl] at h; cases h
  | some c => rw [hl] at h; exact ⟨c, rfl, by simpa using h, rfl⟩
theorem apart_of {k : Kn} {fs : List Fam} {spots : List Sp} (hk : KnOk k fs) (h : together k spots = true) : Apart k (spots.map fun s => csOf s.2) := by
  intro a ha b hb h1 h2
  obtain ⟨s, hs, rfl⟩ := List.mem_map.1 ha
  obtain ⟨t, ht, rfl⟩ := List.mem_map.1 hb
  obtain ⟨e1, e2, e3⟩ := together_all h s hs t ht
  obtain ⟨_, e4, _⟩ := together_all h t ht s hs
  have h1 : ¬ csLt k (csOf s.2) (csOf t.2) = true := by simp [h1]
  have h2 : ¬ csLt k (csOf t.2) (csOf s.2) = true := by simp [h2]
  rw [csLt_iff] at h1 h2
  have hp : (looks k (csOf s.2).1).2.1 = (looks k (csOf t.2).1).2.1 := by omega
  have hn : (csOf s.2).2 = (csOf t.2).2 := by omega
  by_cases h4 : t.2.kind = 4
  · have h4s : s.2.kind = 4 := e1.trans h4
    unfold csOf at hp ⊢
    rw [if_pos h4s, if_pos h4] at hp ⊢
    obtain ⟨c, l1, _, l2⟩ := mayBe_con e2 h4s
    obtain ⟨c', l1', _, l2'⟩ := mayBe_con e4 h4
    have := hk.place _ (look_mem l1) _ (look_mem l1') (by have := e3 h4; rw [l2, l2'] at this; exact this) (by rw [l2, l2'] at hp; exact hp)
    exact congrArg (fun x => (x, (0 : Int))) this
  · have h4s : ¬ s.2.kind = 4 := fun x => h4 (e1.symm.trans x)
    unfold csOf at hn ⊢
    rw [if_neg h4s, if_neg h4] at hn ⊢
    exact congrArg (fun x => (([] : Str), x)) hn
/-- A case of spots that go together is of one of them. -/
theorem case_of {k : Kn} {fs : List Fam} {spots : List Sp} (hk : KnOk k fs) (h : together k spots = true) {c : Cs} (hc : c ∈ casesOf k spots) : ∃ s ∈ spots, c = csOf s.2 ∧ isOf c s = true := by
  obtain ⟨s, hs, rfl⟩ := List.mem_map.1 (((casesOf_facts k spots (apart_of hk h)).2 c).1 hc)
  refine ⟨s, hs, rfl, ?_⟩
  obtain ⟨_, e, _⟩ := together_all h s hs s hs
  unfold isOf csOf
  by_cases h4 : s.2.kind = 4
  · obtain ⟨c', l1, _⟩ := mayBe_con e h4
    have hne : s.2.name ≠ [] := hk.name _ (look_mem l1)
    simp [h4, hne]
  · simp [h4]
/-- Spots of one case: their fields are there. -/
theorem fields_of {k : Kn} {fs : List Fam} {spots : List Sp} (hk : KnOk k fs) (h : together k spots = true) {c : Cs} (hc : c ∈ casesOf k spots) : ∀ s ∈ spots.filter (isOf c), (looks k c.1).2.2 ≤ s.2.kids.length := by
  intro s hs
  rw [List.mem_filter] at hs
  obtain ⟨t, ht, rfl, _⟩ := case_of hk h hc
  obtain ⟨e1, e2, _⟩ := together_all h s hs.1 t ht
  by_cases h4 : t.2.kind = 4
  · have h4s := e1.trans h4
    obtain ⟨c, l1, l2, l3⟩ := mayBe_con e2 h4s
    have hi := hs.2
    unfold isOf csOf at hi
    rw [if_pos h4] at hi
    obtain ⟨_, e2t, _⟩ := together_all h t ht t ht
    obtain ⟨ct, m1, _⟩ := mayBe_con e2t h4
    have hne : t.2.name ≠ [] := hk.name _ (look_mem m1)
    rw [if_neg hne] at hi
    have hi : s.2.name = t.2.name := by simpa using hi
    unfold csOf
    rw [if_pos h4]
    show (looks k t.2.name).2.2 ≤ _
    rw [← hi, l3, l2]
    exact Nat.le_refl _
  · unfold csOf
    rw [if_neg h4]
    show (looks k []).2.2 ≤ _
    rw [looks_nil hk]
    exact Nat.zero_le _
end Go.Proofs.Ytpdmkhnonbbhnaa

namespace Go.Proofs.Ytpdmkhnonbbhnaa

theorem cases_sub {k : Kn} {fs : List Fam} {a b : List Sp} (hk : KnOk k fs) (hs : a.Sublist b) (hb : together k b = true) : together k a = true ∧ ∀ c ∈ casesOf k a, c ∈ casesOf k b := by
  have ha : together k a = true := together_of fun s hs' t ht => together_all hb s (hs.subset hs') t (hs.subset ht)
  refine ⟨ha, fun c hc => ?_⟩
  have h1 := ((casesOf_facts k a (apart_of hk ha)).2 c).1 hc
  exact ((casesOf_facts k b (apart_of hk hb)).2 c).2 ((hs.map _).subset h1)
theorem spotsOf_sub {n : Nat} {a b : List (Nat × List Pt)} (h : a.Sublist b) : (spotsOf n a).Sublist (spotsOf n b) := h.filterMap _
theorem mem_colsOf {around : List Nat} {width : Nat} {lines : List (Nat × List Pt)} {c : Col} : c ∈ colsOf around width lines ↔ ∃ n, n < width ∧ spotsOf n lines ≠ [] ∧ c = (around, n, spotsOf n lines) := by
  unfold colsOf
  rw [List.mem_filterMap]
  constructor
  · rintro ⟨n, h1, h2⟩
    by_cases e : (spotsOf n lines).isEmpty = true
    · rw [if_pos e] at h2; cases h2
    · rw [if_neg e] at h2
      exact ⟨n, List.mem_range.1 h1, by simpa using e, (Option.some.inj h2).symm⟩
  · rintro ⟨n, h1, h2, rfl⟩
    exact ⟨n, List.mem_range.2 h1, by rw [if_neg (by simpa using h2)]⟩
theorem right_sub {k : Kn} {fs : List Fam} (hk : KnOk k fs) : ∀ (d : Nat) (a b : List Sp), a.Sublist b → rightN k d b = true → rightN k d a = true
  | 0, _, _, _, _ => rfl
  | d + 1, a, b, hs, h => by
    unfold rightN at h ⊢
    rw [Bool.and_eq_true] at h ⊢
    obtain ⟨h1, h2⟩ := cases_sub hk hs h.1
    refine ⟨h1, ?_⟩
    rw [List.all_eq_true] at h ⊢
    intro c hc
    have h3 := h.2 c (h2 c hc)
    rw [List.all_eq_true] at h3 ⊢
    intro col hcol
    obtain ⟨n, e1, e2, rfl⟩ := mem_colsOf.1 hcol
    have hsub : (spotsOf n (linesOf (a.filter (isOf c)))).Sublist (spotsOf n (linesOf (b.filter (isOf c)))) := spotsOf_sub ((hs.filter _).map _)
    refine right_sub hk d _ _ hsub (h3 ([], n, _) (mem_colsOf.2 ⟨n, e1, fun e => ?_, rfl⟩))
    rw [e] at hsub
    exact e2 (List.sublist_nil.1 hsub)
/-- Spots that are right, in all that lies within them. -/
def Rgt (k : Kn) (spots : List Sp) : Prop := ∃ d, (∀ s ∈ spots, s.2.1 ≤ d) ∧ rightN k d spots = true
theorem Rgt.sub {k : Kn} {fs : List Fam} {a b : List Sp} (hk : KnOk k fs) (h : Rgt k b) (hs : a.Sublist b) : Rgt k a := by
  obtain ⟨d, h1, h2⟩ := h
  exact ⟨d, fun s hs' => h1 s (hs.subset hs'), right_sub hk d a b hs h2⟩
theorem Rgt.together {k : Kn} {spots : List Sp} (h : Rgt k spots) : together k spots = true := by
  obtain ⟨d, h1, h2⟩ := h
  cases d with
  | zero =>
    cases spots with
    | nil => rfl
    | cons s r => have := h1 s (by simp); have := s.2.depth_pos; omega
  | succ d =>
    unfold rightN at h2
    rw [Bool.and_eq_true] at h2
    exact h2.1
theorem spotsOf_mem {n : Nat} {spots : List Sp} {s : Sp} (h : s ∈ spotsOf n (linesOf spots)) : ∃ t ∈ spots, t.1 = s.1 ∧ s.2 ∈ t.2.kids ∧ wild s.2 = false := by
  unfold spotsOf linesOf at h
  rw [List.mem_filterMap] at h
  obtain ⟨l, h1, h2⟩ := h
  obtain ⟨t, ht, rfl⟩ := List.mem_map.1 h1
  dsimp only at h2
  cases hg : t.2.kids[n]? with
  | none => rw [hg] at h2; cases h2
  | some p =>
    rw [hg] at h2
    dsimp only at h2
    by_cases hw : wild p = true
    · rw [if_pos hw] at h2; cases h2
    · rw [if_neg hw] at h2
      have e := Option.some.inj h2
      subst e
      exact ⟨t, ht, rfl, List.mem_of_getElem? hg, by simpa using hw⟩
theorem Rgt.within {k : Kn} {spots : List Sp} (h : Rgt k spots) {c : Cs} (hc : c ∈ casesOf k spots) {path : List Nat} {col : Col} (hcol : col ∈ Ytpdmkhnonbbhnaa.within k (spots.filter (isOf c)) c.1 path) : Rgt k col.2.2 := by
  obtain ⟨d, h1, h2⟩ := h
  obtain ⟨n, e1, e2, rfl⟩ := mem_colsOf.1 hcol
  cases d with
  | zero =>
    cases spots with
    | nil => simp [casesOf] at hc
    | cons s r => have := h1 s (by simp); have := s.2.depth_pos; omega
  | succ d =>
    unfold rightN at h2
    rw [Bool.and_eq_true, List.all_eq_true] at h2
    have h3 := h2.2 c hc
    rw [List.all_eq_true] at h3
    refine ⟨d, fun s hs => ?_, h3 ([], n, _) (mem_colsOf.2 ⟨n, e1, e2, rfl⟩)⟩
    obtain ⟨t, ht, _, hk, _⟩ := spotsOf_mem hs
    have := Pt.kids_lt hk
    have := h1 t (List.mem_filter.1 ht).1
    omega
theorem spotsOf_rows {n : Nat} : ∀ (spots : List Sp), ((spotsOf n (linesOf spots)).map (·.1)).Sublist (spots.map (·.1))
  | [] => by simp [spotsOf, linesOf]
  | s :: r => by
    have ih := spotsOf_rows (n := n) r
    unfold spotsOf linesOf at ih ⊢
    rw [List.map_cons, List.filterMap_cons, List.map_cons]
    dsimp only at ih ⊢
    cases hg : s.2.kids[n]? with
    | none => exact ih.cons _
    | some p =>
      dsimp only
      by_cases hw : wild p = true
      · rw [if_pos hw]; exact ih.cons _
      · rw [if_neg hw]; exact ih.cons_cons _
/-- What holds of each column on the way. -/
structure Good (k : Kn) (m : Nat) (c : Col) : Prop where
  rise : (c.2.2.map (·.1)).Pairwise (· < ·)
  rows : ∀ s ∈ c.2.2, s.1 < 200
  right : Rgt k c.2.2
  path : c.1.length ≤ m
theorem rise_from : ∀ (l : List Nat) (lo n : Nat), l.Pairwise (· < ·) → (∀ x ∈ l, lo ≤ x ∧ x < n) → l.length ≤ n - lo
  | [], _, _, _, _ => by simp
  | a :: r, lo, n, h, hb => by
    rw [List.pairwise_cons] at h
    have h1 := rise_from r (a + 1) n h.2 (fun x hx => ⟨h.1 x hx, (hb x (List.mem_cons_of_mem _ hx)).2⟩)
    have h2 := hb a (by simp)
    rw [List.length_cons]
    omega
theorem rise_len {l : List Nat} (h : l.Pairwise (· < ·)) (n : Nat) (hb : ∀ x ∈ l, x < n) : l.length ≤ n := rise_from l 0 n h fun x hx => ⟨Nat.zero_le _, hb x hx⟩
theorem Good.len {k : Kn} {m : Nat} {c : Col} (h : Good k m c) : c.2.2.length ≤ 200 := by
  have := rise_len h.rise 200 (fun x hx => by obtain ⟨s, hs, rfl⟩ := List.mem_map.1 hx; exact h.rows s hs)
  simpa using this
theorem Good.up {k : Kn} {m m' : Nat} {c : Col} (h : Good k m c) (hm : m ≤ m') : Good k m' c := ⟨h.rise, h.rows, h.right, Nat.le_trans h.path hm⟩
/-- The columns within one. -/
theorem Good.within {k : Kn} {fs : List Fam} {m : Nat} {c : Col} (hk : KnOk k fs) (h : Good k m c) (rows : List Nat) {x : Cs} (hx : x ∈ casesOf k (ofRows c.2.2 rows)) {col : Col} (hcol : col ∈ Ytpdmkhnonbbhnaa.within k ((ofRows c.2.2 rows).filter (isOf x)) x.1 (c.1 ++ [c.2.1])) : Good k (m + 1) col := by
  have hsub : (ofRows c.2.2 rows).Sublist c.2.2 := List.filter_sublist
  have hr := (h.right.sub hk hsub).within hx hcol
  obtain ⟨n, e1, e2, rfl⟩ := mem_colsOf.1 hcol
  have hrows := spotsOf_rows (n := n) ((ofRows c.2.2 rows).filter (isOf x))
  have hrows2 := hrows.trans ((List.filter_sublist.trans hsub).map (·.1))
  refine ⟨h.rise.sublist hrows2, fun s hs => ?_, hr, ?_⟩
  · obtain ⟨t, ht, e, _⟩ := spotsOf_mem hs
    rw [← e]
    exact h.rows t (hsub.subset (List.mem_filter.1 ht).1)
  · have := h.path
    simp
    omega
end Go.Proofs.Ytpdmkhnonbbhnaa

namespace Go.Proofs.Ytpdmkhnonbbhnaa
open Go.RowKit Go.Maps

set_option maxHeartbeats 4000000 in
set_option maxRecDepth 10000 in
theorem has_any {w : World} {S : Nat → Prop} (cb Rb g o n cap r : Nat) (c : Col) (hc : ColP w S cb c) (hb : w.cell? ⟨Rb, 0, none⟩ = some (.slice (some ⟨g, o, none⟩) n cap)) (hr : w.cell? ⟨g, o, none⟩ = some (.int .i64 r)) (hn : 0 < n) (hlt : r < 200) :
    Calls Try.prog 34 #[.pointer (some ⟨cb, 0, none⟩), .pointer (some ⟨Rb, 0, none⟩)] w fun e w' => e = .returned (.bool (hasRow r c)) ∧ ∃ q, w' = w.drewN q := by
  obtain ⟨_, _, _, _, hh⟩ := hc
  have hh2 := hh r hlt
  clear hh
  have n1 : (0 : Int) < (n : Int) := by omega
  have r1 : (0 : Int) ≤ (r : Int) := by omega
  have r2 : (r : Int) < 200 := by omega
  generalize hasRow r c = R at hh2 ⊢
  go_enter Try.func34, Try.ntmps34
  go_wp2
  go_quiet (fail)
  all_goals
    go_wp2
    go_ret
    exact ⟨rfl, _, rfl⟩
def idx (o : Option Nat) : Int := match o with
  | some i => i
  | none => -1
set_option maxHeartbeats 4000000 in
set_option maxRecDepth 10000 in
theorem index_any {w : World} {S : Nat → Prop} (cv : Value) (cols : List Col) (Rb g o n cap r : Nat) (hc : Cols w S cv cols) (hb : w.cell? ⟨Rb, 0, none⟩ = some (.slice (some ⟨g, o, none⟩) n cap)) (hr : w.cell? ⟨g, o, none⟩ = some (.int .i64 r)) (hn : 0 < n) (hlt : r < 200) (hl : cols.length ≤ 100000) :
    Calls Try.prog 33 #[cv, .func (.func 34) #[] #[.pointer (some ⟨Rb, 0, none⟩)]] w fun e w' => e = .returned (.int .i64 (idx (cols.findIdx? (hasRow r)))) ∧ ∃ q, w' = w.drewN q := by
  obtain ⟨ad, cc, rfl, hcol⟩ := RowP.open hc
  have HC : Hid (cols ≠ [] → ∃ g o, ad = some ⟨g, o, none⟩ ∧ cols.length ≤ cc ∧ ∀ j (h : j < cols.length), S g ∧ ∃ cb, w.cell? ⟨g, o + j * 1, none⟩ = some (.pointer (some ⟨cb, 0, none⟩)) ∧ ColP w S cb cols[j]) := hcol
  have HF : Hid (∀ i (h : i < cols.length), (∀ j, j < i → ∀ (hj : j < cols.length), hasRow r cols[j] = false) → hasRow r cols[i] = true → cols.findIdx? (hasRow r) = some i) := fun i h h1 h2 => by
    rw [List.findIdx?_eq_some_iff_getElem]
    exact ⟨h, h2, fun j hj => by simpa using h1 j hj (by omega)⟩
  have HN : Hid ((∀ j (hj : j < cols.length), hasRow r cols[j] = false) → cols.findIdx? (hasRow r) = none) := fun h => by
    rw [List.findIdx?_eq_none_iff]
    intro x hx
    obtain ⟨j, hj, rfl⟩ := List.getElem_of_mem hx
    exact h j hj
  have HA : Hid (w.cell? ⟨Rb, 0, none⟩ = some (.slice (some ⟨g, o, none⟩) n cap) ∧ w.cell? ⟨g, o, none⟩ = some (.int .i64 r)) := ⟨hb, hr⟩
  clear hc hcol hb hr
  go_enter Try.func33, Try.ntmps33
  go_wp2
  go_loopw [8] (fun iv wr => ∃ (i q : Nat), i ≤ cols.length ∧ iv = .int .i64 i ∧ wr = w.drewN q ∧ Hid (∀ j, j < i → ∀ (hj : j < cols.length), hasRow r cols[j] = false)) (fun iv _ => cols.length - (intOf iv).toNat)
  case atStart => exact ⟨0, 0, by omega, by go_num, rfl, fun j h => by omega⟩
  case round =>
    obtain ⟨i, q, hi, rfl, rfl, HJ⟩ := hrel
    by_cases hil : i < cols.length
    · obtain ⟨gg, oo, rfl, hcc, hj⟩ := HC.out (fun e => by rw [e] at hil; simp at hil)
      obtain ⟨_, cb, p, hcol⟩ := hj i hil
      rw [Nat.mul_one] at p
      have p : (w.drewN q).cell? ⟨gg, oo + i, none⟩ = some (.pointer (some ⟨cb, 0, none⟩)) := p
      have CH := has_any (w := w.drewN q) cb Rb g o n cap r cols[i] (hcol.on fun _ _ => rfl) HA.out.1 HA.out.2 hn hlt
      have i1 : (0 : Int) ≤ (i : Int) := by omega
      have i2 : (i : Int) < (cols.length : Int) := by omega
      have HT : Hid (hasRow r cols[i] = true → cols.findIdx? (hasRow r) = some i) := HF.out i hil HJ.out
      have HE : Hid (hasRow r cols[i] = false → ∀ j, j < i + 1 → ∀ (hj : j < cols.length), hasRow r cols[j] = false) := fun h j hj hjl => by
        by_cases e : j = i
        · subst e; exact h
        · exact HJ.out j (by omega) hjl
      generalize hasRow r cols[i] = R at *
      clear hj hcol
      cases R with
      | true =>
        have HT2 : Hid (cols.findIdx? (hasRow r) = some i) := HT.out rfl
        go_wp2_with (go_at_call 34; (with_reducible refine Calls.mono CH ?_); rintro e' w1 ⟨rfl, q1, rfl⟩)
        go_ret
        exact ⟨by rw [HT2.out]; rfl, q + q1, by simp [World.drewN]⟩
      | false =>
        have HE2 : Hid (∀ j, j < i + 1 → ∀ (hj : j < cols.length), hasRow r cols[j] = false) := HE.out rfl
        go_wp2_with (go_at_call 34; (with_reducible refine Calls.mono CH ?_); rintro e' w1 ⟨rfl, q1, rfl⟩)
        go_roundw
        case rel => exact ⟨i + 1, q + q1, hil, by go_num, by simp [World.drewN], HE2.out⟩
        case measure => simp [intOf]; omega
    · have HT2 : Hid (cols.findIdx? (hasRow r) = none) := HN.out (fun j hj => HJ.out j (by omega) hj)
      go_wp2
      go_ret
      exact ⟨by rw [HT2.out]; rfl, q, rfl⟩
end Go.Proofs.Ytpdmkhnonbbhnaa

namespace Go.Proofs.Ytpdmkhnonbbhnaa
open Go.RowKit Go.Maps

/-- The value x is the tree t; the blocks that it leads to are of S. -/
def TrV (w : World) (S : Nat → Prop) : (f : Nat) → Value → Tr f → Prop
  | 0, x, _ => x = .agg #[.int .i64 0, .int .i64 0, .slice none 0 0, .slice none 0 0, .slice none 0 0]
  | f + 1, x, t => ∃ pa pc ca cc ea ec, x = .agg #[.int .i64 t.1.1, .int .i64 t.1.2.1, .slice pa t.1.2.2.length pc, .slice ca t.2.1.length cc, .slice ea t.2.2.length ec] ∧ Nats w S (.slice pa t.1.2.2.length pc) t.1.2.2 ∧
    RowP 7 (fun g o (c : Cs × Tr f) => S g ∧ w.cell? ⟨g, o, none⟩ = some (.string ⟨c.1.1.toArray⟩) ∧ w.cell? ⟨g, o + 1, none⟩ = some (.int .i64 c.1.2) ∧ c.1.1.length < 140737488355328 ∧ ∃ v0 v1 v2 v3 v4, w.cell? ⟨g, o + 2, none⟩ = some v0 ∧ w.cell? ⟨g, o + 3, none⟩ = some v1 ∧ w.cell? ⟨g, o + 4, none⟩ = some v2 ∧ w.cell? ⟨g, o + 5, none⟩ = some v3 ∧ w.cell? ⟨g, o + 6, none⟩ = some v4 ∧ TrV w S f (.agg #[v0, v1, v2, v3, v4]) c.2) (.slice ca t.2.1.length cc) t.2.1 ∧
    RowP 5 (fun g o (e : Tr f) => S g ∧ ∃ v0 v1 v2 v3 v4, w.cell? ⟨g, o, none⟩ = some v0 ∧ w.cell? ⟨g, o + 1, none⟩ = some v1 ∧ w.cell? ⟨g, o + 2, none⟩ = some v2 ∧ w.cell? ⟨g, o + 3, none⟩ = some v3 ∧ w.cell? ⟨g, o + 4, none⟩ = some v4 ∧ TrV w S f (.agg #[v0, v1, v2, v3, v4]) e) (.slice ea t.2.2.length ec) t.2.2
theorem TrV.below {w w' : World} {S S' : Nat → Prop} (hb : Keeps S w w') (hS : ∀ b, S b → S' b) : ∀ (f : Nat) (x : Value) (t : Tr f), TrV w S f x t → TrV w' S' f x t
  | 0, _, _, h => h
  | f + 1, _, _, ⟨pa, pc, ca, cc, ea, ec, h1, h2, h3, h4⟩ => by
    refine ⟨pa, pc, ca, cc, ea, ec, h1, (h2.on hb).up hS, h3.mono fun g o c _ => ?_, h4.mono fun g o e _ => ?_⟩
    · rintro ⟨k0, k1, k2, k3, v0, v1, v2, v3, v4, c0, c1, c2, c3, c4, ht⟩
      exact ⟨hS _ k0, (hb.cell (p := ⟨g, o, none⟩) k0).trans k1, (hb.cell (p := ⟨g, o + 1, none⟩) k0).trans k2, k3, v0, v1, v2, v3, v4, (hb.cell (p := ⟨g, o + 2, none⟩) k0).trans c0, (hb.cell (p := ⟨g, o + 3, none⟩) k0).trans c1, (hb.cell (p := ⟨g, o + 4, none⟩) k0).trans c2, (hb.cell (p := ⟨g, o + 5, none⟩) k0).trans c3, (hb.cell (p := ⟨g, o + 6, none⟩) k0).trans c4, TrV.below hb hS f _ _ ht⟩
    · rintro ⟨k0, v0, v1, v2, v3, v4, c0, c1, c2, c3, c4, ht⟩
      exact ⟨hS _ k0, v0, v1, v2, v3, v4, (hb.cell (p := ⟨g, o, none⟩) k0).trans c0, (hb.cell (p := ⟨g, o + 1, none⟩) k0).trans c1, (hb.cell (p := ⟨g, o + 2, none⟩) k0).trans c2, (hb.cell (p := ⟨g, o + 3, none⟩) k0).trans c3, (hb.cell (p := ⟨g, o + 4, none⟩) k0).trans c4, TrV.below hb hS f _ _ ht⟩
/-- A tree's value has five parts of one cell. -/
theorem TrV.parts {w : World} {S : Nat → Prop} : ∀ {f : Nat} {x : Value} {t : Tr f}, TrV w S f x t → ∃ a b pa pl pc ca cl cc ea el ec, x = .agg #[.int .i64 a, .int .i64 b, .slice pa pl pc, .slice ca cl cc, .slice ea el ec]
  | 0, _, _, h => ⟨0, 0, none, 0, 0, none, 0, 0, none, 0, 0, h⟩
  | _ + 1, _, _, ⟨pa, pc, ca, cc, ea, ec, h1, _⟩ => ⟨_, _, pa, _, pc, ca, _, cc, ea, _, ec, h1⟩
theorem trZero_at (w : World) (S : Nat → Prop) : ∀ f, TrV w S f (.agg #[.int .i64 0, .int .i64 0, .slice none 0 0, .slice none 0 0, .slice none 0 0]) (trZero f)
  | 0 => rfl
  | _ + 1 => ⟨none, 0, none, 0, none, 0, rfl, .inl ⟨rfl, _, _, rfl⟩, .inl ⟨rfl, _, _, rfl⟩, .inl ⟨rfl, _, _, rfl⟩⟩
/-- What a call of tree is asked, and what it does: m is the maker's block, n the nodes that were counted. -/
structure TreeIn (k : Kn) (fs : List Fam) (fa : Option Addr) (fc b m : Nat) (f n : Nat) (cols : List Col) (rows : List Nat) (cv rv : Value) (S : Nat → Prop) (w : World) : Prop where
  fuel : 5001 ≤ n + f ∧ f ≤ 5001
  cnt : n ≤ 1010202
  blk : w.heap[m]? = some (.cells #[.slice fa fs.length fc, .map (some b), .int .i64 n] 65 (0, 0))
  set : ∀ x, S x → x < w.heap.size ∧ x ≠ m
  map : MapK w b k
  mapne : b ≠ m
  fams : Fams w S (.slice fa fs.length fc) fs
  hcols : Cols w S cv cols
  hrows : Nats w S rv rows
  good : ∀ c ∈ cols, Good k (5002 - f) c
  num : cols.length ≤ 16 + 8 * (5001 - f)
  rise : rows.Pairwise (· < ·)
  low : ∀ r ∈ rows, r < 200
def TreeC (k : Kn) (fs : List Fam) (fa : Option Addr) (fc b m : Nat) (f : Nat) : Prop := ∀ (n : Nat) (cols : List Col) (rows : List Nat) (cv rv : Value) (S : Nat → Prop) (w : World), TreeIn k fs fa fc b m f n cols rows cv rv S w →
  Calls Try.prog 20 #[.pointer (some ⟨m, 0, none⟩), cv, rv] w fun r w' => Kx m w w' ∧ w'.heap[m]? = some (.cells #[.slice fa fs.length fc, .map (some b), .int .i64 (treeP k fs f n cols rows).2] 65 (0, 0)) ∧ ((5000 ≤ n → (treeP k fs f n cols rows).2 = n + 1) ∧ (n < 5000 → (treeP k fs f n cols rows).2 ≤ 5001 + 201 * f)) ∧
    ∃ x, r = .returned x ∧ TrV w' (fun b => w.heap.size ≤ b ∧ b < w'.heap.size) f x (treeP k fs f n cols rows).1
theorem eachP_snoc {α β : Type} (step : α → Nat → β × Nat) : ∀ (l : List α) (x : α) (n : Nat), eachP step (l ++ [x]) n = ((eachP step l n).1 ++ [(step x (eachP step l n).2).1], (step x (eachP step l n).2).2)
  | [], _, _ => rfl
  | a :: r, x, n => by
    rw [List.cons_append]
    unfold eachP
    rw [eachP_snoc step r x]
    rfl
theorem eachP_len {α β : Type} (step : α → Nat → β × Nat) : ∀ (l : List α) (n : Nat), (eachP step l n).1.length = l.length
  | [], _ => rfl
  | a :: r, n => by
    unfold eachP
    rw [List.length_cons, List.length_cons, eachP_len step r]
/-- What stands for one case. -/
def stepP (k : Kn) (fs : List Fam) (f : Nat) (cols : List Col) (rows : List Nat) (ax : Nat) (spots : List Sp) (path : List Nat) (x : Cs) (n : Nat) : Tr f × Nat :=
  treeP k fs f n (cols.take ax ++ within k (spots.filter (isOf x)) x.1 path ++ cols.drop (ax + 1)) (without rows (spots.filter fun s => !isOf x s))
def branchP (k : Kn) (fs : List Fam) (f n : Nat) (cols : List Col) (rows : List Nat) (ax : Nat) (c : Col) : Tr (f + 1) × Nat :=
  let spots := ofRows c.2.2 rows
  let path := c.1 ++ [c.2.1]
  let cs := casesOf k spots
  let a := eachP (stepP k fs f cols rows ax spots path) cs n
  if isFull k fs cs then (((3, 0, path), cs.zip a.1, []), a.2)
  else
    let e := treeP k fs f a.2 (cols.take ax ++ cols.drop (ax + 1)) (without rows spots)
    (((3, 0, path), cs.zip a.1, [e.1]), e.2)
theorem treeP_branch (k : Kn) (fs : List Fam) (f n : Nat) (cols : List Col) (r : Nat) (rows : List Nat) (ax : Nat) (h : ax < cols.length) (hn : n < 5000) (hi : cols.findIdx? (hasRow r) = some ax) : treeP k fs (f + 1) n cols (r :: rows) = branchP k fs f (n + 1) cols (r :: rows) ax cols[ax] := by
  unfold treeP
  rw [if_neg (by omega)]
  simp only [hi, List.getElem?_eq_getElem h]
  rfl
theorem treeP_big (k : Kn) (fs : List Fam) (f n : Nat) (cols : List Col) (rows : List Nat) (hn : 5000 ≤ n) : treeP k fs f n cols rows = (trZero f, n + 1) := by
  cases f with
  | zero => rfl
  | succ f =>
    unfold treeP
    rw [if_pos hn]
theorem treeP_none (k : Kn) (fs : List Fam) (f n : Nat) (cols : List Col) (hn : n < 5000) : treeP k fs (f + 1) n cols [] = (((1, 0, []), [], []), n + 1) := by
  unfold treeP
  rw [if_neg (by omega)]
  rfl
theorem treeP_row (k : Kn) (fs : List Fam) (f n : Nat) (cols : List Col) (r : Nat) (rows : List Nat) (hn : n < 5000) (hi : cols.findIdx? (hasRow r) = none) : treeP k fs (f + 1) n cols (r :: rows) = (((2, r, []), [], []), n + 1) := by
  unfold treeP
  rw [if_neg (by omega)]
  simp only [hi]
  rfl
end Go.Proofs.Ytpdmkhnonbbhnaa

namespace Go.Proofs.Ytpdmkhnonbbhnaa

theorem spots_lines {n : Nat} : ∀ (lines : List (Nat × List Pt)), ((spotsOf n lines).map (·.1)).Sublist (lines.map (·.1)) ∧ ∀ s ∈ spotsOf n lines, ∃ l ∈ lines, s.1 = l.1 ∧ s.2 ∈ l.2
  | [] => ⟨List.Sublist.refl _, fun s h => by simp [spotsOf] at h⟩
  | a :: r => by
    obtain ⟨h1, h2⟩ := spots_lines (n := n) r
    cases hp : a.2[n]? with
    | none =>
      have hx : spotsOf n (a :: r) = spotsOf n r := by simp [spotsOf, hp]
      rw [hx]
      exact ⟨h1.cons _, fun s hs => by obtain ⟨l, hl, e⟩ := h2 s hs; exact ⟨l, List.mem_cons_of_mem _ hl, e⟩⟩
    | some p =>
      by_cases hw : wild p = true
      · have hx : spotsOf n (a :: r) = spotsOf n r := by simp [spotsOf, hp, hw]
        rw [hx]
        exact ⟨h1.cons _, fun s hs => by obtain ⟨l, hl, e⟩ := h2 s hs; exact ⟨l, List.mem_cons_of_mem _ hl, e⟩⟩
      · have hx : spotsOf n (a :: r) = (a.1, p) :: spotsOf n r := by simp [spotsOf, hp, hw]
        rw [hx]
        refine ⟨h1.cons_cons _, fun s hs => ?_⟩
        rcases List.mem_cons.1 hs with rfl | hs
        · exact ⟨a, by simp, rfl, List.mem_of_getElem? hp⟩
        · obtain ⟨l, hl, e⟩ := h2 s hs
          exact ⟨l, List.mem_cons_of_mem _ hl, e⟩
theorem le_sum_of_mem : ∀ (l : List Nat) (x : Nat), x ∈ l → x ≤ l.sum
  | a :: r, x, h => by
    rw [List.sum_cons]
    rcases List.mem_cons.1 h with rfl | h
    · omega
    · have := le_sum_of_mem r x h
      omega
theorem cols_good {k : Kn} {rows : List (List Pt)} (hl : rows.length ≤ 200) {width : Nat} {c : Col} (hc : c ∈ colsOf [] width ((List.range rows.length).zip rows)) (hr : rightN k (rows.flatMap (·.map (·.1))).sum c.2.2 = true) (m : Nat) : Good k m c := by
  obtain ⟨n, _, _, rfl⟩ := mem_colsOf.1 hc
  obtain ⟨h1, h2⟩ := spots_lines (n := n) ((List.range rows.length).zip rows)
  have hz : ((List.range rows.length).zip rows).map (·.1) = List.range rows.length := List.map_fst_zip (by simp)
  rw [hz] at h1
  refine ⟨List.pairwise_lt_range.sublist h1, fun s hs => ?_, ⟨_, fun s hs => ?_, hr⟩, Nat.zero_le _⟩
  · obtain ⟨l, hl2, e1, _⟩ := h2 s hs
    have := List.mem_range.1 (List.of_mem_zip hl2).1
    rw [e1]
    omega
  · obtain ⟨l, hl2, _, e2⟩ := h2 s hs
    exact le_sum_of_mem _ _ (List.mem_flatMap.2 ⟨l.2, (List.of_mem_zip hl2).2, List.mem_map.2 ⟨s.2, e2, rfl⟩⟩)
theorem colsOf_len (around : List Nat) (width : Nat) (lines : List (Nat × List Pt)) : (colsOf around width lines).length ≤ width := by
  unfold colsOf
  refine Nat.le_trans (List.length_filterMap_le _ _) ?_
  simp
end Go.Proofs.Ytpdmkhnonbbhnaa

namespace Go.Proofs.Ytpdmkhnonbbhnaa

/-- What holds while families are learnt: the family i is at its place p. -/
structure KnIn (i p : Nat) (k : Kn) : Prop where
  place : ∀ e ∈ k, ∀ e' ∈ k, e.2.1 = e'.2.1 → e.2.2.1 = e'.2.2.1 → e.1 = e'.1
  name : ∀ e ∈ k, e.1 ≠ []
  fields : ∀ e ∈ k, e.2.2.2 ≤ 8
  low : ∀ e ∈ k, e.2.1 < i ∨ (e.2.1 = i ∧ e.2.2.1 < p)
theorem KnIn.put {i p : Nat} {k : Kn} (h : KnIn i p k) {n : Str} {x : Int} (hn : n ≠ []) (h0 : 0 ≤ x) (h8 : x ≤ 8) : KnIn i (p + 1) (k ++ [(n, i, p, x.toNat)]) := by
  refine ⟨fun e he e' he' h1 h2 => ?_, fun e he => ?_, fun e he => ?_, fun e he => ?_⟩
  · rcases List.mem_append.1 he with he | he
    · rcases List.mem_append.1 he' with he' | he'
      · exact h.place e he e' he' h1 h2
      · obtain rfl := List.mem_singleton.1 he'
        rcases h.low e he with hl | hl
        · exact absurd h1 (Nat.ne_of_lt hl)
        · exact absurd h2 (Nat.ne_of_lt hl.2)
    · obtain rfl := List.mem_singleton.1 he
      rcases List.mem_append.1 he' with he' | he'
      · rcases h.low e' he' with hl | hl
        · exact absurd h1.symm (Nat.ne_of_lt hl)
        · exact absurd h2.symm (Nat.ne_of_lt hl.2)
      · obtain rfl := List.mem_singleton.1 he'
        rfl
  · rcases List.mem_append.1 he with he | he
    · exact h.name e he
    · obtain rfl := List.mem_singleton.1 he
      exact hn
  · rcases List.mem_append.1 he with he | he
    · exact h.fields e he
    · obtain rfl := List.mem_singleton.1 he
      show x.toNat ≤ 8
      omega
  · rcases List.mem_append.1 he with he | he
    · rcases h.low e he with hl | hl
      · exact .inl hl
      · exact .inr ⟨hl.1, Nat.lt_succ_of_lt hl.2⟩
    · obtain rfl := List.mem_singleton.1 he
      exact .inr ⟨rfl, Nat.lt_succ_self _⟩
theorem knowC_in {i : Nat} : ∀ (ns : List Str) (xs : List Int) (p : Nat) (k k' : Kn), KnIn i p k → knowC i k p ns xs = some k' → ∃ p', KnIn i p' k'
  | [], _, p, k, k', h, e => by
    unfold knowC at e
    obtain rfl := Option.some.inj e
    exact ⟨p, h⟩
  | _ :: _, [], _, _, _, _, e => by
    unfold knowC at e
    cases e
  | n :: ns, x :: xs, p, k, k', h, e => by
    unfold knowC at e
    by_cases hc : n = [] ∨ (∃ e ∈ k, e.1 = n) ∨ x < 0 ∨ 8 < x
    · rw [if_pos hc] at e
      cases e
    · rw [if_neg hc] at e
      have h1 : n ≠ [] := fun h => hc (.inl h)
      have h2 : ¬ x < 0 := fun h => hc (.inr (.inr (.inl h)))
      have h3 : ¬ 8 < x := fun h => hc (.inr (.inr (.inr h)))
      exact knowC_in ns xs (p + 1) _ k' (h.put h1 (by omega) (by omega)) e
theorem knowF_in : ∀ (fs : List Fam) (i : Nat) (k k' : Kn), KnIn i 0 k → knowF i k fs = some k' → KnIn (i + fs.length) 0 k'
  | [], i, k, k', h, e => by
    unfold knowF at e
    obtain rfl := Option.some.inj e
    exact h
  | f :: fs, i, k, k', h, e => by
    unfold knowF at e
    by_cases hc : f.1.length = 0 ∨ 24 < f.1.length ∨ f.2.length ≠ f.1.length
    · rw [if_pos hc] at e
      cases e
    · rw [if_neg hc] at e
      cases hk : knowC i k 0 f.1 f.2 with
      | none => rw [hk] at e; cases e
      | some k1 =>
        rw [hk] at e
        obtain ⟨p', h1⟩ := knowC_in f.1 f.2 0 k k1 h hk
        have h2 : KnIn (i + 1) 0 k1 := ⟨h1.place, h1.name, h1.fields, fun e he => .inl (by rcases h1.low e he with hl | hl <;> omega)⟩
        have h3 := knowF_in fs (i + 1) k1 k' h2 e
        rw [List.length_cons, show i + (fs.length + 1) = i + 1 + fs.length by omega]
        exact h3
theorem knowF_ok {fs : List Fam} {k : Kn} (h : knowF 0 [] fs = some k) : KnOk k fs := by
  have h1 := knowF_in fs 0 [] k ⟨fun e he => by simp at he, fun e he => by simp at he, fun e he => by simp at he, fun e he => by simp at he⟩ h
  refine ⟨h1.place, h1.name, h1.fields, fun e he => ?_⟩
  rcases h1.low e he with hl | hl
  · omega
  · omega
end Go.Proofs.Ytpdmkhnonbbhnaa
