/- Columns that are right: what is asked of them, and that it stays. Columns that are right stay so: for some of their spots, and for what lies within. The columns of rows that are right are good. What families say, if they are right: KnOk. -/
import Derived.Test.YtpdmkhnonbbhnaaMgx
namespace Go.Proofs.Ytpdmkhnonbbhnaa

/-- What the families say: a place in a family has one name; no name is empty; fields at most eight; families are there. -/
structure KnOk (k : Kn) (fs : List Fam) : Prop where
  place : ∀ e ∈ k, ∀ e' ∈ k, e.2.1 = e'.2.1 → e.2.2.1 = e'.2.2.1 → e.1 = e'.1
  name : ∀ e ∈ k, e.1 ≠ []
  fields : ∀ e ∈ k, e.2.2.2 ≤ 8
  family : ∀ e ∈ k, e.2.1 < fs.length
theorem look_mem {k : Kn} {n : Str} {c : Nat × Nat × Nat} (h : look k n = some c) : (n, c) ∈ k := by
  unfold look at h
  rw [Option.map_eq_some_iff] at h
  obtain ⟨e, h1, h2⟩ := h
  have h3 := List.find?_some h1
  have h4 := List.mem_of_find?_eq_some h1
  have : e.1 = n := by simpa using h3
  rw [← this, ← h2]
  exact h4
theorem looks_nil {k : Kn} {fs : List Fam} (h : KnOk k fs) : looks k [] = (0, 0, 0) := by
  unfold looks
  cases hl : look k [] with
  | none => rfl
  | some c => exact absurd rfl (h.name _ (look_mem hl))
theorem looks_fields {k : Kn} {fs : List Fam} (h : KnOk k fs) (n : Str) : (looks k n).2.2 ≤ 8 := by
  unfold looks
  cases hl : look k n with
  | none => simp
  | some c => exact h.fields _ (look_mem hl)
theorem cnd_facts {k : Kn} {f s : Pt} (h : cnd k f s = true) : s.kind = f.kind ∧ mayBe k s = true ∧ (f.kind = 4 → (looks k s.name).1 = (looks k f.name).1) := by
  unfold cnd at h
  simp only [Bool.and_eq_true, Bool.or_eq_true, beq_iff_eq, bne_iff_ne] at h
  exact ⟨h.1.1, h.1.2, fun h4 => h.2.resolve_left (fun h5 => h5 h4)⟩
theorem together_all {k : Kn} {spots : List Sp} (h : together k spots = true) : ∀ s ∈ spots, ∀ t ∈ spots, s.2.kind = t.2.kind ∧ mayBe k s.2 = true ∧ (t.2.kind = 4 → (looks k s.2.name).1 = (looks k t.2.name).1) := by
  cases spots with
  | nil => intro s hs; simp at hs
  | cons f r =>
    have h : (f :: r).all (fun s => cnd k f.2 s.2) = true := h
    rw [List.all_eq_true] at h
    intro s hs t ht
    obtain ⟨a1, a2, a3⟩ := cnd_facts (h s hs)
    obtain ⟨b1, b2, b3⟩ := cnd_facts (h t ht)
    exact ⟨a1.trans b1.symm, a2, fun h4 => (a3 (b1.symm.trans h4)).trans (b3 (b1.symm.trans h4)).symm⟩
theorem together_of {k : Kn} {spots : List Sp} (h : ∀ s ∈ spots, ∀ t ∈ spots, s.2.kind = t.2.kind ∧ mayBe k s.2 = true ∧ (t.2.kind = 4 → (looks k s.2.name).1 = (looks k t.2.name).1)) : together k spots = true := by
  cases spots with
  | nil => rfl
  | cons f r =>
    show (f :: r).all (fun s => cnd k f.2 s.2) = true
    rw [List.all_eq_true]
    intro s hs
    obtain ⟨a1, a2, a3⟩ := h s hs f (by simp)
    unfold cnd
    simp only [Bool.and_eq_true, Bool.or_eq_true, beq_iff_eq, bne_iff_ne]
    refine ⟨⟨a1, a2⟩, ?_⟩
    by_cases h4 : f.2.kind = 4
    · exact .inr (a3 h4)
    · exact .inl h4
theorem mayBe_kind {k : Kn} {p : Pt} (h : mayBe k p = true) : p.kind = 3 ∨ p.kind = 4 := by
  unfold mayBe at h
  by_cases h3 : p.kind = 3
  · exact .inl h3
  · rw [if_neg h3] at h
    by_cases h4 : p.kind = 4
    · exact .inr h4
    · rw [if_neg h4] at h; cases h
theorem mayBe_con {k : Kn} {p : Pt} (h : mayBe k p = true) (h4 : p.kind = 4) : ∃ c, look k p.name = some c ∧ p.kids.length = c.2.2 ∧ looks k p.name = c := by
  unfold mayBe at h
  rw [if_neg (by omega), if_pos h4] at h
  unfold looks
  cases hl : look k p.name with
  | none => rw [hl] at h; cases h
  | some c => rw [hl] at h; exact ⟨c, rfl, by simpa using h, rfl⟩
theorem apart_of {k : Kn} {fs : List Fam} {spots : List Sp} (hk : KnOk k fs) (h : together k spots = true) : Apart k (spots.map fun s => csOf s.2) := by
  intro a ha b hb h1 h2
  obtain ⟨s, hs, rfl⟩ := List.mem_map.1 ha
  obtain ⟨t, ht, rfl⟩ := List.mem_map.1 hb
  obtain ⟨e1, e2, e3⟩ := together_all h s hs t ht
  obtain ⟨_, e4, _⟩ := together_all h t ht s hs
  have h1 : ¬ csLt k (csOf s.2) (csOf t.2) = true := by simp [h1]
  have h2 : ¬ csLt k (csOf t.2) (csOf s.2) = true := by simp [h2]
  rw [csLt_iff] at h1 h2
  have hp : (looks k (csOf s.2).1).2.1 = (looks k (csOf t.2).1).2.1 := by omega
  have hn : (csOf s.2).2 = (csOf t.2).2 := by omega
  by_cases h4 : t.2.kind = 4
  · have h4s : s.2.kind = 4 := e1.trans h4
    unfold csOf at hp ⊢
    rw [if_pos h4s, if_pos h4] at hp ⊢
    obtain ⟨c, l1, _, l2⟩ := mayBe_con e2 h4s
    obtain ⟨c', l1', _, l2'⟩ := mayBe_con e4 h4
    have := hk.place _ (look_mem l1) _ (look_mem l1') (by have := e3 h4; rw [l2, l2'] at this; exact this) (by rw [l2, l2'] at hp; exact hp)
    exact congrArg (fun x => (x, (0 : Int))) this
  · have h4s : ¬ s.2.kind = 4 := fun x => h4 (e1.symm.trans x)
    unfold csOf at hn ⊢
    rw [if_neg h4s, if_neg h4] at hn ⊢
    exact congrArg (fun x => (([] : Str), x)) hn
/-- A case of spots that go together is of one of them. -/
theorem case_of {k : Kn} {fs : List Fam} {spots : List Sp} (hk : KnOk k fs) (h : together k spots = true) {c : Cs} (hc : c ∈ casesOf k spots) : ∃ s ∈ spots, c = csOf s.2 ∧ isOf c s = true := by
  obtain ⟨s, hs, rfl⟩ := List.mem_map.1 (((casesOf_facts k spots (apart_of hk h)).2 c).1 hc)
  refine ⟨s, hs, rfl, ?_⟩
  obtain ⟨_, e, _⟩ := together_all h s hs s hs
  unfold isOf csOf
  by_cases h4 : s.2.kind = 4
  · obtain ⟨c', l1, _⟩ := mayBe_con e h4
    have hne : s.2.name ≠ [] := hk.name _ (look_mem l1)
    simp [h4, hne]
  · simp [h4]
/-- Spots of one case: their fields are there. -/
theorem fields_of {k : Kn} {fs : List Fam} {spots : List Sp} (hk : KnOk k fs) (h : together k spots = true) {c : Cs} (hc : c ∈ casesOf k spots) : ∀ s ∈ spots.filter (isOf c), (looks k c.1).2.2 ≤ s.2.kids.length := by
  intro s hs
  rw [List.mem_filter] at hs
  obtain ⟨t, ht, rfl, _⟩ := case_of hk h hc
  obtain ⟨e1, e2, _⟩ := together_all h s hs.1 t ht
  by_cases h4 : t.2.kind = 4
  · have h4s := e1.trans h4
    obtain ⟨c, l1, l2, l3⟩ := mayBe_con e2 h4s
    have hi := hs.2
    unfold isOf csOf at hi
    rw [if_pos h4] at hi
    obtain ⟨_, e2t, _⟩ := together_all h t ht t ht
    obtain ⟨ct, m1, _⟩ := mayBe_con e2t h4
    have hne : t.2.name ≠ [] := hk.name _ (look_mem m1)
    rw [if_neg hne] at hi
    have hi : s.2.name = t.2.name := by simpa using hi
    unfold csOf
    rw [if_pos h4]
    show (looks k t.2.name).2.2 ≤ _
    rw [← hi, l3, l2]
    exact Nat.le_refl _
  · unfold csOf
    rw [if_neg h4]
    show (looks k []).2.2 ≤ _
    rw [looks_nil hk]
    exact Nat.zero_le _
end Go.Proofs.Ytpdmkhnonbbhnaa

namespace Go.Proofs.Ytpdmkhnonbbhnaa

theorem cases_sub {k : Kn} {fs : List Fam} {a b : List Sp} (hk : KnOk k fs) (hs : a.Sublist b) (hb : together k b = true) : together k a = true ∧ ∀ c ∈ casesOf k a, c ∈ casesOf k b := by
  have ha : together k a = true := together_of fun s hs' t ht => together_all hb s (hs.subset hs') t (hs.subset ht)
  refine ⟨ha, fun c hc => ?_⟩
  have h1 := ((casesOf_facts k a (apart_of hk ha)).2 c).1 hc
  exact ((casesOf_facts k b (apart_of hk hb)).2 c).2 ((hs.map _).subset h1)
theorem spotsOf_sub {n : Nat} {a b : List (Nat × List Pt)} (h : a.Sublist b) : (spotsOf n a).Sublist (spotsOf n b) := h.filterMap _
theorem mem_colsOf {around : List Nat} {width : Nat} {lines : List (Nat × List Pt)} {c : Col} : c ∈ colsOf around width lines ↔ ∃ n, n < width ∧ spotsOf n lines ≠ [] ∧ c = (around, n, spotsOf n lines) := by
  unfold colsOf
  rw [List.mem_filterMap]
  constructor
  · rintro ⟨n, h1, h2⟩
    by_cases e : (spotsOf n lines).isEmpty = true
    · rw [if_pos e] at h2; cases h2
    · rw [if_neg e] at h2
      exact ⟨n, List.mem_range.1 h1, by simpa using e, (Option.some.inj h2).symm⟩
  · rintro ⟨n, h1, h2, rfl⟩
    exact ⟨n, List.mem_range.2 h1, by rw [if_neg (by simpa using h2)]⟩
theorem right_sub {k : Kn} {fs : List Fam} (hk : KnOk k fs) : ∀ (d : Nat) (a b : List Sp), a.Sublist b → rightN k d b = true → rightN k d a = true
  | 0, _, _, _, _ => rfl
  | d + 1, a, b, hs, h => by
    unfold rightN at h ⊢
    rw [Bool.and_eq_true] at h ⊢
    obtain ⟨h1, h2⟩ := cases_sub hk hs h.1
    refine ⟨h1, ?_⟩
    rw [List.all_eq_true] at h ⊢
    intro c hc
    have h3 := h.2 c (h2 c hc)
    rw [List.all_eq_true] at h3 ⊢
    intro col hcol
    obtain ⟨n, e1, e2, rfl⟩ := mem_colsOf.1 hcol
    have hsub : (spotsOf n (linesOf (a.filter (isOf c)))).Sublist (spotsOf n (linesOf (b.filter (isOf c)))) := spotsOf_sub ((hs.filter _).map _)
    refine right_sub hk d _ _ hsub (h3 ([], n, _) (mem_colsOf.2 ⟨n, e1, fun e => ?_, rfl⟩))
    rw [e] at hsub
    exact e2 (List.sublist_nil.1 hsub)
/-- Spots that are right, in all that lies within them. -/
def Rgt (k : Kn) (spots : List Sp) : Prop := ∃ d, (∀ s ∈ spots, s.2.1 ≤ d) ∧ rightN k d spots = true
theorem Rgt.sub {k : Kn} {fs : List Fam} {a b : List Sp} (hk : KnOk k fs) (h : Rgt k b) (hs : a.Sublist b) : Rgt k a := by
  obtain ⟨d, h1, h2⟩ := h
  exact ⟨d, fun s hs' => h1 s (hs.subset hs'), right_sub hk d a b hs h2⟩
theorem Rgt.together {k : Kn} {spots : List Sp} (h : Rgt k spots) : together k spots = true := by
  obtain ⟨d, h1, h2⟩ := h
  cases d with
  | zero =>
    cases spots with
    | nil => rfl
    | cons s r => have := h1 s (by simp); have := s.2.depth_pos; omega
  | succ d =>
    unfold rightN at h2
    rw [Bool.and_eq_true] at h2
    exact h2.1
theorem spotsOf_mem {n : Nat} {spots : List Sp} {s : Sp} (h : s ∈ spotsOf n (linesOf spots)) : ∃ t ∈ spots, t.1 = s.1 ∧ s.2 ∈ t.2.kids ∧ wild s.2 = false := by
  unfold spotsOf linesOf at h
  rw [List.mem_filterMap] at h
  obtain ⟨l, h1, h2⟩ := h
  obtain ⟨t, ht, rfl⟩ := List.mem_map.1 h1
  dsimp only at h2
  cases hg : t.2.kids[n]? with
  | none => rw [hg] at h2; cases h2
  | some p =>
    rw [hg] at h2
    dsimp only at h2
    by_cases hw : wild p = true
    · rw [if_pos hw] at h2; cases h2
    · rw [if_neg hw] at h2
      have e := Option.some.inj h2
      subst e
      exact ⟨t, ht, rfl, List.mem_of_getElem? hg, by simpa using hw⟩
theorem Rgt.within {k : Kn} {spots : List Sp} (h : Rgt k spots) {c : Cs} (hc : c ∈ casesOf k spots) {path : List Nat} {col : Col} (hcol : col ∈ Ytpdmkhnonbbhnaa.within k (spots.filter (isOf c)) c.1 path) : Rgt k col.2.2 := by
  obtain ⟨d, h1, h2⟩ := h
  obtain ⟨n, e1, e2, rfl⟩ := mem_colsOf.1 hcol
  cases d with
  | zero =>
    cases spots with
    | nil => simp [casesOf] at hc
    | cons s r => have := h1 s (by simp); have := s.2.depth_pos; omega
  | succ d =>
    unfold rightN at h2
    rw [Bool.and_eq_true, List.all_eq_true] at h2
    have h3 := h2.2 c hc
    rw [List.all_eq_true] at h3
    refine ⟨d, fun s hs => ?_, h3 ([], n, _) (mem_colsOf.2 ⟨n, e1, e2, rfl⟩)⟩
    obtain ⟨t, ht, _, hk, _⟩ := spotsOf_mem hs
    have := Pt.kids_lt hk
    have := h1 t (List.mem_filter.1 ht).1
    omega
theorem spotsOf_rows {n : Nat} : ∀ (spots : List Sp), ((spotsOf n (linesOf spots)).map (·.1)).Sublist (spots.map (·.1))
  | [] => by simp [spotsOf, linesOf]
  | s :: r => by
    have ih := spotsOf_rows (n := n) r
    unfold spotsOf linesOf at ih ⊢
    rw [List.map_cons, List.filterMap_cons, List.map_cons]
    dsimp only at ih ⊢
    cases hg : s.2.kids[n]? with
    | none => exact ih.cons _
    | some p =>
      dsimp only
      by_cases hw : wild p = true
      · rw [if_pos hw]; exact ih.cons _
      · rw [if_neg hw]; exact ih.cons_cons _
/-- What holds of each column on the way. -/
structure Good (k : Kn) (m : Nat) (c : Col) : Prop where
  rise : (c.2.2.map (·.1)).Pairwise (· < ·)
  rows : ∀ s ∈ c.2.2, s.1 < 200
  right : Rgt k c.2.2
  path : c.1.length ≤ m
theorem rise_from : ∀ (l : List Nat) (lo n : Nat), l.Pairwise (· < ·) → (∀ x ∈ l, lo ≤ x ∧ x < n) → l.length ≤ n - lo
  | [], _, _, _, _ => by simp
  | a :: r, lo, n, h, hb => by
    rw [List.pairwise_cons] at h
    have h1 := rise_from r (a + 1) n h.2 (fun x hx => ⟨h.1 x hx, (hb x (List.mem_cons_of_mem _ hx)).2⟩)
    have h2 := hb a (by simp)
    rw [List.length_cons]
    omega
theorem rise_len {l : List Nat} (h : l.Pairwise (· < ·)) (n : Nat) (hb : ∀ x ∈ l, x < n) : l.length ≤ n := rise_from l 0 n h fun x hx => ⟨Nat.zero_le _, hb x hx⟩
theorem Good.len {k : Kn} {m : Nat} {c : Col} (h : Good k m c) : c.2.2.length ≤ 200 := by
  have := rise_len h.rise 200 (fun x hx => by obtain ⟨s, hs, rfl⟩ := List.mem_map.1 hx; exact h.rows s hs)
  simpa using this
theorem Good.up {k : Kn} {m m' : Nat} {c : Col} (h : Good k m c) (hm : m ≤ m') : Good k m' c := ⟨h.rise, h.rows, h.right, Nat.le_trans h.path hm⟩
/-- The columns within one. -/
theorem Good.within {k : Kn} {fs : List Fam} {m : Nat} {c : Col} (hk : KnOk k fs) (h : Good k m c) (rows : List Nat) {x : Cs} (hx : x ∈ casesOf k (ofRows c.2.2 rows)) {col : Col} (hcol : col ∈ Ytpdmkhnonbbhnaa.within k ((ofRows c.2.2 rows).filter (isOf x)) x.1 (c.1 ++ [c.2.1])) : Good k (m + 1) col := by
  have hsub : (ofRows c.2.2 rows).Sublist c.2.2 := List.filter_sublist
  have hr := (h.right.sub hk hsub).within hx hcol
  obtain ⟨n, e1, e2, rfl⟩ := mem_colsOf.1 hcol
  have hrows := spotsOf_rows (n := n) ((ofRows c.2.2 rows).filter (isOf x))
  have hrows2 := hrows.trans ((List.filter_sublist.trans hsub).map (·.1))
  refine ⟨h.rise.sublist hrows2, fun s hs => ?_, hr, ?_⟩
  · obtain ⟨t, ht, e, _⟩ := spotsOf_mem hs
    rw [← e]
    exact h.rows t (hsub.subset (List.mem_filter.1 ht).1)
  · have := h.path
    simp
    omega
end Go.Proofs.Ytpdmkhnonbbhnaa

namespace Go.Proofs.Ytpdmkhnonbbhnaa

theorem spots_lines {n : Nat} : ∀ (lines : List (Nat × List Pt)), ((spotsOf n lines).map (·.1)).Sublist (lines.map (·.1)) ∧ ∀ s ∈ spotsOf n lines, ∃ l ∈ lines, s.1 = l.1 ∧ s.2 ∈ l.2
  | [] => ⟨List.Sublist.refl _, fun s h => by simp [spotsOf] at h⟩
  | a :: r => by
    obtain ⟨h1, h2⟩ := spots_lines (n := n) r
    cases hp : a.2[n]? with
    | none =>
      have hx : spotsOf n (a :: r) = spotsOf n r := by simp [spotsOf, hp]
      rw [hx]
      exact ⟨h1.cons _, fun s hs => by obtain ⟨l, hl, e⟩ := h2 s hs; exact ⟨l, List.mem_cons_of_mem _ hl, e⟩⟩
    | some p =>
      by_cases hw : wild p = true
      · have hx : spotsOf n (a :: r) = spotsOf n r := by simp [spotsOf, hp, hw]
        rw [hx]
        exact ⟨h1.cons _, fun s hs => by obtain ⟨l, hl, e⟩ := h2 s hs; exact ⟨l, List.mem_cons_of_mem _ hl, e⟩⟩
      · have hx : spotsOf n (a :: r) = (a.1, p) :: spotsOf n r := by simp [spotsOf, hp, hw]
        rw [hx]
        refine ⟨h1.cons_cons _, fun s hs => ?_⟩
        rcases List.mem_cons.1 hs with rfl | hs
        · exact ⟨a, by simp, rfl, List.mem_of_getElem? hp⟩
        · obtain ⟨l, hl, e⟩ := h2 s hs
          exact ⟨l, List.mem_cons_of_mem _ hl, e⟩
theorem le_sum_of_mem : ∀ (l : List Nat) (x : Nat), x ∈ l → x ≤ l.sum
  | a :: r, x, h => by
    rw [List.sum_cons]
    rcases List.mem_cons.1 h with rfl | h
    · omega
    · have := le_sum_of_mem r x h
      omega
theorem cols_good {k : Kn} {rows : List (List Pt)} (hl : rows.length ≤ 200) {width : Nat} {c : Col} (hc : c ∈ colsOf [] width ((List.range rows.length).zip rows)) (hr : rightN k (rows.flatMap (·.map (·.1))).sum c.2.2 = true) (m : Nat) : Good k m c := by
  obtain ⟨n, _, _, rfl⟩ := mem_colsOf.1 hc
  obtain ⟨h1, h2⟩ := spots_lines (n := n) ((List.range rows.length).zip rows)
  have hz : ((List.range rows.length).zip rows).map (·.1) = List.range rows.length := List.map_fst_zip (by simp)
  rw [hz] at h1
  refine ⟨List.pairwise_lt_range.sublist h1, fun s hs => ?_, ⟨_, fun s hs => ?_, hr⟩, Nat.zero_le _⟩
  · obtain ⟨l, hl2, e1, _⟩ := h2 s hs
    have := List.mem_range.1 (List.of_mem_zip hl2).1
    rw [e1]
    omega
  · obtain ⟨l, hl2, _, e2⟩ := h2 s hs
    exact le_sum_of_mem _ _ (List.mem_flatMap.2 ⟨l.2, (List.of_mem_zip hl2).2, List.mem_map.2 ⟨s.2, e2, rfl⟩⟩)
theorem colsOf_len (around : List Nat) (width : Nat) (lines : List (Nat × List Pt)) : (colsOf around width lines).length ≤ width := by
  unfold colsOf
  refine Nat.le_trans (List.length_filterMap_le _ _) ?_
  simp
end Go.Proofs.Ytpdmkhnonbbhnaa

namespace Go.Proofs.Ytpdmkhnonbbhnaa

/-- What holds while families are learnt: the family i is at its place p. -/
structure KnIn (i p : Nat) (k : Kn) : Prop where
  place : ∀ e ∈ k, ∀ e' ∈ k, e.2.1 = e'.2.1 → e.2.2.1 = e'.2.2.1 → e.1 = e'.1
  name : ∀ e ∈ k, e.1 ≠ []
  fields : ∀ e ∈ k, e.2.2.2 ≤ 8
  low : ∀ e ∈ k, e.2.1 < i ∨ (e.2.1 = i ∧ e.2.2.1 < p)
theorem KnIn.put {i p : Nat} {k : Kn} (h : KnIn i p k) {n : Str} {x : Int} (hn : n ≠ []) (h0 : 0 ≤ x) (h8 : x ≤ 8) : KnIn i (p + 1) (k ++ [(n, i, p, x.toNat)]) := by
  refine ⟨fun e he e' he' h1 h2 => ?_, fun e he => ?_, fun e he => ?_, fun e he => ?_⟩
  · rcases List.mem_append.1 he with he | he
    · rcases List.mem_append.1 he' with he' | he'
      · exact h.place e he e' he' h1 h2
      · obtain rfl := List.mem_singleton.1 he'
        rcases h.low e he with hl | hl
        · exact absurd h1 (Nat.ne_of_lt hl)
        · exact absurd h2 (Nat.ne_of_lt hl.2)
    · obtain rfl := List.mem_singleton.1 he
      rcases List.mem_append.1 he' with he' | he'
      · rcases h.low e' he' with hl | hl
        · exact absurd h1.symm (Nat.ne_of_lt hl)
        · exact absurd h2.symm (Nat.ne_of_lt hl.2)
      · obtain rfl := List.mem_singleton.1 he'
        rfl
  · rcases List.mem_append.1 he with he | he
    · exact h.name e he
    · obtain rfl := List.mem_singleton.1 he
      exact hn
  · rcases List.mem_append.1 he with he | he
    · exact h.fields e he
    · obtain rfl := List.mem_singleton.1 he
      show x.toNat ≤ 8
      omega
  · rcases List.mem_append.1 he with he | he
    · rcases h.low e he with hl | hl
      · exact .inl hl
      · exact .inr ⟨hl.1, Nat.lt_succ_of_lt hl.2⟩
    · obtain rfl := List.mem_singleton.1 he
      exact .inr ⟨rfl, Nat.lt_succ_self _⟩
theorem knowC_in {i : Nat} : ∀ (ns : List Str) (xs : List Int) (p : Nat) (k k' : Kn), KnIn i p k → knowC i k p ns xs = some k' → ∃ p', KnIn i p' k'
  | [], _, p, k, k', h, e => by
    unfold knowC at e
    obtain rfl := Option.some.inj e
    exact ⟨p, h⟩
  | _ :: _, [], _, _, _, _, e => by
    unfold knowC at e
    cases e
  | n :: ns, x :: xs, p, k, k', h, e => by
    unfold knowC at e
    by_cases hc : n = [] ∨ (∃ e ∈ k, e.1 = n) ∨ x < 0 ∨ 8 < x
    · rw [if_pos hc] at e
      cases e
    · rw [if_neg hc] at e
      have h1 : n ≠ [] := fun h => hc (.inl h)
      have h2 : ¬ x < 0 := fun h => hc (.inr (.inr (.inl h)))
      have h3 : ¬ 8 < x := fun h => hc (.inr (.inr (.inr h)))
      exact knowC_in ns xs (p + 1) _ k' (h.put h1 (by omega) (by omega)) e
theorem knowF_in : ∀ (fs : List Fam) (i : Nat) (k k' : Kn), KnIn i 0 k → knowF i k fs = some k' → KnIn (i + fs.length) 0 k'
  | [], i, k, k', h, e => by
    unfold knowF at e
    obtain rfl := Option.some.inj e
    exact h
  | f :: fs, i, k, k', h, e => by
    unfold knowF at e
    by_cases hc : f.1.length = 0 ∨ 24 < f.1.length ∨ f.2.length ≠ f.1.length
    · rw [if_pos hc] at e
      cases e
    · rw [if_neg hc] at e
      cases hk : knowC i k 0 f.1 f.2 with
      | none => rw [hk] at e; cases e
      | some k1 =>
        rw [hk] at e
        obtain ⟨p', h1⟩ := knowC_in f.1 f.2 0 k k1 h hk
        have h2 : KnIn (i + 1) 0 k1 := ⟨h1.place, h1.name, h1.fields, fun e he => .inl (by rcases h1.low e he with hl | hl <;> omega)⟩
        have h3 := knowF_in fs (i + 1) k1 k' h2 e
        rw [List.length_cons, show i + (fs.length + 1) = i + 1 + fs.length by omega]
        exact h3
theorem knowF_ok {fs : List Fam} {k : Kn} (h : knowF 0 [] fs = some k) : KnOk k fs := by
  have h1 := knowF_in fs 0 [] k ⟨fun e he => by simp at he, fun e he => by simp at he, fun e he => by simp at he, fun e he => by simp at he⟩ h
  refine ⟨h1.place, h1.name, h1.fields, fun e he => ?_⟩
  rcases h1.low e he with hl | hl
  · omega
  · omega
end Go.Proofs.Ytpdmkhnonbbhnaa
