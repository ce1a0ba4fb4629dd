/- Columns that are right, with all that lies within them; how much waits to be looked at. -/
import Derived.Test.YtpdmkhnonbbhnaaMix
namespace Go.Proofs.Ytpdmkhnonbbhnaa

/-- A column is right, with all that lies within it. -/
def Rall (k : Kn) (spots : List Sp) : Prop := ∀ d, rightN k d spots = true
theorem Rall_iff (k : Kn) (spots : List Sp) : Rall k spots ↔ together k spots = true ∧ ∀ c ∈ casesOf k spots, ∀ col ∈ within k (spots.filter (isOf c)) c.1 [], Rall k col.2.2 := by
  constructor
  · intro h
    refine ⟨?_, fun c hc col hcol d => ?_⟩
    · have := h 1
      unfold rightN at this
      rw [Bool.and_eq_true] at this
      exact this.1
    · have := h (d + 1)
      unfold rightN at this
      rw [Bool.and_eq_true, List.all_eq_true] at this
      have := this.2 c hc
      rw [List.all_eq_true] at this
      exact this col hcol
  · rintro ⟨h1, h2⟩ d
    cases d with
    | zero => rfl
    | succ d =>
      unfold rightN
      rw [Bool.and_eq_true, List.all_eq_true]
      refine ⟨h1, fun c hc => ?_⟩
      rw [List.all_eq_true]
      exact fun col hcol => h2 c hc col hcol d
theorem Rall_nil (k : Kn) : Rall k [] := (Rall_iff k []).2 ⟨rfl, fun c hc => by simp [casesOf] at hc⟩
theorem rall_of {k : Kn} : ∀ (d : Nat) (spots : List Sp), (∀ s ∈ spots, s.2.1 ≤ d) → rightN k d spots = true → Rall k spots
  | 0, spots, hd, _ => by
    cases spots with
    | nil => exact Rall_nil k
    | cons s r =>
      have h1 := hd s (by simp)
      have h2 := s.2.depth_pos
      omega
  | d + 1, spots, hd, h => by
    rw [Rall_iff]
    unfold rightN at h
    rw [Bool.and_eq_true, List.all_eq_true] at h
    refine ⟨h.1, fun c hc col hcol => ?_⟩
    have h2 := h.2 c hc
    rw [List.all_eq_true] at h2
    refine rall_of d col.2.2 (fun s hs => ?_) (h2 col hcol)
    obtain ⟨n, _, _, rfl⟩ := mem_colsOf.1 hcol
    obtain ⟨t, ht, _, hk, _⟩ := spotsOf_mem hs
    have h3 := Pt.kids_lt hk
    have h4 := hd t (List.mem_filter.1 ht).1
    omega
/-- How many patterns stand in spots, in columns. -/
def spz (l : List Sp) : Nat := (l.map fun s => s.2.sz).sum
def csz (l : List Col) : Nat := (l.map fun c => spz c.2.2).sum
theorem csz_append (a b : List Col) : csz (a ++ b) = csz a + csz b := by simp [csz]
theorem csz_cons (a : Col) (b : List Col) : csz (a :: b) = spz a.2.2 + csz b := by simp [csz]
theorem spz_len (l : List Sp) : l.length ≤ spz l := by
  induction l with
  | nil => simp
  | cons a r ih =>
    have := a.2.sz_pos
    simp only [spz, List.map_cons, List.sum_cons, List.length_cons] at *
    omega
theorem csz_len (l : List Col) (h : ∀ c ∈ l, c.2.2 ≠ []) : l.length ≤ csz l := by
  induction l with
  | nil => simp
  | cons a r ih =>
    have h1 := ih fun c hc => h c (List.mem_cons_of_mem _ hc)
    have h2 := h a (by simp)
    have h3 := spz_len a.2.2
    have h4 : 0 < a.2.2.length := List.length_pos_iff.2 h2
    rw [csz_cons, List.length_cons]
    omega
def kidz (l : List (Nat × List Pt)) (w : Nat) : Nat := (l.map fun x => szs (x.2.take w)).sum
theorem szs_take_succ (l : List Pt) (w : Nat) : szs (l.take (w + 1)) = szs (l.take w) + (match l[w]? with | some p => p.sz | none => 0) := by
  rw [List.take_add_one, szs_append]
  congr 1
  cases l[w]? with
  | none => rfl
  | some p => simp [szs]
theorem spotsOf_spz (n : Nat) : ∀ (lines : List (Nat × List Pt)), spz (spotsOf n lines) + kidz lines n ≤ kidz lines (n + 1)
  | [] => by simp [spotsOf, spz, kidz]
  | a :: r => by
    have ih := spotsOf_spz n r
    have h1 : kidz (a :: r) n = szs (a.2.take n) + kidz r n := by simp [kidz]
    have h2 : kidz (a :: r) (n + 1) = szs (a.2.take (n + 1)) + kidz r (n + 1) := by simp [kidz]
    rw [h1, h2, szs_take_succ]
    have h3 : spz (spotsOf n (a :: r)) ≤ (match a.2[n]? with | some p => p.sz | none => 0) + spz (spotsOf n r) := by
      unfold spotsOf
      rw [List.filterMap_cons]
      cases hg : a.2[n]? with
      | none => simp
      | some p =>
        simp only
        by_cases hw : wild p = true
        · rw [if_pos hw]
          simp
        · rw [if_neg hw]
          simp [spz]
    omega
theorem colsOf_succ (around : List Nat) (w : Nat) (lines : List (Nat × List Pt)) : colsOf around (w + 1) lines = colsOf around w lines ++ (if (spotsOf w lines).isEmpty then [] else [(around, w, spotsOf w lines)]) := by
  unfold colsOf
  rw [List.range_succ, List.filterMap_append]
  congr 1
  rw [List.filterMap_cons, List.filterMap_nil]
  by_cases h : (spotsOf w lines).isEmpty = true
  · rw [if_pos h, if_pos h]
  · rw [if_neg h, if_neg h]
theorem colsOf_csz (around : List Nat) : ∀ (w : Nat) (lines : List (Nat × List Pt)), csz (colsOf around w lines) ≤ kidz lines w
  | 0, lines => by simp [colsOf, csz]
  | w + 1, lines => by
    have ih := colsOf_csz around w lines
    have h := spotsOf_spz w lines
    rw [colsOf_succ, csz_append]
    by_cases he : (spotsOf w lines).isEmpty = true
    · rw [if_pos he]
      have : csz [] = 0 := rfl
      omega
    · rw [if_neg he]
      have : csz [(around, w, spotsOf w lines)] = spz (spotsOf w lines) := by simp [csz]
      omega
theorem kidz_le : ∀ (lines : List (Nat × List Pt)) (w : Nat), kidz lines w ≤ (lines.map fun x => szs x.2).sum
  | [], w => by simp [kidz]
  | a :: r, w => by
    have ih := kidz_le r w
    have h1 : kidz (a :: r) w = szs (a.2.take w) + kidz r w := by simp [kidz]
    have h2 : szs a.2 = szs (a.2.take w) + szs (a.2.drop w) := by rw [← szs_append, List.take_append_drop]
    rw [h1, List.map_cons, List.sum_cons]
    omega
theorem within_csz (k : Kn) (spots : List Sp) (con : Str) (path : List Nat) : csz (within k spots con path) + spots.length ≤ spz spots := by
  have h1 := colsOf_csz path (looks k con).2.2 (linesOf spots)
  have h2 := kidz_le (linesOf spots) (looks k con).2.2
  have h3 : ∀ l : List Sp, ((linesOf l).map fun x => szs x.2).sum + l.length = spz l := by
    intro l
    induction l with
    | nil => rfl
    | cons s r ih =>
      have e1 : linesOf (s :: r) = (s.1, s.2.kids) :: linesOf r := rfl
      have e2 : spz (s :: r) = s.2.sz + spz r := by simp [spz]
      rw [e1, e2, s.2.sz_eq, ← ih, List.map_cons, List.sum_cons, List.length_cons]
      show szs s.2.kids + _ + _ = _
      omega
  have h4 := h3 spots
  show csz (colsOf path _ _) + _ ≤ _
  omega
theorem isOf_iff {k : Kn} {fs : List Fam} {spots : List Sp} (hk : KnOk k fs) (h : together k spots = true) {c : Cs} (hc : c ∈ casesOf k spots) {s : Sp} (hs : s ∈ spots) : isOf c s = true ↔ c = csOf s.2 := by
  obtain ⟨t, ht, rfl, _⟩ := case_of hk h hc
  obtain ⟨h1, h2, _⟩ := together_all h s hs t ht
  obtain ⟨_, h3, _⟩ := together_all h t ht t ht
  rcases mayBe_kind h3 with h4 | h4
  · have e1 : csOf t.2 = ([], t.2.num) := by unfold csOf; rw [if_neg (by omega)]
    have e2 : csOf s.2 = ([], s.2.num) := by unfold csOf; rw [if_neg (by omega)]
    rw [e1, e2]
    unfold isOf
    rw [if_pos rfl]
    constructor
    · intro e
      have e := eq_of_beq e
      show (([] : Str), t.2.num) = ([], s.2.num)
      rw [show s.2.num = t.2.num from e]
    · intro e
      have : t.2.num = s.2.num := (Prod.mk.inj e).2
      show (s.2.num == t.2.num) = true
      rw [this]
      simp
  · have e1 : csOf t.2 = (t.2.name, 0) := by unfold csOf; rw [if_pos h4]
    have e2 : csOf s.2 = (s.2.name, 0) := by unfold csOf; rw [if_pos (by omega)]
    obtain ⟨c, hl, _⟩ := mayBe_con h3 h4
    have hn := hk.name _ (look_mem hl)
    rw [e1, e2]
    unfold isOf
    rw [if_neg hn]
    constructor
    · intro e
      have e := eq_of_beq e
      show (t.2.name, (0 : Int)) = (s.2.name, 0)
      rw [show s.2.name = t.2.name from e]
    · intro e
      have : t.2.name = s.2.name := (Prod.mk.inj e).1
      show (s.2.name == t.2.name) = true
      rw [this]
      exact beq_self_eq_true _
theorem parts_le {α : Type} (g : Sp → Nat) (key : Sp → α) [DecidableEq α] (cs : List α) (hn : cs.Nodup) : ∀ (spots : List Sp), (cs.map fun c => ((spots.filter fun s => decide (c = key s)).map g).sum).sum ≤ (spots.map g).sum
  | [] => by
    have : ∀ l : List α, (l.map fun c => ((([] : List Sp).filter fun s => decide (c = key s)).map g).sum).sum = 0 := by
      intro l
      induction l with
      | nil => rfl
      | cons a r ih =>
        rw [List.map_cons, List.sum_cons, ih]
        rfl
    rw [this]
    simp
  | s :: r => by
    have ih := parts_le g key cs hn r
    have h1 : ∀ l : List α, l.Nodup → (l.map fun c => (((s :: r).filter fun s => decide (c = key s)).map g).sum).sum ≤ g s + (l.map fun c => ((r.filter fun s => decide (c = key s)).map g).sum).sum ∧ (key s ∉ l → (l.map fun c => (((s :: r).filter fun s => decide (c = key s)).map g).sum).sum = (l.map fun c => ((r.filter fun s => decide (c = key s)).map g).sum).sum) := by
      intro l
      induction l with
      | nil => intro _; exact ⟨by simp, fun _ => rfl⟩
      | cons c l ih2 =>
        intro hnd
        rw [List.nodup_cons] at hnd
        obtain ⟨i1, i2⟩ := ih2 hnd.2
        rw [List.map_cons, List.sum_cons, List.map_cons, List.sum_cons, List.filter_cons]
        by_cases he : c = key s
        · have hd : decide (c = key s) = true := by simpa using he
          rw [if_pos hd, List.map_cons, List.sum_cons]
          have := i2 (by rw [← he]; exact hnd.1)
          refine ⟨by omega, fun hx => absurd (by rw [he]; simp) hx⟩
        · have hd : ¬ decide (c = key s) = true := by simpa using he
          rw [if_neg hd]
          exact ⟨by omega, fun hx => by rw [i2 (fun hm => hx (List.mem_cons_of_mem _ hm))]⟩
    have := (h1 cs hn).1
    rw [List.map_cons, List.sum_cons]
    omega
/-- What lies within a column, case by case, is less than the column. -/
theorem cases_csz {k : Kn} {fs : List Fam} {spots : List Sp} (hk : KnOk k fs) (h : together k spots = true) : csz ((casesOf k spots).flatMap fun c => within k (spots.filter (isOf c)) c.1 []) + (if spots = [] then 0 else 1) ≤ spz spots := by
  have hA := apart_of hk h
  obtain ⟨hr, _⟩ := casesOf_facts k spots hA
  have hnd : (casesOf k spots).Nodup := by
    rw [List.nodup_iff_pairwise_ne]
    refine hr.imp fun hab e => ?_
    rw [e, csLt_irr] at hab
    cases hab
  have hp := parts_le (fun s => s.2.sz) (fun s => csOf s.2) (casesOf k spots) hnd spots
  have h1 : ∀ l : List Cs, (∀ c ∈ l, c ∈ casesOf k spots) → csz (l.flatMap fun c => within k (spots.filter (isOf c)) c.1 []) + l.length ≤ (l.map fun c => ((spots.filter fun s => decide (c = csOf s.2)).map fun s => s.2.sz).sum).sum := by
    intro l
    induction l with
    | nil => intro _; simp [csz]
    | cons c l ih =>
      intro hc
      have i1 := ih fun d hd => hc d (List.mem_cons_of_mem _ hd)
      have hcc := hc c (by simp)
      have e : spots.filter (isOf c) = spots.filter fun s => decide (c = csOf s.2) := by
        refine List.filter_congr fun s hs => ?_
        have := isOf_iff hk h hcc hs
        cases hb : isOf c s with
        | true => exact (decide_eq_true (this.1 hb)).symm
        | false => exact (decide_eq_false fun e => by rw [this.2 e] at hb; cases hb).symm
      have i2 := within_csz k (spots.filter (isOf c)) c.1 []
      have i3 : 0 < (spots.filter (isOf c)).length := by
        obtain ⟨s, hs, _, hi⟩ := case_of hk h hcc
        exact List.length_pos_iff.2 (List.ne_nil_of_mem (List.mem_filter.2 ⟨hs, hi⟩))
      rw [List.flatMap_cons, csz_append, List.map_cons, List.sum_cons, List.length_cons, ← e]
      have : spz (spots.filter (isOf c)) = ((spots.filter (isOf c)).map fun s => s.2.sz).sum := rfl
      omega
  have h2 := h1 _ fun c hc => hc
  have h3 : spz spots = (spots.map fun s => s.2.sz).sum := rfl
  have h4 : (if spots = [] then 0 else 1) ≤ (casesOf k spots).length := by
    by_cases e : spots = []
    · rw [if_pos e]; omega
    · rw [if_neg e]
      cases hs : spots with
      | nil => exact absurd hs e
      | cons s r =>
        have : csOf s.2 ∈ casesOf k spots := ((casesOf_facts k spots hA).2 _).2 (by rw [hs]; simp)
        rw [hs] at this
        exact List.length_pos_iff.2 (List.ne_nil_of_mem this)
  omega
/-- What is known of a column that waits. -/
structure Wt (c : Col) : Prop where
  ne : c.2.2 ≠ []
  rise : (c.2.2.map (·.1)).Pairwise (· < ·)
  rows : ∀ s ∈ c.2.2, s.1 < 200
theorem Wt.len {c : Col} (h : Wt c) : c.2.2.length ≤ 200 := by
  have := rise_len h.rise 200 (fun x hx => by
    obtain ⟨s, hs, rfl⟩ := List.mem_map.1 hx
    exact h.rows s hs)
  simpa using this
theorem Wt.within {c : Col} (h : Wt c) {k : Kn} {p : Sp → Bool} {con : Str} {path : List Nat} : ∀ col ∈ within k (c.2.2.filter p) con path, Wt col := by
  intro col hcol
  obtain ⟨n, _, hne, rfl⟩ := mem_colsOf.1 hcol
  have hs := (spotsOf_rows (n := n) (c.2.2.filter p)).trans (List.Sublist.map _ List.filter_sublist)
  refine ⟨hne, h.rise.sublist hs, fun s hsp => ?_⟩
  obtain ⟨t, ht, e, _⟩ := spotsOf_mem hsp
  rw [← e]
  exact h.rows t (List.mem_filter.1 ht).1
end Go.Proofs.Ytpdmkhnonbbhnaa
