/- A comment between two texts that are taken says nothing, in braces or up to a line's end: the plain side of LexSkips. -/
import Derived.Test.YtkfhdmkdkphmoaaDoorJn
namespace Go.Proofs.YtkfhdmkdkphmoaaDoor

/-- A comment up to a line's end. -/
def lineL (c : List UInt8) : List UInt8 := [45, 45] ++ c.flatMap (fun x => if x = 10 then [] else [32, x])

theorem line_no10 (c : List UInt8) : ∀ x ∈ c.flatMap (fun x => if x = 10 then ([] : List UInt8) else [32, x]), x ≠ 10 := by
  intro x hx
  simp only [List.mem_flatMap] at hx
  obtain ⟨y, _, hy⟩ := hx
  split at hy
  · cases hy
  · rename_i hne
    simp at hy
    rcases hy with rfl | rfl
    · decide
    · exact hne
theorem idx_no10 : ∀ (l z : List UInt8), (∀ x ∈ l, x ≠ 10) → (l ++ 10 :: z).idxOf 10 = l.length := by
  intro l z h
  induction l with
  | nil => simp
  | cons x r ih =>
    have hx : (x == 10) = false := by simpa using h x (by simp)
    rw [List.cons_append, List.idxOf_cons, hx, ih (fun y hy => h y (by simp [hy]))]
    simp
theorem line_head (c z : List UInt8) : ∃ b r, c.flatMap (fun x => if x = 10 then ([] : List UInt8) else [32, x]) ++ 10 :: z = b :: r ∧ cls b.toNat = 6 := by
  induction c with
  | nil => exact ⟨10, z, rfl, rfl⟩
  | cons x r ih =>
    by_cases h : x = 10
    · simp only [List.flatMap_cons, h, if_true, List.nil_append]; exact ih
    · exact ⟨32, _, by simp only [List.flatMap_cons, h, if_false, List.cons_append]; rfl, rfl⟩
theorem step_line (c z : List UInt8) : stepL (lineL c ++ 10 :: z) = .ok (none, (lineL c).length) := by
  have hi : (lineL c ++ 10 :: z).idxOf 10 = (lineL c).length := idx_no10 _ _ (by
    intro x hx
    simp only [lineL, List.cons_append, List.nil_append, List.mem_cons] at hx
    rcases hx with rfl | rfl | hx
    · decide
    · decide
    · exact line_no10 c x hx)
  obtain ⟨b, r, hb, hc⟩ := line_head c z
  have e : lineL c ++ 10 :: z = 45 :: 45 :: b :: r := by
    simp only [lineL, List.cons_append, List.nil_append]
    rw [hb]
  have hrun : runLen (45 :: 45 :: b :: r) = 2 := by
    show spanLen (· == 8) (45 :: 45 :: b :: r) = 2
    simp only [spanLen, hc]
    rfl
  rw [stepL, hi, e, hrun, if_neg (show ¬ clsHd (45 :: 45 :: b :: r) = 6 from by show ¬ cls 45 = 6; decide), if_neg (by simp [List.isPrefixOf]), if_pos (by rfl)]

theorem lexL_skip_l {k c n : Nat} {p z : List UInt8} (hp : 1 ≤ p.length) (hs : stepL (p ++ z) = .ok (none, n)) (hn : n = p.length) : lexL k (p ++ z) c = lexL (k + p.length) z c := by
  cases p with
  | nil => simp at hp
  | cons x r =>
    rw [List.cons_append] at hs ⊢
    rw [lexL_cons, hs]
    simp only []
    rw [hn, show (x :: r).length - 1 = r.length by simp, List.drop_left]

theorem lexL_count : ∀ (m : Nat) (l : List UInt8) (k c : Nat) (ts : List Tk), l.length ≤ m → lexL k l c = .ok ts → ts.length ≤ l.length := by
  intro m
  induction m with
  | zero =>
    intro l k c ts hm h
    cases l with
    | nil => rw [lexL_nil] at h; cases h; simp
    | cons x r => simp at hm
  | succ m ih =>
    intro l k c ts hm h
    cases l with
    | nil => rw [lexL_nil] at h; cases h; simp
    | cons x r =>
      have hr : ∀ n, (r.drop n).length ≤ m := by intro n; simp at hm ⊢; omega
      rw [lexL_cons] at h
      cases hs : stepL (x :: r) with
      | error e => rw [hs] at h; cases h
      | ok y =>
        obtain ⟨o, n⟩ := y
        rw [hs] at h
        cases o with
        | none =>
          simp only [] at h
          have := ih _ (k + n) c ts (hr _) h
          simp at this ⊢
          omega
        | some t =>
          obtain ⟨kd, tx, nm⟩ := t
          simp only [] at h
          split at h
          · cases h
          · cases hl : lexL (k + n) (r.drop (n - 1)) (c + 1) with
            | error e => rw [hl] at h; cases h
            | ok ts' =>
              rw [hl] at h
              simp [Except.map] at h
              subst h
              have := ih _ (k + n) (c + 1) ts' (hr _) hl
              simp at this ⊢
              omega

theorem base_nl (y : List UInt8) (k c : Nat) : lexL k (10 :: y) c = lexL (k + 1) y c := by
  rw [lexL_cons, show stepL (10 :: y) = .ok (none, 1) from by rw [stepL, if_pos (show clsHd (10 :: y) = 6 from rfl)]]
  simp

/-- A comment in braces between two texts. -/
theorem skips_block {a b c : List UInt8} {l m : List Tk} (n : Nat) (ha : lexL 0 a 0 = .ok l) (hb : lexL 0 b 0 = .ok m) (hc : ∀ x ∈ c, keepB x.toNat = true) (hs : a.length + b.length ≤ 20000) :
    lexL 0 (a ++ 10 :: (wrapL (n + 1) c ++ b)) 0 = .ok (l ++ m.map (mvT (a.length + 1 + (wrapL (n + 1) c).length))) := by
  have h1 := lexL_count _ _ _ _ _ (Nat.le_refl _) ha
  have h2 := lexL_count _ _ _ _ _ (Nat.le_refl _) hb
  rw [lexL_join _ _ _ _ _ _ (Nat.le_refl _) ha, lexL_skip_l (by rw [wrapL_len]; omega) (step_wrap c hc n b) rfl]
  have := lexL_move (a.length + 1 + (wrapL (n + 1) c).length) _ _ _ _ (0 + l.length) _ (Nat.le_refl _) hb (by omega)
  rw [show 0 + a.length + 1 + (wrapL (n + 1) c).length = 0 + (a.length + 1 + (wrapL (n + 1) c).length) by omega, this]
  rfl
/-- A comment up to a line's end between two texts. -/
theorem skips_line {a b c : List UInt8} {l m : List Tk} (ha : lexL 0 a 0 = .ok l) (hb : lexL 0 b 0 = .ok m) (hs : a.length + b.length ≤ 20000) :
    lexL 0 (a ++ 10 :: (lineL c ++ 10 :: b)) 0 = .ok (l ++ m.map (mvT (a.length + 2 + (lineL c).length))) := by
  have h1 := lexL_count _ _ _ _ _ (Nat.le_refl _) ha
  have h2 := lexL_count _ _ _ _ _ (Nat.le_refl _) hb
  rw [lexL_join _ _ _ _ _ _ (Nat.le_refl _) ha, lexL_skip_l (by simp [lineL]) (step_line c b) rfl, base_nl]
  have := lexL_move (a.length + 2 + (lineL c).length) _ _ _ _ (0 + l.length) _ (Nat.le_refl _) hb (by omega)
  rw [show 0 + a.length + 1 + (lineL c).length + 1 = 0 + (a.length + 2 + (lineL c).length) by omega, this]
  rfl
end Go.Proofs.YtkfhdmkdkphmoaaDoor
