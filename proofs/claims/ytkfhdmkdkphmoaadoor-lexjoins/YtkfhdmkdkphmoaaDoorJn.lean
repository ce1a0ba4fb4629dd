/- The tokens of a text, a line's end and another text are those of both; tokens from another place on are the same, moved. -/
import Derived.Test.YtkfhdmkdkphmoaaDoorNl
import Derived.Test.YtkfhdmkdkphmoaaDoorCut
import Derived.Test.YtkfhdmkdkphmoaaDoorMv
import Derived.Test.YtkfhdmkdkphmoaaDoorPl
namespace Go.Proofs.YtkfhdmkdkphmoaaDoor

theorem stepL_len {l : List UInt8} (hl : l ≠ []) {o : Option (Nat × List UInt8 × Nat)} {n : Nat} (h : stepL l = .ok (o, n)) : 1 ≤ n ∧ n ≤ l.length := by
  have h1 : 1 ≤ l.length := by
    cases l with
    | nil => exact absurd rfl hl
    | cons c r => simp
  unfold stepL at h
  split at h
  · simp at h; omega
  split at h
  · split at h
    · cases h
    · rename_i hb; simp at h; have := blockL_pos hb; omega
  split at h
  · rename_i hd; simp at h; have := dash_head hd; omega
  split at h
  · cases h
  · rename_i ht; simp at h; have := tokL_pos ht; omega

theorem lexL_move (d : Nat) : ∀ (m : Nat) (l : List UInt8) (k c c' : Nat) (ts : List Tk), l.length ≤ m → lexL k l c = .ok ts → c' + ts.length ≤ 20000 → lexL (k + d) l c' = .ok (ts.map (mvT d)) := by
  intro m
  induction m with
  | zero =>
    intro l k c c' ts hm h _
    cases l with
    | nil => rw [lexL_nil] at h ⊢; cases h; rfl
    | cons x r => simp at hm
  | succ m ih =>
    intro l k c c' ts hm h hc
    cases l with
    | nil => rw [lexL_nil] at h ⊢; cases h; rfl
    | cons x r =>
      have hr : ∀ n, (r.drop n).length ≤ m := by intro n; simp at hm ⊢; omega
      rw [lexL_cons] at h ⊢
      cases hs : stepL (x :: r) with
      | error e => rw [hs] at h; cases h
      | ok y =>
        obtain ⟨o, n⟩ := y
        rw [hs] at h
        cases o with
        | none =>
          simp only [] at h ⊢
          have := ih _ (k + n) c c' ts (hr _) h hc
          rw [show k + d + n = k + n + d by omega]
          exact this
        | some t =>
          obtain ⟨kd, tx, nm⟩ := t
          simp only [] at h ⊢
          split at h
          · cases h
          · cases hl : lexL (k + n) (r.drop (n - 1)) (c + 1) with
            | error e => rw [hl] at h; cases h
            | ok ts' =>
              rw [hl] at h
              simp [Except.map] at h
              subst h
              simp at hc
              rw [if_neg (by omega)]
              have := ih _ (k + n) (c + 1) (c' + 1) ts' (hr _) hl (by omega)
              rw [show k + d + n = k + n + d by omega, this]
              simp [Except.map, mvT]

theorem lexL_join (y : List UInt8) : ∀ (m : Nat) (l : List UInt8) (k c : Nat) (ts : List Tk), l.length ≤ m → lexL k l c = .ok ts → lexL k (l ++ 10 :: y) c = (lexL (k + l.length + 1) y (c + ts.length)).map (ts ++ ·) := by
  intro m
  have base : ∀ (k c : Nat), lexL k (10 :: y) c = lexL (k + 1) y c := by
    intro k c
    rw [lexL_cons, show stepL (10 :: y) = .ok (none, 1) from by rw [stepL, if_pos (show clsHd (10 :: y) = 6 from rfl)]]
    simp
  have nilc : ∀ (k c : Nat) (ts : List Tk), lexL k ([] : List UInt8) c = .ok ts → lexL k ([] ++ 10 :: y) c = (lexL (k + ([] : List UInt8).length + 1) y (c + ts.length)).map (ts ++ ·) := by
    intro k c ts h
    rw [lexL_nil] at h
    cases h
    rw [List.nil_append, base]
    show lexL (k + 1) y c = (lexL (k + 1) y c).map _
    cases lexL (k + 1) y c <;> rfl
  induction m with
  | zero =>
    intro l k c ts hm h
    cases l with
    | nil => exact nilc k c ts h
    | cons x r => simp at hm
  | succ m ih =>
    intro l k c ts hm h
    cases l with
    | nil => exact nilc k c ts h
    | cons x r =>
      have hr : ∀ n, (r.drop n).length ≤ m := by intro n; simp at hm ⊢; omega
      rw [lexL_cons] at h
      cases hs : stepL (x :: r) with
      | error e => rw [hs] at h; cases h
      | ok z =>
        have hs2 := stepL_nl (y := y) (by simp) hs
        obtain ⟨o, n⟩ := z
        have hn := stepL_len (by simp) hs
        simp at hn
        rw [List.cons_append] at hs2 ⊢
        rw [lexL_cons, hs2]
        rw [hs] at h
        have hd : (r ++ 10 :: y).drop (n - 1) = r.drop (n - 1) ++ 10 :: y := drop_nl (by omega)
        have hlen : k + n + (r.drop (n - 1)).length + 1 = k + (x :: r).length + 1 := by simp; omega
        cases o with
        | none =>
          simp only [] at h ⊢
          rw [hd, ih _ (k + n) c ts (hr _) h, hlen]
        | some t =>
          obtain ⟨kd, tx, nm⟩ := t
          simp only [] at h ⊢
          split at h
          · cases h
          · rename_i hcc
            rw [if_neg hcc]
            cases hl : lexL (k + n) (r.drop (n - 1)) (c + 1) with
            | error e => rw [hl] at h; cases h
            | ok ts' =>
              rw [hl] at h
              simp [Except.map] at h
              subst h
              rw [hd, ih _ (k + n) (c + 1) ts' (hr _) hl, hlen]
              rw [show c + 1 + ts'.length = c + ((kd, tx, nm, k) :: ts').length by simp; omega]
              cases lexL (k + (x :: r).length + 1) y (c + ((kd, tx, nm, k) :: ts').length) <;> rfl

/-- A text, wrapped so many times as a comment. -/
def wrapL : Nat → List UInt8 → List UInt8
  | 0, c => c
  | n + 1, c => [123, 45] ++ wrapL n c ++ [45, 125]
theorem wrapL_len (n : Nat) (c : List UInt8) : (wrapL n c).length = c.length + 4 * n := by
  induction n with
  | zero => simp [wrapL]
  | succ n ih => simp [wrapL, ih]; omega

theorem block_plain (z : List UInt8) (o : Nat) : ∀ c : List UInt8, (∀ x ∈ c, keepB x.toNat = true) → blockL (c ++ z) o = (blockL z o).map (· + c.length) := by
  intro c
  induction c with
  | nil => intro _; simp
  | cons x r ih =>
    intro hc
    have hx := hc x (by simp)
    have h1 : x ≠ 123 := by rintro rfl; simp [keepB] at hx
    have h2 : x ≠ 45 := by rintro rfl; simp [keepB] at hx
    rw [List.cons_append, blockL, ih (fun y hy => hc y (by simp [hy]))]
    · cases blockL z o <;> simp
      omega
    · intro r' e _; exact h1 e
    · intro r' e _; exact h2 e
theorem block_wrap (c : List UInt8) (hc : ∀ x ∈ c, keepB x.toNat = true) : ∀ (n : Nat) (z : List UInt8) (o : Nat), 1 ≤ o → blockL (wrapL n c ++ z) o = (blockL z o).map (· + (wrapL n c).length) := by
  intro n
  induction n with
  | zero => intro z o _; exact block_plain z o c hc
  | succ n ih =>
    intro z o ho
    have e : wrapL (n + 1) c ++ z = 123 :: 45 :: (wrapL n c ++ 45 :: 125 :: z) := by simp [wrapL]
    rw [e, blockL, ih _ _ (by omega), blockL, if_neg (by omega), show o + 1 - 1 = o by omega]
    cases blockL z o <;> simp [wrapL]
    omega
theorem step_wrap (c : List UInt8) (hc : ∀ x ∈ c, keepB x.toNat = true) (n : Nat) (z : List UInt8) : stepL (wrapL (n + 1) c ++ z) = .ok (none, (wrapL (n + 1) c).length) := by
  have e : wrapL (n + 1) c ++ z = 123 :: 45 :: (wrapL n c ++ 45 :: 125 :: z) := by simp [wrapL]
  rw [stepL, e, if_neg (show ¬ clsHd (123 :: 45 :: (wrapL n c ++ 45 :: 125 :: z)) = 6 from by show ¬ cls 123 = 6; decide), if_pos (by simp [List.isPrefixOf]), blockL, block_wrap c hc _ _ _ (by omega), blockL, if_pos (by omega)]
  simp [wrapL]
  omega
end Go.Proofs.YtkfhdmkdkphmoaaDoor
