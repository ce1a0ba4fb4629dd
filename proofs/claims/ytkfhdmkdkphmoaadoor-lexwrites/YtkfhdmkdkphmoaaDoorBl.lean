/- A token that ends within a text is the same token with a blank and anything behind it. -/
import Derived.Test.YtkfhdmkdkphmoaaDoorNl
namespace Go.Proofs.YtkfhdmkdkphmoaaDoor

theorem clsHd_bl {l y : List UInt8} (h : l ≠ []) : clsHd (l ++ 32 :: y) = clsHd l := by
  cases l with
  | nil => exact absurd rfl h
  | cons c r => rfl
theorem span_bl (p : Nat → Bool) (h6 : p 6 = false) (l y : List UInt8) : spanLen p (l ++ 32 :: y) = spanLen p l := by
  induction l with
  | nil => simp [spanLen, show cls 32 = 6 from rfl, h6]
  | cons c r ih => simp only [List.cons_append, spanLen]; rw [ih]
theorem take_bl {l y : List UInt8} {n : Nat} (h : n ≤ l.length) : (l ++ 32 :: y).take n = l.take n := by
  rw [List.take_append_of_le_length h]
theorem drop_bl {l y : List UInt8} {n : Nat} (h : n ≤ l.length) : (l ++ 32 :: y).drop n = l.drop n ++ 32 :: y := by
  rw [List.drop_append_of_le_length h]
/-- Behind the end: class 0 without, class 6 with the line's end. -/
theorem clsHd_drop_bl {l y : List UInt8} {n : Nat} (h : n ≤ l.length) : clsHd ((l ++ 32 :: y).drop n) = clsHd (l.drop n) ∨ (clsHd ((l ++ 32 :: y).drop n) = 6 ∧ clsHd (l.drop n) = 0) := by
  rw [drop_bl h]
  cases hl : l.drop n with
  | nil => exact .inr ⟨rfl, rfl⟩
  | cons c r => exact .inl rfl
theorem clsHd_iff_bl {l y : List UInt8} {n k : Nat} (h : n ≤ l.length) (h0 : k ≠ 0) (h6 : k ≠ 6) : clsHd ((l ++ 32 :: y).drop n) = k ↔ clsHd (l.drop n) = k := by
  rcases clsHd_drop_bl (y := y) h with e | ⟨e1, e2⟩
  · rw [e]
  · rw [e1, e2]; omega
theorem nsB_bl {l y : List UInt8} {n : Nat} (h : n ≤ l.length) : nsB (clsHd ((l ++ 32 :: y).drop n)) = nsB (clsHd (l.drop n)) := by
  rcases clsHd_drop_bl (y := y) h with e | ⟨e1, e2⟩
  · rw [e]
  · rw [e1, e2]; rfl
theorem hdN_bl {l y : List UInt8} {n : Nat} (h : n ≤ l.length) : hdN ((l ++ 32 :: y).drop n) = 46 ↔ hdN (l.drop n) = 46 := by
  rw [drop_bl h]
  cases hl : l.drop n with
  | nil => simp [hdN]
  | cons c r => simp [hdN]
theorem prefix_bl (a b : UInt8) (hb : b ≠ 32) (ha : a ≠ 32) (l y : List UInt8) : [a, b].isPrefixOf (l ++ 32 :: y) = [a, b].isPrefixOf l := by
  match l with
  | [] => simp [List.isPrefixOf, ha]
  | [c] => simp [List.isPrefixOf, hb]
  | c :: d :: r => simp [List.isPrefixOf]
theorem numGo_bl (b : Nat) (hb : b ≤ 16) (l y : List UInt8) (n : Nat) : numGo b (l ++ 32 :: y) n = numGo b l n := by
  induction l generalizing n with
  | nil => simp [numGo, show digOf 32 = 16 from rfl]; omega
  | cons c r ih => simp only [List.cons_append, numGo, ih]
theorem dig_bl (l y : List UInt8) : digL (l ++ 32 :: y) = digL l := by
  cases l <;> rfl
theorem hex_bl (l y : List UInt8) : hexB (l ++ 32 :: y) = hexB l := by
  unfold hexB
  rw [prefix_bl 48 120 (by decide) (by decide)]
  match l with
  | [] => rfl
  | [c] => simp [List.isPrefixOf]
  | c :: d :: r =>
    rw [drop_bl (by simp), dig_bl]
theorem num_bl {l y : List UInt8} (h : l ≠ []) {v n : Nat} (hn : numL l = some (v, n)) : numL (l ++ 32 :: y) = some (v, n) := by
  unfold numL at hn ⊢
  rw [hex_bl]
  have hh : (l ++ 32 :: y).head? = l.head? := by
    cases l with
    | nil => exact absurd rfl h
    | cons c r => rfl
  rw [hh]
  cases hx : hexB l
  · simp only [hx, Bool.false_eq_true, if_false, List.drop_zero, Nat.zero_add] at hn ⊢
    rw [numGo_bl 10 (by omega)]
    cases hg : numGo 10 l 0 with
    | none => rw [hg] at hn; cases hn
    | some x =>
      rw [hg] at hn
      simp only [] at hn ⊢
      have hl := numGo_le hg
      rw [nsB_bl hl]
      exact hn
  · simp only [hx, if_true] at hn ⊢
    have h2 : 2 ≤ l.length := by
      unfold hexB at hx
      match l with
      | [] => simp [List.isPrefixOf] at hx
      | [c] => simp [List.isPrefixOf] at hx
      | c :: d :: r => simp
    rw [drop_bl h2, numGo_bl 16 (by omega)]
    cases hg : numGo 16 (l.drop 2) 0 with
    | none => rw [hg] at hn; cases hn
    | some x =>
      rw [hg] at hn
      simp only [] at hn ⊢
      have hl := numGo_le hg
      rw [List.length_drop] at hl
      rw [nsB_bl (by omega)]
      exact hn

theorem charL_bl {l y : List UInt8} (hl : l ≠ []) {v n : Nat} (h : charL l = some (v, n)) : charL (l ++ 32 :: y) = some (v, n) := by
  have h1 : 1 ≤ l.length := by
    cases l with
    | nil => exact absurd rfl hl
    | cons c r => simp
  unfold charL at h ⊢
  rw [drop_bl h1]
  cases hq : quotedL 39 (l.drop 1) with
  | none => rw [hq] at h; cases h
  | some x =>
    obtain ⟨b, m⟩ := x
    rw [hq] at h
    rw [quotedL_nl hq]
    simp only [] at h ⊢
    have hm := quotedL_pos hq
    rw [List.length_drop] at hm
    by_cases h4 : clsHd (l.drop (1 + m)) = 4
    · rw [if_pos h4] at h
      rw [if_pos ((clsHd_iff_bl (by omega) (by decide) (by decide)).2 h4)]
      exact h
    · rw [if_neg h4] at h; cases h
theorem strL_bl {l y : List UInt8} {t : List UInt8} {n : Nat} (h : strL l = some (t, n)) : strL (l ++ 32 :: y) = some (t, n) := by
  induction l using strInd generalizing t n with
  | case1 l h7 =>
    rw [strL_end h7] at h
    have hl : l ≠ [] := by
      intro e
      rw [e] at h7
      cases h7
    rw [strL_end (by rw [clsHd_bl hl]; exact h7)]
    exact h
  | case2 l h7 hq => rw [strL_none h7 hq] at h; cases h
  | case3 l h7 b m hq ih =>
    rw [strL_some h7 hq] at h
    have hp := quotedL_pos hq
    have hl : l ≠ [] := by
      intro e
      rw [e] at hp
      simp at hp
      omega
    simp only [Option.map_eq_some_iff, Prod.exists] at h
    obtain ⟨t', n', h1, h2⟩ := h
    rw [strL_some (by rw [clsHd_bl hl]; exact h7) (quotedL_nl hq), drop_bl hp.2.1, ih h1]
    simp only [Option.map_some]
    rw [h2]
theorem name_bl (l y : List UInt8) : nameLen (l ++ 32 :: y) = nameLen l := span_bl nsB rfl l y
theorem run_bl (l y : List UInt8) : runLen (l ++ 32 :: y) = runLen l := span_bl (· == 8) rfl l y
theorem upperL_bl (l y : List UInt8) : upperL (l ++ 32 :: y) = upperL l := by
  unfold upperL
  rw [name_bl]
  have hle := name_le l
  by_cases h46 : hdN (l.drop (nameLen l)) = 46
  · have hlt := hdN_len h46
    rw [if_pos h46, if_pos ((hdN_bl hle).2 h46), drop_bl (by omega : nameLen l + 1 ≤ l.length), name_bl, take_bl (name_le _)]
    have e2 := clsHd_iff_bl (y := y) (k := 2) (by omega : nameLen l + 1 ≤ l.length) (by decide) (by decide)
    have e1 := clsHd_iff_bl (y := y) (k := 1) (by omega : nameLen l + 1 ≤ l.length) (by decide) (by decide)
    rw [drop_bl (by omega : nameLen l + 1 ≤ l.length)] at e1 e2
    simp only [e1, e2]
  · rw [if_neg h46, if_neg (fun h => h46 ((hdN_bl hle).1 h))]

theorem tokL_bl {l y : List UInt8} (hl : l ≠ []) {x : Nat × List UInt8 × Nat × Nat} (h : tokL l = .ok x) : tokL (l ++ 32 :: y) = .ok x := by
  have h1 : 1 ≤ l.length := by
    cases l with
    | nil => exact absurd rfl hl
    | cons c r => simp
  unfold tokL at h ⊢
  rw [clsHd_bl hl, name_bl, run_bl, upperL_bl, take_bl (name_le l), take_bl (run_le l), take_bl h1, drop_bl h1]
  split
  · rename_i hc; rw [if_pos hc] at h; exact h
  rename_i hc; rw [if_neg hc] at h; clear hc
  split
  · rename_i hc
    rw [if_pos hc] at h
    rw [take_bl (upperL_pos hc).2]
    exact h
  rename_i hc; rw [if_neg hc] at h; clear hc
  split
  · rename_i hc
    rw [if_pos hc] at h
    cases hq : numL l with
    | none => rw [hq] at h; cases h
    | some z => rw [hq] at h; rw [num_bl hl (v := z.1) (n := z.2) hq]; exact h
  rename_i hc; rw [if_neg hc] at h; clear hc
  split
  · rename_i hc
    rw [if_pos hc] at h
    cases hq : charL l with
    | none => rw [hq] at h; cases h
    | some z => rw [hq] at h; rw [charL_bl hl (v := z.1) (n := z.2) hq]; exact h
  rename_i hc; rw [if_neg hc] at h; clear hc
  split
  · rename_i hc
    rw [if_pos hc] at h
    cases hq : strL (l.drop 1) with
    | none => rw [hq] at h; cases h
    | some z => rw [hq] at h; rw [strL_bl (t := z.1) (n := z.2) hq]; exact h
  rename_i hc; rw [if_neg hc] at h; clear hc
  split
  · rename_i hc; rw [if_pos hc] at h; exact h
  rename_i hc; rw [if_neg hc] at h; clear hc
  split
  · rename_i hc; rw [if_pos hc] at h; exact h
  rename_i hc; rw [if_neg hc] at h; clear hc
  split
  · rename_i hc
    rw [if_pos hc] at h
    have := nsB_bl (y := y) h1
    rw [drop_bl h1] at this
    rw [this]
    exact h
  · rename_i hc; rw [if_neg hc] at h; exact h

theorem stepL_bl {l y : List UInt8} (hl : l ≠ []) {x : Nat × List UInt8 × Nat} {n : Nat} (h : stepL l = .ok (some x, n)) : stepL (l ++ 32 :: y) = .ok (some x, n) := by
  unfold stepL at h ⊢
  rw [clsHd_bl hl, prefix_bl 123 45 (by decide) (by decide), run_bl, take_bl (run_le l)]
  split
  · rename_i hc; rw [if_pos hc] at h; cases h
  rename_i hc; rw [if_neg hc] at h; clear hc
  split
  · rename_i hc
    rw [if_pos hc] at h
    cases hq : blockL l 0 with
    | none => rw [hq] at h; cases h
    | some z => rw [hq] at h; cases h
  rename_i hc; rw [if_neg hc] at h; clear hc
  split
  · rename_i hc; rw [if_pos hc] at h; cases h
  rename_i hc; rw [if_neg hc] at h; clear hc
  cases hq : tokL l with
  | error c => rw [hq] at h; cases h
  | ok z => rw [hq] at h; rw [tokL_bl hl hq]; exact h
end Go.Proofs.YtkfhdmkdkphmoaaDoor
