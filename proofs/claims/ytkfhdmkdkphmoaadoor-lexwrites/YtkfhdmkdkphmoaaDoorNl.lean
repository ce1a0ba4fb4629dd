/- A piece that ends within a text is the same piece with a line's end and anything behind it. -/
import Derived.Test.YtkfhdmkdkphmoaaDoorStep
namespace Go.Proofs.YtkfhdmkdkphmoaaDoor

theorem clsHd_nl {l y : List UInt8} (h : l ≠ []) : clsHd (l ++ 10 :: y) = clsHd l := by
  cases l with
  | nil => exact absurd rfl h
  | cons c r => rfl
theorem span_nl (p : Nat → Bool) (h6 : p 6 = false) (l y : List UInt8) : spanLen p (l ++ 10 :: y) = spanLen p l := by
  induction l with
  | nil => simp [spanLen, show cls 10 = 6 from rfl, h6]
  | cons c r ih => simp only [List.cons_append, spanLen]; rw [ih]
theorem take_nl {l y : List UInt8} {n : Nat} (h : n ≤ l.length) : (l ++ 10 :: y).take n = l.take n := by
  rw [List.take_append_of_le_length h]
theorem drop_nl {l y : List UInt8} {n : Nat} (h : n ≤ l.length) : (l ++ 10 :: y).drop n = l.drop n ++ 10 :: y := by
  rw [List.drop_append_of_le_length h]
/-- Behind the end: class 0 without, class 6 with the line's end. -/
theorem clsHd_drop_nl {l y : List UInt8} {n : Nat} (h : n ≤ l.length) : clsHd ((l ++ 10 :: y).drop n) = clsHd (l.drop n) ∨ (clsHd ((l ++ 10 :: y).drop n) = 6 ∧ clsHd (l.drop n) = 0) := by
  rw [drop_nl h]
  cases hl : l.drop n with
  | nil => exact .inr ⟨rfl, rfl⟩
  | cons c r => exact .inl rfl
theorem clsHd_iff_nl {l y : List UInt8} {n k : Nat} (h : n ≤ l.length) (h0 : k ≠ 0) (h6 : k ≠ 6) : clsHd ((l ++ 10 :: y).drop n) = k ↔ clsHd (l.drop n) = k := by
  rcases clsHd_drop_nl (y := y) h with e | ⟨e1, e2⟩
  · rw [e]
  · rw [e1, e2]; omega
theorem nsB_nl {l y : List UInt8} {n : Nat} (h : n ≤ l.length) : nsB (clsHd ((l ++ 10 :: y).drop n)) = nsB (clsHd (l.drop n)) := by
  rcases clsHd_drop_nl (y := y) h with e | ⟨e1, e2⟩
  · rw [e]
  · rw [e1, e2]; rfl
theorem hdN_nl {l y : List UInt8} {n : Nat} (h : n ≤ l.length) : hdN ((l ++ 10 :: y).drop n) = 46 ↔ hdN (l.drop n) = 46 := by
  rw [drop_nl h]
  cases hl : l.drop n with
  | nil => simp [hdN]
  | cons c r => simp [hdN]
theorem idx_nl (l y : List UInt8) : (l ++ 10 :: y).idxOf 10 = l.idxOf 10 := by
  induction l with
  | nil => simp
  | cons c r ih =>
    rw [List.cons_append, List.idxOf_cons, List.idxOf_cons, ih]
theorem prefix_nl (a b : UInt8) (hb : b ≠ 10) (ha : a ≠ 10) (l y : List UInt8) : [a, b].isPrefixOf (l ++ 10 :: y) = [a, b].isPrefixOf l := by
  match l with
  | [] => simp [List.isPrefixOf, ha]
  | [c] => simp [List.isPrefixOf, hb]
  | c :: d :: r => simp [List.isPrefixOf]
theorem numGo_nl (b : Nat) (hb : b ≤ 16) (l y : List UInt8) (n : Nat) : numGo b (l ++ 10 :: y) n = numGo b l n := by
  induction l generalizing n with
  | nil => simp [numGo, show digOf 10 = 16 from rfl]; omega
  | cons c r ih => simp only [List.cons_append, numGo, ih]
theorem dig_nl (l y : List UInt8) : digL (l ++ 10 :: y) = digL l := by
  cases l <;> rfl
theorem hex_nl (l y : List UInt8) : hexB (l ++ 10 :: y) = hexB l := by
  unfold hexB
  rw [prefix_nl 48 120 (by decide) (by decide)]
  match l with
  | [] => rfl
  | [c] => simp [List.isPrefixOf]
  | c :: d :: r =>
    rw [drop_nl (by simp), dig_nl]
theorem num_nl {l y : List UInt8} (h : l ≠ []) {v n : Nat} (hn : numL l = some (v, n)) : numL (l ++ 10 :: y) = some (v, n) := by
  unfold numL at hn ⊢
  rw [hex_nl]
  have hh : (l ++ 10 :: y).head? = l.head? := by
    cases l with
    | nil => exact absurd rfl h
    | cons c r => rfl
  rw [hh]
  cases hx : hexB l
  · simp only [hx, Bool.false_eq_true, if_false, List.drop_zero, Nat.zero_add] at hn ⊢
    rw [numGo_nl 10 (by omega)]
    cases hg : numGo 10 l 0 with
    | none => rw [hg] at hn; cases hn
    | some x =>
      rw [hg] at hn
      simp only [] at hn ⊢
      have hl := numGo_le hg
      rw [nsB_nl hl]
      exact hn
  · simp only [hx, if_true] at hn ⊢
    have h2 : 2 ≤ l.length := by
      unfold hexB at hx
      match l with
      | [] => simp [List.isPrefixOf] at hx
      | [c] => simp [List.isPrefixOf] at hx
      | c :: d :: r => simp
    rw [drop_nl h2, numGo_nl 16 (by omega)]
    cases hg : numGo 16 (l.drop 2) 0 with
    | none => rw [hg] at hn; cases hn
    | some x =>
      rw [hg] at hn
      simp only [] at hn ⊢
      have hl := numGo_le hg
      rw [List.length_drop] at hl
      rw [nsB_nl (by omega)]
      exact hn

theorem esc3_nl {l z : List UInt8} {b n : Nat} (h : esc3 l = some (b, n)) : esc3 (l ++ z) = some (b, n) := by
  match l with
  | [] => simp [esc3, clsHd] at h
  | [c] => simp [esc3, clsHd] at h
  | [c, d] => simp [esc3, clsHd] at h
  | c :: d :: e :: r => exact h
theorem escL_nl {l z : List UInt8} {b n : Nat} (h : escL l = some (b, n)) : escL (l ++ z) = some (b, n) := by
  cases l with
  | nil => simp [escL] at h
  | cons c r =>
    rw [List.cons_append]
    rw [escL] at h ⊢
    split
    · rename_i hc; rw [if_pos hc] at h; exact h
    · rename_i hc
      rw [if_neg hc] at h
      split
      · rename_i hc2; rw [if_pos hc2] at h; exact h
      · rename_i hc2
        rw [if_neg hc2] at h
        split
        · rename_i hc3; rw [if_pos hc3] at h; exact h
        · rename_i hc3
          rw [if_neg hc3] at h
          exact esc3_nl h
theorem quotedL_nl {a : Nat} {l z : List UInt8} {b n : Nat} (h : quotedL a l = some (b, n)) : quotedL a (l ++ z) = some (b, n) := by
  cases l with
  | nil => simp [quotedL] at h
  | cons c r =>
    rw [List.cons_append]
    rw [quotedL] at h ⊢
    split
    · rename_i hc
      rw [if_pos hc] at h
      simp only [Option.map_eq_some_iff, Prod.exists] at h ⊢
      obtain ⟨b', n', h1, h2⟩ := h
      exact ⟨b', n', escL_nl h1, h2⟩
    · rename_i hc
      rw [if_neg hc] at h
      exact h
theorem charL_nl {l y : List UInt8} (hl : l ≠ []) {v n : Nat} (h : charL l = some (v, n)) : charL (l ++ 10 :: y) = some (v, n) := by
  have h1 : 1 ≤ l.length := by
    cases l with
    | nil => exact absurd rfl hl
    | cons c r => simp
  unfold charL at h ⊢
  rw [drop_nl h1]
  cases hq : quotedL 39 (l.drop 1) with
  | none => rw [hq] at h; cases h
  | some x =>
    obtain ⟨b, m⟩ := x
    rw [hq] at h
    rw [quotedL_nl hq]
    simp only [] at h ⊢
    have hm := quotedL_pos hq
    rw [List.length_drop] at hm
    by_cases h4 : clsHd (l.drop (1 + m)) = 4
    · rw [if_pos h4] at h
      rw [if_pos ((clsHd_iff_nl (by omega) (by decide) (by decide)).2 h4)]
      exact h
    · rw [if_neg h4] at h; cases h
theorem strL_nl {l y : List UInt8} {t : List UInt8} {n : Nat} (h : strL l = some (t, n)) : strL (l ++ 10 :: y) = some (t, n) := by
  induction l using strInd generalizing t n with
  | case1 l h7 =>
    rw [strL_end h7] at h
    have hl : l ≠ [] := by
      intro e
      rw [e] at h7
      cases h7
    rw [strL_end (by rw [clsHd_nl hl]; exact h7)]
    exact h
  | case2 l h7 hq => rw [strL_none h7 hq] at h; cases h
  | case3 l h7 b m hq ih =>
    rw [strL_some h7 hq] at h
    have hp := quotedL_pos hq
    have hl : l ≠ [] := by
      intro e
      rw [e] at hp
      simp at hp
      omega
    simp only [Option.map_eq_some_iff, Prod.exists] at h
    obtain ⟨t', n', h1, h2⟩ := h
    rw [strL_some (by rw [clsHd_nl hl]; exact h7) (quotedL_nl hq), drop_nl hp.2.1, ih h1]
    simp only [Option.map_some]
    rw [h2]
theorem blockL_nl {l z : List UInt8} {o n : Nat} (h : blockL l o = some n) : blockL (l ++ z) o = some n := by
  induction l, o using blockL.induct generalizing n with
  | case1 r o ih =>
    rw [blockL] at h
    simp only [Option.map_eq_some_iff] at h
    obtain ⟨m, hm, rfl⟩ := h
    simp only [List.cons_append]
    rw [blockL, ih hm]
    rfl
  | case2 r o ho =>
    rw [blockL, if_pos ho] at h
    simp only [List.cons_append]
    rw [blockL, if_pos ho]
    exact h
  | case3 r o ho ih =>
    rw [blockL, if_neg ho] at h
    simp only [Option.map_eq_some_iff] at h
    obtain ⟨m, hm, rfl⟩ := h
    simp only [List.cons_append]
    rw [blockL, if_neg ho, ih hm]
    rfl
  | case4 c r o h1 h2 ih =>
    rw [blockL] at h
    · simp only [Option.map_eq_some_iff] at h
      obtain ⟨m, hm, rfl⟩ := h
      have hr : r ≠ [] := by
        intro e
        rw [e] at hm
        simp [blockL] at hm
      simp only [List.cons_append]
      rw [blockL, ih hm]
      · rfl
      · intro r' hc hr'
        cases r with
        | nil => exact hr rfl
        | cons d r2 =>
          simp only [List.cons_append, List.cons.injEq] at hr'
          exact h1 r2 hc (by rw [hr'.1])
      · intro r' hc hr'
        cases r with
        | nil => exact hr rfl
        | cons d r2 =>
          simp only [List.cons_append, List.cons.injEq] at hr'
          exact h2 r2 hc (by rw [hr'.1])
    · exact h1
    · exact h2
  | case5 o => simp [blockL] at h

theorem hdN_len {l : List UInt8} {n : Nat} (h : hdN (l.drop n) = 46) : n < l.length := by
  by_cases hn : n < l.length
  · exact hn
  · rw [List.drop_eq_nil_of_le (by omega)] at h; cases h
theorem name_nl (l y : List UInt8) : nameLen (l ++ 10 :: y) = nameLen l := span_nl nsB rfl l y
theorem run_nl (l y : List UInt8) : runLen (l ++ 10 :: y) = runLen l := span_nl (· == 8) rfl l y
theorem name_le (l : List UInt8) : nameLen l ≤ l.length := spanLen_le _ _
theorem run_le (l : List UInt8) : runLen l ≤ l.length := spanLen_le _ _
theorem upperL_nl (l y : List UInt8) : upperL (l ++ 10 :: y) = upperL l := by
  unfold upperL
  rw [name_nl]
  have hle := name_le l
  by_cases h46 : hdN (l.drop (nameLen l)) = 46
  · have hlt := hdN_len h46
    rw [if_pos h46, if_pos ((hdN_nl hle).2 h46), drop_nl (by omega : nameLen l + 1 ≤ l.length), name_nl, take_nl (name_le _)]
    have e2 := clsHd_iff_nl (y := y) (k := 2) (by omega : nameLen l + 1 ≤ l.length) (by decide) (by decide)
    have e1 := clsHd_iff_nl (y := y) (k := 1) (by omega : nameLen l + 1 ≤ l.length) (by decide) (by decide)
    rw [drop_nl (by omega : nameLen l + 1 ≤ l.length)] at e1 e2
    simp only [e1, e2]
  · rw [if_neg h46, if_neg (fun h => h46 ((hdN_nl hle).1 h))]

theorem tokL_nl {l y : List UInt8} (hl : l ≠ []) {x : Nat × List UInt8 × Nat × Nat} (h : tokL l = .ok x) : tokL (l ++ 10 :: y) = .ok x := by
  have h1 : 1 ≤ l.length := by
    cases l with
    | nil => exact absurd rfl hl
    | cons c r => simp
  unfold tokL at h ⊢
  rw [clsHd_nl hl, name_nl, run_nl, upperL_nl, take_nl (name_le l), take_nl (run_le l), take_nl h1, drop_nl h1]
  split
  · rename_i hc; rw [if_pos hc] at h; exact h
  rename_i hc; rw [if_neg hc] at h; clear hc
  split
  · rename_i hc
    rw [if_pos hc] at h
    rw [take_nl (upperL_pos hc).2]
    exact h
  rename_i hc; rw [if_neg hc] at h; clear hc
  split
  · rename_i hc
    rw [if_pos hc] at h
    cases hq : numL l with
    | none => rw [hq] at h; cases h
    | some z => rw [hq] at h; rw [num_nl hl (v := z.1) (n := z.2) hq]; exact h
  rename_i hc; rw [if_neg hc] at h; clear hc
  split
  · rename_i hc
    rw [if_pos hc] at h
    cases hq : charL l with
    | none => rw [hq] at h; cases h
    | some z => rw [hq] at h; rw [charL_nl hl (v := z.1) (n := z.2) hq]; exact h
  rename_i hc; rw [if_neg hc] at h; clear hc
  split
  · rename_i hc
    rw [if_pos hc] at h
    cases hq : strL (l.drop 1) with
    | none => rw [hq] at h; cases h
    | some z => rw [hq] at h; rw [strL_nl (t := z.1) (n := z.2) hq]; exact h
  rename_i hc; rw [if_neg hc] at h; clear hc
  split
  · rename_i hc; rw [if_pos hc] at h; exact h
  rename_i hc; rw [if_neg hc] at h; clear hc
  split
  · rename_i hc; rw [if_pos hc] at h; exact h
  rename_i hc; rw [if_neg hc] at h; clear hc
  split
  · rename_i hc
    rw [if_pos hc] at h
    have := nsB_nl (y := y) h1
    rw [drop_nl h1] at this
    rw [this]
    exact h
  · rename_i hc; rw [if_neg hc] at h; exact h

theorem stepL_nl {l y : List UInt8} (hl : l ≠ []) {x : Option (Nat × List UInt8 × Nat) × Nat} (h : stepL l = .ok x) : stepL (l ++ 10 :: y) = .ok x := by
  unfold stepL at h ⊢
  rw [clsHd_nl hl, prefix_nl 123 45 (by decide) (by decide), run_nl, take_nl (run_le l), idx_nl]
  split
  · rename_i hc; rw [if_pos hc] at h; exact h
  rename_i hc; rw [if_neg hc] at h; clear hc
  split
  · rename_i hc
    rw [if_pos hc] at h
    cases hq : blockL l 0 with
    | none => rw [hq] at h; cases h
    | some z => rw [hq] at h; rw [blockL_nl hq]; exact h
  rename_i hc; rw [if_neg hc] at h; clear hc
  split
  · rename_i hc; rw [if_pos hc] at h; exact h
  rename_i hc; rw [if_neg hc] at h; clear hc
  cases hq : tokL l with
  | error c => rw [hq] at h; cases h
  | ok z => rw [hq] at h; rw [tokL_nl hl hq]; exact h
end Go.Proofs.YtkfhdmkdkphmoaaDoor
