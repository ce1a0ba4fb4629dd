/- Where a text is cut at the end of one of its pieces, what stands ahead is cut as it was; tokens stand in the text as they are told: the plain side of LexAhead. -/
import Derived.Test.YtkfhdmkdkphmoabDoorCut
namespace Go.Proofs.YtkfhdmkdkphmoabDoor

theorem span_take (p : Nat → Bool) (l : List UInt8) (n : Nat) : spanLen p (l.take n) = min n (spanLen p l) := by
  induction l generalizing n with
  | nil => simp [spanLen]
  | cons c r ih =>
    cases n with
    | zero => simp [spanLen]
    | succ n =>
      simp only [List.take_succ_cons, spanLen]
      split
      · rw [ih]; omega
      · omega
theorem clsHd_take {l : List UInt8} {n : Nat} (h : 1 ≤ n) : clsHd (l.take n) = clsHd l := by
  cases l with
  | nil => simp
  | cons c r =>
    cases n with
    | zero => omega
    | succ n => rfl
theorem hdN_take {l : List UInt8} {n : Nat} (h : 1 ≤ n) : hdN (l.take n) = hdN l := by
  cases l with
  | nil => simp
  | cons c r =>
    cases n with
    | zero => omega
    | succ n => rfl
theorem digL_take {l : List UInt8} {n : Nat} (h : 1 ≤ n) : digL (l.take n) = digL l := by
  cases l with
  | nil => simp
  | cons c r =>
    cases n with
    | zero => omega
    | succ n => rfl
theorem prefix_take {a b : UInt8} {l : List UInt8} {n : Nat} (h : ¬ [a, b].isPrefixOf l = true) : ¬ [a, b].isPrefixOf (l.take n) = true := by
  match l, n with
  | [], _ => simp
  | _ :: _, 0 => simp
  | c :: r, 1 => simp [List.isPrefixOf]
  | [c], n + 2 => simp [List.isPrefixOf]
  | c :: d :: r, n + 2 => simpa [List.isPrefixOf] using h
theorem prefix_take2 {a b : UInt8} {l : List UInt8} {n : Nat} (h2 : 2 ≤ n) (h : [a, b].isPrefixOf l = true) : [a, b].isPrefixOf (l.take n) = true := by
  match l, n with
  | [], _ => simp at h
  | _, 0 => omega
  | _, 1 => omega
  | [c], n + 2 => simp [List.isPrefixOf] at h
  | c :: d :: r, n + 2 => simpa [List.isPrefixOf] using h
theorem run_zero {l : List UInt8} (h : clsHd l ≠ 8) : runLen l = 0 := by
  cases l with
  | nil => rfl
  | cons c r =>
    show spanLen (· == 8) (c :: r) = 0
    have : ¬ cls c.toNat = 8 := h
    simp [spanLen, this]
theorem clsHd_drop_take {l : List UInt8} {n q : Nat} (h : n < q) : clsHd ((l.take q).drop n) = clsHd (l.drop n) := by
  rw [List.drop_take]; exact clsHd_take (by omega)
theorem nsB_take {l : List UInt8} {n q : Nat} (h : n ≤ q) (h0 : nsB (clsHd (l.drop n)) = false) : nsB (clsHd ((l.take q).drop n)) = false := by
  by_cases h' : n < q
  · rw [clsHd_drop_take h']; exact h0
  · rw [show q = n by omega, List.drop_take, Nat.sub_self, List.take_zero]; rfl

theorem numGo_take {b : Nat} : ∀ (l : List UInt8) (n v m q : Nat), numGo b l n = some (v, m) → m ≤ q → numGo b (l.take q) n = some (v, m) := by
  intro l
  induction l with
  | nil => intro n v m q h _; simpa using h
  | cons c r ih =>
    intro n v m q h hq
    rw [numGo] at h
    split at h
    · rename_i hd
      split at h
      · cases h
      · rename_i hn
        simp only [Option.map_eq_some_iff, Prod.exists] at h
        obtain ⟨v', m', h1, h2⟩ := h
        simp at h2
        obtain ⟨rfl, rfl⟩ := h2
        cases q with
        | zero => omega
        | succ q =>
          rw [List.take_succ_cons, numGo, if_pos hd, if_neg hn, ih _ _ _ _ h1 (by omega)]
          rfl
    · rename_i hd
      simp at h
      obtain ⟨rfl, rfl⟩ := h
      cases q with
      | zero => simp [numGo]
      | succ q => rw [List.take_succ_cons, numGo, if_neg hd]
theorem hex_take_f {l : List UInt8} {q : Nat} (h : hexB l = false) : hexB (l.take q) = false := by
  cases hx : hexB (l.take q) with
  | false => rfl
  | true =>
    unfold hexB at hx h
    simp only [Bool.and_eq_true, decide_eq_true_eq] at hx
    have hp : [48, 120].isPrefixOf l = true := by
      cases hp : [48, 120].isPrefixOf l with
      | true => rfl
      | false => exact absurd hx.1 (prefix_take (by rw [hp]; simp))
    rw [hp] at h
    have hd := hx.2
    rw [List.drop_take] at hd
    by_cases h2 : 1 ≤ q - 2
    · rw [digL_take h2] at hd
      simp at h
      omega
    · rw [show q - 2 = 0 by omega, List.take_zero] at hd
      exact absurd hd (by decide)
theorem hex_take_t {l : List UInt8} {q : Nat} (hq : 3 ≤ q) (h : hexB l = true) : hexB (l.take q) = true := by
  unfold hexB at h ⊢
  simp only [Bool.and_eq_true, decide_eq_true_eq] at h ⊢
  refine ⟨prefix_take2 (by omega) h.1, ?_⟩
  rw [List.drop_take, digL_take (by omega)]
  exact h.2
theorem head_take {l : List UInt8} {q : Nat} (hq : 1 ≤ q) : (l.take q).head? = l.head? := by
  cases l with
  | nil => simp
  | cons c r =>
    cases q with
    | zero => omega
    | succ q => rfl
theorem num_take {l : List UInt8} {v n q : Nat} (h : numL l = some (v, n)) (hn : 1 ≤ n) (hq : n ≤ q) : numL (l.take q) = some (v, n) := by
  unfold numL at h ⊢
  cases hx : hexB l
  · rw [hex_take_f hx]
    simp only [hx, Bool.false_eq_true, if_false, List.drop_zero, Nat.zero_add] at h ⊢
    cases hg : numGo 10 l 0 with
    | none => rw [hg] at h; cases h
    | some y =>
      obtain ⟨v', m'⟩ := y
      rw [hg] at h
      simp only [] at h
      split at h
      · cases h
      · rename_i hc
        simp at h
        obtain ⟨rfl, rfl⟩ := h
        rw [numGo_take _ _ _ _ _ hg hq]
        simp only []
        rw [head_take (by omega), if_neg]
        intro hh
        rcases hh with hh | hh
        · exact hc (.inl hh)
        · have := nsB_take (l := l) hq (by
            cases hz : nsB (clsHd (l.drop m')) with
            | false => rfl
            | true => exact absurd (.inr hz) hc)
          rw [this] at hh
          cases hh
  · simp only [hx, if_true] at h
    cases hg : numGo 16 (l.drop 2) 0 with
    | none => rw [hg] at h; cases h
    | some y =>
      obtain ⟨v', m'⟩ := y
      rw [hg] at h
      simp only [] at h
      split at h
      · cases h
      · rename_i hc
        simp at h
        obtain ⟨rfl, rfl⟩ := h
        have hm : 1 ≤ m' := by
          unfold hexB at hx
          simp only [Bool.and_eq_true, decide_eq_true_eq] at hx
          cases hd : l.drop 2 with
          | nil => rw [hd] at hx; exact absurd hx.2 (by decide)
          | cons c r =>
            rw [hd] at hx hg
            have : digOf c.toNat < 16 := hx.2
            rw [numGo, if_pos this] at hg
            split at hg
            · cases hg
            · simp only [Option.map_eq_some_iff, Prod.exists] at hg
              obtain ⟨_, m2, _, h2⟩ := hg
              simp at h2
              omega
        rw [hex_take_t (by omega) hx]
        simp only [if_true]
        rw [List.drop_take, numGo_take _ _ _ _ _ hg (by omega)]
        simp only []
        rw [if_neg]
        intro hh
        rcases hh with hh | hh
        · exact absurd hh.1 (by decide)
        · have := nsB_take (l := l) hq (by
            cases hz : nsB (clsHd (l.drop (2 + m'))) with
            | false => rfl
            | true => exact absurd (.inr hz) hc)
          rw [this] at hh
          cases hh

theorem esc3_take {l : List UInt8} {b n q : Nat} (h : esc3 l = some (b, n)) (hq : n ≤ q) : esc3 (l.take q) = some (b, n) := by
  have h3 : n = 3 := by
    unfold esc3 at h
    split at h
    · simp at h; omega
    · cases h
  match l, q with
  | [], _ => simp [esc3, clsHd] at h
  | [c], _ => simp [esc3, clsHd] at h
  | [c, d], _ => simp [esc3, clsHd] at h
  | _, 0 => omega
  | _, 1 => omega
  | _, 2 => omega
  | c :: d :: e :: r, q + 3 => exact h
theorem escL_take {l : List UInt8} {b n q : Nat} (h : escL l = some (b, n)) (hq : n ≤ q) : escL (l.take q) = some (b, n) := by
  have hp := escL_pos h
  cases l with
  | nil => simp [escL] at h
  | cons c r =>
    cases q with
    | zero => omega
    | succ q =>
      rw [List.take_succ_cons]
      rw [escL] at h ⊢
      split
      · rename_i hc; rw [if_pos hc] at h; exact h
      · rename_i hc
        rw [if_neg hc] at h
        split
        · rename_i hc2; rw [if_pos hc2] at h; exact h
        · rename_i hc2
          rw [if_neg hc2] at h
          split
          · rename_i hc3; rw [if_pos hc3] at h; exact h
          · rename_i hc3
            rw [if_neg hc3] at h
            exact esc3_take (l := c :: r) (q := q + 1) h hq
theorem quotedL_take {a : Nat} {l : List UInt8} {b n q : Nat} (h : quotedL a l = some (b, n)) (hq : n ≤ q) : quotedL a (l.take q) = some (b, n) := by
  have hp := quotedL_pos h
  cases l with
  | nil => simp [quotedL] at h
  | cons c r =>
    cases q with
    | zero => omega
    | succ q =>
      rw [List.take_succ_cons]
      rw [quotedL] at h ⊢
      split
      · rename_i hc
        rw [if_pos hc] at h
        simp only [Option.map_eq_some_iff, Prod.exists] at h ⊢
        obtain ⟨b', n', h1, h2⟩ := h
        simp at h2
        exact ⟨b', n', escL_take h1 (by omega), by simp; omega⟩
      · rename_i hc
        rw [if_neg hc] at h
        exact h
theorem charL_take {l : List UInt8} {v n q : Nat} (h : charL l = some (v, n)) (hq : n ≤ q) : charL (l.take q) = some (v, n) := by
  unfold charL at h ⊢
  cases hqd : quotedL 39 (l.drop 1) with
  | none => rw [hqd] at h; cases h
  | some x =>
    obtain ⟨b, m⟩ := x
    rw [hqd] at h
    simp only [] at h
    split at h
    · rename_i h4
      simp at h
      obtain ⟨rfl, rfl⟩ := h
      rw [List.drop_take, quotedL_take hqd (by omega)]
      simp only []
      rw [clsHd_drop_take (by omega), if_pos h4]
    · cases h
theorem strL_take {l : List UInt8} {t : List UInt8} {n q : Nat} (h : strL l = some (t, n)) (hq : n ≤ q) : strL (l.take q) = some (t, n) := by
  induction l using strInd generalizing t n q with
  | case1 l h7 =>
    rw [strL_end h7] at h
    simp at h
    obtain ⟨rfl, rfl⟩ := h
    exact strL_end (by rw [clsHd_take hq]; exact h7)
  | case2 l h7 hqq => rw [strL_none h7 hqq] at h; cases h
  | case3 l h7 b m hqq ih =>
    rw [strL_some h7 hqq] at h
    have hp := quotedL_pos hqq
    simp only [Option.map_eq_some_iff, Prod.exists] at h
    obtain ⟨t', n', h1, h2⟩ := h
    simp at h2
    obtain ⟨rfl, rfl⟩ := h2
    rw [strL_some (by rw [clsHd_take (by omega)]; exact h7) (quotedL_take hqq (by omega)), List.drop_take, ih h1 (by omega)]
    rfl
theorem blockL_take {l : List UInt8} {o n q : Nat} (h : blockL l o = some n) (hq : n ≤ q) : blockL (l.take q) o = some n := by
  induction l, o using blockL.induct generalizing n q with
  | case1 r o ih =>
    rw [blockL] at h
    simp only [Option.map_eq_some_iff] at h
    obtain ⟨m, hm, rfl⟩ := h
    match q with
    | 0 => omega
    | 1 => omega
    | q + 2 =>
      rw [List.take_succ_cons, List.take_succ_cons, blockL, ih hm (by omega)]
      rfl
  | case2 r o ho =>
    rw [blockL, if_pos ho] at h
    simp at h
    match q with
    | 0 => omega
    | 1 => omega
    | q + 2 =>
      rw [List.take_succ_cons, List.take_succ_cons, blockL, if_pos ho, ← h]
  | case3 r o ho ih =>
    rw [blockL, if_neg ho] at h
    simp only [Option.map_eq_some_iff] at h
    obtain ⟨m, hm, rfl⟩ := h
    match q with
    | 0 => omega
    | 1 => omega
    | q + 2 =>
      rw [List.take_succ_cons, List.take_succ_cons, blockL, if_neg ho, ih hm (by omega)]
      rfl
  | case4 c r o h1 h2 ih =>
    rw [blockL] at h
    · simp only [Option.map_eq_some_iff] at h
      obtain ⟨m, hm, rfl⟩ := h
      cases q with
      | zero => omega
      | succ q =>
        rw [List.take_succ_cons, blockL, ih hm (by omega)]
        · rfl
        · intro r' hc hr'
          cases r with
          | nil => simp at hr'
          | cons d r2 =>
            cases q with
            | zero => simp at hr'
            | succ q =>
              simp only [List.take_succ_cons, List.cons.injEq] at hr'
              exact h1 r2 hc (by rw [hr'.1])
        · intro r' hc hr'
          cases r with
          | nil => simp at hr'
          | cons d r2 =>
            cases q with
            | zero => simp at hr'
            | succ q =>
              simp only [List.take_succ_cons, List.cons.injEq] at hr'
              exact h2 r2 hc (by rw [hr'.1])
    · exact h1
    · exact h2
  | case5 o => simp [blockL] at h
theorem idx_take : ∀ (l : List UInt8) (q : Nat), l.idxOf 10 ≤ q → (l.take q).idxOf 10 = l.idxOf 10 := by
  intro l
  induction l with
  | nil => intro q _; simp
  | cons c r ih =>
    intro q h
    rw [List.idxOf_cons] at h ⊢
    cases hc : c == 10 with
    | true =>
      rw [hc] at h
      cases q with
      | zero => simp
      | succ q => rw [List.take_succ_cons, List.idxOf_cons, hc]; rfl
    | false =>
      rw [hc] at h
      simp at h
      cases q with
      | zero => omega
      | succ q =>
        rw [List.take_succ_cons, List.idxOf_cons, hc, ih q (by omega)]
theorem run_le_idx (l : List UInt8) : runLen l ≤ l.idxOf 10 := by
  show spanLen (· == 8) l ≤ _
  induction l with
  | nil => simp [spanLen]
  | cons c r ih =>
    rw [List.idxOf_cons, spanLen]
    split
    · rename_i h8
      have hc : (c == 10) = false := by
        rw [beq_eq_false_iff_ne]
        intro e
        subst e
        exact absurd h8 (by decide)
      rw [hc]
      simpa using ih
    · omega
end Go.Proofs.YtkfhdmkdkphmoabDoor
