/- Tokens written and read: a token that a text gave is written so that, ahead of a blank or the end, it is read as it was. -/
import Derived.Test.YtkfhdmkdkphmoaaDoorBl
import Derived.Test.YtkfhdmkdkphmoaaDoorWr
import Derived.Lib.ItoaNum
namespace Go.Proofs.YtkfhdmkdkphmoaaDoor

theorem span_take (p : Nat → Bool) (l : List UInt8) (n : Nat) : spanLen p (l.take n) = min n (spanLen p l) := by
  induction l generalizing n with
  | nil => simp [spanLen]
  | cons c r ih =>
    cases n with
    | zero => simp [spanLen]
    | succ n =>
      simp only [List.take_succ_cons, spanLen]
      split
      · rw [ih]; omega
      · omega
theorem clsHd_take {l : List UInt8} {n : Nat} (h : 1 ≤ n) : clsHd (l.take n) = clsHd l := by
  cases l with
  | nil => simp
  | cons c r =>
    cases n with
    | zero => omega
    | succ n => rfl
theorem hdN_take {l : List UInt8} {n : Nat} (h : 1 ≤ n) : hdN (l.take n) = hdN l := by
  cases l with
  | nil => simp
  | cons c r =>
    cases n with
    | zero => omega
    | succ n => rfl
theorem prefix_take {a b : UInt8} {l : List UInt8} {n : Nat} (h : ¬ [a, b].isPrefixOf l = true) : ¬ [a, b].isPrefixOf (l.take n) = true := by
  match l, n with
  | [], _ => simp
  | _ :: _, 0 => simp
  | c :: r, 1 => simp [List.isPrefixOf]
  | [c], n + 2 => simp [List.isPrefixOf]
  | c :: d :: r, n + 2 => simpa [List.isPrefixOf] using h
theorem run_zero {l : List UInt8} (h : clsHd l ≠ 8) : runLen l = 0 := by
  cases l with
  | nil => rfl
  | cons c r =>
    show spanLen (· == 8) (c :: r) = 0
    have : ¬ cls c.toNat = 8 := h
    simp [spanLen, this]

theorem stepL_take_tok {l : List UInt8} {n kd nm : Nat} {tx : List UInt8} (h1 : 1 ≤ n) (hs : stepL l = .ok (some (kd, tx, nm), n)) (ht : tokL (l.take n) = .ok (kd, tx, nm, n)) (hrun : runLen l ≤ n) : stepL (l.take n) = .ok (some (kd, tx, nm), n) := by
  unfold stepL at hs ⊢
  split at hs
  · cases hs
  rename_i h6
  split at hs
  · split at hs <;> cases hs
  rename_i hp
  split at hs
  · cases hs
  rename_i hd
  have hr : runLen (l.take n) = runLen l := by
    show spanLen _ _ = spanLen _ _
    rw [span_take]
    have : spanLen (· == 8) l ≤ n := hrun
    omega
  rw [if_neg (by rw [clsHd_take h1]; exact h6), if_neg (prefix_take hp), hr, List.take_take, show min (runLen l) n = runLen l by omega, if_neg hd, ht]

theorem upperL_take (l : List UInt8) (hc : clsHd l = 2) : upperL (l.take (upperL l).1) = upperL l := by
  have h1 : 1 ≤ nameLen l := spanLen_pos (by rw [hc]; rfl) rfl
  have h2 : nameLen l ≤ l.length := spanLen_le _ _
  by_cases h46 : hdN (l.drop (nameLen l)) = 46
  · have hq : ∀ (k : Nat) , 1 ≤ nameLen (l.drop (nameLen l + 1)) → k = nameLen l + 1 + nameLen (l.drop (nameLen l + 1)) →
        nameLen (l.take k) = nameLen l ∧ hdN ((l.take k).drop (nameLen l)) = 46 ∧ (l.take k).drop (nameLen l + 1) = (l.drop (nameLen l + 1)).take (nameLen (l.drop (nameLen l + 1))) := by
      intro k hk he
      refine ⟨?_, ?_, ?_⟩
      · show spanLen _ _ = _
        rw [span_take]
        show min k (nameLen l) = _
        omega
      · rw [List.drop_take, hdN_take (by omega)]
        exact h46
      · rw [List.drop_take]
        congr 1
        omega
    have hn2 : ∀ x : List UInt8, nameLen (x.take (nameLen x)) = nameLen x := by
      intro x
      show spanLen _ _ = _
      rw [span_take]
      exact Nat.min_self _
    by_cases hc2 : clsHd (l.drop (nameLen l + 1)) = 2
    · have hp : 1 ≤ nameLen (l.drop (nameLen l + 1)) := spanLen_pos (by rw [hc2]; rfl) rfl
      have e : upperL l = (nameLen l + 1 + nameLen (l.drop (nameLen l + 1)), 4) := by unfold upperL; rw [if_pos h46, if_pos hc2]
      obtain ⟨e1, e2, e3⟩ := hq _ hp rfl
      rw [e]
      show upperL (l.take (nameLen l + 1 + nameLen (l.drop (nameLen l + 1)))) = _
      unfold upperL
      rw [e1, e2, e3, if_pos rfl, clsHd_take hp, if_pos hc2, hn2]
    · by_cases hc1 : clsHd (l.drop (nameLen l + 1)) = 1 ∧ isRes ((l.drop (nameLen l + 1)).take (nameLen (l.drop (nameLen l + 1)))) = false
      · have hp : 1 ≤ nameLen (l.drop (nameLen l + 1)) := spanLen_pos (by rw [hc1.1]; rfl) rfl
        have e : upperL l = (nameLen l + 1 + nameLen (l.drop (nameLen l + 1)), 3) := by unfold upperL; rw [if_pos h46, if_neg hc2, if_pos hc1]
        obtain ⟨e1, e2, e3⟩ := hq _ hp rfl
        rw [e]
        show upperL (l.take (nameLen l + 1 + nameLen (l.drop (nameLen l + 1)))) = _
        unfold upperL
        rw [e1, e2, e3, if_pos rfl, clsHd_take hp, if_neg hc2, hn2, List.take_take, Nat.min_self, if_pos hc1]
      · have e : upperL l = (nameLen l, 2) := by unfold upperL; rw [if_pos h46, if_neg hc2, if_neg hc1]
        rw [e]
        show upperL (l.take (nameLen l)) = _
        unfold upperL
        rw [hn2, List.drop_take, Nat.sub_self, List.take_zero, if_neg (by decide)]
  · have e : upperL l = (nameLen l, 2) := by unfold upperL; rw [if_neg h46]
    have hn2 : nameLen (l.take (nameLen l)) = nameLen l := by
      show spanLen _ _ = _
      rw [span_take]
      exact Nat.min_self _
    rw [e]
    show upperL (l.take (nameLen l)) = _
    unfold upperL
    rw [hn2, List.drop_take, Nat.sub_self, List.take_zero, if_neg (by decide)]

/-- A token that some text gives. -/
def GoodT (kd : Nat) (tx : List UInt8) (nm : Nat) : Prop :=
  (kd = 6 ∧ tx = [] ∧ nm ≤ 4611686018427387903) ∨ (kd = 7 ∧ tx = [] ∧ nm ≤ 255) ∨ (kd = 8 ∧ nm = 0) ∨
  (kd ≠ 6 ∧ kd ≠ 7 ∧ kd ≠ 8 ∧ nm = 0 ∧ tx ≠ [] ∧ stepL tx = .ok (some (kd, tx, 0), tx.length))

theorem numGo_max {b : Nat} (hb : 1 ≤ b) (hb2 : b ≤ 16) {l : List UInt8} {n v m : Nat} (hn : n ≤ 4611686018427387903) (h : numGo b l n = some (v, m)) : v ≤ 4611686018427387903 := by
  induction l generalizing n v m with
  | nil => simp [numGo] at h; omega
  | cons c r ih =>
    rw [numGo] at h
    split at h
    · rename_i hd
      split at h
      · cases h
      · rename_i hq
        simp only [Option.map_eq_some_iff, Prod.exists] at h
        obtain ⟨v', m', h1, h2⟩ := h
        have hle : n * b ≤ 4611686018427387903 - digOf c.toNat := (Nat.le_div_iff_mul_le hb).1 (by omega)
        have := ih (by omega) h1
        simp at h2
        omega
    · simp at h; omega
theorem numL_max {l : List UInt8} {v n : Nat} (h : numL l = some (v, n)) : v ≤ 4611686018427387903 := by
  unfold numL at h
  cases hx : hexB l
  · simp only [hx, Bool.false_eq_true, if_false, List.drop_zero, Nat.zero_add] at h
    split at h
    · cases h
    · rename_i v' m' hg
      split at h
      · cases h
      · simp at h
        have := numGo_max (by omega) (by omega) (by omega) hg
        omega
  · simp only [hx, if_true] at h
    split at h
    · cases h
    · rename_i v' m' hg
      split at h
      · cases h
      · simp at h
        have := numGo_max (by omega) (by omega) (by omega) hg
        omega

theorem good_of_step {l : List UInt8} {kd nm n : Nat} {tx : List UInt8} (h : stepL l = .ok (some (kd, tx, nm), n)) : GoodT kd tx nm := by
  have htok : tokL l = .ok (kd, tx, nm, n) := by
    unfold stepL at h
    split at h
    · cases h
    split at h
    · split at h <;> cases h
    split at h
    · cases h
    split at h
    · cases h
    · rename_i ht; simp at h; rw [ht]; simp [h]
  have hn := tokL_pos htok
  have key : ∀ k : Nat, (k = kd ∧ kd ≠ 6 ∧ kd ≠ 7 ∧ kd ≠ 8) → nm = 0 → tx = l.take n → runLen l ≤ n → tokL (l.take n) = .ok (kd, l.take n, 0, n) → GoodT kd tx nm := by
    intro k hk h0 ht hr hq
    subst h0 ht
    refine .inr (.inr (.inr ⟨hk.2.1, hk.2.2.1, hk.2.2.2, rfl, ?_, ?_⟩))
    · intro e
      have := congrArg List.length e
      rw [List.length_take, List.length_nil] at this
      omega
    · have := stepL_take_tok hn.1 h hq hr
      rw [this, List.length_take, Nat.min_eq_left hn.2]
  have hself : ∀ p : Nat → Bool, (l.take (spanLen p l)).take (spanLen p l) = l.take (spanLen p l) := by
    intro p
    rw [List.take_take, Nat.min_self]
  have hsp : ∀ p : Nat → Bool, spanLen p (l.take (spanLen p l)) = spanLen p l := by
    intro p
    rw [span_take, Nat.min_self]
  unfold tokL at htok
  split at htok
  · rename_i hc
    simp at htok
    obtain ⟨e1, e2, e3, e4⟩ := htok
    have hk : kd ≠ 6 ∧ kd ≠ 7 ∧ kd ≠ 8 := by
      rw [← e1]; unfold wordKindP; split <;> omega
    refine key kd ⟨rfl, hk⟩ e3.symm (by rw [← e2, ← e4]) (by rw [run_zero (by omega)]; omega) ?_
    rw [← e4]
    unfold tokL
    rw [if_pos (by rw [clsHd_take (by omega)]; exact hc), show nameLen (l.take (nameLen l)) = nameLen l from hsp nsB, show (l.take (nameLen l)).take (nameLen l) = l.take (nameLen l) from hself nsB, e1]
  rename_i hc1
  split at htok
  · rename_i hc
    simp at htok
    obtain ⟨e1, e2, e3, e4⟩ := htok
    have hk : kd ≠ 6 ∧ kd ≠ 7 ∧ kd ≠ 8 := by
      rw [← e1]; unfold upperL; split
      · split
        · simp
        · split <;> simp
      · simp
    refine key kd ⟨rfl, hk⟩ e3.symm (by rw [← e2, ← e4]) (by rw [run_zero (by omega)]; omega) ?_
    rw [← e4]
    unfold tokL
    rw [if_neg (by rw [clsHd_take (by omega)]; omega), if_pos (by rw [clsHd_take (by omega)]; exact hc), upperL_take l hc, List.take_take, Nat.min_self, e1]
  rename_i hc2
  split at htok
  · split at htok
    · cases htok
    · rename_i hq
      simp at htok
      obtain ⟨e1, e2, e3, e4⟩ := htok
      exact .inl ⟨e1.symm, e2, by rw [← e3]; exact numL_max hq⟩
  rename_i hc3
  split at htok
  · split at htok
    · cases htok
    · rename_i v m hq
      simp at htok
      obtain ⟨e1, e2, e3, e4⟩ := htok
      refine .inr (.inl ⟨e1.symm, e2, ?_⟩)
      unfold charL at hq
      split at hq
      · cases hq
      · rename_i b' n' hq'
        split at hq
        · simp at hq
          have := quotedL_pos hq'
          omega
        · cases hq
  rename_i hc4
  split at htok
  · split at htok
    · cases htok
    · simp at htok
      obtain ⟨e1, e2, e3, e4⟩ := htok
      exact .inr (.inr (.inl ⟨e1.symm, e3.symm⟩))
  rename_i hc7
  split at htok
  · rename_i hc
    split at htok
    · cases htok
    · rename_i hk0
      simp at htok
      obtain ⟨e1, e2, e3, e4⟩ := htok
      have hk : kd ≠ 6 ∧ kd ≠ 7 ∧ kd ≠ 8 := by
        rw [← e1]; unfold runKindP; split
        · omega
        · split
          · omega
          · split <;> omega
      refine key kd ⟨rfl, hk⟩ e3.symm (by rw [← e2, ← e4]) (by omega) ?_
      rw [← e4]
      have hcl : clsHd (l.take (runLen l)) = 8 := by rw [clsHd_take (by omega)]; exact hc
      unfold tokL
      rw [hcl, if_neg (by decide), if_neg (by decide), if_neg (by decide), if_neg (by decide), if_neg (by decide), if_pos rfl, show runLen (l.take (runLen l)) = runLen l from hsp (· == 8), show (l.take (runLen l)).take (runLen l) = l.take (runLen l) from hself (· == 8), if_neg hk0, e1]
  rename_i hc8
  split at htok
  · rename_i hc
    simp at htok
    obtain ⟨e1, e2, e3, e4⟩ := htok
    refine key kd ⟨rfl, by omega⟩ e3.symm (by rw [← e2, ← e4]) (by rw [run_zero (by omega)]; omega) ?_
    rw [← e4, ← e1]
    have hcl : clsHd (l.take 1) = 9 := by rw [clsHd_take (by omega)]; exact hc
    unfold tokL
    rw [hcl, if_neg (by decide), if_neg (by decide), if_neg (by decide), if_neg (by decide), if_neg (by decide), if_neg (by decide), if_pos rfl, List.take_take, Nat.min_self]
  rename_i hc9
  split at htok
  · rename_i hc
    split at htok
    · cases htok
    · simp at htok
      obtain ⟨e1, e2, e3, e4⟩ := htok
      refine key kd ⟨rfl, by omega⟩ e3.symm (by rw [← e2, ← e4]) (by rw [run_zero (by omega)]; omega) ?_
      rw [← e4, ← e1]
      have hcl : clsHd (l.take 1) = 5 := by rw [clsHd_take (by omega)]; exact hc
      unfold tokL
      rw [hcl, if_neg (by decide), if_neg (by decide), if_neg (by decide), if_neg (by decide), if_neg (by decide), if_neg (by decide), if_neg (by decide), if_pos rfl, List.drop_take, List.take_zero, List.take_take, Nat.min_self]
      rfl
  · cases htok
end Go.Proofs.YtkfhdmkdkphmoaaDoor
