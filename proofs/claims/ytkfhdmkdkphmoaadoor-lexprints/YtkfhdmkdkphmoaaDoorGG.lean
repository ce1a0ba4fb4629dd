/- Tokens written and read: a token that a text gave is written so that, ahead of a blank or the end, it is read as it was. What is written of a token is read as it was: digits, escapes, quotes. -/
import Derived.Test.YtkfhdmkdkphmoaaDoorBl
import Derived.Test.YtkfhdmkdkphmoaaDoorWr
import Derived.Lib.ItoaNum
namespace Go.Proofs.YtkfhdmkdkphmoaaDoor

theorem span_take (p : Nat → Bool) (l : List UInt8) (n : Nat) : spanLen p (l.take n) = min n (spanLen p l) := by
  induction l generalizing n with
  | nil => simp [spanLen]
  | cons c r ih =>
    cases n with
    | zero => simp [spanLen]
    | succ n =>
      simp only [List.take_succ_cons, spanLen]
      split
      · rw [ih]; omega
      · omega
theorem clsHd_take {l : List UInt8} {n : Nat} (h : 1 ≤ n) : clsHd (l.take n) = clsHd l := by
  cases l with
  | nil => simp
  | cons c r =>
    cases n with
    | zero => omega
    | succ n => rfl
theorem hdN_take {l : List UInt8} {n : Nat} (h : 1 ≤ n) : hdN (l.take n) = hdN l := by
  cases l with
  | nil => simp
  | cons c r =>
    cases n with
    | zero => omega
    | succ n => rfl
theorem prefix_take {a b : UInt8} {l : List UInt8} {n : Nat} (h : ¬ [a, b].isPrefixOf l = true) : ¬ [a, b].isPrefixOf (l.take n) = true := by
  match l, n with
  | [], _ => simp
  | _ :: _, 0 => simp
  | c :: r, 1 => simp [List.isPrefixOf]
  | [c], n + 2 => simp [List.isPrefixOf]
  | c :: d :: r, n + 2 => simpa [List.isPrefixOf] using h
theorem run_zero {l : List UInt8} (h : clsHd l ≠ 8) : runLen l = 0 := by
  cases l with
  | nil => rfl
  | cons c r =>
    show spanLen (· == 8) (c :: r) = 0
    have : ¬ cls c.toNat = 8 := h
    simp [spanLen, this]

theorem stepL_take_tok {l : List UInt8} {n kd nm : Nat} {tx : List UInt8} (h1 : 1 ≤ n) (hs : stepL l = .ok (some (kd, tx, nm), n)) (ht : tokL (l.take n) = .ok (kd, tx, nm, n)) (hrun : runLen l ≤ n) : stepL (l.take n) = .ok (some (kd, tx, nm), n) := by
  unfold stepL at hs ⊢
  split at hs
  · cases hs
  rename_i h6
  split at hs
  · split at hs <;> cases hs
  rename_i hp
  split at hs
  · cases hs
  rename_i hd
  have hr : runLen (l.take n) = runLen l := by
    show spanLen _ _ = spanLen _ _
    rw [span_take]
    have : spanLen (· == 8) l ≤ n := hrun
    omega
  rw [if_neg (by rw [clsHd_take h1]; exact h6), if_neg (prefix_take hp), hr, List.take_take, show min (runLen l) n = runLen l by omega, if_neg hd, ht]

theorem upperL_take (l : List UInt8) (hc : clsHd l = 2) : upperL (l.take (upperL l).1) = upperL l := by
  have h1 : 1 ≤ nameLen l := spanLen_pos (by rw [hc]; rfl) rfl
  have h2 : nameLen l ≤ l.length := spanLen_le _ _
  by_cases h46 : hdN (l.drop (nameLen l)) = 46
  · have hq : ∀ (k : Nat) , 1 ≤ nameLen (l.drop (nameLen l + 1)) → k = nameLen l + 1 + nameLen (l.drop (nameLen l + 1)) →
        nameLen (l.take k) = nameLen l ∧ hdN ((l.take k).drop (nameLen l)) = 46 ∧ (l.take k).drop (nameLen l + 1) = (l.drop (nameLen l + 1)).take (nameLen (l.drop (nameLen l + 1))) := by
      intro k hk he
      refine ⟨?_, ?_, ?_⟩
      · show spanLen _ _ = _
        rw [span_take]
        show min k (nameLen l) = _
        omega
      · rw [List.drop_take, hdN_take (by omega)]
        exact h46
      · rw [List.drop_take]
        congr 1
        omega
    have hn2 : ∀ x : List UInt8, nameLen (x.take (nameLen x)) = nameLen x := by
      intro x
      show spanLen _ _ = _
      rw [span_take]
      exact Nat.min_self _
    by_cases hc2 : clsHd (l.drop (nameLen l + 1)) = 2
    · have hp : 1 ≤ nameLen (l.drop (nameLen l + 1)) := spanLen_pos (by rw [hc2]; rfl) rfl
      have e : upperL l = (nameLen l + 1 + nameLen (l.drop (nameLen l + 1)), 4) := by unfold upperL; rw [if_pos h46, if_pos hc2]
      obtain ⟨e1, e2, e3⟩ := hq _ hp rfl
      rw [e]
      show upperL (l.take (nameLen l + 1 + nameLen (l.drop (nameLen l + 1)))) = _
      unfold upperL
      rw [e1, e2, e3, if_pos rfl, clsHd_take hp, if_pos hc2, hn2]
    · by_cases hc1 : clsHd (l.drop (nameLen l + 1)) = 1 ∧ isRes ((l.drop (nameLen l + 1)).take (nameLen (l.drop (nameLen l + 1)))) = false
      · have hp : 1 ≤ nameLen (l.drop (nameLen l + 1)) := spanLen_pos (by rw [hc1.1]; rfl) rfl
        have e : upperL l = (nameLen l + 1 + nameLen (l.drop (nameLen l + 1)), 3) := by unfold upperL; rw [if_pos h46, if_neg hc2, if_pos hc1]
        obtain ⟨e1, e2, e3⟩ := hq _ hp rfl
        rw [e]
        show upperL (l.take (nameLen l + 1 + nameLen (l.drop (nameLen l + 1)))) = _
        unfold upperL
        rw [e1, e2, e3, if_pos rfl, clsHd_take hp, if_neg hc2, hn2, List.take_take, Nat.min_self, if_pos hc1]
      · have e : upperL l = (nameLen l, 2) := by unfold upperL; rw [if_pos h46, if_neg hc2, if_neg hc1]
        rw [e]
        show upperL (l.take (nameLen l)) = _
        unfold upperL
        rw [hn2, List.drop_take, Nat.sub_self, List.take_zero, if_neg (by decide)]
  · have e : upperL l = (nameLen l, 2) := by unfold upperL; rw [if_neg h46]
    have hn2 : nameLen (l.take (nameLen l)) = nameLen l := by
      show spanLen _ _ = _
      rw [span_take]
      exact Nat.min_self _
    rw [e]
    show upperL (l.take (nameLen l)) = _
    unfold upperL
    rw [hn2, List.drop_take, Nat.sub_self, List.take_zero, if_neg (by decide)]

/-- A token that some text gives. -/
def GoodT (kd : Nat) (tx : List UInt8) (nm : Nat) : Prop :=
  (kd = 6 ∧ tx = [] ∧ nm ≤ 4611686018427387903) ∨ (kd = 7 ∧ tx = [] ∧ nm ≤ 255) ∨ (kd = 8 ∧ nm = 0) ∨
  (kd ≠ 6 ∧ kd ≠ 7 ∧ kd ≠ 8 ∧ nm = 0 ∧ tx ≠ [] ∧ stepL tx = .ok (some (kd, tx, 0), tx.length))

theorem numGo_max {b : Nat} (hb : 1 ≤ b) (hb2 : b ≤ 16) {l : List UInt8} {n v m : Nat} (hn : n ≤ 4611686018427387903) (h : numGo b l n = some (v, m)) : v ≤ 4611686018427387903 := by
  induction l generalizing n v m with
  | nil => simp [numGo] at h; omega
  | cons c r ih =>
    rw [numGo] at h
    split at h
    · rename_i hd
      split at h
      · cases h
      · rename_i hq
        simp only [Option.map_eq_some_iff, Prod.exists] at h
        obtain ⟨v', m', h1, h2⟩ := h
        have hle : n * b ≤ 4611686018427387903 - digOf c.toNat := (Nat.le_div_iff_mul_le hb).1 (by omega)
        have := ih (by omega) h1
        simp at h2
        omega
    · simp at h; omega
theorem numL_max {l : List UInt8} {v n : Nat} (h : numL l = some (v, n)) : v ≤ 4611686018427387903 := by
  unfold numL at h
  cases hx : hexB l
  · simp only [hx, Bool.false_eq_true, if_false, List.drop_zero, Nat.zero_add] at h
    split at h
    · cases h
    · rename_i v' m' hg
      split at h
      · cases h
      · simp at h
        have := numGo_max (by omega) (by omega) (by omega) hg
        omega
  · simp only [hx, if_true] at h
    split at h
    · cases h
    · rename_i v' m' hg
      split at h
      · cases h
      · simp at h
        have := numGo_max (by omega) (by omega) (by omega) hg
        omega

theorem good_of_step {l : List UInt8} {kd nm n : Nat} {tx : List UInt8} (h : stepL l = .ok (some (kd, tx, nm), n)) : GoodT kd tx nm := by
  have htok : tokL l = .ok (kd, tx, nm, n) := by
    unfold stepL at h
    split at h
    · cases h
    split at h
    · split at h <;> cases h
    split at h
    · cases h
    split at h
    · cases h
    · rename_i ht; simp at h; rw [ht]; simp [h]
  have hn := tokL_pos htok
  have key : ∀ k : Nat, (k = kd ∧ kd ≠ 6 ∧ kd ≠ 7 ∧ kd ≠ 8) → nm = 0 → tx = l.take n → runLen l ≤ n → tokL (l.take n) = .ok (kd, l.take n, 0, n) → GoodT kd tx nm := by
    intro k hk h0 ht hr hq
    subst h0 ht
    refine .inr (.inr (.inr ⟨hk.2.1, hk.2.2.1, hk.2.2.2, rfl, ?_, ?_⟩))
    · intro e
      have := congrArg List.length e
      rw [List.length_take, List.length_nil] at this
      omega
    · have := stepL_take_tok hn.1 h hq hr
      rw [this, List.length_take, Nat.min_eq_left hn.2]
  have hself : ∀ p : Nat → Bool, (l.take (spanLen p l)).take (spanLen p l) = l.take (spanLen p l) := by
    intro p
    rw [List.take_take, Nat.min_self]
  have hsp : ∀ p : Nat → Bool, spanLen p (l.take (spanLen p l)) = spanLen p l := by
    intro p
    rw [span_take, Nat.min_self]
  unfold tokL at htok
  split at htok
  · rename_i hc
    simp at htok
    obtain ⟨e1, e2, e3, e4⟩ := htok
    have hk : kd ≠ 6 ∧ kd ≠ 7 ∧ kd ≠ 8 := by
      rw [← e1]; unfold wordKindP; split <;> omega
    refine key kd ⟨rfl, hk⟩ e3.symm (by rw [← e2, ← e4]) (by rw [run_zero (by omega)]; omega) ?_
    rw [← e4]
    unfold tokL
    rw [if_pos (by rw [clsHd_take (by omega)]; exact hc), show nameLen (l.take (nameLen l)) = nameLen l from hsp nsB, show (l.take (nameLen l)).take (nameLen l) = l.take (nameLen l) from hself nsB, e1]
  rename_i hc1
  split at htok
  · rename_i hc
    simp at htok
    obtain ⟨e1, e2, e3, e4⟩ := htok
    have hk : kd ≠ 6 ∧ kd ≠ 7 ∧ kd ≠ 8 := by
      rw [← e1]; unfold upperL; split
      · split
        · simp
        · split <;> simp
      · simp
    refine key kd ⟨rfl, hk⟩ e3.symm (by rw [← e2, ← e4]) (by rw [run_zero (by omega)]; omega) ?_
    rw [← e4]
    unfold tokL
    rw [if_neg (by rw [clsHd_take (by omega)]; omega), if_pos (by rw [clsHd_take (by omega)]; exact hc), upperL_take l hc, List.take_take, Nat.min_self, e1]
  rename_i hc2
  split at htok
  · split at htok
    · cases htok
    · rename_i hq
      simp at htok
      obtain ⟨e1, e2, e3, e4⟩ := htok
      exact .inl ⟨e1.symm, e2, by rw [← e3]; exact numL_max hq⟩
  rename_i hc3
  split at htok
  · split at htok
    · cases htok
    · rename_i v m hq
      simp at htok
      obtain ⟨e1, e2, e3, e4⟩ := htok
      refine .inr (.inl ⟨e1.symm, e2, ?_⟩)
      unfold charL at hq
      split at hq
      · cases hq
      · rename_i b' n' hq'
        split at hq
        · simp at hq
          have := quotedL_pos hq'
          omega
        · cases hq
  rename_i hc4
  split at htok
  · split at htok
    · cases htok
    · simp at htok
      obtain ⟨e1, e2, e3, e4⟩ := htok
      exact .inr (.inr (.inl ⟨e1.symm, e3.symm⟩))
  rename_i hc7
  split at htok
  · rename_i hc
    split at htok
    · cases htok
    · rename_i hk0
      simp at htok
      obtain ⟨e1, e2, e3, e4⟩ := htok
      have hk : kd ≠ 6 ∧ kd ≠ 7 ∧ kd ≠ 8 := by
        rw [← e1]; unfold runKindP; split
        · omega
        · split
          · omega
          · split <;> omega
      refine key kd ⟨rfl, hk⟩ e3.symm (by rw [← e2, ← e4]) (by omega) ?_
      rw [← e4]
      have hcl : clsHd (l.take (runLen l)) = 8 := by rw [clsHd_take (by omega)]; exact hc
      unfold tokL
      rw [hcl, if_neg (by decide), if_neg (by decide), if_neg (by decide), if_neg (by decide), if_neg (by decide), if_pos rfl, show runLen (l.take (runLen l)) = runLen l from hsp (· == 8), show (l.take (runLen l)).take (runLen l) = l.take (runLen l) from hself (· == 8), if_neg hk0, e1]
  rename_i hc8
  split at htok
  · rename_i hc
    simp at htok
    obtain ⟨e1, e2, e3, e4⟩ := htok
    refine key kd ⟨rfl, by omega⟩ e3.symm (by rw [← e2, ← e4]) (by rw [run_zero (by omega)]; omega) ?_
    rw [← e4, ← e1]
    have hcl : clsHd (l.take 1) = 9 := by rw [clsHd_take (by omega)]; exact hc
    unfold tokL
    rw [hcl, if_neg (by decide), if_neg (by decide), if_neg (by decide), if_neg (by decide), if_neg (by decide), if_neg (by decide), if_pos rfl, List.take_take, Nat.min_self]
  rename_i hc9
  split at htok
  · rename_i hc
    split at htok
    · cases htok
    · simp at htok
      obtain ⟨e1, e2, e3, e4⟩ := htok
      refine key kd ⟨rfl, by omega⟩ e3.symm (by rw [← e2, ← e4]) (by rw [run_zero (by omega)]; omega) ?_
      rw [← e4, ← e1]
      have hcl : clsHd (l.take 1) = 5 := by rw [clsHd_take (by omega)]; exact hc
      unfold tokL
      rw [hcl, if_neg (by decide), if_neg (by decide), if_neg (by decide), if_neg (by decide), if_neg (by decide), if_neg (by decide), if_neg (by decide), if_pos rfl, List.drop_take, List.take_zero, List.take_take, Nat.min_self]
      rfl
  · cases htok
end Go.Proofs.YtkfhdmkdkphmoaaDoor

namespace Go.Proofs.YtkfhdmkdkphmoaaDoor

/-- What a token is written as. -/
def writeA (kd nm : Nat) (tx : List UInt8) : List UInt8 := if kd = 6 then Lib.decDigits nm else writeL kd nm tx

theorem digit_byte {d : Nat} (h : d < 10) : (UInt8.ofNat (48 + d)).toNat = 48 + d := by
  simp [UInt8.toNat_ofNat]
  omega
theorem digit_cls {d : Nat} (h : d < 10) : cls (UInt8.ofNat (48 + d)).toNat = 3 := by
  rw [digit_byte h]
  exact (by decide : ∀ d : Fin 10, cls (48 + d.1) = 3) ⟨d, h⟩
theorem digit_dig {d : Nat} (h : d < 10) : digOf (UInt8.ofNat (48 + d)).toNat = d := by
  rw [digit_byte h]
  exact (by decide : ∀ d : Fin 10, digOf (48 + d.1) = d.1) ⟨d, h⟩
theorem dec_small {u : Nat} (h : u < 10) : Lib.decDigits u = [UInt8.ofNat (48 + u)] := by rw [Lib.decDigits, dif_pos h]
theorem dec_big {u : Nat} (h : ¬ u < 10) : Lib.decDigits u = Lib.decDigits (u / 10) ++ [UInt8.ofNat (48 + u % 10)] := by rw [Lib.decDigits, dif_neg h]
theorem dec_all (u : Nat) : ∀ c ∈ Lib.decDigits u, ∃ d, d < 10 ∧ c = UInt8.ofNat (48 + d) := by
  induction u using Nat.strongRecOn with
  | _ u ih =>
    by_cases h : u < 10
    · rw [dec_small h]
      intro c hc
      exact ⟨u, h, by simpa using hc⟩
    · rw [dec_big h]
      intro c hc
      rcases List.mem_append.1 hc with hc | hc
      · exact ih (u / 10) (by omega) c hc
      · exact ⟨u % 10, by omega, by simpa using hc⟩
theorem dec_ne (u : Nat) : Lib.decDigits u ≠ [] := by
  by_cases h : u < 10
  · rw [dec_small h]; simp
  · rw [dec_big h]; simp
theorem dec_head {u : Nat} (h0 : 1 ≤ u) : (Lib.decDigits u).head? ≠ some 48 := by
  induction u using Nat.strongRecOn with
  | _ u ih =>
    by_cases h : u < 10
    · rw [dec_small h]
      intro e
      have e2 := congrArg UInt8.toNat (Option.some.inj e)
      rw [digit_byte h] at e2
      have : (48 : UInt8).toNat = 48 := rfl
      omega
    · rw [dec_big h]
      have hi := ih (u / 10) (by omega) (by omega)
      cases hd : Lib.decDigits (u / 10) with
      | nil => exact absurd hd (dec_ne _)
      | cons c r =>
        rw [hd] at hi
        simpa using hi

theorem numGo_snoc {b : Nat} {c : UInt8} (hc : digOf c.toNat < b) : ∀ (l : List UInt8) (n v : Nat), (∀ x ∈ l, digOf x.toNat < b) → numGo b l n = some (v, l.length) → ¬ ((4611686018427387903 - digOf c.toNat) / b < v) → numGo b (l ++ [c]) n = some (v * b + digOf c.toNat, l.length + 1) := by
  intro l
  induction l with
  | nil =>
    intro n v _ h hq
    simp [numGo] at h
    subst h
    simp [numGo, hc, hq]
  | cons x r ih =>
    intro n v hall h hq
    have hx := hall x (by simp)
    rw [numGo, if_pos hx] at h
    rw [List.cons_append, numGo, if_pos hx]
    split at h
    · cases h
    · rename_i hn
      rw [if_neg hn]
      simp only [Option.map_eq_some_iff, Prod.exists] at h
      obtain ⟨v', m', h1, h2⟩ := h
      simp at h2
      obtain ⟨rfl, rfl⟩ := h2
      rw [ih _ _ (fun y hy => hall y (by simp [hy])) h1 hq]
      rfl
theorem numGo_dec (u : Nat) (hu : u ≤ 4611686018427387903) : numGo 10 (Lib.decDigits u) 0 = some (u, (Lib.decDigits u).length) := by
  induction u using Nat.strongRecOn with
  | _ u ih =>
    by_cases h : u < 10
    · rw [dec_small h, numGo, digit_dig h, if_pos h, if_neg (by omega), numGo]
      simp
    · have hd : u % 10 < 10 := by omega
      have hi := ih (u / 10) (by omega) (by omega)
      have := numGo_snoc (b := 10) (c := UInt8.ofNat (48 + u % 10)) (by rw [digit_dig hd]; omega) _ _ _ (fun x hx => by
        obtain ⟨d, h1, rfl⟩ := dec_all _ x hx
        rw [digit_dig h1]; exact h1) hi (by rw [digit_dig hd]; omega)
      rw [dec_big h, this, digit_dig hd]
      simp
      omega
theorem dec_cls (u : Nat) : clsHd (Lib.decDigits u) = 3 := by
  cases hd : Lib.decDigits u with
  | nil => exact absurd hd (dec_ne _)
  | cons c r =>
    obtain ⟨d, h1, rfl⟩ := dec_all u c (by rw [hd]; simp)
    exact digit_cls h1
theorem dec_hex (u : Nat) : hexB (Lib.decDigits u) = false := by
  unfold hexB
  match hd : Lib.decDigits u with
  | [] => rfl
  | [c] => simp [List.isPrefixOf]
  | c :: e :: r =>
    obtain ⟨d, h1, rfl⟩ := dec_all u e (by rw [hd]; simp)
    have : (120 == UInt8.ofNat (48 + d)) = false := by
      rw [beq_eq_false_iff_ne]
      intro he
      have := congrArg UInt8.toNat he
      rw [digit_byte h1] at this
      have : (120 : UInt8).toNat = 120 := rfl
      omega
    rw [List.isPrefixOf, List.isPrefixOf, this]
    simp
theorem numL_decD (u : Nat) (hu : u ≤ 4611686018427387903) : numL (Lib.decDigits u) = some (u, (Lib.decDigits u).length) := by
  unfold numL
  simp only [dec_hex, Bool.false_eq_true, if_false, List.drop_zero, Nat.zero_add, numGo_dec u hu]
  rw [if_neg]
  intro h
  rcases h with ⟨_, h1, h2⟩ | h
  · by_cases h0 : 1 ≤ u
    · exact dec_head h0 h1
    · rw [dec_small (by omega)] at h2
      simp at h2
  · rw [List.drop_eq_nil_of_le (Nat.le_refl _)] at h
    cases h
theorem step_num (u : Nat) (hu : u ≤ 4611686018427387903) : stepL (Lib.decDigits u) = .ok (some (6, [], u), (Lib.decDigits u).length) := by
  have hc := dec_cls u
  have hp : ¬ [123, 45].isPrefixOf (Lib.decDigits u) = true := by
    cases hd : Lib.decDigits u with
    | nil => simp
    | cons c r =>
      rw [hd] at hc
      intro h
      simp [List.isPrefixOf] at h
      have hc' : cls c.toNat = 3 := hc
      rw [← h.1] at hc'
      exact absurd hc' (by decide)
  unfold stepL
  rw [hc, if_neg (by decide), if_neg hp, run_zero (by omega), if_neg (by simp [dashB])]
  unfold tokL
  rw [hc, if_neg (by decide), if_neg (by decide), if_pos rfl, numL_decD u hu]

theorem quoted_esc39 (b : Nat) (h : b < 256) : quotedL 39 (escB 39 b) = some (b, (escB 39 b).length) :=
  (by decide +kernel : ∀ b : Fin 256, quotedL 39 (escB 39 b.1) = some (b.1, (escB 39 b.1).length)) ⟨b, h⟩
theorem quoted_esc34 (b : Nat) (h : b < 256) : quotedL 34 (escB 34 b) = some (b, (escB 34 b).length) :=
  (by decide +kernel : ∀ b : Fin 256, quotedL 34 (escB 34 b.1) = some (b.1, (escB 34 b.1).length)) ⟨b, h⟩
theorem esc34_cls (b : Nat) (h : b < 256) : clsHd (escB 34 b) ≠ 7 ∧ escB 34 b ≠ [] :=
  (by decide +kernel : ∀ b : Fin 256, clsHd (escB 34 b.1) ≠ 7 ∧ escB 34 b.1 ≠ []) ⟨b, h⟩

theorem clsHd_app {l z : List UInt8} (h : l ≠ []) : clsHd (l ++ z) = clsHd l := by
  cases l with
  | nil => exact absurd rfl h
  | cons c r => rfl

theorem step_char (b : Nat) (hb : b ≤ 255) : stepL ([39] ++ escB 39 b ++ [39]) = .ok (some (7, [], b), ([39] ++ escB 39 b ++ [39]).length) := by
  have hq := quotedL_nl (z := [39]) (quoted_esc39 b (by omega))
  have hc : clsHd ([39] ++ escB 39 b ++ [39]) = 4 := rfl
  have hch : charL ([39] ++ escB 39 b ++ [39]) = some (b, (escB 39 b).length + 2) := by
    unfold charL
    have e1 : ([39] ++ escB 39 b ++ [39]).drop 1 = escB 39 b ++ [39] := rfl
    have e2 : ([39] ++ escB 39 b ++ [39]).drop (1 + (escB 39 b).length) = [39] := by
      have e3 : ([39] ++ escB 39 b ++ [39]).drop (1 + (escB 39 b).length) = (escB 39 b ++ [39]).drop (escB 39 b).length := by
        rw [Nat.add_comm]
        rfl
      rw [e3, List.drop_left]
    rw [e1, hq]
    simp only []
    rw [e2, if_pos (show clsHd [39] = 4 from rfl)]
  unfold stepL
  rw [hc, if_neg (by decide), if_neg (by simp [List.isPrefixOf]), run_zero (by omega), if_neg (by simp [dashB])]
  unfold tokL
  rw [hc, if_neg (by decide), if_neg (by decide), if_neg (by decide), if_pos rfl, hch]
  simp
theorem strL_quote (t : List UInt8) : strL (quoteL 34 t ++ [34]) = some (t, (quoteL 34 t).length + 1) := by
  induction t with
  | nil => exact strL_end rfl
  | cons c r ih =>
    have hlt := c.toNat_lt
    have h7 := esc34_cls c.toNat (by omega)
    have e : quoteL 34 (c :: r) ++ [34] = escB 34 c.toNat ++ (quoteL 34 r ++ [34]) := by simp [quoteL]
    have hq := quotedL_nl (z := quoteL 34 r ++ [34]) (quoted_esc34 c.toNat (by omega))
    rw [e, strL_some (by rw [clsHd_app h7.2]; exact h7.1) hq, List.drop_left, ih]
    simp [quoteL]
    omega
theorem step_str (t : List UInt8) : stepL ([34] ++ quoteL 34 t ++ [34]) = .ok (some (8, t, 0), ([34] ++ quoteL 34 t ++ [34]).length) := by
  have hc : clsHd ([34] ++ quoteL 34 t ++ [34]) = 7 := rfl
  unfold stepL
  rw [hc, if_neg (by decide), if_neg (by simp [List.isPrefixOf]), run_zero (by omega), if_neg (by simp [dashB])]
  unfold tokL
  rw [hc, if_neg (by decide), if_neg (by decide), if_neg (by decide), if_neg (by decide), if_pos rfl]
  have e : ([34] ++ quoteL 34 t ++ [34]).drop 1 = quoteL 34 t ++ [34] := rfl
  rw [e, strL_quote]
  simp

theorem step_write {kd nm : Nat} {tx : List UInt8} (h : GoodT kd tx nm) : stepL (writeA kd nm tx) = .ok (some (kd, tx, nm), (writeA kd nm tx).length) ∧ writeA kd nm tx ≠ [] := by
  rcases h with ⟨rfl, rfl, h⟩ | ⟨rfl, rfl, h⟩ | ⟨rfl, rfl⟩ | ⟨h6, h7, h8, rfl, hne, h⟩
  · exact ⟨step_num nm h, dec_ne nm⟩
  · exact ⟨step_char nm h, by simp [writeA, writeL]⟩
  · exact ⟨step_str tx, by simp [writeA, writeL]⟩
  · have e : writeA kd 0 tx = tx := by simp [writeA, writeL, h6, h7, h8]
    rw [e]
    exact ⟨h, hne⟩
theorem step_write_bl {kd nm : Nat} {tx : List UInt8} (h : GoodT kd tx nm) (y : List UInt8) : stepL (writeA kd nm tx ++ 32 :: y) = .ok (some (kd, tx, nm), (writeA kd nm tx).length) :=
  stepL_bl (step_write h).2 (step_write h).1
end Go.Proofs.YtkfhdmkdkphmoaaDoor
