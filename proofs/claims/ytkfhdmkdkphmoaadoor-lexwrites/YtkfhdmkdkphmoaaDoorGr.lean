/- What is written of a token is read as it was: digits, escapes, quotes. -/
import Derived.Test.YtkfhdmkdkphmoaaDoorGd
namespace Go.Proofs.YtkfhdmkdkphmoaaDoor

/-- What a token is written as. -/
def writeA (kd nm : Nat) (tx : List UInt8) : List UInt8 := if kd = 6 then Lib.decDigits nm else writeL kd nm tx

theorem digit_byte {d : Nat} (h : d < 10) : (UInt8.ofNat (48 + d)).toNat = 48 + d := by
  simp [UInt8.toNat_ofNat]
  omega
theorem digit_cls {d : Nat} (h : d < 10) : cls (UInt8.ofNat (48 + d)).toNat = 3 := by
  rw [digit_byte h]
  exact (by decide : ∀ d : Fin 10, cls (48 + d.1) = 3) ⟨d, h⟩
theorem digit_dig {d : Nat} (h : d < 10) : digOf (UInt8.ofNat (48 + d)).toNat = d := by
  rw [digit_byte h]
  exact (by decide : ∀ d : Fin 10, digOf (48 + d.1) = d.1) ⟨d, h⟩
theorem dec_small {u : Nat} (h : u < 10) : Lib.decDigits u = [UInt8.ofNat (48 + u)] := by rw [Lib.decDigits, dif_pos h]
theorem dec_big {u : Nat} (h : ¬ u < 10) : Lib.decDigits u = Lib.decDigits (u / 10) ++ [UInt8.ofNat (48 + u % 10)] := by rw [Lib.decDigits, dif_neg h]
theorem dec_all (u : Nat) : ∀ c ∈ Lib.decDigits u, ∃ d, d < 10 ∧ c = UInt8.ofNat (48 + d) := by
  induction u using Nat.strongRecOn with
  | _ u ih =>
    by_cases h : u < 10
    · rw [dec_small h]
      intro c hc
      exact ⟨u, h, by simpa using hc⟩
    · rw [dec_big h]
      intro c hc
      rcases List.mem_append.1 hc with hc | hc
      · exact ih (u / 10) (by omega) c hc
      · exact ⟨u % 10, by omega, by simpa using hc⟩
theorem dec_ne (u : Nat) : Lib.decDigits u ≠ [] := by
  by_cases h : u < 10
  · rw [dec_small h]; simp
  · rw [dec_big h]; simp
theorem dec_head {u : Nat} (h0 : 1 ≤ u) : (Lib.decDigits u).head? ≠ some 48 := by
  induction u using Nat.strongRecOn with
  | _ u ih =>
    by_cases h : u < 10
    · rw [dec_small h]
      intro e
      have e2 := congrArg UInt8.toNat (Option.some.inj e)
      rw [digit_byte h] at e2
      have : (48 : UInt8).toNat = 48 := rfl
      omega
    · rw [dec_big h]
      have hi := ih (u / 10) (by omega) (by omega)
      cases hd : Lib.decDigits (u / 10) with
      | nil => exact absurd hd (dec_ne _)
      | cons c r =>
        rw [hd] at hi
        simpa using hi

theorem numGo_snoc {b : Nat} {c : UInt8} (hc : digOf c.toNat < b) : ∀ (l : List UInt8) (n v : Nat), (∀ x ∈ l, digOf x.toNat < b) → numGo b l n = some (v, l.length) → ¬ ((4611686018427387903 - digOf c.toNat) / b < v) → numGo b (l ++ [c]) n = some (v * b + digOf c.toNat, l.length + 1) := by
  intro l
  induction l with
  | nil =>
    intro n v _ h hq
    simp [numGo] at h
    subst h
    simp [numGo, hc, hq]
  | cons x r ih =>
    intro n v hall h hq
    have hx := hall x (by simp)
    rw [numGo, if_pos hx] at h
    rw [List.cons_append, numGo, if_pos hx]
    split at h
    · cases h
    · rename_i hn
      rw [if_neg hn]
      simp only [Option.map_eq_some_iff, Prod.exists] at h
      obtain ⟨v', m', h1, h2⟩ := h
      simp at h2
      obtain ⟨rfl, rfl⟩ := h2
      rw [ih _ _ (fun y hy => hall y (by simp [hy])) h1 hq]
      rfl
theorem numGo_dec (u : Nat) (hu : u ≤ 4611686018427387903) : numGo 10 (Lib.decDigits u) 0 = some (u, (Lib.decDigits u).length) := by
  induction u using Nat.strongRecOn with
  | _ u ih =>
    by_cases h : u < 10
    · rw [dec_small h, numGo, digit_dig h, if_pos h, if_neg (by omega), numGo]
      simp
    · have hd : u % 10 < 10 := by omega
      have hi := ih (u / 10) (by omega) (by omega)
      have := numGo_snoc (b := 10) (c := UInt8.ofNat (48 + u % 10)) (by rw [digit_dig hd]; omega) _ _ _ (fun x hx => by
        obtain ⟨d, h1, rfl⟩ := dec_all _ x hx
        rw [digit_dig h1]; exact h1) hi (by rw [digit_dig hd]; omega)
      rw [dec_big h, this, digit_dig hd]
      simp
      omega
theorem dec_cls (u : Nat) : clsHd (Lib.decDigits u) = 3 := by
  cases hd : Lib.decDigits u with
  | nil => exact absurd hd (dec_ne _)
  | cons c r =>
    obtain ⟨d, h1, rfl⟩ := dec_all u c (by rw [hd]; simp)
    exact digit_cls h1
theorem dec_hex (u : Nat) : hexB (Lib.decDigits u) = false := by
  unfold hexB
  match hd : Lib.decDigits u with
  | [] => rfl
  | [c] => simp [List.isPrefixOf]
  | c :: e :: r =>
    obtain ⟨d, h1, rfl⟩ := dec_all u e (by rw [hd]; simp)
    have : (120 == UInt8.ofNat (48 + d)) = false := by
      rw [beq_eq_false_iff_ne]
      intro he
      have := congrArg UInt8.toNat he
      rw [digit_byte h1] at this
      have : (120 : UInt8).toNat = 120 := rfl
      omega
    rw [List.isPrefixOf, List.isPrefixOf, this]
    simp
theorem numL_decD (u : Nat) (hu : u ≤ 4611686018427387903) : numL (Lib.decDigits u) = some (u, (Lib.decDigits u).length) := by
  unfold numL
  simp only [dec_hex, Bool.false_eq_true, if_false, List.drop_zero, Nat.zero_add, numGo_dec u hu]
  rw [if_neg]
  intro h
  rcases h with ⟨_, h1, h2⟩ | h
  · by_cases h0 : 1 ≤ u
    · exact dec_head h0 h1
    · rw [dec_small (by omega)] at h2
      simp at h2
  · rw [List.drop_eq_nil_of_le (Nat.le_refl _)] at h
    cases h
theorem step_num (u : Nat) (hu : u ≤ 4611686018427387903) : stepL (Lib.decDigits u) = .ok (some (6, [], u), (Lib.decDigits u).length) := by
  have hc := dec_cls u
  have hp : ¬ [123, 45].isPrefixOf (Lib.decDigits u) = true := by
    cases hd : Lib.decDigits u with
    | nil => simp
    | cons c r =>
      rw [hd] at hc
      intro h
      simp [List.isPrefixOf] at h
      have hc' : cls c.toNat = 3 := hc
      rw [← h.1] at hc'
      exact absurd hc' (by decide)
  unfold stepL
  rw [hc, if_neg (by decide), if_neg hp, run_zero (by omega), if_neg (by simp [dashB])]
  unfold tokL
  rw [hc, if_neg (by decide), if_neg (by decide), if_pos rfl, numL_decD u hu]

theorem quoted_esc39 (b : Nat) (h : b < 256) : quotedL 39 (escB 39 b) = some (b, (escB 39 b).length) :=
  (by decide +kernel : ∀ b : Fin 256, quotedL 39 (escB 39 b.1) = some (b.1, (escB 39 b.1).length)) ⟨b, h⟩
theorem quoted_esc34 (b : Nat) (h : b < 256) : quotedL 34 (escB 34 b) = some (b, (escB 34 b).length) :=
  (by decide +kernel : ∀ b : Fin 256, quotedL 34 (escB 34 b.1) = some (b.1, (escB 34 b.1).length)) ⟨b, h⟩
theorem esc34_cls (b : Nat) (h : b < 256) : clsHd (escB 34 b) ≠ 7 ∧ escB 34 b ≠ [] :=
  (by decide +kernel : ∀ b : Fin 256, clsHd (escB 34 b.1) ≠ 7 ∧ escB 34 b.1 ≠ []) ⟨b, h⟩

theorem clsHd_app {l z : List UInt8} (h : l ≠ []) : clsHd (l ++ z) = clsHd l := by
  cases l with
  | nil => exact absurd rfl h
  | cons c r => rfl

theorem step_char (b : Nat) (hb : b ≤ 255) : stepL ([39] ++ escB 39 b ++ [39]) = .ok (some (7, [], b), ([39] ++ escB 39 b ++ [39]).length) := by
  have hq := quotedL_nl (z := [39]) (quoted_esc39 b (by omega))
  have hc : clsHd ([39] ++ escB 39 b ++ [39]) = 4 := rfl
  have hch : charL ([39] ++ escB 39 b ++ [39]) = some (b, (escB 39 b).length + 2) := by
    unfold charL
    have e1 : ([39] ++ escB 39 b ++ [39]).drop 1 = escB 39 b ++ [39] := rfl
    have e2 : ([39] ++ escB 39 b ++ [39]).drop (1 + (escB 39 b).length) = [39] := by
      have e3 : ([39] ++ escB 39 b ++ [39]).drop (1 + (escB 39 b).length) = (escB 39 b ++ [39]).drop (escB 39 b).length := by
        rw [Nat.add_comm]
        rfl
      rw [e3, List.drop_left]
    rw [e1, hq]
    simp only []
    rw [e2, if_pos (show clsHd [39] = 4 from rfl)]
  unfold stepL
  rw [hc, if_neg (by decide), if_neg (by simp [List.isPrefixOf]), run_zero (by omega), if_neg (by simp [dashB])]
  unfold tokL
  rw [hc, if_neg (by decide), if_neg (by decide), if_neg (by decide), if_pos rfl, hch]
  simp
theorem strL_quote (t : List UInt8) : strL (quoteL 34 t ++ [34]) = some (t, (quoteL 34 t).length + 1) := by
  induction t with
  | nil => exact strL_end rfl
  | cons c r ih =>
    have hlt := c.toNat_lt
    have h7 := esc34_cls c.toNat (by omega)
    have e : quoteL 34 (c :: r) ++ [34] = escB 34 c.toNat ++ (quoteL 34 r ++ [34]) := by simp [quoteL]
    have hq := quotedL_nl (z := quoteL 34 r ++ [34]) (quoted_esc34 c.toNat (by omega))
    rw [e, strL_some (by rw [clsHd_app h7.2]; exact h7.1) hq, List.drop_left, ih]
    simp [quoteL]
    omega
theorem step_str (t : List UInt8) : stepL ([34] ++ quoteL 34 t ++ [34]) = .ok (some (8, t, 0), ([34] ++ quoteL 34 t ++ [34]).length) := by
  have hc : clsHd ([34] ++ quoteL 34 t ++ [34]) = 7 := rfl
  unfold stepL
  rw [hc, if_neg (by decide), if_neg (by simp [List.isPrefixOf]), run_zero (by omega), if_neg (by simp [dashB])]
  unfold tokL
  rw [hc, if_neg (by decide), if_neg (by decide), if_neg (by decide), if_neg (by decide), if_pos rfl]
  have e : ([34] ++ quoteL 34 t ++ [34]).drop 1 = quoteL 34 t ++ [34] := rfl
  rw [e, strL_quote]
  simp

theorem step_write {kd nm : Nat} {tx : List UInt8} (h : GoodT kd tx nm) : stepL (writeA kd nm tx) = .ok (some (kd, tx, nm), (writeA kd nm tx).length) ∧ writeA kd nm tx ≠ [] := by
  rcases h with ⟨rfl, rfl, h⟩ | ⟨rfl, rfl, h⟩ | ⟨rfl, rfl⟩ | ⟨h6, h7, h8, rfl, hne, h⟩
  · exact ⟨step_num nm h, dec_ne nm⟩
  · exact ⟨step_char nm h, by simp [writeA, writeL]⟩
  · exact ⟨step_str tx, by simp [writeA, writeL]⟩
  · have e : writeA kd 0 tx = tx := by simp [writeA, writeL, h6, h7, h8]
    rw [e]
    exact ⟨h, hne⟩
theorem step_write_bl {kd nm : Nat} {tx : List UInt8} (h : GoodT kd tx nm) (y : List UInt8) : stepL (writeA kd nm tx ++ 32 :: y) = .ok (some (kd, tx, nm), (writeA kd nm tx).length) :=
  stepL_bl (step_write h).2 (step_write h).1
end Go.Proofs.YtkfhdmkdkphmoaaDoor
