/- The contracts of write and isToken, numbers too. -/
import Derived.Test.YtkfhdmkdkphmoaaDoorGt
import Derived.Test.YtkfhdmkdkphmoaaDoorIt
import Derived.Test.YtkfhdmkdkphmoaaDoorShelf2
namespace Go.Proofs.YtkfhdmkdkphmoaaDoor
open Go.RowKit

/-- The table of powers of ten lies below a block. -/
def Tb (B : Nat) (w : World) : Prop := Lib.TabBelow Tryd.prog B w "internal/strconv.uint64pow10" .u64 Lib.pow10Tab

theorem writeA_len (kd nm : Nat) (tx : List UInt8) (h6 : kd = 6 → nm ≤ 4611686018427387903) : (writeA kd nm tx).length ≤ 4 * tx.length + 30 := by
  unfold writeA
  split
  · rename_i hk
    have := dec_len 19 nm (by omega) (by have := h6 hk; omega)
    omega
  · have h1 := escB_len 39 nm
    have h2 := quote_len 34 tx
    unfold writeL
    split
    · simp; omega
    · split
      · simp; omega
      · omega

set_option maxHeartbeats 2000000 in
set_option maxRecDepth 10000 in
theorem write_all (v : Value) (t : List UInt8) (kd nm : Nat) (at' : Int) (tx : List UInt8) (B : Nat) (w : World) (h6 : kd = 6 → nm ≤ 4611686018427387903) (h7 : kd = 7 → nm < 256) (hl7 : tx.length ≤ 65536) (hB : B ≤ w.heap.size) (hl : t.length ≤ 100000000) (hT : Tb B w) (hown : w.ownsRow B 5 1 v t.length (t.map byteV)) :
    Calls Tryd.prog 28 #[v, .agg #[.int .i64 kd, .string ⟨tx.toArray⟩, .int .i64 nm, .int .i64 at']] w fun e w' => ∃ v', e = .returned v' ∧ Grew B w w' v' (t ++ writeA kd nm tx) := by
  by_cases hk : kd = 6
  · subst hk
    have hn := h6 rfl
    have hbo : Below B w (w.alloc (.cells #[.int .i64 6, .string ⟨tx.toArray⟩, .int .i64 nm, .int .i64 at'] 28)) := (Below.refl B w).alloc hB _
    have AI := Tryd.strconv_AppendInt_10 B t.length (nm : Int) (by omega) (by omega) v (t.map byteV) (w.alloc (.cells #[.int .i64 6, .string ⟨tx.toArray⟩, .int .i64 nm, .int .i64 at'] 28)) (hown.alloc _) (by simp; omega) (by omega) (hT.on hbo)
    have HI : Hid (Lib.itoa (nm : Int) = Lib.decDigits nm) := by
      show Lib.itoa (nm : Int) = _
      unfold Lib.itoa
      rw [if_neg (by omega)]
      rfl
    clear hT h6 h7
    go_enter Tryd.func28, Tryd.ntmps28
    go_wp2_with (go_at_call 50; with_reducible refine Calls.mono AI ?_; rintro e w1 ⟨v1, rfl, hown1, hb1, _⟩)
    go_ret
    refine ⟨v1, rfl, ?_, hbo.trans hb1⟩
    rw [HI.out] at hown1
    have e : writeA 6 nm tx = Lib.decDigits nm := rfl
    have e2 : Lib.byteCells (Lib.decDigits nm) = (Lib.decDigits nm).map byteV := rfl
    rw [e, List.length_append, List.map_append, ← e2]
    exact hown1
  · have e : writeA kd nm tx = writeL kd nm tx := by simp [writeA, hk]
    rw [e]
    exact write_any v t kd nm at' tx B w hk h7 hl7 hB hl hown

/-- Is it a token? -/
def isTokA (kd : Int) (s : ByteArray) (nm : Int) : Bool := if kd = 6 then (s.toList == []) && decide (0 ≤ nm) && decide (nm ≤ 4611686018427387903) else isTokB kd s nm

set_option maxHeartbeats 2000000 in
set_option maxRecDepth 10000 in
theorem isToken_all (kd nm at' : Int) (s : ByteArray) (w : World) (hs : s.size ≤ maxLen) (hC : Cl w) (h1 : 1 < w.heap.size) :
    Calls Tryd.prog 20 #[.agg #[.int .i64 kd, .string s, .int .i64 nm, .int .i64 at']] w fun e w' => e = .returned (.bool (isTokA kd s nm)) ∧ Below w.heap.size w w' := by
  by_cases hk : kd = 6
  · have hbo : ∀ o, Below w.heap.size w (w.alloc o) := fun o => (Below.refl _ w).alloc (Nat.le_refl _) o
    subst hk
    have HE : Hid (isTokA 6 s nm = ((s.toList == []) && decide (0 ≤ nm) && decide (nm ≤ 4611686018427387903))) := by show isTokA 6 s nm = _; simp [isTokA]
    generalize isTokA 6 s nm = r at HE ⊢
    cases hsn : s.toList == []
    · go_enter Tryd.func20, Tryd.ntmps20
      go_wp2
      go_ret
      exact ⟨ret_bool (by rw [HE.out, hsn]; rfl), hbo _⟩
    · by_cases hn : 0 ≤ nm
      · go_enter Tryd.func20, Tryd.ntmps20
        go_wp2
        go_ret
        exact ⟨ret_bool (by rw [HE.out, hsn]; simp [hn]), hbo _⟩
      · go_enter Tryd.func20, Tryd.ntmps20
        go_wp2
        go_ret
        exact ⟨ret_bool (by rw [HE.out, hsn]; simp; omega), hbo _⟩
  · have e : isTokA kd s nm = isTokB kd s nm := by simp [isTokA, hk]
    rw [e]
    exact isToken_any kd nm at' s w hk hs hC h1

theorem kind_of_step {kd : Nat} {tx : List UInt8} (hne : tx ≠ []) (h6 : kd ≠ 6) (h7 : kd ≠ 7) (h8 : kd ≠ 8) (h : stepL tx = .ok (some (kd, tx, 0), tx.length)) : kindP ⟨tx.toArray⟩ = kd ∧ kd ≠ 0 := by
  have htok : tokL tx = .ok (kd, tx, 0, tx.length) := by
    unfold stepL at h
    split at h
    · cases h
    split at h
    · split at h <;> cases h
    split at h
    · cases h
    split at h
    · cases h
    · rename_i ht; simp at h; rw [ht]; simp [h]
  have hr : rest ⟨tx.toArray⟩ 0 = tx := by simp [rest]
  have hsz : (⟨tx.toArray⟩ : ByteArray).size = tx.length := by show tx.toArray.size = _; simp
  have hl : 1 ≤ tx.length := by
    cases tx with
    | nil => exact absurd rfl hne
    | cons c r => simp
  have htl : (⟨tx.toArray⟩ : ByteArray).toList = tx := by rw [ByteArray.toList_eq]
  have e1 : nameEndP ⟨tx.toArray⟩ 0 = nameLen tx := by
    have := endOf_span nsB ⟨tx.toArray⟩ 0 rfl
    rw [hr, Nat.zero_add] at this
    exact this
  have e2 : runEndP ⟨tx.toArray⟩ 0 = runLen tx := by
    have := endOf_span (· == 8) ⟨tx.toArray⟩ 0 rfl
    rw [hr, Nat.zero_add] at this
    exact this
  have e3 : upperEndP ⟨tx.toArray⟩ 0 = upperL tx := by
    rw [upperEnd_L _ _ (by omega), hr, Nat.zero_add]
  unfold kindP
  rw [clsAt_rest, hr, e1, e2, e3, hsz, htl]
  unfold tokL at htok
  split at htok
  · rename_i hc
    simp at htok
    obtain ⟨a1, a2, a3⟩ := htok
    have hlen : nameLen tx = tx.length := a3
    rw [if_pos hc, if_pos hlen]
    rw [hlen, List.take_length] at a1
    refine ⟨a1, ?_⟩
    rw [← a1]; unfold wordKindP; split <;> omega
  rename_i hc1
  split at htok
  · rename_i hc
    simp at htok
    obtain ⟨a1, a2, a3⟩ := htok
    rw [if_neg hc1, if_pos hc, if_pos a3]
    refine ⟨a1, ?_⟩
    rw [← a1]; unfold upperL; split
    · split
      · simp
      · split <;> simp
    · simp
  rename_i hc2
  split at htok
  · split at htok
    · cases htok
    · simp at htok; omega
  rename_i hc3
  split at htok
  · split at htok
    · cases htok
    · simp at htok; omega
  rename_i hc4
  split at htok
  · split at htok
    · cases htok
    · simp at htok; omega
  rename_i hc7
  split at htok
  · rename_i hc
    split at htok
    · cases htok
    · rename_i hk0
      simp at htok
      obtain ⟨a1, a2, a3⟩ := htok
      have hlen : runLen tx = tx.length := a3
      rw [if_neg hc1, if_neg hc2, if_pos hc, if_pos hlen]
      rw [hlen, List.take_length] at a1 hk0
      exact ⟨a1, by rw [← a1]; exact hk0⟩
  rename_i hc8
  split at htok
  · rename_i hc
    simp at htok
    obtain ⟨a1, a2, a3⟩ := htok
    rw [if_neg hc1, if_neg hc2, if_neg hc8, if_pos (.inl hc), if_pos a3]
    exact ⟨a1, by omega⟩
  rename_i hc9
  split at htok
  · rename_i hc
    split at htok
    · cases htok
    · simp at htok
      obtain ⟨a1, a2, a3⟩ := htok
      rw [if_neg hc1, if_neg hc2, if_neg hc8, if_pos (.inr hc), if_pos a3]
      exact ⟨a1, by omega⟩
  · cases htok
theorem tok_of_good {kd nm : Nat} {tx : List UInt8} (h : GoodT kd tx nm) : isTokA kd ⟨tx.toArray⟩ nm = true := by
  rcases h with ⟨rfl, rfl, h⟩ | ⟨rfl, rfl, h⟩ | ⟨rfl, rfl⟩ | ⟨h6, h7, h8, rfl, hne, h⟩
  · simp [isTokA, ByteArray.toList_eq]
    omega
  · simp [isTokA, isTokB, ByteArray.toList_eq]
    omega
  · simp [isTokA, isTokB]
  · obtain ⟨h1, h2⟩ := kind_of_step hne h6 h7 h8 h
    have q6 : ¬ (kd : Int) = 6 := by omega
    have q7 : ¬ (kd : Int) = 7 := by omega
    have q8 : ¬ (kd : Int) = 8 := by omega
    have q0 : ¬ (kd : Int) = 0 := by omega
    simp [isTokA, isTokB, q6, q7, q8, h2, h1]
end Go.Proofs.YtkfhdmkdkphmoaaDoor
