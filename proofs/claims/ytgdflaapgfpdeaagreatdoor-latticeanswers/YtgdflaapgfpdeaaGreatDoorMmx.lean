/- The reference's names of variables: contracts of digits and letters. The reference's find: its contract. Names in the order in which they come. The program's names of variables: the contract of canonName. -/
import Derived.Test.YtgdflaapgfpdeaaGreatDoorMlx
import Derived.Laws.IdiomStrings
namespace Go.Proofs.YtgdflaapgfpdeaaGreatDoor
open Go.RowKit

theorem one_byte (W : World) (c : Nat) (v : Int) (hv : v = (c : Int)) (hc : c < 256) : (convert 126 9 (.slice (some ⟨W.heap.size, 0, none⟩) 1 1)).run Tryz.prog (W.alloc (Obj.cells #[.int .u8 v] 5)) = .ok (strV [c.toUInt8]) (W.alloc (Obj.cells #[.int .u8 v] 5)) := by
  subst hv
  refine run_convert_bytes_back _ 126 9 5 ⟨W.heap.size, 0, none⟩ 1 [c.toUInt8] Tryz.underlying126 Tryz.underlying5 Tryz.underlying9 ?_
  intro j hj
  match j, hj with
  | 0, _ =>
    simp [Addr.add]
    omega
/-- A number below 100 in digits. -/
def digB (n : Nat) : List UInt8 := if n < 10 then [(48 + n).toUInt8] else [(48 + n / 10).toUInt8, (48 + n % 10).toUInt8]
/-- The n-th variable's name. -/
def letB (n : Nat) : List UInt8 := (97 + n % 26).toUInt8 :: (if n < 26 then [] else digB (n / 26))
end Go.Proofs.YtgdflaapgfpdeaaGreatDoor

namespace Go.Proofs.YtgdflaapgfpdeaaGreatDoor
open Go.RowKit

/-- Where a name stands first in a row of names; the row's length if nowhere. -/
def idxN : List (List UInt8) → List UInt8 → Nat
  | [], _ => 0
  | a :: r, x => if a = x then 0 else idxN r x + 1
/-- What find answers: -1 if nowhere. -/
def findI (ns : List (List UInt8)) (x : List UInt8) : Int := if idxN ns x < ns.length then (idxN ns x : Int) else -1
theorem idxOf_at {ns : List (List UInt8)} {x : List UInt8} {j : Nat} (h : j < ns.length) (hx : ns[j] = x) (hb : ∀ i (hi : i < j), ns[i] ≠ x) : idxN ns x = j := by
  induction ns generalizing j with
  | nil => simp at h
  | cons a r ih =>
    cases j with
    | zero => simp at hx; simp [idxN, hx]
    | succ j =>
      have h0 : a ≠ x := by simpa using hb 0 (by omega)
      rw [idxN, if_neg h0, ih (by simpa using h) (by simpa using hx) fun i hi => by simpa using hb (i + 1) (by omega)]
theorem idxOf_no {ns : List (List UInt8)} {x : List UInt8} (hb : ∀ i (hi : i < ns.length), ns[i] ≠ x) : idxN ns x = ns.length := by
  induction ns with
  | nil => rfl
  | cons a r ih =>
    have h0 : a ≠ x := hb 0 (by simp)
    rw [idxN, if_neg h0, ih fun i hi => hb (i + 1) (by simpa using hi)]
    rfl
end Go.Proofs.YtgdflaapgfpdeaaGreatDoor

namespace Go.Proofs.YtgdflaapgfpdeaaGreatDoor

theorem idx_lt {ns : List (List UInt8)} {j : Nat} {n : List UInt8} (h : j < ns.length) (e : ns[j] = n) : idxN ns n < ns.length := by
  induction ns generalizing j with
  | nil => simp at h
  | cons a l ih =>
    rw [idxN]
    by_cases ha : a = n
    · rw [if_pos ha]; simp
    · rw [if_neg ha]
      cases j with
      | zero => exact absurd e ha
      | succ j =>
        have := ih (j := j) (by simpa using h) (by simpa using e)
        simpa using this
/-- One name more, if it is new. -/
def addN (ns : List (List UInt8)) (n : List UInt8) : List (List UInt8) := if idxN ns n < ns.length then ns else ns ++ [n]
theorem addN_pre (ns : List (List UInt8)) (n : List UInt8) : ns <+: addN ns n := by
  unfold addN
  split
  · exact List.prefix_refl _
  · exact List.prefix_append _ _
theorem addN_mem (ns : List (List UInt8)) (n : List UInt8) : idxN (addN ns n) n < (addN ns n).length := by
  unfold addN
  split
  · assumption
  · exact idx_lt (j := ns.length) (by simp) (by simp)
theorem fold_pre : ∀ (l ns : List (List UInt8)), ns <+: l.foldl addN ns
  | [], _ => List.prefix_refl _
  | n :: l, ns => (addN_pre ns n).trans (fold_pre l (addN ns n))
theorem idx_pre {ns NS : List (List UInt8)} {n : List UInt8} (h : ns <+: NS) (hn : idxN ns n < ns.length) : idxN NS n = idxN ns n := by
  obtain ⟨r, rfl⟩ := h
  induction ns with
  | nil => simp at hn
  | cons a l ih =>
    rw [List.cons_append, idxN, idxN]
    by_cases ha : a = n
    · rw [if_pos ha, if_pos ha]
    · rw [if_neg ha, if_neg ha]
      rw [idxN, if_neg ha] at hn
      rw [ih (by simpa using hn)]
theorem fold_len : ∀ (l ns : List (List UInt8)), (l.foldl addN ns).length ≤ ns.length + l.length
  | [], _ => by simp
  | n :: l, ns => by
    rw [List.foldl_cons]
    have h1 := fold_len l (addN ns n)
    have h2 : (addN ns n).length ≤ ns.length + 1 := by
      unfold addN
      split <;> simp
    simp
    omega
end Go.Proofs.YtgdflaapgfpdeaaGreatDoor

namespace Go.Proofs.YtgdflaapgfpdeaaGreatDoor
open Go.RowKit

theorem letter_at (i : Nat) (h : i < 26) : (⟨#[97, 98, 99, 100, 101, 102, 103, 104, 105, 106, 107, 108, 109, 110, 111, 112, 113, 114, 115, 116, 117, 118, 119, 120, 121, 122]⟩ : ByteArray).extract i (i + 1) = ⟨[(97 + i).toUInt8].toArray⟩ := by
  have : ∀ j : Fin 26, ((#[97, 98, 99, 100, 101, 102, 103, 104, 105, 106, 107, 108, 109, 110, 111, 112, 113, 114, 115, 116, 117, 118, 119, 120, 121, 122] : Array UInt8).extract j.1 (j.1 + 1)) = #[(97 + j.1).toUInt8] := by decide
  apply ByteArray.ext
  rw [ByteArray.data_extract]
  exact this ⟨i, h⟩
set_option maxHeartbeats 4000000 in
set_option maxRecDepth 10000 in
theorem canonName_any (IT : ∀ (n : Nat) (W : World), n < 100 → Calls Tryz.prog 75 #[.int .i64 n] W fun r w' => r = .returned (strV (digB n)) ∧ w' = W) (n : Nat) (w : World) (hn : n < 2600) : Calls Tryz.prog 65 #[.int .i64 n] w fun r w' => r = .returned (strV (letB n)) ∧ w' = w := by
  have hL := letter_at (n % 26) (by omega)
  have C : Calls Tryz.prog 75 #[.int .i64 ((n : Int) / 26)] w fun r w' => r = .returned (strV (digB (n / 26))) ∧ w' = w := IT (n / 26) w (by omega)
  have hl : (digB (n / 26)).length ≤ 2 := by unfold digB; split <;> simp
  clear IT
  unfold letB
  generalize (97 + n % 26).toUInt8 = cc at hL ⊢
  generalize digB (n / 26) = tl at C hl ⊢
  by_cases h : n < 26
  · have h1 : ¬ (0 : Int) < (n : Int) / 26 := by omega
    rw [if_pos h]
    clear C
    go_enter Tryz.func65, Tryz.ntmps65
    go_wp2
    go_ret
    exact ⟨rfl, rfl⟩
  · have h1 : (0 : Int) < (n : Int) / 26 := by omega
    rw [if_neg h]
    go_enter Tryz.func65, Tryz.ntmps65
    go_wp2_with (go_at_call 75; (with_reducible refine Calls.mono C ?_); rintro e' w1 ⟨rfl, rfl⟩)
    go_ret
    exact ⟨congrArg (fun v => Ending.returned (.string v)) (str_append [cc] tl), rfl⟩
end Go.Proofs.YtgdflaapgfpdeaaGreatDoor
