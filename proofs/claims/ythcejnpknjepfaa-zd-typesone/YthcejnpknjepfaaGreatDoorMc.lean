/- The reference's names of variables: contracts of digits and letters. The reference's find: its contract. Names in the order in which they come. The program's names of variables: the contract of canonName. -/
import Derived.Test.YthcejnpknjepfaaGreatDoorMx
import Derived.Laws.IdiomStrings
namespace Go.Proofs.YthcejnpknjepfaaGreatDoor
open Go.RowKit

theorem one_byte (W : World) (c : Nat) (v : Int) (hv : v = (c : Int)) (hc : c < 256) : (convert 66 9 (.slice (some ⟨W.heap.size, 0, none⟩) 1 1)).run Tryz.prog (W.alloc (Obj.cells #[.int .u8 v] 5)) = .ok (strV [c.toUInt8]) (W.alloc (Obj.cells #[.int .u8 v] 5)) := by
  subst hv
  refine run_convert_bytes_back _ 66 9 5 ⟨W.heap.size, 0, none⟩ 1 [c.toUInt8] Tryz.underlying66 Tryz.underlying5 Tryz.underlying9 ?_
  intro j hj
  match j, hj with
  | 0, _ =>
    simp [Addr.add]
    omega
/-- A number below 100 in digits. -/
def digB (n : Nat) : List UInt8 := if n < 10 then [(48 + n).toUInt8] else [(48 + n / 10).toUInt8, (48 + n % 10).toUInt8]
set_option maxHeartbeats 4000000 in
set_option maxRecDepth 10000 in
theorem digits_any (n : Nat) (w : World) (hn : n < 100) : Calls Tryz.prog 74 #[.int .i64 n] w fun r w' => r = .returned (strV (digB n)) ∧ Below w.heap.size w w' := by
  have HN : Hid (n < 100) := hn
  go_enter Tryz.func74, Tryz.ntmps74
  go_wp2
  go_loopw [0, 3] (fun i b wr => ∃ (m : Nat) (acc : List UInt8), i = .int .i64 m ∧ b = strV acc ∧ Below w.heap.size w wr ∧ Hid ((m = n ∧ acc = []) ∨ (10 ≤ n ∧ m = n / 10 ∧ acc = [(48 + n % 10).toUInt8]))) (fun i _ _ => (intOf i).toNat)
  case atStart => exact ⟨n, [], rfl, rfl, Below.refl _ _, .inl ⟨rfl, rfl⟩⟩
  case round =>
    obtain ⟨m, acc, rfl, rfl, hbel, HJ⟩ := hrel
    have hm : m < 100 := by have := HN.out; have := HJ.out; omega
    have hal : acc.length ≤ 10 := by rcases HJ.out with ⟨_, h⟩ | ⟨_, _, h⟩ <;> rw [h] <;> simp
    by_cases hlt : m ≤ 9
    · have h1 : ¬ (9 : Int) < (m : Int) := by omega
      have hr := one_byte wr (48 + m) (48 + (m : Int)) (by omega) (by omega)
      have HE : Hid ((48 + m).toUInt8 :: acc = digB n) := by
        show _ = digB n
        unfold digB
        rcases HJ.out with ⟨h, h'⟩ | ⟨h0, h, h'⟩
        · rw [h', ← h, if_pos (by omega)]
        · rw [h', h, if_neg (by omega)]
      have HB : Hid (Below w.heap.size w (wr.alloc (Obj.cells #[.int .u8 (48 + (m : Int))] 5))) := hbel.alloc hbel.size _
      generalize (48 + m).toUInt8 = cc at hr HE
      go_wp2
      go_ret
      exact ⟨by rw [← HE.out]; exact congrArg (fun v => Ending.returned (.string v)) (str_append [cc] acc), HB.out⟩
    · have h1 : (9 : Int) < (m : Int) := by omega
      have hr := one_byte wr (48 + m % 10) (48 + (m : Int) % 10) (by omega) (by omega)
      have HB : Hid (Below w.heap.size w (wr.alloc (Obj.cells #[.int .u8 (48 + (m : Int) % 10)] 5))) := hbel.alloc hbel.size _
      have HE : Hid (10 ≤ n ∧ m / 10 = n / 10 ∧ (48 + m % 10).toUInt8 :: acc = [(48 + n % 10).toUInt8]) := by
        show _ ∧ _
        have := HN.out
        rcases HJ.out with ⟨h, h'⟩ | ⟨h0, h, h'⟩
        · subst h; rw [h']; exact ⟨by omega, rfl, rfl⟩
        · omega
      generalize (48 + m % 10).toUInt8 = cc at hr HE
      go_wp2
      go_roundw
      case rel => exact ⟨m / 10, cc :: acc, by go_num, congrArg Value.string (str_append [cc] acc), HB.out, .inr HE.out⟩
      case measure => simp [intOf]; omega
/-- The n-th variable's name. -/
def letB (n : Nat) : List UInt8 := (97 + n % 26).toUInt8 :: (if n < 26 then [] else digB (n / 26))
set_option maxHeartbeats 4000000 in
set_option maxRecDepth 10000 in
theorem letters_any (n : Nat) (w : World) (hn : n < 2600) : Calls Tryz.prog 48 #[.int .i64 n] w fun r w' => r = .returned (strV (letB n)) ∧ Below w.heap.size w w' := by
  have hr := one_byte w (97 + n % 26) (97 + (n : Int) % 26) (by omega) (by omega)
  have hb : ∀ o, Below w.heap.size w (w.alloc o) := fun o => (Below.refl _ _).alloc (Nat.le_refl _) o
  unfold letB
  generalize (97 + n % 26).toUInt8 = cc at hr ⊢
  by_cases h : n < 26
  · have h1 : (n : Int) < 26 := by omega
    rw [if_pos h]
    go_enter Tryz.func48, Tryz.ntmps48
    go_wp2
    go_ret
    exact ⟨rfl, hb _⟩
  · have h1 : ¬ (n : Int) < 26 := by omega
    rw [if_neg h]
    have C := fun W => digits_any (n / 26) W (by omega)
    have hl : (digB (n / 26)).length ≤ 2 := by unfold digB; split <;> simp
    generalize digB (n / 26) = tl at C hl ⊢
    have C' : ∀ W, Calls Tryz.prog 74 #[.int .i64 ((n : Int) / 26)] W fun r w' => r = .returned (strV tl) ∧ Below W.heap.size W w' := C
    clear C
    go_enter Tryz.func48, Tryz.ntmps48
    go_wp2_with (go_at_call 74; (with_reducible refine Calls.mono (C' _) ?_); rintro e' w1 ⟨rfl, hb1⟩)
    go_ret
    exact ⟨congrArg (fun v => Ending.returned (.string v)) (str_append [cc] tl), (hb _).trans (hb1.mono (by simp))⟩
end Go.Proofs.YthcejnpknjepfaaGreatDoor

namespace Go.Proofs.YthcejnpknjepfaaGreatDoor
open Go.RowKit

/-- Where a name stands first in a row of names; the row's length if nowhere. -/
def idxN : List (List UInt8) → List UInt8 → Nat
  | [], _ => 0
  | a :: r, x => if a = x then 0 else idxN r x + 1
/-- What find answers: -1 if nowhere. -/
def findI (ns : List (List UInt8)) (x : List UInt8) : Int := if idxN ns x < ns.length then (idxN ns x : Int) else -1
theorem idxOf_at {ns : List (List UInt8)} {x : List UInt8} {j : Nat} (h : j < ns.length) (hx : ns[j] = x) (hb : ∀ i (hi : i < j), ns[i] ≠ x) : idxN ns x = j := by
  induction ns generalizing j with
  | nil => simp at h
  | cons a r ih =>
    cases j with
    | zero => simp at hx; simp [idxN, hx]
    | succ j =>
      have h0 : a ≠ x := by simpa using hb 0 (by omega)
      rw [idxN, if_neg h0, ih (by simpa using h) (by simpa using hx) fun i hi => by simpa using hb (i + 1) (by omega)]
theorem idxOf_no {ns : List (List UInt8)} {x : List UInt8} (hb : ∀ i (hi : i < ns.length), ns[i] ≠ x) : idxN ns x = ns.length := by
  induction ns with
  | nil => rfl
  | cons a r ih =>
    have h0 : a ≠ x := hb 0 (by simp)
    rw [idxN, if_neg h0, ih fun i hi => hb (i + 1) (by simpa using hi)]
    rfl
set_option maxHeartbeats 4000000 in
set_option maxRecDepth 10000 in
theorem find_some (ns : List (List UInt8)) (x : List UInt8) (g o cap : Nat) (w : World) (hcap : ns.length < 140737488355328) (hc : ∀ j (h : j < ns.length), w.cell? ⟨g, o + j * 4, none⟩ = some (.string ⟨ns[j].toArray⟩)) : Calls Tryz.prog 47 #[.slice (some ⟨g, o, none⟩) ns.length cap, strV x] w fun r w' => r = .returned (.int .i64 (findI ns x)) ∧ w' = w := by
  generalize hR : findI ns x = R
  have HR : Hid (findI ns x = R) := hR
  have HC : Hid (∀ j (h : j < ns.length), w.cell? ⟨g, o + j * 4, none⟩ = some (.string ⟨ns[j].toArray⟩)) := hc
  clear hR hc
  go_enter Tryz.func47, Tryz.ntmps47
  go_wp2
  go_loopw [5] (fun i wr => ∃ (j : Nat), j ≤ ns.length ∧ i = .int .i64 j ∧ Hid (wr = w) ∧ Hid (∀ i (h : i < j) (h' : i < ns.length), ns[i] ≠ x)) (fun i _ => ns.length - (intOf i).toNat)
  case atStart => exact ⟨0, by omega, by go_num, rfl, fun i h => by omega⟩
  case round =>
    obtain ⟨j, hj, rfl, HW, HJ⟩ := hrel
    by_cases hlt : j < ns.length
    · have i1 : (0 : Int) ≤ (j : Int) := by omega
      have i2 : (j : Int) < (ns.length : Int) := by omega
      have p0 := HC.out j hlt
      rw [← HW.out] at p0
      have hjl : j + 1 ≤ ns.length := hlt
      by_cases hx : ns[j] = x
      · have HE : Hid (R = (j : Int)) := by
          show R = _
          have := idxOf_at hlt hx fun i hi => HJ.out i hi (by omega)
          rw [← HR.out, findI, this, if_pos hlt]
        rw [hx] at p0
        clear hx
        have q : (x == x) = true := by simp
        go_wp2
        go_ret
        exact ⟨by rw [HE.out]; rfl, HW.out⟩
      · have q : (ns[j] == x) = false := by simpa using hx
        have HN : Hid (∀ i (h : i < j + 1) (h' : i < ns.length), ns[i] ≠ x) := fun i h h' => by
          rcases Nat.lt_or_ge i j with h1 | h1
          · exact HJ.out i h1 h'
          · have : i = j := by omega
            subst this
            exact hx
        generalize ns[j] = y at p0 q
        clear hx
        go_wp2
        go_roundw
        case rel => exact ⟨j + 1, hjl, by go_num, HW, HN⟩
        case measure => simp [intOf]; omega
    · have HE : Hid (R = -1) := by
        show R = _
        have := idxOf_no (ns := ns) (x := x) fun i hi => HJ.out i (by omega) hi
        rw [← HR.out, findI, this, if_neg (by omega)]
      go_wp2
      go_ret
      exact ⟨by rw [HE.out]; rfl, HW.out⟩
set_option maxHeartbeats 4000000 in
set_option maxRecDepth 10000 in
theorem find_none (x : List UInt8) (ad : Option Addr) (cap : Nat) (w : World) : Calls Tryz.prog 47 #[.slice ad 0 cap, strV x] w fun r w' => r = .returned (.int .i64 (-1)) ∧ w' = w := by
  go_enter Tryz.func47, Tryz.ntmps47
  go_wp2
  go_loopw [5] (fun i wr => i = .int .i64 0 ∧ Hid (wr = w)) (fun _ _ => 0)
  case atStart => exact ⟨rfl, rfl⟩
  case round =>
    obtain ⟨rfl, HW⟩ := hrel
    go_wp2
    go_ret
    exact ⟨rfl, HW.out⟩
end Go.Proofs.YthcejnpknjepfaaGreatDoor

namespace Go.Proofs.YthcejnpknjepfaaGreatDoor

theorem idx_lt {ns : List (List UInt8)} {j : Nat} {n : List UInt8} (h : j < ns.length) (e : ns[j] = n) : idxN ns n < ns.length := by
  induction ns generalizing j with
  | nil => simp at h
  | cons a l ih =>
    rw [idxN]
    by_cases ha : a = n
    · rw [if_pos ha]; simp
    · rw [if_neg ha]
      cases j with
      | zero => exact absurd e ha
      | succ j =>
        have := ih (j := j) (by simpa using h) (by simpa using e)
        simpa using this
/-- One name more, if it is new. -/
def addN (ns : List (List UInt8)) (n : List UInt8) : List (List UInt8) := if idxN ns n < ns.length then ns else ns ++ [n]
theorem addN_pre (ns : List (List UInt8)) (n : List UInt8) : ns <+: addN ns n := by
  unfold addN
  split
  · exact List.prefix_refl _
  · exact List.prefix_append _ _
theorem addN_mem (ns : List (List UInt8)) (n : List UInt8) : idxN (addN ns n) n < (addN ns n).length := by
  unfold addN
  split
  · assumption
  · exact idx_lt (j := ns.length) (by simp) (by simp)
theorem fold_pre : ∀ (l ns : List (List UInt8)), ns <+: l.foldl addN ns
  | [], _ => List.prefix_refl _
  | n :: l, ns => (addN_pre ns n).trans (fold_pre l (addN ns n))
theorem idx_pre {ns NS : List (List UInt8)} {n : List UInt8} (h : ns <+: NS) (hn : idxN ns n < ns.length) : idxN NS n = idxN ns n := by
  obtain ⟨r, rfl⟩ := h
  induction ns with
  | nil => simp at hn
  | cons a l ih =>
    rw [List.cons_append, idxN, idxN]
    by_cases ha : a = n
    · rw [if_pos ha, if_pos ha]
    · rw [if_neg ha, if_neg ha]
      rw [idxN, if_neg ha] at hn
      rw [ih (by simpa using hn)]
theorem fold_len : ∀ (l ns : List (List UInt8)), (l.foldl addN ns).length ≤ ns.length + l.length
  | [], _ => by simp
  | n :: l, ns => by
    rw [List.foldl_cons]
    have h1 := fold_len l (addN ns n)
    have h2 : (addN ns n).length ≤ ns.length + 1 := by
      unfold addN
      split <;> simp
    simp
    omega
end Go.Proofs.YthcejnpknjepfaaGreatDoor

namespace Go.Proofs.YthcejnpknjepfaaGreatDoor
open Go.RowKit

theorem letter_at (i : Nat) (h : i < 26) : (⟨#[97, 98, 99, 100, 101, 102, 103, 104, 105, 106, 107, 108, 109, 110, 111, 112, 113, 114, 115, 116, 117, 118, 119, 120, 121, 122]⟩ : ByteArray).extract i (i + 1) = ⟨[(97 + i).toUInt8].toArray⟩ := by
  have : ∀ j : Fin 26, ((#[97, 98, 99, 100, 101, 102, 103, 104, 105, 106, 107, 108, 109, 110, 111, 112, 113, 114, 115, 116, 117, 118, 119, 120, 121, 122] : Array UInt8).extract j.1 (j.1 + 1)) = #[(97 + j.1).toUInt8] := by decide
  apply ByteArray.ext
  rw [ByteArray.data_extract]
  exact this ⟨i, h⟩
set_option maxHeartbeats 4000000 in
set_option maxRecDepth 10000 in
theorem canonName_any (IT : ∀ (n : Nat) (W : World), n < 100 → Calls Tryz.prog 52 #[.int .i64 n] W fun r w' => r = .returned (strV (digB n)) ∧ w' = W) (n : Nat) (w : World) (hn : n < 2600) : Calls Tryz.prog 30 #[.int .i64 n] w fun r w' => r = .returned (strV (letB n)) ∧ w' = w := by
  have hL := letter_at (n % 26) (by omega)
  have C : Calls Tryz.prog 52 #[.int .i64 ((n : Int) / 26)] w fun r w' => r = .returned (strV (digB (n / 26))) ∧ w' = w := IT (n / 26) w (by omega)
  have hl : (digB (n / 26)).length ≤ 2 := by unfold digB; split <;> simp
  clear IT
  unfold letB
  generalize (97 + n % 26).toUInt8 = cc at hL ⊢
  generalize digB (n / 26) = tl at C hl ⊢
  by_cases h : n < 26
  · have h1 : ¬ (0 : Int) < (n : Int) / 26 := by omega
    rw [if_pos h]
    clear C
    go_enter Tryz.func30, Tryz.ntmps30
    go_wp2
    go_ret
    exact ⟨rfl, rfl⟩
  · have h1 : (0 : Int) < (n : Int) / 26 := by omega
    rw [if_neg h]
    go_enter Tryz.func30, Tryz.ntmps30
    go_wp2_with (go_at_call 52; (with_reducible refine Calls.mono C ?_); rintro e' w1 ⟨rfl, rfl⟩)
    go_ret
    exact ⟨congrArg (fun v => Ending.returned (.string v)) (str_append [cc] tl), rfl⟩
end Go.Proofs.YthcejnpknjepfaaGreatDoor
