/- Contracts of package lex's small functions: each returns what the plain side says, and leaves the world as it was. -/
import Derived.Test.YtkfhdmkdkphmoaaGreatDoorRows
import Derived.Test.YtkfhdmkdkphmoaaGreatDoorPure
import Derived.WalkKit
import Derived.WalkSpells
import Derived.WalkLawsBesides
namespace Go.Proofs.YtkfhdmkdkphmoaaGreatDoor
open Go.RowKit

/-- The table of classes lies in the world. -/
def Cl (w : World) : Prop := ∀ i : Nat, i < 128 → w.cell? ⟨0, i, none⟩ = some (.int .u8 (cls i : Nat))

set_option maxHeartbeats 400000 in
theorem class_any (s : ByteArray) (k : Nat) (w : World) (hC : Cl w) :
    Calls Tryz.prog 29 #[.string s, .int .i64 k] w fun e w' => e = .returned (.int .u8 (clsAt s k)) ∧ w' = w := by
  by_cases h : k < s.size
  · by_cases h2 : s[k].toNat < 128
    · have hc := hC s[k].toNat h2
      rw [clsAt_in h]
      clear hC
      go_enter Tryz.func29, Tryz.ntmps29
      go_wp2
      go_ret
      exact ⟨rfl, rfl⟩
    · rw [clsAt_in h, cls_big (by omega)]
      clear hC
      go_enter Tryz.func29, Tryz.ntmps29
      go_wp2
      go_ret
      exact ⟨rfl, rfl⟩
  · rw [clsAt_out h]
    clear hC
    go_enter Tryz.func29, Tryz.ntmps29
    go_wp2
    go_ret
    exact ⟨rfl, rfl⟩

theorem ret_bool {a b : Bool} (h : a = b) : Ending.returned (.bool a) = .returned (.bool b) := by rw [h]
theorem ret_int {k : IntKind} {a b : Int} (h : a = b) : Ending.returned (.int k a) = .returned (.int k b) := by rw [h]

theorem isNameSign_any (c : Nat) (w : World) :
    Calls Tryz.prog 56 #[.int .u8 c] w fun e w' => e = .returned (.bool (nsB c)) ∧ w' = w := by
  by_cases h1 : 1 ≤ c
  · have e : nsB c = decide (c ≤ 5) := by simp [nsB, h1]
    rw [e]
    go_enter Tryz.func56, Tryz.ntmps56
    go_wp2
    go_ret
    exact ⟨ret_bool (by rw [decide_eq_decide]; omega), rfl⟩
  · have e : nsB c = false := by simp [nsB, h1]
    rw [e]
    go_enter Tryz.func56, Tryz.ntmps56
    go_wp2
    go_ret
    exact ⟨rfl, rfl⟩

set_option maxHeartbeats 400000 in
theorem nameEnd_any (s : ByteArray) (k : Nat) (w : World) (hs : s.size ≤ maxLen) (hk : k ≤ s.size) (hC : Cl w) :
    Calls Tryz.prog 52 #[.string s, .int .i64 k] w fun e w' => e = .returned (.int .i64 (nameEndP s k)) ∧ w' = w := by
  unfold maxLen at hs
  have CLS : ∀ (j : Nat), Calls Tryz.prog 29 #[.string s, .int .i64 j] w fun e w' => e = .returned (.int .u8 (clsAt s j)) ∧ w' = w := fun j => class_any s j w hC
  clear hC
  go_enter Tryz.func52, Tryz.ntmps52
  go_wp2
  go_loop [1] (fun i => ∃ j : Nat, j ≤ s.size ∧ i = .int .i64 j ∧ Hid (nameEndP s k = nameEndP s j)) (fun i => s.size - (intOf i).toNat)
  case atStart => exact ⟨k, hk, rfl, rfl⟩
  case round =>
    obtain ⟨j, hj, rfl, HJ⟩ := hrel
    have hle := clsAt_le s j
    cases hn : nsB (clsAt s j) with
    | true =>
      have hlt : j < s.size := by
        by_cases h : j < s.size
        · exact h
        · rw [clsAt_out h] at hn; simp [nsB] at hn
      have HN : Hid (nameEndP s k = nameEndP s (j + 1)) := HJ.out.trans (endOf_step hlt hn)
      go_wp2_with (first
        | (go_at_call 29; refine (CLS _).mono ?_; rintro e w' ⟨rfl, rfl⟩)
        | (go_at_call 56; refine (isNameSign_any _ _).mono ?_; rintro e w' ⟨rfl, rfl⟩))
      go_round
      case rel => exact ⟨j + 1, by omega, by go_num, HN⟩
      case measure => simp [intOf]; omega
    | false =>
      have HN : Hid (nameEndP s k = j) := HJ.out.trans (endOf_stop hn)
      go_wp2_with (first
        | (go_at_call 29; refine (CLS _).mono ?_; rintro e w' ⟨rfl, rfl⟩)
        | (go_at_call 56; refine (isNameSign_any _ _).mono ?_; rintro e w' ⟨rfl, rfl⟩))
      go_ret
      exact ⟨ret_int (by rw [HN.out]), rfl⟩

set_option maxHeartbeats 400000 in
theorem runEnd_any (s : ByteArray) (k : Nat) (w : World) (hs : s.size ≤ maxLen) (hk : k ≤ s.size) (hC : Cl w) :
    Calls Tryz.prog 32 #[.string s, .int .i64 k] w fun e w' => e = .returned (.int .i64 (runEndP s k)) ∧ w' = w := by
  unfold maxLen at hs
  have CLS : ∀ (j : Nat), Calls Tryz.prog 29 #[.string s, .int .i64 j] w fun e w' => e = .returned (.int .u8 (clsAt s j)) ∧ w' = w := fun j => class_any s j w hC
  clear hC
  go_enter Tryz.func32, Tryz.ntmps32
  go_wp2
  go_loop [1] (fun i => ∃ j : Nat, j ≤ s.size ∧ i = .int .i64 j ∧ Hid (runEndP s k = runEndP s j)) (fun i => s.size - (intOf i).toNat)
  case atStart => exact ⟨k, hk, rfl, rfl⟩
  case round =>
    obtain ⟨j, hj, rfl, HJ⟩ := hrel
    have hle := clsAt_le s j
    by_cases hn : clsAt s j = 8
    · have hlt : j < s.size := by
        by_cases h : j < s.size
        · exact h
        · rw [clsAt_out h] at hn; simp at hn
      have HN : Hid (runEndP s k = runEndP s (j + 1)) := HJ.out.trans (endOf_step hlt (by simp [hn]))
      have hn' : ((clsAt s j : Nat) : Int) = 8 := by omega
      go_wp2_with (go_at_call 29; refine (CLS _).mono ?_; rintro e w' ⟨rfl, rfl⟩)
      go_round
      case rel => exact ⟨j + 1, by omega, by go_num, HN⟩
      case measure => simp [intOf]; omega
    · have HN : Hid (runEndP s k = j) := HJ.out.trans (endOf_stop (by simp [hn]))
      have hn' : ¬ ((clsAt s j : Nat) : Int) = 8 := by omega
      go_wp2_with (go_at_call 29; refine (CLS _).mono ?_; rintro e w' ⟨rfl, rfl⟩)
      go_ret
      exact ⟨ret_int (by rw [HN.out]), rfl⟩
end Go.Proofs.YtkfhdmkdkphmoaaGreatDoor
