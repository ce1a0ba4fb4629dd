/- The reference's names: contracts of small, capital, sign, signs, Variable, upper, DataName. -/
import Derived.Test.YtgdflaapgfpdeaaGreatDoorMcx
import Derived.Test.YtgdflaapgfpdeaaGreatDoorMdx
import Derived.WalkKit
import Derived.WalkSpells
import Derived.WalkLawsBesides
import Derived.WalkMore
import Derived.Deep.RegionHeld3
import Derived.Deep.Cut
import Derived.BigQuiet
import Derived.Test.YtgdflaapgfpdeaaGreatDoorMex
namespace Go.Proofs.YtgdflaapgfpdeaaGreatDoor
open Go.RowKit

theorem ref_small (c : UInt8) (w : World) : Calls Tryz.prog 80 #[.int .u8 c.toNat] w fun e w' => e = .returned (.bool (smallB c)) ∧ w' = w := by
  have HE : Hid ((decide (97 ≤ c.toNat) && decide (c.toNat ≤ 122)) = smallB c) := rfl
  generalize smallB c = r at HE
  have hc := c.toNat_lt
  generalize c.toNat = c at *
  go_enter Tryz.func80, Tryz.ntmps80
  go_wp2
  all_goals (go_ret; exact ⟨ret_bool (by rw [← HE.out, Bool.eq_iff_iff]; simp; omega), rfl⟩)
theorem ref_capital (c : UInt8) (w : World) : Calls Tryz.prog 89 #[.int .u8 c.toNat] w fun e w' => e = .returned (.bool (capB c)) ∧ w' = w := by
  have HE : Hid ((decide (65 ≤ c.toNat) && decide (c.toNat ≤ 90)) = capB c) := rfl
  generalize capB c = r at HE
  have hc := c.toNat_lt
  generalize c.toNat = c at *
  go_enter Tryz.func89, Tryz.ntmps89
  go_wp2
  all_goals (go_ret; exact ⟨ret_bool (by rw [← HE.out, Bool.eq_iff_iff]; simp; omega), rfl⟩)
theorem ref_sign (c : UInt8) (w : World) : Calls Tryz.prog 88 #[.int .u8 c.toNat] w fun e w' => e = .returned (.bool (signB c)) ∧ w' = w := by
  have HE : Hid ((smallB c || capB c || (decide (48 ≤ c.toNat) && decide (c.toNat ≤ 57)) || decide (c.toNat = 95) || decide (c.toNat = 39)) = signB c) := rfl
  have S1 := fun W => ref_small c W
  have S2 := fun W => ref_capital c W
  generalize signB c = r at HE
  generalize smallB c = b1 at *
  generalize capB c = b2 at *
  have hc := c.toNat_lt
  generalize c.toNat = c at *
  cases b1 <;> cases b2
  all_goals
    go_enter Tryz.func88, Tryz.ntmps88
    go_wp2_with (first
      | (go_at_call 80; (with_reducible refine Calls.mono (S1 _) ?_); rintro e w' ⟨rfl, rfl⟩)
      | (go_at_call 89; (with_reducible refine Calls.mono (S2 _) ?_); rintro e w' ⟨rfl, rfl⟩))
    all_goals (go_ret; exact ⟨ret_bool (by rw [← HE.out, Bool.eq_iff_iff]; simp <;> omega), rfl⟩)

set_option maxRecDepth 10000 in
theorem ref_signs (s : ByteArray) (f : Nat) (w : World) (hs : s.size < 140737488355328) (hf : f ≤ s.size) : Calls Tryz.prog 81 #[.string s, .int .i64 f] w fun e w' => e = .returned (.bool ((s.data.toList.drop f).all signB)) ∧ w' = w := by
  generalize hR : (s.data.toList.drop f).all signB = R
  have HR : Hid ((s.data.toList.drop f).all signB = R) := hR
  clear hR
  go_enter Tryz.func81, Tryz.ntmps81
  go_wp2
  go_loopw [5] (fun i wr => ∃ j : Nat, j ≤ s.size ∧ i = .int .i64 j ∧ wr = w ∧ Hid ((s.data.toList.drop j).all signB = R)) (fun i _ => s.size - (intOf i).toNat)
  case atStart => exact ⟨f, hf, by go_num, rfl, HR.out⟩
  case round =>
    obtain ⟨j, hj, rfl, rfl, HT⟩ := hrel
    by_cases hlt : j < s.size
    · have HN : Hid ((signB s[j] && (s.data.toList.drop (j + 1)).all signB) = R) := by
        rw [← drop_all hlt]; exact HT.out
      have S1 := fun W => ref_sign s[j] W
      generalize signB s[j] = b at S1 HN
      clear HT
      cases b with
      | true =>
        go_wp2_with (go_at_call 88; (with_reducible refine Calls.mono (S1 _) ?_); rintro e w' ⟨rfl, rfl⟩)
        go_roundw
        case rel => exact ⟨j + 1, by omega, by go_num, by first | rfl | trivial, HN.out⟩
        case measure => simp [intOf]; omega
      | false =>
        go_wp2_with (go_at_call 88; (with_reducible refine Calls.mono (S1 _) ?_); rintro e w' ⟨rfl, rfl⟩)
        go_ret
        exact ⟨ret_bool HN.out, rfl⟩
    · have HE : Hid (true = R) := by
        rw [← HT.out, List.drop_eq_nil_of_le (by simp; omega)]; rfl
      go_wp2
      go_ret
      exact ⟨ret_bool HE.out, rfl⟩
set_option maxRecDepth 10000 in
theorem ref_variable (s : ByteArray) (w : World) (hs : s.size < 140737488355328) : Calls Tryz.prog 69 #[.string s] w fun e w' => e = .returned (.bool (varB s.data.toList)) ∧ w' = w := by
  by_cases h0 : s = ⟨#[]⟩
  · subst h0
    go_enter Tryz.func69, Tryz.ntmps69
    go_wp2
    go_ret
    exact ⟨rfl, rfl⟩
  · have hp := size_pos h0
    have ht : ¬ s.toList = [] := fun h => by rw [ByteArray.toList_eq, list_cons hp] at h; cases h
    have he : s.toList.isEmpty = false := by simpa using ht
    have HE : Hid ((decide (s.size ≤ 4096) && (smallB s[0] && (s.data.toList.drop 1).all signB)) = varB s.data.toList) := by
      show _ = varB s.data.toList
      have hv : varB (s[0] :: s.data.toList.drop 1) = (decide ((s.data.toList.drop 1).length + 1 ≤ 4096) && (smallB s[0] && (s.data.toList.drop 1).all signB)) := rfl
      rw [← list_cons hp] at hv
      have hl : s.data.toList.length = s.size := by simp
      rw [hv]
      congr 1
      rw [decide_eq_decide, List.length_drop]
      omega
    generalize varB s.data.toList = r at HE
    have S1 := fun W => ref_small s[0] W
    have S2 := fun W => ref_signs s 1 W hs (by omega)
    generalize smallB s[0] = b1 at *
    generalize (s.data.toList.drop 1).all signB = b2 at *
    by_cases h1 : s.size ≤ 4096
    · cases b1 <;> cases b2
      all_goals
        go_enter Tryz.func69, Tryz.ntmps69
        go_wp2_with (first
          | (go_at_call 80; (with_reducible refine Calls.mono (S1 _) ?_); rintro e w' ⟨rfl, rfl⟩)
          | (go_at_call 81; (with_reducible refine Calls.mono (S2 _) ?_); rintro e w' ⟨rfl, rfl⟩))
        all_goals (go_ret; exact ⟨ret_bool (by rw [← HE.out]; simp [h1]), rfl⟩)
    · go_enter Tryz.func69, Tryz.ntmps69
      go_wp2
      go_ret
      exact ⟨ret_bool (by rw [← HE.out]; simp [h1]), rfl⟩
set_option maxRecDepth 10000 in
theorem ref_upper (s : ByteArray) (w : World) (hs : s.size < 140737488355328) : Calls Tryz.prog 82 #[.string s] w fun e w' => e = .returned (.bool (upperB s.data.toList)) ∧ w' = w := by
  by_cases h0 : s = ⟨#[]⟩
  · subst h0
    go_enter Tryz.func82, Tryz.ntmps82
    go_wp2
    go_ret
    exact ⟨rfl, rfl⟩
  · have hp := size_pos h0
    have ht : ¬ s.toList = [] := fun h => by rw [ByteArray.toList_eq, list_cons hp] at h; cases h
    have he : s.toList.isEmpty = false := by simpa using ht
    have HE : Hid ((capB s[0] && (s.data.toList.drop 1).all signB) = upperB s.data.toList) := by
      show _ = upperB s.data.toList
      rw [list_cons hp]
      rfl
    generalize upperB s.data.toList = r at HE
    have S1 := fun W => ref_capital s[0] W
    have S2 := fun W => ref_signs s 1 W hs (by omega)
    generalize capB s[0] = b1 at *
    generalize (s.data.toList.drop 1).all signB = b2 at *
    cases b1 <;> cases b2
    all_goals
      go_enter Tryz.func82, Tryz.ntmps82
      go_wp2_with (first
        | (go_at_call 89; (with_reducible refine Calls.mono (S1 _) ?_); rintro e w' ⟨rfl, rfl⟩)
        | (go_at_call 81; (with_reducible refine Calls.mono (S2 _) ?_); rintro e w' ⟨rfl, rfl⟩))
      all_goals (go_ret; exact ⟨ret_bool (by rw [← HE.out]; simp), rfl⟩)
set_option maxHeartbeats 4000000 in
set_option maxRecDepth 10000 in
theorem ref_data (s : ByteArray) (w : World) (hs : s.size < 140737488355328) : Calls Tryz.prog 70 #[.string s] w fun e w' => e = .returned (.bool (dataB s.data.toList)) ∧ w' = w := by
  have hl : s.data.toList.length = s.size := by simp
  by_cases hI : s.toList = [73, 110, 116]
  · have HE : Hid (dataB s.data.toList = false) := by rw [← ByteArray.toList_eq, hI]; exact int_not_data
    generalize dataB s.data.toList = r at HE
    go_enter Tryz.func70, Tryz.ntmps70
    go_wp2
    go_ret
    exact ⟨ret_bool HE.out.symm, rfl⟩
  · have hI2 : s.data.toList ≠ [73, 110, 116] := by rw [← ByteArray.toList_eq]; exact hI
    by_cases h1 : s.size ≤ 4096
    · have U := fun (s : ByteArray) (h : s.size < 140737488355328) W => ref_upper s W h
      have hI3 : (s.toList == [73, 110, 116]) = false := by simpa using hI
      rcases data_split s.data.toList with hno | ⟨i, hi, e1, e2⟩
      · have HE : Hid (upperB s.data.toList = dataB s.data.toList) := by
          show _ = dataB s.data.toList
          rw [data_plainly hno]
          simp [hI2, h1]
        have HP : Hid (∀ j (h : j < s.size), s[j] ≠ 46) := fun j h => hno _ (by show s.data[j] ∈ s.data.toList; simp)
        have U0 := U s hs
        generalize upperB s.data.toList = r0 at HE U0
        generalize dataB s.data.toList = r at HE
        clear hI hI2 hno U
        go_enter Tryz.func70, Tryz.ntmps70
        go_wp2
        go_loopw [3] (fun i wr => ∃ j : Nat, j ≤ s.size ∧ i = .int .i64 j ∧ wr = w) (fun i _ => s.size - (intOf i).toNat)
        case atStart => exact ⟨0, by omega, by go_num, rfl⟩
        case round =>
          obtain ⟨j, hj, rfl, rfl⟩ := hrel
          by_cases hlt : j < s.size
          · have hb := point_ne (HP.out j hlt)
            go_wp2
            go_roundw
            case rel => exact ⟨j + 1, by omega, by go_num, by first | rfl | trivial⟩
            case measure => simp [intOf]; omega
          · go_wp2_with (go_at_call 82; (with_reducible refine Calls.mono (U0 _) ?_); rintro e w' ⟨rfl, rfl⟩)
            go_ret
            exact ⟨ret_bool HE.out, rfl⟩
      · have hi' : i < s.size := by omega
        have HE : Hid ((upperB (s.data.toList.take i) && upperB (s.data.toList.drop (i + 1))) = dataB s.data.toList) := by
          show _ = dataB s.data.toList
          rw [data_pointed hi e1 e2]
          simp [hI2, h1]
        have HP : Hid (∀ j (h : j < s.size), j < i → s[j] ≠ 46) := fun j h hj => e2 j (by omega) hj
        have hb0 : ((s[i].toNat : Int) == 46) = true := by
          have : s[i] = 46 := e1
          rw [this]; rfl
        have U1 := U (s.extract 0 i) (by rw [ByteArray.size_extract]; omega)
        have U2 := U (s.extract (i + 1) s.size) (by rw [ByteArray.size_extract]; omega)
        rw [show (s.extract 0 i).data.toList = s.data.toList.take i by simp [ByteArray.data_extract]] at U1
        rw [show (s.extract (i + 1) s.size).data.toList = s.data.toList.drop (i + 1) by
          rw [ByteArray.data_extract, Array.toList_extract, List.extract_eq_take_drop, List.take_of_length_le]
          rw [List.length_drop]; omega] at U2
        generalize upperB (s.data.toList.take i) = r1 at HE U1
        generalize upperB (s.data.toList.drop (i + 1)) = r2 at HE U2
        generalize dataB s.data.toList = r at HE
        clear hI hI2 U e1 e2 hi hl
        go_enter Tryz.func70, Tryz.ntmps70
        go_wp2
        go_loopw [3] (fun i0 wr => ∃ j : Nat, j ≤ i ∧ i0 = .int .i64 j ∧ wr = w) (fun i0 _ => s.size - (intOf i0).toNat)
        case atStart => exact ⟨0, by omega, by go_num, rfl⟩
        case round =>
          obtain ⟨j, hj, rfl, rfl⟩ := hrel
          have hjs : j < s.size := by omega
          by_cases hlt : j < i
          · have hb := point_ne (HP.out j hjs hlt)
            clear hb0
            go_wp2
            go_roundw
            case rel => exact ⟨j + 1, by omega, by go_num, by first | rfl | trivial⟩
            case measure => simp [intOf]; omega
          · obtain rfl : j = i := by omega
            cases r1 <;> cases r2
            all_goals
              go_wp2_with (first
                | (go_at_call_of 82 (s.extract 0 j); (with_reducible refine Calls.mono (U1 _) ?_); rintro e w' ⟨rfl, rfl⟩)
                | (go_at_call 82; (with_reducible refine Calls.mono (U2 _) ?_); rintro e w' ⟨rfl, rfl⟩))
              go_ret
              exact ⟨ret_bool HE.out, rfl⟩
    · have HE : Hid (dataB s.data.toList = false) := by
        show _ = false
        unfold dataB
        simp [h1]
      generalize dataB s.data.toList = r at HE
      have hI3 : (s.toList == [73, 110, 116]) = false := by simpa using hI
      go_enter Tryz.func70, Tryz.ntmps70
      go_wp2
      go_ret
      exact ⟨ret_bool HE.out.symm, rfl⟩
end Go.Proofs.YtgdflaapgfpdeaaGreatDoor
