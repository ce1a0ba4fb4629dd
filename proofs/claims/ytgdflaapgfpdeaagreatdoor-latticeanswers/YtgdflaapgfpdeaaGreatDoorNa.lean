/- The program's looks at names: contracts of isNameSign, isWord, isVariable. -/
import Derived.Test.YtgdflaapgfpdeaaGreatDoorMex
import Derived.Deep.RegionHeld3
import Derived.Deep.Cut
import Derived.BigQuiet
namespace Go.Proofs.YtgdflaapgfpdeaaGreatDoor
open Go.RowKit

set_option maxHeartbeats 4000000 in
set_option maxRecDepth 10000 in
theorem sign_any (c : UInt8) (w : World) : Calls Tryz.prog 99 #[.int .u8 c.toNat] w fun e w' => e = .returned (.bool (signB c)) ∧ w' = w := by
  have HE : Hid (((decide (97 ≤ c.toNat) && decide (c.toNat ≤ 122)) || (decide (65 ≤ c.toNat) && decide (c.toNat ≤ 90)) || (decide (48 ≤ c.toNat) && decide (c.toNat ≤ 57)) || decide (c.toNat = 95) || decide (c.toNat = 39)) = signB c) := rfl
  generalize signB c = r at HE
  have hc := c.toNat_lt
  generalize c.toNat = c at *
  go_enter Tryz.func99, Tryz.ntmps99
  go_wp2
  all_goals (go_ret; exact ⟨ret_bool (by rw [← HE.out, Bool.eq_iff_iff]; simp <;> omega), rfl⟩)
/-- A first byte of some, and signs behind it. -/
def wordB (lo hi : Nat) (n : List UInt8) : Bool := match n with | [] => false | c :: r => decide (lo ≤ c.toNat) && decide (c.toNat ≤ hi) && r.all signB
theorem word_small (n : List UInt8) : (decide (n.length ≤ 4096) && wordB 97 122 n) = varB n := by cases n <;> rfl
theorem word_upper (n : List UInt8) : wordB 65 90 n = upperB n := by cases n <;> rfl
set_option maxHeartbeats 4000000 in
set_option maxRecDepth 10000 in
theorem isWord_any (s : ByteArray) (lo hi : Nat) (w : World) (hs : s.size < 140737488355328) (hr : ∀ c : UInt8, lo ≤ c.toNat → c.toNat ≤ hi → signB c = true) : Calls Tryz.prog 93 #[.string s, .int .u8 lo, .int .u8 hi] w fun e w' => e = .returned (.bool (wordB lo hi s.data.toList)) ∧ w' = w := by
  by_cases h0 : s = ⟨#[]⟩
  · subst h0
    go_enter Tryz.func93, Tryz.ntmps93
    go_wp2
    go_ret
    exact ⟨rfl, rfl⟩
  · have hp := size_pos h0
    have ht : ¬ s.toList = [] := fun h => by rw [ByteArray.toList_eq, list_cons hp] at h; cases h
    have he : (s.toList == []) = false := by simpa using ht
    have HE : Hid ((decide (lo ≤ s[0].toNat) && decide (s[0].toNat ≤ hi) && (s.data.toList.drop 1).all signB) = wordB lo hi s.data.toList) := by
      show _ = wordB lo hi s.data.toList
      have hv : wordB lo hi (s[0] :: s.data.toList.drop 1) = (decide (lo ≤ s[0].toNat) && decide (s[0].toNat ≤ hi) && (s.data.toList.drop 1).all signB) := rfl
      rw [← list_cons hp] at hv
      exact hv.symm
    generalize wordB lo hi s.data.toList = r at HE
    by_cases h1 : lo ≤ s[0].toNat ∧ s[0].toNat ≤ hi
    · have HR : Hid ((s.data.toList.drop 0).all signB = r) := by
        show _ = r
        rw [drop_all hp, hr _ h1.1 h1.2, ← HE.out]
        simp [h1]
      have e1 : ¬ (s[0].toNat : Int) < lo := by omega
      have e2 : ¬ (hi : Int) < s[0].toNat := by omega
      clear HE hr
      go_enter Tryz.func93, Tryz.ntmps93
      go_wp2
      go_loopw [24] (fun i wr => ∃ j : Nat, j ≤ s.size ∧ i = .int .i64 j ∧ wr = w ∧ Hid ((s.data.toList.drop j).all signB = r)) (fun i _ => s.size - (intOf i).toNat)
      case atStart => exact ⟨0, by omega, by go_num, rfl, HR.out⟩
      case round =>
        obtain ⟨j, hj, rfl, rfl, HT⟩ := hrel
        by_cases hlt : j < s.size
        · have HN : Hid ((signB s[j] && (s.data.toList.drop (j + 1)).all signB) = r) := by
            rw [← drop_all hlt]; exact HT.out
          have S1 := fun W => sign_any s[j] W
          generalize signB s[j] = b at S1 HN
          clear HT e1 e2
          cases b with
          | true =>
            go_wp2_with (go_at_call 99; (with_reducible refine Calls.mono (S1 _) ?_); rintro e w' ⟨rfl, rfl⟩)
            go_roundw
            case rel => exact ⟨j + 1, by omega, by go_num, by first | rfl | trivial, HN.out⟩
            case measure => simp [intOf]; omega
          | false =>
            go_wp2_with (go_at_call 99; (with_reducible refine Calls.mono (S1 _) ?_); rintro e w' ⟨rfl, rfl⟩)
            go_ret
            exact ⟨ret_bool HN.out, rfl⟩
        · have HE : Hid (true = r) := by
            rw [← HT.out, List.drop_eq_nil_of_le (by simp; omega)]; rfl
          go_wp2
          go_ret
          exact ⟨ret_bool HE.out, rfl⟩
    · have HF : Hid (false = r) := by
        show _ = r
        rw [← HE.out]
        simp
        intro a b
        exact absurd ⟨a, b⟩ h1
      by_cases h2 : lo ≤ s[0].toNat
      · have h3 : ¬ s[0].toNat ≤ hi := fun h => h1 ⟨h2, h⟩
        have e1 : ¬ (s[0].toNat : Int) < lo := by omega
        have e2 : (hi : Int) < s[0].toNat := by omega
        clear HE hr
        go_enter Tryz.func93, Tryz.ntmps93
        go_wp2
        go_ret
        exact ⟨ret_bool HF.out, rfl⟩
      · have e1 : (s[0].toNat : Int) < lo := by omega
        clear HE hr
        go_enter Tryz.func93, Tryz.ntmps93
        go_wp2
        go_ret
        exact ⟨ret_bool HF.out, rfl⟩
theorem small_signs (c : UInt8) (h1 : 97 ≤ c.toNat) (h2 : c.toNat ≤ 122) : signB c = true := small_sign (by unfold smallB; simp [h1, h2])
theorem cap_signs (c : UInt8) (h1 : 65 ≤ c.toNat) (h2 : c.toNat ≤ 90) : signB c = true := cap_sign (by unfold capB; simp [h1, h2])
set_option maxRecDepth 10000 in
theorem isVariable_any (s : ByteArray) (w : World) (hs : s.size < 140737488355328) : Calls Tryz.prog 90 #[.string s] w fun e w' => e = .returned (.bool (varB s.data.toList)) ∧ w' = w := by
  have HE : Hid ((decide (s.size ≤ 4096) && wordB 97 122 s.data.toList) = varB s.data.toList) := by
    show _ = varB s.data.toList
    rw [← word_small]
    simp
  have S1 : ∀ W, Calls Tryz.prog 93 #[.string s, .int .u8 97, .int .u8 122] W fun e w' => e = .returned (.bool (wordB 97 122 s.data.toList)) ∧ w' = W := fun W => isWord_any s 97 122 W hs small_signs
  generalize varB s.data.toList = r at HE
  generalize wordB 97 122 s.data.toList = b at HE S1
  by_cases h1 : s.size ≤ 4096
  · go_enter Tryz.func90, Tryz.ntmps90
    go_wp2_with (go_at_call 93; (with_reducible refine Calls.mono (S1 _) ?_); rintro e w' ⟨rfl, rfl⟩)
    all_goals (go_ret; exact ⟨ret_bool (by rw [← HE.out]; simp [h1]), rfl⟩)
  · go_enter Tryz.func90, Tryz.ntmps90
    go_wp2
    go_ret
    exact ⟨ret_bool (by rw [← HE.out]; simp [h1]), rfl⟩
end Go.Proofs.YtgdflaapgfpdeaaGreatDoor
