/- The reference's classes of bytes: contracts of small, capital, digit, sign, among, operator, special. The reference's ends of names and runs, and its dashes: contracts of signs, run, dashes, point. The reference's kindOf: its contract. The reference's reserved and named: contracts. -/
import Derived.Test.YtkfhdmkdkphmoaaGreatDoorW5
import Derived.Test.YtkfhdmkdkphmoaaGreatDoorTokW
import Derived.Test.YtkfhdmkdkphmoaaGreatDoorStep
namespace Go.Proofs.YtkfhdmkdkphmoaaGreatDoor
open Go.RowKit

theorem cls_small : ∀ c : Fin 256, (decide (97 ≤ c.1) && decide (c.1 ≤ 122)) = decide (cls c.1 = 1) := by decide +kernel
theorem cls_capital : ∀ c : Fin 256, (decide (65 ≤ c.1) && decide (c.1 ≤ 90)) = decide (cls c.1 = 2) := by decide +kernel
theorem cls_digit : ∀ c : Fin 256, (decide (48 ≤ c.1) && decide (c.1 ≤ 57)) = decide (cls c.1 = 3) := by decide +kernel
theorem cls_sign : ∀ c : Fin 256, (decide (cls c.1 = 1) || decide (cls c.1 = 2) || decide (cls c.1 = 3) || decide (c.1 = 95) || decide (c.1 = 39)) = nsB (cls c.1) := by decide +kernel

theorem ref_small (c : Nat) (w : World) (hc : c < 256) : Calls Tryz.prog 16 #[.int .u8 c] w fun e w' => e = .returned (.bool (decide (cls c = 1))) ∧ w' = w := by
  have HE : Hid ((decide (97 ≤ c) && decide (c ≤ 122)) = decide (cls c = 1)) := cls_small ⟨c, hc⟩
  generalize decide (cls c = 1) = r at HE
  go_enter Tryz.func16, Tryz.ntmps16
  go_wp2
  all_goals (go_ret; exact ⟨ret_bool (by rw [← HE.out, Bool.eq_iff_iff]; simp; omega), rfl⟩)
theorem ref_capital (c : Nat) (w : World) (hc : c < 256) : Calls Tryz.prog 17 #[.int .u8 c] w fun e w' => e = .returned (.bool (decide (cls c = 2))) ∧ w' = w := by
  have HE : Hid ((decide (65 ≤ c) && decide (c ≤ 90)) = decide (cls c = 2)) := cls_capital ⟨c, hc⟩
  generalize decide (cls c = 2) = r at HE
  go_enter Tryz.func17, Tryz.ntmps17
  go_wp2
  all_goals (go_ret; exact ⟨ret_bool (by rw [← HE.out, Bool.eq_iff_iff]; simp; omega), rfl⟩)
theorem ref_digit (c : Nat) (w : World) (hc : c < 256) : Calls Tryz.prog 18 #[.int .u8 c] w fun e w' => e = .returned (.bool (decide (cls c = 3))) ∧ w' = w := by
  have HE : Hid ((decide (48 ≤ c) && decide (c ≤ 57)) = decide (cls c = 3)) := cls_digit ⟨c, hc⟩
  generalize decide (cls c = 3) = r at HE
  go_enter Tryz.func18, Tryz.ntmps18
  go_wp2
  all_goals (go_ret; exact ⟨ret_bool (by rw [← HE.out, Bool.eq_iff_iff]; simp; omega), rfl⟩)
theorem ref_sign (c : Nat) (w : World) (hc : c < 256) : Calls Tryz.prog 45 #[.int .u8 c] w fun e w' => e = .returned (.bool (nsB (cls c))) ∧ w' = w := by
  have HE : Hid ((decide (cls c = 1) || decide (cls c = 2) || decide (cls c = 3) || decide (c = 95) || decide (c = 39)) = nsB (cls c)) := cls_sign ⟨c, hc⟩
  have S1 := fun W => ref_small c W hc
  have S2 := fun W => ref_capital c W hc
  have S3 := fun W => ref_digit c W hc
  generalize nsB (cls c) = r at HE
  generalize decide (cls c = 1) = b1 at *
  generalize decide (cls c = 2) = b2 at *
  generalize decide (cls c = 3) = b3 at *
  cases b1 <;> cases b2 <;> cases b3
  all_goals
    go_enter Tryz.func45, Tryz.ntmps45
    go_wp2_with (first
      | (go_at_call 16; (with_reducible refine Calls.mono (S1 _) ?_); rintro e w' ⟨rfl, rfl⟩)
      | (go_at_call 17; (with_reducible refine Calls.mono (S2 _) ?_); rintro e w' ⟨rfl, rfl⟩)
      | (go_at_call 18; (with_reducible refine Calls.mono (S3 _) ?_); rintro e w' ⟨rfl, rfl⟩))
    all_goals (go_ret; exact ⟨ret_bool (by rw [← HE.out, Bool.eq_iff_iff]; simp <;> omega), rfl⟩)

set_option maxRecDepth 10000 in
theorem ref_among (c : Nat) (s : ByteArray) (w : World) (_hc : c < 256) (hs : s.size ≤ 65536) : Calls Tryz.prog 39 #[.int .u8 c, .string s] w fun e w' => e = .returned (.bool (s.data.toList.any (fun x => x.toNat == c))) ∧ w' = w := by
  go_enter Tryz.func39, Tryz.ntmps39
  go_wp2
  go_loopw [5] (fun i wr => ∃ j : Nat, j ≤ s.size ∧ i = .int .i64 j ∧ wr = w ∧ Hid (∀ k (h : k < s.size), k < j → s[k].toNat ≠ c)) (fun i _ => s.size - (intOf i).toNat)
  case atStart => exact ⟨0, by omega, by go_num, rfl, fun k _ h => by omega⟩
  case round =>
    obtain ⟨j, hj, rfl, rfl, HT⟩ := hrel
    by_cases hlt : j < s.size
    · by_cases he : s[j].toNat = c
      · have HE : Hid (s.data.toList.any (fun x => x.toNat == c) = true) := by
          show s.data.toList.any _ = true
          rw [List.any_eq_true]
          exact ⟨s[j], by show s.data[j] ∈ s.data.toList; simp, by simpa using he⟩
        have he' : ((s[j].toNat : Int) == (c : Int)) = true := by simp; omega
        clear HT
        go_wp2
        go_ret
        exact ⟨ret_bool HE.out.symm, rfl⟩
      · have HN : Hid (∀ k (h : k < s.size), k < j + 1 → s[k].toNat ≠ c) := fun k h hk => by
          by_cases e : k = j
          · subst e; exact he
          · exact HT.out k h (by omega)
        have he' : ((s[j].toNat : Int) == (c : Int)) = false := by simp; omega
        clear HT he
        go_wp2
        go_roundw
        case rel => exact ⟨j + 1, by omega, by go_num, by first | rfl | trivial, HN⟩
        case measure => simp [intOf]; omega
    · have HE : Hid (s.data.toList.any (fun x => x.toNat == c) = false) := by
        show s.data.toList.any _ = false
        rw [List.any_eq_false]
        intro x hx
        obtain ⟨k, hk, rfl⟩ := List.getElem_of_mem hx
        have := HT.out k (by simpa using hk) (by simp at hk; omega)
        rw [beq_iff_eq]
        exact this
      go_wp2
      go_ret
      exact ⟨ret_bool HE.out.symm, rfl⟩
theorem among_op : ∀ c : Fin 256, ([33, 35, 36, 37, 38, 42, 43, 46, 47, 60, 61, 62, 63, 64, 94, 124, 126, 58, 45] : List UInt8).any (fun x => x.toNat == c.1) = decide (cls c.1 = 8) := by decide +kernel
theorem among_sp : ∀ c : Fin 256, ([40, 41, 91, 93, 123, 125, 44, 59, 96, 92] : List UInt8).any (fun x => x.toNat == c.1) = decide (cls c.1 = 9) := by decide +kernel
theorem ref_operator (c : Nat) (w : World) (hc : c < 256) : Calls Tryz.prog 19 #[.int .u8 c] w fun e w' => e = .returned (.bool (decide (cls c = 8))) ∧ w' = w := by
  have AM : ∀ W, Calls Tryz.prog 39 #[.int .u8 c, .string ⟨#[33, 35, 36, 37, 38, 42, 43, 46, 47, 60, 61, 62, 63, 64, 94, 124, 126, 58, 45]⟩] W fun e w' => e = .returned (.bool (decide (cls c = 8))) ∧ w' = W := fun W => by
    have := ref_among c ⟨#[33, 35, 36, 37, 38, 42, 43, 46, 47, 60, 61, 62, 63, 64, 94, 124, 126, 58, 45]⟩ W hc (by decide)
    rw [show (⟨#[33, 35, 36, 37, 38, 42, 43, 46, 47, 60, 61, 62, 63, 64, 94, 124, 126, 58, 45]⟩ : ByteArray).data.toList.any (fun x => x.toNat == c) = decide (cls c = 8) from among_op ⟨c, hc⟩] at this
    exact this
  generalize decide (cls c = 8) = r at *
  go_enter Tryz.func19, Tryz.ntmps19
  go_wp2_with (go_at_call 39; (with_reducible refine Calls.mono (AM _) ?_); rintro e w' ⟨rfl, rfl⟩)
  go_ret
  exact ⟨rfl, rfl⟩
theorem ref_special (c : Nat) (w : World) (hc : c < 256) : Calls Tryz.prog 49 #[.int .u8 c] w fun e w' => e = .returned (.bool (decide (cls c = 9))) ∧ w' = w := by
  have AM : ∀ W, Calls Tryz.prog 39 #[.int .u8 c, .string ⟨#[40, 41, 91, 93, 123, 125, 44, 59, 96, 92]⟩] W fun e w' => e = .returned (.bool (decide (cls c = 9))) ∧ w' = W := fun W => by
    have := ref_among c ⟨#[40, 41, 91, 93, 123, 125, 44, 59, 96, 92]⟩ W hc (by decide)
    rw [show (⟨#[40, 41, 91, 93, 123, 125, 44, 59, 96, 92]⟩ : ByteArray).data.toList.any (fun x => x.toNat == c) = decide (cls c = 9) from among_sp ⟨c, hc⟩] at this
    exact this
  generalize decide (cls c = 9) = r at *
  go_enter Tryz.func49, Tryz.ntmps49
  go_wp2_with (go_at_call 39; (with_reducible refine Calls.mono (AM _) ?_); rintro e w' ⟨rfl, rfl⟩)
  go_ret
  exact ⟨rfl, rfl⟩
end Go.Proofs.YtkfhdmkdkphmoaaGreatDoor

namespace Go.Proofs.YtkfhdmkdkphmoaaGreatDoor
open Go.RowKit

set_option maxHeartbeats 1000000 in
set_option maxRecDepth 10000 in
theorem ref_signs (s : ByteArray) (k : Nat) (w : World) (hs : s.size ≤ maxLen) (hk : k ≤ s.size) : Calls Tryz.prog 41 #[.string s, .int .i64 k] w fun e w' => e = .returned (.int .i64 (endOf nsB s k)) ∧ w' = w := by
  unfold maxLen at hs
  have SG : ∀ (c : UInt8) W, Calls Tryz.prog 45 #[.int .u8 c.toNat] W fun e w' => e = .returned (.bool (nsB (cls c.toNat))) ∧ w' = W := fun c W => ref_sign c.toNat W c.toNat_lt
  generalize hR : endOf nsB s k = R
  have HR : Hid (endOf nsB s k = R) := hR
  clear hR
  go_enter Tryz.func41, Tryz.ntmps41
  go_wp2_with fail
  go_loopw [1] (fun i wr => ∃ j : Nat, j ≤ s.size ∧ i = .int .i64 j ∧ wr = w ∧ Hid (endOf nsB s j = R)) (fun i _ => s.size - (intOf i).toNat)
  case atStart => exact ⟨k, hk, rfl, rfl, HR⟩
  case round =>
    obtain ⟨j, hj, rfl, rfl, HT⟩ := hrel
    by_cases hlt : j < s.size
    · have S1 := fun W => SG s[j] W
      cases hp : nsB (cls s[j].toNat) with
      | true =>
        have HN : Hid (endOf nsB s (j + 1) = R) := by
          show endOf nsB s (j + 1) = R
          rw [← HT.out, endOf_step hlt (by rw [clsAt_in hlt]; exact hp)]
        rw [hp] at S1
        clear hp HT SG
        go_wp2_with (go_at_call 45; (with_reducible refine Calls.mono (S1 _) ?_); rintro e w' ⟨rfl, rfl⟩)
        go_roundw
        case rel => exact ⟨j + 1, by omega, by go_num, by first | rfl | trivial, HN⟩
        case measure => simp [intOf]; omega
      | false =>
        have HN : Hid (R = j) := by
          show R = j
          rw [← HT.out, endOf_stop (by rw [clsAt_in hlt]; exact hp)]
        rw [hp] at S1
        clear hp HT SG
        go_wp2_with (go_at_call 45; (with_reducible refine Calls.mono (S1 _) ?_); rintro e w' ⟨rfl, rfl⟩)
        go_ret
        exact ⟨by rw [HN.out]; rfl, rfl⟩
    · have HN : Hid (R = j) := by
        show R = j
        rw [← HT.out, endOf_stop (by rw [clsAt_out hlt]; rfl)]
      clear HT SG
      go_wp2_with fail
      go_ret
      exact ⟨by rw [HN.out]; rfl, rfl⟩

set_option maxHeartbeats 1000000 in
set_option maxRecDepth 10000 in
theorem ref_run (s : ByteArray) (k : Nat) (w : World) (hs : s.size ≤ maxLen) (hk : k ≤ s.size) : Calls Tryz.prog 47 #[.string s, .int .i64 k] w fun e w' => e = .returned (.int .i64 (endOf (· == 8) s k)) ∧ w' = w := by
  unfold maxLen at hs
  have SG : ∀ (c : UInt8) W, Calls Tryz.prog 19 #[.int .u8 c.toNat] W fun e w' => e = .returned (.bool (decide (cls c.toNat = 8))) ∧ w' = W := fun c W => ref_operator c.toNat W c.toNat_lt
  generalize hR : endOf (· == 8) s k = R
  have HR : Hid (endOf (· == 8) s k = R) := hR
  clear hR
  go_enter Tryz.func47, Tryz.ntmps47
  go_wp2_with fail
  go_loopw [1] (fun i wr => ∃ j : Nat, j ≤ s.size ∧ i = .int .i64 j ∧ wr = w ∧ Hid (endOf (· == 8) s j = R)) (fun i _ => s.size - (intOf i).toNat)
  case atStart => exact ⟨k, hk, rfl, rfl, HR⟩
  case round =>
    obtain ⟨j, hj, rfl, rfl, HT⟩ := hrel
    by_cases hlt : j < s.size
    · have S1 := fun W => SG s[j] W
      cases hp : decide (cls s[j].toNat = 8) with
      | true =>
        have HN : Hid (endOf (· == 8) s (j + 1) = R) := by
          show endOf (· == 8) s (j + 1) = R
          rw [← HT.out, endOf_step hlt (by rw [clsAt_in hlt]; simpa using hp)]
        rw [hp] at S1
        clear hp HT SG
        go_wp2_with (go_at_call 19; (with_reducible refine Calls.mono (S1 _) ?_); rintro e w' ⟨rfl, rfl⟩)
        go_roundw
        case rel => exact ⟨j + 1, by omega, by go_num, by first | rfl | trivial, HN⟩
        case measure => simp [intOf]; omega
      | false =>
        have HN : Hid (R = j) := by
          show R = j
          rw [← HT.out, endOf_stop (by rw [clsAt_in hlt]; simpa using hp)]
        rw [hp] at S1
        clear hp HT SG
        go_wp2_with (go_at_call 19; (with_reducible refine Calls.mono (S1 _) ?_); rintro e w' ⟨rfl, rfl⟩)
        go_ret
        exact ⟨by rw [HN.out]; rfl, rfl⟩
    · have HN : Hid (R = j) := by
        show R = j
        rw [← HT.out, endOf_stop (by rw [clsAt_out hlt]; rfl)]
      clear HT SG
      go_wp2_with fail
      go_ret
      exact ⟨by rw [HN.out]; rfl, rfl⟩

theorem dash_all (l : List UInt8) : dashB l = (decide (2 ≤ l.length) && l.all (· == 45)) := by
  unfold dashB
  congr 1
  rw [Bool.eq_iff_iff, decide_eq_true_iff, List.count_eq_length, List.all_eq_true]
  simp
  constructor
  · intro h x hx; exact (h x hx).symm
  · intro h x hx; exact (h x hx).symm
set_option maxHeartbeats 1000000 in
set_option maxRecDepth 10000 in
theorem ref_dashes (s : ByteArray) (w : World) (hs : s.size ≤ maxLen) : Calls Tryz.prog 69 #[.string s] w fun e w' => e = .returned (.bool (dashB s.data.toList)) ∧ w' = w := by
  unfold maxLen at hs
  generalize hR : dashB s.data.toList = R
  have HR : Hid (dashB s.data.toList = R) := hR
  clear hR
  go_enter Tryz.func69, Tryz.ntmps69
  go_wp2
  go_loopw [3] (fun i wr => ∃ j : Nat, j ≤ s.size ∧ i = .int .i64 j ∧ wr = w ∧ Hid (∀ k (h : k < s.size), k < j → s[k].toNat = 45)) (fun i _ => s.size - (intOf i).toNat)
  case atStart => exact ⟨0, by omega, by go_num, rfl, fun k _ h => by omega⟩
  case round =>
    obtain ⟨j, hj, rfl, rfl, HT⟩ := hrel
    by_cases hlt : j < s.size
    · by_cases he : s[j].toNat = 45
      · have HN : Hid (∀ k (h : k < s.size), k < j + 1 → s[k].toNat = 45) := fun k h hk => by
          by_cases e : k = j
          · subst e; exact he
          · exact HT.out k h (by omega)
        have he' : (s[j].toNat : Int) = 45 := by omega
        clear HT he
        go_wp2
        go_roundw
        case rel => exact ⟨j + 1, by omega, by go_num, by first | rfl | trivial, HN⟩
        case measure => simp [intOf]; omega
      · have HE : Hid (R = false) := by
          show R = false
          rw [← HR.out, dash_all]
          have : s.data.toList.all (· == 45) = false := by
            rw [List.all_eq_false]
            refine ⟨s.data[j], by simp, ?_⟩
            intro h
            apply he
            have h' : s.data[j] = 45 := by simpa using h
            show s.data[j].toNat = 45
            rw [h']
            rfl
          rw [this]
          simp
        have he' : ((s[j].toNat : Int) != 45) = true := by simp; omega
        clear HT he
        go_wp2
        go_ret
        exact ⟨ret_bool HE.out.symm, rfl⟩
    · have HE : Hid (R = decide (1 < s.size)) := by
        show R = _
        rw [← HR.out, dash_all]
        have : s.data.toList.all (· == 45) = true := by
          rw [List.all_eq_true]
          intro x hx
          obtain ⟨k, hk, rfl⟩ := List.getElem_of_mem hx
          have := HT.out k (by simpa using hk) (by simp at hk; omega)
          rw [beq_iff_eq]
          exact UInt8.toNat_inj.1 this
        rw [this]
        simp
        omega
      clear HT
      go_wp2
      go_ret
      exact ⟨ret_bool (by rw [HE.out, Bool.eq_iff_iff]; simp; omega), rfl⟩
end Go.Proofs.YtkfhdmkdkphmoaaGreatDoor

namespace Go.Proofs.YtkfhdmkdkphmoaaGreatDoor
open Go.RowKit

/-- The reference's kind of a run that is not empty. -/
def kindI (l : List UInt8) : Int := if dashB l then 0 else if (l == [61] || l == [124] || l == [45, 62] || l == [58, 58]) then 11 else if (l.head? == some 58 && decide (1 < l.length)) then -1 else 5
set_option maxHeartbeats 1000000 in
set_option maxRecDepth 10000 in
theorem ref_kindOf (s : ByteArray) (w : World) (hs : s.size ≤ maxLen) (h0 : 0 < s.size) : Calls Tryz.prog 48 #[.string s] w fun e w' => e = .returned (.int .i64 (kindI s.data.toList)) ∧ w' = w := by
  have DS := fun W => ref_dashes s W hs
  unfold maxLen at hs
  have hl : s.toList = s.data.toList := by rw [ByteArray.toList_eq]
  have hn : s.data.toList.length = s.size := by simp
  have hh : s.data.toList.head? = some s[0] := by
    cases hc : s.data.toList with
    | nil => rw [hc, List.length_nil] at hn; omega
    | cons c r =>
      have e : s.data.toList[0]'(by rw [hc]; simp) = c := by simp [hc]
      rw [List.head?_cons, ← e]
      simp
      rfl
  have HK : Hid (kindI s.data.toList = if dashB s.data.toList then 0 else if (s.toList == [61] || s.toList == [124] || s.toList == [45, 62] || s.toList == [58, 58]) then 11 else if (decide (s[0].toNat = 58) && decide (1 < s.size)) then -1 else 5) := by
    show kindI s.data.toList = _
    unfold kindI
    rw [hl, hh, hn]
    have e : ((some s[0] : Option UInt8) == some 58) = decide (s[0].toNat = 58) := by
      rw [Bool.eq_iff_iff]
      simp
      constructor
      · intro h; rw [h]; rfl
      · intro h; exact UInt8.toNat_inj.1 h
    rw [e]
  clear hl hh hn
  generalize kindI s.data.toList = R at *
  cases hd : dashB s.data.toList
  all_goals rw [hd] at DS HK
  · cases hq : (s.toList == [61] || s.toList == [124] || s.toList == [45, 62] || s.toList == [58, 58])
    · cases hc : (decide (s[0].toNat = 58) && decide (1 < s.size))
      · have HE : Hid (R = 5) := by show R = 5; rw [HK.out, hq, hc]; rfl
        have q1 : (s.toList == [61]) = false := by simp at hq; simp [hq]
        have q2 : (s.toList == [124]) = false := by simp at hq; simp [hq]
        have q3 : (s.toList == [45, 62]) = false := by simp at hq; simp [hq]
        have q4 : (s.toList == [58, 58]) = false := by simp at hq; simp [hq]
        have hc' : s[0].toNat = 58 → s.size ≤ 1 := by simp at hc; exact hc
        clear HK hq hc
        by_cases hz : s[0].toNat = 58
        · have z1 : (s[0].toNat : Int) = 58 := by omega
          have z2 : s.size ≤ 1 := hc' hz
          clear hc' hz
          go_enter Tryz.func48, Tryz.ntmps48
          go_wp2_with (go_at_call 69; (with_reducible refine Calls.mono (DS _) ?_); rintro e w' ⟨rfl, rfl⟩)
          go_ret
          exact ⟨by rw [HE.out]; rfl, rfl⟩
        · have z1 : ((s[0].toNat : Int) == 58) = false := by simp; omega
          clear hc' hz
          go_enter Tryz.func48, Tryz.ntmps48
          go_wp2_with (go_at_call 69; (with_reducible refine Calls.mono (DS _) ?_); rintro e w' ⟨rfl, rfl⟩)
          go_ret
          exact ⟨by rw [HE.out]; rfl, rfl⟩
      · have HE : Hid (R = -1) := by show R = -1; rw [HK.out, hq, hc]; rfl
        have q1 : (s.toList == [61]) = false := by simp at hq; simp [hq]
        have q2 : (s.toList == [124]) = false := by simp at hq; simp [hq]
        have q3 : (s.toList == [45, 62]) = false := by simp at hq; simp [hq]
        have q4 : (s.toList == [58, 58]) = false := by simp at hq; simp [hq]
        have hc' : s[0].toNat = 58 ∧ 1 < s.size := by simp at hc; exact hc
        have z1 : (s[0].toNat : Int) = 58 := by omega
        have z2 : 1 < s.size := hc'.2
        clear HK hq hc hc'
        go_enter Tryz.func48, Tryz.ntmps48
        go_wp2_with (go_at_call 69; (with_reducible refine Calls.mono (DS _) ?_); rintro e w' ⟨rfl, rfl⟩)
        go_ret
        exact ⟨by rw [HE.out]; rfl, rfl⟩
    · have HE : Hid (R = 11) := by show R = 11; rw [HK.out, hq]; rfl
      clear HK
      go_enter Tryz.func48, Tryz.ntmps48
      go_wp2_with (go_at_call 69; (with_reducible refine Calls.mono (DS _) ?_); rintro e w' ⟨rfl, rfl⟩)
      all_goals first
        | (go_ret; exact ⟨by rw [HE.out]; rfl, rfl⟩)
        | (exfalso; simp_all; done)
  · have HE : Hid (R = 0) := by show R = 0; rw [HK.out]; rfl
    clear hd HK
    go_enter Tryz.func48, Tryz.ntmps48
    go_wp2_with (go_at_call 69; (with_reducible refine Calls.mono (DS _) ?_); rintro e w' ⟨rfl, rfl⟩)
    go_ret
    exact ⟨by rw [HE.out]; rfl, rfl⟩
end Go.Proofs.YtkfhdmkdkphmoaaGreatDoor

namespace Go.Proofs.YtkfhdmkdkphmoaaGreatDoor
open Go.RowKit

def resL : List (List UInt8) := [[109, 111, 100, 117, 108, 101], [105, 109, 112, 111, 114, 116], [100, 97, 116, 97], [105, 110, 102, 105, 120, 108], [105, 110, 102, 105, 120, 114], [105, 110, 102, 105, 120], [108, 101, 116], [105, 110], [99, 97, 115, 101], [111, 102], [105, 102], [116, 104, 101, 110], [101, 108, 115, 101]]
theorem isRes_any (l : List UInt8) : isRes l = resL.any (fun x => l == x) := by
  simp [isRes, resL, Bool.or_assoc]
def resA : Array Value := (resL.map (fun x => Value.string ⟨x.toArray⟩)).toArray

set_option maxHeartbeats 2000000 in
set_option maxRecDepth 10000 in
theorem ref_reserved (s : ByteArray) (w : World) : Calls Tryz.prog 42 #[.string s] w fun e w' => e = .returned (.bool (isRes s.toList)) ∧ w' = w.alloc (.cells resA 9) := by
  have hblk : (w.alloc (.cells resA 9)).heap[w.heap.size]? = some (.cells resA 9 (0, 0)) := by
    show (w.heap.push _)[w.heap.size]? = _
    simp
  have hcell : ∀ j (h : j < resL.length), (w.alloc (.cells resA 9)).cell? ⟨w.heap.size, j, none⟩ = some (.string ⟨resL[j].toArray⟩) := fun j h => (cell_block hblk).trans (by simp [resA, h])
  generalize hR : isRes s.toList = R
  have HR : Hid (resL.any (fun x => s.toList == x) = R) := by
    show resL.any _ = R
    rw [← isRes_any, hR]
  clear hR hblk
  obtain ⟨W0, hW0⟩ : ∃ W0, W0 = w.alloc (.cells resA 9) := ⟨_, rfl⟩
  rw [← hW0] at hcell ⊢
  have HW : Hid (W0 = w.alloc (.cells resA 9)) := hW0
  clear hW0
  go_enter Tryz.func42, Tryz.ntmps42
  go_wp2
  show Code.wp Tryz.prog _ _ _ (w.alloc (.cells resA 9))
  rw [← HW.out]
  clear HW
  go_loopw [4] (fun i wr => ∃ j : Nat, j ≤ 13 ∧ i = .int .i64 j ∧ wr = W0 ∧ Hid (∀ k (h : k < resL.length), k < j → (s.toList == resL[k]) = false)) (fun i _ => 13 - (intOf i).toNat)
  case atStart => exact ⟨0, by omega, by go_num, rfl, fun k _ h => by omega⟩
  case round =>
    obtain ⟨j, hj, rfl, rfl, HT⟩ := hrel
    by_cases hlt : j < 13
    · have hlt' : j < resL.length := hlt
      have hc := hcell j hlt'
      have EQ : ((⟨resL[j].toArray⟩ : ByteArray).toList == s.toList) = (s.toList == resL[j]) := by
        rw [ByteArray.toList_eq, Bool.eq_iff_iff]
        simp
        exact eq_comm
      generalize (⟨resL[j].toArray⟩ : ByteArray) = X at *
      cases he : s.toList == resL[j] with
      | true =>
        have HE : Hid (R = true) := by
          show R = true
          rw [← HR.out, List.any_eq_true]
          exact ⟨resL[j], List.getElem_mem _, he⟩
        rw [he] at EQ
        clear HT hcell he
        go_wp2
        go_ret
        exact ⟨ret_bool HE.out.symm, rfl⟩
      | false =>
        have HN : Hid (∀ k (h : k < resL.length), k < j + 1 → (s.toList == resL[k]) = false) := fun k h hk => by
          by_cases e : k = j
          · subst e; exact he
          · exact HT.out k h (by omega)
        rw [he] at EQ
        clear HT hcell he
        go_wp2
        go_roundw
        case rel => exact ⟨j + 1, by omega, by go_num, by first | rfl | trivial, HN⟩
        case measure => simp [intOf]; omega
    · have HE : Hid (R = false) := by
        show R = false
        rw [← HR.out, List.any_eq_false]
        intro x hx
        obtain ⟨k, hk, rfl⟩ := List.getElem_of_mem hx
        have hk' : k < 13 := hk
        rw [HT.out k hk (by omega)]
        simp
      clear HT hcell
      go_wp2
      go_ret
      exact ⟨ret_bool HE.out.symm, rfl⟩

/-- Is all of a text one name that begins so? -/
def namedB (l : List UInt8) (big : Bool) : Bool := decide (nameLen l = l.length) && (if big then decide (clsHd l = 2) else decide (clsHd l = 1) && !isRes l)
end Go.Proofs.YtkfhdmkdkphmoaaGreatDoor
