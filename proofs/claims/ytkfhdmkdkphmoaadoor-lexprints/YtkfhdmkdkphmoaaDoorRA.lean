/- The reference's classes of bytes: contracts of small, capital, digit, sign, among, operator, special. The reference's ends of names and runs, and its dashes: contracts of signs, run, dashes, point. The reference's point, kindOf, reserved, named: contracts. The reference's reserved and named: contracts. The reference's named: its contract. The reference's formed: has a text its kind's form? Its contract. The reference's Is: its contract. -/
import Derived.Test.YtkfhdmkdkphmoaaDoorW5
import Derived.Test.YtkfhdmkdkphmoaaDoorTokW
import Derived.Test.YtkfhdmkdkphmoaaDoorStep
namespace Go.Proofs.YtkfhdmkdkphmoaaDoor
open Go.RowKit

theorem cls_small : ∀ c : Fin 256, (decide (97 ≤ c.1) && decide (c.1 ≤ 122)) = decide (cls c.1 = 1) := by decide +kernel
theorem cls_capital : ∀ c : Fin 256, (decide (65 ≤ c.1) && decide (c.1 ≤ 90)) = decide (cls c.1 = 2) := by decide +kernel
theorem cls_digit : ∀ c : Fin 256, (decide (48 ≤ c.1) && decide (c.1 ≤ 57)) = decide (cls c.1 = 3) := by decide +kernel
theorem cls_sign : ∀ c : Fin 256, (decide (cls c.1 = 1) || decide (cls c.1 = 2) || decide (cls c.1 = 3) || decide (c.1 = 95) || decide (c.1 = 39)) = nsB (cls c.1) := by decide +kernel

theorem ref_small (c : Nat) (w : World) (hc : c < 256) : Calls Tryd.prog 63 #[.int .u8 c] w fun e w' => e = .returned (.bool (decide (cls c = 1))) ∧ w' = w := by
  have HE : Hid ((decide (97 ≤ c) && decide (c ≤ 122)) = decide (cls c = 1)) := cls_small ⟨c, hc⟩
  generalize decide (cls c = 1) = r at HE
  go_enter Tryd.func63, Tryd.ntmps63
  go_wp2
  all_goals (go_ret; exact ⟨ret_bool (by rw [← HE.out, Bool.eq_iff_iff]; simp; omega), rfl⟩)
theorem ref_capital (c : Nat) (w : World) (hc : c < 256) : Calls Tryd.prog 64 #[.int .u8 c] w fun e w' => e = .returned (.bool (decide (cls c = 2))) ∧ w' = w := by
  have HE : Hid ((decide (65 ≤ c) && decide (c ≤ 90)) = decide (cls c = 2)) := cls_capital ⟨c, hc⟩
  generalize decide (cls c = 2) = r at HE
  go_enter Tryd.func64, Tryd.ntmps64
  go_wp2
  all_goals (go_ret; exact ⟨ret_bool (by rw [← HE.out, Bool.eq_iff_iff]; simp; omega), rfl⟩)
theorem ref_digit (c : Nat) (w : World) (hc : c < 256) : Calls Tryd.prog 86 #[.int .u8 c] w fun e w' => e = .returned (.bool (decide (cls c = 3))) ∧ w' = w := by
  have HE : Hid ((decide (48 ≤ c) && decide (c ≤ 57)) = decide (cls c = 3)) := cls_digit ⟨c, hc⟩
  generalize decide (cls c = 3) = r at HE
  go_enter Tryd.func86, Tryd.ntmps86
  go_wp2
  all_goals (go_ret; exact ⟨ret_bool (by rw [← HE.out, Bool.eq_iff_iff]; simp; omega), rfl⟩)
theorem ref_sign (c : Nat) (w : World) (hc : c < 256) : Calls Tryd.prog 79 #[.int .u8 c] w fun e w' => e = .returned (.bool (nsB (cls c))) ∧ w' = w := by
  have HE : Hid ((decide (cls c = 1) || decide (cls c = 2) || decide (cls c = 3) || decide (c = 95) || decide (c = 39)) = nsB (cls c)) := cls_sign ⟨c, hc⟩
  have S1 := fun W => ref_small c W hc
  have S2 := fun W => ref_capital c W hc
  have S3 := fun W => ref_digit c W hc
  generalize nsB (cls c) = r at HE
  generalize decide (cls c = 1) = b1 at *
  generalize decide (cls c = 2) = b2 at *
  generalize decide (cls c = 3) = b3 at *
  cases b1 <;> cases b2 <;> cases b3
  all_goals
    go_enter Tryd.func79, Tryd.ntmps79
    go_wp2_with (first
      | (go_at_call 63; (with_reducible refine Calls.mono (S1 _) ?_); rintro e w' ⟨rfl, rfl⟩)
      | (go_at_call 64; (with_reducible refine Calls.mono (S2 _) ?_); rintro e w' ⟨rfl, rfl⟩)
      | (go_at_call 86; (with_reducible refine Calls.mono (S3 _) ?_); rintro e w' ⟨rfl, rfl⟩))
    all_goals (go_ret; exact ⟨ret_bool (by rw [← HE.out, Bool.eq_iff_iff]; simp <;> omega), rfl⟩)

set_option maxRecDepth 10000 in
theorem ref_among (c : Nat) (s : ByteArray) (w : World) (_hc : c < 256) (hs : s.size ≤ 65536) : Calls Tryd.prog 68 #[.int .u8 c, .string s] w fun e w' => e = .returned (.bool (s.data.toList.any (fun x => x.toNat == c))) ∧ w' = w := by
  go_enter Tryd.func68, Tryd.ntmps68
  go_wp2
  go_loopw [5] (fun i wr => ∃ j : Nat, j ≤ s.size ∧ i = .int .i64 j ∧ wr = w ∧ Hid (∀ k (h : k < s.size), k < j → s[k].toNat ≠ c)) (fun i _ => s.size - (intOf i).toNat)
  case atStart => exact ⟨0, by omega, by go_num, rfl, fun k _ h => by omega⟩
  case round =>
    obtain ⟨j, hj, rfl, rfl, HT⟩ := hrel
    by_cases hlt : j < s.size
    · by_cases he : s[j].toNat = c
      · have HE : Hid (s.data.toList.any (fun x => x.toNat == c) = true) := by
          show s.data.toList.any _ = true
          rw [List.any_eq_true]
          exact ⟨s[j], by show s.data[j] ∈ s.data.toList; simp, by simpa using he⟩
        have he' : ((s[j].toNat : Int) == (c : Int)) = true := by simp; omega
        clear HT
        go_wp2
        go_ret
        exact ⟨ret_bool HE.out.symm, rfl⟩
      · have HN : Hid (∀ k (h : k < s.size), k < j + 1 → s[k].toNat ≠ c) := fun k h hk => by
          by_cases e : k = j
          · subst e; exact he
          · exact HT.out k h (by omega)
        have he' : ((s[j].toNat : Int) == (c : Int)) = false := by simp; omega
        clear HT he
        go_wp2
        go_roundw
        case rel => exact ⟨j + 1, by omega, by go_num, by first | rfl | trivial, HN⟩
        case measure => simp [intOf]; omega
    · have HE : Hid (s.data.toList.any (fun x => x.toNat == c) = false) := by
        show s.data.toList.any _ = false
        rw [List.any_eq_false]
        intro x hx
        obtain ⟨k, hk, rfl⟩ := List.getElem_of_mem hx
        have := HT.out k (by simpa using hk) (by simp at hk; omega)
        rw [beq_iff_eq]
        exact this
      go_wp2
      go_ret
      exact ⟨ret_bool HE.out.symm, rfl⟩
theorem among_op : ∀ c : Fin 256, ([33, 35, 36, 37, 38, 42, 43, 46, 47, 60, 61, 62, 63, 64, 94, 124, 126, 58, 45] : List UInt8).any (fun x => x.toNat == c.1) = decide (cls c.1 = 8) := by decide +kernel
theorem among_sp : ∀ c : Fin 256, ([40, 41, 91, 93, 123, 125, 44, 59, 96, 92] : List UInt8).any (fun x => x.toNat == c.1) = decide (cls c.1 = 9) := by decide +kernel
theorem ref_operator (c : Nat) (w : World) (hc : c < 256) : Calls Tryd.prog 66 #[.int .u8 c] w fun e w' => e = .returned (.bool (decide (cls c = 8))) ∧ w' = w := by
  have AM : ∀ W, Calls Tryd.prog 68 #[.int .u8 c, .string ⟨#[33, 35, 36, 37, 38, 42, 43, 46, 47, 60, 61, 62, 63, 64, 94, 124, 126, 58, 45]⟩] W fun e w' => e = .returned (.bool (decide (cls c = 8))) ∧ w' = W := fun W => by
    have := ref_among c ⟨#[33, 35, 36, 37, 38, 42, 43, 46, 47, 60, 61, 62, 63, 64, 94, 124, 126, 58, 45]⟩ W hc (by decide)
    rw [show (⟨#[33, 35, 36, 37, 38, 42, 43, 46, 47, 60, 61, 62, 63, 64, 94, 124, 126, 58, 45]⟩ : ByteArray).data.toList.any (fun x => x.toNat == c) = decide (cls c = 8) from among_op ⟨c, hc⟩] at this
    exact this
  generalize decide (cls c = 8) = r at *
  go_enter Tryd.func66, Tryd.ntmps66
  go_wp2_with (go_at_call 68; (with_reducible refine Calls.mono (AM _) ?_); rintro e w' ⟨rfl, rfl⟩)
  go_ret
  exact ⟨rfl, rfl⟩
theorem ref_special (c : Nat) (w : World) (hc : c < 256) : Calls Tryd.prog 44 #[.int .u8 c] w fun e w' => e = .returned (.bool (decide (cls c = 9))) ∧ w' = w := by
  have AM : ∀ W, Calls Tryd.prog 68 #[.int .u8 c, .string ⟨#[40, 41, 91, 93, 123, 125, 44, 59, 96, 92]⟩] W fun e w' => e = .returned (.bool (decide (cls c = 9))) ∧ w' = W := fun W => by
    have := ref_among c ⟨#[40, 41, 91, 93, 123, 125, 44, 59, 96, 92]⟩ W hc (by decide)
    rw [show (⟨#[40, 41, 91, 93, 123, 125, 44, 59, 96, 92]⟩ : ByteArray).data.toList.any (fun x => x.toNat == c) = decide (cls c = 9) from among_sp ⟨c, hc⟩] at this
    exact this
  generalize decide (cls c = 9) = r at *
  go_enter Tryd.func44, Tryd.ntmps44
  go_wp2_with (go_at_call 68; (with_reducible refine Calls.mono (AM _) ?_); rintro e w' ⟨rfl, rfl⟩)
  go_ret
  exact ⟨rfl, rfl⟩
end Go.Proofs.YtkfhdmkdkphmoaaDoor

namespace Go.Proofs.YtkfhdmkdkphmoaaDoor
open Go.RowKit

set_option maxHeartbeats 1000000 in
set_option maxRecDepth 10000 in
theorem ref_signs (s : ByteArray) (k : Nat) (w : World) (hs : s.size ≤ maxLen) (hk : k ≤ s.size) : Calls Tryd.prog 65 #[.string s, .int .i64 k] w fun e w' => e = .returned (.int .i64 (endOf nsB s k)) ∧ w' = w := by
  unfold maxLen at hs
  have SG : ∀ (c : UInt8) W, Calls Tryd.prog 79 #[.int .u8 c.toNat] W fun e w' => e = .returned (.bool (nsB (cls c.toNat))) ∧ w' = W := fun c W => ref_sign c.toNat W c.toNat_lt
  generalize hR : endOf nsB s k = R
  have HR : Hid (endOf nsB s k = R) := hR
  clear hR
  go_enter Tryd.func65, Tryd.ntmps65
  go_wp2_with fail
  go_loopw [1] (fun i wr => ∃ j : Nat, j ≤ s.size ∧ i = .int .i64 j ∧ wr = w ∧ Hid (endOf nsB s j = R)) (fun i _ => s.size - (intOf i).toNat)
  case atStart => exact ⟨k, hk, rfl, rfl, HR⟩
  case round =>
    obtain ⟨j, hj, rfl, rfl, HT⟩ := hrel
    by_cases hlt : j < s.size
    · have S1 := fun W => SG s[j] W
      cases hp : nsB (cls s[j].toNat) with
      | true =>
        have HN : Hid (endOf nsB s (j + 1) = R) := by
          show endOf nsB s (j + 1) = R
          rw [← HT.out, endOf_step hlt (by rw [clsAt_in hlt]; exact hp)]
        rw [hp] at S1
        clear hp HT SG
        go_wp2_with (go_at_call 79; (with_reducible refine Calls.mono (S1 _) ?_); rintro e w' ⟨rfl, rfl⟩)
        go_roundw
        case rel => exact ⟨j + 1, by omega, by go_num, by first | rfl | trivial, HN⟩
        case measure => simp [intOf]; omega
      | false =>
        have HN : Hid (R = j) := by
          show R = j
          rw [← HT.out, endOf_stop (by rw [clsAt_in hlt]; exact hp)]
        rw [hp] at S1
        clear hp HT SG
        go_wp2_with (go_at_call 79; (with_reducible refine Calls.mono (S1 _) ?_); rintro e w' ⟨rfl, rfl⟩)
        go_ret
        exact ⟨by rw [HN.out]; rfl, rfl⟩
    · have HN : Hid (R = j) := by
        show R = j
        rw [← HT.out, endOf_stop (by rw [clsAt_out hlt]; rfl)]
      clear HT SG
      go_wp2_with fail
      go_ret
      exact ⟨by rw [HN.out]; rfl, rfl⟩

set_option maxHeartbeats 1000000 in
set_option maxRecDepth 10000 in
theorem ref_run (s : ByteArray) (k : Nat) (w : World) (hs : s.size ≤ maxLen) (hk : k ≤ s.size) : Calls Tryd.prog 42 #[.string s, .int .i64 k] w fun e w' => e = .returned (.int .i64 (endOf (· == 8) s k)) ∧ w' = w := by
  unfold maxLen at hs
  have SG : ∀ (c : UInt8) W, Calls Tryd.prog 66 #[.int .u8 c.toNat] W fun e w' => e = .returned (.bool (decide (cls c.toNat = 8))) ∧ w' = W := fun c W => ref_operator c.toNat W c.toNat_lt
  generalize hR : endOf (· == 8) s k = R
  have HR : Hid (endOf (· == 8) s k = R) := hR
  clear hR
  go_enter Tryd.func42, Tryd.ntmps42
  go_wp2_with fail
  go_loopw [1] (fun i wr => ∃ j : Nat, j ≤ s.size ∧ i = .int .i64 j ∧ wr = w ∧ Hid (endOf (· == 8) s j = R)) (fun i _ => s.size - (intOf i).toNat)
  case atStart => exact ⟨k, hk, rfl, rfl, HR⟩
  case round =>
    obtain ⟨j, hj, rfl, rfl, HT⟩ := hrel
    by_cases hlt : j < s.size
    · have S1 := fun W => SG s[j] W
      cases hp : decide (cls s[j].toNat = 8) with
      | true =>
        have HN : Hid (endOf (· == 8) s (j + 1) = R) := by
          show endOf (· == 8) s (j + 1) = R
          rw [← HT.out, endOf_step hlt (by rw [clsAt_in hlt]; simpa using hp)]
        rw [hp] at S1
        clear hp HT SG
        go_wp2_with (go_at_call 66; (with_reducible refine Calls.mono (S1 _) ?_); rintro e w' ⟨rfl, rfl⟩)
        go_roundw
        case rel => exact ⟨j + 1, by omega, by go_num, by first | rfl | trivial, HN⟩
        case measure => simp [intOf]; omega
      | false =>
        have HN : Hid (R = j) := by
          show R = j
          rw [← HT.out, endOf_stop (by rw [clsAt_in hlt]; simpa using hp)]
        rw [hp] at S1
        clear hp HT SG
        go_wp2_with (go_at_call 66; (with_reducible refine Calls.mono (S1 _) ?_); rintro e w' ⟨rfl, rfl⟩)
        go_ret
        exact ⟨by rw [HN.out]; rfl, rfl⟩
    · have HN : Hid (R = j) := by
        show R = j
        rw [← HT.out, endOf_stop (by rw [clsAt_out hlt]; rfl)]
      clear HT SG
      go_wp2_with fail
      go_ret
      exact ⟨by rw [HN.out]; rfl, rfl⟩

theorem dash_all (l : List UInt8) : dashB l = (decide (2 ≤ l.length) && l.all (· == 45)) := by
  unfold dashB
  congr 1
  rw [Bool.eq_iff_iff, decide_eq_true_iff, List.count_eq_length, List.all_eq_true]
  simp
  constructor
  · intro h x hx; exact (h x hx).symm
  · intro h x hx; exact (h x hx).symm
set_option maxHeartbeats 1000000 in
set_option maxRecDepth 10000 in
theorem ref_dashes (s : ByteArray) (w : World) (hs : s.size ≤ maxLen) : Calls Tryd.prog 67 #[.string s] w fun e w' => e = .returned (.bool (dashB s.data.toList)) ∧ w' = w := by
  unfold maxLen at hs
  generalize hR : dashB s.data.toList = R
  have HR : Hid (dashB s.data.toList = R) := hR
  clear hR
  go_enter Tryd.func67, Tryd.ntmps67
  go_wp2
  go_loopw [3] (fun i wr => ∃ j : Nat, j ≤ s.size ∧ i = .int .i64 j ∧ wr = w ∧ Hid (∀ k (h : k < s.size), k < j → s[k].toNat = 45)) (fun i _ => s.size - (intOf i).toNat)
  case atStart => exact ⟨0, by omega, by go_num, rfl, fun k _ h => by omega⟩
  case round =>
    obtain ⟨j, hj, rfl, rfl, HT⟩ := hrel
    by_cases hlt : j < s.size
    · by_cases he : s[j].toNat = 45
      · have HN : Hid (∀ k (h : k < s.size), k < j + 1 → s[k].toNat = 45) := fun k h hk => by
          by_cases e : k = j
          · subst e; exact he
          · exact HT.out k h (by omega)
        have he' : (s[j].toNat : Int) = 45 := by omega
        clear HT he
        go_wp2
        go_roundw
        case rel => exact ⟨j + 1, by omega, by go_num, by first | rfl | trivial, HN⟩
        case measure => simp [intOf]; omega
      · have HE : Hid (R = false) := by
          show R = false
          rw [← HR.out, dash_all]
          have : s.data.toList.all (· == 45) = false := by
            rw [List.all_eq_false]
            refine ⟨s.data[j], by simp, ?_⟩
            intro h
            apply he
            have h' : s.data[j] = 45 := by simpa using h
            show s.data[j].toNat = 45
            rw [h']
            rfl
          rw [this]
          simp
        have he' : ((s[j].toNat : Int) != 45) = true := by simp; omega
        clear HT he
        go_wp2
        go_ret
        exact ⟨ret_bool HE.out.symm, rfl⟩
    · have HE : Hid (R = decide (1 < s.size)) := by
        show R = _
        rw [← HR.out, dash_all]
        have : s.data.toList.all (· == 45) = true := by
          rw [List.all_eq_true]
          intro x hx
          obtain ⟨k, hk, rfl⟩ := List.getElem_of_mem hx
          have := HT.out k (by simpa using hk) (by simp at hk; omega)
          rw [beq_iff_eq]
          exact UInt8.toNat_inj.1 this
        rw [this]
        simp
        omega
      clear HT
      go_wp2
      go_ret
      exact ⟨ret_bool (by rw [HE.out, Bool.eq_iff_iff]; simp; omega), rfl⟩
end Go.Proofs.YtkfhdmkdkphmoaaDoor

namespace Go.Proofs.YtkfhdmkdkphmoaaDoor
open Go.RowKit

/-- Where the first point stands; -1: nowhere. -/
def pointI (l : List UInt8) : Int := if l.idxOf 46 < l.length then (l.idxOf 46 : Int) else -1

theorem idx_le : ∀ (l : List UInt8) (j : Nat) (h : j < l.length), l[j] = 46 → l.idxOf 46 ≤ j := by
  intro l
  induction l with
  | nil => intro j h; simp at h
  | cons c r ih =>
    intro j h he
    rw [List.idxOf_cons]
    cases hc : c == 46 with
    | true => simp
    | false =>
      cases j with
      | zero => simp at he; simp [he] at hc
      | succ j =>
        have := ih j (by simpa using h) (by simpa using he)
        simp
        omega
set_option maxHeartbeats 1000000 in
set_option maxRecDepth 10000 in
theorem ref_point (s : ByteArray) (w : World) (hs : s.size ≤ maxLen) : Calls Tryd.prog 40 #[.string s] w fun e w' => e = .returned (.int .i64 (pointI s.data.toList)) ∧ w' = w := by
  unfold maxLen at hs
  go_enter Tryd.func40, Tryd.ntmps40
  go_wp2
  go_loopw [3] (fun i wr => ∃ j : Nat, j ≤ s.size ∧ i = .int .i64 j ∧ wr = w ∧ Hid (j ≤ s.data.toList.idxOf 46)) (fun i _ => s.size - (intOf i).toNat)
  case atStart => exact ⟨0, by omega, by go_num, rfl, Nat.zero_le _⟩
  case round =>
    obtain ⟨j, hj, rfl, rfl, HT⟩ := hrel
    by_cases hlt : j < s.size
    · have hj' : j < s.data.toList.length := by simpa using hlt
      by_cases he : s[j].toNat = 46
      · have HE : Hid (pointI s.data.toList = j) := by
          show pointI s.data.toList = j
          have h46 : s.data.toList[j] = 46 := UInt8.toNat_inj.1 (by
            have e : s.data.toList[j] = s[j] := by simp; rfl
            rw [e, he]
            rfl)
          have hle : s.data.toList.idxOf 46 ≤ j := idx_le _ j hj' h46
          have := HT.out
          unfold pointI
          rw [if_pos (by omega)]
          omega
        have he' : ((s[j].toNat : Int) == 46) = true := by simp; omega
        clear HT
        go_wp2
        go_ret
        exact ⟨by rw [HE.out]; rfl, rfl⟩
      · have HN : Hid (j + 1 ≤ s.data.toList.idxOf 46) := by
          show j + 1 ≤ s.data.toList.idxOf 46
          have := HT.out
          apply Nat.lt_of_le_of_ne this
          intro h
          apply he
          have h2 : s.data.toList[s.data.toList.idxOf 46]'(by rw [← h]; exact hj') = 46 := List.getElem_idxOf _
          have h3 : s.data.toList[j] = 46 := by
            rw [← h2]
            congr 1
          show s.data[j].toNat = 46
          have h4 : s.data[j] = 46 := by simpa using h3
          rw [h4]
          rfl
        have he' : ((s[j].toNat : Int) == 46) = false := by simp; omega
        clear HT he
        go_wp2
        go_roundw
        case rel => exact ⟨j + 1, by omega, by go_num, by first | rfl | trivial, HN⟩
        case measure => simp [intOf]; omega
    · have HE : Hid (pointI s.data.toList = -1) := by
        show pointI s.data.toList = -1
        have := HT.out
        unfold pointI
        rw [if_neg (by simp; omega)]
      clear HT
      go_wp2
      go_ret
      exact ⟨by rw [HE.out]; rfl, rfl⟩

/-- The reference's kind of a run that is not empty. -/
def kindI (l : List UInt8) : Int := if dashB l then 0 else if (l == [61] || l == [124] || l == [45, 62] || l == [58, 58]) then 11 else if (l.head? == some 58 && decide (1 < l.length)) then -1 else 5
set_option maxHeartbeats 1000000 in
set_option maxRecDepth 10000 in
theorem ref_kindOf (s : ByteArray) (w : World) (hs : s.size ≤ maxLen) (h0 : 0 < s.size) : Calls Tryd.prog 43 #[.string s] w fun e w' => e = .returned (.int .i64 (kindI s.data.toList)) ∧ w' = w := by
  have DS := fun W => ref_dashes s W hs
  unfold maxLen at hs
  have hl : s.toList = s.data.toList := by rw [ByteArray.toList_eq]
  have hn : s.data.toList.length = s.size := by simp
  have hh : s.data.toList.head? = some s[0] := by
    cases hc : s.data.toList with
    | nil => rw [hc, List.length_nil] at hn; omega
    | cons c r =>
      have e : s.data.toList[0]'(by rw [hc]; simp) = c := by simp [hc]
      rw [List.head?_cons, ← e]
      simp
      rfl
  have HK : Hid (kindI s.data.toList = if dashB s.data.toList then 0 else if (s.toList == [61] || s.toList == [124] || s.toList == [45, 62] || s.toList == [58, 58]) then 11 else if (decide (s[0].toNat = 58) && decide (1 < s.size)) then -1 else 5) := by
    show kindI s.data.toList = _
    unfold kindI
    rw [hl, hh, hn]
    have e : ((some s[0] : Option UInt8) == some 58) = decide (s[0].toNat = 58) := by
      rw [Bool.eq_iff_iff]
      simp
      constructor
      · intro h; rw [h]; rfl
      · intro h; exact UInt8.toNat_inj.1 h
    rw [e]
  clear hl hh hn
  generalize kindI s.data.toList = R at *
  cases hd : dashB s.data.toList
  all_goals rw [hd] at DS HK
  · cases hq : (s.toList == [61] || s.toList == [124] || s.toList == [45, 62] || s.toList == [58, 58])
    · cases hc : (decide (s[0].toNat = 58) && decide (1 < s.size))
      · have HE : Hid (R = 5) := by show R = 5; rw [HK.out, hq, hc]; rfl
        have q1 : (s.toList == [61]) = false := by simp at hq; simp [hq]
        have q2 : (s.toList == [124]) = false := by simp at hq; simp [hq]
        have q3 : (s.toList == [45, 62]) = false := by simp at hq; simp [hq]
        have q4 : (s.toList == [58, 58]) = false := by simp at hq; simp [hq]
        have hc' : s[0].toNat = 58 → s.size ≤ 1 := by simp at hc; exact hc
        clear HK hq hc
        by_cases hz : s[0].toNat = 58
        · have z1 : (s[0].toNat : Int) = 58 := by omega
          have z2 : s.size ≤ 1 := hc' hz
          clear hc' hz
          go_enter Tryd.func43, Tryd.ntmps43
          go_wp2_with (go_at_call 67; (with_reducible refine Calls.mono (DS _) ?_); rintro e w' ⟨rfl, rfl⟩)
          go_ret
          exact ⟨by rw [HE.out]; rfl, rfl⟩
        · have z1 : ((s[0].toNat : Int) == 58) = false := by simp; omega
          clear hc' hz
          go_enter Tryd.func43, Tryd.ntmps43
          go_wp2_with (go_at_call 67; (with_reducible refine Calls.mono (DS _) ?_); rintro e w' ⟨rfl, rfl⟩)
          go_ret
          exact ⟨by rw [HE.out]; rfl, rfl⟩
      · have HE : Hid (R = -1) := by show R = -1; rw [HK.out, hq, hc]; rfl
        have q1 : (s.toList == [61]) = false := by simp at hq; simp [hq]
        have q2 : (s.toList == [124]) = false := by simp at hq; simp [hq]
        have q3 : (s.toList == [45, 62]) = false := by simp at hq; simp [hq]
        have q4 : (s.toList == [58, 58]) = false := by simp at hq; simp [hq]
        have hc' : s[0].toNat = 58 ∧ 1 < s.size := by simp at hc; exact hc
        have z1 : (s[0].toNat : Int) = 58 := by omega
        have z2 : 1 < s.size := hc'.2
        clear HK hq hc hc'
        go_enter Tryd.func43, Tryd.ntmps43
        go_wp2_with (go_at_call 67; (with_reducible refine Calls.mono (DS _) ?_); rintro e w' ⟨rfl, rfl⟩)
        go_ret
        exact ⟨by rw [HE.out]; rfl, rfl⟩
    · have HE : Hid (R = 11) := by show R = 11; rw [HK.out, hq]; rfl
      clear HK
      go_enter Tryd.func43, Tryd.ntmps43
      go_wp2_with (go_at_call 67; (with_reducible refine Calls.mono (DS _) ?_); rintro e w' ⟨rfl, rfl⟩)
      all_goals first
        | (go_ret; exact ⟨by rw [HE.out]; rfl, rfl⟩)
        | (exfalso; simp_all; done)
  · have HE : Hid (R = 0) := by show R = 0; rw [HK.out]; rfl
    clear hd HK
    go_enter Tryd.func43, Tryd.ntmps43
    go_wp2_with (go_at_call 67; (with_reducible refine Calls.mono (DS _) ?_); rintro e w' ⟨rfl, rfl⟩)
    go_ret
    exact ⟨by rw [HE.out]; rfl, rfl⟩
end Go.Proofs.YtkfhdmkdkphmoaaDoor

namespace Go.Proofs.YtkfhdmkdkphmoaaDoor
open Go.RowKit

def resL : List (List UInt8) := [[109, 111, 100, 117, 108, 101], [105, 109, 112, 111, 114, 116], [100, 97, 116, 97], [105, 110, 102, 105, 120, 108], [105, 110, 102, 105, 120, 114], [105, 110, 102, 105, 120], [108, 101, 116], [105, 110], [99, 97, 115, 101], [111, 102], [105, 102], [116, 104, 101, 110], [101, 108, 115, 101]]
theorem isRes_any (l : List UInt8) : isRes l = resL.any (fun x => l == x) := by
  simp [isRes, resL, Bool.or_assoc]
def resA : Array Value := (resL.map (fun x => Value.string ⟨x.toArray⟩)).toArray

set_option maxHeartbeats 2000000 in
set_option maxRecDepth 10000 in
theorem ref_reserved (s : ByteArray) (w : World) : Calls Tryd.prog 45 #[.string s] w fun e w' => e = .returned (.bool (isRes s.toList)) ∧ Below w.heap.size w w' := by
  have hblk : (w.alloc (.cells resA 9)).heap[w.heap.size]? = some (.cells resA 9 (0, 0)) := by
    show (w.heap.push _)[w.heap.size]? = _
    simp
  have hcell : ∀ j (h : j < resL.length), (w.alloc (.cells resA 9)).cell? ⟨w.heap.size, j, none⟩ = some (.string ⟨resL[j].toArray⟩) := fun j h => (cell_block hblk).trans (by simp [resA, h])
  have hB := (Below.refl w.heap.size w).alloc (Nat.le_refl _) (.cells resA 9)
  generalize hR : isRes s.toList = R
  have HR : Hid (resL.any (fun x => s.toList == x) = R) := by
    show resL.any _ = R
    rw [← isRes_any, hR]
  clear hR hblk
  obtain ⟨W0, hW0⟩ : ∃ W0, W0 = w.alloc (.cells resA 9) := ⟨_, rfl⟩
  rw [← hW0] at hcell hB
  have HW : Hid (W0 = w.alloc (.cells resA 9)) := hW0
  clear hW0
  go_enter Tryd.func45, Tryd.ntmps45
  go_wp2
  show Code.wp Tryd.prog _ _ _ (w.alloc (.cells resA 9))
  rw [← HW.out]
  clear HW
  go_loopw [4] (fun i wr => ∃ j : Nat, j ≤ 13 ∧ i = .int .i64 j ∧ wr = W0 ∧ Hid (∀ k (h : k < resL.length), k < j → (s.toList == resL[k]) = false)) (fun i _ => 13 - (intOf i).toNat)
  case atStart => exact ⟨0, by omega, by go_num, rfl, fun k _ h => by omega⟩
  case round =>
    obtain ⟨j, hj, rfl, rfl, HT⟩ := hrel
    by_cases hlt : j < 13
    · have hlt' : j < resL.length := hlt
      have hc := hcell j hlt'
      have EQ : ((⟨resL[j].toArray⟩ : ByteArray).toList == s.toList) = (s.toList == resL[j]) := by
        rw [ByteArray.toList_eq, Bool.eq_iff_iff]
        simp
        exact eq_comm
      generalize (⟨resL[j].toArray⟩ : ByteArray) = X at *
      cases he : s.toList == resL[j] with
      | true =>
        have HE : Hid (R = true) := by
          show R = true
          rw [← HR.out, List.any_eq_true]
          exact ⟨resL[j], List.getElem_mem _, he⟩
        rw [he] at EQ
        clear HT hcell he
        go_wp2
        go_ret
        exact ⟨ret_bool HE.out.symm, hB⟩
      | false =>
        have HN : Hid (∀ k (h : k < resL.length), k < j + 1 → (s.toList == resL[k]) = false) := fun k h hk => by
          by_cases e : k = j
          · subst e; exact he
          · exact HT.out k h (by omega)
        rw [he] at EQ
        clear HT hcell he
        go_wp2
        go_roundw
        case rel => exact ⟨j + 1, by omega, by go_num, by first | rfl | trivial, HN⟩
        case measure => simp [intOf]; omega
    · have HE : Hid (R = false) := by
        show R = false
        rw [← HR.out, List.any_eq_false]
        intro x hx
        obtain ⟨k, hk, rfl⟩ := List.getElem_of_mem hx
        have hk' : k < 13 := hk
        rw [HT.out k hk (by omega)]
        simp
      clear HT hcell
      go_wp2
      go_ret
      exact ⟨ret_bool HE.out.symm, hB⟩

/-- Is all of a text one name that begins so? -/
def namedB (l : List UInt8) (big : Bool) : Bool := decide (nameLen l = l.length) && (if big then decide (clsHd l = 2) else decide (clsHd l = 1) && !isRes l)
end Go.Proofs.YtkfhdmkdkphmoaaDoor

namespace Go.Proofs.YtkfhdmkdkphmoaaDoor
open Go.RowKit

set_option maxHeartbeats 2000000 in
set_option maxRecDepth 10000 in
theorem ref_named (s : ByteArray) (big : Bool) (w : World) (hs : s.size ≤ maxLen) : Calls Tryd.prog 41 #[.string s, .bool big] w fun e w' => e = .returned (.bool (namedB s.data.toList big)) ∧ Below w.heap.size w w' := by
  have hl : s.toList = s.data.toList := by rw [ByteArray.toList_eq]
  by_cases h0 : s.size = 0
  · have hn : s.toList = [] := by rw [hl]; apply List.length_eq_zero_iff.1; simpa using h0
    have hz : (s.toList == []) = true := by rw [hn]; rfl
    have HE : Hid (namedB s.data.toList big = false) := by
      show namedB s.data.toList big = false
      rw [← hl, hn]
      cases big <;> rfl
    generalize namedB s.data.toList big = R at *
    clear hl hn hs
    go_enter Tryd.func41, Tryd.ntmps41
    go_wp2
    go_ret
    exact ⟨ret_bool HE.out.symm, Below.refl _ _⟩
  · have hp : 0 < s.size := by omega
    have hne : (s.toList == []) = false := by
      rw [hl, beq_eq_false_iff_ne]
      intro h
      have := congrArg List.length h
      rw [Array.length_toList] at this
      exact h0 this
    have hr : rest s 0 = s.data.toList := by simp [rest]
    have hcl : clsHd s.data.toList = cls s[0].toNat := by rw [← hr, ← clsAt_rest, clsAt_in hp]
    have hend : endOf nsB s 0 = nameLen s.data.toList := by
      have := endOf_span nsB s 0 rfl
      rw [hr, Nat.zero_add] at this
      exact this
    have hlen : s.data.toList.length = s.size := by simp
    have hle : nameLen s.data.toList ≤ s.size := by rw [← hlen]; exact spanLen_le _ _
    have S1 := fun W => ref_small s[0].toNat W s[0].toNat_lt
    have S2 := fun W => ref_capital s[0].toNat W s[0].toNat_lt
    have SG : ∀ W, Calls Tryd.prog 65 #[.string s, .int .i64 0] W fun e w' => e = .returned (.int .i64 (nameLen s.data.toList)) ∧ w' = W := fun W => by
      have := ref_signs s 0 W hs (by omega)
      rw [hend] at this
      exact this
    have RS := fun W => ref_reserved s W
    have HE : Hid (namedB s.data.toList big = (decide (nameLen s.data.toList = s.size) && (if big then decide (cls s[0].toNat = 2) else decide (cls s[0].toNat = 1) && !isRes s.toList))) := by
      show namedB s.data.toList big = _
      unfold namedB
      rw [hlen, hcl, hl]
    unfold maxLen at hs
    generalize namedB s.data.toList big = R at *
    generalize nameLen s.data.toList = nl at *
    generalize decide (cls s[0].toNat = 1) = b1 at *
    generalize decide (cls s[0].toNat = 2) = b2 at *
    generalize isRes s.toList = b3 at *
    clear hl hr hcl hend hlen h0
    cases big <;> cases b1 <;> cases b2 <;> cases b3
    all_goals
      go_enter Tryd.func41, Tryd.ntmps41
      go_wp2_with (first
        | (go_at_call 63; (with_reducible refine Calls.mono (S1 _) ?_); rintro e w' ⟨rfl, rfl⟩)
        | (go_at_call 64; (with_reducible refine Calls.mono (S2 _) ?_); rintro e w' ⟨rfl, rfl⟩)
        | (go_at_call 65; (with_reducible refine Calls.mono (SG _) ?_); rintro e w' ⟨rfl, rfl⟩)
        | (go_at_call 45; (with_reducible refine Calls.mono (RS _) ?_); rintro e w1 ⟨rfl, hb1⟩))
      all_goals (go_ret; exact ⟨ret_bool (by rw [HE.out, Bool.eq_iff_iff]; simp <;> omega), hb1⟩)
end Go.Proofs.YtkfhdmkdkphmoaaDoor

namespace Go.Proofs.YtkfhdmkdkphmoaaDoor
open Go.RowKit

def formedB (kd : Int) (l : List UInt8) : Bool :=
  if kd = 1 then namedB l false
  else if kd = 2 then namedB l true
  else if kd = 3 ∨ kd = 4 then decide (l.idxOf 46 < l.length) && (namedB (l.take (l.idxOf 46)) true && namedB (l.drop (l.idxOf 46 + 1)) (decide (kd = 4)))
  else if kd = 5 ∨ kd = 11 then !(l == []) && (decide (runLen l = l.length) && decide (kindI l = kd))
  else if kd = 6 ∨ kd = 7 then l == []
  else if kd = 8 then true
  else if kd = 9 then decide (l.length = 1) && (decide (clsHd l = 9) || l == [95])
  else if kd = 10 then isRes l
  else false

set_option maxHeartbeats 4000000 in
set_option maxRecDepth 10000 in
theorem ref_formed (kd : Int) (s : ByteArray) (w : World) (hs : s.size ≤ maxLen) (hk1 : -9223372036854775808 ≤ kd) (hk2 : kd ≤ 9223372036854775807) : Calls Tryd.prog 24 #[.int .i64 kd, .string s] w fun e w' => e = .returned (.bool (formedB kd s.data.toList)) ∧ Below w.heap.size w w' := by
  have PT := fun W => ref_point s W hs
  have hl : s.toList = s.data.toList := by rw [ByteArray.toList_eq]
  have hlen : s.data.toList.length = s.size := by simp
  have hs' := hs
  unfold maxLen at hs'
  by_cases h1 : kd = 1
  · subst h1
    have NM := fun W => ref_named s false W hs
    have HE : Hid (formedB 1 s.data.toList = namedB s.data.toList false) := rfl
    generalize formedB 1 s.data.toList = R at *
    generalize namedB s.data.toList false = b at *
    generalize pointI s.data.toList = pt at *
    go_enter Tryd.func24, Tryd.ntmps24
    go_wp2_with (first
      | (go_at_call 40; (with_reducible refine Calls.mono (PT _) ?_); rintro e w' ⟨rfl, rfl⟩)
      | (go_at_call 41; (with_reducible refine Calls.mono (NM _) ?_); rintro e w1 ⟨rfl, hb1⟩))
    go_ret
    exact ⟨ret_bool HE.out.symm, hb1⟩
  by_cases h2 : kd = 2
  · subst h2
    have NM := fun W => ref_named s true W hs
    have HE : Hid (formedB 2 s.data.toList = namedB s.data.toList true) := rfl
    generalize formedB 2 s.data.toList = R at *
    generalize namedB s.data.toList true = b at *
    generalize pointI s.data.toList = pt at *
    go_enter Tryd.func24, Tryd.ntmps24
    go_wp2_with (first
      | (go_at_call 40; (with_reducible refine Calls.mono (PT _) ?_); rintro e w' ⟨rfl, rfl⟩)
      | (go_at_call 41; (with_reducible refine Calls.mono (NM _) ?_); rintro e w1 ⟨rfl, hb1⟩))
    go_ret
    exact ⟨ret_bool HE.out.symm, hb1⟩
  by_cases h3 : kd = 3 ∨ kd = 4
  · have HE : Hid (formedB kd s.data.toList = (decide (s.data.toList.idxOf 46 < s.data.toList.length) && (namedB (s.data.toList.take (s.data.toList.idxOf 46)) true && namedB (s.data.toList.drop (s.data.toList.idxOf 46 + 1)) (decide (kd = 4))))) := by
      show formedB kd s.data.toList = _
      unfold formedB
      rw [if_neg h1, if_neg h2, if_pos h3]
    generalize formedB kd s.data.toList = R at *
    by_cases hp : s.data.toList.idxOf 46 < s.data.toList.length
    · have hpt : pointI s.data.toList = (s.data.toList.idxOf 46 : Int) := by unfold pointI; rw [if_pos hp]
      rw [hpt] at PT
      rw [hlen] at hp
      have N1 := fun W => ref_named (s.extract 0 (s.data.toList.idxOf 46)) true W (by rw [ByteArray.size_extract]; unfold maxLen; omega)
      have N2 := fun W => ref_named (s.extract (s.data.toList.idxOf 46 + 1) s.size) (decide (kd = 4)) W (by rw [ByteArray.size_extract]; unfold maxLen; omega)
      have e1 : (s.extract 0 (s.data.toList.idxOf 46)).data.toList = s.data.toList.take (s.data.toList.idxOf 46) := by simp [ByteArray.data_extract]
      have e2 : (s.extract (s.data.toList.idxOf 46 + 1) s.size).data.toList = s.data.toList.drop (s.data.toList.idxOf 46 + 1) := by
        rw [ByteArray.data_extract, Array.toList_extract, List.extract_eq_take_drop, List.take_of_length_le (by simp)]
      rw [e1] at N1
      rw [e2] at N2
      have HE2 : Hid (R = (namedB (s.data.toList.take (s.data.toList.idxOf 46)) true && namedB (s.data.toList.drop (s.data.toList.idxOf 46 + 1)) (decide (kd = 4)))) := by
        show R = _
        rw [HE.out, hlen, decide_eq_true hp, Bool.true_and]
      clear HE e1 e2 hpt hlen
      generalize namedB (s.data.toList.take (s.data.toList.idxOf 46)) true = b1 at *
      generalize namedB (s.data.toList.drop (s.data.toList.idxOf 46 + 1)) (decide (kd = 4)) = b2 at *
      generalize s.data.toList.idxOf 46 = p at *
      rcases h3 with rfl | rfl
      all_goals
        go_enter Tryd.func24, Tryd.ntmps24
        go_wp2_with (first
          | (go_at_call 40; (with_reducible refine Calls.mono (PT _) ?_); rintro e w' ⟨rfl, rfl⟩)
          | (go_at_call 41; (with_reducible refine Calls.mono (N1 _) ?_); rintro e w1 ⟨rfl, hb1⟩)
          | (go_at_call 41; (refine Calls.mono (N2 _) ?_); rintro e w2 ⟨rfl, hb2⟩))
        all_goals first
          | (go_ret; exact ⟨ret_bool (by rw [HE2.out]; simp_all), hb1.trans (hb2.mono hb1.size)⟩)
          | (go_ret; exact ⟨ret_bool (by rw [HE2.out]; simp_all), hb1⟩)
    · have hpt : pointI s.data.toList = -1 := by unfold pointI; rw [if_neg hp]
      rw [hpt] at PT
      have HE2 : Hid (R = false) := by
        show R = _
        rw [HE.out, decide_eq_false hp, Bool.false_and]
      clear HE hpt hlen hp
      rcases h3 with rfl | rfl
      all_goals
        go_enter Tryd.func24, Tryd.ntmps24
        go_wp2_with (first
          | (go_at_call 40; (with_reducible refine Calls.mono (PT _) ?_); rintro e w' ⟨rfl, rfl⟩))
        all_goals first
          | (go_ret; exact ⟨ret_bool HE2.out.symm, Below.refl _ _⟩)
  have hpge : (-1 : Int) ≤ pointI s.data.toList ∧ pointI s.data.toList ≤ s.size := by
    unfold pointI
    split <;> constructor <;> omega
  have hne : s.size ≠ 0 → (s.toList == []) = false := by
    intro h0
    rw [hl, beq_eq_false_iff_ne]
    intro h
    have := congrArg List.length h
    rw [Array.length_toList] at this
    exact h0 this
  have heq : s.size = 0 → (s.toList == []) = true := by
    intro h0
    have hn : s.toList = [] := by rw [hl]; apply List.length_eq_zero_iff.1; simpa using h0
    rw [hn]; rfl
  by_cases h5 : kd = 5 ∨ kd = 11
  · have HE : Hid (formedB kd s.data.toList = (!(s.toList == []) && (decide (runLen s.data.toList = s.size) && decide (kindI s.data.toList = kd)))) := by
      show formedB kd s.data.toList = _
      unfold formedB
      rw [if_neg h1, if_neg h2, if_neg h3, if_pos h5, hlen, hl]
    generalize formedB kd s.data.toList = R at *
    by_cases h0 : s.size = 0
    · have hz := heq h0
      have HE2 : Hid (R = false) := by
        show R = _
        rw [HE.out, hz]; rfl
      have hem : s.data.isEmpty = true := by rw [Array.isEmpty_iff_size_eq_zero]; exact h0
      clear HE hne heq
      generalize pointI s.data.toList = pt at *
      rcases h5 with rfl | rfl
      all_goals
        go_enter Tryd.func24, Tryd.ntmps24
        go_wp2_with (first
          | (go_at_call 40; (with_reducible refine Calls.mono (PT _) ?_); rintro e w' ⟨rfl, rfl⟩))
        all_goals first
          | (go_ret; exact ⟨ret_bool HE2.out.symm, Below.refl _ _⟩)
          | (rename_i hq; rw [hem] at hq; cases hq)
    · have hz := hne h0
      have hem : s.data.isEmpty = false := by
        rw [Bool.eq_false_iff]
        intro h
        exact h0 (Array.isEmpty_iff_size_eq_zero.1 h)
      have HE2 : Hid (R = (((runLen s.data.toList : Int) == (s.size : Int)) && (kindI s.data.toList == kd))) := by
        show R = _
        rw [HE.out, hz]
        generalize runLen s.data.toList = a
        generalize s.size = b
        generalize kindI s.data.toList = c
        rw [Bool.eq_iff_iff]
        simp
        omega
      have hr : rest s 0 = s.data.toList := by simp [rest]
      have hend : endOf (· == 8) s 0 = runLen s.data.toList := by
        have := endOf_span (· == 8) s 0 rfl
        rw [hr, Nat.zero_add] at this
        exact this
      have RN : ∀ W, Calls Tryd.prog 42 #[.string s, .int .i64 0] W fun e w' => e = .returned (.int .i64 (runLen s.data.toList)) ∧ w' = W := fun W => by
        have := ref_run s 0 W hs (by omega)
        rw [hend] at this
        exact this
      have KO := fun W => ref_kindOf s W hs (by omega)
      have hrl : runLen s.data.toList ≤ s.size := by rw [← hlen]; exact spanLen_le _ _
      have hki : (-1 : Int) ≤ kindI s.data.toList ∧ kindI s.data.toList ≤ 11 := by
        unfold kindI
        split
        · omega
        · split
          · omega
          · split <;> omega
      clear HE hne heq hr hend
      generalize pointI s.data.toList = pt at *
      generalize runLen s.data.toList = rl at *
      generalize kindI s.data.toList = ki at *
      rcases h5 with rfl | rfl
      all_goals
        go_enter Tryd.func24, Tryd.ntmps24
        go_wp2_with (first
          | (go_at_call 40; (with_reducible refine Calls.mono (PT _) ?_); rintro e w' ⟨rfl, rfl⟩)
          | (go_at_call 42; (with_reducible refine Calls.mono (RN _) ?_); rintro e w' ⟨rfl, rfl⟩)
          | (go_at_call 43; (with_reducible refine Calls.mono (KO _) ?_); rintro e w' ⟨rfl, rfl⟩))
        all_goals first
          | (rename_i hq; go_ret; exact ⟨ret_bool (by rw [HE2.out, beq_iff_eq.2 hq]; rfl), Below.refl _ _⟩)
          | (rename_i hq; go_ret; exact ⟨ret_bool (by rw [HE2.out, beq_eq_false_iff_ne.2 hq]; rfl), Below.refl _ _⟩)
  by_cases h6 : kd = 6 ∨ kd = 7
  · have HE : Hid (formedB kd s.data.toList = (s.toList == [])) := by
      show formedB kd s.data.toList = _
      unfold formedB
      rw [if_neg h1, if_neg h2, if_neg h3, if_neg h5, if_pos h6, hl]
    generalize formedB kd s.data.toList = R at *
    generalize pointI s.data.toList = pt at *
    have hem : Hid (s.data.isEmpty = (s.toList == [])) := by
      show s.data.isEmpty = (s.toList == [])
      by_cases h0 : s.size = 0
      · rw [heq h0, Array.isEmpty_iff_size_eq_zero]; exact h0
      · rw [hne h0, Bool.eq_false_iff]
        intro h
        exact h0 (Array.isEmpty_iff_size_eq_zero.1 h)
    clear hne heq
    rcases h6 with rfl | rfl
    all_goals
      go_enter Tryd.func24, Tryd.ntmps24
      go_wp2_with (first
        | (go_at_call 40; (with_reducible refine Calls.mono (PT _) ?_); rintro e w' ⟨rfl, rfl⟩))
      all_goals first
        | (go_ret; exact ⟨ret_bool (hem.out.trans HE.out.symm), Below.refl _ _⟩)
  by_cases h8 : kd = 8
  · have HE : Hid (formedB kd s.data.toList = true) := by
      show formedB kd s.data.toList = _
      unfold formedB
      rw [if_neg h1, if_neg h2, if_neg h3, if_neg h5, if_neg h6, if_pos h8]
    generalize formedB kd s.data.toList = R at *
    generalize pointI s.data.toList = pt at *
    clear hne heq
    subst h8
    go_enter Tryd.func24, Tryd.ntmps24
    go_wp2_with (first
      | (go_at_call 40; (with_reducible refine Calls.mono (PT _) ?_); rintro e w' ⟨rfl, rfl⟩))
    all_goals first
      | (go_ret; exact ⟨ret_bool HE.out.symm, Below.refl _ _⟩)
  by_cases h9 : kd = 9
  · have HE : Hid (formedB kd s.data.toList = (decide (s.size = 1) && (decide (clsHd s.data.toList = 9) || s.toList == [95]))) := by
      show formedB kd s.data.toList = _
      unfold formedB
      rw [if_neg h1, if_neg h2, if_neg h3, if_neg h5, if_neg h6, if_neg h8, if_pos h9, hlen, hl]
    generalize formedB kd s.data.toList = R at *
    generalize pointI s.data.toList = pt at *
    clear hne heq
    subst h9
    by_cases h0 : s.size = 1
    · have hp : 0 < s.size := by omega
      have hr : rest s 0 = s.data.toList := by simp [rest]
      have hcl : clsHd s.data.toList = cls s[0].toNat := by rw [← hr, ← clsAt_rest, clsAt_in hp]
      have SP := fun W => ref_special s[0].toNat W s[0].toNat_lt
      have HE2 : Hid (R = (decide (cls s[0].toNat = 9) || s.toList == [95])) := by
        show R = _
        rw [HE.out, decide_eq_true h0, hcl, Bool.true_and]
      clear HE hr hcl
      generalize decide (cls s[0].toNat = 9) = b1 at *
      cases b1
      all_goals
        go_enter Tryd.func24, Tryd.ntmps24
        go_wp2_with (first
          | (go_at_call 40; (with_reducible refine Calls.mono (PT _) ?_); rintro e w' ⟨rfl, rfl⟩)
          | (go_at_call 44; (with_reducible refine Calls.mono (SP _) ?_); rintro e w' ⟨rfl, rfl⟩))
        all_goals first
          | (go_ret; exact ⟨ret_bool (by rw [HE2.out]; simp_all), Below.refl _ _⟩)
    · have HE2 : Hid (R = false) := by
        show R = _
        rw [HE.out, decide_eq_false h0]; rfl
      clear HE
      go_enter Tryd.func24, Tryd.ntmps24
      go_wp2_with (first
        | (go_at_call 40; (with_reducible refine Calls.mono (PT _) ?_); rintro e w' ⟨rfl, rfl⟩))
      all_goals first
        | (go_ret; exact ⟨ret_bool HE2.out.symm, Below.refl _ _⟩)
  by_cases h10 : kd = 10
  · have HE : Hid (formedB kd s.data.toList = isRes s.toList) := by
      show formedB kd s.data.toList = _
      unfold formedB
      rw [if_neg h1, if_neg h2, if_neg h3, if_neg h5, if_neg h6, if_neg h8, if_neg h9, if_pos h10, hl]
    have RS := fun W => ref_reserved s W
    generalize formedB kd s.data.toList = R at *
    generalize pointI s.data.toList = pt at *
    generalize isRes s.toList = b at *
    clear hne heq
    subst h10
    go_enter Tryd.func24, Tryd.ntmps24
    go_wp2_with (first
      | (go_at_call 40; (with_reducible refine Calls.mono (PT _) ?_); rintro e w' ⟨rfl, rfl⟩)
      | (go_at_call 45; (with_reducible refine Calls.mono (RS _) ?_); rintro e w1 ⟨rfl, hb1⟩))
    all_goals first
      | (go_ret; exact ⟨ret_bool HE.out.symm, hb1⟩)
  have HE : Hid (formedB kd s.data.toList = false) := by
    show formedB kd s.data.toList = _
    unfold formedB
    rw [if_neg h1, if_neg h2, if_neg h3, if_neg h5, if_neg h6, if_neg h8, if_neg h9, if_neg h10]
  generalize formedB kd s.data.toList = R at *
  generalize pointI s.data.toList = pt at *
  clear hne heq
  go_enter Tryd.func24, Tryd.ntmps24
  go_wp2_with (first
    | (go_at_call 40; (with_reducible refine Calls.mono (PT _) ?_); rintro e w' ⟨rfl, rfl⟩))
  all_goals first
    | (go_ret; exact ⟨ret_bool HE.out.symm, Below.refl _ _⟩)
    | (exfalso; omega)
end Go.Proofs.YtkfhdmkdkphmoaaDoor

namespace Go.Proofs.YtkfhdmkdkphmoaaDoor
open Go.RowKit

def refIsB (kd : Int) (l : List UInt8) (nm : Int) : Bool := formedB kd l && (decide (0 ≤ nm) && decide (nm ≤ (if kd = 6 then 4611686018427387903 else if kd = 7 then 255 else 0)))

theorem far_cell {w w1 : World} {a : Array Value} {t : Nat} (hb : Below (w.alloc (.cells a t)).heap.size (w.alloc (.cells a t)) w1) (i : Nat) : w1.cell? ⟨w.heap.size, i, none⟩ = a[i]? := by
  rw [hb.cell (by simp), World.cell?_alloc_at _ _ _ _ rfl]

set_option maxHeartbeats 4000000 in
set_option maxRecDepth 10000 in
theorem ref_is (kd nm at' : Int) (s : ByteArray) (w : World) (hs : s.size ≤ maxLen) (hk1 : -9223372036854775808 ≤ kd) (hk2 : kd ≤ 9223372036854775807) : Calls Tryd.prog 18 #[.agg #[.int .i64 kd, .string s, .int .i64 nm, .int .i64 at']] w fun e w' => e = .returned (.bool (refIsB kd s.data.toList nm)) ∧ Below w.heap.size w w' := by
  have hbo : ∀ o, Below w.heap.size w (w.alloc o) := fun o => (Below.refl _ w).alloc (Nat.le_refl _) o
  have FM := fun W => ref_formed kd s W hs hk1 hk2
  by_cases h6 : kd = 6
  · subst h6
    have HE : Hid (refIsB 6 s.data.toList nm = (formedB 6 s.data.toList && (decide (0 ≤ nm) && decide (nm ≤ 4611686018427387903)))) := rfl
    generalize refIsB 6 s.data.toList nm = R at *
    generalize formedB 6 s.data.toList = b at *
    cases b
    all_goals by_cases hn : 0 ≤ nm
    all_goals
      go_enter Tryd.func18, Tryd.ntmps18
      go_wp2_with (first
        | (go_at_call 24; (with_reducible refine Calls.mono (FM _) ?_); rintro e w1 ⟨rfl, hb1⟩; have c0 := (far_cell hb1 0).trans rfl; have c2 := (far_cell hb1 2).trans rfl))
      go_ret
      exact ⟨ret_bool (by rw [HE.out]; simp <;> omega), (hbo _).trans (hb1.mono (hbo _).size)⟩
  by_cases h7 : kd = 7
  · subst h7
    have HE : Hid (refIsB 7 s.data.toList nm = (formedB 7 s.data.toList && (decide (0 ≤ nm) && decide (nm ≤ 255)))) := rfl
    generalize refIsB 7 s.data.toList nm = R at *
    generalize formedB 7 s.data.toList = b at *
    cases b
    all_goals by_cases hn : 0 ≤ nm
    all_goals
      go_enter Tryd.func18, Tryd.ntmps18
      go_wp2_with (first
        | (go_at_call 24; (with_reducible refine Calls.mono (FM _) ?_); rintro e w1 ⟨rfl, hb1⟩; have c0 := (far_cell hb1 0).trans rfl; have c2 := (far_cell hb1 2).trans rfl))
      go_ret
      exact ⟨ret_bool (by rw [HE.out]; simp <;> omega), (hbo _).trans (hb1.mono (hbo _).size)⟩
  · have HE : Hid (refIsB kd s.data.toList nm = (formedB kd s.data.toList && (decide (0 ≤ nm) && decide (nm ≤ 0)))) := by
      show refIsB kd s.data.toList nm = _
      unfold refIsB
      rw [if_neg h6, if_neg h7]
    generalize refIsB kd s.data.toList nm = R at *
    generalize formedB kd s.data.toList = b at *
    cases b
    all_goals by_cases hn : 0 ≤ nm
    all_goals
      go_enter Tryd.func18, Tryd.ntmps18
      go_wp2_with (first
        | (go_at_call 24; (with_reducible refine Calls.mono (FM _) ?_); rintro e w1 ⟨rfl, hb1⟩; have c0 := (far_cell hb1 0).trans rfl; have c2 := (far_cell hb1 2).trans rfl))
      go_ret
      exact ⟨ret_bool (by rw [HE.out]; simp <;> omega), (hbo _).trans (hb1.mono (hbo _).size)⟩
end Go.Proofs.YtkfhdmkdkphmoaaDoor
