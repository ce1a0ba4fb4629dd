/- Contracts of numbers, and of the piece of a text. -/
import Derived.Test.YtkfhdmkdkphmoaaGreatDoorW5
namespace Go.Proofs.YtkfhdmkdkphmoaaGreatDoor
open Go.RowKit

/-- What readNumber answers. -/
def numVal (k : Nat) : Option (Nat × Nat) → Value
  | none => .tuple #[.int .i64 0, .int .i64 0, .int .i64 11]
  | some (v, n) => .tuple #[.int .i64 v, .int .i64 (k + n : Nat), .int .i64 0]

theorem numGo_stop {b : Nat} {s : ByteArray} {j n : Nat} (h : b ≤ digL (rest s j)) : numGo b (rest s j) n = some (n, 0) := by
  by_cases hj : j < s.size
  · rw [rest_in hj] at h ⊢
    have h' : b ≤ digOf s[j].toNat := h
    rw [numGo, if_neg (by omega)]
  · rw [rest_out hj]; rfl
theorem numGo_big {b : Nat} {s : ByteArray} {j n : Nat} (hb : b ≤ 16) (h : digL (rest s j) < b) (hn : (4611686018427387903 - digL (rest s j)) / b < n) : numGo b (rest s j) n = none := by
  by_cases hj : j < s.size
  · rw [rest_in hj] at h hn ⊢
    have h' : digOf s[j].toNat < b := h
    have hn' : (4611686018427387903 - digOf s[j].toNat) / b < n := hn
    rw [numGo, if_pos h', if_pos hn']
  · rw [rest_out hj] at h; simp [digL] at h; omega
theorem numGo_step {b : Nat} {s : ByteArray} {j n : Nat} (hb : b ≤ 16) (h : digL (rest s j) < b) (hn : ¬ (4611686018427387903 - digL (rest s j)) / b < n) : numGo b (rest s j) n = (numGo b (rest s (j + 1)) (n * b + digL (rest s j))).map (fun x => (x.1, x.2 + 1)) := by
  by_cases hj : j < s.size
  · rw [rest_in hj] at h hn ⊢
    have h' : digOf s[j].toNat < b := h
    have hn' : ¬ (4611686018427387903 - digOf s[j].toNat) / b < n := hn
    rw [numGo, if_pos h', if_neg hn']
    rfl
  · rw [rest_out hj] at h; simp [digL] at h; omega
theorem digL_in {s : ByteArray} {j b : Nat} (hb : b ≤ 16) (h : digL (rest s j) < b) : j < s.size := by
  by_cases hj : j < s.size
  · exact hj
  · rw [rest_out hj] at h; simp [digL] at h; omega
theorem map_map_num (o : Option (Nat × Nat)) (f j : Nat) (h : f ≤ j) : (o.map (fun x => (x.1, x.2 + 1))).map (fun x => (x.1, x.2 + (j - f))) = o.map (fun x => (x.1, x.2 + (j + 1 - f))) := by
  cases o <;> simp
  omega

/-- What numL says, once the digits are read. -/
theorem numL_dec {s : ByteArray} {k j n : Nat} (hx : hexB (rest s k) = false) (hj : k ≤ j) (hg : numGo 10 (rest s k) 0 = some (n, j - k)) :
    numL (rest s k) = if ((rest s k).head? = some 48 ∧ 1 < j - k) ∨ nsB (clsAt s j) = true then none else some (n, j - k) := by
  unfold numL
  simp only [hx, Bool.false_eq_true, if_false, List.drop_zero, hg, Nat.zero_add, true_and]
  rw [rest_drop, clsAt_rest, show k + (j - k) = j by omega]
theorem numL_dec_none {s : ByteArray} {k : Nat} (hx : hexB (rest s k) = false) (hg : numGo 10 (rest s k) 0 = none) : numL (rest s k) = none := by
  unfold numL
  simp only [hx, Bool.false_eq_true, if_false, List.drop_zero, hg]
theorem numL_hex {s : ByteArray} {k j n : Nat} (hx : hexB (rest s k) = true) (hj : k + 2 ≤ j) (hg : numGo 16 (rest s (k + 2)) 0 = some (n, j - (k + 2))) :
    numL (rest s k) = if nsB (clsAt s j) = true then none else some (n, j - k) := by
  unfold numL
  simp only [hx, if_true, rest_drop, hg]
  rw [clsAt_rest, show k + (2 + (j - (k + 2))) = j by omega, show 2 + (j - (k + 2)) = j - k by omega]
  simp
theorem numL_hex_none {s : ByteArray} {k : Nat} (hx : hexB (rest s k) = true) (hg : numGo 16 (rest s (k + 2)) 0 = none) : numL (rest s k) = none := by
  unfold numL
  simp only [hx, if_true, rest_drop, hg]

set_option maxHeartbeats 2000000 in
set_option maxRecDepth 10000 in
theorem readNumber_dec (s : ByteArray) (k : Nat) (w : World) (hs : s.size ≤ 65536) (hC : Cl w) (hk : k < s.size) (hx : hexB (rest s k) = false) :
    Calls Tryz.prog 58 #[.string s, .int .i64 k] w fun e w' => e = .returned (numVal k (numL (rest s k))) ∧ w' = w := by
  have P := Tryz.strings_HasPrefix (s.extract k s.size) ⟨#[48, 120]⟩ w
  rw [show Lib.hasPrefix (s.extract k s.size).data.toList (⟨#[48, 120]⟩ : ByteArray).data.toList = [48, 120].isPrefixOf (rest s k) from by rw [Lib.extract_to_end]; rfl] at P
  have D2 := digitAt_any s (k + 2) w hC
  rw [show ((k + 2 : Nat) : Int) = (k : Int) + 2 from rfl] at D2
  have hx' : ([48, 120].isPrefixOf (rest s k) && decide (digL (rest s (k + 2)) < 16)) = false := by rw [← hx, hexB, rest_drop]
  have DG : ∀ j : Nat, Calls Tryz.prog 75 #[.string s, .int .i64 j] w fun e w' => e = .returned (.int .i64 (digL (rest s j))) ∧ w' = w := fun j => digitAt_any s j w hC
  have CL : ∀ j : Nat, Calls Tryz.prog 29 #[.string s, .int .i64 j] w fun e w' => e = .returned (.int .u8 (clsAt s j)) ∧ w' = w := fun j => class_any s j w hC
  have hd2 := digL_le (rest s (k + 2))
  generalize [48, 120].isPrefixOf (rest s k) = pre at P hx'
  have H1 : Hid (hexB (rest s k) = false) := hx
  have H2 : Hid ((rest s k).head? = some s[k]) := by show (rest s k).head? = _; rw [rest_in hk]; rfl
  generalize digL (rest s (k + 2)) = d2 at D2 hx' hd2
  generalize hR : numL (rest s k) = R
  have HR : Hid (numL (rest s k) = R) := hR
  clear hC hx hR
  cases pre
  all_goals
    simp only [Bool.false_and, Bool.true_and, decide_eq_false_iff_not, Nat.not_lt] at hx'
    go_enter Tryz.func58, Tryz.ntmps58
    go_wp2_with (first
      | (go_at_call 30; refine Calls.mono P ?_; rintro e w' ⟨rfl, rfl⟩)
      | (go_at_call 75; refine Calls.mono D2 ?_; rintro e w' ⟨rfl, rfl⟩))
    go_loop [9, 10] (fun v i => ∃ j n : Nat, k ≤ j ∧ j ≤ s.size ∧ n ≤ 4611686018427387903 ∧ v = .int .i64 n ∧ i = .int .i64 j ∧ Hid (numGo 10 (rest s k) 0 = (numGo 10 (rest s j) n).map (fun x => (x.1, x.2 + (j - (k)))))) (fun _ i => s.size - (intOf i).toNat)
    case atStart => exact ⟨k, 0, Nat.le_refl _, by omega, by omega, by go_num, by go_num, by
      show numGo 10 (rest s k) 0 = _
      cases numGo 10 (rest s k) 0 <;> simp⟩
    case round =>
      obtain ⟨j, n, hj1, hj2, hn, rfl, rfl, HN⟩ := hrel
      have DJ := DG j
      have CJ := CL j
      have hdl := digL_le (rest s j)
      clear DG CL P D2
      by_cases hlt : digL (rest s j) < 10
      · have hin := digL_in (b := 10) (by omega) hlt
        by_cases hbig : (4611686018427387903 - digL (rest s j)) / 10 < n
        · have HE : Hid (R = none) := by
            show R = none
            rw [← HR.out]
            refine numL_dec_none H1.out ?_
            rw [HN.out, numGo_big (by omega) hlt hbig]
            rfl
          generalize digL (rest s j) = d at DJ hdl hlt hbig
          have hb' : (4611686018427387903 - (d : Int)) / 10 < (n : Int) := by omega
          clear HN HR hbig
          go_wp2_with (first
          | (go_at_call 75; refine Calls.mono DJ ?_; rintro e w' ⟨rfl, rfl⟩)
          | (go_at_call 29; refine Calls.mono CJ ?_; rintro e w' ⟨rfl, rfl⟩)
          | (go_at_call 56; refine Calls.mono (isNameSign_any _ _) ?_; rintro e w' ⟨rfl, rfl⟩))
          go_ret3
          exact ⟨by rw [HE.out]; rfl, rfl⟩
        · have HS : Hid (numGo 10 (rest s k) 0 = (numGo 10 (rest s (j + 1)) (n * 10 + digL (rest s j))).map (fun x => (x.1, x.2 + (j + 1 - (k))))) := by
            show numGo 10 (rest s k) 0 = _
            rw [HN.out, numGo_step (by omega) hlt hbig, map_map_num _ _ _ hj1]
          generalize digL (rest s j) = d at DJ hdl hlt hbig HS
          have hb' : ¬ (4611686018427387903 - (d : Int)) / 10 < (n : Int) := by omega
          have hnb : n * 10 + d ≤ 4611686018427387903 := by omega
          clear HN hbig
          go_wp2_with (first
          | (go_at_call 75; refine Calls.mono DJ ?_; rintro e w' ⟨rfl, rfl⟩)
          | (go_at_call 29; refine Calls.mono CJ ?_; rintro e w' ⟨rfl, rfl⟩)
          | (go_at_call 56; refine Calls.mono (isNameSign_any _ _) ?_; rintro e w' ⟨rfl, rfl⟩))
          go_round
          case rel => exact ⟨j + 1, n * 10 + d, by omega, by omega, by omega, by go_num, by go_num, HS⟩
          case measure => simp [intOf]; omega
      · have HG : Hid (numGo 10 (rest s k) 0 = some (n, j - (k))) := by
          show numGo 10 (rest s k) 0 = _
          rw [HN.out, numGo_stop (by omega)]
          simp
        have HE : Hid (R = if ((rest s k).head? = some 48 ∧ 1 < j - k) ∨ nsB (clsAt s j) = true then none else some (n, j - k)) := by
          show R = _
          rw [← HR.out]
          exact numL_dec H1.out hj1 HG.out
        have hz : (s[k] = 48) ↔ ((s[k].toNat : Int) = 48) := by
          rw [← UInt8.toNat_inj]
          simp
          omega
        generalize digL (rest s j) = d at DJ hdl hlt
        clear HN HR HG
        by_cases h48 : (s[k].toNat : Int) = 48
        · have h48' : Hid ((rest s k).head? = some 48) := H2.out.trans (by rw [hz.2 h48])
          by_cases hgt : k + 1 < j
          · have HF : Hid (R = none) := HE.out.trans (if_pos (Or.inl ⟨h48'.out, by omega⟩))
            clear HE h48' hz H1 H2
            go_wp2_with (first
          | (go_at_call 75; refine Calls.mono DJ ?_; rintro e w' ⟨rfl, rfl⟩)
          | (go_at_call 29; refine Calls.mono CJ ?_; rintro e w' ⟨rfl, rfl⟩)
          | (go_at_call 56; refine Calls.mono (isNameSign_any _ _) ?_; rintro e w' ⟨rfl, rfl⟩))
            go_ret3
            exact ⟨by rw [HF.out]; rfl, rfl⟩
          · cases hns : nsB (clsAt s j)
            · have HF : Hid (R = some (n, j - k)) := HE.out.trans (if_neg (fun h => h.elim (fun h => by omega) (fun h => by rw [hns] at h; cases h)))
              clear HE h48' hz H1 H2
              go_wp2_with (first
          | (go_at_call 75; refine Calls.mono DJ ?_; rintro e w' ⟨rfl, rfl⟩)
          | (go_at_call 29; refine Calls.mono CJ ?_; rintro e w' ⟨rfl, rfl⟩)
          | (go_at_call 56; refine Calls.mono (isNameSign_any _ _) ?_; rintro e w' ⟨rfl, rfl⟩))
              go_ret3
              exact ⟨by rw [HF.out]; simp [numVal]; omega, rfl⟩
            · have HF : Hid (R = none) := HE.out.trans (if_pos (Or.inr hns))
              clear HE h48' hz H1 H2
              go_wp2_with (first
          | (go_at_call 75; refine Calls.mono DJ ?_; rintro e w' ⟨rfl, rfl⟩)
          | (go_at_call 29; refine Calls.mono CJ ?_; rintro e w' ⟨rfl, rfl⟩)
          | (go_at_call 56; refine Calls.mono (isNameSign_any _ _) ?_; rintro e w' ⟨rfl, rfl⟩))
              go_ret3
              exact ⟨by rw [HF.out]; rfl, rfl⟩
        · have h48' : Hid (¬ (rest s k).head? = some 48) := by
            show ¬ (rest s k).head? = some 48
            rw [H2.out]
            intro h
            exact h48 (hz.1 (Option.some.inj h))
          cases hns : nsB (clsAt s j)
          · have HF : Hid (R = some (n, j - k)) := HE.out.trans (if_neg (fun h => h.elim (fun h => h48'.out h.1) (fun h => by rw [hns] at h; cases h)))
            clear HE h48' hz H1 H2
            go_wp2_with (first
          | (go_at_call 75; refine Calls.mono DJ ?_; rintro e w' ⟨rfl, rfl⟩)
          | (go_at_call 29; refine Calls.mono CJ ?_; rintro e w' ⟨rfl, rfl⟩)
          | (go_at_call 56; refine Calls.mono (isNameSign_any _ _) ?_; rintro e w' ⟨rfl, rfl⟩))
            go_ret3
            exact ⟨by rw [HF.out]; simp [numVal]; omega, rfl⟩
          · have HF : Hid (R = none) := HE.out.trans (if_pos (Or.inr hns))
            clear HE h48' hz H1 H2
            go_wp2_with (first
          | (go_at_call 75; refine Calls.mono DJ ?_; rintro e w' ⟨rfl, rfl⟩)
          | (go_at_call 29; refine Calls.mono CJ ?_; rintro e w' ⟨rfl, rfl⟩)
          | (go_at_call 56; refine Calls.mono (isNameSign_any _ _) ?_; rintro e w' ⟨rfl, rfl⟩))
            go_ret3
            exact ⟨by rw [HF.out]; rfl, rfl⟩

set_option maxHeartbeats 2000000 in
set_option maxRecDepth 10000 in
theorem readNumber_hex (s : ByteArray) (k : Nat) (w : World) (hs : s.size ≤ 65536) (hC : Cl w) (hx : hexB (rest s k) = true) :
    Calls Tryz.prog 58 #[.string s, .int .i64 k] w fun e w' => e = .returned (numVal k (numL (rest s k))) ∧ w' = w := by
  have P := Tryz.strings_HasPrefix (s.extract k s.size) ⟨#[48, 120]⟩ w
  rw [show Lib.hasPrefix (s.extract k s.size).data.toList (⟨#[48, 120]⟩ : ByteArray).data.toList = [48, 120].isPrefixOf (rest s k) from by rw [Lib.extract_to_end]; rfl] at P
  have D2 := digitAt_any s (k + 2) w hC
  rw [show ((k + 2 : Nat) : Int) = (k : Int) + 2 from rfl] at D2
  have hx' : ([48, 120].isPrefixOf (rest s k) && decide (digL (rest s (k + 2)) < 16)) = true := by rw [← hx, hexB, rest_drop]
  have DG : ∀ j : Nat, Calls Tryz.prog 75 #[.string s, .int .i64 j] w fun e w' => e = .returned (.int .i64 (digL (rest s j))) ∧ w' = w := fun j => digitAt_any s j w hC
  have CL : ∀ j : Nat, Calls Tryz.prog 29 #[.string s, .int .i64 j] w fun e w' => e = .returned (.int .u8 (clsAt s j)) ∧ w' = w := fun j => class_any s j w hC
  simp only [Bool.and_eq_true, decide_eq_true_eq] at hx'
  obtain ⟨hx1, hx2⟩ := hx'
  have hk2 := digL_in (b := 16) (by omega) hx2
  rw [hx1] at P
  have H1 : Hid (hexB (rest s k) = true) := hx
  generalize digL (rest s (k + 2)) = d2 at D2 hx2
  generalize hR : numL (rest s k) = R
  have HR : Hid (numL (rest s k) = R) := hR
  clear hC hx hR hx1
  all_goals
    go_enter Tryz.func58, Tryz.ntmps58
    go_wp2_with (first
      | (go_at_call 30; refine Calls.mono P ?_; rintro e w' ⟨rfl, rfl⟩)
      | (go_at_call 75; refine Calls.mono D2 ?_; rintro e w' ⟨rfl, rfl⟩))
    rw [show decide ((d2 : Int) < 16) = true by simp; omega]
    go_loop [9, 10] (fun v i => ∃ j n : Nat, k + 2 ≤ j ∧ j ≤ s.size ∧ n ≤ 4611686018427387903 ∧ v = .int .i64 n ∧ i = .int .i64 j ∧ Hid (numGo 16 (rest s (k + 2)) 0 = (numGo 16 (rest s j) n).map (fun x => (x.1, x.2 + (j - (k + 2)))))) (fun _ i => s.size - (intOf i).toNat)
    case atStart => exact ⟨k + 2, 0, Nat.le_refl _, by omega, by omega, by go_num, by go_num, by
      show numGo 16 (rest s (k + 2)) 0 = _
      cases numGo 16 (rest s (k + 2)) 0 <;> simp⟩
    case round =>
      obtain ⟨j, n, hj1, hj2, hn, rfl, rfl, HN⟩ := hrel
      have DJ := DG j
      have CJ := CL j
      have hdl := digL_le (rest s j)
      clear DG CL P D2
      by_cases hlt : digL (rest s j) < 16
      · have hin := digL_in (b := 16) (by omega) hlt
        by_cases hbig : (4611686018427387903 - digL (rest s j)) / 16 < n
        · have HE : Hid (R = none) := by
            show R = none
            rw [← HR.out]
            refine numL_hex_none H1.out ?_
            rw [HN.out, numGo_big (by omega) hlt hbig]
            rfl
          generalize digL (rest s j) = d at DJ hdl hlt hbig
          have hb' : (4611686018427387903 - (d : Int)) / 16 < (n : Int) := by omega
          clear HN HR hbig
          go_wp2_with (first
          | (go_at_call 75; refine Calls.mono DJ ?_; rintro e w' ⟨rfl, rfl⟩)
          | (go_at_call 29; refine Calls.mono CJ ?_; rintro e w' ⟨rfl, rfl⟩)
          | (go_at_call 56; refine Calls.mono (isNameSign_any _ _) ?_; rintro e w' ⟨rfl, rfl⟩))
          go_ret3
          exact ⟨by rw [HE.out]; rfl, rfl⟩
        · have HS : Hid (numGo 16 (rest s (k + 2)) 0 = (numGo 16 (rest s (j + 1)) (n * 16 + digL (rest s j))).map (fun x => (x.1, x.2 + (j + 1 - (k + 2))))) := by
            show numGo 16 (rest s (k + 2)) 0 = _
            rw [HN.out, numGo_step (by omega) hlt hbig, map_map_num _ _ _ hj1]
          generalize digL (rest s j) = d at DJ hdl hlt hbig HS
          have hb' : ¬ (4611686018427387903 - (d : Int)) / 16 < (n : Int) := by omega
          have hnb : n * 16 + d ≤ 4611686018427387903 := by omega
          clear HN hbig
          go_wp2_with (first
          | (go_at_call 75; refine Calls.mono DJ ?_; rintro e w' ⟨rfl, rfl⟩)
          | (go_at_call 29; refine Calls.mono CJ ?_; rintro e w' ⟨rfl, rfl⟩)
          | (go_at_call 56; refine Calls.mono (isNameSign_any _ _) ?_; rintro e w' ⟨rfl, rfl⟩))
          go_round
          case rel => exact ⟨j + 1, n * 16 + d, by omega, by omega, by omega, by go_num, by go_num, HS⟩
          case measure => simp [intOf]; omega
      · have HG : Hid (numGo 16 (rest s (k + 2)) 0 = some (n, j - (k + 2))) := by
          show numGo 16 (rest s (k + 2)) 0 = _
          rw [HN.out, numGo_stop (by omega)]
          simp
        have HE : Hid (R = if nsB (clsAt s j) = true then none else some (n, j - k)) := by
          show R = _
          rw [← HR.out]
          exact numL_hex H1.out hj1 HG.out
        generalize digL (rest s j) = d at DJ hdl hlt
        clear HN HR HG
        cases hns : nsB (clsAt s j)
        · have HF : Hid (R = some (n, j - k)) := HE.out.trans (if_neg (by rw [hns]; simp))
          clear HE H1
          go_wp2_with (first
          | (go_at_call 75; refine Calls.mono DJ ?_; rintro e w' ⟨rfl, rfl⟩)
          | (go_at_call 29; refine Calls.mono CJ ?_; rintro e w' ⟨rfl, rfl⟩)
          | (go_at_call 56; refine Calls.mono (isNameSign_any _ _) ?_; rintro e w' ⟨rfl, rfl⟩))
          go_ret3
          exact ⟨by rw [HF.out]; simp [numVal]; omega, rfl⟩
        · have HF : Hid (R = none) := HE.out.trans (if_pos hns)
          clear HE H1
          go_wp2_with (first
          | (go_at_call 75; refine Calls.mono DJ ?_; rintro e w' ⟨rfl, rfl⟩)
          | (go_at_call 29; refine Calls.mono CJ ?_; rintro e w' ⟨rfl, rfl⟩)
          | (go_at_call 56; refine Calls.mono (isNameSign_any _ _) ?_; rintro e w' ⟨rfl, rfl⟩))
          go_ret3
          exact ⟨by rw [HF.out]; rfl, rfl⟩

theorem readNumber_any (s : ByteArray) (k : Nat) (w : World) (hs : s.size ≤ 65536) (hC : Cl w) (hk : k < s.size) :
    Calls Tryz.prog 58 #[.string s, .int .i64 k] w fun e w' => e = .returned (numVal k (numL (rest s k))) ∧ w' = w := by
  cases hx : hexB (rest s k)
  · exact readNumber_dec s k w hs hC hk hx
  · exact readNumber_hex s k w hs hC hx
end Go.Proofs.YtkfhdmkdkphmoaaGreatDoor
