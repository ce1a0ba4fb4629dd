/- Contracts of digits and of what stands between quotes. -/
import Derived.Test.YtkfhdmkdkphmoaaGreatDoorW3
import Derived.Test.YtkfhdmkdkphmoaaGreatDoorPlain
namespace Go.Proofs.YtkfhdmkdkphmoaaGreatDoor
open Go.RowKit

set_option maxHeartbeats 1000000 in
theorem digitAt_any (s : ByteArray) (k : Nat) (w : World) (hC : Cl w) :
    Calls Tryz.prog 75 #[.string s, .int .i64 k] w fun e w' => e = .returned (.int .i64 (digL (rest s k))) ∧ w' = w := by
  have C := class_any s k w hC
  clear hC
  by_cases h : k < s.size
  · rw [rest_in h]
    rw [clsAt_in h] at C
    have hd : digL (s[k] :: rest s (k + 1)) = digOf s[k].toNat := rfl
    rw [hd]
    have hlt : s[k].toNat < 256 := s[k].toNat_lt
    by_cases h3 : cls s[k].toNat = 3
    · have hv := cls3 h3
      have e : digOf s[k].toNat = s[k].toNat - 48 := by simp [digOf, h3]
      rw [e]
      rw [h3] at C
      have HV : Hid (48 ≤ s[k].toNat ∧ s[k].toNat ≤ 57) := hv
      have hv1 : (48 : Int) ≤ (s[k].toNat : Int) := by omega
      have hv2 : (s[k].toNat : Int) ≤ 57 := by omega
      clear hd e h3 hv
      go_enter Tryz.func75, Tryz.ntmps75
      go_wp2_with (go_at_call 29; refine Calls.mono C ?_; rintro e w' ⟨rfl, rfl⟩)
      go_ret
      exact ⟨ret_int (by have := HV.out; omega), rfl⟩
    · by_cases h1 : cls s[k].toNat = 1
      · rw [h1] at C
        by_cases h2 : s[k].toNat ≤ 102
        · have hv := cls1 h1
          have e : digOf s[k].toNat = s[k].toNat - 97 + 10 := by simp [digOf, h1, h2]
          rw [e]
          have HV : Hid (97 ≤ s[k].toNat ∧ s[k].toNat ≤ 102) := ⟨hv.1, h2⟩
          have hv1 : (97 : Int) ≤ (s[k].toNat : Int) := by omega
          have hv2 : (s[k].toNat : Int) ≤ 102 := by omega
          clear hd e h3 hv h1
          go_enter Tryz.func75, Tryz.ntmps75
          go_wp2_with (go_at_call 29; refine Calls.mono C ?_; rintro e w' ⟨rfl, rfl⟩)
          go_ret
          exact ⟨ret_int (by have := HV.out; simp; omega), rfl⟩
        · have e : digOf s[k].toNat = 16 := by simp [digOf, h1, h2]
          rw [e]
          have hv2 : (102 : Int) < (s[k].toNat : Int) := by omega
          clear hd e h3 h1
          go_enter Tryz.func75, Tryz.ntmps75
          go_wp2_with (go_at_call 29; refine Calls.mono C ?_; rintro e w' ⟨rfl, rfl⟩)
          go_ret
          exact ⟨rfl, rfl⟩
      · have e : digOf s[k].toNat = 16 := by simp [digOf, h1, h3]
        rw [e]
        have h3' : ¬ ((cls s[k].toNat : Nat) : Int) = 3 := by omega
        have h1' : ¬ ((cls s[k].toNat : Nat) : Int) = 1 := by omega
        clear hd e h3 h1
        go_enter Tryz.func75, Tryz.ntmps75
        go_wp2_with (go_at_call 29; refine Calls.mono C ?_; rintro e w' ⟨rfl, rfl⟩)
        go_ret
        exact ⟨rfl, rfl⟩
  · rw [rest_out h]
    rw [clsAt_out h] at C
    go_enter Tryz.func75, Tryz.ntmps75
    go_wp2_with (go_at_call 29; refine Calls.mono C ?_; rintro e w' ⟨rfl, rfl⟩)
    go_ret
    exact ⟨rfl, rfl⟩

theorem isPlain_any (c : Nat) (w : World) :
    Calls Tryz.prog 86 #[.int .u8 c] w fun e w' => e = .returned (.bool (plainB c)) ∧ w' = w := by
  by_cases h1 : 32 ≤ c
  · have e : plainB c = decide (c ≤ 126) := by simp [plainB, h1]
    rw [e]
    go_enter Tryz.func86, Tryz.ntmps86
    go_wp2
    go_ret
    exact ⟨ret_bool (by rw [decide_eq_decide]; omega), rfl⟩
  · have e : plainB c = false := by simp [plainB, h1]
    rw [e]
    go_enter Tryz.func86, Tryz.ntmps86
    go_wp2
    go_ret
    exact ⟨rfl, rfl⟩

/-- What a reader of one byte answers: the byte, the place behind it, and whether there is one. -/
def Said (k : Nat) (o : Option (Nat × Nat)) (e : Ending) : Prop :=
  ∃ x y : Int, e = .returned (.tuple #[.int .u8 x, .int .i64 y, .bool o.isSome]) ∧ ∀ b n, o = some (b, n) → x = b ∧ y = k + n

theorem said_none {k : Nat} {o : Option (Nat × Nat)} (h : o = none) (x y : Int) : Said k o (.returned (.tuple #[.int .u8 x, .int .i64 y, .bool false])) :=
  ⟨x, y, by rw [h]; rfl, by rw [h]; intro _ _ h; cases h⟩
theorem said_some {k : Nat} {o : Option (Nat × Nat)} {x y : Int} {b n : Nat} (h : o = some (b, n)) (hx : x = b) (hy : y = k + n) : Said k o (.returned (.tuple #[.int .u8 x, .int .i64 y, .bool true])) := by
  refine ⟨x, y, by rw [h]; rfl, ?_⟩
  rw [h]
  rintro b' n' h'
  cases h'
  exact ⟨hx, hy⟩

theorem said_dec {k : Nat} {o : Option (Nat × Nat)} {z : Int} (V : Nat) (h : o = if V ≤ 255 then some (V, 3) else none) (hz : z = V) :
    Said k o (.returned (.tuple #[.int .u8 (z % 256), .int .i64 (k + 3), .bool (decide (z ≤ 255))])) := by
  by_cases hv : V ≤ 255
  · rw [if_pos hv] at h
    rw [show decide (z ≤ 255) = true by simp; omega]
    exact said_some h (by omega) rfl
  · rw [if_neg hv] at h
    rw [show decide (z ≤ 255) = false by simp; omega]
    exact said_none h _ _

theorem u8eq {c : UInt8} {n : Nat} (h : c.toNat = n) : c = n.toUInt8 := by
  apply UInt8.toNat_inj.1
  rw [h]
  have := c.toNat_lt
  simp
  omega

set_option maxHeartbeats 2000000 in
theorem escaped_any (s : ByteArray) (k : Nat) (w : World) (hs : s.size ≤ 65536) (hC : Cl w) (hk : k ≤ s.size) :
    Calls Tryz.prog 85 #[.string s, .int .i64 k] w fun e w' => Said k (escL (rest s k)) e ∧ w' = w := by
  by_cases h : k < s.size
  · rw [rest_in h]
    have hlt : s[k].toNat < 256 := s[k].toNat_lt
    by_cases h110 : s[k].toNat = 110
    · have E : Hid (escL (s[k] :: rest s (k + 1)) = some (10, 1)) := by
        rw [u8eq h110]; rfl
      have hv : (s[k].toNat : Int) = 110 := by omega
      clear hC h110
      generalize escL (s[k] :: rest s (k + 1)) = o at E
      go_enter Tryz.func85, Tryz.ntmps85
      go_wp2
      go_ret3
      exact ⟨said_some E.out rfl rfl, rfl⟩
    · by_cases h116 : s[k].toNat = 116
      · have E : Hid (escL (s[k] :: rest s (k + 1)) = some (9, 1)) := by
          rw [u8eq h116]; rfl
        have hv : (s[k].toNat : Int) = 116 := by omega
        clear hC h116 h110
        generalize escL (s[k] :: rest s (k + 1)) = o at E
        go_enter Tryz.func85, Tryz.ntmps85
        go_wp2
        go_ret3
        exact ⟨said_some E.out rfl rfl, rfl⟩
      · by_cases hq : s[k].toNat = 92 ∨ s[k].toNat = 39 ∨ s[k].toNat = 34
        · have E : Hid (escL (s[k] :: rest s (k + 1)) = some (s[k].toNat, 1)) := by
            rcases hq with h | h | h <;> (rw [u8eq h]; rfl)
          generalize escL (s[k] :: rest s (k + 1)) = o at E
          have hv1 : ¬ (s[k].toNat : Int) = 110 := by omega
          have hv2 : ¬ (s[k].toNat : Int) = 116 := by omega
          clear hC h116 h110
          rcases hq with hq | hq | hq
          · have hv : (s[k].toNat : Int) = 92 := by omega
            have E2 : Hid (o = some (92, 1)) := by rw [hq] at E; exact E
            clear hq E hv1 hv2
            go_enter Tryz.func85, Tryz.ntmps85
            go_wp2
            go_ret3
            exact ⟨said_some E2.out rfl rfl, rfl⟩
          · have hv : (s[k].toNat : Int) = 39 := by omega
            have E2 : Hid (o = some (39, 1)) := by rw [hq] at E; exact E
            clear hq E hv1 hv2
            go_enter Tryz.func85, Tryz.ntmps85
            go_wp2
            go_ret3
            exact ⟨said_some E2.out rfl rfl, rfl⟩
          · have hv : (s[k].toNat : Int) = 34 := by omega
            have E2 : Hid (o = some (34, 1)) := by rw [hq] at E; exact E
            clear hq E hv1 hv2
            go_enter Tryz.func85, Tryz.ntmps85
            go_wp2
            go_ret3
            exact ⟨said_some E2.out rfl rfl, rfl⟩
        · have hne : ∀ n : UInt8, s[k] = n → s[k].toNat = n.toNat := fun n h => by rw [h]
          have q1 : ¬ s[k] = 110 := fun h => h110 (hne _ h)
          have q2 : ¬ s[k] = 116 := fun h => h116 (hne _ h)
          have q3 : ¬ (s[k] = 92 ∨ s[k] = 39 ∨ s[k] = 34) := by
            rintro (h | h | h)
            · exact hq (Or.inl (hne _ h))
            · exact hq (Or.inr (Or.inl (hne _ h)))
            · exact hq (Or.inr (Or.inr (hne _ h)))
          have hv1 : ¬ (s[k].toNat : Int) = 110 := by omega
          have hv2 : ¬ (s[k].toNat : Int) = 116 := by omega
          have hv3 : ¬ (s[k].toNat : Int) = 92 := by omega
          have hv4 : ¬ (s[k].toNat : Int) = 39 := by omega
          have hv5 : ¬ (s[k].toNat : Int) = 34 := by omega
          have CC : ∀ (i : Int) (j : Nat), i = j → Calls Tryz.prog 29 #[.string s, .int .i64 i] w fun e w' => e = .returned (.int .u8 (clsAt s j)) ∧ w' = w := fun i j h => by subst h; exact class_any s j w hC
          have E : Hid (escL (s[k] :: rest s (k + 1)) = esc3 (rest s k)) := by
            show escL (s[k] :: rest s (k + 1)) = _
            rw [escL, if_neg q1, if_neg q2, if_neg q3, rest_in h]
          generalize escL (s[k] :: rest s (k + 1)) = o at E
          clear hC h116 h110 hne q1 q2 q3 hq
          have e0 := clsAt_rest s k
          have e1 : clsAt s (k + 1) = clsHd ((rest s k).drop 1) := by rw [rest_drop]; exact clsAt_rest s (k + 1)
          have e2 : clsAt s (k + 2) = clsHd ((rest s k).drop 2) := by rw [rest_drop]; exact clsAt_rest s (k + 2)
          by_cases d0 : clsAt s k = 3
          · by_cases d1 : clsAt s (k + 1) = 3
            · by_cases d2 : clsAt s (k + 2) = 3
              · have l2 : k + 2 < s.size := by
                  by_cases hh : k + 2 < s.size
                  · exact hh
                  · rw [clsAt_out hh] at d2; cases d2
                have b0 := cls3 ((clsAt_in h).symm.trans d0)
                have b1 := cls3 ((clsAt_in (by omega : k + 1 < s.size)).symm.trans d1)
                have b2 := cls3 ((clsAt_in l2).symm.trans d2)
                have V : Hid (val3 (rest s k) = 100 * (s[k].toNat - 48) + 10 * (s[k + 1].toNat - 48) + (s[k + 2].toNat - 48)) := by
                  show val3 (rest s k) = _
                  unfold val3
                  rw [rest_drop, rest_drop, rest_in h, rest_in (by omega : k + 1 < s.size), rest_in l2]
                  rfl
                have E3 : Hid (o = if val3 (rest s k) ≤ 255 then some (val3 (rest s k), 3) else none) := by
                  show o = _
                  rw [E.out, esc3]
                  by_cases hv : val3 (rest s k) ≤ 255
                  · rw [if_pos ⟨e0.symm.trans d0, e1.symm.trans d1, e2.symm.trans d2, hv⟩, if_pos hv]
                  · rw [if_neg (fun h => hv h.2.2.2), if_neg hv]
                clear e0 e1 e2 E hv1 hv2 hv3 hv4 hv5
                have HB : Hid ((48 ≤ s[k].toNat ∧ s[k].toNat ≤ 57) ∧ (48 ≤ s[k + 1].toNat ∧ s[k + 1].toNat ≤ 57) ∧ (48 ≤ s[k + 2].toNat ∧ s[k + 2].toNat ≤ 57)) := ⟨b0, b1, b2⟩
                have i0 : (48 : Int) ≤ (s[k].toNat : Int) := by omega
                have i1 : (48 : Int) ≤ (s[k + 1].toNat : Int) := by omega
                have i2 : (48 : Int) ≤ (s[k + 2].toNat : Int) := by omega
                have j0 : (s[k].toNat : Int) ≤ 57 := by omega
                have j1 : (s[k + 1].toNat : Int) ≤ 57 := by omega
                have j2 : (s[k + 2].toNat : Int) ≤ 57 := by omega
                clear b0 b1 b2
                go_enter Tryz.func85, Tryz.ntmps85
                go_wp2_with fail
                refine wp_loop_rounds 4 ?_
                rw [rounds_succ]
                go_wp2_with (first
                              | (go_at_call 29; refine Calls.mono (CC _ k (by omega)) ?_; rintro e w' ⟨rfl, rfl⟩)
                              | (go_at_call 29; refine Calls.mono (CC _ (k + 1) (by omega)) ?_; rintro e w' ⟨rfl, rfl⟩)
                              | (go_at_call 29; refine Calls.mono (CC _ (k + 2) (by omega)) ?_; rintro e w' ⟨rfl, rfl⟩))
                rw [rounds_succ]
                go_wp2_with (first
                              | (go_at_call 29; refine Calls.mono (CC _ k (by omega)) ?_; rintro e w' ⟨rfl, rfl⟩)
                              | (go_at_call 29; refine Calls.mono (CC _ (k + 1) (by omega)) ?_; rintro e w' ⟨rfl, rfl⟩)
                              | (go_at_call 29; refine Calls.mono (CC _ (k + 2) (by omega)) ?_; rintro e w' ⟨rfl, rfl⟩))
                rw [rounds_succ]
                go_wp2_with (first
                              | (go_at_call 29; refine Calls.mono (CC _ k (by omega)) ?_; rintro e w' ⟨rfl, rfl⟩)
                              | (go_at_call 29; refine Calls.mono (CC _ (k + 1) (by omega)) ?_; rintro e w' ⟨rfl, rfl⟩)
                              | (go_at_call 29; refine Calls.mono (CC _ (k + 2) (by omega)) ?_; rintro e w' ⟨rfl, rfl⟩))
                rw [rounds_succ]
                go_wp2_with (first
                              | (go_at_call 29; refine Calls.mono (CC _ k (by omega)) ?_; rintro e w' ⟨rfl, rfl⟩)
                              | (go_at_call 29; refine Calls.mono (CC _ (k + 1) (by omega)) ?_; rintro e w' ⟨rfl, rfl⟩)
                              | (go_at_call 29; refine Calls.mono (CC _ (k + 2) (by omega)) ?_; rintro e w' ⟨rfl, rfl⟩))
                go_ret3
                exact ⟨said_dec _ E3.out (by have := HB.out; rw [V.out]; omega), rfl⟩
              · have E3 : Hid (o = none) := by
                  show o = _
                  rw [E.out, esc3, if_neg (fun h => d2 (e2.trans h.2.2.1))]
                have hd' : ¬ ((clsAt s (k + 2) : Nat) : Int) = 3 := by omega
                have b0 := cls3 ((clsAt_in h).symm.trans d0)
                have l1 : k + 1 < s.size := by
                  by_cases hh : k + 1 < s.size
                  · exact hh
                  · rw [clsAt_out hh] at d1; cases d1
                have b1 := cls3 ((clsAt_in l1).symm.trans d1)
                obtain ⟨b10, b11⟩ := b1
                obtain ⟨b00, b01⟩ := b0
                clear e0 e1 e2 E d2
                go_enter Tryz.func85, Tryz.ntmps85
                go_wp2_with fail
                refine wp_loop_rounds 3 ?_
                rw [rounds_succ]
                go_wp2_with (first
                              | (go_at_call 29; refine Calls.mono (CC _ k (by omega)) ?_; rintro e w' ⟨rfl, rfl⟩)
                              | (go_at_call 29; refine Calls.mono (CC _ (k + 1) (by omega)) ?_; rintro e w' ⟨rfl, rfl⟩)
                              | (go_at_call 29; refine Calls.mono (CC _ (k + 2) (by omega)) ?_; rintro e w' ⟨rfl, rfl⟩))
                rw [rounds_succ]
                go_wp2_with (first
                              | (go_at_call 29; refine Calls.mono (CC _ k (by omega)) ?_; rintro e w' ⟨rfl, rfl⟩)
                              | (go_at_call 29; refine Calls.mono (CC _ (k + 1) (by omega)) ?_; rintro e w' ⟨rfl, rfl⟩)
                              | (go_at_call 29; refine Calls.mono (CC _ (k + 2) (by omega)) ?_; rintro e w' ⟨rfl, rfl⟩))
                rw [rounds_succ]
                go_wp2_with (first
                              | (go_at_call 29; refine Calls.mono (CC _ k (by omega)) ?_; rintro e w' ⟨rfl, rfl⟩)
                              | (go_at_call 29; refine Calls.mono (CC _ (k + 1) (by omega)) ?_; rintro e w' ⟨rfl, rfl⟩)
                              | (go_at_call 29; refine Calls.mono (CC _ (k + 2) (by omega)) ?_; rintro e w' ⟨rfl, rfl⟩))
                go_ret3
                exact ⟨said_none E3.out _ _, rfl⟩
            · have E3 : Hid (o = none) := by
                show o = _
                rw [E.out, esc3, if_neg (fun h => d1 (e1.trans h.2.1))]
              have hd' : ¬ ((clsAt s (k + 1) : Nat) : Int) = 3 := by omega
              have b0 := cls3 ((clsAt_in h).symm.trans d0)
              obtain ⟨b00, b01⟩ := b0
              clear e0 e1 e2 E d1
              go_enter Tryz.func85, Tryz.ntmps85
              go_wp2_with fail
              refine wp_loop_rounds 2 ?_
              rw [rounds_succ]
              go_wp2_with (first
                            | (go_at_call 29; refine Calls.mono (CC _ k (by omega)) ?_; rintro e w' ⟨rfl, rfl⟩)
                            | (go_at_call 29; refine Calls.mono (CC _ (k + 1) (by omega)) ?_; rintro e w' ⟨rfl, rfl⟩)
                            | (go_at_call 29; refine Calls.mono (CC _ (k + 2) (by omega)) ?_; rintro e w' ⟨rfl, rfl⟩))
              rw [rounds_succ]
              go_wp2_with (first
                            | (go_at_call 29; refine Calls.mono (CC _ k (by omega)) ?_; rintro e w' ⟨rfl, rfl⟩)
                            | (go_at_call 29; refine Calls.mono (CC _ (k + 1) (by omega)) ?_; rintro e w' ⟨rfl, rfl⟩)
                            | (go_at_call 29; refine Calls.mono (CC _ (k + 2) (by omega)) ?_; rintro e w' ⟨rfl, rfl⟩))
              go_ret3
              exact ⟨said_none E3.out _ _, rfl⟩
          · have E3 : Hid (o = none) := by
              show o = _
              rw [E.out, esc3, if_neg (fun h => d0 (e0.trans h.1))]
            have hd' : ¬ ((clsAt s k : Nat) : Int) = 3 := by omega
            clear e0 e1 e2 E d0
            go_enter Tryz.func85, Tryz.ntmps85
            go_wp2_with fail
            refine wp_loop_rounds 1 ?_
            rw [rounds_succ]
            go_wp2_with (first
                          | (go_at_call 29; refine Calls.mono (CC _ k (by omega)) ?_; rintro e w' ⟨rfl, rfl⟩)
                          | (go_at_call 29; refine Calls.mono (CC _ (k + 1) (by omega)) ?_; rintro e w' ⟨rfl, rfl⟩)
                          | (go_at_call 29; refine Calls.mono (CC _ (k + 2) (by omega)) ?_; rintro e w' ⟨rfl, rfl⟩))
            go_ret3
            exact ⟨said_none E3.out _ _, rfl⟩
  · rw [rest_out h]
    go_enter Tryz.func85, Tryz.ntmps85
    go_wp2
    go_ret3
    exact ⟨said_none rfl _ _, rfl⟩

set_option maxHeartbeats 1000000 in
theorem quoted_any (s : ByteArray) (k a : Nat) (w : World) (hs : s.size ≤ 65536) (hC : Cl w) (hk : k ≤ s.size) :
    Calls Tryz.prog 76 #[.string s, .int .i64 k, .int .u8 a] w fun e w' => Said k (quotedL a (rest s k)) e ∧ w' = w := by
  by_cases h : k < s.size
  · rw [rest_in h]
    have hlt : s[k].toNat < 256 := s[k].toNat_lt
    by_cases h92 : s[k].toNat = 92
    · have E : Hid (quotedL a (s[k] :: rest s (k + 1)) = (escL (rest s (k + 1))).map (fun x => (x.1, x.2 + 1))) := by
        show quotedL a (s[k] :: rest s (k + 1)) = _
        rw [quotedL, if_pos (show s[k] = 92 from u8eq h92)]
      have ESC := escaped_any s (k + 1) w hs hC (by omega)
      rw [show ((k + 1 : Nat) : Int) = (k : Int) + 1 from rfl] at ESC
      have hv : (s[k].toNat : Int) = 92 := by omega
      clear hC h92
      generalize quotedL a (s[k] :: rest s (k + 1)) = o at E
      generalize escL (rest s (k + 1)) = o' at E ESC
      go_enter Tryz.func76, Tryz.ntmps76
      go_wp2_with (go_at_call 85; refine Calls.mono ESC ?_; rintro e w' ⟨⟨x, y, rfl, hxy⟩, rfl⟩)
      go_ret3
      refine ⟨⟨x, y, ?_, ?_⟩, rfl⟩
      · rw [E.out]; cases o' <;> rfl
      · rw [E.out]
        intro b n hbn
        simp only [Option.map_eq_some_iff, Prod.exists] at hbn
        obtain ⟨b', n', h1, h2⟩ := hbn
        have := hxy b' n' h1
        simp at h2
        omega
    · have q : ¬ s[k] = 92 := fun h => h92 (by rw [h]; rfl)
      have E : Hid (quotedL a (s[k] :: rest s (k + 1)) = if plainB s[k].toNat = true ∧ s[k].toNat ≠ a then some (s[k].toNat, 1) else none) := by
        show quotedL a (s[k] :: rest s (k + 1)) = _
        rw [quotedL, if_neg q]
      have hv : ¬ (s[k].toNat : Int) = 92 := by omega
      have PL := isPlain_any s[k].toNat w
      generalize quotedL a (s[k] :: rest s (k + 1)) = o at E
      clear hC h92 q
      cases hp : plainB s[k].toNat
      · rw [hp] at PL
        have E2 : Hid (o = none) := E.out.trans (by rw [hp]; simp)
        clear E hp
        go_enter Tryz.func76, Tryz.ntmps76
        go_wp2_with (go_at_call 86; refine Calls.mono PL ?_; rintro e w' ⟨rfl, rfl⟩)
        go_ret3
        exact ⟨said_none E2.out _ _, rfl⟩
      · rw [hp] at PL
        by_cases ha : s[k].toNat = a
        · have E2 : Hid (o = none) := E.out.trans (by simp [ha])
          have hb : (((s[k].toNat : Nat) : Int) != (a : Int)) = false := by simp; omega
          clear E hp ha
          go_enter Tryz.func76, Tryz.ntmps76
          go_wp2_with (go_at_call 86; refine Calls.mono PL ?_; rintro e w' ⟨rfl, rfl⟩)
          go_ret3
          exact ⟨said_none E2.out _ _, rfl⟩
        · have E2 : Hid (o = some (s[k].toNat, 1)) := E.out.trans (by simp [ha, hp])
          have hb : (((s[k].toNat : Nat) : Int) != (a : Int)) = true := by simp; omega
          clear E hp ha
          go_enter Tryz.func76, Tryz.ntmps76
          go_wp2_with (go_at_call 86; refine Calls.mono PL ?_; rintro e w' ⟨rfl, rfl⟩)
          go_ret3
          exact ⟨said_some E2.out rfl rfl, rfl⟩
  · rw [rest_out h]
    go_enter Tryz.func76, Tryz.ntmps76
    go_wp2
    go_ret3
    exact ⟨said_none rfl _ _, rfl⟩
end Go.Proofs.YtkfhdmkdkphmoaaGreatDoor
