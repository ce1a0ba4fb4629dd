/- Contracts of the kind of a whole text, and of whether a token is one. -/
import Derived.Test.YtkfhdmkdkphmoaaGreatDoorTb
namespace Go.Proofs.YtkfhdmkdkphmoaaGreatDoor
open Go.RowKit

/-- The kind of the token that a whole text spells; 0: none. -/
def kindP (s : ByteArray) : Nat :=
  if clsAt s 0 = 1 then (if nameEndP s 0 = s.size then wordKindP s.toList else 0)
  else if clsAt s 0 = 2 then (if (upperEndP s 0).1 = s.size then (upperEndP s 0).2 else 0)
  else if clsAt s 0 = 8 then (if runEndP s 0 = s.size then runKindP s.toList else 0)
  else if clsAt s 0 = 9 ∨ clsAt s 0 = 5 then (if 1 = s.size then 9 else 0)
  else 0

set_option maxHeartbeats 2000000 in
set_option maxRecDepth 10000 in
theorem kindOf_any (s : ByteArray) (w : World) (hs : s.size ≤ maxLen) (hC : Cl w) :
    Calls Tryz.prog 37 #[.string s] w fun e w' => e = .returned (.int .i64 (kindP s)) ∧ w' = w := by
  have C := class_any s 0 w hC
  have NE := nameEnd_any s 0 w hs (by omega) hC
  have WK := wordKind_any s w
  have UE := upperEnd_any s 0 w hs (by omega) hC
  have RE := runEnd_any s 0 w hs (by omega) hC
  have h9 := clsAt_le s 0
  have hpos : clsAt s 0 ≠ 0 → 0 < s.size := by
    intro h
    by_cases hz : 0 < s.size
    · exact hz
    · rw [clsAt_out hz] at h; exact absurd rfl h
  have ne1 := (endOf_le nsB s 0 (by omega)).2
  have ne2 := (endOf_le (· == 8) s 0 (by omega)).2
  have ne3 := (upperEnd_le s 0 (by omega)).2
  change nameEndP s 0 ≤ s.size at ne1
  change runEndP s 0 ≤ s.size at ne2
  by_cases c1 : clsAt s 0 = 1
  · have HK : Hid (kindP s = if nameEndP s 0 = s.size then wordKindP s.toList else 0) := by show kindP s = _; rw [kindP, if_pos c1]
    rw [c1] at C
    generalize kindP s = r at HK ⊢
    generalize nameEndP s 0 = n at HK NE ne1
    generalize wordKindP s.toList = kd at HK WK
    clear hpos c1 UE RE h9 ne2 ne3 hC
    by_cases h2 : n = s.size
    · subst h2
      go_enter Tryz.func37, Tryz.ntmps37
      go_wp2_with (first | (go_at_call 29; refine Calls.mono C ?_; rintro e w' ⟨rfl, rfl⟩) | (go_at_call 52; refine Calls.mono NE ?_; rintro e w' ⟨rfl, rfl⟩) | (go_at_call 53; refine Calls.mono WK ?_; rintro e w' ⟨rfl, rfl⟩))
      go_ret
      exact ⟨ret_int (by rw [HK.out]; simp), rfl⟩
    · have h2' : (((n : Nat) : Int) != (s.size : Int)) = true := by simp; omega
      go_enter Tryz.func37, Tryz.ntmps37
      go_wp2_with (first | (go_at_call 29; refine Calls.mono C ?_; rintro e w' ⟨rfl, rfl⟩) | (go_at_call 52; refine Calls.mono NE ?_; rintro e w' ⟨rfl, rfl⟩) | (go_at_call 53; refine Calls.mono WK ?_; rintro e w' ⟨rfl, rfl⟩))
      go_ret
      exact ⟨ret_int (by rw [HK.out, if_neg h2]; rfl), rfl⟩
  by_cases c2 : clsAt s 0 = 2
  · have HK : Hid (kindP s = if (upperEndP s 0).1 = s.size then (upperEndP s 0).2 else 0) := by show kindP s = _; rw [kindP, if_neg c1, if_pos c2]
    rw [c2] at C
    generalize kindP s = r at HK ⊢
    generalize (upperEndP s 0).1 = n at HK UE ne3
    generalize (upperEndP s 0).2 = kd at HK UE
    clear hpos c1 c2 NE WK RE h9 ne1 ne2 hC
    by_cases h2 : n = s.size
    · subst h2
      go_enter Tryz.func37, Tryz.ntmps37
      go_wp2_with (first | (go_at_call 29; refine Calls.mono C ?_; rintro e w' ⟨rfl, rfl⟩) | (go_at_call 54; refine Calls.mono UE ?_; rintro e w' ⟨rfl, rfl⟩))
      go_ret
      exact ⟨ret_int (by rw [HK.out]; simp), rfl⟩
    · have h2' : (((n : Nat) : Int) != (s.size : Int)) = true := by simp; omega
      go_enter Tryz.func37, Tryz.ntmps37
      go_wp2_with (first | (go_at_call 29; refine Calls.mono C ?_; rintro e w' ⟨rfl, rfl⟩) | (go_at_call 54; refine Calls.mono UE ?_; rintro e w' ⟨rfl, rfl⟩))
      go_ret
      exact ⟨ret_int (by rw [HK.out, if_neg h2]; rfl), rfl⟩
  by_cases c8 : clsAt s 0 = 8
  · have RK := runKind_any s w hs (hpos (by omega))
    have HK : Hid (kindP s = if runEndP s 0 = s.size then runKindP s.toList else 0) := by show kindP s = _; rw [kindP, if_neg c1, if_neg c2, if_pos c8]
    rw [c8] at C
    generalize kindP s = r at HK ⊢
    generalize runEndP s 0 = n at HK RE ne2
    generalize runKindP s.toList = kd at HK RK
    clear hpos c1 c2 c8 NE WK UE h9 ne1 ne3 hC
    by_cases h2 : n = s.size
    · subst h2
      go_enter Tryz.func37, Tryz.ntmps37
      go_wp2_with (first | (go_at_call 29; refine Calls.mono C ?_; rintro e w' ⟨rfl, rfl⟩) | (go_at_call 32; refine Calls.mono RE ?_; rintro e w' ⟨rfl, rfl⟩) | (go_at_call 55; refine Calls.mono RK ?_; rintro e w' ⟨rfl, rfl⟩))
      go_ret
      exact ⟨ret_int (by rw [HK.out]; simp), rfl⟩
    · have h2' : (((n : Nat) : Int) != (s.size : Int)) = true := by simp; omega
      go_enter Tryz.func37, Tryz.ntmps37
      go_wp2_with (first | (go_at_call 29; refine Calls.mono C ?_; rintro e w' ⟨rfl, rfl⟩) | (go_at_call 32; refine Calls.mono RE ?_; rintro e w' ⟨rfl, rfl⟩) | (go_at_call 55; refine Calls.mono RK ?_; rintro e w' ⟨rfl, rfl⟩))
      go_ret
      exact ⟨ret_int (by rw [HK.out, if_neg h2]; rfl), rfl⟩
  have n1 : ¬ ((clsAt s 0 : Nat) : Int) = 1 := by omega
  have n2 : ¬ ((clsAt s 0 : Nat) : Int) = 2 := by omega
  have n8 : ¬ ((clsAt s 0 : Nat) : Int) = 8 := by omega
  by_cases c9 : clsAt s 0 = 9 ∨ clsAt s 0 = 5
  · have hp := hpos (by omega)
    have HK : Hid (kindP s = if 1 = s.size then 9 else 0) := by show kindP s = _; rw [kindP, if_neg c1, if_neg c2, if_neg c8, if_pos c9]
    generalize kindP s = r at HK ⊢
    clear hpos c1 c2 c8 NE WK UE RE h9 ne1 ne2 ne3 hC n1 n2 n8
    rcases c9 with c9 | c9
    all_goals
      rw [c9] at C
      clear c9
      by_cases h2 : 1 = s.size
      · have h2' : (s.size : Int) = 1 := by omega
        go_enter Tryz.func37, Tryz.ntmps37
        go_wp2_with (first | (go_at_call 29; refine Calls.mono C ?_; rintro e w' ⟨rfl, rfl⟩))
        go_ret
        exact ⟨ret_int (by rw [HK.out, if_pos h2]; rfl), rfl⟩
      · have h2' : ((1 : Int) != (s.size : Int)) = true := by simp; omega
        go_enter Tryz.func37, Tryz.ntmps37
        go_wp2_with (first | (go_at_call 29; refine Calls.mono C ?_; rintro e w' ⟨rfl, rfl⟩))
        go_ret
        exact ⟨ret_int (by rw [HK.out, if_neg h2]; rfl), rfl⟩
  · have HK : Hid (kindP s = 0) := by show kindP s = _; rw [kindP, if_neg c1, if_neg c2, if_neg c8, if_neg c9]
    have n9 : ¬ ((clsAt s 0 : Nat) : Int) = 9 := by omega
    have n5 : ¬ ((clsAt s 0 : Nat) : Int) = 5 := by omega
    generalize kindP s = r at HK ⊢
    generalize clsAt s 0 = c at C n1 n2 n8 n9 n5
    clear hpos NE WK UE RE ne1 ne2 ne3 hC
    by_cases h2 : 0 = s.size
    · have h2' : (s.size : Int) = 0 := by omega
      go_enter Tryz.func37, Tryz.ntmps37
      go_wp2_with (first | (go_at_call 29; refine Calls.mono C ?_; rintro e w' ⟨rfl, rfl⟩))
      go_ret
      exact ⟨ret_int (by rw [HK.out]; rfl), rfl⟩
    · have h2' : ((0 : Int) != (s.size : Int)) = true := by simp; omega
      go_enter Tryz.func37, Tryz.ntmps37
      go_wp2_with (first | (go_at_call 29; refine Calls.mono C ?_; rintro e w' ⟨rfl, rfl⟩))
      go_ret
      exact ⟨ret_int (by rw [HK.out]; rfl), rfl⟩
end Go.Proofs.YtkfhdmkdkphmoaaGreatDoor
