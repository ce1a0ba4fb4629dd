/- The contract of isToken, but for numbers: is a token one that Lex could have made? -/
import Derived.Test.YtkfhdmkdkphmoaaGreatDoorKo
import Derived.Deep.QuietTactic
import Derived.BigQuiet
namespace Go.Proofs.YtkfhdmkdkphmoaaGreatDoor
open Go.RowKit

/-- Is it a token (numbers left out)? -/
def isTokB (kd : Int) (s : ByteArray) (nm : Int) : Bool :=
  if kd = 0 then false
  else if kd = 7 then (s.toList == []) && decide (0 ≤ nm) && decide (nm ≤ 255)
  else if kd = 8 then decide (nm = 0)
  else decide (nm = 0) && decide (((kindP s : Nat) : Int) = kd)

set_option maxHeartbeats 2000000 in
set_option maxRecDepth 10000 in
theorem isToken_any (kd nm at' : Int) (s : ByteArray) (w : World) (hk : kd ≠ 6) (hs : s.size ≤ maxLen) (hC : Cl w) (h1 : 1 < w.heap.size) :
    Calls Tryz.prog 14 #[.agg #[.int .i64 kd, .string s, .int .i64 nm, .int .i64 at']] w fun e w' => e = .returned (.bool (isTokB kd s nm)) ∧ Below w.heap.size w w' := by
  have hbo : ∀ o, Below w.heap.size w (w.alloc o) := fun o => (Below.refl _ w).alloc (Nat.le_refl _) o
  by_cases k0 : kd = 0
  · subst k0
    go_enter Tryz.func14, Tryz.ntmps14
    go_wp2
    go_ret
    exact ⟨rfl, hbo _⟩
  by_cases k7 : kd = 7
  · subst k7
    have HE : Hid (isTokB 7 s nm = ((s.toList == []) && decide (0 ≤ nm) && decide (nm ≤ 255))) := by show isTokB 7 s nm = _; simp [isTokB]
    generalize isTokB 7 s nm = r at HE ⊢
    clear hk k0
    cases hsn : s.toList == []
    · go_enter Tryz.func14, Tryz.ntmps14
      go_wp2
      go_ret
      exact ⟨ret_bool (by rw [HE.out, hsn]; rfl), hbo _⟩
    · by_cases hn : 0 ≤ nm
      · go_enter Tryz.func14, Tryz.ntmps14
        go_wp2
        go_ret
        exact ⟨ret_bool (by rw [HE.out, hsn]; simp [hn]), hbo _⟩
      · go_enter Tryz.func14, Tryz.ntmps14
        go_wp2
        go_ret
        exact ⟨ret_bool (by rw [HE.out, hsn]; simp; omega), hbo _⟩
  by_cases k8 : kd = 8
  · subst k8
    have HE : Hid (isTokB 8 s nm = decide (nm = 0)) := by show isTokB 8 s nm = _; simp [isTokB]
    generalize isTokB 8 s nm = r at HE ⊢
    clear hk k0 k7
    go_enter Tryz.func14, Tryz.ntmps14
    go_wp2
    go_ret
    exact ⟨ret_bool (by rw [HE.out, Bool.eq_iff_iff]; simp), hbo _⟩
  · have HE : Hid (isTokB kd s nm = (decide (nm = 0) && decide (((kindP s : Nat) : Int) = kd))) := by show isTokB kd s nm = _; simp [isTokB, k0, k7, k8]
    have KO : ∀ W, Cl W → Calls Tryz.prog 37 #[.string s] W fun e w' => e = .returned (.int .i64 (kindP s)) ∧ w' = W := fun W h => kindOf_any s W hs h
    generalize isTokB kd s nm = r at HE ⊢
    generalize kindP s = ks at HE KO
    have hcn : ∀ o n, Cl ((w.alloc o).drewN n) := fun o n i hi => (by simp : ((w.alloc o).drewN n).cell? ⟨0, i, none⟩ = (w.alloc o).cell? ⟨0, i, none⟩).trans ((hC.below (hbo o) h1) i hi)
    by_cases hn : nm = 0
    · subst hn
      go_enter Tryz.func14, Tryz.ntmps14
      go_wp2
      go_quiet (first | (go_at_call 37; exact Calls.quiet_of_same (KO _ (hcn _ _))))
      go_wp2
      go_ret
      exact ⟨ret_bool (by rw [HE.out, Bool.eq_iff_iff]; simp), below_drewN (hbo _) _⟩
    · have hnd : (nm == 0) = false := by simpa using hn
      go_enter Tryz.func14, Tryz.ntmps14
      go_wp2
      go_quiet (first | (go_at_call 37; exact Calls.quiet_of_same (KO _ (hcn _ _))))
      go_wp2
      go_ret
      exact ⟨ret_bool (by rw [HE.out]; simp [hn]), below_drewN (hbo _) _⟩
end Go.Proofs.YtkfhdmkdkphmoaaGreatDoor
