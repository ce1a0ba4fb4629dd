/- The contract of awake: the head of every statement answers true. -/
import Derived.Test.YtkfhdmkdkphmoaaGreatDoorPr
namespace Go.Proofs.YtkfhdmkdkphmoaaGreatDoor
open Go.RowKit

def awCells : Array Value := (rowCells awToks).toArray
def awCells3 : Array Value := (rowCells awRow).toArray

set_option maxHeartbeats 4000000 in
set_option maxRecDepth 10000 in
theorem awake_any (w : World) (hC : Cl w) (hw : 1 < w.heap.size) :
    Calls Tryz.prog 4 #[] w fun e w' => e = .returned (.bool true) ∧ Below w.heap.size w w' := by
  have LX : Calls Tryz.prog 6 #[.string ⟨#[102, 32, 120, 39, 32, 61, 32, 77, 46, 103, 40, 120, 39, 41]⟩] w fun e w' => (∃ tk, e = .returned (.tuple #[tk, .nilIface]) ∧ w'.ownsRow w.heap.size 39 4 tk 7 (rowCells awToks)) ∧ Below w.heap.size w w' := by
    have := lex_any awText w (by decide) hC hw
    rw [aw_lex] at this
    exact this
  have SM : ∀ W v1 v2, RowAt W v1 awToks → RowAt W v2 awToks → Calls Tryz.prog 8 #[v1, v2] W fun e w' => e = .returned (.bool true) ∧ ∃ n, w' = W.drewN n := fun W v1 v2 h1 h2 => by
    have := same_any v1 v2 awToks awToks W h1 h2 (by decide) (by decide)
    rw [show decide (awToks = awToks) = true by simp] at this
    exact this
  have L7 : ∀ W : World, RowAt (W.alloc (Obj.cells awCells 39)) (.slice (some ⟨W.heap.size, 0, none⟩) 7 7) awToks := fun W =>
    RowAt.of_own (B := 0) (World.ownsRow_lit W awCells 7 (Nat.zero_le _) (by unfold maxLen; omega) rfl)
  have L3 : ∀ (W : World) (N n : Nat), W.heap.size = N → ((W.alloc (Obj.cells awCells3 39)).drewN n).ownsRow 0 39 4 (.slice (some ⟨N, 0, none⟩) 3 3) 3 (rowCells awRow) := fun W N n h => by
    subst h
    exact World.ownsRow_lit W awCells3 3 (Nat.zero_le _) (by unfold maxLen; omega) rfl
  go_enter Tryz.func4, Tryz.ntmps4
  go_wp2_with (first
    | (go_at_call 6; refine Calls.mono LX ?_; rintro e w1 ⟨⟨tk, rfl, hown⟩, hb⟩; obtain ⟨ad, cap, rfl⟩ := own_form hown)
    | (go_at_call 8; refine Calls.mono (SM _ _ _ ?_ ?_) ?_; exact RowAt.of_own (hown.alloc _); exact L7 _; rintro e w2 ⟨rfl, n, rfl⟩))
  have hz := hb.size
  have hB3 : ∀ o o' m, Below w.heap.size w (((w1.alloc o).alloc o').drewN m) := fun o o' m => below_drewN ((hb.alloc hz o).alloc (by simp; omega) o') m
  refine Calls.mono (aw_print _ 0 _ ?_ ?_ ?_) ?_
  · exact hC.below (hB3 _ _ _) hw
  · exact Nat.lt_of_lt_of_le hw (hB3 _ _ _).size
  · exact L3 _ _ 0 (by simp)
  · rintro e w3 ⟨rfl, hb3⟩
    go_wp2
    go_ret
    exact ⟨rfl, (hB3 _ _ _).trans (hb3.mono (by simp; omega))⟩
end Go.Proofs.YtkfhdmkdkphmoaaGreatDoor
