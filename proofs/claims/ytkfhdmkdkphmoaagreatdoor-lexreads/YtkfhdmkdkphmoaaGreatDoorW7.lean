/- Contracts of the piece of a text, and of the token that begins at a place. -/
import Derived.Test.YtkfhdmkdkphmoaaGreatDoorW6
import Derived.Deep.RegionHeld3
import Derived.BigQuiet
namespace Go.Proofs.YtkfhdmkdkphmoaaGreatDoor
open Go.RowKit

theorem clone_any (s : ByteArray) (w : World) (h : s.size ≤ 65536) :
    Calls Tryz.prog 74 #[.string s] w fun e w' => e = .returned (.string s) ∧ Below w.heap.size w w' := by
  have C := Tryz.stringslite_Clone s w (by omega)
  go_enter Tryz.func74, Tryz.ntmps74
  go_wp2_with (go_at_call 84; refine Calls.mono C ?_; rintro e w' ⟨rfl, hb⟩)
  go_ret
  exact ⟨rfl, hb⟩

theorem piece_any (s : ByteArray) (cb f a : Nat) (w : World) (hs : s.size ≤ 65536) (h1 : f ≤ a) (h2 : a ≤ s.size) (hcb : cb < w.heap.size)
    (c0 : w.cell? ⟨cb, 0, none⟩ = some (.string s)) (c1 : w.cell? ⟨cb, 1, none⟩ = some (.int .i64 f)) (c2 : w.cell? ⟨cb, 2, none⟩ = some (.int .i64 a)) :
    Calls Tryz.prog 57 #[.pointer (some ⟨cb, 0, none⟩)] w fun e w' => e = .returned (.string (s.extract f a)) ∧ Below w.heap.size w w' := by
  have hsz : (s.extract f a).size ≤ 65536 := by rw [ByteArray.size_extract]; omega
  go_enter Tryz.func57, Tryz.ntmps57
  go_wp2
  go_region_held3 (fun w' => w'.cell? ⟨cb, 0, none⟩ = some (.string s) ∧ w'.cell? ⟨cb, 1, none⟩ = some (.int .i64 f) ∧ w'.cell? ⟨cb, 2, none⟩ = some (.int .i64 a)) (first | go_keep | (refine ⟨?_, ?_, ?_⟩ <;> (rw [hb.cell (by simpa using hcb)]; assumption)))
    (first | (go_at_call 74; refine Calls.mono (clone_any _ _ hsz) ?_; rintro e w' ⟨rfl, hb⟩))
  all_goals go_wp2
  all_goals go_ret
  all_goals exact ⟨rfl, (Below.refl w.heap.size w).drew.trans hb⟩
end Go.Proofs.YtkfhdmkdkphmoaaGreatDoor
