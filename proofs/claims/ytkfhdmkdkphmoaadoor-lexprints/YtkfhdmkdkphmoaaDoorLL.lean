/- The table of classes lies in the world wherever the row's listed variables read as listed. The start that meets the rows' condition on package-level variables: the heap that the program's own laying leaves; and what the condition gives: the table of classes. -/
import Derived.Test.YtkfhdmkdkphmoaaDoorW1
import Derived.Lib.LaidTab
import Derived.ProofKit
import Derived.LaidMore
import Derived.OpenShut
import Derived.Stop.Joined
import Derived.ChangeMaps5
import Derived.SizedLaws
namespace Go.Proofs.YtkfhdmkdkphmoaaDoor
open Go.RowKit

theorem Tryd.classesG : Tryd.prog.globalNamed "sloth/lex.classes" = some 1 := by kernel_rfl
theorem Tryd.classesT : (Tryd.prog.globals[1]?).map (·.type) = some 82 := by kernel_rfl
theorem Tryd.cells5' : Tryd.prog.cellsOf 5 = 1 := by kernel_rfl
theorem Tryd.cells82' : Tryd.prog.cellsOf 82 = 128 := by kernel_rfl

theorem classes_tab : (Rows.laid_sloth_lex_classes : DataW Unit) = Lib.tabData .u8 (clsT.map (fun n : Nat => (n : Int))) := by rfl

theorem cl_of_classes {W : World} {cs : Array Value} {fuel : Nat} {p : List MemPlace} (hvar : W.var? Tryd.prog "sloth/lex.classes" = some cs)
    (hd : DataW.trod (fun _ => ()) Tryd.prog W 0 (fun _ => true) false fuel 82 cs.toList = some (Rows.laid_sloth_lex_classes, p)) : Cl W := by
  rw [classes_tab] at hd
  have hc := Lib.cells_of_tab Tryd.underlying82 Tryd.underlying5 Tryd.cells5' Tryd.cells82' hd
  have ht : Lib.TabIs Tryd.prog W "sloth/lex.classes" .u8 (clsT.map (fun n : Nat => (n : Int))) := by
    unfold Lib.TabIs
    rw [hvar, ← hc]
  intro i hi
  have := ht.cell Tryd.classesG i (by simpa [clsT] using hi)
  rw [this]
  simp [cls, List.getD]
  cases clsT[i]? <;> rfl

theorem cl_of_laid {W : World} (h : laidMet Tryd.prog [("math/bits.deBruijn32tab", Rows.laid_math_bits_deBruijn32tab), ("math/bits.deBruijn64tab", Rows.laid_math_bits_deBruijn64tab), ("internal/strconv.uint64pow10", Rows.laid_internal_strconv_uint64pow10), ("sloth/lex.classes", Rows.laid_sloth_lex_classes)] W) : Cl W := by
  obtain ⟨ps, hv, _⟩ := h
  obtain ⟨_, _, _, _, _, _, _, _, _, _, hv1, _⟩ := hv
  obtain ⟨_, _, _, _, _, _, _, _, _, _, hv2, _⟩ := hv1
  obtain ⟨_, _, _, _, _, _, _, _, _, _, hv3, _⟩ := hv2
  obtain ⟨g, t, cs, fuel, p, q, hg, ht, hvar, hd, _, _⟩ := hv3
  obtain rfl := Option.some.inj (Tryd.classesG.symm.trans hg)
  obtain rfl := Option.some.inj (Tryd.classesT.symm.trans ht)
  exact cl_of_classes hvar hd
end Go.Proofs.YtkfhdmkdkphmoaaDoor

namespace Go.Proofs.YtkfhdmkdkphmoaaDoor
open Go.ChangeShapes Go.WideShapes Go.RowKit

theorem Tryd.own : ownKnob Tryd.prog.godebug = none := by kernel_rfl
abbrev laid4 : List (String × DataW Unit) := [("math/bits.deBruijn32tab", Rows.laid_math_bits_deBruijn32tab), ("math/bits.deBruijn64tab", Rows.laid_math_bits_deBruijn64tab), ("internal/strconv.uint64pow10", Rows.laid_internal_strconv_uint64pow10), ("sloth/lex.classes", Rows.laid_sloth_lex_classes)]

theorem door_met (os : Os) (args : Array Value) : laidMetH Tryd.prog laid4 ((World.doorLaid Tryd.prog 36 os).forCall (fun _ _ => 0) ⟨#[], args, []⟩).memory :=
  laidMetH_of_parts3 (fuel := 8) (laidMet_of_run' 8 (by kernel_rfl) (by kernel_rfl)) (by kernel_rfl) (by kernel_rfl)

theorem cl_of_laidH {W : World} (h : laidMetH Tryd.prog laid4 W) : Cl W := by
  rw [MakeChecks.laidMetH_plain _ _ _ (by kernel_rfl)] at h
  exact cl_of_laid h
theorem cl_lt {W : World} (h : Cl W) : 1 < W.heap.size := World.block_lt_of_cell? W _ (h 0 (by decide))
end Go.Proofs.YtkfhdmkdkphmoaaDoor
