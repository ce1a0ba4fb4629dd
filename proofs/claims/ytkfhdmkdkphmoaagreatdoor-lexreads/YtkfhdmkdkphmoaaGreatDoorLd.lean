/- The table of classes lies in the world wherever the row's listed variables read as listed. -/
import Derived.Test.YtkfhdmkdkphmoaaGreatDoorW1
import Derived.Lib.LaidTab
namespace Go.Proofs.YtkfhdmkdkphmoaaGreatDoor
open Go.RowKit

theorem Tryz.classesG : Tryz.prog.globalNamed "sloth/lex.classes" = some 0 := by kernel_rfl
theorem Tryz.classesT : (Tryz.prog.globals[0]?).map (·.type) = some 69 := by kernel_rfl
theorem Tryz.cells5' : Tryz.prog.cellsOf 5 = 1 := by kernel_rfl
theorem Tryz.cells69' : Tryz.prog.cellsOf 69 = 128 := by kernel_rfl

theorem classes_tab : (Rows.laid_sloth_lex_classes : DataW Unit) = Lib.tabData .u8 (clsT.map (fun n : Nat => (n : Int))) := by rfl

theorem cl_of_classes {W : World} {cs : Array Value} {fuel : Nat} {p : List MemPlace} (hvar : W.var? Tryz.prog "sloth/lex.classes" = some cs)
    (hd : DataW.trod (fun _ => ()) Tryz.prog W 0 (fun _ => true) false fuel 69 cs.toList = some (Rows.laid_sloth_lex_classes, p)) : Cl W := by
  rw [classes_tab] at hd
  have hc := Lib.cells_of_tab Tryz.underlying69 Tryz.underlying5 Tryz.cells5' Tryz.cells69' hd
  have ht : Lib.TabIs Tryz.prog W "sloth/lex.classes" .u8 (clsT.map (fun n : Nat => (n : Int))) := by
    unfold Lib.TabIs
    rw [hvar, ← hc]
  intro i hi
  have := ht.cell Tryz.classesG i (by simpa [clsT] using hi)
  rw [this]
  simp [cls, List.getD]
  cases clsT[i]? <;> rfl

theorem cl_of_laid {W : World} (h : laidMet Tryz.prog [("math/bits.deBruijn32tab", Rows.laid_math_bits_deBruijn32tab), ("math/bits.deBruijn64tab", Rows.laid_math_bits_deBruijn64tab), ("internal/strconv.uint64pow10", Rows.laid_internal_strconv_uint64pow10), ("sloth/lex.classes", Rows.laid_sloth_lex_classes)] W) : Cl W := by
  obtain ⟨ps, hv, _⟩ := h
  obtain ⟨_, _, _, _, _, _, _, _, _, _, hv1, _⟩ := hv
  obtain ⟨_, _, _, _, _, _, _, _, _, _, hv2, _⟩ := hv1
  obtain ⟨_, _, _, _, _, _, _, _, _, _, hv3, _⟩ := hv2
  obtain ⟨g, t, cs, fuel, p, q, hg, ht, hvar, hd, _, _⟩ := hv3
  obtain rfl := Option.some.inj (Tryz.classesG.symm.trans hg)
  obtain rfl := Option.some.inj (Tryz.classesT.symm.trans ht)
  exact cl_of_classes hvar hd
end Go.Proofs.YtkfhdmkdkphmoaaGreatDoor
