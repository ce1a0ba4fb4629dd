/- The start that meets LexJoins' condition on package-level variables, and what it gives: the table of classes, the handle of the type error. -/
import Derived.Test.YtkfhdmkdkphmoaaGreatDoorLaid
import Derived.Test.YtkfhdmkdkphmoaaGreatDoorSe
import Derived.LaidHandle
namespace Go.Proofs.YtkfhdmkdkphmoaaGreatDoor
open Go.ChangeShapes Go.WideShapes Go.RowKit

abbrev laid5 : List (String × DataW Unit) := [("math/bits.deBruijn32tab", Rows.laid_math_bits_deBruijn32tab), ("math/bits.deBruijn64tab", Rows.laid_math_bits_deBruijn64tab), ("internal/strconv.uint64pow10", Rows.laid_internal_strconv_uint64pow10), ("errors.errorType", Rows.laid_errors_errorType), ("sloth/lex.classes", Rows.laid_sloth_lex_classes)]

theorem door_met5 (os : Os) (args : Array Value) : laidMetH Tryz.prog laid5 ((World.doorLaid Tryz.prog 36 os).forCall (fun _ _ => 0) ⟨#[], args, []⟩).memory :=
  laidMetH_of_parts3 (fuel := 8) (laidMet_of_run' 8 (by kernel_rfl) (by kernel_rfl)) (by kernel_rfl) (by kernel_rfl)

theorem Tryz.et : Tryz.prog.globalNamed "errors.errorType" = some 1 := by kernel_rfl
theorem Tryz.rt : (Tryz.prog.cutTypes.find? (·.1 == "internal/reflectlite.rtype")).map (·.2) = some 97 := by kernel_rfl
theorem Tryz.oneRow : ((List.range 161).filter fun t => Tryz.prog.rowNamed t [101, 114, 114, 111, 114]) = [30] := by kernel_rfl
theorem Tryz.tsize : Tryz.prog.types.size = 161 := by kernel_rfl

theorem parts5 {W : World} (h : laidMetH Tryz.prog laid5 W) : laidMet Tryz.prog laid4 W ∧ handlesMet Tryz.prog [("errors.errorType", Rows.laid_errors_errorType)] W := h
theorem cl_of_laid5 {W : World} (h : laidMetH Tryz.prog laid5 W) : Cl W := cl_of_laid (parts5 h).1
theorem et_of_laid5 {W : World} (h : laidMetH Tryz.prog laid5 W) : Et W := by
  obtain ⟨name, u, ty, e1, e2, e3, e4, e5⟩ := (parts5 h).2 _ (List.mem_singleton.2 rfl)
  have en : name = [101, 114, 114, 111, 114] := (Option.some.inj e1).symm
  subst en
  obtain rfl := Option.some.inj (Tryz.rt.symm.trans e2)
  have hm : ty ∈ (List.range 161).filter fun t => Tryz.prog.rowNamed t [101, 114, 114, 111, 114] := List.mem_filter.2 ⟨List.mem_range.2 (by rw [← Tryz.tsize]; exact e3), e4⟩
  rw [Tryz.oneRow] at hm
  obtain rfl := List.mem_singleton.1 hm
  have hh : typeHandle Tryz.prog 30 = .pointer (some ⟨6, 30, none⟩) := by kernel_rfl
  rw [hh] at e5
  have := World.var?_cell Tryz.et e5 0
  show W.cell? ⟨1, 0, none⟩ = _
  simpa using this
end Go.Proofs.YtkfhdmkdkphmoaaGreatDoor
