/- The table of powers of ten lies in the world wherever the row's listed variables read as listed. -/
import Derived.Test.YtkfhdmkdkphmoaaDoorLaid
import Derived.Test.YtkfhdmkdkphmoaaDoorBw
namespace Go.Proofs.YtkfhdmkdkphmoaaDoor
open Go.RowKit

theorem Tryd.powT : (Tryd.prog.globals[3]?).map (·.type) = some 122 := by kernel_rfl
theorem Tryd.cells109 : Tryd.prog.cellsOf 109 = 1 := by kernel_rfl
theorem Tryd.cells122 : Tryd.prog.cellsOf 122 = 20 := by kernel_rfl
theorem pow_tab : (Rows.laid_internal_strconv_uint64pow10 : DataW Unit) = Lib.tabData .u64 Lib.pow10Tab := by rfl

theorem pt_of_laid {W : World} (h : laidMet Tryd.prog laid4 W) : Pt W := by
  obtain ⟨ps, hv, _⟩ := h
  obtain ⟨_, _, _, _, _, _, _, _, _, _, hv1, _⟩ := hv
  obtain ⟨_, _, _, _, _, _, _, _, _, _, hv2, _⟩ := hv1
  obtain ⟨g, t, cs, fuel, p, q, hg, ht, hvar, hd, _, _⟩ := hv2
  obtain rfl := Option.some.inj (Tryd.powG.symm.trans hg)
  obtain rfl := Option.some.inj (Tryd.powT.symm.trans ht)
  rw [pow_tab] at hd
  have hc := Lib.cells_of_tab Tryd.underlying122 Tryd.underlying109 Tryd.cells109 Tryd.cells122 hd
  show Lib.TabIs _ _ _ _ _
  unfold Lib.TabIs
  rw [hvar, ← hc]
theorem pt_of_laidH {W : World} (h : laidMetH Tryd.prog laid4 W) : Pt W := by
  rw [MakeChecks.laidMetH_plain _ _ _ (by kernel_rfl)] at h
  exact pt_of_laid h
end Go.Proofs.YtkfhdmkdkphmoaaDoor
