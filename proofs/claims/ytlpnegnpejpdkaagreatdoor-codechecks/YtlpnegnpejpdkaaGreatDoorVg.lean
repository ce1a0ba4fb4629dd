/- What the listed package-level variables hold, as the walks want it. -/
import Derived.Test.YtlpnegnpejpdkaaGreatDoorVf
import Derived.Test.YtlpnegnpejpdkaaGreatDoorRows
import Derived.Lay
import Derived.MakeChecks
import Derived.LaidHandle
import Derived.Stop.Joined
import Derived.ChangeMaps5
import Derived.Lib.LaidTab
namespace Go.Proofs.YtlpnegnpejpdkaaGreatDoor
open Go.ChangeShapes Go.WideShapes Go.RowKit

set_option maxRecDepth 100000
abbrev laid10 : List (String × DataW Unit) := [("math/bits.deBruijn32tab", Rows.laid_math_bits_deBruijn32tab), ("math/bits.deBruijn64tab", Rows.laid_math_bits_deBruijn64tab), ("internal/strconv.uint64pow10", Rows.laid_internal_strconv_uint64pow10), ("unicode/utf8.acceptRanges", Rows.laid_unicode_utf8_acceptRanges), ("strconv.ErrRange", Rows.laid_strconv_ErrRange), ("strconv.ErrSyntax", Rows.laid_strconv_ErrSyntax), ("sloth/code.firstShapes", Rows.laid_sloth_code_firstShapes), ("sloth/code.rows", Rows.laid_sloth_code_rows), ("sloth/code.operators", Rows.laid_sloth_code_operators), ("unicode/utf8.first", Rows.laid_unicode_utf8_first)]
theorem door_met (os : Os) (args : Array Value) : laidMetH Tryz.prog laid10 ((World.laidAll Tryz.prog os laid10).forCall (fun _ _ => 0) ⟨#[], args, []⟩).memory := by
  rw [MakeChecks.laidMetH_plain _ _ _ (by kernel_rfl)]
  exact laidMet_laidAll _ (by kernel_rfl) (by kernel_rfl)
theorem Tryz.powT : (Tryz.prog.globals[6]?).map (·.type) = some 197 := by kernel_rfl
theorem Tryz.cellsOf91 : Tryz.prog.cellsOf 91 = 1 := by kernel_rfl
theorem Tryz.cellsOf197 : Tryz.prog.cellsOf 197 = 20 := by kernel_rfl
theorem Tryz.cellsOf112 : Tryz.prog.cellsOf 112 = 3 := by kernel_rfl
theorem Tryz.firstG : Tryz.prog.globalNamed "sloth/code.firstShapes" = some 0 := by kernel_rfl
theorem Tryz.rowsG : Tryz.prog.globalNamed "sloth/code.rows" = some 1 := by kernel_rfl
theorem Tryz.opersG : Tryz.prog.globalNamed "sloth/code.operators" = some 2 := by kernel_rfl
theorem Tryz.firstT : (Tryz.prog.globals[0]?).map (·.type) = some 22 := by kernel_rfl
theorem Tryz.rowsT : (Tryz.prog.globals[1]?).map (·.type) = some 113 := by kernel_rfl
theorem Tryz.opersT : (Tryz.prog.globals[2]?).map (·.type) = some 73 := by kernel_rfl
theorem Tryz.synT : (Tryz.prog.globals[4]?).map (·.type) = some 166 := by kernel_rfl
theorem Tryz.rngT : (Tryz.prog.globals[5]?).map (·.type) = some 166 := by kernel_rfl
theorem pow_tab : (Rows.laid_internal_strconv_uint64pow10 : DataW Unit) = Lib.tabData .u64 Lib.pow10Tab := by rfl
/-- An error that is laid is one. -/
theorem iface_of {W : World} {fuel : Nat} {cs : Array Value} {s : String} {d : DataW Unit} {p : List MemPlace} (h : DataW.trod (fun _ => ()) Tryz.prog W 0 (fun _ => true) false fuel 166 cs.toList = some (.iface s d, p)) : ∃ tp pl, cs = #[.iface tp pl] := by
  cases fuel with
  | zero => simp [DataW.trod] at h
  | succ n =>
    unfold DataW.trod at h
    rw [Tryz.underlying166] at h
    have hc : cs = cs.toList.toArray := by simp
    generalize cs.toList = l at h hc
    subst hc
    split at h <;> simp_all
theorem cells_one {cs : Array Value} {v : Value} (h : cs.toList = [v]) : cs[0]? = some v := by
  have : cs.toList[0]? = some v := by rw [h]; rfl
  simpa using this
def shpD (x : Shp) : DataW Unit := .agg [.lit (.string x.1), .lit (.int .i64 x.2)]
def rowD (x : Byt × Nat × Nat) : DataW Unit := .agg [.lit (.string x.1), .lit (.int .i64 (x.2.1 : Nat)), .lit (.int .i64 (x.2.2 : Nat))]
def txtD (x : Byt) : DataW Unit := .lit (.string x)
theorem laid_text1 {W : World} {fuel : Nat} {c : Value} {x : DataW Unit × List MemPlace} {s : Byt} (h : DataW.trod (fun _ => ()) Tryz.prog W 0 (fun _ => true) false fuel 9 [c] = some x) (hx : x.1 = .lit (.string s)) : c = .string ⟨s.toArray⟩ := by
  obtain ⟨b, e1, hy1, _⟩ := DataW.trod_string Tryz.underlying9 h
  have e1 : c = .string b := by simpa using e1
  have e2 : x.1 = .lit (.string b.data.toList) := congrArg Prod.fst hy1
  rw [hx] at e2
  have e3 : s = b.data.toList := by
    injection e2 with q
    injection q
  rw [e1, e3]
theorem laid_int1 {W : World} {fuel : Nat} {c : Value} {x : DataW Unit × List MemPlace} {k : Int} (h : DataW.trod (fun _ => ()) Tryz.prog W 0 (fun _ => true) false fuel 3 [c] = some x) (hx : x.1 = .lit (.int .i64 k)) : c = .int .i64 k := by
  obtain ⟨k', e, _, e2⟩ := open_int1 h
  rw [hx] at e2
  have e3 : k = k' := by
    injection e2 with q
    injection q
  rw [e, e3]
theorem first_of {W : World} {fuel : Nat} {cs : Array Value} {p : List MemPlace} (hv : W.var? Tryz.prog "sloth/code.firstShapes" = some cs) (h : DataW.trod (fun _ => ()) Tryz.prog W 0 (fun _ => true) false fuel 22 cs.toList = some (Rows.laid_sloth_code_firstShapes, p)) : FirstAt W := by
  obtain ⟨ad, cap, e, hr⟩ := laid_row (α := Shp) 2 (fun g o x => g < W.heap.size ∧ ∃ cs, EShp.C W (fun y => y < W.heap.size) cs x ∧ ∀ j, j < 2 → W.cell? ⟨g, o + j, none⟩ = cs[j]?) Tryz.underlying22 Tryz.cellsOf48 (by decide) h shpD sevenP [] rfl (by decide) (fun n cs' x' q hq h1 hx' h3 g o hg hc => by
    obtain ⟨xs, m, hm, hx, hlen, hxl, hf⟩ := DataW.trod_struct Tryz.underlying48 h1
    obtain ⟨c0, c1, rfl⟩ := inl2 h3
    obtain ⟨y0, y1, rfl⟩ := inl2 (show xs.length = 2 from hxl)
    have g0 : DataW.trod (fun _ => ()) Tryz.prog W 0 (fun _ => true) false m 9 (([c0, c1].drop 0).take (Tryz.prog.cellsOf 9)) = some y0 := hf 0 _ rfl
    have g1 : DataW.trod (fun _ => ()) Tryz.prog W 0 (fun _ => true) false m 3 (([c0, c1].drop 1).take (Tryz.prog.cellsOf 3)) = some y1 := hf 1 _ rfl
    rw [Tryz.cellsOf9] at g0
    rw [Tryz.cellsOf3] at g1
    rw [hx] at hx'
    have e2 : [y0.1, y1.1] = [.lit (.string q.1), .lit (.int .i64 q.2)] := DataW.agg.inj hx'
    injection e2 with q0 q1
    injection q1 with q1 _
    have r0 := laid_text1 g0 q0
    have r1 := laid_int1 g1 q1
    subst r0 r1
    have hs : ∀ q ∈ sevenP, q.1.length < 140737488355328 := by decide
    exact ⟨hg, _, ⟨rfl, hs q hq⟩, hc⟩)
  refine ⟨_, ?_, hr⟩
  exact (World.var?_cell Tryz.firstG hv 0).trans (cells_one e)
def rowsP : List (Byt × Nat × Nat) := (List.range 18).map fun i => (wordsP.getD i [], kindsP.getD i (0, 0))
theorem rows_of {W : World} {fuel : Nat} {cs : Array Value} {p : List MemPlace} (hv : W.var? Tryz.prog "sloth/code.rows" = some cs) (h : DataW.trod (fun _ => ()) Tryz.prog W 0 (fun _ => true) false fuel 113 cs.toList = some (Rows.laid_sloth_code_rows, p)) : ∃ rd rcap, RowsAt W rd rcap := by
  obtain ⟨ad, cap, e, hr⟩ := laid_row (α := Byt × Nat × Nat) 3 (fun g o x => g < W.heap.size ∧ W.cell? ⟨g, o, none⟩ = some (.string ⟨x.1.toArray⟩) ∧ W.cell? ⟨g, o + 1, none⟩ = some (.int .i64 (x.2.1 : Nat)) ∧ W.cell? ⟨g, o + 2, none⟩ = some (.int .i64 (x.2.2 : Nat))) Tryz.underlying113 Tryz.cellsOf112 (by decide) h rowD rowsP [] (by rfl) (by decide) (fun n cs' x' q hq h1 hx' h3 g o hg hc => by
    obtain ⟨xs, m, hm, hx, hlen, hxl, hf⟩ := DataW.trod_struct Tryz.underlying112 h1
    obtain ⟨c0, c1, c2, rfl⟩ := inl3 h3
    obtain ⟨y0, y1, y2, rfl⟩ := inl3 (show xs.length = 3 from hxl)
    have g0 : DataW.trod (fun _ => ()) Tryz.prog W 0 (fun _ => true) false m 9 (([c0, c1, c2].drop 0).take (Tryz.prog.cellsOf 9)) = some y0 := hf 0 _ rfl
    have g1 : DataW.trod (fun _ => ()) Tryz.prog W 0 (fun _ => true) false m 3 (([c0, c1, c2].drop 1).take (Tryz.prog.cellsOf 3)) = some y1 := hf 1 _ rfl
    have g2 : DataW.trod (fun _ => ()) Tryz.prog W 0 (fun _ => true) false m 3 (([c0, c1, c2].drop 2).take (Tryz.prog.cellsOf 3)) = some y2 := hf 2 _ rfl
    rw [Tryz.cellsOf9] at g0
    rw [Tryz.cellsOf3] at g1 g2
    rw [hx] at hx'
    have e2 : [y0.1, y1.1, y2.1] = [.lit (.string q.1), .lit (.int .i64 (q.2.1 : Nat)), .lit (.int .i64 (q.2.2 : Nat))] := DataW.agg.inj hx'
    injection e2 with q0 q1
    injection q1 with q1 q2
    injection q2 with q2 _
    have r0 := laid_text1 g0 q0
    have r1 := laid_int1 g1 q1
    have r2 := laid_int1 g2 q2
    subst r0 r1 r2
    exact ⟨hg, hc 0 (by decide), hc 1 (by decide), hc 2 (by decide)⟩)
  have hl : rowsP.length = 18 := rfl
  rw [hl] at e hr
  refine ⟨ad, cap, (World.var?_cell Tryz.rowsG hv 0).trans (cells_one e), fun i hi => ?_⟩
  rcases hr with ⟨h0, _⟩ | ⟨g, o, cap', e2, _, hcap, hrow⟩
  · exact absurd h0 (by decide)
  · injection e2 with q1 q2 q3
    subst q1 q3
    obtain ⟨k1, k2, k3, k4⟩ := hrow i (by rw [hl]; exact hi)
    have hi2 : rowsP[i]'(by rw [hl]; exact hi) = (wordsP.getD i [], kindsP.getD i (0, 0)) := by
      unfold rowsP
      simp
    rw [hi2] at k2 k3 k4
    exact ⟨g, o, rfl, by rw [← hl]; exact hcap, k1, k2, k3, k4⟩
theorem opers_of {W : World} {fuel : Nat} {cs : Array Value} {p : List MemPlace} (hv : W.var? Tryz.prog "sloth/code.operators" = some cs) (h : DataW.trod (fun _ => ()) Tryz.prog W 0 (fun _ => true) false fuel 73 cs.toList = some (Rows.laid_sloth_code_operators, p)) : ∃ od ocap, OpsAt W od ocap := by
  obtain ⟨ad, cap, e, hr⟩ := laid_row (α := Byt) 1 (fun g o x => g < W.heap.size ∧ W.cell? ⟨g, o, none⟩ = some (.string ⟨x.toArray⟩)) Tryz.underlying73 Tryz.cellsOf9 (by decide) h txtD opsP [] (by rfl) (by decide) (fun n cs' x' q hq h1 hx' h3 g o hg hc => by
    obtain ⟨c0, rfl⟩ := inl1 h3
    have r0 := laid_text1 h1 hx'
    subst r0
    exact ⟨hg, hc 0 (by decide)⟩)
  have hl : opsP.length = 12 := rfl
  rw [hl] at e hr
  refine ⟨ad, cap, (World.var?_cell Tryz.opersG hv 0).trans (cells_one e), fun i hi => ?_⟩
  rcases hr with ⟨h0, _⟩ | ⟨g, o, cap', e2, _, hcap, hrow⟩
  · exact absurd h0 (by decide)
  · injection e2 with q1 q2 q3
    subst q1 q3
    obtain ⟨k1, k2⟩ := hrow i (by rw [hl]; exact hi)
    have hi2 : opsP[i]'(by rw [hl]; exact hi) = opsP.getD i [] := by
      rw [List.getD, List.getElem?_eq_getElem (by rw [hl]; exact hi)]
      rfl
    rw [hi2, Nat.mul_one] at k2
    exact ⟨g, o, rfl, by rw [← hl]; exact hcap, k1, k2⟩
theorem pt_of {W : World} {fuel : Nat} {cs : Array Value} {p : List MemPlace} (hv : W.var? Tryz.prog "internal/strconv.uint64pow10" = some cs) (h : DataW.trod (fun _ => ()) Tryz.prog W 0 (fun _ => true) false fuel 197 cs.toList = some (Rows.laid_internal_strconv_uint64pow10, p)) : Pt W := by
  rw [pow_tab] at h
  have hc := Lib.cells_of_tab Tryz.underlying197 Tryz.underlying91 Tryz.cellsOf91 Tryz.cellsOf197 h
  show Lib.TabIs _ _ _ _ _
  unfold Lib.TabIs
  rw [hv, ← hc]
/-- All that the walks ask of memory. -/
theorem aw_of_laidH {W : World} (h : laidMetH Tryz.prog laid10 W) : AwIn W := by
  rw [MakeChecks.laidMetH_plain _ _ _ (by kernel_rfl)] at h
  obtain ⟨ps, hv, _⟩ := h
  obtain ⟨_, _, _, _, _, _, _, _, _, _, hv, _⟩ := hv
  obtain ⟨_, _, _, _, _, _, _, _, _, _, hv, _⟩ := hv
  obtain ⟨g1, t1, cs1, f1, p1, q1, hg1, ht1, hvar1, hd1, hv, _⟩ := hv
  obtain ⟨_, _, _, _, _, _, _, _, _, _, hv, _⟩ := hv
  obtain ⟨g2, t2, cs2, f2, p2, q2, hg2, ht2, hvar2, hd2, hv, _⟩ := hv
  obtain ⟨g3, t3, cs3, f3, p3, q3, hg3, ht3, hvar3, hd3, hv, _⟩ := hv
  obtain ⟨g4, t4, cs4, f4, p4, q4, hg4, ht4, hvar4, hd4, hv, _⟩ := hv
  obtain ⟨g5, t5, cs5, f5, p5, q5, hg5, ht5, hvar5, hd5, hv, _⟩ := hv
  obtain ⟨g6, t6, cs6, f6, p6, q6, hg6, ht6, hvar6, hd6, _, _⟩ := hv
  obtain rfl := Option.some.inj (Tryz.powG.symm.trans hg1)
  obtain rfl := Option.some.inj (Tryz.powT.symm.trans ht1)
  obtain rfl := Option.some.inj (Tryz.rngG.symm.trans hg2)
  obtain rfl := Option.some.inj (Tryz.rngT.symm.trans ht2)
  obtain rfl := Option.some.inj (Tryz.synG.symm.trans hg3)
  obtain rfl := Option.some.inj (Tryz.synT.symm.trans ht3)
  obtain rfl := Option.some.inj (Tryz.firstG.symm.trans hg4)
  obtain rfl := Option.some.inj (Tryz.firstT.symm.trans ht4)
  obtain rfl := Option.some.inj (Tryz.rowsG.symm.trans hg5)
  obtain rfl := Option.some.inj (Tryz.rowsT.symm.trans ht5)
  obtain rfl := Option.some.inj (Tryz.opersG.symm.trans hg6)
  obtain rfl := Option.some.inj (Tryz.opersT.symm.trans ht6)
  obtain ⟨ta, pa, ea⟩ := iface_of hd2
  obtain ⟨tb, pb, eb⟩ := iface_of hd3
  rw [ea] at hvar2
  rw [eb] at hvar3
  exact ⟨first_of hvar4 hd4, ⟨⟨pt_of hvar1 hd1, ⟨tb, pb, hvar3⟩, ⟨ta, pa, hvar2⟩⟩, rows_of hvar5 hd5, opers_of hvar6 hd6⟩⟩
end Go.Proofs.YtlpnegnpejpdkaaGreatDoor
