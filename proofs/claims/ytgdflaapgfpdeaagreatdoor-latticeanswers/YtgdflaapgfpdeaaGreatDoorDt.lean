/- LatticeAnswers answers true at every input, and leaves what it was handed as it was: the row's statement, and the tied card. The listed package-level variables (tables that the library reads) are as the program's own text lays them; of the variable that the row names and does not list it speaks for every value; nothing else is assumed. -/
import Derived.Test.YtgdflaapgfpdeaaGreatDoorMBx
import Derived.Test.YtgdflaapgfpdeaaGreatDoorMCx
import Derived.Test.YtgdflaapgfpdeaaGreatDoorTie
import Derived.Test.YtgdflaapgfpdeaaGreatDoorCards
import Derived.SevenTiedAt
import Derived.Carry
import Derived.ProofKit
import Derived.LaidMore
import Derived.OpenShut
import Derived.Stop.Joined
import Derived.ChangeMaps5
import Derived.SizedLaws
import Derived.Lib.LaidTab
namespace Go.Proofs.YtgdflaapgfpdeaaGreatDoor
open Go.ChangeShapes Go.WideShapes Go.RowKit Go.ChangeMaps

set_option maxRecDepth 100000
theorem Tryz.own : ownKnob Tryz.prog.godebug = none := by kernel_rfl
/-- A value of type Type that was handed in. -/
theorem open_type {H : Type} {enc : TypeId × Value → H} {W : World} {r : Reach} {b0 : Nat} {v : Value} {d : DataW H} {ps : List MemPlace} (hval : Value.okWide Tryz.prog W r b0 24 v) (h : DataW.Trod enc Tryz.prog W 0 (fun _ => true) true 24 v d ps) (hz : ∀ x ∈ d.weights Tryz.prog 24, x ≤ reachBytes) :
    ∃ (n : Nat) (t : Tn n), TyAt W W.heap.size n v t := by
  obtain ⟨cs, rfl, _⟩ := okWide_struct Tryz.underlying24 hval
  obtain ⟨fuel, hf⟩ := h
  obtain ⟨k, s, u, t, hcs, ht⟩ := open_cells fuel _ _ hf hz
  refine ⟨fuel, t, ?_⟩
  have : cs = #[.int .i64 k, .string s, u] := by
    have h2 : cs.toList = [.int .i64 k, .string s, u] := hcs
    have h3 : cs = cs.toList.toArray := by simp
    rw [h3, h2]
  rw [this]
  exact ht
abbrev laid3 : List (String × DataW Unit) := [("math/bits.deBruijn32tab", Rows.laid_math_bits_deBruijn32tab), ("math/bits.deBruijn64tab", Rows.laid_math_bits_deBruijn64tab), ("internal/strconv.uint64pow10", Rows.laid_internal_strconv_uint64pow10)]
theorem door_met (os : Os) (args : Array Value) : laidMetH Tryz.prog laid3 ((World.doorLaid Tryz.prog 24 os).forCall (fun _ _ => 0) ⟨#[], args, []⟩).memory :=
  laidMetH_of_parts3 (fuel := 8) (laidMet_of_run' 8 (by kernel_rfl) (by kernel_rfl)) (by kernel_rfl) (by kernel_rfl)
theorem Tryz.tabG : Tryz.prog.globalNamed "math/bits.deBruijn64tab" = some 0 := by kernel_rfl
theorem Tryz.tabT : (Tryz.prog.globals[0]?).map (·.type) = some 92 := by kernel_rfl
theorem Tryz.cells5' : Tryz.prog.cellsOf 5 = 1 := by kernel_rfl
theorem Tryz.cells92' : Tryz.prog.cellsOf 92 = 64 := by kernel_rfl
theorem tab_tab : (Rows.laid_math_bits_deBruijn64tab : DataW Unit) = Lib.tabData .u8 (Lib.deBruijn64tab.map (fun n : Nat => (n : Int))) := by rfl
theorem tab_len : Lib.deBruijn64tab.length = 64 := by rfl
/-- The library's table lies where it should. -/
theorem tab_of_laid {W : World} (h : laidMet Tryz.prog laid3 W) : TabAt 0 Lib.deBruijn64tab W := by
  obtain ⟨ps, hv, _⟩ := h
  obtain ⟨_, _, _, _, _, _, _, _, _, _, hv1, _⟩ := hv
  obtain ⟨g, t, cs, fuel, p, q, hg, ht, hvar, hd, _, _⟩ := hv1
  obtain rfl := Option.some.inj (Tryz.tabG.symm.trans hg)
  obtain rfl := Option.some.inj (Tryz.tabT.symm.trans ht)
  rw [tab_tab] at hd
  have hc := Lib.cells_of_tab Tryz.underlying92 Tryz.underlying5 Tryz.cells5' Tryz.cells92' hd
  have ht : Lib.TabIs Tryz.prog W "math/bits.deBruijn64tab" .u8 (Lib.deBruijn64tab.map (fun n : Nat => (n : Int))) := by
    unfold Lib.TabIs
    rw [hvar, ← hc]
  intro j hj
  rw [ht.cell Tryz.tabG j (by simpa using hj)]
  simp [List.getD, hj]
theorem tab_of_laidH {W : World} (h : laidMetH Tryz.prog laid3 W) : TabAt 0 Lib.deBruijn64tab W := by
  rw [MakeChecks.laidMetH_plain _ _ _ (by kernel_rfl)] at h
  exact tab_of_laid h
theorem tab_on {W : World} (h : TabAt 0 Lib.deBruijn64tab W) : ∀ w', Below W.heap.size W w' → TabAt 0 Lib.deBruijn64tab w' := fun w' hb j hj => by
  have h0 : 0 < W.heap.size := World.block_lt_of_cell? W _ (h j hj)
  exact (hb.cell (p := ⟨0, j, none⟩) h0).trans (h j hj)
theorem Tryz.bytes3 : Tryz.prog.bytesOf 3 = 8 := by kernel_rfl
theorem Tryz.under25 : Tryz.prog.underlying 25 = some (.slice 3) := by kernel_rfl
/-- A list of numbers that was handed in. -/
theorem open_ints {H : Type} {enc : TypeId × Value → H} {W : World} {fuel : Nat} {cs : List Value} {x : DataW H × List MemPlace} (h : DataW.trod enc Tryz.prog W 0 (fun _ => true) true fuel 25 cs = some x) (hz : ∀ y ∈ x.1.weights Tryz.prog 25, y ≤ reachBytes) :
    ∃ (v : Value) (l : List Int), cs = [v] ∧ Zts W v l ∧ l.length * 8 ≤ 140737488351232 := by
  rcases DataW.trod_slice Tryz.under25 h with ⟨hcs, _⟩ | ⟨a, len, cap, elems, rest, n, hn, hcs, hy2, _, hlc, hcm, hel, hx, _, _⟩
  · exact ⟨_, [], hcs, ⟨none, 0, rfl, fun i hi => by simp at hi⟩, by simp⟩
  · by_cases h0 : len = 0
    · subst h0
      exact ⟨_, [], hcs, ⟨some a, cap, rfl, fun i hi => by simp at hi⟩, by simp⟩
    · rw [Tryz.cells3] at hx
      have hd : x.1 = .slice (elems.map (·.1)) (rest.map (·.1)) := congrArg Prod.fst hy2
      have hlen2 : len * 8 ≤ reachBytes := by
        have h1 := hz ((elems.map (·.1)).length + (rest.map (·.1)).length |> (· * Tryz.prog.bytesOf 3)) (by
          rw [hd]
          unfold DataW.weights
          rw [Tryz.under25]
          exact List.mem_cons_self)
        rw [Tryz.bytes3] at h1
        simp only [List.length_map, hel] at h1
        refine Nat.le_trans (Nat.mul_le_mul_right _ ?_) h1
        omega
      have cells : ∀ i, i < len → ∃ k : Int, W.cell? (a.add i) = some (.int .i64 k) := by
        intro i hi
        have hi' : i < elems.length := by omega
        have hxi := hx i hi
        rw [List.getElem?_eq_getElem hi'] at hxi
        obtain ⟨cs', c1', c2'⟩ := Option.bind_eq_some_iff.1 hxi
        obtain ⟨_, hl', hcell⟩ := World.cells?_some c1'
        obtain ⟨k, e, _, _⟩ := DataW.trod_int Tryz.underlying3 c2'
        have h2 := hcell 0 (by decide)
        rw [Deep.add_add, Nat.mul_one, Nat.add_zero, e] at h2
        exact ⟨k, h2⟩
      obtain ⟨k0, hc0⟩ := cells 0 (by omega)
      have ha : a = ⟨a.block, a.off, none⟩ := cell_spot (by exact hc0 : W.cell? (a.add 0) = some _)
      generalize a.block = g at ha
      generalize a.off = o at ha
      subst ha
      have hgl : g < W.heap.size := by
        rw [add_at] at hc0
        exact World.block_lt_of_cell? W _ hc0
      obtain ⟨q, hq⟩ := Deep.choose_lt cells
      refine ⟨_, (List.range len).map q, hcs, ⟨some ⟨g, o, none⟩, cap, by simp, fun i hi => ⟨g, o, rfl, by simpa using hlc, hgl, ?_⟩⟩, by simpa [reachBytes] using hlen2⟩
      have hi' : i < len := by simpa using hi
      have := hq i hi'
      rw [add_at] at this
      simpa using this
section
open Go.ChangeShapes
variable {H : Type} {enc : TypeId × Value → H} {P : Program} {w : World} {base : Nat} {spare : Nat → Bool} {held : Bool}
theorem trodAll_five {t t1 t2 t3 t4 : TypeId} {args : Array Value} {ds : List (DataW H)} {ps : List MemPlace} (h : DataW.TrodAll enc P w base spare held [t, t1, t2, t3, t4] args.toList ds ps) :
    ∃ v v1 v2 v3 v4 d d1 d2 d3 d4 p p1 p2 p3 p4, args = #[v, v1, v2, v3, v4] ∧ ds = [d, d1, d2, d3, d4] ∧ ps = p ++ p1 ++ p2 ++ p3 ++ p4 ∧ DataW.Trod enc P w base spare held t v d p ∧ DataW.Trod enc P w base spare held t1 v1 d1 p1 ∧ DataW.Trod enc P w base spare held t2 v2 d2 p2 ∧ DataW.Trod enc P w base spare held t3 v3 d3 p3 ∧ DataW.Trod enc P w base spare held t4 v4 d4 p4 := by
  obtain ⟨v, vs, d, ds', p, q, hargs, rfl, rfl, hd, hrest⟩ := trodAll_cons h
  obtain ⟨v1, vs1, d1, ds1, p1, q1, rfl, rfl, rfl, hd1, hrest1⟩ := trodAll_cons hrest
  obtain ⟨v2, vs2, d2, ds2, p2, q2, rfl, rfl, rfl, hd2, hrest2⟩ := trodAll_cons hrest1
  obtain ⟨v3, vs3, d3, ds3, p3, q3, rfl, rfl, rfl, hd3, hrest3⟩ := trodAll_cons hrest2
  obtain ⟨v4, vs4, d4, ds4, p4, q4, rfl, rfl, rfl, hd4, hrest4⟩ := trodAll_cons hrest3
  obtain ⟨rfl, rfl, rfl⟩ := trodAll_nil hrest4
  exact ⟨v, v1, v2, v3, v4, d, d1, d2, d3, d4, p, p1, p2, p3, p4, by cases args; simp_all, rfl, by simp, hd, hd1, hd2, hd3, hd4⟩
end
set_option maxRecDepth 100000 in
theorem latticeAnswers_lifted (os : Os) (started : os.Started) (H : Type) (enc : TypeId × Value → H) :
    ReturnsInHanded {} Tryz.checked os 3 .any (fun w args => (Rows.latticeAnswersSpec.pre enc Tryz.prog Tryz.f3 [] false w args ∧ laidMetH Tryz.prog laid3 w) ∧ sizedMet enc Tryz.prog Tryz.f3 (OpenSpec.ofChange Rows.latticeAnswersSpec) false w args)
      (Rows.latticeAnswersSpec.post enc Tryz.prog Tryz.f3 false true false false) := by
  refine returnsInHanded_of_change_and (C := Tryz.checked) (X := fun w _ => laidMetH Tryz.prog laid3 w) (fun _ _ _ hh h => h.of_heap hh) Tryz.own started (by kernel_rfl) Tryz.func3
    (ChangeSpec.witness_shaped (enc := enc) (C := Tryz.checked) (os := os) (X := fun w _ => laidMetH Tryz.prog laid3 w) false (World.doorLaid Tryz.prog 24 os) #[.agg #[.int .i64 0, .string ⟨#[]⟩, .slice none 0 0], .agg #[.int .i64 0, .string ⟨#[]⟩, .slice none 0 0], .int .i64 0, .int .i64 0, .slice none 0 0] 8 rfl (World.shaped_of_RefB (by kernel_rfl) (by kernel_rfl)) (by kernel_rfl) (by kernel_rfl) (by kernel_rfl) (door_met os _)) ?_
  intro W base args ds gs before hval0 hW _ hsz0 hL _
  have hval : ∀ (j : Nat) t v, Tryz.f3.params[j]? = some t → args[j]? = some v → Value.okWide Tryz.prog W .any base t v := hval0
  have hsz : (DataW.weightsEach Tryz.prog (Tryz.f3.params.toList ++ Rows.latticeAnswersSpec.plain.varTypes Tryz.prog) (ds ++ gs)).all (· ≤ reachBytes) = true := hsz0
  have hW' := hW
  obtain ⟨p, q, hA0, hV0, rfl, hfz, hnd⟩ := hW
  have hA1 : DataW.TrodAll enc Tryz.prog W 0 (fun _ => true) true Tryz.f3.params.toList args.toList ds p := hA0
  have hV : DataW.TrodVars enc Tryz.prog W (fun _ => true) [] gs q := hV0
  rw [Tryz.params3] at hA1 hval hsz
  obtain ⟨v0, v1, v2, v3, v4, d0, d1, d2, d3, d4, p0, p1, p2, p3, p4, rfl, rfl, rfl, h0, h1, h2, h3, h4⟩ := trodAll_five hA1
  obtain ⟨rfl, rfl⟩ := trodVars_none hV
  have z0 : ∀ x ∈ d0.weights Tryz.prog 24, x ≤ reachBytes := fun x hx => by simpa using List.all_eq_true.1 hsz _ (DataW.weights_mem_each (j := 0) (t := 24) rfl rfl x hx)
  have z1 : ∀ x ∈ d1.weights Tryz.prog 24, x ≤ reachBytes := fun x hx => by simpa using List.all_eq_true.1 hsz _ (DataW.weights_mem_each (j := 1) (t := 24) rfl rfl x hx)
  have z4 : ∀ x ∈ d4.weights Tryz.prog 25, x ≤ reachBytes := fun x hx => by simpa using List.all_eq_true.1 hsz _ (DataW.weights_mem_each (j := 4) (t := 25) rfl rfl x hx)
  obtain ⟨n, t, hT⟩ := open_type (hval 0 24 v0 rfl rfl) h0 z0
  obtain ⟨m, u, hU⟩ := open_type (hval 1 24 v1 rfl rfl) h1 z1
  obtain ⟨x2, rfl⟩ := okWide_int Tryz.underlying3 (hval 2 3 v2 rfl rfl)
  obtain ⟨x3, rfl⟩ := okWide_int Tryz.underlying3 (hval 3 3 v3 rfl rfl)
  obtain ⟨a4, l4, k4, rfl⟩ := okWide_slice Tryz.under25 (hval 4 25 v4 rfl rfl)
  obtain ⟨v, tl, ev, hZ, hl⟩ := open_ints h4.choose_spec z4
  obtain rfl : Value.slice a4 l4 k4 = v := by simpa [Value.cells] using ev
  have hlt : ∀ x ∈ p0 ++ p1 ++ p2 ++ p3 ++ p4, x.block < W.heap.size := fun x hx => by simpa using hW'.lt x (by simpa using hx)
  have e1 : Rows.latticeAnswersSpec.fn H ([d0, d1, d2, d3, d4] ++ []) = { results := [.lit (.bool true)], args := [d0, d1, d2, d3, d4] } := rfl
  obtain ⟨n, rfl⟩ : ∃ m, n = m + 1 := by
    cases n with
    | zero => exact hT.elim
    | succ m => exact ⟨m, rfl⟩
  obtain ⟨m, rfl⟩ : ∃ k, m = k + 1 := by
    cases m with
    | zero => exact hU.elim
    | succ k => exact ⟨k, rfl⟩
  refine (answers_law n m v0 v1 t u W hT hU (tab_on (tab_of_laidH hL)) x2 x3 hZ hl fun w2 hb hN => edged_any n v0 t w2 (TyAt.below hb hb.size _ _ _ hT) hN x2 x3).mono fun e W' ⟨he, hbel⟩ => ?_
  subst he
  refine ⟨_, rfl, _, _, _, [], p0 ++ (p1 ++ (p2 ++ (p3 ++ p4))), [], hW', ?_, ?_, ?_, hbel.out.frame _, fun h => by cases h⟩
  · rw [e1]; exact trodAll_mk1 (shut_bool Tryz.underlying4 true)
  · rw [e1]
    have b0 := Below.trod Tryz.laidOut (by kernel_rfl) (of_decide_eq_true (by kernel_rfl)) h0 hbel.out (fun x hx => hlt x (by simp [hx]))
    have b1 := Below.trod Tryz.laidOut (by kernel_rfl) (of_decide_eq_true (by kernel_rfl)) h1 hbel.out (fun x hx => hlt x (by simp [hx]))
    have b2 := Below.trod Tryz.laidOut (by kernel_rfl) (of_decide_eq_true (by kernel_rfl)) h2 hbel.out (fun x hx => hlt x (by simp [hx]))
    have b3 := Below.trod Tryz.laidOut (by kernel_rfl) (of_decide_eq_true (by kernel_rfl)) h3 hbel.out (fun x hx => hlt x (by simp [hx]))
    have b4 := Below.trod Tryz.laidOut (by kernel_rfl) (of_decide_eq_true (by kernel_rfl)) h4 hbel.out (fun x hx => hlt x (by simp [hx]))
    exact ⟨p0, _, b0, trodAll_mk4 b1 b2 b3 b4, rfl⟩
  · rw [e1]; rfl
theorem latticeAnswers_row : Rows.LatticeAnswersSaid :=
  OpenClaim.holds_of_wide 3 Tryz.f3 rfl rfl rfl rfl rfl rfl rfl ⟨rfl, rfl, rfl, rfl, rfl⟩ rfl rfl rfl rfl rfl (by kernel_rfl) Tryz.func3 (by kernel_rfl)
    (of_decide_eq_true (by kernel_rfl)) (by unfold Func.isWrapper; rw [if_neg (of_decide_eq_false (by kernel_rfl))]; exact ⟨rfl, rfl⟩)
    (fun os started H enc _ => latticeAnswers_lifted os started H enc)
theorem latticeAnswers_holds : Rows.LatticeAnswersCardSaid :=
  Claim7.holds_tied_plain_at .later [] [.data, .data, .data] true (true, "8050f9236e7550184de2b1ddd41fdacf680914446712188f68ef2adc2d78cc10") false
    latticeAnswers_row (fun _ h => by cases h) (by kernel_rfl) (fun _ h => by cases h) latticeAnswers_row_tie rfl ⟨rfl, rfl⟩ (by kernel_rfl) rfl
    (fun f fn hf hfn => by
      obtain rfl : f = 3 := Option.some.inj ((show Tryz.prog.funcNamed "sloth/slothlaw14.LatticeAnswers" = some 3 by kernel_rfl).symm.trans hf) |>.symm
      obtain rfl : fn = Tryz.f3 := (Option.some.inj (Tryz.func3.symm.trans hfn)).symm
      exact ⟨by kernel_rfl, fun j t ht => by
        rw [Tryz.params3] at ht
        have h3 : t = 24 ∨ t = 3 ∨ t = 25 := by
          rcases j with _ | _ | _ | _ | _ | j
          · exact .inl (by simpa using ht.symm)
          · exact .inl (by simpa using ht.symm)
          · exact .inr (.inl (by simpa using ht.symm))
          · exact .inr (.inl (by simpa using ht.symm))
          · exact .inr (.inr (by simpa using ht.symm))
          · simp at ht
        rcases h3 with h3 | h3 | h3
        · rw [h3]
          exact (show Tryz.prog.wantsStandIn 24 = false by kernel_rfl)
        · rw [h3]
          exact (show Tryz.prog.wantsStandIn 3 = false by kernel_rfl)
        · rw [h3]
          exact (show Tryz.prog.wantsStandIn 25 = false by kernel_rfl)⟩)
    (by kernel_rfl)
#print axioms latticeAnswers_holds
end Go.Proofs.YtgdflaapgfpdeaaGreatDoor
