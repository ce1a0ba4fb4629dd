/- TypesMost answers true at every row of pairs and every row of bounds, and leaves what it was handed as it was: the row's statement. No condition is added. -/
import Derived.Test.YtikpipenhamdbaaGreatHw
import Derived.Test.YtikpipenhamdbaaGreatOc
import Derived.Test.YtikpipenhamdbaaGreatFk
namespace Go.Proofs.YtikpipenhamdbaaGreat
open Go.ChangeShapes Go.WideShapes Go.RowKit

set_option maxHeartbeats 8000000 in
set_option maxRecDepth 10000 in
theorem most_great (ps : List Pr) (cs : List Bd) (v cv : Value) (w : World) (hl : PrAt w w.heap.size v ps) (hc : BdAt w w.heap.size cv cs) (hg : (greatB (pbs ps) || greatB cs) = true) :
    Calls Tryz.prog 3 #[v, cv] w fun r w' => r = .returned (.bool true) ∧ Below w.heap.size w w' := by
  have C0 := greatPairs_any v ps w w.heap.size (Nat.le_refl _) hl
  have C1 : ∀ W, Below w.heap.size w W → Calls Tryz.prog 6 #[cv] W fun r w' => r = .returned (.bool (greatB cs)) ∧ Below W.heap.size W w' := fun W hb => greatBounds_any cv cs W w.heap.size hb.size (hc.below hb (Nat.le_refl _))
  generalize greatB (pbs ps) = g0 at *
  generalize greatB cs = g1 at *
  obtain ⟨lad, lcap, rfl, hpl, -⟩ := hl
  obtain ⟨cad, ccap, rfl, hcl, -⟩ := hc
  go_enter Tryz.func3, Tryz.ntmps3
  go_upto_region 3 with (first
    | (go_at_call 5; (with_reducible refine Calls.mono C0 ?_); rintro e' w1 ⟨rfl, hb1⟩)
    | (go_at_call 6; (with_reducible refine Calls.mono (C1 w1 hb1) ?_); rintro e' w2 ⟨rfl, hb2⟩))
  have HB : Hid (Below w.heap.size w w2) := bel_on hb1 hb2
  clear C0 C1 hb1 hb2
  cases g0 with
  | true =>
    go_wp2
    go_ret
    exact ⟨rfl, HB.out⟩
  | false =>
    have hg1 : g1 = true := by simpa using hg
    subst hg1
    go_wp2
    go_ret
    exact ⟨rfl, HB.out⟩
theorem most_law (hA : Wakes) (ps : List Pr) (cs : List Bd) (v cv : Value) (w : World) (hl : PrAt w w.heap.size v ps) (hc : BdAt w w.heap.size cv cs) :
    Calls Tryz.prog 3 #[v, cv] w fun r w' => r = .returned (.bool true) ∧ Below w.heap.size w w' := by
  cases hg : (greatB (pbs ps) || greatB cs) with
  | true => exact most_great ps cs v cv w hl hc hg
  | false =>
    rw [Bool.or_eq_false_iff] at hg
    exact most_try hA ps cs v cv w hl hc hg.1 hg.2
set_option maxRecDepth 100000 in
theorem typesMost_lifted (hA : Wakes) (os : Os) (started : os.Started) (H : Type) (enc : TypeId × Value → H) :
    ReturnsInHanded {} Tryz.checked os 3 .any (Rows.typesMostSpec.pre6 enc Tryz.prog Tryz.f3 Rows.typesMostRow.domain false) (Rows.typesMostSpec.post enc Tryz.prog Tryz.f3 false true false false) := by
  refine returnsInHanded_of_change_sized (C := Tryz.checked) Tryz.own started (by kernel_rfl) Tryz.func3
    (ChangeSpec.witness6 (enc := enc) (C := Tryz.checked) false ⟨#[], #[.slice none 0 0, .slice none 0 0], []⟩ 8 (by kernel_rfl) (by kernel_rfl) (by kernel_rfl) (by kernel_rfl)) ?_
  intro W base args ds gs before hval0 hW _ hsz0 _
  have hval : ∀ (j : Nat) t v, Tryz.f3.params[j]? = some t → args[j]? = some v → Value.okWide Tryz.prog W .any base t v := hval0
  have hsz : (DataW.weightsEach Tryz.prog (Tryz.f3.params.toList ++ Rows.typesMostSpec.plain.varTypes Tryz.prog) (ds ++ gs)).all (· ≤ reachBytes) = true := hsz0
  have hW' := hW
  obtain ⟨p, q, hA0, hV0, rfl, hfz, hnd⟩ := hW
  have hA1 : DataW.TrodAll enc Tryz.prog W 0 (fun _ => true) true Tryz.f3.params.toList args.toList ds p := hA0
  have hV : DataW.TrodVars enc Tryz.prog W (fun _ => true) [] gs q := hV0
  rw [Tryz.params3] at hA1 hval hsz
  obtain ⟨v0, v1, d0, d1, p0, p1, rfl, rfl, rfl, h0, h1⟩ := trodAll_two hA1
  obtain ⟨rfl, rfl⟩ := trodVars_none hV
  have z0 : ∀ x ∈ d0.weights Tryz.prog 22, x ≤ reachBytes := fun x hx => by simpa using List.all_eq_true.1 hsz _ (DataW.weights_mem_each (j := 0) (t := 22) rfl rfl x hx)
  have z1 : ∀ x ∈ d1.weights Tryz.prog 23, x ≤ reachBytes := fun x hx => by simpa using List.all_eq_true.1 hsz _ (DataW.weights_mem_each (j := 1) (t := 23) rfl rfl x hx)
  obtain ⟨ps, hL⟩ := open_pairs (hval 0 22 v0 rfl rfl) h0 z0
  obtain ⟨cs, hC⟩ := open_bounds (hval 1 23 v1 rfl rfl) h1 z1
  have hlt : ∀ x ∈ p0 ++ p1, x.block < W.heap.size := fun x hx => by simpa using hW'.lt x (by simpa using hx)
  have e1 : Rows.typesMostSpec.fn H ([d0, d1] ++ []) = { results := [.lit (.bool true)], args := [d0, d1] } := rfl
  refine (most_law hA ps cs v0 v1 W hL hC).mono fun e W' ⟨he, hbel⟩ => ?_
  subst he
  refine ⟨_, rfl, _, _, _, [], p0 ++ p1, [], hW', ?_, ?_, ?_, hbel.frame _, fun h => by cases h⟩
  · rw [e1]; exact trodAll_mk1 (shut_bool Tryz.underlying4 true)
  · rw [e1]; exact trodAll_mk2 (Below.trod Tryz.laidOut (by kernel_rfl) (of_decide_eq_true (by kernel_rfl)) h0 hbel (fun x hx => hlt x (List.mem_append_left _ hx))) (Below.trod Tryz.laidOut (by kernel_rfl) (of_decide_eq_true (by kernel_rfl)) h1 hbel (fun x hx => hlt x (List.mem_append_right _ hx)))
  · rw [e1]; rfl

theorem typesMost_row (hA : Wakes) : Rows.TypesMostSaid :=
  OpenClaim.holds_of_wide 3 Tryz.f3 rfl rfl rfl rfl rfl rfl rfl ⟨rfl, rfl, rfl, rfl, rfl⟩ rfl rfl rfl rfl rfl (by kernel_rfl) Tryz.func3 (by kernel_rfl)
    (of_decide_eq_true (by kernel_rfl)) (by unfold Func.isWrapper; rw [if_neg (of_decide_eq_false (by kernel_rfl))]; exact ⟨rfl, rfl⟩)
    (fun os started H enc _ => typesMost_lifted hA os started H enc)

theorem typesMost_holds : Rows.TypesMostSaid := typesMost_row wake_all
#print axioms typesMost_holds
end Go.Proofs.YtikpipenhamdbaaGreat
