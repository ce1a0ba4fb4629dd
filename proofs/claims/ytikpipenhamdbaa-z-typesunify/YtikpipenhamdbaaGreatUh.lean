/- TypesUnify answers true at every two rows of pairs, and leaves what it was handed as it was: the row's statement. No condition is added. -/
import Derived.Test.YtikpipenhamdbaaGreatMbex
import Derived.Test.YtikpipenhamdbaaGreatOc
import Derived.Test.YtikpipenhamdbaaGreatFk
namespace Go.Proofs.YtikpipenhamdbaaGreat
open Go.ChangeShapes Go.WideShapes Go.RowKit

set_option maxHeartbeats 8000000 in
set_option maxRecDepth 10000 in
theorem unify_great (ps qs : List Pr) (v cv : Value) (w : World) (hl : PrAt w w.heap.size v ps) (hc : PrAt w w.heap.size cv qs) (hg : (greatB (pbs ps) || greatB (pbs qs)) = true) :
  Calls Tryz.prog 4 #[v, cv] w fun r w' => r = .returned (.bool true) ∧ Below w.heap.size w w' := by
 have C0 := greatPairs_any v ps w w.heap.size (Nat.le_refl _) hl
 have C1 : ∀ W, Below w.heap.size w W → Calls Tryz.prog 5 #[cv] W fun r w' => r = .returned (.bool (greatB (pbs qs))) ∧ Below W.heap.size W w' := fun W hb => greatPairs_any cv qs W w.heap.size hb.size (hc.below hb (Nat.le_refl _))
 generalize greatB (pbs ps) = g0 at *
 generalize greatB (pbs qs) = g1 at *
 obtain ⟨lad, lcap, rfl, hpl, -⟩ := hl
 obtain ⟨cad, ccap, rfl, hcl, -⟩ := hc
 go_enter Tryz.func4, Tryz.ntmps4
 go_upto_region 3 with (first
  | (go_at_call 5; (with_reducible refine Calls.mono C0 ?_); rintro e' w1 ⟨rfl, hb1⟩)
  | (go_at_call 5; (with_reducible refine Calls.mono (C1 w1 hb1) ?_); rintro e' w2 ⟨rfl, hb2⟩))
 have HB : Hid (Below w.heap.size w w2) := bel2 hb1 hb2
 clear C0 C1 hb1 hb2
 cases g0 with
 | true =>
  go_wp2
  go_ret
  exact ⟨rfl, HB.out⟩
 | false =>
  have hg1 : g1 = true := by simpa using hg
  subst hg1
  go_wp2
  go_ret
  exact ⟨rfl, HB.out⟩
theorem unify_law (hA : Wakes) (ps qs : List Pr) (v cv : Value) (w : World) (hl : PrAt w w.heap.size v ps) (hc : PrAt w w.heap.size cv qs) :
  Calls Tryz.prog 4 #[v, cv] w fun r w' => r = .returned (.bool true) ∧ Below w.heap.size w w' := by
 cases hg : (greatB (pbs ps) || greatB (pbs qs)) with
 | true => exact unify_great ps qs v cv w hl hc hg
 | false =>
  rw [Bool.or_eq_false_iff] at hg
  exact unify_try hA ps qs v cv w hl hc hg.1 hg.2
set_option maxRecDepth 100000 in
theorem typesUnify_lifted (hA : Wakes) (os : Os) (started : os.Started) (H : Type) (enc : TypeId × Value → H) :
  ReturnsInHanded {} Tryz.checked os 4 .any (Rows.typesUnifySpec.pre6 enc Tryz.prog Tryz.f4 Rows.typesUnifyRow.domain false) (Rows.typesUnifySpec.post enc Tryz.prog Tryz.f4 false true false false) := by
 refine returnsInHanded_of_change_sized (C := Tryz.checked) Tryz.own started (by kernel_rfl) Tryz.func4
  (ChangeSpec.witness6 (enc := enc) (C := Tryz.checked) false ⟨#[], #[.slice none 0 0, .slice none 0 0], []⟩ 8 (by kernel_rfl) (by kernel_rfl) (by kernel_rfl) (by kernel_rfl)) ?_
 intro W base args ds gs before hval0 hW _ hsz0 _
 have hval : ∀ (j : Nat) t v, Tryz.f4.params[j]? = some t → args[j]? = some v → Value.okWide Tryz.prog W .any base t v := hval0
 have hsz : (DataW.weightsEach Tryz.prog (Tryz.f4.params.toList ++ Rows.typesUnifySpec.plain.varTypes Tryz.prog) (ds ++ gs)).all (· ≤ reachBytes) = true := hsz0
 have hW' := hW
 obtain ⟨p, q, hA0, hV0, rfl, hfz, hnd⟩ := hW
 have hA1 : DataW.TrodAll enc Tryz.prog W 0 (fun _ => true) true Tryz.f4.params.toList args.toList ds p := hA0
 have hV : DataW.TrodVars enc Tryz.prog W (fun _ => true) [] gs q := hV0
 rw [Tryz.params4] at hA1 hval hsz
 obtain ⟨v0, v1, d0, d1, p0, p1, rfl, rfl, rfl, h0, h1⟩ := trodAll_two hA1
 obtain ⟨rfl, rfl⟩ := trodVars_none hV
 have z0 : ∀ x ∈ d0.weights Tryz.prog 22, x ≤ reachBytes := fun x hx => by simpa using List.all_eq_true.1 hsz _ (DataW.weights_mem_each (j := 0) (t := 22) rfl rfl x hx)
 have z1 : ∀ x ∈ d1.weights Tryz.prog 22, x ≤ reachBytes := fun x hx => by simpa using List.all_eq_true.1 hsz _ (DataW.weights_mem_each (j := 1) (t := 22) rfl rfl x hx)
 obtain ⟨ps, hL⟩ := open_pairs (hval 0 22 v0 rfl rfl) h0 z0
 obtain ⟨qs, hC⟩ := open_pairs (hval 1 22 v1 rfl rfl) h1 z1
 have hlt : ∀ x ∈ p0 ++ p1, x.block < W.heap.size := fun x hx => by simpa using hW'.lt x (by simpa using hx)
 have e1 : Rows.typesUnifySpec.fn H ([d0, d1] ++ []) = { results := [.lit (.bool true)], args := [d0, d1] } := rfl
 refine (unify_law hA ps qs v0 v1 W hL hC).mono fun e W' ⟨he, hbel⟩ => ?_
 subst he
 refine ⟨_, rfl, _, _, _, [], p0 ++ p1, [], hW', ?_, ?_, ?_, hbel.frame _, fun h => by cases h⟩
 ·rw [e1]; exact trodAll_mk1 (shut_bool Tryz.underlying4 true)
 ·rw [e1]; exact trodAll_mk2 (Below.trod Tryz.laidOut (by kernel_rfl) (of_decide_eq_true (by kernel_rfl)) h0 hbel (fun x hx => hlt x (List.mem_append_left _ hx))) (Below.trod Tryz.laidOut (by kernel_rfl) (of_decide_eq_true (by kernel_rfl)) h1 hbel (fun x hx => hlt x (List.mem_append_right _ hx)))
 ·rw [e1]; rfl

theorem typesUnify_row (hA : Wakes) : Rows.TypesUnifySaid :=
 OpenClaim.holds_of_wide 4 Tryz.f4 rfl rfl rfl rfl rfl rfl rfl ⟨rfl, rfl, rfl, rfl, rfl⟩ rfl rfl rfl rfl rfl (by kernel_rfl) Tryz.func4 (by kernel_rfl)
  (of_decide_eq_true (by kernel_rfl)) (by unfold Func.isWrapper; rw [if_neg (of_decide_eq_false (by kernel_rfl))]; exact ⟨rfl, rfl⟩)
  (fun os started H enc _ => typesUnify_lifted hA os started H enc)

theorem typesUnify_holds : Rows.TypesUnifySaid := typesUnify_row wake_all
#print axioms typesUnify_holds
end Go.Proofs.YtikpipenhamdbaaGreat
