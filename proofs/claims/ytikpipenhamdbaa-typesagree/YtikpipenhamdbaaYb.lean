/- TypesAgree answers true at every row of pairs, and leaves what it was handed as it was: the row's statement. No condition is added. -/
import Derived.Test.YtikpipenhamdbaaYa
import Derived.Test.YtikpipenhamdbaaOc
import Derived.Test.YtikpipenhamdbaaFk
namespace Go.Proofs.Ytikpipenhamdbaa
open Go.ChangeShapes Go.WideShapes Go.RowKit

set_option maxHeartbeats 8000000 in
set_option maxRecDepth 10000 in
theorem agree_great (ps : List Pr) (v : Value) (w : World) (hl : PrAt w w.heap.size v ps) (hg : greatB (pbs ps) = true) :
    Calls Try.prog 3 #[v] w fun r w' => r = .returned (.bool true) ∧ Below w.heap.size w w' := by
  have C0 := greatPairs_any v ps w w.heap.size (Nat.le_refl _) hl
  rw [hg] at C0
  obtain ⟨lad, lcap, rfl, hpl, -⟩ := hl
  go_enter Try.func3, Try.ntmps3
  go_wp2_with (go_at_call 4; (with_reducible refine Calls.mono C0 ?_); rintro e' w1 ⟨rfl, hb1⟩)
  go_ret
  exact ⟨rfl, hb1⟩
theorem agree_law (hA : Wakes) (ps : List Pr) (v : Value) (w : World) (hl : PrAt w w.heap.size v ps) :
    Calls Try.prog 3 #[v] w fun r w' => r = .returned (.bool true) ∧ Below w.heap.size w w' := by
  cases hg : greatB (pbs ps) with
  | true => exact agree_great ps v w hl hg
  | false => exact agree_try hA ps v w hl hg
set_option maxRecDepth 100000 in
theorem typesAgree_lifted (hA : Wakes) (os : Os) (started : os.Started) (H : Type) (enc : TypeId × Value → H) :
    ReturnsInHanded {} Try.checked os 3 .any (Rows.typesAgreeSpec.pre6 enc Try.prog Try.f3 Rows.typesAgreeRow.domain false) (Rows.typesAgreeSpec.post enc Try.prog Try.f3 false true false false) := by
  refine returnsInHanded_of_change_sized (C := Try.checked) Try.own started (by kernel_rfl) Try.func3
    (ChangeSpec.witness6 (enc := enc) (C := Try.checked) false ⟨#[], #[.slice none 0 0], []⟩ 8 (by kernel_rfl) (by kernel_rfl) (by kernel_rfl) (by kernel_rfl)) ?_
  intro W base args ds gs before hval0 hW _ hsz0 _
  have hval : ∀ (j : Nat) t v, Try.f3.params[j]? = some t → args[j]? = some v → Value.okWide Try.prog W .any base t v := hval0
  have hsz : (DataW.weightsEach Try.prog (Try.f3.params.toList ++ Rows.typesAgreeSpec.plain.varTypes Try.prog) (ds ++ gs)).all (· ≤ reachBytes) = true := hsz0
  have hW' := hW
  obtain ⟨p, q, hA0, hV0, rfl, hfz, hnd⟩ := hW
  have hA1 : DataW.TrodAll enc Try.prog W 0 (fun _ => true) true Try.f3.params.toList args.toList ds p := hA0
  have hV : DataW.TrodVars enc Try.prog W (fun _ => true) [] gs q := hV0
  rw [Try.params3] at hA1 hval hsz
  obtain ⟨v0, d0, rfl, rfl, h0⟩ := trodAll_one hA1
  obtain ⟨rfl, rfl⟩ := trodVars_none hV
  have z0 : ∀ x ∈ d0.weights Try.prog 22, x ≤ reachBytes := fun x hx => by simpa using List.all_eq_true.1 hsz _ (DataW.weights_mem_each (j := 0) (t := 22) rfl rfl x hx)
  obtain ⟨ps, hL⟩ := open_pairs (hval 0 22 v0 rfl rfl) h0 z0
  have hlt : ∀ x ∈ p, x.block < W.heap.size := fun x hx => by simpa using hW'.lt x (by simpa using hx)
  have e1 : Rows.typesAgreeSpec.fn H ([d0] ++ []) = { results := [.lit (.bool true)], args := [d0] } := rfl
  refine (agree_law hA ps v0 W hL).mono fun e W' ⟨he, hbel⟩ => ?_
  subst he
  refine ⟨_, rfl, _, _, _, [], p, [], hW', ?_, ?_, ?_, hbel.frame _, fun h => by cases h⟩
  · rw [e1]; exact trodAll_mk1 (shut_bool Try.underlying4 true)
  · rw [e1]; exact trodAll_mk1 (Below.trod Try.laidOut (by kernel_rfl) (of_decide_eq_true (by kernel_rfl)) h0 hbel hlt)
  · rw [e1]; rfl

theorem typesAgree_row (hA : Wakes) : Rows.TypesAgreeSaid :=
  OpenClaim.holds_of_wide 3 Try.f3 rfl rfl rfl rfl rfl rfl rfl ⟨rfl, rfl, rfl, rfl, rfl⟩ rfl rfl rfl rfl rfl (by kernel_rfl) Try.func3 (by kernel_rfl)
    (of_decide_eq_true (by kernel_rfl)) (by unfold Func.isWrapper; rw [if_neg (of_decide_eq_false (by kernel_rfl))]; exact ⟨rfl, rfl⟩)
    (fun os started H enc _ => typesAgree_lifted hA os started H enc)

theorem typesAgree_holds : Rows.TypesAgreeSaid := typesAgree_row wake_all
#print axioms typesAgree_holds
end Go.Proofs.Ytikpipenhamdbaa
