/- TypesBack answers true at every input, and leaves what it was handed as it was: the row's statement. No condition is added. -/
import Derived.Test.YthcejnpknjepfaaFk
import Derived.Test.YthcejnpknjepfaaOp
import Derived.ProofKit
import Derived.OpenShut
import Derived.Carry
namespace Go.Proofs.Ythcejnpknjepfaa
open Go.ChangeShapes Go.WideShapes Go.RowKit

set_option maxRecDepth 100000
theorem Try.own : ownKnob Try.prog.godebug = none := by kernel_rfl
theorem Try.laidOut : laidOutB Try.prog = true := by kernel_rfl
/-- A value of type Type that was handed in. -/
theorem open_type {H : Type} {enc : TypeId × Value → H} {W : World} {r : Reach} {b0 : Nat} {v : Value} {d : DataW H} {ps : List MemPlace} (hval : Value.okWide Try.prog W r b0 24 v) (h : DataW.Trod enc Try.prog W 0 (fun _ => true) true 24 v d ps) (hz : ∀ x ∈ d.weights Try.prog 24, x ≤ reachBytes) :
    ∃ (n : Nat) (t : Tn n), TyAt W W.heap.size n v t := by
  obtain ⟨cs, rfl, _⟩ := okWide_struct Try.underlying24 hval
  obtain ⟨fuel, hf⟩ := h
  obtain ⟨k, s, u, t, hcs, ht⟩ := open_cells fuel _ _ hf hz
  refine ⟨fuel, t, ?_⟩
  have : cs = #[.int .i64 k, .string s, u] := by
    have h2 : cs.toList = [.int .i64 k, .string s, u] := hcs
    have h3 : cs = cs.toList.toArray := by simp
    rw [h3, h2]
  rw [this]
  exact ht
/-- A text that was handed in. -/
theorem open_text {H : Type} {enc : TypeId × Value → H} {W : World} {r : Reach} {b0 : Nat} {v : Value} {d : DataW H} {ps : List MemPlace} (hval : Value.okWide Try.prog W r b0 9 v) (h : DataW.Trod enc Try.prog W 0 (fun _ => true) true 9 v d ps) (hz : ∀ x ∈ d.weights Try.prog 9, x ≤ reachBytes) :
    ∃ l : List UInt8, v = strV l ∧ l.length < 140737488355328 := by
  obtain ⟨s, rfl⟩ := okWide_string Try.underlying9 hval
  obtain ⟨fuel, hf⟩ := h
  obtain ⟨s', e1, hy1, _⟩ := DataW.trod_string Try.underlying9 hf
  have e1 : s = s' := by simpa [Value.cells] using e1
  subst e1
  have hd : d = .lit (.string s.data.toList) := congrArg Prod.fst hy1
  have := hz s.data.toList.length (by rw [hd]; simp [DataW.weights])
  unfold reachBytes at this
  exact ⟨s.data.toList, rfl, by omega⟩
set_option maxRecDepth 100000 in
theorem typesBack_lifted (hP : Prints 6) (hR : Reads 7) (hA : Wakes) (os : Os) (started : os.Started) (H : Type) (enc : TypeId × Value → H) :
    ReturnsInHanded {} Try.checked os 3 .any (Rows.typesBackSpec.pre6 enc Try.prog Try.f3 Rows.typesBackRow.domain false) (Rows.typesBackSpec.post enc Try.prog Try.f3 false true false false) := by
  refine returnsInHanded_of_change_sized (C := Try.checked) Try.own started (by kernel_rfl) Try.func3
    (ChangeSpec.witness6 (enc := enc) (C := Try.checked) false ⟨#[], #[zeroT, .string ⟨#[]⟩], []⟩ 8 (by kernel_rfl) (by kernel_rfl) (by kernel_rfl) (by kernel_rfl)) ?_
  intro W base args ds gs before hval0 hW _ hsz0 _
  have hval : ∀ (j : Nat) t v, Try.f3.params[j]? = some t → args[j]? = some v → Value.okWide Try.prog W .any base t v := hval0
  have hsz : (DataW.weightsEach Try.prog (Try.f3.params.toList ++ Rows.typesBackSpec.plain.varTypes Try.prog) (ds ++ gs)).all (· ≤ reachBytes) = true := hsz0
  have hW' := hW
  obtain ⟨p, q, hA0, hV0, rfl, hfz, hnd⟩ := hW
  have hA1 : DataW.TrodAll enc Try.prog W 0 (fun _ => true) true Try.f3.params.toList args.toList ds p := hA0
  have hV : DataW.TrodVars enc Try.prog W (fun _ => true) [] gs q := hV0
  rw [Try.params3] at hA1 hval hsz
  obtain ⟨v0, v1, d0, d1, p0, p1, rfl, rfl, rfl, h0, h1⟩ := trodAll_two hA1
  obtain ⟨rfl, rfl⟩ := trodVars_none hV
  have z0 : ∀ x ∈ d0.weights Try.prog 24, x ≤ reachBytes := fun x hx => by simpa using List.all_eq_true.1 hsz _ (DataW.weights_mem_each (j := 0) (t := 24) rfl rfl x hx)
  have z1 : ∀ x ∈ d1.weights Try.prog 9, x ≤ reachBytes := fun x hx => by simpa using List.all_eq_true.1 hsz _ (DataW.weights_mem_each (j := 1) (t := 9) rfl rfl x hx)
  obtain ⟨n, t, hT⟩ := open_type (hval 0 24 v0 rfl rfl) h0 z0
  obtain ⟨l, hv1, hl⟩ := open_text (hval 1 9 v1 rfl rfl) h1 z1
  subst hv1
  have hlt : ∀ x ∈ p0 ++ p1, x.block < W.heap.size := fun x hx => by simpa using hW'.lt x (by simpa using hx)
  have e1 : Rows.typesBackSpec.fn H ([d0, d1] ++ []) = { results := [.lit (.bool true)], args := [d0, d1] } := rfl
  refine (back_any hP hR hA n v0 t l W hT hl).mono fun e W' ⟨he, hbel⟩ => ?_
  subst he
  refine ⟨_, rfl, _, _, _, [], p0 ++ p1, [], hW', ?_, ?_, ?_, hbel.frame _, fun h => by cases h⟩
  · rw [e1]; exact trodAll_mk1 (shut_bool Try.underlying4 true)
  · rw [e1]; exact trodAll_mk2 (Below.trod Try.laidOut (by kernel_rfl) (of_decide_eq_true (by kernel_rfl)) h0 hbel (fun x hx => hlt x (List.mem_append_left _ hx))) (Below.trod Try.laidOut (by kernel_rfl) (of_decide_eq_true (by kernel_rfl)) h1 hbel (fun x hx => hlt x (List.mem_append_right _ hx)))
  · rw [e1]; rfl

theorem typesBack_row (hP : Prints 6) (hR : Reads 7) (hA : Wakes) : Rows.TypesBackSaid :=
  OpenClaim.holds_of_wide 3 Try.f3 rfl rfl rfl rfl rfl rfl rfl ⟨rfl, rfl, rfl, rfl, rfl⟩ rfl rfl rfl rfl rfl (by kernel_rfl) Try.func3 (by kernel_rfl)
    (of_decide_eq_true (by kernel_rfl)) (by unfold Func.isWrapper; rw [if_neg (of_decide_eq_false (by kernel_rfl))]; exact ⟨rfl, rfl⟩)
    (fun os started H enc _ => typesBack_lifted hP hR hA os started H enc)

theorem typesBack_holds : Rows.TypesBackSaid := typesBack_row print_any read_all wake_all
#print axioms typesBack_holds
end Go.Proofs.Ythcejnpknjepfaa
