/- What is handed in: types and texts. -/
import Derived.Test.YtikpipenhamdbaaOp
import Derived.Test.YtikpipenhamdbaaMcx
import Derived.ProofKit
import Derived.OpenShut
import Derived.Carry
namespace Go.Proofs.Ytikpipenhamdbaa
open Go.ChangeShapes Go.WideShapes Go.RowKit

set_option maxRecDepth 100000
theorem Try.own : ownKnob Try.prog.godebug = none := by kernel_rfl
theorem Try.laidOut : laidOutB Try.prog = true := by kernel_rfl
/-- A value of type Type that was handed in. -/
theorem open_type {H : Type} {enc : TypeId × Value → H} {W : World} {r : Reach} {b0 : Nat} {v : Value} {d : DataW H} {ps : List MemPlace} (hval : Value.okWide Try.prog W r b0 31 v) (h : DataW.Trod enc Try.prog W 0 (fun _ => true) true 31 v d ps) (hz : ∀ x ∈ d.weights Try.prog 31, x ≤ reachBytes) :
    ∃ (n : Nat) (t : Tn n), TyAt W W.heap.size n v t := by
  obtain ⟨cs, rfl, _⟩ := okWide_struct Try.underlying31 hval
  obtain ⟨fuel, hf⟩ := h
  obtain ⟨k, s, u, t, hcs, ht⟩ := open_cells fuel _ _ hf hz
  refine ⟨fuel, t, ?_⟩
  have : cs = #[.int .i64 k, .string s, u] := by
    have h2 : cs.toList = [.int .i64 k, .string s, u] := hcs
    have h3 : cs = cs.toList.toArray := by simp
    rw [h3, h2]
  rw [this]
  exact ht
/-- A text that was handed in. -/
theorem open_text {H : Type} {enc : TypeId × Value → H} {W : World} {r : Reach} {b0 : Nat} {v : Value} {d : DataW H} {ps : List MemPlace} (hval : Value.okWide Try.prog W r b0 9 v) (h : DataW.Trod enc Try.prog W 0 (fun _ => true) true 9 v d ps) (hz : ∀ x ∈ d.weights Try.prog 9, x ≤ reachBytes) :
    ∃ l : List UInt8, v = strV l ∧ l.length < 140737488355328 := by
  obtain ⟨s, rfl⟩ := okWide_string Try.underlying9 hval
  obtain ⟨fuel, hf⟩ := h
  obtain ⟨s', e1, hy1, _⟩ := DataW.trod_string Try.underlying9 hf
  have e1 : s = s' := by simpa [Value.cells] using e1
  subst e1
  have hd : d = .lit (.string s.data.toList) := congrArg Prod.fst hy1
  have := hz s.data.toList.length (by rw [hd]; simp [DataW.weights])
  unfold reachBytes at this
  exact ⟨s.data.toList, rfl, by omega⟩
end Go.Proofs.Ytikpipenhamdbaa
