/- The law's own small functions: lists. -/
import Derived.Test.YtpdmkhnonbbhnaaVo
namespace Go.Proofs.Ytpdmkhnonbbhnaa
open Go.RowKit Go.Maps

/-- A family of two constructors that lies in three blocks of its own. -/
theorem fam2_at {w : World} {S : Nat → Prop} {A B C : Nat} {c : Array Value} {t : TypeId} (n1 n2 : Str) (i1 i2 : Int) (hA : w.heap[A]? = some (.cells #[.string ⟨n1.toArray⟩, .string ⟨n2.toArray⟩] 9 (0, 0))) (hB : w.heap[B]? = some (.cells #[.int .i64 i1, .int .i64 i2] 3 (0, 0))) (hC : w.heap[C]? = some (.cells c t (0, 0))) (o : Nat) (h0 : c[o]? = some (.slice (some ⟨A, 0, none⟩) 2 2)) (h1 : c[o + 1]? = some (.slice (some ⟨B, 0, none⟩) 2 2)) (sA : S A) (sB : S B) (sC : S C) (l1 : n1.length < 140737488355328) (l2 : n2.length < 140737488355328) :
    S C ∧ (∃ ad cap, w.cell? ⟨C, o, none⟩ = some (.slice ad (([n1, n2], [i1, i2]) : Fam).1.length cap) ∧ Strs w S (.slice ad (([n1, n2], [i1, i2]) : Fam).1.length cap) [n1, n2]) ∧ ∃ ad cap, w.cell? ⟨C, o + 1, none⟩ = some (.slice ad (([n1, n2], [i1, i2]) : Fam).2.length cap) ∧ Ints w S (.slice ad (([n1, n2], [i1, i2]) : Fam).2.length cap) [i1, i2] := by
  refine ⟨sC, ⟨_, _, heap_cell' hC h0, .inr ⟨A, 0, 2, rfl, by simp, by simp, fun j hj => ?_⟩⟩, _, _, heap_cell' hC h1, .inr ⟨B, 0, 2, rfl, by simp, by simp, fun j hj => ?_⟩⟩
  · match j, hj with
    | 0, _ => exact ⟨sA, heap_cell' hA rfl, l1⟩
    | 1, _ => exact ⟨sA, heap_cell' hA rfl, l2⟩
  · match j, hj with
    | 0, _ => exact ⟨sB, heap_cell' hB rfl⟩
    | 1, _ => exact ⟨sB, heap_cell' hB rfl⟩
def listF : Fam := ([[78, 105, 108], [67, 111, 110, 115]], [0, 2])
set_option maxHeartbeats 4000000 in
set_option maxRecDepth 10000 in
theorem lists_any (w : World) : Calls Try.prog 15 #[] w fun r w' => Below w.heap.size w w' ∧ r = .returned (.slice (some ⟨w.heap.size + 2, 0, none⟩) 1 1) ∧ w'.heap.size = w.heap.size + 3 ∧ Fams w' (fun y => w.heap.size ≤ y ∧ y < w'.heap.size) (.slice (some ⟨w.heap.size + 2, 0, none⟩) 1 1) [listF] := by
  go_enter Try.func15, Try.ntmps15
  go_wp2
  refine bodyPost_ret (v := .slice (some ⟨w.heap.size + 2, 0, none⟩) 1 1) (by simp [results, Try.results15, go_sem]) rfl ?_
  obtain ⟨W1, h1⟩ : ∃ W1, W1 = w.alloc (Obj.cells #[.string ⟨#[78, 105, 108]⟩, .string ⟨#[67, 111, 110, 115]⟩] 9) := ⟨_, rfl⟩
  rw [← h1]
  obtain ⟨W2, h2⟩ : ∃ W2, W2 = W1.alloc (Obj.cells #[.int .i64 0, .int .i64 2] 3) := ⟨_, rfl⟩
  rw [← h2]
  obtain ⟨W3, h3⟩ : ∃ W3, W3 = W2.alloc (Obj.cells #[.slice (some ⟨w.heap.size, 0, none⟩) 2 2, .slice (some ⟨w.heap.size + 1, 0, none⟩) 2 2] 47) := ⟨_, rfl⟩
  rw [← h3]
  have s1 : W1.heap.size = w.heap.size + 1 := by rw [h1]; simp
  have s2 : W2.heap.size = w.heap.size + 2 := by rw [h2]; simp [s1]
  have s3 : W3.heap.size = w.heap.size + 3 := by rw [h3]; simp [s2]
  have e1 : W1.heap[w.heap.size]? = some (.cells #[.string ⟨#[78, 105, 108]⟩, .string ⟨#[67, 111, 110, 115]⟩] 9 (0, 0)) := by rw [h1]; exact new_block w _
  have e2 : W2.heap[w.heap.size + 1]? = some (.cells #[.int .i64 0, .int .i64 2] 3 (0, 0)) := by rw [h2, ← s1]; exact new_block W1 _
  have e3 : W3.heap[w.heap.size + 2]? = some (.cells #[.slice (some ⟨w.heap.size, 0, none⟩) 2 2, .slice (some ⟨w.heap.size + 1, 0, none⟩) 2 2] 47 (0, 0)) := by rw [h3, ← s2]; exact new_block W2 _
  have k1 : W3.heap[w.heap.size]? = W1.heap[w.heap.size]? := by rw [h3, Below.heap_alloc _ _ _ (by omega), h2, Below.heap_alloc _ _ _ (by omega)]
  have k2 : W3.heap[w.heap.size + 1]? = W2.heap[w.heap.size + 1]? := by rw [h3, Below.heap_alloc _ _ _ (by omega)]
  refine ⟨?_, rfl, s3, .inr ⟨w.heap.size + 2, 0, 1, rfl, by simp, by simp, fun j hj => ?_⟩⟩
  · rw [h3, h2, h1]
    exact (((Below.refl _ _).alloc (Nat.le_refl _) _).alloc (by simp) _).alloc (by simp; omega) _
  · match j, hj with
    | 0, _ => exact fam2_at (S := fun y => w.heap.size ≤ y ∧ y < W3.heap.size) [78, 105, 108] [67, 111, 110, 115] 0 2 (k1.trans e1) (k2.trans e2) e3 0 rfl rfl ⟨Nat.le_refl _, by omega⟩ ⟨by omega, by omega⟩ ⟨by omega, by omega⟩ (by simp) (by simp)
end Go.Proofs.Ytpdmkhnonbbhnaa
