/- The contracts of api.Seen: nothing of nil; of a *api.Fault what it holds. -/
import Derived.Test.YtkfhdmkdkphmoaaGreatDoorAs
import Derived.Test.YtkfhdmkdkphmoaaGreatDoorTokW
namespace Go.Proofs.YtkfhdmkdkphmoaaGreatDoor
open Go.RowKit

/-- The handle of the type error, which errors.As reads. -/
def Et (w : World) : Prop := w.cell? ⟨1, 0, none⟩ = some (.iface 97 (.agg #[.pointer (some ⟨6, 30, none⟩)]))
theorem Et.below {B : Nat} {w w' : World} (h : Et w) (hb : Below B w w') (h1 : 1 < B) : Et w' := (hb.cell (p := ⟨1, 0, none⟩) h1).trans h

theorem seen_nil (w : World) : Calls Tryz.prog 13 #[.nilIface] w fun e w' => e = .returned (.tuple #[.agg #[.int .i64 0, .int .i64 0, .int .i64 0, .string ⟨#[]⟩], .bool true]) ∧ Below w.heap.size w w' := by
  go_enter Tryz.func13, Tryz.ntmps13
  go_wp2
  refine bodyPost_ret (v := .tuple #[.agg #[.int .i64 0, .int .i64 0, .int .i64 0, .string ⟨#[]⟩], .bool true]) (by simp [results, Tryz.results13, go_sem, *]) rfl ?_
  exact ⟨rfl, (Below.refl _ _).alloc (Nat.le_refl _) _⟩

set_option maxHeartbeats 400000 in
set_option maxRecDepth 10000 in
theorem seen_fault (b : Nat) (c p : Int) (w : World) (hE : Et w) (h0 : 1 < w.heap.size) (hb : w.heap[b]? = some (.cells #[.int .i64 c, .int .i64 0, .int .i64 p, .string ⟨#[]⟩] 26 (0, 0))) :
    Calls Tryz.prog 13 #[.iface 45 (.pointer (some ⟨b, 0, none⟩))] w fun e w' => e = .returned (.tuple #[.agg #[.int .i64 c, .int .i64 0, .int .i64 p, .string ⟨#[]⟩], .bool true]) ∧ Below w.heap.size w w' := by
  have hb' := (Array.getElem?_eq_some_iff.1 hb).1
  have AH : Calls Tryz.prog 36 #[.iface 45 (.pointer (some ⟨b, 0, none⟩)), .iface 61 (.pointer (some ⟨w.heap.size + 1, 0, none⟩))] ((w.alloc (.cells #[.int .i64 0, .int .i64 0, .int .i64 0, .string ⟨#[]⟩] 26)).alloc (.cells #[.pointer none] 45)) fun ev w' =>
      ev = .returned (.bool true) ∧ w'.heap[w.heap.size]? = some (.cells #[.int .i64 0, .int .i64 0, .int .i64 0, .string ⟨#[]⟩] 26 (0, 0)) ∧ w'.cell? ⟨w.heap.size + 1, 0, none⟩ = some (.pointer (some ⟨b, 0, none⟩)) ∧ Below w.heap.size w w' := by
    refine Calls.mono (as_hit ⟨b, 0, none⟩ ⟨w.heap.size + 1, 0, none⟩ (.pointer none) ((w.alloc (.cells #[.int .i64 0, .int .i64 0, .int .i64 0, .string ⟨#[]⟩] 26)).alloc (.cells #[.pointer none] 45)) (by rw [World.cell?_alloc_lt _ _ ⟨1, 0, none⟩ (by simp; omega), World.cell?_alloc_lt _ _ ⟨1, 0, none⟩ h0]; exact hE) (by simp) (by simp)) ?_
    rintro ev w' ⟨rfl, rfl⟩
    refine ⟨rfl, ?_, ?_, ?_⟩
    · rw [Below.heap_setCell _ _ _ _ (by simp)]
      rw [Below.heap_alloc _ _ _ (by simp; omega), Below.heap_alloc _ _ _ (by simp; omega), Below.heap_alloc _ _ _ (by simp; omega), Below.heap_alloc _ _ _ (by simp; omega), Below.heap_alloc _ _ _ (by simp)]
      show (w.heap.push _)[w.heap.size]? = _
      simp
    · exact World.cell?_setCell_same _ _ _ (u := .pointer none) (by rw [World.cell?_alloc_lt _ _ ⟨w.heap.size + 1, 0, none⟩ (by simp), World.cell?_alloc_lt _ _ ⟨w.heap.size + 1, 0, none⟩ (by simp), World.cell?_alloc_lt _ _ ⟨w.heap.size + 1, 0, none⟩ (by simp), World.cell?_alloc_lt _ _ ⟨w.heap.size + 1, 0, none⟩ (by simp)]; simp)
    · refine Below.setCell ?_ (by simp) _
      exact ((((((Below.refl _ w).alloc (Nat.le_refl _) _).alloc (by simp) _).alloc (by simp; omega) _).alloc (by simp; omega) _).alloc (by simp; omega) _).alloc (by simp; omega) _
  have AH2 : Calls Tryz.prog 36 #[.iface 45 (.pointer (some ⟨b, 0, none⟩)), .iface 61 (.pointer (some ⟨w.heap.size + 1, 0, none⟩))] ((w.alloc (.cells #[.int .i64 0, .int .i64 0, .int .i64 0, .string ⟨#[]⟩] 26)).alloc (.cells #[.pointer none] 45)) fun ev w' =>
      ev = .returned (.bool true) ∧ w'.cell? ⟨w.heap.size + 1, 0, none⟩ = some (.pointer (some ⟨b, 0, none⟩)) ∧ Below w.heap.size w w' ∧
      (w'.cell? ⟨b, 0, none⟩ = some (.int .i64 c) ∧ w'.cell? ⟨b, 1, none⟩ = some (.int .i64 0) ∧ w'.cell? ⟨b, 2, none⟩ = some (.int .i64 p) ∧ w'.cell? ⟨b, 3, none⟩ = some (.string ⟨#[]⟩)) ∧
      (w'.cell? ⟨w.heap.size, 0, none⟩ = some (.int .i64 0) ∧ w'.cell? ⟨w.heap.size, 1, none⟩ = some (.int .i64 0) ∧ w'.cell? ⟨w.heap.size, 2, none⟩ = some (.int .i64 0) ∧ w'.cell? ⟨w.heap.size, 3, none⟩ = some (.string ⟨#[]⟩)) ∧
      (∀ i, w'.frozen? ⟨w.heap.size, i, none⟩ = false) := by
    refine Calls.mono AH ?_
    rintro ev w' ⟨rfl, hr, ht, hbel⟩
    have hb2 := (hbel.block b hb').trans hb
    exact ⟨rfl, ht, hbel, ⟨(cell_block hb2).trans rfl, (cell_block hb2).trans rfl, (cell_block hb2).trans rfl, (cell_block hb2).trans rfl⟩, ⟨(cell_block hr).trans rfl, (cell_block hr).trans rfl, (cell_block hr).trans rfl, (cell_block hr).trans rfl⟩, fun i => frozen_block hr⟩
  clear AH hb hE h0
  go_enter Tryz.func13, Tryz.ntmps13
  go_wp2_with (go_at_call 36; with_reducible refine Calls.mono AH2 ?_; rintro e w1 ⟨rfl, ht, hbel, ⟨k0, k1, k2, k3⟩, ⟨r0, r1, r2, r3⟩, hf⟩)
  refine bodyPost_ret (v := .tuple #[.agg #[.int .i64 c, .int .i64 0, .int .i64 p, .string ⟨#[]⟩], .bool true]) (by simp [results, Tryz.results13, go_sem, *]) rfl ?_
  exact ⟨rfl, (((hbel.setCell (by simp) _).setCell (by simp) _).setCell (by simp) _).setCell (by simp) _⟩
end Go.Proofs.YtkfhdmkdkphmoaaGreatDoor
