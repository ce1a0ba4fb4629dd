/- faulted of a fault that is just this: true. -/
import Derived.Test.YtkfhdmkdkphmoaaGreatDoorSe
import Derived.Test.YtkfhdmkdkphmoaaGreatDoorRowt
namespace Go.Proofs.YtkfhdmkdkphmoaaGreatDoor
open Go.RowKit

theorem Tryz.su26 : Tryz.prog.underlying 26 = some (.struct (Tryz.prog.fieldsOf 26)) := by kernel_rfl
theorem Tryz.sh26 : Tryz.prog.stoodInHeld 26 = false := by kernel_rfl
theorem Tryz.eg26 : Tryz.prog.eqGuardType Tryz.prog.depth 26 = false := by kernel_rfl
theorem eq_fault (c p : Int) (w : World) : (binOp .eql 26 (.agg #[.int .i64 c, .int .i64 0, .int .i64 p, .string ⟨#[]⟩]) (.agg #[.int .i64 c, .int .i64 0, .int .i64 p, .string ⟨#[]⟩])).run Tryz.prog w = .ok (.bool true) w := by
  rw [run_eql_struct, run_equalIn_agg w 9999 26 _ _ Tryz.su26 Tryz.sh26]
  simp only [go_sem, Tryz.underlying26]
  simp [go_sem, Tryz.underlying3, Tryz.underlying9, Tryz.underlying24]

set_option maxHeartbeats 1000000 in
theorem faulted_hit (b : Nat) (c p : Int) (w : World) (hc : ¬ c = 0) (hE : Et w) (h0 : 1 < w.heap.size) (hb : w.heap[b]? = some (.cells #[.int .i64 c, .int .i64 0, .int .i64 p, .string ⟨#[]⟩] 26 (0, 0))) :
    Calls Tryz.prog 7 #[.iface 45 (.pointer (some ⟨b, 0, none⟩)), .agg #[.int .i64 c, .int .i64 0, .int .i64 p, .string ⟨#[]⟩]] w fun e w' => e = .returned (.bool true) ∧ Below w.heap.size w w' := by
  have hb' := lt_of_heap hb
  have hA := (Below.refl w.heap.size w).alloc (Nat.le_refl _) (.cells #[.int .i64 c, .int .i64 0, .int .i64 p, .string ⟨#[]⟩] 26)
  have hr : (w.alloc (.cells #[.int .i64 c, .int .i64 0, .int .i64 p, .string ⟨#[]⟩] 26)).heap[w.heap.size]? = some (.cells #[.int .i64 c, .int .i64 0, .int .i64 p, .string ⟨#[]⟩] 26 (0, 0)) := by
    show (w.heap.push _)[w.heap.size]? = _
    simp
  have SN : Calls Tryz.prog 13 #[.iface 45 (.pointer (some ⟨b, 0, none⟩))] (w.alloc (.cells #[.int .i64 c, .int .i64 0, .int .i64 p, .string ⟨#[]⟩] 26)) fun e w' => e = .returned (.tuple #[.agg #[.int .i64 c, .int .i64 0, .int .i64 p, .string ⟨#[]⟩], .bool true]) ∧ Below w.heap.size w w' ∧
      (w'.cell? ⟨w.heap.size, 0, none⟩ = some (.int .i64 c) ∧ w'.cell? ⟨w.heap.size, 1, none⟩ = some (.int .i64 0) ∧ w'.cell? ⟨w.heap.size, 2, none⟩ = some (.int .i64 p) ∧ w'.cell? ⟨w.heap.size, 3, none⟩ = some (.string ⟨#[]⟩)) ∧ w.heap.size < w'.heap.size := by
    refine Calls.mono (seen_fault b c p _ (hE.below hA h0) (by simp; omega) ((hA.block b hb').trans hb)) ?_
    rintro e w' ⟨rfl, hbel⟩
    have hr' := (hbel.block w.heap.size (by simp)).trans hr
    exact ⟨rfl, hA.trans (hbel.mono (by simp)), ⟨(cell_block hr').trans rfl, (cell_block hr').trans rfl, (cell_block hr').trans rfl, (cell_block hr').trans rfl⟩, lt_of_heap hr'⟩
  have EQ := eq_fault c p
  clear hb hE h0 hA hr hb'
  go_enter Tryz.func7, Tryz.ntmps7
  go_wp2_with (go_at_call 13; with_reducible refine Calls.mono SN ?_; rintro e w1 ⟨rfl, hb1, ⟨q0, q1, q2, q3⟩, hlt⟩)
  have d0 := (World.cell?_alloc_lt w1 (.cells #[.int .i64 c, .int .i64 0, .int .i64 p, .string ⟨#[]⟩] 26) ⟨w.heap.size, 0, none⟩ hlt).trans q0
  have d1 := (World.cell?_alloc_lt w1 (.cells #[.int .i64 c, .int .i64 0, .int .i64 p, .string ⟨#[]⟩] 26) ⟨w.heap.size, 1, none⟩ hlt).trans q1
  have d2 := (World.cell?_alloc_lt w1 (.cells #[.int .i64 c, .int .i64 0, .int .i64 p, .string ⟨#[]⟩] 26) ⟨w.heap.size, 2, none⟩ hlt).trans q2
  have d3 := (World.cell?_alloc_lt w1 (.cells #[.int .i64 c, .int .i64 0, .int .i64 p, .string ⟨#[]⟩] 26) ⟨w.heap.size, 3, none⟩ hlt).trans q3
  have hr2 : (w1.alloc (.cells #[.int .i64 c, .int .i64 0, .int .i64 p, .string ⟨#[]⟩] 26)).heap[w1.heap.size]? = some (.cells #[.int .i64 c, .int .i64 0, .int .i64 p, .string ⟨#[]⟩] 26 (0, 0)) := by
    show (w1.heap.push _)[w1.heap.size]? = _
    simp
  have f0 : _ = some _ := (cell_block (i := 0) hr2).trans rfl
  have f1 : _ = some _ := (cell_block (i := 1) hr2).trans rfl
  have f2 : _ = some _ := (cell_block (i := 2) hr2).trans rfl
  have f3 : _ = some _ := (cell_block (i := 3) hr2).trans rfl
  have hbW := hb1.alloc hb1.size (.cells #[.int .i64 c, .int .i64 0, .int .i64 p, .string ⟨#[]⟩] 26)
  clear hr2 q0 q1 q2 q3 hb1 SN
  generalize w1.alloc (.cells #[.int .i64 c, .int .i64 0, .int .i64 p, .string ⟨#[]⟩] 26) = W2 at *
  have hE := Tryz.eg26
  go_quiet (fail)
  go_wp2
  go_ret
  exact ⟨ret_bool (by simp [hc]), below_drewN hbW _⟩
end Go.Proofs.YtkfhdmkdkphmoaaGreatDoor
