/- Load's deferred closure. -/
import Derived.Test.YtlpnegnpejpdkaaGreatDoorMhx
import Derived.Defers
import Derived.Recover
namespace Go.Proofs.YtlpnegnpejpdkaaGreatDoor
open Go.RowKit

set_option maxRecDepth 10000 in
theorem given_any (c : Int) (w : World) : Calls Tryz.prog 49 #[.iface 28 (.int .i64 c)] w fun r w' => r = .returned (.int .i64 c) ∧ w' = w := by
  have qa : (Instr.typeAssert (.iface 28 (.int .i64 c)) 20 28 true).run Tryz.prog w = .ok (.tuple #[.int .i64 c, .bool true]) w := by kernel_rfl
  go_enter Tryz.func49, Tryz.ntmps49
  go_wp2
  go_ret
  exact ⟨rfl, rfl⟩
set_option maxRecDepth 10000 in
theorem load_caught {A B : Nat} (c : Int) {x y z : Value} (older : List PanicEntry) (w : World) (x0 : w.cell? ⟨A, 0, none⟩ = some x) (x1 : w.cell? ⟨A, 1, none⟩ = some y) (x2 : w.cell? ⟨B, 0, none⟩ = some z) (f0 : w.frozen? ⟨A, 0, none⟩ = false) (f1 : w.frozen? ⟨A, 1, none⟩ = false) (f2 : w.frozen? ⟨B, 0, none⟩ = false) (hAB : A ≠ B) :
    CallsD Tryz.prog 62 #[.pointer (some ⟨A, 0, none⟩), .pointer (some ⟨B, 0, none⟩)] (.panicking ({ v := .iface 28 (.int .i64 c), recovered := false } :: older)) w fun e u' w' =>
      e = .returned (.tuple #[]) ∧ u' = .panicking ({ v := .iface 28 (.int .i64 c), recovered := true } :: older) ∧ w' = ((w.setCell ⟨A, 0, none⟩ (.slice none 0 0)).setCell ⟨A, 1, none⟩ (.slice none 0 0)).setCell ⟨B, 0, none⟩ (.int .i64 c) := by
  have CG := given_any c w
  have hBA : B ≠ A := fun e => hAB e.symm
  refine callsD_of_wpS Tryz.func62 rfl fun c₀ cs hu => ?_
  apply wpS_seq
  apply wpS_region
  simp [wpOpsS, go_sem, recoverD, hu, Tryz.ntmps62, Exit.thenS]
  refine wpS_of_wp ?_
  go_wp2_with (go_at_call 49; (with_reducible refine Calls.mono CG ?_); rintro e2 w2 ⟨rfl, hw⟩; obtain rfl := hw.symm; clear hw)
  exact ⟨rfl, _, rfl, _, by simp [results, Tryz.results62, go_sem], rfl, rfl, rfl⟩
set_option maxRecDepth 10000 in
theorem load_idle (p q : Value) (w : World) :
    CallsD Tryz.prog 62 #[p, q] .returning w fun e u' w' => e = .returned (.tuple #[]) ∧ u' = .returning ∧ w' = w := by
  refine callsD_of_wpS Tryz.func62 rfl fun c₀ cs hu => ?_
  apply wpS_seq
  apply wpS_region
  simp [wpOpsS, go_sem, recoverD, hu, Tryz.ntmps62, Exit.thenS]
  refine wpS_of_wp ?_
  go_wp2
  cases c₀
  simp_all [bodyPostS, results, Tryz.results62]
end Go.Proofs.YtlpnegnpejpdkaaGreatDoor
