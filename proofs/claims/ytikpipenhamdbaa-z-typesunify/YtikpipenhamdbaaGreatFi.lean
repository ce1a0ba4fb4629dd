/- IndexAny at the three signs that end a word: any text. -/
import Derived.Test.YtikpipenhamdbaaGreatMaex
import Derived.Test.YtikpipenhamdbaaGreatSh
import Derived.Laws.Runes
import Derived.Laws.RangeAny
namespace Go.Proofs.YtikpipenhamdbaaGreat
open Go.RowKit

set_option maxHeartbeats 8000000 in
set_option maxRecDepth 10000 in
theorem rune_high (r : Int) (h : 128 ≤ r) (hr : r ≤ 2147483647) (w : World) : Calls Tryz.prog 98 #[.string ⟨#[32, 40, 41]⟩, .int .i32 r] w fun e w' => e = .returned (.int .i64 (-1)) ∧ Below w.heap.size w w' := by
 have h1 : (decide (0 ≤ r)) = true := by simp; omega
 have h2 : (decide (r < 128)) = false := by simp; omega
 have CV := Tryz.utf8_ValidRune r
 by_cases he : r = 65533
 ·subst he
  have n0 : ∀ ty, (Instr.next (.pointer (some ⟨w.heap.size, 0, none⟩)) true ty).run Tryz.prog (w.iter ⟨#[32, 40, 41]⟩ 0) = .ok (.tuple #[.bool true, .int .i64 0, .int .i32 32]) (w.iter ⟨#[32, 40, 41]⟩ 1) := fun ty => run_next_ascii w ⟨#[32, 40, 41]⟩ 0 ty (by decide) (by decide)
  have n1 : ∀ ty, (Instr.next (.pointer (some ⟨w.heap.size, 0, none⟩)) true ty).run Tryz.prog (w.iter ⟨#[32, 40, 41]⟩ 1) = .ok (.tuple #[.bool true, .int .i64 1, .int .i32 40]) (w.iter ⟨#[32, 40, 41]⟩ 2) := fun ty => run_next_ascii w ⟨#[32, 40, 41]⟩ 1 ty (by decide) (by decide)
  have n2 : ∀ ty, (Instr.next (.pointer (some ⟨w.heap.size, 0, none⟩)) true ty).run Tryz.prog (w.iter ⟨#[32, 40, 41]⟩ 2) = .ok (.tuple #[.bool true, .int .i64 2, .int .i32 41]) (w.iter ⟨#[32, 40, 41]⟩ 3) := fun ty => run_next_ascii w ⟨#[32, 40, 41]⟩ 2 ty (by decide) (by decide)
  have n3 : ∀ ty, (Instr.next (.pointer (some ⟨w.heap.size, 0, none⟩)) true ty).run Tryz.prog (w.iter ⟨#[32, 40, 41]⟩ 3) = .ok (.tuple #[.bool false]) (w.iter ⟨#[32, 40, 41]⟩ 3) := fun ty => run_next_end w ⟨#[32, 40, 41]⟩ 3 ty (by decide)
  have hbi : Below w.heap.size w (w.iter ⟨#[32, 40, 41]⟩ 3) := (Below.refl _ _).alloc (Nat.le_refl _) _
  go_enter Tryz.func98, Tryz.ntmps98
  go_wp2
  refine wp_loop_rounds 4 ?_
  rw [rounds_succ]
  go_wp2
  rw [rounds_succ]
  go_wp2
  rw [rounds_succ]
  go_wp2
  rw [rounds_succ]
  go_wp2
  go_ret
  exact ⟨rfl, hbi⟩
 ·have he2 : (r == 65533) = false := by simp [he]
  cases hv : Lib.validRune r with
  | false =>
   rw [hv] at CV
   go_enter Tryz.func98, Tryz.ntmps98
   go_wp2_with (first | (go_at_call 120; (with_reducible refine Calls.mono (CV _) ?_); rintro e' w1 ⟨rfl, rfl⟩))
   go_ret
   exact ⟨rfl, Below.refl _ _⟩
  | true =>
   rw [hv] at CV
   have hval : Utf8.valid r = true := by
    rw [Go.validRune_eq]
    exact hv
   obtain ⟨hz1, hz2, hz3⟩ := encode_facts r hval h
   have hcv : ∀ w, (convert 21 9 (.int .i32 r)).run Tryz.prog w = .ok (.string (Utf8.encode r)) w := fun w => run_convert_int_string w 21 9 .i32 r (by rw [Tryz.underlying21]; rfl) Tryz.underlying9
   generalize Utf8.encode r = rs at *
   have hN : rs.size = 2 ∨ rs.size = 3 ∨ rs.size = 4 := by omega
   rcases hN with hN | hN | hN
   ·obtain ⟨c, hc1, hc2, hix⟩ : ∃ c : Int, 128 ≤ c ∧ c < 256 ∧ ∀ w, (Instr.index 9 (.string rs) (.int .i64 1)).run Tryz.prog w = .ok (.int .u8 c) w := by
     have h3 := hz3 (by omega)
     refine ⟨((rs[1]'(by omega)).toNat : Nat), ?_, ?_, fun w => ?_⟩
     ·have e : rs.size - 1 = 1 := by omega
      simp only [e] at h3
      omega
     ·have := (rs[1]'(by omega)).toNat_lt
      omega
     ·rw [run_index_string w 9 rs .i64 1 Tryz.underlying9, dif_pos (by omega)]
      rfl
    have hil : ∀ w : World, (Instr.index 9 (.string ⟨#[32, 40, 41]⟩) (.int .i64 1)).run Tryz.prog w = .ok (.int .u8 40) w := fun w => by kernel_rfl
    have hne : ((40 : Int) != c) = true := by simp; omega
    have hne2 : ((40 : Int) == c) = false := by simp; omega
    have CB : ∀ w, Calls Tryz.prog 119 #[.string (ByteArray.extract ⟨#[32, 40, 41]⟩ 2 3), .int .u8 c] w fun e w' => e = .returned (.int .i64 (-1)) ∧ w' = w := fun w => by
     have := Tryz.strings_IndexByte (ByteArray.extract ⟨#[32, 40, 41]⟩ 2 3) c w
     have hl : (ByteArray.extract ⟨#[32, 40, 41]⟩ 2 3).data.toList = [41] := by kernel_rfl
     have hcc : c.toNat.toUInt8 ≠ 41 := fun e => by
      have := congrArg UInt8.toNat e
      simp at this
      omega
     rw [hl, show Lib.indexByte [41] c.toNat.toUInt8 = -1 from by simp [Lib.indexByte, Ne.symm hcc]] at this
     exact this
    clear hz1 hz2 hz3
    go_enter Tryz.func98, Tryz.ntmps98
    go_wp2_with (first | (go_at_call 120; (with_reducible refine Calls.mono (CV _) ?_); rintro e' w1 ⟨rfl, rfl⟩))
    go_step3
    go_wp2
    refine wp_loop_rounds 1 ?_
    rw [rounds_succ]
    go_wp2_with fail
    go_step3
    go_upto_region 6 with fail
    go_quiet (fail)
    go_upto_region 7 with fail
    go_region_with (first | (go_at_call 119; (with_reducible refine Calls.mono (CB _) ?_); rintro e' w5 ⟨rfl, rfl⟩))
    all_goals
     go_wp2
     try rw [Exit.noGoto_ret]
     try go_wp2
     try rw [Exit.noGoto_ret]
     try go_wp2
     go_ret
     exact ⟨rfl, ⟨rfl, rfl, rfl, Nat.le_refl _, fun _ _ => rfl⟩⟩
   ·obtain ⟨c, hc1, hc2, hix⟩ : ∃ c : Int, 128 ≤ c ∧ c < 256 ∧ ∀ w, (Instr.index 9 (.string rs) (.int .i64 2)).run Tryz.prog w = .ok (.int .u8 c) w := by
     have h3 := hz3 (by omega)
     refine ⟨((rs[2]'(by omega)).toNat : Nat), ?_, ?_, fun w => ?_⟩
     ·have e : rs.size - 1 = 2 := by omega
      simp only [e] at h3
      omega
     ·have := (rs[2]'(by omega)).toNat_lt
      omega
     ·rw [run_index_string w 9 rs .i64 2 Tryz.underlying9, dif_pos (by omega)]
      rfl
    have hil : ∀ w : World, (Instr.index 9 (.string ⟨#[32, 40, 41]⟩) (.int .i64 2)).run Tryz.prog w = .ok (.int .u8 41) w := fun w => by kernel_rfl
    have hne : ((41 : Int) != c) = true := by simp; omega
    have hne2 : ((41 : Int) == c) = false := by simp; omega
    have CB : ∀ w, Calls Tryz.prog 119 #[.string ByteArray.empty, .int .u8 c] w fun e w' => e = .returned (.int .i64 (-1)) ∧ w' = w := fun w => by
     exact Tryz.strings_IndexByte ByteArray.empty c w
    clear hz1 hz2 hz3
    go_enter Tryz.func98, Tryz.ntmps98
    go_wp2_with (first | (go_at_call 120; (with_reducible refine Calls.mono (CV _) ?_); rintro e' w1 ⟨rfl, rfl⟩))
    go_step3
    go_wp2
    refine wp_loop_rounds 1 ?_
    rw [rounds_succ]
    go_wp2_with fail
    go_step3
    go_upto_region 6 with fail
    go_quiet (fail)
    go_upto_region 7 with fail
    go_region_with (first | (go_at_call 119; (with_reducible refine Calls.mono (CB _) ?_); rintro e' w5 ⟨rfl, rfl⟩))
    all_goals
     go_wp2
     try rw [Exit.noGoto_ret]
     try go_wp2
     try rw [Exit.noGoto_ret]
     try go_wp2
     go_ret
     exact ⟨rfl, ⟨rfl, rfl, rfl, Nat.le_refl _, fun _ _ => rfl⟩⟩
   ·clear hz1 hz2 hz3
    go_enter Tryz.func98, Tryz.ntmps98
    go_wp2_with (first | (go_at_call 120; (with_reducible refine Calls.mono (CV _) ?_); rintro e' w1 ⟨rfl, rfl⟩))
    go_step3
    go_wp2
    refine wp_loop_rounds 1 ?_
    rw [rounds_succ]
    go_wp2
    try rw [Exit.noGoto_ret]
    go_ret
    exact ⟨rfl, Below.refl _ _⟩
end Go.Proofs.YtikpipenhamdbaaGreat
