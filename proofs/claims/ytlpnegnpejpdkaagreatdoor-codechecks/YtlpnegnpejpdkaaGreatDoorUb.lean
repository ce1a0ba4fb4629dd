/- IndexAny at the signs that end a word: any text. -/
import Derived.Test.YtlpnegnpejpdkaaGreatDoorUa
import Derived.Test.YtlpnegnpejpdkaaGreatDoorKa
import Derived.Deep.RegionHeld3
import Derived.Deep.Cut
import Derived.BigQuiet
import Derived.Laws.Runes
import Derived.Laws.RangeAny
namespace Go.Proofs.YtlpnegnpejpdkaaGreatDoor
open Go.RowKit

set_option maxHeartbeats 8000000 in
set_option maxRecDepth 10000 in
theorem rune_high (r : Int) (h : 128 ≤ r) (hr : r ≤ 2147483647) (w : World) : Calls Tryz.prog 128 #[.string ⟨#[32, 9, 10, 13, 34]⟩, .int .i32 r] w fun e w' => e = .returned (.int .i64 (-1)) ∧ Below w.heap.size w w' := by
  have h1 : (decide (0 ≤ r)) = true := by simp; omega
  have h2 : (decide (r < 128)) = false := by simp; omega
  have CV := Tryz.utf8_ValidRune r
  by_cases he : r = 65533
  · subst he
    have n0 : ∀ ty, (Instr.next (.pointer (some ⟨w.heap.size, 0, none⟩)) true ty).run Tryz.prog (w.iter ⟨#[32, 9, 10, 13, 34]⟩ 0) = .ok (.tuple #[.bool true, .int .i64 0, .int .i32 32]) (w.iter ⟨#[32, 9, 10, 13, 34]⟩ 1) := fun ty => run_next_ascii w ⟨#[32, 9, 10, 13, 34]⟩ 0 ty (by decide) (by decide)
    have n1 : ∀ ty, (Instr.next (.pointer (some ⟨w.heap.size, 0, none⟩)) true ty).run Tryz.prog (w.iter ⟨#[32, 9, 10, 13, 34]⟩ 1) = .ok (.tuple #[.bool true, .int .i64 1, .int .i32 9]) (w.iter ⟨#[32, 9, 10, 13, 34]⟩ 2) := fun ty => run_next_ascii w ⟨#[32, 9, 10, 13, 34]⟩ 1 ty (by decide) (by decide)
    have n2 : ∀ ty, (Instr.next (.pointer (some ⟨w.heap.size, 0, none⟩)) true ty).run Tryz.prog (w.iter ⟨#[32, 9, 10, 13, 34]⟩ 2) = .ok (.tuple #[.bool true, .int .i64 2, .int .i32 10]) (w.iter ⟨#[32, 9, 10, 13, 34]⟩ 3) := fun ty => run_next_ascii w ⟨#[32, 9, 10, 13, 34]⟩ 2 ty (by decide) (by decide)
    have n3 : ∀ ty, (Instr.next (.pointer (some ⟨w.heap.size, 0, none⟩)) true ty).run Tryz.prog (w.iter ⟨#[32, 9, 10, 13, 34]⟩ 3) = .ok (.tuple #[.bool true, .int .i64 3, .int .i32 13]) (w.iter ⟨#[32, 9, 10, 13, 34]⟩ 4) := fun ty => run_next_ascii w ⟨#[32, 9, 10, 13, 34]⟩ 3 ty (by decide) (by decide)
    have n4 : ∀ ty, (Instr.next (.pointer (some ⟨w.heap.size, 0, none⟩)) true ty).run Tryz.prog (w.iter ⟨#[32, 9, 10, 13, 34]⟩ 4) = .ok (.tuple #[.bool true, .int .i64 4, .int .i32 34]) (w.iter ⟨#[32, 9, 10, 13, 34]⟩ 5) := fun ty => run_next_ascii w ⟨#[32, 9, 10, 13, 34]⟩ 4 ty (by decide) (by decide)
    have n5 : ∀ ty, (Instr.next (.pointer (some ⟨w.heap.size, 0, none⟩)) true ty).run Tryz.prog (w.iter ⟨#[32, 9, 10, 13, 34]⟩ 5) = .ok (.tuple #[.bool false]) (w.iter ⟨#[32, 9, 10, 13, 34]⟩ 5) := fun ty => run_next_end w ⟨#[32, 9, 10, 13, 34]⟩ 5 ty (by decide)
    have hbi : Below w.heap.size w (w.iter ⟨#[32, 9, 10, 13, 34]⟩ 5) := (Below.refl _ _).alloc (Nat.le_refl _) _
    go_enter Tryz.func128, Tryz.ntmps128
    go_wp2
    refine wp_loop_rounds 6 ?_
    rw [rounds_succ]
    go_wp2
    rw [rounds_succ]
    go_wp2
    rw [rounds_succ]
    go_wp2
    rw [rounds_succ]
    go_wp2
    rw [rounds_succ]
    go_wp2
    rw [rounds_succ]
    go_wp2
    go_ret
    exact ⟨rfl, hbi⟩
  · have he2 : (r == 65533) = false := by simp [he]
    cases hv : Lib.validRune r with
    | false =>
      rw [hv] at CV
      go_enter Tryz.func128, Tryz.ntmps128
      go_wp2_with (first | (go_at_call 141; (with_reducible refine Calls.mono (CV _) ?_); rintro e' w1 ⟨rfl, rfl⟩))
      go_ret
      exact ⟨rfl, Below.refl _ _⟩
    | true =>
      rw [hv] at CV
      have hval : Utf8.valid r = true := by
        rw [Go.validRune_eq]
        exact hv
      obtain ⟨hz1, hz2, hz3⟩ := encode_facts r hval h
      have hcv : ∀ w, (convert 21 9 (.int .i32 r)).run Tryz.prog w = .ok (.string (Utf8.encode r)) w := fun w => run_convert_int_string w 21 9 .i32 r (by rw [Tryz.underlying21]; rfl) Tryz.underlying9
      generalize Utf8.encode r = rs at *
      have hN : rs.size = 2 ∨ rs.size = 3 ∨ rs.size = 4 := by omega
      rcases hN with hN | hN | hN
      · obtain ⟨c, hc1, hc2, hix⟩ : ∃ c : Int, 128 ≤ c ∧ c < 256 ∧ ∀ w, (Instr.index 9 (.string rs) (.int .i64 1)).run Tryz.prog w = .ok (.int .u8 c) w := by
          have h3 := hz3 (by omega)
          refine ⟨((rs[1]'(by omega)).toNat : Nat), ?_, ?_, fun w => ?_⟩
          · have e : rs.size - 1 = 1 := by omega
            simp only [e] at h3
            omega
          · have := (rs[1]'(by omega)).toNat_lt
            omega
          · rw [run_index_string w 9 rs .i64 1 Tryz.underlying9, dif_pos (by omega)]
            rfl
        have hil : ∀ w : World, (Instr.index 9 (.string ⟨#[32, 9, 10, 13, 34]⟩) (.int .i64 1)).run Tryz.prog w = .ok (.int .u8 9) w := fun w => by kernel_rfl
        have hne : ((9 : Int) != c) = true := by simp; omega
        have hne2 : ((9 : Int) == c) = false := by simp; omega
        have CB : ∀ w, Calls Tryz.prog 140 #[.string (ByteArray.extract ⟨#[32, 9, 10, 13, 34]⟩ 2 5), .int .u8 c] w fun e w' => e = .returned (.int .i64 (-1)) ∧ w' = w := fun w => by
          have := Tryz.strings_IndexByte (ByteArray.extract ⟨#[32, 9, 10, 13, 34]⟩ 2 5) c w
          have hl : (ByteArray.extract ⟨#[32, 9, 10, 13, 34]⟩ 2 5).data.toList = [10, 13, 34] := by kernel_rfl
          have hcc10 : c.toNat.toUInt8 ≠ 10 := fun e => by
            have := congrArg UInt8.toNat e
            simp at this
            omega
          have hcc13 : c.toNat.toUInt8 ≠ 13 := fun e => by
            have := congrArg UInt8.toNat e
            simp at this
            omega
          have hcc34 : c.toNat.toUInt8 ≠ 34 := fun e => by
            have := congrArg UInt8.toNat e
            simp at this
            omega
          rw [hl, show Lib.indexByte [10, 13, 34] c.toNat.toUInt8 = -1 from by simp [Lib.indexByte, Ne.symm hcc10, Ne.symm hcc13, Ne.symm hcc34]] at this
          exact this
        clear hz1 hz2 hz3
        go_enter Tryz.func128, Tryz.ntmps128
        go_wp2_with (first | (go_at_call 141; (with_reducible refine Calls.mono (CV _) ?_); rintro e' w1 ⟨rfl, rfl⟩))
        go_step3
        go_wp2
        refine wp_loop_rounds 1 ?_
        rw [rounds_succ]
        go_wp2_with fail
        go_step3
        go_upto_region 6 with fail
        go_quiet (fail)
        go_upto_region 7 with fail
        go_region_with (first | (go_at_call 140; (with_reducible refine Calls.mono (CB _) ?_); rintro e' w5 ⟨rfl, rfl⟩))
        all_goals
          go_wp2
          try rw [Exit.noGoto_ret]
          try go_wp2
          try rw [Exit.noGoto_ret]
          try go_wp2
          go_ret
          exact ⟨rfl, ⟨rfl, rfl, rfl, Nat.le_refl _, fun _ _ => rfl⟩⟩
      · obtain ⟨c, hc1, hc2, hix⟩ : ∃ c : Int, 128 ≤ c ∧ c < 256 ∧ ∀ w, (Instr.index 9 (.string rs) (.int .i64 2)).run Tryz.prog w = .ok (.int .u8 c) w := by
          have h3 := hz3 (by omega)
          refine ⟨((rs[2]'(by omega)).toNat : Nat), ?_, ?_, fun w => ?_⟩
          · have e : rs.size - 1 = 2 := by omega
            simp only [e] at h3
            omega
          · have := (rs[2]'(by omega)).toNat_lt
            omega
          · rw [run_index_string w 9 rs .i64 2 Tryz.underlying9, dif_pos (by omega)]
            rfl
        have hil : ∀ w : World, (Instr.index 9 (.string ⟨#[32, 9, 10, 13, 34]⟩) (.int .i64 2)).run Tryz.prog w = .ok (.int .u8 10) w := fun w => by kernel_rfl
        have hne : ((10 : Int) != c) = true := by simp; omega
        have hne2 : ((10 : Int) == c) = false := by simp; omega
        have CB : ∀ w, Calls Tryz.prog 140 #[.string (ByteArray.extract ⟨#[32, 9, 10, 13, 34]⟩ 3 5), .int .u8 c] w fun e w' => e = .returned (.int .i64 (-1)) ∧ w' = w := fun w => by
          have := Tryz.strings_IndexByte (ByteArray.extract ⟨#[32, 9, 10, 13, 34]⟩ 3 5) c w
          have hl : (ByteArray.extract ⟨#[32, 9, 10, 13, 34]⟩ 3 5).data.toList = [13, 34] := by kernel_rfl
          have hcc13 : c.toNat.toUInt8 ≠ 13 := fun e => by
            have := congrArg UInt8.toNat e
            simp at this
            omega
          have hcc34 : c.toNat.toUInt8 ≠ 34 := fun e => by
            have := congrArg UInt8.toNat e
            simp at this
            omega
          rw [hl, show Lib.indexByte [13, 34] c.toNat.toUInt8 = -1 from by simp [Lib.indexByte, Ne.symm hcc13, Ne.symm hcc34]] at this
          exact this
        clear hz1 hz2 hz3
        go_enter Tryz.func128, Tryz.ntmps128
        go_wp2_with (first | (go_at_call 141; (with_reducible refine Calls.mono (CV _) ?_); rintro e' w1 ⟨rfl, rfl⟩))
        go_step3
        go_wp2
        refine wp_loop_rounds 1 ?_
        rw [rounds_succ]
        go_wp2_with fail
        go_step3
        go_upto_region 6 with fail
        go_quiet (fail)
        go_upto_region 7 with fail
        go_region_with (first | (go_at_call 140; (with_reducible refine Calls.mono (CB _) ?_); rintro e' w5 ⟨rfl, rfl⟩))
        all_goals
          go_wp2
          try rw [Exit.noGoto_ret]
          try go_wp2
          try rw [Exit.noGoto_ret]
          try go_wp2
          go_ret
          exact ⟨rfl, ⟨rfl, rfl, rfl, Nat.le_refl _, fun _ _ => rfl⟩⟩
      · obtain ⟨c, hc1, hc2, hix⟩ : ∃ c : Int, 128 ≤ c ∧ c < 256 ∧ ∀ w, (Instr.index 9 (.string rs) (.int .i64 3)).run Tryz.prog w = .ok (.int .u8 c) w := by
          have h3 := hz3 (by omega)
          refine ⟨((rs[3]'(by omega)).toNat : Nat), ?_, ?_, fun w => ?_⟩
          · have e : rs.size - 1 = 3 := by omega
            simp only [e] at h3
            omega
          · have := (rs[3]'(by omega)).toNat_lt
            omega
          · rw [run_index_string w 9 rs .i64 3 Tryz.underlying9, dif_pos (by omega)]
            rfl
        have hil : ∀ w : World, (Instr.index 9 (.string ⟨#[32, 9, 10, 13, 34]⟩) (.int .i64 3)).run Tryz.prog w = .ok (.int .u8 13) w := fun w => by kernel_rfl
        have hne : ((13 : Int) != c) = true := by simp; omega
        have hne2 : ((13 : Int) == c) = false := by simp; omega
        have CB : ∀ w, Calls Tryz.prog 140 #[.string (ByteArray.extract ⟨#[32, 9, 10, 13, 34]⟩ 4 5), .int .u8 c] w fun e w' => e = .returned (.int .i64 (-1)) ∧ w' = w := fun w => by
          have := Tryz.strings_IndexByte (ByteArray.extract ⟨#[32, 9, 10, 13, 34]⟩ 4 5) c w
          have hl : (ByteArray.extract ⟨#[32, 9, 10, 13, 34]⟩ 4 5).data.toList = [34] := by kernel_rfl
          have hcc34 : c.toNat.toUInt8 ≠ 34 := fun e => by
            have := congrArg UInt8.toNat e
            simp at this
            omega
          rw [hl, show Lib.indexByte [34] c.toNat.toUInt8 = -1 from by simp [Lib.indexByte, Ne.symm hcc34]] at this
          exact this
        clear hz1 hz2 hz3
        go_enter Tryz.func128, Tryz.ntmps128
        go_wp2_with (first | (go_at_call 141; (with_reducible refine Calls.mono (CV _) ?_); rintro e' w1 ⟨rfl, rfl⟩))
        go_step3
        go_wp2
        refine wp_loop_rounds 1 ?_
        rw [rounds_succ]
        go_wp2_with fail
        go_step3
        go_upto_region 6 with fail
        go_quiet (fail)
        go_upto_region 7 with fail
        go_region_with (first | (go_at_call 140; (with_reducible refine Calls.mono (CB _) ?_); rintro e' w5 ⟨rfl, rfl⟩))
        all_goals
          go_wp2
          try rw [Exit.noGoto_ret]
          try go_wp2
          try rw [Exit.noGoto_ret]
          try go_wp2
          go_ret
          exact ⟨rfl, ⟨rfl, rfl, rfl, Nat.le_refl _, fun _ _ => rfl⟩⟩
end Go.Proofs.YtlpnegnpejpdkaaGreatDoor
