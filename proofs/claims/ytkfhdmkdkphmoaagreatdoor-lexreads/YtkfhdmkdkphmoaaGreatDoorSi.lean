/- The reference's At: what stands at a place is what the plain side says. -/
import Derived.Test.YtkfhdmkdkphmoaaGreatDoorSg
import Derived.Test.YtkfhdmkdkphmoaaGreatDoorSh
namespace Go.Proofs.YtkfhdmkdkphmoaaGreatDoor
open Go.RowKit

theorem stepV_form (k : Nat) (x : Except Nat (Option (Nat × List UInt8 × Nat) × Nat)) : ∃ (a : Int) (t : ByteArray) (b c d e : Int), stepV k x = .agg #[.int .i64 a, .string t, .int .i64 b, .int .i64 c, .int .i64 d, .int .i64 e] := by
  match x with
  | .error c => exact ⟨_, _, _, _, _, _, rfl⟩
  | .ok (none, n) => exact ⟨_, _, _, _, _, _, rfl⟩
  | .ok (some (kd, tx, nm), n) => exact ⟨_, _, _, _, _, _, rfl⟩
theorem run_none {l : List UInt8} (h : clsHd l ≠ 8) : runLen l = 0 := by
  cases l with
  | nil => rfl
  | cons c r =>
    have h' : ¬ cls c.toNat = 8 := h
    simp [runLen, spanLen, h']
theorem step_plain {l : List UInt8} (h6 : clsHd l ≠ 6) (hp : [123, 45].isPrefixOf l = false) (h8 : clsHd l ≠ 8) : stepL l = match tokL l with | .error c => .error c | .ok (kd, tx, nm, n) => .ok (some (kd, tx, nm), n) := by
  unfold stepL
  rw [if_neg h6, hp, if_neg (by simp), run_none h8, if_neg (by simp [dashB])]
  cases tokL l with
  | error c => rfl
  | ok x => rfl
theorem prefix_at {s : ByteArray} {k : Nat} (hk : k < s.size) : [123, 45].isPrefixOf (rest s k) = true ↔ s[k].toNat = 123 ∧ ∃ h : k + 1 < s.size, s[k + 1].toNat = 45 := by
  have e1 : s[k].toNat = 123 ↔ (123 : UInt8) = s[k] := ⟨fun h => (u8eq h).symm, fun h => by rw [← h]; rfl⟩
  rw [rest_in hk, e1]
  by_cases h : k + 1 < s.size
  · have e2 : s[k + 1].toNat = 45 ↔ (45 : UInt8) = s[k + 1] := ⟨fun h => (u8eq h).symm, fun h => by rw [← h]; rfl⟩
    rw [rest_in h]
    have e : [123, 45].isPrefixOf (s[k] :: s[k + 1] :: rest s (k + 1 + 1)) = (123 == s[k] && (45 == s[k + 1] && true)) := rfl
    rw [e]
    simp only [Bool.and_eq_true, beq_iff_eq, and_true]
    exact ⟨fun ⟨a, b⟩ => ⟨a, h, e2.2 b⟩, fun ⟨a, _, b⟩ => ⟨a, e2.1 b⟩⟩
  · rw [rest_out h]
    have e : [123, 45].isPrefixOf (s[k] :: ([] : List UInt8)) = (123 == s[k] && false) := rfl
    rw [e]
    simp [h]
theorem cls_six : ∀ c : Fin 256, cls c.1 = 6 ↔ (c.1 = 32 ∨ c.1 = 9 ∨ c.1 = 10 ∨ c.1 = 13) := by decide +kernel
theorem cls_brace : cls 123 = 9 := by decide

set_option maxHeartbeats 8000000 in
set_option maxRecDepth 10000 in
theorem ref_at (s : ByteArray) (k : Nat) (w : World) (hs : s.size ≤ 65536) (hk : k < s.size) : Calls Tryz.prog 11 #[.string s, .int .i64 k] w fun e w' => e = .returned (stepV k (stepL (rest s k))) ∧ Below w.heap.size w w' := by
  have S1 := fun W => ref_small s[k].toNat W s[k].toNat_lt
  have S2 := fun W => ref_capital s[k].toNat W s[k].toNat_lt
  have S3 := fun W => ref_digit s[k].toNat W s[k].toNat_lt
  have S4 := fun W => ref_operator s[k].toNat W s[k].toNat_lt
  have hch : clsHd (rest s k) = cls s[k].toNat := by rw [rest_in hk]; rfl
  have c6 := cls_six ⟨s[k].toNat, s[k].toNat_lt⟩
  have c4 := cls_four ⟨s[k].toNat, s[k].toNat_lt⟩
  have c7 := cls_seven ⟨s[k].toNat, s[k].toNat_lt⟩
  have hpre := prefix_at hk
  simp only [] at c6 c4 c7
  by_cases h6 : cls s[k].toNat = 6
  · have CC : ∀ W, Calls Tryz.prog 20 #[.int .i64 (k + 1)] W fun e w' => e = .returned (stepV k (stepL (rest s k))) ∧ Below W.heap.size W w' := fun W => by
      have e : stepL (rest s k) = .ok (none, 1) := by unfold stepL; rw [if_pos (hch.trans h6)]
      rw [e]
      refine Calls.mono (ref_nothing (k + 1) W) ?_
      rintro e w' ⟨rfl, rfl⟩
      exact ⟨rfl, below1 _ _⟩
    rw [decide_eq_false (by omega : ¬ cls s[k].toNat = 1)] at S1
    rw [decide_eq_false (by omega : ¬ cls s[k].toNat = 2)] at S2
    rw [decide_eq_false (by omega : ¬ cls s[k].toNat = 3)] at S3
    rw [decide_eq_false (by omega : ¬ cls s[k].toNat = 8)] at S4
    rcases c6.1 h6 with h | h | h | h
    · obtain ⟨a, t, b, c, d, f, hV⟩ := stepV_form k (stepL (rest s k))
      rw [hV] at CC ⊢
      have e32 : ((s[k].toNat : Int) == 32) = true := by simp; omega
      clear hV h h6 c6 c4 c7 hch hpre
      go_enter Tryz.func11, Tryz.ntmps11
      go_wp2_with (first | (go_at_call 16; (with_reducible refine Calls.mono (S1 _) ?_); rintro e w' ⟨rfl, rfl⟩) | (go_at_call 17; (with_reducible refine Calls.mono (S2 _) ?_); rintro e w' ⟨rfl, rfl⟩) | (go_at_call 18; (with_reducible refine Calls.mono (S3 _) ?_); rintro e w' ⟨rfl, rfl⟩) | (go_at_call 19; (with_reducible refine Calls.mono (S4 _) ?_); rintro e w' ⟨rfl, rfl⟩) | (go_at_call 20; (with_reducible refine Calls.mono (CC _) ?_); rintro e w2 ⟨rfl, hb2⟩; have hb3 : Below (w.heap.size + 1) (w.alloc zero6) w2 := hb2.mono (by simp); obtain ⟨⟨q0, q1, q2, q3, q4, q5⟩, z0, z1, z2, z3, z4, z5⟩ := six_of (zero_block hb3)))
      refine bodyPost_ret (v := .agg #[.int .i64 a, .string t, .int .i64 b, .int .i64 c, .int .i64 d, .int .i64 f]) (by simp [results, Tryz.results11, go_sem, *]) rfl ?_
      exact ⟨rfl, set_six (zero_below hb3) _ _ _ _ _ _⟩
    · obtain ⟨a, t, b, c, d, f, hV⟩ := stepV_form k (stepL (rest s k))
      rw [hV] at CC ⊢
      have e32 : ((s[k].toNat : Int) == 32) = false := by simp; omega
      have e9 : ((s[k].toNat : Int) == 9) = true := by simp; omega
      clear hV h h6 c6 c4 c7 hch hpre
      go_enter Tryz.func11, Tryz.ntmps11
      go_wp2_with (first | (go_at_call 16; (with_reducible refine Calls.mono (S1 _) ?_); rintro e w' ⟨rfl, rfl⟩) | (go_at_call 17; (with_reducible refine Calls.mono (S2 _) ?_); rintro e w' ⟨rfl, rfl⟩) | (go_at_call 18; (with_reducible refine Calls.mono (S3 _) ?_); rintro e w' ⟨rfl, rfl⟩) | (go_at_call 19; (with_reducible refine Calls.mono (S4 _) ?_); rintro e w' ⟨rfl, rfl⟩) | (go_at_call 20; (with_reducible refine Calls.mono (CC _) ?_); rintro e w2 ⟨rfl, hb2⟩; have hb3 : Below (w.heap.size + 1) (w.alloc zero6) w2 := hb2.mono (by simp); obtain ⟨⟨q0, q1, q2, q3, q4, q5⟩, z0, z1, z2, z3, z4, z5⟩ := six_of (zero_block hb3)))
      refine bodyPost_ret (v := .agg #[.int .i64 a, .string t, .int .i64 b, .int .i64 c, .int .i64 d, .int .i64 f]) (by simp [results, Tryz.results11, go_sem, *]) rfl ?_
      exact ⟨rfl, set_six (zero_below hb3) _ _ _ _ _ _⟩
    · obtain ⟨a, t, b, c, d, f, hV⟩ := stepV_form k (stepL (rest s k))
      rw [hV] at CC ⊢
      have e32 : ((s[k].toNat : Int) == 32) = false := by simp; omega
      have e9 : ((s[k].toNat : Int) == 9) = false := by simp; omega
      have e10 : ((s[k].toNat : Int) == 10) = true := by simp; omega
      clear hV h h6 c6 c4 c7 hch hpre
      go_enter Tryz.func11, Tryz.ntmps11
      go_wp2_with (first | (go_at_call 16; (with_reducible refine Calls.mono (S1 _) ?_); rintro e w' ⟨rfl, rfl⟩) | (go_at_call 17; (with_reducible refine Calls.mono (S2 _) ?_); rintro e w' ⟨rfl, rfl⟩) | (go_at_call 18; (with_reducible refine Calls.mono (S3 _) ?_); rintro e w' ⟨rfl, rfl⟩) | (go_at_call 19; (with_reducible refine Calls.mono (S4 _) ?_); rintro e w' ⟨rfl, rfl⟩) | (go_at_call 20; (with_reducible refine Calls.mono (CC _) ?_); rintro e w2 ⟨rfl, hb2⟩; have hb3 : Below (w.heap.size + 1) (w.alloc zero6) w2 := hb2.mono (by simp); obtain ⟨⟨q0, q1, q2, q3, q4, q5⟩, z0, z1, z2, z3, z4, z5⟩ := six_of (zero_block hb3)))
      refine bodyPost_ret (v := .agg #[.int .i64 a, .string t, .int .i64 b, .int .i64 c, .int .i64 d, .int .i64 f]) (by simp [results, Tryz.results11, go_sem, *]) rfl ?_
      exact ⟨rfl, set_six (zero_below hb3) _ _ _ _ _ _⟩
    · obtain ⟨a, t, b, c, d, f, hV⟩ := stepV_form k (stepL (rest s k))
      rw [hV] at CC ⊢
      have e32 : ((s[k].toNat : Int) == 32) = false := by simp; omega
      have e9 : ((s[k].toNat : Int) == 9) = false := by simp; omega
      have e10 : ((s[k].toNat : Int) == 10) = false := by simp; omega
      have e13 : ((s[k].toNat : Int) == 13) = true := by simp; omega
      clear hV h h6 c6 c4 c7 hch hpre
      go_enter Tryz.func11, Tryz.ntmps11
      go_wp2_with (first | (go_at_call 16; (with_reducible refine Calls.mono (S1 _) ?_); rintro e w' ⟨rfl, rfl⟩) | (go_at_call 17; (with_reducible refine Calls.mono (S2 _) ?_); rintro e w' ⟨rfl, rfl⟩) | (go_at_call 18; (with_reducible refine Calls.mono (S3 _) ?_); rintro e w' ⟨rfl, rfl⟩) | (go_at_call 19; (with_reducible refine Calls.mono (S4 _) ?_); rintro e w' ⟨rfl, rfl⟩) | (go_at_call 20; (with_reducible refine Calls.mono (CC _) ?_); rintro e w2 ⟨rfl, hb2⟩; have hb3 : Below (w.heap.size + 1) (w.alloc zero6) w2 := hb2.mono (by simp); obtain ⟨⟨q0, q1, q2, q3, q4, q5⟩, z0, z1, z2, z3, z4, z5⟩ := six_of (zero_block hb3)))
      refine bodyPost_ret (v := .agg #[.int .i64 a, .string t, .int .i64 b, .int .i64 c, .int .i64 d, .int .i64 f]) (by simp [results, Tryz.results11, go_sem, *]) rfl ?_
      exact ⟨rfl, set_six (zero_below hb3) _ _ _ _ _ _⟩
  · have n6 : ¬ (s[k].toNat = 32 ∨ s[k].toNat = 9 ∨ s[k].toNat = 10 ∨ s[k].toNat = 13) := fun h => h6 (c6.2 h)
    by_cases hp : [123, 45].isPrefixOf (rest s k) = true
    · obtain ⟨h123, hb, h45⟩ := hpre.1 hp
      have CC : ∀ W, Calls Tryz.prog 21 #[.string s, .int .i64 k] W fun e w' => e = .returned (stepV k (stepL (rest s k))) ∧ Below W.heap.size W w' := fun W => by
        have e : stepL (rest s k) = match blockL (rest s k) 0 with | none => .error 13 | some n => .ok (none, n) := by unfold stepL; rw [if_neg (by rw [hch]; exact h6), if_pos hp]; cases blockL (rest s k) 0 <;> rfl
        rw [e]
        exact ref_comment s k W hs hb h123 h45
      have h9 : cls s[k].toNat = 9 := by rw [h123]; exact cls_brace
      rw [decide_eq_false (by omega : ¬ cls s[k].toNat = 1)] at S1
      rw [decide_eq_false (by omega : ¬ cls s[k].toNat = 2)] at S2
      rw [decide_eq_false (by omega : ¬ cls s[k].toNat = 3)] at S3
      rw [decide_eq_false (by omega : ¬ cls s[k].toNat = 8)] at S4
      have hb' : (k : Int) + 1 < s.size := by omega
      have e45 : ((s[k + 1].toNat : Int) == 45) = true := by simp; omega
      obtain ⟨a, t, b, c, d, f, hV⟩ := stepV_form k (stepL (rest s k))
      rw [hV] at CC ⊢
      have e32 : ((s[k].toNat : Int) == 32) = false := by simp; omega
      have e9 : ((s[k].toNat : Int) == 9) = false := by simp; omega
      have e10 : ((s[k].toNat : Int) == 10) = false := by simp; omega
      have e13 : ((s[k].toNat : Int) == 13) = false := by simp; omega
      have e123 : ((s[k].toNat : Int) == 123) = true := by simp; omega
      clear hV h123 h6 c6 c4 c7 hch hpre n6 hp h9 h45
      go_enter Tryz.func11, Tryz.ntmps11
      go_wp2_with (first | (go_at_call 16; (with_reducible refine Calls.mono (S1 _) ?_); rintro e w' ⟨rfl, rfl⟩) | (go_at_call 17; (with_reducible refine Calls.mono (S2 _) ?_); rintro e w' ⟨rfl, rfl⟩) | (go_at_call 18; (with_reducible refine Calls.mono (S3 _) ?_); rintro e w' ⟨rfl, rfl⟩) | (go_at_call 19; (with_reducible refine Calls.mono (S4 _) ?_); rintro e w' ⟨rfl, rfl⟩) | (go_at_call 21; (with_reducible refine Calls.mono (CC _) ?_); rintro e w2 ⟨rfl, hb2⟩; have hb3 : Below (w.heap.size + 1) (w.alloc zero6) w2 := hb2.mono (by simp); obtain ⟨⟨q0, q1, q2, q3, q4, q5⟩, z0, z1, z2, z3, z4, z5⟩ := six_of (zero_block hb3)))
      refine bodyPost_ret (v := .agg #[.int .i64 a, .string t, .int .i64 b, .int .i64 c, .int .i64 d, .int .i64 f]) (by simp [results, Tryz.results11, go_sem, *]) rfl ?_
      exact ⟨rfl, set_six (zero_below hb3) _ _ _ _ _ _⟩
    · have hpf : [123, 45].isPrefixOf (rest s k) = false := Bool.eq_false_iff.2 hp
      have n45 : ∀ h : k + 1 < s.size, s[k].toNat = 123 → ¬ s[k + 1].toNat = 45 := fun h h1 h2 => hp (hpre.2 ⟨h1, h, h2⟩)
      have h6' : clsHd (rest s k) ≠ 6 := by rw [hch]; exact h6
      by_cases h1 : cls s[k].toNat = 1
      · have CC : ∀ W, Calls Tryz.prog 22 #[.string s, .int .i64 k] W fun e w' => e = .returned (stepV k (stepL (rest s k))) ∧ Below W.heap.size W w' := fun W => by
          have e : stepL (rest s k) = .ok (some (wordKindP ((rest s k).take (nameLen (rest s k))), (rest s k).take (nameLen (rest s k)), 0), nameLen (rest s k)) := by
            rw [step_plain h6' hpf (by rw [hch]; omega), tokL]
            rw [if_pos (hch.trans h1)]
          rw [e]
          exact ref_lower s k W hs hk
        have n123 : ¬ s[k].toNat = 123 := fun h => by rw [h, cls_brace] at h1; omega
        rw [decide_eq_true h1] at S1
        rw [decide_eq_false (by omega : ¬ cls s[k].toNat = 2)] at S2
        rw [decide_eq_false (by omega : ¬ cls s[k].toNat = 3)] at S3
        rw [decide_eq_false (by omega : ¬ cls s[k].toNat = 8)] at S4
        obtain ⟨a, t, b, c, d, f, hV⟩ := stepV_form k (stepL (rest s k))
        rw [hV] at CC ⊢
        have e32 : ((s[k].toNat : Int) == 32) = false := by simp; omega
        have e9 : ((s[k].toNat : Int) == 9) = false := by simp; omega
        have e10 : ((s[k].toNat : Int) == 10) = false := by simp; omega
        have e13 : ((s[k].toNat : Int) == 13) = false := by simp; omega
        have e123 : ((s[k].toNat : Int) == 123) = false := by simp; omega
        clear hV h6 c6 c4 c7 hch hpre n6 hp hpf n45 h6' h1 n123
        go_enter Tryz.func11, Tryz.ntmps11
        go_wp2_with (first | (go_at_call 16; (with_reducible refine Calls.mono (S1 _) ?_); rintro e w' ⟨rfl, rfl⟩) | (go_at_call 17; (with_reducible refine Calls.mono (S2 _) ?_); rintro e w' ⟨rfl, rfl⟩) | (go_at_call 18; (with_reducible refine Calls.mono (S3 _) ?_); rintro e w' ⟨rfl, rfl⟩) | (go_at_call 19; (with_reducible refine Calls.mono (S4 _) ?_); rintro e w' ⟨rfl, rfl⟩) | (go_at_call 22; (with_reducible refine Calls.mono (CC _) ?_); rintro e w2 ⟨rfl, hb2⟩; have hb3 : Below (w.heap.size + 1) (w.alloc zero6) w2 := hb2.mono (by simp); obtain ⟨⟨q0, q1, q2, q3, q4, q5⟩, z0, z1, z2, z3, z4, z5⟩ := six_of (zero_block hb3)))
        refine bodyPost_ret (v := .agg #[.int .i64 a, .string t, .int .i64 b, .int .i64 c, .int .i64 d, .int .i64 f]) (by simp [results, Tryz.results11, go_sem, *]) rfl ?_
        exact ⟨rfl, set_six (zero_below hb3) _ _ _ _ _ _⟩
      · by_cases h2 : cls s[k].toNat = 2
        · have CC : ∀ W, Calls Tryz.prog 23 #[.string s, .int .i64 k] W fun e w' => e = .returned (stepV k (stepL (rest s k))) ∧ Below W.heap.size W w' := fun W => by
            have e : stepL (rest s k) = .ok (some ((upperL (rest s k)).2, (rest s k).take (upperL (rest s k)).1, 0), (upperL (rest s k)).1) := by
              rw [step_plain h6' hpf (by rw [hch]; omega), tokL]
              rw [if_neg (by rw [hch]; omega), if_pos (hch.trans h2)]
            rw [e]
            exact ref_upper s k W hs hk
          have n123 : ¬ s[k].toNat = 123 := fun h => by rw [h, cls_brace] at h2; omega
          rw [decide_eq_false (by omega : ¬ cls s[k].toNat = 1)] at S1
          rw [decide_eq_true h2] at S2
          rw [decide_eq_false (by omega : ¬ cls s[k].toNat = 3)] at S3
          rw [decide_eq_false (by omega : ¬ cls s[k].toNat = 8)] at S4
          obtain ⟨a, t, b, c, d, f, hV⟩ := stepV_form k (stepL (rest s k))
          rw [hV] at CC ⊢
          have e32 : ((s[k].toNat : Int) == 32) = false := by simp; omega
          have e9 : ((s[k].toNat : Int) == 9) = false := by simp; omega
          have e10 : ((s[k].toNat : Int) == 10) = false := by simp; omega
          have e13 : ((s[k].toNat : Int) == 13) = false := by simp; omega
          have e123 : ((s[k].toNat : Int) == 123) = false := by simp; omega
          clear hV h6 c6 c4 c7 hch hpre n6 hp hpf n45 h6' h1 h2 n123
          go_enter Tryz.func11, Tryz.ntmps11
          go_wp2_with (first | (go_at_call 16; (with_reducible refine Calls.mono (S1 _) ?_); rintro e w' ⟨rfl, rfl⟩) | (go_at_call 17; (with_reducible refine Calls.mono (S2 _) ?_); rintro e w' ⟨rfl, rfl⟩) | (go_at_call 18; (with_reducible refine Calls.mono (S3 _) ?_); rintro e w' ⟨rfl, rfl⟩) | (go_at_call 19; (with_reducible refine Calls.mono (S4 _) ?_); rintro e w' ⟨rfl, rfl⟩) | (go_at_call 23; (with_reducible refine Calls.mono (CC _) ?_); rintro e w2 ⟨rfl, hb2⟩; have hb3 : Below (w.heap.size + 1) (w.alloc zero6) w2 := hb2.mono (by simp); obtain ⟨⟨q0, q1, q2, q3, q4, q5⟩, z0, z1, z2, z3, z4, z5⟩ := six_of (zero_block hb3)))
          refine bodyPost_ret (v := .agg #[.int .i64 a, .string t, .int .i64 b, .int .i64 c, .int .i64 d, .int .i64 f]) (by simp [results, Tryz.results11, go_sem, *]) rfl ?_
          exact ⟨rfl, set_six (zero_below hb3) _ _ _ _ _ _⟩
        · by_cases h3 : cls s[k].toNat = 3
          · have CC : ∀ W, Calls Tryz.prog 24 #[.string s, .int .i64 k] W fun e w' => e = .returned (stepV k (stepL (rest s k))) ∧ Below W.heap.size W w' := fun W => by
              have e : stepV k (stepL (rest s k)) = tokV k 6 [] 11 (numL (rest s k)) := by
                rw [step_plain h6' hpf (by rw [hch]; omega), tokL, if_neg (by rw [hch]; omega), if_neg (by rw [hch]; omega), if_pos (hch.trans h3)]
                cases numL (rest s k) with
                | none => rfl
                | some x => rfl
              rw [e]
              exact ref_number s k W hs hk
            have n123 : ¬ s[k].toNat = 123 := fun h => by rw [h, cls_brace] at h3; omega
            rw [decide_eq_false (by omega : ¬ cls s[k].toNat = 1)] at S1
            rw [decide_eq_false (by omega : ¬ cls s[k].toNat = 2)] at S2
            rw [decide_eq_true h3] at S3
            rw [decide_eq_false (by omega : ¬ cls s[k].toNat = 8)] at S4
            obtain ⟨a, t, b, c, d, f, hV⟩ := stepV_form k (stepL (rest s k))
            rw [hV] at CC ⊢
            have e32 : ((s[k].toNat : Int) == 32) = false := by simp; omega
            have e9 : ((s[k].toNat : Int) == 9) = false := by simp; omega
            have e10 : ((s[k].toNat : Int) == 10) = false := by simp; omega
            have e13 : ((s[k].toNat : Int) == 13) = false := by simp; omega
            have e123 : ((s[k].toNat : Int) == 123) = false := by simp; omega
            clear hV h6 c6 c4 c7 hch hpre n6 hp hpf n45 h6' h1 h2 h3 n123
            go_enter Tryz.func11, Tryz.ntmps11
            go_wp2_with (first | (go_at_call 16; (with_reducible refine Calls.mono (S1 _) ?_); rintro e w' ⟨rfl, rfl⟩) | (go_at_call 17; (with_reducible refine Calls.mono (S2 _) ?_); rintro e w' ⟨rfl, rfl⟩) | (go_at_call 18; (with_reducible refine Calls.mono (S3 _) ?_); rintro e w' ⟨rfl, rfl⟩) | (go_at_call 19; (with_reducible refine Calls.mono (S4 _) ?_); rintro e w' ⟨rfl, rfl⟩) | (go_at_call 24; (with_reducible refine Calls.mono (CC _) ?_); rintro e w2 ⟨rfl, hb2⟩; have hb3 : Below (w.heap.size + 1) (w.alloc zero6) w2 := hb2.mono (by simp); obtain ⟨⟨q0, q1, q2, q3, q4, q5⟩, z0, z1, z2, z3, z4, z5⟩ := six_of (zero_block hb3)))
            refine bodyPost_ret (v := .agg #[.int .i64 a, .string t, .int .i64 b, .int .i64 c, .int .i64 d, .int .i64 f]) (by simp [results, Tryz.results11, go_sem, *]) rfl ?_
            exact ⟨rfl, set_six (zero_below hb3) _ _ _ _ _ _⟩
          · by_cases h4 : cls s[k].toNat = 4
            · have CC : ∀ W, Calls Tryz.prog 25 #[.string s, .int .i64 k] W fun e w' => e = .returned (stepV k (stepL (rest s k))) ∧ Below W.heap.size W w' := fun W => by
                have e : stepV k (stepL (rest s k)) = tokV k 7 [] 12 (charL (rest s k)) := by
                  rw [step_plain h6' hpf (by rw [hch]; omega), tokL, if_neg (by rw [hch]; omega), if_neg (by rw [hch]; omega), if_neg (by rw [hch]; omega), if_pos (hch.trans h4)]
                  cases charL (rest s k) with
                  | none => rfl
                  | some x => rfl
                rw [e]
                exact ref_char s k W hs hk
              have h39 := c4.1 h4
              have n123 : ¬ s[k].toNat = 123 := fun h => by rw [h, cls_brace] at h4; omega
              rw [decide_eq_false (by omega : ¬ cls s[k].toNat = 1)] at S1
              rw [decide_eq_false (by omega : ¬ cls s[k].toNat = 2)] at S2
              rw [decide_eq_false (by omega : ¬ cls s[k].toNat = 3)] at S3
              rw [decide_eq_false (by omega : ¬ cls s[k].toNat = 8)] at S4
              obtain ⟨a, t, b, c, d, f, hV⟩ := stepV_form k (stepL (rest s k))
              rw [hV] at CC ⊢
              have e32 : ((s[k].toNat : Int) == 32) = false := by simp; omega
              have e9 : ((s[k].toNat : Int) == 9) = false := by simp; omega
              have e10 : ((s[k].toNat : Int) == 10) = false := by simp; omega
              have e13 : ((s[k].toNat : Int) == 13) = false := by simp; omega
              have e123 : ((s[k].toNat : Int) == 123) = false := by simp; omega
              have e39 : ((s[k].toNat : Int) == 39) = true := by simp; omega
              clear hV h6 c6 c4 c7 hch hpre n6 hp hpf n45 h6' h1 h2 h3 h4 n123 h39
              go_enter Tryz.func11, Tryz.ntmps11
              go_wp2_with (first | (go_at_call 16; (with_reducible refine Calls.mono (S1 _) ?_); rintro e w' ⟨rfl, rfl⟩) | (go_at_call 17; (with_reducible refine Calls.mono (S2 _) ?_); rintro e w' ⟨rfl, rfl⟩) | (go_at_call 18; (with_reducible refine Calls.mono (S3 _) ?_); rintro e w' ⟨rfl, rfl⟩) | (go_at_call 19; (with_reducible refine Calls.mono (S4 _) ?_); rintro e w' ⟨rfl, rfl⟩) | (go_at_call 25; (with_reducible refine Calls.mono (CC _) ?_); rintro e w2 ⟨rfl, hb2⟩; have hb3 : Below (w.heap.size + 1) (w.alloc zero6) w2 := hb2.mono (by simp); obtain ⟨⟨q0, q1, q2, q3, q4, q5⟩, z0, z1, z2, z3, z4, z5⟩ := six_of (zero_block hb3)))
              refine bodyPost_ret (v := .agg #[.int .i64 a, .string t, .int .i64 b, .int .i64 c, .int .i64 d, .int .i64 f]) (by simp [results, Tryz.results11, go_sem, *]) rfl ?_
              exact ⟨rfl, set_six (zero_below hb3) _ _ _ _ _ _⟩
            · have n39 : ¬ s[k].toNat = 39 := fun h => h4 (c4.2 h)
              by_cases h7 : cls s[k].toNat = 7
              · have CC : ∀ W, Calls Tryz.prog 26 #[.string s, .int .i64 k] W fun e w' => e = .returned (stepV k (stepL (rest s k))) ∧ Below W.heap.size W w' := fun W => by
                  have e : stepV k (stepL (rest s k)) = txtV k (strL (rest s (k + 1))) := by
                    rw [step_plain h6' hpf (by rw [hch]; omega), tokL, if_neg (by rw [hch]; omega), if_neg (by rw [hch]; omega), if_neg (by rw [hch]; omega), if_neg (by rw [hch]; omega), if_pos (hch.trans h7), rest_drop]
                    cases strL (rest s (k + 1)) with
                    | none => rfl
                    | some x => rfl
                  rw [e]
                  exact ref_text s k W hs hk
                have h34 := c7.1 h7
                have n123 : ¬ s[k].toNat = 123 := fun h => by rw [h, cls_brace] at h7; omega
                rw [decide_eq_false (by omega : ¬ cls s[k].toNat = 1)] at S1
                rw [decide_eq_false (by omega : ¬ cls s[k].toNat = 2)] at S2
                rw [decide_eq_false (by omega : ¬ cls s[k].toNat = 3)] at S3
                rw [decide_eq_false (by omega : ¬ cls s[k].toNat = 8)] at S4
                obtain ⟨a, t, b, c, d, f, hV⟩ := stepV_form k (stepL (rest s k))
                rw [hV] at CC ⊢
                have e32 : ((s[k].toNat : Int) == 32) = false := by simp; omega
                have e9 : ((s[k].toNat : Int) == 9) = false := by simp; omega
                have e10 : ((s[k].toNat : Int) == 10) = false := by simp; omega
                have e13 : ((s[k].toNat : Int) == 13) = false := by simp; omega
                have e123 : ((s[k].toNat : Int) == 123) = false := by simp; omega
                have e39 : ((s[k].toNat : Int) == 39) = false := by simp; omega
                have e34 : ((s[k].toNat : Int) == 34) = true := by simp; omega
                clear hV h6 c6 c4 c7 hch hpre n6 hp hpf n45 h6' h1 h2 h3 h4 h7 n123 h34 n39
                go_enter Tryz.func11, Tryz.ntmps11
                go_wp2_with (first | (go_at_call 16; (with_reducible refine Calls.mono (S1 _) ?_); rintro e w' ⟨rfl, rfl⟩) | (go_at_call 17; (with_reducible refine Calls.mono (S2 _) ?_); rintro e w' ⟨rfl, rfl⟩) | (go_at_call 18; (with_reducible refine Calls.mono (S3 _) ?_); rintro e w' ⟨rfl, rfl⟩) | (go_at_call 19; (with_reducible refine Calls.mono (S4 _) ?_); rintro e w' ⟨rfl, rfl⟩) | (go_at_call 26; (with_reducible refine Calls.mono (CC _) ?_); rintro e w2 ⟨rfl, hb2⟩; have hb3 : Below (w.heap.size + 1) (w.alloc zero6) w2 := hb2.mono (by simp); obtain ⟨⟨q0, q1, q2, q3, q4, q5⟩, z0, z1, z2, z3, z4, z5⟩ := six_of (zero_block hb3)))
                refine bodyPost_ret (v := .agg #[.int .i64 a, .string t, .int .i64 b, .int .i64 c, .int .i64 d, .int .i64 f]) (by simp [results, Tryz.results11, go_sem, *]) rfl ?_
                exact ⟨rfl, set_six (zero_below hb3) _ _ _ _ _ _⟩
              · have n34 : ¬ s[k].toNat = 34 := fun h => h7 (c7.2 h)
                by_cases h8 : cls s[k].toNat = 8
                · have CC : ∀ W, Calls Tryz.prog 27 #[.string s, .int .i64 k] W fun e w' => e = .returned (stepV k (stepL (rest s k))) ∧ Below W.heap.size W w' := fun W => by
                    have e : stepL (rest s k) = if dashB ((rest s k).take (runLen (rest s k))) = true then .ok (none, (rest s k).idxOf 10) else if runKindP ((rest s k).take (runLen (rest s k))) = 0 then .error 14 else .ok (some (runKindP ((rest s k).take (runLen (rest s k))), (rest s k).take (runLen (rest s k)), 0), runLen (rest s k)) := by
                      unfold stepL
                      rw [if_neg h6', if_neg hp]
                      split
                      · rfl
                      · rw [tokL, if_neg (by rw [hch]; omega), if_neg (by rw [hch]; omega), if_neg (by rw [hch]; omega), if_neg (by rw [hch]; omega), if_neg (by rw [hch]; omega), if_pos (hch.trans h8)]
                        by_cases hr : runKindP ((rest s k).take (runLen (rest s k))) = 0
                        · rw [if_pos hr, if_pos hr]
                        · rw [if_neg hr, if_neg hr]
                    rw [e]
                    exact ref_signsOf s k W hs hk (by rw [clsAt_rest]; exact hch.trans h8)
                  have n123 : ¬ s[k].toNat = 123 := fun h => by rw [h, cls_brace] at h8; omega
                  rw [decide_eq_false (by omega : ¬ cls s[k].toNat = 1)] at S1
                  rw [decide_eq_false (by omega : ¬ cls s[k].toNat = 2)] at S2
                  rw [decide_eq_false (by omega : ¬ cls s[k].toNat = 3)] at S3
                  rw [decide_eq_true h8] at S4
                  obtain ⟨a, t, b, c, d, f, hV⟩ := stepV_form k (stepL (rest s k))
                  rw [hV] at CC ⊢
                  have e32 : ((s[k].toNat : Int) == 32) = false := by simp; omega
                  have e9 : ((s[k].toNat : Int) == 9) = false := by simp; omega
                  have e10 : ((s[k].toNat : Int) == 10) = false := by simp; omega
                  have e13 : ((s[k].toNat : Int) == 13) = false := by simp; omega
                  have e123 : ((s[k].toNat : Int) == 123) = false := by simp; omega
                  have e39 : ((s[k].toNat : Int) == 39) = false := by simp; omega
                  have e34 : ((s[k].toNat : Int) == 34) = false := by simp; omega
                  clear hV h6 c6 c4 c7 hch hpre n6 hp hpf n45 h6' h1 h2 h3 h4 h7 h8 n123 n34 n39
                  go_enter Tryz.func11, Tryz.ntmps11
                  go_wp2_with (first | (go_at_call 16; (with_reducible refine Calls.mono (S1 _) ?_); rintro e w' ⟨rfl, rfl⟩) | (go_at_call 17; (with_reducible refine Calls.mono (S2 _) ?_); rintro e w' ⟨rfl, rfl⟩) | (go_at_call 18; (with_reducible refine Calls.mono (S3 _) ?_); rintro e w' ⟨rfl, rfl⟩) | (go_at_call 19; (with_reducible refine Calls.mono (S4 _) ?_); rintro e w' ⟨rfl, rfl⟩) | (go_at_call 27; (with_reducible refine Calls.mono (CC _) ?_); rintro e w2 ⟨rfl, hb2⟩; have hb3 : Below (w.heap.size + 1) (w.alloc zero6) w2 := hb2.mono (by simp); obtain ⟨⟨q0, q1, q2, q3, q4, q5⟩, z0, z1, z2, z3, z4, z5⟩ := six_of (zero_block hb3)))
                  refine bodyPost_ret (v := .agg #[.int .i64 a, .string t, .int .i64 b, .int .i64 c, .int .i64 d, .int .i64 f]) (by simp [results, Tryz.results11, go_sem, *]) rfl ?_
                  exact ⟨rfl, set_six (zero_below hb3) _ _ _ _ _ _⟩
                · have CC : ∀ W, Calls Tryz.prog 28 #[.string s, .int .i64 k] W fun e w' => e = .returned (stepV k (stepL (rest s k))) ∧ Below W.heap.size W w' := fun W => by
                    have e : stepL (rest s k) = if clsAt s k = 9 ∨ (clsAt s k = 5 ∧ nsB (clsAt s (k + 1)) = false) then .ok (some (9, (rest s k).take 1, 0), 1) else .error 10 := by
                      rw [step_plain h6' hpf (by rw [hch]; omega), tokL, if_neg (by rw [hch]; omega), if_neg (by rw [hch]; omega), if_neg (by rw [hch]; omega), if_neg (by rw [hch]; omega), if_neg (by rw [hch]; omega), if_neg (by rw [hch]; omega)]
                      rw [clsAt_rest s k, clsAt_rest s (k + 1), rest_drop]
                      by_cases h9 : clsHd (rest s k) = 9
                      · rw [if_pos h9, if_pos (Or.inl h9)]
                      · rw [if_neg h9]
                        by_cases h5 : clsHd (rest s k) = 5
                        · rw [if_pos h5]
                          cases hn : nsB (clsHd (rest s (k + 1))) with
                          | true => rw [if_pos rfl, if_neg (by rintro (h | h); exact h9 h; cases h.2)]
                          | false => rw [if_neg (by simp), if_pos (Or.inr ⟨h5, rfl⟩)]
                        · rw [if_neg h5, if_neg (by rintro (h | h); exact h9 h; exact h5 h.1)]
                    rw [e]
                    exact ref_single s k W hs hk
                  rw [decide_eq_false h1] at S1
                  rw [decide_eq_false h2] at S2
                  rw [decide_eq_false h3] at S3
                  rw [decide_eq_false h8] at S4
                  by_cases h123 : s[k].toNat = 123
                  · by_cases hb : k + 1 < s.size
                    · have e45 : ((s[k + 1].toNat : Int) == 45) = false := by have := n45 hb h123; simp; omega
                      have hb' : (k : Int) + 1 < s.size := by omega
                      obtain ⟨a, t, b, c, d, f, hV⟩ := stepV_form k (stepL (rest s k))
                      rw [hV] at CC ⊢
                      have e32 : ((s[k].toNat : Int) == 32) = false := by simp; omega
                      have e9 : ((s[k].toNat : Int) == 9) = false := by simp; omega
                      have e10 : ((s[k].toNat : Int) == 10) = false := by simp; omega
                      have e13 : ((s[k].toNat : Int) == 13) = false := by simp; omega
                      have e123 : ((s[k].toNat : Int) == 123) = true := by simp; omega
                      have e39 : ((s[k].toNat : Int) == 39) = false := by simp; omega
                      have e34 : ((s[k].toNat : Int) == 34) = false := by simp; omega
                      clear hV h6 c6 c4 c7 hch hpre n6 hp hpf n45 h6' h1 h2 h3 h4 h7 h8 n34 n39 h123
                      go_enter Tryz.func11, Tryz.ntmps11
                      go_wp2_with (first | (go_at_call 16; (with_reducible refine Calls.mono (S1 _) ?_); rintro e w' ⟨rfl, rfl⟩) | (go_at_call 17; (with_reducible refine Calls.mono (S2 _) ?_); rintro e w' ⟨rfl, rfl⟩) | (go_at_call 18; (with_reducible refine Calls.mono (S3 _) ?_); rintro e w' ⟨rfl, rfl⟩) | (go_at_call 19; (with_reducible refine Calls.mono (S4 _) ?_); rintro e w' ⟨rfl, rfl⟩) | (go_at_call 28; (with_reducible refine Calls.mono (CC _) ?_); rintro e w2 ⟨rfl, hb2⟩; have hb3 : Below (w.heap.size + 1) (w.alloc zero6) w2 := hb2.mono (by simp); obtain ⟨⟨q0, q1, q2, q3, q4, q5⟩, z0, z1, z2, z3, z4, z5⟩ := six_of (zero_block hb3)))
                      refine bodyPost_ret (v := .agg #[.int .i64 a, .string t, .int .i64 b, .int .i64 c, .int .i64 d, .int .i64 f]) (by simp [results, Tryz.results11, go_sem, *]) rfl ?_
                      exact ⟨rfl, set_six (zero_below hb3) _ _ _ _ _ _⟩
                    · have hb' : ¬ (k : Int) + 1 < s.size := by omega
                      obtain ⟨a, t, b, c, d, f, hV⟩ := stepV_form k (stepL (rest s k))
                      rw [hV] at CC ⊢
                      have e32 : ((s[k].toNat : Int) == 32) = false := by simp; omega
                      have e9 : ((s[k].toNat : Int) == 9) = false := by simp; omega
                      have e10 : ((s[k].toNat : Int) == 10) = false := by simp; omega
                      have e13 : ((s[k].toNat : Int) == 13) = false := by simp; omega
                      have e123 : ((s[k].toNat : Int) == 123) = true := by simp; omega
                      have e39 : ((s[k].toNat : Int) == 39) = false := by simp; omega
                      have e34 : ((s[k].toNat : Int) == 34) = false := by simp; omega
                      clear hV h6 c6 c4 c7 hch hpre n6 hp hpf n45 h6' h1 h2 h3 h4 h7 h8 n34 n39 h123
                      go_enter Tryz.func11, Tryz.ntmps11
                      go_wp2_with (first | (go_at_call 16; (with_reducible refine Calls.mono (S1 _) ?_); rintro e w' ⟨rfl, rfl⟩) | (go_at_call 17; (with_reducible refine Calls.mono (S2 _) ?_); rintro e w' ⟨rfl, rfl⟩) | (go_at_call 18; (with_reducible refine Calls.mono (S3 _) ?_); rintro e w' ⟨rfl, rfl⟩) | (go_at_call 19; (with_reducible refine Calls.mono (S4 _) ?_); rintro e w' ⟨rfl, rfl⟩) | (go_at_call 28; (with_reducible refine Calls.mono (CC _) ?_); rintro e w2 ⟨rfl, hb2⟩; have hb3 : Below (w.heap.size + 1) (w.alloc zero6) w2 := hb2.mono (by simp); obtain ⟨⟨q0, q1, q2, q3, q4, q5⟩, z0, z1, z2, z3, z4, z5⟩ := six_of (zero_block hb3)))
                      refine bodyPost_ret (v := .agg #[.int .i64 a, .string t, .int .i64 b, .int .i64 c, .int .i64 d, .int .i64 f]) (by simp [results, Tryz.results11, go_sem, *]) rfl ?_
                      exact ⟨rfl, set_six (zero_below hb3) _ _ _ _ _ _⟩
                  · obtain ⟨a, t, b, c, d, f, hV⟩ := stepV_form k (stepL (rest s k))
                    rw [hV] at CC ⊢
                    have e32 : ((s[k].toNat : Int) == 32) = false := by simp; omega
                    have e9 : ((s[k].toNat : Int) == 9) = false := by simp; omega
                    have e10 : ((s[k].toNat : Int) == 10) = false := by simp; omega
                    have e13 : ((s[k].toNat : Int) == 13) = false := by simp; omega
                    have e123 : ((s[k].toNat : Int) == 123) = false := by simp; omega
                    have e39 : ((s[k].toNat : Int) == 39) = false := by simp; omega
                    have e34 : ((s[k].toNat : Int) == 34) = false := by simp; omega
                    clear hV h6 c6 c4 c7 hch hpre n6 hp hpf n45 h6' h1 h2 h3 h4 h7 h8 n34 n39 h123
                    go_enter Tryz.func11, Tryz.ntmps11
                    go_wp2_with (first | (go_at_call 16; (with_reducible refine Calls.mono (S1 _) ?_); rintro e w' ⟨rfl, rfl⟩) | (go_at_call 17; (with_reducible refine Calls.mono (S2 _) ?_); rintro e w' ⟨rfl, rfl⟩) | (go_at_call 18; (with_reducible refine Calls.mono (S3 _) ?_); rintro e w' ⟨rfl, rfl⟩) | (go_at_call 19; (with_reducible refine Calls.mono (S4 _) ?_); rintro e w' ⟨rfl, rfl⟩) | (go_at_call 28; (with_reducible refine Calls.mono (CC _) ?_); rintro e w2 ⟨rfl, hb2⟩; have hb3 : Below (w.heap.size + 1) (w.alloc zero6) w2 := hb2.mono (by simp); obtain ⟨⟨q0, q1, q2, q3, q4, q5⟩, z0, z1, z2, z3, z4, z5⟩ := six_of (zero_block hb3)))
                    refine bodyPost_ret (v := .agg #[.int .i64 a, .string t, .int .i64 b, .int .i64 c, .int .i64 d, .int .i64 f]) (by simp [results, Tryz.results11, go_sem, *]) rfl ?_
                    exact ⟨rfl, set_six (zero_below hb3) _ _ _ _ _ _⟩
end Go.Proofs.YtkfhdmkdkphmoaaGreatDoor
