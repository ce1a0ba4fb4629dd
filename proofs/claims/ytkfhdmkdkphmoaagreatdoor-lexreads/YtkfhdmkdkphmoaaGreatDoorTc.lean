/- The token that begins at a place, one kind of beginning. -/
import Derived.Test.YtkfhdmkdkphmoaaGreatDoorTokW
import Derived.Deep.Cut
import Derived.Deep.RegionWith
namespace Go.Proofs.YtkfhdmkdkphmoaaGreatDoor
open Go.RowKit

set_option maxHeartbeats 4000000 in
set_option maxRecDepth 10000 in
theorem tok_run (s : ByteArray) (cb k : Nat) (tk : Value) (w : World) (hs : s.size ≤ 65536) (hC : Cl w) (h1 : 1 < cb) (hk : k ≤ s.size)
    (hcut : w.heap[cb]? = some (.cells #[.string s, .int .i64 k, .int .i64 k, tk] 47 (0, 0))) (hc : clsAt s k = 8) (hkd : ¬ runKindP ((rest s k).take (spanLen (· == 8) (rest s k))) = 0) :
    Calls Tryz.prog 33 #[.pointer (some ⟨cb, 0, none⟩)] w fun e w' => TokPost w s cb k tk e w' (.ok (runKindP ((rest s k).take (spanLen (· == 8) (rest s k))), (rest s k).take (spanLen (· == 8) (rest s k)), 0, spanLen (· == 8) (rest s k))) := by
  have hn := endOf_le (· == 8) s k hk
  have hm0 := endOf_span (· == 8) s k rfl
  obtain ⟨hn1, hn2⟩ := hn
  have hpos : k < endOf (· == 8) s k := by
    have hlt : k < s.size := by
      by_cases h : k < s.size
      · exact h
      · rw [clsAt_out h] at hc; cases hc
    rw [endOf_step hlt (by rw [hc]; rfl)]
    have := (endOf_le (· == 8) s (k + 1) (by omega)).1
    omega
  have NE : ∀ W, Cl W → Calls Tryz.prog 32 #[.string s, .int .i64 k] W fun e w' => e = .returned (.int .i64 (endOf (· == 8) s k)) ∧ w' = W := fun W h => runEnd_any s k W (by unfold maxLen; omega) hk h
  have EX := extract_rest s k
  generalize spanLen (· == 8) (rest s k) = n at hm0 hkd ⊢
  generalize rest s k = l at EX hkd ⊢
  have EX' := EX n
  rw [← hm0] at EX'
  generalize endOf (· == 8) s k = m at hn1 hn2 hm0 NE EX' hpos
  have WK : ∀ W, Calls Tryz.prog 55 #[.string (s.extract k m)] W fun e w' => e = .returned (.int .i64 (runKindP (l.take n))) ∧ w' = W := fun W => by
    have hsz : (s.extract k m).size = m - k := by rw [ByteArray.size_extract]; omega
    have := runKind_any (s.extract k m) W (by unfold maxLen; omega) (by omega)
    rw [ByteArray.toList_eq, EX'] at this
    rw [EX']
    exact this
  have HX : Hid (s.extract k m = ⟨(l.take n).toArray⟩) := EX'
  have HM : Hid (m = k + n) := hm0
  have i1 : (0 : Int) ≤ (k : Int) := by omega
  have i2 : (k : Int) ≤ (m : Int) := by omega
  have i3 : (m : Int) ≤ (s.size : Int) := by omega
  generalize runKindP (l.take n) = kd at WK hkd ⊢
  clear EX EX' hm0
  have CA : ∀ W, Cl W → Calls Tryz.prog 29 #[.string s, .int .i64 k] W fun e w' => e = .returned (.int .u8 8) ∧ w' = W := fun W h => by
    have := class_any s k W h
    rw [hc] at this
    exact this
  have T := tokW_start h1 hcut
  clear hc hcut
  go_enter Tryz.func33, Tryz.ntmps33
  go_wp2
  refine wp_scope_two ?_
  go_wp2
  generalize hW : (w.alloc (Obj.cells #[Value.int .i64 0, Value.string ⟨#[]⟩, Value.int .i64 0, Value.int .i64 0] 39)).alloc (Obj.cells #[Value.int .i64 0, Value.string ⟨#[]⟩, Value.int .i64 0, Value.int .i64 0] 39) = W at T ⊢
  generalize hrb : w.heap.size = rb at T ⊢
  have Hrb : Hid (w.heap.size = rb) := hrb
  clear hW hrb
  obtain ⟨c0, c1, c2, f2, t0, t1, t2, t3, ft, r0, r1, r2, r3, fr⟩ := T.cells
  go_cut [14] from 6 (fun c wc => c = .int .u8 8 ∧ TokW w wc s cb k rb k tk 0 ⟨#[]⟩ 0)
  case first =>
    have hcl := T.cl hC
    go_region_held3 (fun w' => Cl w' ∧ w'.cell? ⟨cb, 0, none⟩ = some (.string s) ∧ w'.cell? ⟨cb, 2, none⟩ = some (.int .i64 k)) (first | exact ⟨hcl, c0, c2⟩ | assumption | go_keep)
      (first | (go_at_call 29; refine Calls.mono (CA _ (by assumption)) ?_; rintro e w' ⟨rfl, rfl⟩))
    all_goals (go_wp2; go_meet; exact ⟨rfl, T.drew⟩)
  case rest =>
  clear T c0 c1 c2 f2 t0 t1 t2 t3 ft r0 r1 r2 r3 fr CA
  obtain ⟨rfl, T⟩ := hcut
  obtain ⟨c0, c1, c2, f2, t0, t1, t2, t3, ft, r0, r1, r2, r3, fr⟩ := T.cells
  go_wp2
  go_step3
  show goes _ _ _ _ _ _
  refine ⟨_, rfl, ?_⟩
  go_wp2
  go_cut [] from 6 (fun wc => TokW w wc s cb k rb m tk 0 ⟨#[]⟩ 0)
  case first =>
    have hcl := T.cl hC
    go_region_with (first | (go_at_call 32; refine Calls.mono (NE _ ?_) ?_; exact hcl; rintro e w' ⟨rfl, rfl⟩))
    all_goals (go_wp2; go_meet; first | exact T.setAt _ | exact (T.setAt _).drew | exact ((T.setAt _).drew).drew)
  case rest =>
  clear T c0 c1 c2 f2 t0 t1 t2 t3 ft r0 r1 r2 r3 fr
  have T := hcut
  clear hcut
  obtain ⟨c0, c1, c2, f2, t0, t1, t2, t3, ft, r0, r1, r2, r3, fr⟩ := T.cells
  go_wp2
  go_cut [] from 6 (fun wc => TokW w wc s cb k rb m tk kd ⟨#[]⟩ 0)
  case first =>
    go_region_held3 (fun w' => w'.cell? ⟨cb, 0, none⟩ = some (.string s) ∧ w'.cell? ⟨cb, 1, none⟩ = some (.int .i64 k) ∧ w'.cell? ⟨cb, 2, none⟩ = some (.int .i64 m)) (first | exact ⟨c0, c1, c2⟩ | assumption | exact ⟨(T.setKind _).cells.1, (T.setKind _).cells.2.1, (T.setKind _).cells.2.2.1⟩ | go_keep)
      (first | (go_at_call 55; refine Calls.mono (WK _) ?_; rintro e w' ⟨rfl, rfl⟩))
    all_goals (go_wp2; go_meet; first | exact T.setKind _ | exact (T.setKind _).drew | exact ((T.setKind _).drew).drew)
  case rest =>
  clear T c0 c1 c2 f2 t0 t1 t2 t3 ft r0 r1 r2 r3 fr
  have T := hcut
  clear hcut
  obtain ⟨c0, c1, c2, f2, t0, t1, t2, t3, ft, r0, r1, r2, r3, fr⟩ := T.cells
  have hkd' : ¬ (kd : Int) = 0 := by omega
  go_wp2
  go_step3
  show goes _ _ _ _ _ _
  refine ⟨_, rfl, ?_⟩
  have hsz := lt_of_heap T.cut
  have PC := piece_any s cb k m wc hs (by omega) (by omega) hsz c0 c1 c2
  go_wp2_with (go_at_call 57; refine Calls.mono PC ?_; rintro e w1 ⟨rfl, hb⟩; have T1 := T.below hb; clear T c0 c1 c2 f2 t0 t1 t2 t3 ft r0 r1 r2 r3 fr PC; obtain ⟨c0, c1, c2, f2, t0, t1, t2, t3, ft, r0, r1, r2, r3, fr⟩ := T1.cells)
  refine jumps_ret ?_
  have D := tok_done (T1.setText (s.extract k m)) (.int .i64 kd) (.string (s.extract k m)) (.int .i64 0) (.int .i64 0)
  refine bodyPost_ret (v := .tuple #[.agg #[.int .i64 kd, .string (s.extract k m), .int .i64 0, .int .i64 0], .int .i64 0]) (by simp [results, Tryz.results33, go_sem, *]) rfl ?_
  refine ⟨?_, ?_, ?_⟩
  · rw [HX.out]; rfl
  · rw [← HM.out]; exact D.1
  · rw [Hrb.out]; exact D.2
end Go.Proofs.YtkfhdmkdkphmoaaGreatDoor
