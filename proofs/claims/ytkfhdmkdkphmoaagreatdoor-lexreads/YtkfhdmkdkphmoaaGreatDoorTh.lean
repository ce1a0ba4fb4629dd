/- The token that begins at a place, one kind of beginning. -/
import Derived.Test.YtkfhdmkdkphmoaaGreatDoorTokW
import Derived.Deep.Cut
import Derived.Deep.RegionWith
namespace Go.Proofs.YtkfhdmkdkphmoaaGreatDoor
open Go.RowKit

set_option maxHeartbeats 4000000 in
set_option maxRecDepth 10000 in
theorem tok_string (s : ByteArray) (cb k : Nat) (tk : Value) (w : World) (hs : s.size ≤ 65536) (hC : Cl w) (h1 : 1 < cb) (_hk : k ≤ s.size)
    (hcut : w.heap[cb]? = some (.cells #[.string s, .int .i64 k, .int .i64 k, tk] 47 (0, 0))) (hc : clsAt s k = 7) {t : List UInt8} {n : Nat} (hstr : strL (rest s (k + 1)) = some (t, n)) :
    Calls Tryz.prog 33 #[.pointer (some ⟨cb, 0, none⟩)] w fun e w' => TokPost w s cb k tk e w' (.ok (8, t, 0, n + 1)) := by
  have hlt : k < s.size := by
    by_cases h : k < s.size
    · exact h
    · rw [clsAt_out h] at hc; cases hc
  have RS : ∀ W, Cl W → 1 < W.heap.size → Calls Tryz.prog 60 #[.string s, .int .i64 k] W fun e w' => e = .returned (.tuple #[.string ⟨t.toArray⟩, .int .i64 (k + 1 + n : Nat), .int .i64 0]) ∧ Below W.heap.size W w' := fun W h h2 => by
    have := readString_any s k W hs h h2 hlt
    rw [hstr] at this
    exact this
  clear hstr
  have CA : ∀ W, Cl W → Calls Tryz.prog 29 #[.string s, .int .i64 k] W fun e w' => e = .returned (.int .u8 7) ∧ w' = W := fun W h => by
    have := class_any s k W h
    rw [hc] at this
    exact this
  have T := tokW_start h1 hcut
  clear hc hcut
  go_enter Tryz.func33, Tryz.ntmps33
  go_wp2
  refine wp_scope_two ?_
  go_wp2
  generalize hW : (w.alloc (Obj.cells #[Value.int .i64 0, Value.string ⟨#[]⟩, Value.int .i64 0, Value.int .i64 0] 39)).alloc (Obj.cells #[Value.int .i64 0, Value.string ⟨#[]⟩, Value.int .i64 0, Value.int .i64 0] 39) = W at T ⊢
  generalize hrb : w.heap.size = rb at T ⊢
  have Hrb : Hid (w.heap.size = rb) := hrb
  clear hW hrb
  obtain ⟨c0, c1, c2, f2, t0, t1, t2, t3, ft, r0, r1, r2, r3, fr⟩ := T.cells
  go_cut [14] from 6 (fun c wc => c = .int .u8 7 ∧ TokW w wc s cb k rb k tk 0 ⟨#[]⟩ 0)
  case first =>
    have hcl := T.cl hC
    go_region_held3 (fun w' => Cl w' ∧ w'.cell? ⟨cb, 0, none⟩ = some (.string s) ∧ w'.cell? ⟨cb, 2, none⟩ = some (.int .i64 k)) (first | exact ⟨hcl, c0, c2⟩ | assumption | go_keep)
      (first | (go_at_call 29; refine Calls.mono (CA _ (by assumption)) ?_; rintro e w' ⟨rfl, rfl⟩))
    all_goals (go_wp2; go_meet; exact ⟨rfl, T.drew⟩)
  case rest =>
  clear T c0 c1 c2 f2 t0 t1 t2 t3 ft r0 r1 r2 r3 fr CA
  obtain ⟨rfl, T⟩ := hcut
  obtain ⟨c0, c1, c2, f2, t0, t1, t2, t3, ft, r0, r1, r2, r3, fr⟩ := T.cells
  go_wp2
  go_step3
  show goes _ _ _ _ _ _
  refine ⟨_, rfl, ?_⟩
  go_wp2
  have T0 := T.setKind 8
  generalize wc.setCell ⟨rb + 1, 0, none⟩ (.int .i64 8) = wd at T0 ⊢
  clear T c0 c1 c2 f2 t0 t1 t2 t3 ft r0 r1 r2 r3 fr
  have T := T0
  clear T0
  obtain ⟨c0, c1, c2, f2, t0, t1, t2, t3, ft, r0, r1, r2, r3, fr⟩ := T.cells
  go_cut [5] from 6 (fun cd wc => cd = .int .i64 0 ∧ TokW w wc s cb k rb (k + 1 + n : Nat) tk 8 ⟨t.toArray⟩ 0)
  case first =>
    have hcl := T.cl hC
    have lt := T.lt
    have hz := lt_of_heap T.cut
    have hz1 : 1 < wd.heap.size := by omega
    go_region_with (first | (go_at_call 60; refine Calls.mono (RS _ ?_ ?_) ?_; exact hcl; exact hz1; rintro e w1 ⟨rfl, hb⟩; have T2 := T.drew.below hb; clear T c0 c1 c2 f2 t0 t1 t2 t3 ft r0 r1 r2 r3 fr; obtain ⟨c0, c1, c2, f2, t0, t1, t2, t3, ft, r0, r1, r2, r3, fr⟩ := T2.cells))
    all_goals (go_wp2; go_meet; refine ⟨rfl, ?_⟩; first | exact (T2.setText _).setAt _ | exact ((T2.setText _).setAt _).drew | exact (((T2.setText _).setAt _).drew).drew | exact (T2.setAt _).setText _ | exact ((T2.setAt _).setText _).drew | exact (((T2.setAt _).setText _).drew).drew)
  case rest =>
  clear T c0 c1 c2 f2 t0 t1 t2 t3 ft r0 r1 r2 r3 fr
  obtain ⟨rfl, T⟩ := hcut
  obtain ⟨c0, c1, c2, f2, t0, t1, t2, t3, ft, r0, r1, r2, r3, fr⟩ := T.cells
  go_wp2
  refine jumps_ret ?_
  have D := tok_done T (.int .i64 8) (.string ⟨t.toArray⟩) (.int .i64 0) (.int .i64 0)
  refine bodyPost_ret (v := .tuple #[.agg #[.int .i64 8, .string ⟨t.toArray⟩, .int .i64 0, .int .i64 0], .int .i64 0]) (by simp [results, Tryz.results33, go_sem, *]) rfl ?_
  refine ⟨rfl, ?_, ?_⟩
  · rw [show k + (n + 1) = k + 1 + n by omega]; exact D.1
  · rw [Hrb.out]; exact D.2
set_option maxHeartbeats 4000000 in
set_option maxRecDepth 10000 in
theorem tok_string_bad (s : ByteArray) (cb k : Nat) (tk : Value) (w : World) (hs : s.size ≤ 65536) (hC : Cl w) (h1 : 1 < cb) (_hk : k ≤ s.size)
    (hcut : w.heap[cb]? = some (.cells #[.string s, .int .i64 k, .int .i64 k, tk] 47 (0, 0))) (hc : clsAt s k = 7) (hstr : strL (rest s (k + 1)) = none) :
    Calls Tryz.prog 33 #[.pointer (some ⟨cb, 0, none⟩)] w fun e w' => TokPost w s cb k tk e w' (.error 12) := by
  have hlt : k < s.size := by
    by_cases h : k < s.size
    · exact h
    · rw [clsAt_out h] at hc; cases hc
  have RS : ∀ W, Cl W → 1 < W.heap.size → Calls Tryz.prog 60 #[.string s, .int .i64 k] W fun e w' => e = .returned (.tuple #[.string ⟨#[]⟩, .int .i64 0, .int .i64 12]) ∧ Below W.heap.size W w' := fun W h h2 => by
    have := readString_any s k W hs h h2 hlt
    rw [hstr] at this
    exact this
  clear hstr
  have CA : ∀ W, Cl W → Calls Tryz.prog 29 #[.string s, .int .i64 k] W fun e w' => e = .returned (.int .u8 7) ∧ w' = W := fun W h => by
    have := class_any s k W h
    rw [hc] at this
    exact this
  have T := tokW_start h1 hcut
  clear hc hcut
  go_enter Tryz.func33, Tryz.ntmps33
  go_wp2
  refine wp_scope_two ?_
  go_wp2
  generalize hW : (w.alloc (Obj.cells #[Value.int .i64 0, Value.string ⟨#[]⟩, Value.int .i64 0, Value.int .i64 0] 39)).alloc (Obj.cells #[Value.int .i64 0, Value.string ⟨#[]⟩, Value.int .i64 0, Value.int .i64 0] 39) = W at T ⊢
  generalize hrb : w.heap.size = rb at T ⊢
  have Hrb : Hid (w.heap.size = rb) := hrb
  clear hW hrb
  obtain ⟨c0, c1, c2, f2, t0, t1, t2, t3, ft, r0, r1, r2, r3, fr⟩ := T.cells
  go_cut [14] from 6 (fun c wc => c = .int .u8 7 ∧ TokW w wc s cb k rb k tk 0 ⟨#[]⟩ 0)
  case first =>
    have hcl := T.cl hC
    go_region_held3 (fun w' => Cl w' ∧ w'.cell? ⟨cb, 0, none⟩ = some (.string s) ∧ w'.cell? ⟨cb, 2, none⟩ = some (.int .i64 k)) (first | exact ⟨hcl, c0, c2⟩ | assumption | go_keep)
      (first | (go_at_call 29; refine Calls.mono (CA _ (by assumption)) ?_; rintro e w' ⟨rfl, rfl⟩))
    all_goals (go_wp2; go_meet; exact ⟨rfl, T.drew⟩)
  case rest =>
  clear T c0 c1 c2 f2 t0 t1 t2 t3 ft r0 r1 r2 r3 fr CA
  obtain ⟨rfl, T⟩ := hcut
  obtain ⟨c0, c1, c2, f2, t0, t1, t2, t3, ft, r0, r1, r2, r3, fr⟩ := T.cells
  go_wp2
  go_step3
  show goes _ _ _ _ _ _
  refine ⟨_, rfl, ?_⟩
  go_wp2
  have T0 := T.setKind 8
  generalize wc.setCell ⟨rb + 1, 0, none⟩ (.int .i64 8) = wd at T0 ⊢
  clear T c0 c1 c2 f2 t0 t1 t2 t3 ft r0 r1 r2 r3 fr
  have T := T0
  clear T0
  obtain ⟨c0, c1, c2, f2, t0, t1, t2, t3, ft, r0, r1, r2, r3, fr⟩ := T.cells
  go_cut [5] from 6 (fun cd wc => cd = .int .i64 12 ∧ TokW w wc s cb k rb 0 tk 8 ⟨#[]⟩ 0)
  case first =>
    have hcl := T.cl hC
    have lt := T.lt
    have hz := lt_of_heap T.cut
    have hz1 : 1 < wd.heap.size := by omega
    go_region_with (first | (go_at_call 60; refine Calls.mono (RS _ ?_ ?_) ?_; exact hcl; exact hz1; rintro e w1 ⟨rfl, hb⟩; have T2 := T.drew.below hb; clear T c0 c1 c2 f2 t0 t1 t2 t3 ft r0 r1 r2 r3 fr; obtain ⟨c0, c1, c2, f2, t0, t1, t2, t3, ft, r0, r1, r2, r3, fr⟩ := T2.cells))
    all_goals (go_wp2; go_meet; refine ⟨rfl, ?_⟩; first | exact (T2.setText _).setAt _ | exact ((T2.setText _).setAt _).drew | exact (((T2.setText _).setAt _).drew).drew | exact (T2.setAt _).setText _ | exact ((T2.setAt _).setText _).drew | exact (((T2.setAt _).setText _).drew).drew)
  case rest =>
  clear T c0 c1 c2 f2 t0 t1 t2 t3 ft r0 r1 r2 r3 fr
  obtain ⟨rfl, T⟩ := hcut
  obtain ⟨c0, c1, c2, f2, t0, t1, t2, t3, ft, r0, r1, r2, r3, fr⟩ := T.cells
  go_wp2
  refine jumps_ret ?_
  have D := tok_done T (.int .i64 8) (.string ⟨#[]⟩) (.int .i64 0) (.int .i64 0)
  refine bodyPost_ret (v := .tuple #[.agg #[.int .i64 8, .string ⟨#[]⟩, .int .i64 0, .int .i64 0], .int .i64 12]) (by simp [results, Tryz.results33, go_sem, *]) rfl ?_
  refine ⟨⟨8, ⟨#[]⟩, 0, 0, rfl⟩, ⟨0, D.1⟩, ?_⟩
  rw [Hrb.out]; exact D.2
end Go.Proofs.YtkfhdmkdkphmoaaGreatDoor
