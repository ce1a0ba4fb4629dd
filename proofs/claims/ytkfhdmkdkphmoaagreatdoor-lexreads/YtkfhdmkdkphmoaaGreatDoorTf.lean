/- The token that begins at a place, one kind of beginning. -/
import Derived.Test.YtkfhdmkdkphmoaaGreatDoorTokW
import Derived.Deep.Cut
import Derived.Deep.RegionWith
namespace Go.Proofs.YtkfhdmkdkphmoaaGreatDoor
open Go.RowKit

set_option maxHeartbeats 4000000 in
set_option maxRecDepth 10000 in
theorem tok_number (s : ByteArray) (cb k : Nat) (tk : Value) (w : World) (hs : s.size ≤ 65536) (hC : Cl w) (h1 : 1 < cb) (_hk : k ≤ s.size)
    (hcut : w.heap[cb]? = some (.cells #[.string s, .int .i64 k, .int .i64 k, tk] 47 (0, 0))) (hc : clsAt s k = 3) {v n : Nat} (hnum : numL (rest s k) = some (v, n)) :
    Calls Tryz.prog 33 #[.pointer (some ⟨cb, 0, none⟩)] w fun e w' => TokPost w s cb k tk e w' (.ok (6, [], v, n)) := by
  have hlt : k < s.size := by
    by_cases h : k < s.size
    · exact h
    · rw [clsAt_out h] at hc; cases hc
  have RN : ∀ W, Cl W → Calls Tryz.prog 58 #[.string s, .int .i64 k] W fun e w' => e = .returned (.tuple #[.int .i64 v, .int .i64 (k + n : Nat), .int .i64 0]) ∧ w' = W := fun W h => by
    have := readNumber_any s k W hs h hlt
    rw [hnum] at this
    exact this
  clear hnum
  have CA : ∀ W, Cl W → Calls Tryz.prog 29 #[.string s, .int .i64 k] W fun e w' => e = .returned (.int .u8 3) ∧ w' = W := fun W h => by
    have := class_any s k W h
    rw [hc] at this
    exact this
  have T := tokW_start h1 hcut
  clear hc hcut
  go_enter Tryz.func33, Tryz.ntmps33
  go_wp2
  refine wp_scope_two ?_
  go_wp2
  generalize hW : (w.alloc (Obj.cells #[Value.int .i64 0, Value.string ⟨#[]⟩, Value.int .i64 0, Value.int .i64 0] 39)).alloc (Obj.cells #[Value.int .i64 0, Value.string ⟨#[]⟩, Value.int .i64 0, Value.int .i64 0] 39) = W at T ⊢
  generalize hrb : w.heap.size = rb at T ⊢
  have Hrb : Hid (w.heap.size = rb) := hrb
  clear hW hrb
  obtain ⟨c0, c1, c2, f2, t0, t1, t2, t3, ft, r0, r1, r2, r3, fr⟩ := T.cells
  go_cut [14] from 6 (fun c wc => c = .int .u8 3 ∧ TokW w wc s cb k rb k tk 0 ⟨#[]⟩ 0)
  case first =>
    have hcl := T.cl hC
    go_region_held3 (fun w' => Cl w' ∧ w'.cell? ⟨cb, 0, none⟩ = some (.string s) ∧ w'.cell? ⟨cb, 2, none⟩ = some (.int .i64 k)) (first | exact ⟨hcl, c0, c2⟩ | assumption | go_keep)
      (first | (go_at_call 29; refine Calls.mono (CA _ (by assumption)) ?_; rintro e w' ⟨rfl, rfl⟩))
    all_goals (go_wp2; go_meet; exact ⟨rfl, T.drew⟩)
  case rest =>
  clear T c0 c1 c2 f2 t0 t1 t2 t3 ft r0 r1 r2 r3 fr CA
  obtain ⟨rfl, T⟩ := hcut
  obtain ⟨c0, c1, c2, f2, t0, t1, t2, t3, ft, r0, r1, r2, r3, fr⟩ := T.cells
  go_wp2
  go_step3
  show goes _ _ _ _ _ _
  refine ⟨_, rfl, ?_⟩
  go_wp2
  have T0 := T.setKind 6
  generalize wc.setCell ⟨rb + 1, 0, none⟩ (.int .i64 6) = wd at T0 ⊢
  clear T c0 c1 c2 f2 t0 t1 t2 t3 ft r0 r1 r2 r3 fr
  have T := T0
  clear T0
  obtain ⟨c0, c1, c2, f2, t0, t1, t2, t3, ft, r0, r1, r2, r3, fr⟩ := T.cells
  go_cut [5] from 6 (fun cd wc => cd = .int .i64 0 ∧ TokW w wc s cb k rb (k + n : Nat) tk 6 ⟨#[]⟩ v)
  case first =>
    have hcl := T.cl hC
    have lt := T.lt
    go_region_with (first | (go_at_call 58; refine Calls.mono (RN _ ?_) ?_; exact hcl; rintro e w' ⟨rfl, rfl⟩))
    all_goals (go_wp2; go_meet; refine ⟨rfl, ?_⟩; first | exact (T.setNum _).setAt _ | exact ((T.setNum _).setAt _).drew | exact (((T.setNum _).setAt _).drew).drew | exact (T.setAt _).setNum _ | exact ((T.setAt _).setNum _).drew | exact (((T.setAt _).setNum _).drew).drew)
  case rest =>
  clear T c0 c1 c2 f2 t0 t1 t2 t3 ft r0 r1 r2 r3 fr
  obtain ⟨rfl, T⟩ := hcut
  obtain ⟨c0, c1, c2, f2, t0, t1, t2, t3, ft, r0, r1, r2, r3, fr⟩ := T.cells
  go_wp2
  refine jumps_ret ?_
  have D := tok_done T (.int .i64 6) (.string ⟨#[]⟩) (.int .i64 v) (.int .i64 0)
  refine bodyPost_ret (v := .tuple #[.agg #[.int .i64 6, .string ⟨#[]⟩, .int .i64 v, .int .i64 0], .int .i64 0]) (by simp [results, Tryz.results33, go_sem, *]) rfl ?_
  refine ⟨rfl, D.1, ?_⟩
  rw [Hrb.out]; exact D.2
set_option maxHeartbeats 4000000 in
set_option maxRecDepth 10000 in
theorem tok_number_bad (s : ByteArray) (cb k : Nat) (tk : Value) (w : World) (hs : s.size ≤ 65536) (hC : Cl w) (h1 : 1 < cb) (_hk : k ≤ s.size)
    (hcut : w.heap[cb]? = some (.cells #[.string s, .int .i64 k, .int .i64 k, tk] 47 (0, 0))) (hc : clsAt s k = 3) (hnum : numL (rest s k) = none) :
    Calls Tryz.prog 33 #[.pointer (some ⟨cb, 0, none⟩)] w fun e w' => TokPost w s cb k tk e w' (.error 11) := by
  have hlt : k < s.size := by
    by_cases h : k < s.size
    · exact h
    · rw [clsAt_out h] at hc; cases hc
  have RN : ∀ W, Cl W → Calls Tryz.prog 58 #[.string s, .int .i64 k] W fun e w' => e = .returned (.tuple #[.int .i64 0, .int .i64 0, .int .i64 11]) ∧ w' = W := fun W h => by
    have := readNumber_any s k W hs h hlt
    rw [hnum] at this
    exact this
  clear hnum
  have CA : ∀ W, Cl W → Calls Tryz.prog 29 #[.string s, .int .i64 k] W fun e w' => e = .returned (.int .u8 3) ∧ w' = W := fun W h => by
    have := class_any s k W h
    rw [hc] at this
    exact this
  have T := tokW_start h1 hcut
  clear hc hcut
  go_enter Tryz.func33, Tryz.ntmps33
  go_wp2
  refine wp_scope_two ?_
  go_wp2
  generalize hW : (w.alloc (Obj.cells #[Value.int .i64 0, Value.string ⟨#[]⟩, Value.int .i64 0, Value.int .i64 0] 39)).alloc (Obj.cells #[Value.int .i64 0, Value.string ⟨#[]⟩, Value.int .i64 0, Value.int .i64 0] 39) = W at T ⊢
  generalize hrb : w.heap.size = rb at T ⊢
  have Hrb : Hid (w.heap.size = rb) := hrb
  clear hW hrb
  obtain ⟨c0, c1, c2, f2, t0, t1, t2, t3, ft, r0, r1, r2, r3, fr⟩ := T.cells
  go_cut [14] from 6 (fun c wc => c = .int .u8 3 ∧ TokW w wc s cb k rb k tk 0 ⟨#[]⟩ 0)
  case first =>
    have hcl := T.cl hC
    go_region_held3 (fun w' => Cl w' ∧ w'.cell? ⟨cb, 0, none⟩ = some (.string s) ∧ w'.cell? ⟨cb, 2, none⟩ = some (.int .i64 k)) (first | exact ⟨hcl, c0, c2⟩ | assumption | go_keep)
      (first | (go_at_call 29; refine Calls.mono (CA _ (by assumption)) ?_; rintro e w' ⟨rfl, rfl⟩))
    all_goals (go_wp2; go_meet; exact ⟨rfl, T.drew⟩)
  case rest =>
  clear T c0 c1 c2 f2 t0 t1 t2 t3 ft r0 r1 r2 r3 fr CA
  obtain ⟨rfl, T⟩ := hcut
  obtain ⟨c0, c1, c2, f2, t0, t1, t2, t3, ft, r0, r1, r2, r3, fr⟩ := T.cells
  go_wp2
  go_step3
  show goes _ _ _ _ _ _
  refine ⟨_, rfl, ?_⟩
  go_wp2
  have T0 := T.setKind 6
  generalize wc.setCell ⟨rb + 1, 0, none⟩ (.int .i64 6) = wd at T0 ⊢
  clear T c0 c1 c2 f2 t0 t1 t2 t3 ft r0 r1 r2 r3 fr
  have T := T0
  clear T0
  obtain ⟨c0, c1, c2, f2, t0, t1, t2, t3, ft, r0, r1, r2, r3, fr⟩ := T.cells
  go_cut [5] from 6 (fun cd wc => cd = .int .i64 11 ∧ TokW w wc s cb k rb 0 tk 6 ⟨#[]⟩ 0)
  case first =>
    have hcl := T.cl hC
    have lt := T.lt
    go_region_with (first | (go_at_call 58; refine Calls.mono (RN _ ?_) ?_; exact hcl; rintro e w' ⟨rfl, rfl⟩))
    all_goals (go_wp2; go_meet; refine ⟨rfl, ?_⟩; first | exact (T.setNum _).setAt _ | exact ((T.setNum _).setAt _).drew | exact (((T.setNum _).setAt _).drew).drew | exact (T.setAt _).setNum _ | exact ((T.setAt _).setNum _).drew | exact (((T.setAt _).setNum _).drew).drew)
  case rest =>
  clear T c0 c1 c2 f2 t0 t1 t2 t3 ft r0 r1 r2 r3 fr
  obtain ⟨rfl, T⟩ := hcut
  obtain ⟨c0, c1, c2, f2, t0, t1, t2, t3, ft, r0, r1, r2, r3, fr⟩ := T.cells
  go_wp2
  refine jumps_ret ?_
  have D := tok_done T (.int .i64 6) (.string ⟨#[]⟩) (.int .i64 0) (.int .i64 0)
  refine bodyPost_ret (v := .tuple #[.agg #[.int .i64 6, .string ⟨#[]⟩, .int .i64 0, .int .i64 0], .int .i64 11]) (by simp [results, Tryz.results33, go_sem, *]) rfl ?_
  refine ⟨⟨6, ⟨#[]⟩, 0, 0, rfl⟩, ⟨0, D.1⟩, ?_⟩
  rw [Hrb.out]; exact D.2
end Go.Proofs.YtkfhdmkdkphmoaaGreatDoor
