/- The token that begins at a place, one kind of beginning. -/
import Derived.Test.YtkfhdmkdkphmoaaGreatDoorTokW
import Derived.Deep.Cut
import Derived.Deep.RegionWith
import Derived.Deep.QuietTactic
import Derived.BigQuiet
namespace Go.Proofs.YtkfhdmkdkphmoaaGreatDoor
open Go.RowKit

theorem TokW.drewN {w W : World} {s : ByteArray} {cb f rb : Nat} {a : Int} {tk : Value} {kd nm : Int} {tx : ByteArray} (T : TokW w W s cb f rb a tk kd tx nm) (n : Nat) : TokW w (W.drewN n) s cb f rb a tk kd tx nm := by
  induction n with
  | zero => exact T
  | succ n ih => exact ih.drew

set_option maxHeartbeats 4000000 in
set_option maxRecDepth 10000 in
theorem tok_wild (s : ByteArray) (cb k : Nat) (tk : Value) (w : World) (hs : s.size ≤ 65536) (hC : Cl w) (h1 : 1 < cb) (_hk : k ≤ s.size)
    (hcut : w.heap[cb]? = some (.cells #[.string s, .int .i64 k, .int .i64 k, tk] 47 (0, 0))) (hc : clsAt s k = 5) (hns : nsB (clsAt s (k + 1)) = false) :
    Calls Tryz.prog 33 #[.pointer (some ⟨cb, 0, none⟩)] w fun e w' => TokPost w s cb k tk e w' (.ok (9, (rest s k).take 1, 0, 1)) := by
  have hlt : k < s.size := by
    by_cases h : k < s.size
    · exact h
    · rw [clsAt_out h] at hc; cases hc
  have EX := extract_rest s k 1
  have HX : Hid (s.extract k (k + 1) = ⟨((rest s k).take 1).toArray⟩) := EX
  generalize (rest s k).take 1 = l at HX ⊢
  obtain ⟨m, hm⟩ : ∃ m, m = k + 1 := ⟨_, rfl⟩
  rw [← hm] at HX
  have HM : Hid (m = k + 1) := hm
  have hm' : Hid ((k : Int) + 1 = (m : Int)) := by show (k : Int) + 1 = (m : Int); omega
  have hm1 : k ≤ m := by omega
  have hm2 : m ≤ s.size := by omega
  have C1 : ∀ W, Cl W → Calls Tryz.prog 29 #[.string s, .int .i64 ((k : Int) + 1)] W fun e w' => e = .returned (.int .u8 (clsAt s (k + 1))) ∧ w' = W := fun W h => class_any s (k + 1) W h
  have NS : ∀ W, Calls Tryz.prog 56 #[.int .u8 (clsAt s (k + 1))] W fun e w' => e = .returned (.bool false) ∧ w' = W := fun W => by
    have := isNameSign_any (clsAt s (k + 1)) W
    rw [hns] at this
    exact this
  generalize clsAt s (k + 1) = c1 at C1 NS
  clear hns
  clear EX hm
  have CA : ∀ W, Cl W → Calls Tryz.prog 29 #[.string s, .int .i64 k] W fun e w' => e = .returned (.int .u8 5) ∧ w' = W := fun W h => by
    have := class_any s k W h
    rw [hc] at this
    exact this
  have T := tokW_start h1 hcut
  clear hc hcut
  go_enter Tryz.func33, Tryz.ntmps33
  go_wp2
  refine wp_scope_two ?_
  go_wp2
  generalize hW : (w.alloc (Obj.cells #[Value.int .i64 0, Value.string ⟨#[]⟩, Value.int .i64 0, Value.int .i64 0] 39)).alloc (Obj.cells #[Value.int .i64 0, Value.string ⟨#[]⟩, Value.int .i64 0, Value.int .i64 0] 39) = W at T ⊢
  generalize hrb : w.heap.size = rb at T ⊢
  have Hrb : Hid (w.heap.size = rb) := hrb
  clear hW hrb
  obtain ⟨c0, c1, c2, f2, t0, t1, t2, t3, ft, r0, r1, r2, r3, fr⟩ := T.cells
  go_cut [14] from 6 (fun c wc => c = .int .u8 5 ∧ TokW w wc s cb k rb k tk 0 ⟨#[]⟩ 0)
  case first =>
    have hcl := T.cl hC
    go_region_held3 (fun w' => Cl w' ∧ w'.cell? ⟨cb, 0, none⟩ = some (.string s) ∧ w'.cell? ⟨cb, 2, none⟩ = some (.int .i64 k)) (first | exact ⟨hcl, c0, c2⟩ | assumption | go_keep)
      (first | (go_at_call 29; refine Calls.mono (CA _ (by assumption)) ?_; rintro e w' ⟨rfl, rfl⟩))
    all_goals (go_wp2; go_meet; exact ⟨rfl, T.drew⟩)
  case rest =>
  clear T c0 c1 c2 f2 t0 t1 t2 t3 ft r0 r1 r2 r3 fr CA
  obtain ⟨rfl, T⟩ := hcut
  obtain ⟨c0, c1, c2, f2, t0, t1, t2, t3, ft, r0, r1, r2, r3, fr⟩ := T.cells
  go_wp2
  go_step3
  show goes _ _ _ _ _ _
  refine ⟨_, rfl, ?_⟩
  go_wp2
  have hcl := T.cl hC
  have hcn : ∀ n, Cl (wc.drewN n) := fun n i hi => (by simp : (wc.drewN n).cell? ⟨0, i, none⟩ = wc.cell? ⟨0, i, none⟩).trans (hcl i hi)
  have TN : ∀ n, TokW w (wc.drewN n) s cb k rb k tk 0 ⟨#[]⟩ 0 := fun n => T.drewN n
  clear hcl
  go_quiet (first | (go_at_call 29; exact Calls.quiet_of_same (C1 _ (hcn _))) | (go_at_call 56; exact Calls.quiet_of_same (NS _)))
  have T0 := TN nq
  generalize wc.drewN nq = wd at T0 ⊢
  clear TN hcn T c0 c1 c2 f2 t0 t1 t2 t3 ft r0 r1 r2 r3 fr
  have T := T0
  clear T0
  obtain ⟨c0, c1, c2, f2, t0, t1, t2, t3, ft, r0, r1, r2, r3, fr⟩ := T.cells
  go_wp2
  go_step3
  go_wp2
  have T0 : TokW w ((wd.setCell ⟨cb, 2, none⟩ (.int .i64 ((k : Int) + 1))).setCell ⟨rb + 1, 0, none⟩ (.int .i64 9)) s cb k rb m tk 9 ⟨#[]⟩ 0 := by
    have := (T.setAt ((k : Int) + 1)).setKind 9
    rwa [hm'.out] at this ⊢
  generalize (wd.setCell ⟨cb, 2, none⟩ (.int .i64 ((k : Int) + 1))).setCell ⟨rb + 1, 0, none⟩ (.int .i64 9) = we at T0 ⊢
  clear T c0 c1 c2 f2 t0 t1 t2 t3 ft r0 r1 r2 r3 fr
  have T := T0
  clear T0
  obtain ⟨c0, c1, c2, f2, t0, t1, t2, t3, ft, r0, r1, r2, r3, fr⟩ := T.cells
  go_step3
  have hsz := lt_of_heap T.cut
  have PC := piece_any s cb k m we hs (by omega) (by omega) hsz c0 c1 c2
  go_wp2_with (go_at_call 57; refine Calls.mono PC ?_; rintro e w1 ⟨rfl, hb⟩; have T1 := T.below hb; clear T c0 c1 c2 f2 t0 t1 t2 t3 ft r0 r1 r2 r3 fr PC; obtain ⟨c0, c1, c2, f2, t0, t1, t2, t3, ft, r0, r1, r2, r3, fr⟩ := T1.cells)
  refine jumps_ret ?_
  have D := tok_done (T1.setText (s.extract k m)) (.int .i64 9) (.string (s.extract k m)) (.int .i64 0) (.int .i64 0)
  refine bodyPost_ret (v := .tuple #[.agg #[.int .i64 9, .string (s.extract k m), .int .i64 0, .int .i64 0], .int .i64 0]) (by simp [results, Tryz.results33, go_sem, *]) rfl ?_
  refine ⟨?_, ?_, ?_⟩
  · rw [HX.out]; rfl
  · rw [← HM.out]; exact D.1
  · rw [Hrb.out]; exact D.2
set_option maxHeartbeats 4000000 in
set_option maxRecDepth 10000 in
theorem tok_wild_bad (s : ByteArray) (cb k : Nat) (tk : Value) (w : World) (hs : s.size ≤ 65536) (hC : Cl w) (h1 : 1 < cb) (_hk : k ≤ s.size)
    (hcut : w.heap[cb]? = some (.cells #[.string s, .int .i64 k, .int .i64 k, tk] 47 (0, 0))) (hc : clsAt s k = 5) (hns : nsB (clsAt s (k + 1)) = true) :
    Calls Tryz.prog 33 #[.pointer (some ⟨cb, 0, none⟩)] w fun e w' => TokPost w s cb k tk e w' (.error 10) := by
  have hlt : k < s.size := by
    by_cases h : k < s.size
    · exact h
    · rw [clsAt_out h] at hc; cases hc
  have C1 : ∀ W, Cl W → Calls Tryz.prog 29 #[.string s, .int .i64 ((k : Int) + 1)] W fun e w' => e = .returned (.int .u8 (clsAt s (k + 1))) ∧ w' = W := fun W h => class_any s (k + 1) W h
  have NS : ∀ W, Calls Tryz.prog 56 #[.int .u8 (clsAt s (k + 1))] W fun e w' => e = .returned (.bool true) ∧ w' = W := fun W => by
    have := isNameSign_any (clsAt s (k + 1)) W
    rw [hns] at this
    exact this
  generalize clsAt s (k + 1) = c1 at C1 NS
  clear hns
  have CA : ∀ W, Cl W → Calls Tryz.prog 29 #[.string s, .int .i64 k] W fun e w' => e = .returned (.int .u8 5) ∧ w' = W := fun W h => by
    have := class_any s k W h
    rw [hc] at this
    exact this
  have T := tokW_start h1 hcut
  clear hc hcut
  go_enter Tryz.func33, Tryz.ntmps33
  go_wp2
  refine wp_scope_two ?_
  go_wp2
  generalize hW : (w.alloc (Obj.cells #[Value.int .i64 0, Value.string ⟨#[]⟩, Value.int .i64 0, Value.int .i64 0] 39)).alloc (Obj.cells #[Value.int .i64 0, Value.string ⟨#[]⟩, Value.int .i64 0, Value.int .i64 0] 39) = W at T ⊢
  generalize hrb : w.heap.size = rb at T ⊢
  have Hrb : Hid (w.heap.size = rb) := hrb
  clear hW hrb
  obtain ⟨c0, c1, c2, f2, t0, t1, t2, t3, ft, r0, r1, r2, r3, fr⟩ := T.cells
  go_cut [14] from 6 (fun c wc => c = .int .u8 5 ∧ TokW w wc s cb k rb k tk 0 ⟨#[]⟩ 0)
  case first =>
    have hcl := T.cl hC
    go_region_held3 (fun w' => Cl w' ∧ w'.cell? ⟨cb, 0, none⟩ = some (.string s) ∧ w'.cell? ⟨cb, 2, none⟩ = some (.int .i64 k)) (first | exact ⟨hcl, c0, c2⟩ | assumption | go_keep)
      (first | (go_at_call 29; refine Calls.mono (CA _ (by assumption)) ?_; rintro e w' ⟨rfl, rfl⟩))
    all_goals (go_wp2; go_meet; exact ⟨rfl, T.drew⟩)
  case rest =>
  clear T c0 c1 c2 f2 t0 t1 t2 t3 ft r0 r1 r2 r3 fr CA
  obtain ⟨rfl, T⟩ := hcut
  obtain ⟨c0, c1, c2, f2, t0, t1, t2, t3, ft, r0, r1, r2, r3, fr⟩ := T.cells
  go_wp2
  go_step3
  show goes _ _ _ _ _ _
  refine ⟨_, rfl, ?_⟩
  go_wp2
  have hcl := T.cl hC
  have hcn : ∀ n, Cl (wc.drewN n) := fun n i hi => (by simp : (wc.drewN n).cell? ⟨0, i, none⟩ = wc.cell? ⟨0, i, none⟩).trans (hcl i hi)
  have TN : ∀ n, TokW w (wc.drewN n) s cb k rb k tk 0 ⟨#[]⟩ 0 := fun n => T.drewN n
  clear hcl
  go_quiet (first | (go_at_call 29; exact Calls.quiet_of_same (C1 _ (hcn _))) | (go_at_call 56; exact Calls.quiet_of_same (NS _)))
  have T0 := TN nq
  generalize wc.drewN nq = wd at T0 ⊢
  clear TN hcn T c0 c1 c2 f2 t0 t1 t2 t3 ft r0 r1 r2 r3 fr
  have T := T0
  clear T0
  obtain ⟨c0, c1, c2, f2, t0, t1, t2, t3, ft, r0, r1, r2, r3, fr⟩ := T.cells
  go_wp2
  refine jumps_ret ?_
  have D := tok_done T (.int .i64 0) (.string ⟨#[]⟩) (.int .i64 0) (.int .i64 0)
  refine bodyPost_ret (v := .tuple #[.agg #[.int .i64 0, .string ⟨#[]⟩, .int .i64 0, .int .i64 0], .int .i64 10]) (by simp [results, Tryz.results33, go_sem, *]) rfl ?_
  refine ⟨⟨0, ⟨#[]⟩, 0, 0, rfl⟩, ⟨k, D.1⟩, ?_⟩
  rw [Hrb.out]; exact D.2
end Go.Proofs.YtkfhdmkdkphmoaaGreatDoor
