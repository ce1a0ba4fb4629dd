/- The token that begins at a place, one kind of beginning. -/
import Derived.Test.YtkfhdmkdkphmoaaGreatDoorTokW
import Derived.Deep.Cut
import Derived.Deep.RegionWith
namespace Go.Proofs.YtkfhdmkdkphmoaaGreatDoor
open Go.RowKit

theorem upperEnd_le (s : ByteArray) (k : Nat) (hk : k ≤ s.size) : k ≤ (upperEndP s k).1 ∧ (upperEndP s k).1 ≤ s.size := by
  have h1 := endOf_le nsB s k hk
  have e1 : nameEndP s k = endOf nsB s k := rfl
  unfold upperEndP
  simp only [e1]
  by_cases hp : endOf nsB s k < s.size
  · have h2 := endOf_le nsB s (endOf nsB s k + 1) (by omega)
    have e2 : nameEndP s (endOf nsB s k + 1) = endOf nsB s (endOf nsB s k + 1) := rfl
    rw [e2]
    by_cases h46 : s[endOf nsB s k].toNat = 46
    · simp only [hp, h46, dite_true, decide_true, if_true]
      split
      · simp only []; omega
      · split
        · simp only []; omega
        · exact h1
    · simp only [hp, h46, dite_true, decide_false, Bool.false_eq_true, if_false]
      exact h1
  · simp only [hp, dite_false, Bool.false_eq_true, if_false]
    exact h1

set_option maxHeartbeats 4000000 in
set_option maxRecDepth 10000 in
theorem tok_upper (s : ByteArray) (cb k : Nat) (tk : Value) (w : World) (hs : s.size ≤ 65536) (hC : Cl w) (h1 : 1 < cb) (hk : k ≤ s.size)
    (hcut : w.heap[cb]? = some (.cells #[.string s, .int .i64 k, .int .i64 k, tk] 47 (0, 0))) (hc : clsAt s k = 2) :
    Calls Tryz.prog 33 #[.pointer (some ⟨cb, 0, none⟩)] w fun e w' => TokPost w s cb k tk e w' (.ok ((upperEndP s k).2, (rest s k).take ((upperEndP s k).1 - k), 0, (upperEndP s k).1 - k)) := by
  have hb := upperEnd_le s k hk
  have UE : ∀ W, Cl W → Calls Tryz.prog 54 #[.string s, .int .i64 k] W fun e w' => e = .returned (.tuple #[.int .i64 (upperEndP s k).1, .int .i64 (upperEndP s k).2]) ∧ w' = W := fun W h => upperEnd_any s k W (by unfold maxLen; omega) hk h
  have EX := extract_rest s k ((upperEndP s k).1 - k)
  rw [show k + ((upperEndP s k).1 - k) = (upperEndP s k).1 by omega] at EX
  generalize (upperEndP s k).1 = m at hb UE EX ⊢
  generalize (upperEndP s k).2 = kd at UE ⊢
  obtain ⟨hn1, hn2⟩ := hb
  have HX : Hid (s.extract k m = ⟨((rest s k).take (m - k)).toArray⟩) := EX
  have i1 : (0 : Int) ≤ (k : Int) := by omega
  have i2 : (k : Int) ≤ (m : Int) := by omega
  have i3 : (m : Int) ≤ (s.size : Int) := by omega
  generalize (rest s k).take (m - k) = l at HX ⊢
  clear EX
  have CA : ∀ W, Cl W → Calls Tryz.prog 29 #[.string s, .int .i64 k] W fun e w' => e = .returned (.int .u8 2) ∧ w' = W := fun W h => by
    have := class_any s k W h
    rw [hc] at this
    exact this
  have T := tokW_start h1 hcut
  clear hc hcut
  go_enter Tryz.func33, Tryz.ntmps33
  go_wp2
  refine wp_scope_two ?_
  go_wp2
  generalize hW : (w.alloc (Obj.cells #[Value.int .i64 0, Value.string ⟨#[]⟩, Value.int .i64 0, Value.int .i64 0] 39)).alloc (Obj.cells #[Value.int .i64 0, Value.string ⟨#[]⟩, Value.int .i64 0, Value.int .i64 0] 39) = W at T ⊢
  generalize hrb : w.heap.size = rb at T ⊢
  have Hrb : Hid (w.heap.size = rb) := hrb
  clear hW hrb
  obtain ⟨c0, c1, c2, f2, t0, t1, t2, t3, ft, r0, r1, r2, r3, fr⟩ := T.cells
  go_cut [14] from 6 (fun c wc => c = .int .u8 2 ∧ TokW w wc s cb k rb k tk 0 ⟨#[]⟩ 0)
  case first =>
    have hcl := T.cl hC
    go_region_held3 (fun w' => Cl w' ∧ w'.cell? ⟨cb, 0, none⟩ = some (.string s) ∧ w'.cell? ⟨cb, 2, none⟩ = some (.int .i64 k)) (first | exact ⟨hcl, c0, c2⟩ | assumption | go_keep)
      (first | (go_at_call 29; refine Calls.mono (CA _ (by assumption)) ?_; rintro e w' ⟨rfl, rfl⟩))
    all_goals (go_wp2; go_meet; exact ⟨rfl, T.drew⟩)
  case rest =>
  clear T c0 c1 c2 f2 t0 t1 t2 t3 ft r0 r1 r2 r3 fr CA
  obtain ⟨rfl, T⟩ := hcut
  obtain ⟨c0, c1, c2, f2, t0, t1, t2, t3, ft, r0, r1, r2, r3, fr⟩ := T.cells
  go_wp2
  go_step3
  show goes _ _ _ _ _ _
  refine ⟨_, rfl, ?_⟩
  go_wp2
  go_cut [] from 6 (fun wc => TokW w wc s cb k rb m tk kd ⟨#[]⟩ 0)
  case first =>
    have hcl := T.cl hC
    have lt := T.lt
    go_region_with (first | (go_at_call 54; refine Calls.mono (UE _ ?_) ?_; exact hcl; rintro e w' ⟨rfl, rfl⟩))
    all_goals (go_wp2; go_meet; first | exact (T.setAt _).setKind _ | exact ((T.setAt _).setKind _).drew | exact (((T.setAt _).setKind _).drew).drew | exact (T.setKind _).setAt _ | exact ((T.setKind _).setAt _).drew | exact (((T.setKind _).setAt _).drew).drew)
  case rest =>
  clear T c0 c1 c2 f2 t0 t1 t2 t3 ft r0 r1 r2 r3 fr
  have T := hcut
  clear hcut
  obtain ⟨c0, c1, c2, f2, t0, t1, t2, t3, ft, r0, r1, r2, r3, fr⟩ := T.cells
  go_wp2
  go_step3
  show goes _ _ _ _ _ _
  refine ⟨_, rfl, ?_⟩
  have hsz := lt_of_heap T.cut
  have PC := piece_any s cb k m wc hs (by omega) (by omega) hsz c0 c1 c2
  go_wp2_with (go_at_call 57; refine Calls.mono PC ?_; rintro e w1 ⟨rfl, hb⟩; have T1 := T.below hb; clear T c0 c1 c2 f2 t0 t1 t2 t3 ft r0 r1 r2 r3 fr PC; obtain ⟨c0, c1, c2, f2, t0, t1, t2, t3, ft, r0, r1, r2, r3, fr⟩ := T1.cells)
  refine jumps_ret ?_
  have D := tok_done (T1.setText (s.extract k m)) (.int .i64 kd) (.string (s.extract k m)) (.int .i64 0) (.int .i64 0)
  refine bodyPost_ret (v := .tuple #[.agg #[.int .i64 kd, .string (s.extract k m), .int .i64 0, .int .i64 0], .int .i64 0]) (by simp [results, Tryz.results33, go_sem, *]) rfl ?_
  refine ⟨?_, ?_, ?_⟩
  · rw [HX.out]; rfl
  · rw [show k + (m - k) = m by omega]; exact D.1
  · rw [Hrb.out]; exact D.2
end Go.Proofs.YtkfhdmkdkphmoaaGreatDoor
