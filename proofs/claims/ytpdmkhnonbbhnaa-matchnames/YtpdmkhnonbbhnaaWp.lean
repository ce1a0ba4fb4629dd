/- awake: the law's first call. -/
import Derived.Test.YtpdmkhnonbbhnaaWo
namespace Go.Proofs.Ytpdmkhnonbbhnaa
open Go.RowKit Go.Maps

def awF (B : Nat) (v : Nat → Value) : Act := { tmps := #[.bool false, .pointer (some ⟨B, 0, none⟩), .pointer (some ⟨B + 1 + 1, 0, none⟩), v 3, v 4, v 5, undef, undef, .agg #[.int .i64 4, .string ⟨#[78, 105, 108]⟩, .int .i64 0, .slice none 0 0], .agg #[.int .i64 2, .string ⟨#[120]⟩, .int .i64 0, .slice none 0 0], .agg #[.int .i64 4, .string ⟨#[78, 105, 108]⟩, .int .i64 0, .slice none 0 0], .slice (some ⟨B + 1, 0, none⟩) 2 2, .agg #[.int .i64 4, .string ⟨#[67, 111, 110, 115]⟩, .int .i64 0, .slice (some ⟨B + 1, 0, none⟩) 2 2], v 13, v 14, v 15, v 16, v 17, v 18, v 19, v 20, v 21, undef, undef, undef, undef, undef, undef, undef, undef, undef, undef, undef, undef, undef, undef, undef, undef, undef, undef, undef, undef, undef, undef, undef, undef, undef, undef, undef, undef, undef, undef, undef, undef, undef, undef, undef, undef, undef, undef, undef, undef, undef, undef, undef, undef, undef, undef, undef, undef, undef, undef, undef, undef, undef, undef, undef, undef, undef, undef, undef, undef, undef, undef, undef, undef, undef, undef, undef, undef, undef], defers := [] }
def AwI (W : World) (B : Nat) (listed : Array Bool) (a : Act) (w : World) : Prop := ∃ l v Z, listed = #[l 0, l 1, l 2, l 3, l 4, l 5, l 6, l 7, l 8, l 9, l 10, l 11, l 12, l 13] ∧ a = awF B v ∧ AwS W B l v Z w
def awPre : List (List Nat) := [[], [], [1], [2], [0, 3], [4], [5], [5], [5], [], [], [9, 6], [10, 7, 11], [8, 12]]
set_option maxHeartbeats 4000000 in
set_option maxRecDepth 10000 in
theorem awake_any (w : World) : Calls Try.prog 5 #[] w fun r w' => Below w.heap.size w w' ∧ r = .returned (.bool true) := by
  go_enter Try.func5, Try.ntmps5
  go_upto_region 3 with fail
  obtain ⟨W, hW⟩ : ∃ W, W = ((w.alloc (Obj.cells #[.int .i64 4, .string ⟨#[78, 105, 108]⟩, .int .i64 0, .slice none 0 0] 39)).alloc (Obj.cells #[.int .i64 2, .string ⟨#[120]⟩, .int .i64 0, .slice none 0 0, .int .i64 4, .string ⟨#[78, 105, 108]⟩, .int .i64 0, .slice none 0 0] 39)).alloc (Obj.cells #[.int .i64 4, .string ⟨#[67, 111, 110, 115]⟩, .int .i64 0, .slice (some ⟨w.heap.size + 1, 0, none⟩) 2 2] 39) := ⟨_, rfl⟩
  rw [← hW]
  have HW : Hid (Below w.heap.size w W ∧ W.heap.size = w.heap.size + 3 ∧ W.heap[w.heap.size + 1]? = some (.cells #[.int .i64 2, .string ⟨#[120]⟩, .int .i64 0, .slice none 0 0, .int .i64 4, .string ⟨#[78, 105, 108]⟩, .int .i64 0, .slice none 0 0] 39 (0, 0)) ∧ W.heap[w.heap.size + 1 + 1]? = some (.cells (awXc w.heap.size) 39 (0, 0))) := by
    refine ⟨?_, by rw [hW]; simp, ?_, ?_⟩
    · rw [hW]
      exact (((Below.refl _ _).alloc (Nat.le_refl _) _).alloc (by simp) _).alloc (by simp; omega) _
    · rw [hW, Below.heap_alloc _ _ _ (by simp)]
      have e : (w.alloc (Obj.cells #[.int .i64 4, .string ⟨#[78, 105, 108]⟩, .int .i64 0, .slice none 0 0] 39)).heap.size = w.heap.size + 1 := by simp
      rw [← e]
      exact new_block _ _
    · rw [hW]
      have e : ((w.alloc (Obj.cells #[.int .i64 4, .string ⟨#[78, 105, 108]⟩, .int .i64 0, .slice none 0 0] 39)).alloc (Obj.cells #[.int .i64 2, .string ⟨#[120]⟩, .int .i64 0, .slice none 0 0, .int .i64 4, .string ⟨#[78, 105, 108]⟩, .int .i64 0, .slice none 0 0] 39)).heap.size = w.heap.size + 1 + 1 := by simp
      rw [← e]
      exact new_block _ _
  clear hW
  rename_i Q0 K hK
  have HK : Hid (∀ (a : Act) (w : World), _ → K a w) := hK
  clear hK
  refine wp_region_inv (by kernel_rfl) (AwI W w.heap.size) ?_ ?_ ?_
  · exact ⟨fun _ => false, fun _ => undef, fun _ => False, rfl, rfl, AwS.start' _ _ _⟩
  · rintro listed a u ⟨l, v, Z, rfl, rfl, hs⟩ i hi
    obtain ⟨hlt, hi0, hp⟩ := ready_pre awPre (by kernel_rfl) hi
    clear hi
    have HS : Hid (AwS W w.heap.size l v Z u) := hs
    have hb := hs.below
    clear hs
    have hlt : i < 14 := hlt
    rcases (by omega : i = 0 ∨ i = 1 ∨ i = 2 ∨ i = 3 ∨ i = 4 ∨ i = 5 ∨ i = 6 ∨ i = 7 ∨ i = 8 ∨ i = 9 ∨ i = 10 ∨ i = 11 ∨ i = 12 ∨ i = 13) with rfl | rfl | rfl | rfl | rfl | rfl | rfl | rfl | rfl | rfl | rfl | rfl | rfl | rfl
    · refine wpOp_step (o := _) rfl (fun K1 hK1 => ?_)
      have HK1 : Hid (∀ (a : Act) (w : World), _ → K1 a w) := hK1
      clear hK1
      unfold awF
      go_simp
      refine Calls.mono (lists_any u) ?_
      rintro r u1 ⟨hb1, rfl, hz, hF⟩
      exact HK1.out _ _ ⟨upd l 0 true, upd v 14 _, Z, rfl, rfl, (HS.out.on hb1).s0 (hF.up fun y hy => hy.2)⟩
    · have hc : u.heap[w.heap.size + 1 + 1]? = some (.cells (awXc w.heap.size) 39 (0, 0)) := (hb.block _ (by rw [HW.out.2.1]; omega)).trans HW.out.2.2.2
      have c0 : u.cell? ⟨w.heap.size + 1 + 1, 0, none⟩ = some (.int .i64 4) := heap_cell hc rfl
      have c1 : u.cell? ⟨w.heap.size + 1 + 1, 1, none⟩ = some (.string ⟨#[67, 111, 110, 115]⟩) := heap_cell hc rfl
      have c2 : u.cell? ⟨w.heap.size + 1 + 1, 2, none⟩ = some (.int .i64 0) := heap_cell hc rfl
      have c3 : u.cell? ⟨w.heap.size + 1 + 1, 3, none⟩ = some (.slice (some ⟨w.heap.size + 1, 0, none⟩) 2 2) := heap_cell hc rfl
      clear hc hb
      refine wpOp_step (o := _) rfl (fun K1 hK1 => ?_)
      have HK1 : Hid (∀ (a : Act) (w : World), _ → K1 a w) := hK1
      clear hK1
      unfold awF
      go_simp
      exact HK1.out _ _ ⟨upd l 1 true, upd v 15 (.agg (awXc w.heap.size)), Z, rfl, rfl, HS.out.s1⟩
    · have l1 : l 1 = true := hp 1 (by decide)
      have e := HS.out.f1 l1
      unfold awXc at e
      refine wpOp_step (o := _) rfl (fun K1 hK1 => ?_)
      have HK1 : Hid (∀ (a : Act) (w : World), _ → K1 a w) := hK1
      clear hK1
      unfold awF
      rw [e]
      have HE : Hid (v 15 = _) := e
      clear e
      go_simp
      have k := (HS.out.on ((Below.refl _ _).alloc (Nat.le_refl _) (Obj.cells (awXc w.heap.size) 39))).s2 (by simp) (new_block _ _)
      exact HK1.out _ _ ⟨upd l 2 true, upd v 16 _, Z, rfl, (by unfold awF; rw [show upd v 16 _ 15 = _ from HE.out]; rfl), k⟩
    · have l2 : l 2 = true := hp 2 (by decide)
      have l4 : l 4 = false := by
        have h3 : l 3 = false := hi0
        cases h : l 4 with
        | false => rfl
        | true => have := HS.out.g4 h; rw [h3] at this; cases this
      obtain ⟨g, hg, e, hc⟩ := HS.out.f2 l2 l4
      have HG : Hid (g < u.heap.size ∧ u.heap[g]? = some (.cells (awXc w.heap.size) 39 (0, 0))) := ⟨hg, hc⟩
      clear hg hc
      refine wpOp_step (o := _) rfl (fun K1 hK1 => ?_)
      have HK1 : Hid (∀ (a : Act) (w : World), _ → K1 a w) := hK1
      clear hK1
      unfold awF
      rw [e]
      have HE : Hid (v 16 = _) := e
      clear e
      go_simp
      have hA := (hb.block (w.heap.size + 1) (by rw [HW.out.2.1]; omega)).trans HW.out.2.2.1
      have hAl : w.heap.size + 1 < u.heap.size := by have := HW.out.2.1; have := hb.size; omega
      have k := (HS.out.on ((Below.refl _ _).alloc (Nat.le_refl _) (Obj.cells #[.slice (some ⟨g, 0, none⟩) 1 1] 24))).s3 (aw_row (A := w.heap.size + 1) (X := g) (Y := u.heap.size) ((Below.heap_alloc _ _ _ hAl).trans hA) ((Below.heap_alloc _ _ _ HG.out.1).trans HG.out.2) (new_block _ _) (by simp; omega) (by simp; have := HG.out.1; omega) (by simp))
      exact HK1.out _ _ ⟨upd l 3 true, upd v 17 _, Z, rfl, (by unfold awF; rw [show upd v 17 _ 16 = _ from HE.out]; rfl), k⟩
    · have l0 : l 0 = true := hp 0 (by decide)
      have l3 : l 3 = true := hp 3 (by decide)
      have l4 : l 4 = false := hi0
      obtain ⟨g, e, hF⟩ := HS.out.f0 l0 l4
      have hR := HS.out.f3 l3 l4
      rw [e] at hF
      obtain ⟨F, hF5⟩ : ∃ F, F = 5001 := ⟨_, rfl⟩
      have CA := aw_calls hF5 (some ⟨g, 0, none⟩) 1 (v 17) (fun _ h => h) hF hR
      clear hF hR hF5
      refine wpOp_step (o := _) rfl (fun K1 hK1 => ?_)
      have HK1 : Hid (∀ (a : Act) (w : World), _ → K1 a w) := hK1
      clear hK1
      unfold awF
      rw [e]
      have HE : Hid (v 14 = _) := e
      clear e
      go_simp
      refine Calls.mono CA ?_
      rintro r u1 ⟨hb1, x, rfl, hA⟩
      exact HK1.out _ _ ⟨upd l 4 true, upd v 18 x, _, rfl, (by unfold awF; rw [show upd v 18 _ 14 = _ from HE.out]; rfl), HS.out.s4 l4 l3 hb1 hA⟩
    · have l4 : l 4 = true := hp 4 (by decide)
      refine wpOp_step (o := _) rfl (fun K1 hK1 => ?_)
      have HK1 : Hid (∀ (a : Act) (w : World), _ → K1 a w) := hK1
      clear hK1
      unfold awF
      go_simp
      exact HK1.out _ _ ⟨upd l 5 true, upd v 13 (v 18), Z, rfl, rfl, HS.out.s5 l4⟩
    · have l5 : l 5 = true := hp 5 (by decide)
      have h6 : l 6 = false := hi0
      obtain ⟨l4, e13⟩ := HS.out.f5 l5
      obtain ⟨p0, p1, p2, q0, q1, q2, r0, r1, r2, x0, x1, x2, y0, y1, y2, e⟩ := (HS.out.f4 l4).tup
      have HE : Hid (v 18 = _) := e
      rw [e] at e13
      clear e
      refine wpOp_step (o := _) rfl (fun K1 hK1 => ?_)
      have HK1 : Hid (∀ (a : Act) (w : World), _ → K1 a w) := hK1
      clear hK1
      unfold awF
      rw [e13]
      go_simp
      rw [← e13]
      exact HK1.out _ _ ⟨upd l 6 true, upd v 19 (.agg #[.int .i64 3, .int .i64 0, .slice p0 p1 p2, .slice q0 q1 q2, .slice r0 r1 r2]), Z, rfl, rfl, HS.out.s6 l4 h6 HE.out⟩
    · have l5 : l 5 = true := hp 5 (by decide)
      have h7 : l 7 = false := hi0
      obtain ⟨l4, e13⟩ := HS.out.f5 l5
      obtain ⟨p0, p1, p2, q0, q1, q2, r0, r1, r2, x0, x1, x2, y0, y1, y2, e⟩ := (HS.out.f4 l4).tup
      have HE : Hid (v 18 = _) := e
      rw [e] at e13
      clear e
      refine wpOp_step (o := _) rfl (fun K1 hK1 => ?_)
      have HK1 : Hid (∀ (a : Act) (w : World), _ → K1 a w) := hK1
      clear hK1
      unfold awF
      rw [e13]
      go_simp
      rw [← e13]
      exact HK1.out _ _ ⟨upd l 7 true, upd v 20 (.agg #[.bool false, .slice x0 x1 x2, .slice y0 y1 y2]), Z, rfl, rfl, HS.out.s7 l4 h7 HE.out⟩
    · have l5 : l 5 = true := hp 5 (by decide)
      have h8 : l 8 = false := hi0
      obtain ⟨l4, e13⟩ := HS.out.f5 l5
      obtain ⟨p0, p1, p2, q0, q1, q2, r0, r1, r2, x0, x1, x2, y0, y1, y2, e⟩ := (HS.out.f4 l4).tup
      have HE : Hid (v 18 = _) := e
      rw [e] at e13
      clear e
      refine wpOp_step (o := _) rfl (fun K1 hK1 => ?_)
      have HK1 : Hid (∀ (a : Act) (w : World), _ → K1 a w) := hK1
      clear hK1
      unfold awF
      rw [e13]
      go_simp
      rw [← e13]
      exact HK1.out _ _ ⟨upd l 8 true, upd v 21 (.int .i64 0), Z, rfl, rfl, HS.out.s8 l4 h8 HE.out⟩
    · have h9 : l 9 = false := hi0
      refine wpOp_step (o := _) rfl (fun K1 hK1 => ?_)
      have HK1 : Hid (∀ (a : Act) (w : World), _ → K1 a w) := hK1
      clear hK1
      unfold awF
      go_simp
      exact HK1.out _ _ ⟨upd l 9 true, upd v 3 _, Z, rfl, rfl, HS.out.s9 h9 _ _ _ _ _⟩
    · have h10 : l 10 = false := hi0
      refine wpOp_step (o := _) rfl (fun K1 hK1 => ?_)
      have HK1 : Hid (∀ (a : Act) (w : World), _ → K1 a w) := hK1
      clear hK1
      unfold awF
      go_simp
      exact HK1.out _ _ ⟨upd l 10 true, upd v 4 _, Z, rfl, rfl, HS.out.s10 h10 _ _ _⟩
    · have l9 : l 9 = true := hp 9 (by decide)
      have l6 : l 6 = true := hp 6 (by decide)
      obtain ⟨l4, y, z, e18⟩ := HS.out.f6 l6
      obtain ⟨p0, p1, p2, q0, q1, q2, r0, r1, r2, x0, x1, x2, y0, y1, y2, e⟩ := (HS.out.f4 l4).tup
      obtain ⟨b, c0, c1, c2, c3, c4, eb, hb0, hbl, hz, hc, _⟩ := HS.out.f9 l9
      have ev : v 19 = .agg #[.int .i64 3, .int .i64 0, .slice p0 p1 p2, .slice q0 q1 q2, .slice r0 r1 r2] := by
        have := e18.symm.trans e
        injection this with this
        injection this with this
        injection this
      have HE : Hid (v 19 = _) := ev
      have HB : Hid (v 3 = _ ∧ W.heap.size ≤ b ∧ b < u.heap.size ∧ ¬ Z b) := ⟨eb, hb0, hbl, hz⟩
      clear e18 e hb0 hbl hz hb
      have s0 : u.cell? ⟨b, 0, none⟩ = some c0 := heap_cell hc rfl
      have z0 := heap_frozen (o := 0) hc
      have s1 : u.cell? ⟨b, 1, none⟩ = some c1 := heap_cell hc rfl
      have z1 := heap_frozen (o := 1) hc
      have s2 : u.cell? ⟨b, 2, none⟩ = some c2 := heap_cell hc rfl
      have z2 := heap_frozen (o := 2) hc
      have s3 : u.cell? ⟨b, 3, none⟩ = some c3 := heap_cell hc rfl
      have z3 := heap_frozen (o := 3) hc
      have s4 : u.cell? ⟨b, 4, none⟩ = some c4 := heap_cell hc rfl
      have z4 := heap_frozen (o := 4) hc
      obtain ⟨U, hU, hUR, hUs, hUk, hUo⟩ := store5 hc (.int .i64 3) (.int .i64 0) (.slice p0 p1 p2) (.slice q0 q1 q2) (.slice r0 r1 r2)
      have HU : Hid (U.heap.size = u.heap.size ∧ (∀ x, x ≠ b → U.heap[x]? = u.heap[x]?) ∧ (U.os = u.os ∧ U.tape = u.tape ∧ U.output = u.output) ∧ U.heap[b]? = _) := ⟨hUs, hUk, hUo, hUR⟩
      clear hUs hUk hUo hUR hc
      refine wpOp_step (o := _) rfl (fun K1 hK1 => ?_)
      have HK1 : Hid (∀ (a : Act) (w : World), _ → K1 a w) := hK1
      clear hK1
      unfold awF
      rw [eb, ev]
      clear eb ev
      go_simp
      rw [← hU]
      rw [← HB.out.1, ← HE.out]
      exact HK1.out _ _ ⟨upd l 11 true, v, Z, rfl, rfl, HS.out.s11 l4 l6 l9 HB.out.1 HB.out.2.1 HB.out.2.2.2 HU.out.1 HU.out.2.2.1 HU.out.2.1 HU.out.2.2.2 HE.out HB.out.2.2.1⟩
    · have l10 : l 10 = true := hp 10 (by decide)
      have l7 : l 7 = true := hp 7 (by decide)
      obtain ⟨l4, y, z, e18⟩ := HS.out.f7 l7
      obtain ⟨p0, p1, p2, q0, q1, q2, r0, r1, r2, x0, x1, x2, y0, y1, y2, e⟩ := (HS.out.f4 l4).tup
      obtain ⟨b, c0, c1, c2, eb, hb0, hbl, hz, hc, _⟩ := HS.out.f10 l10
      have ev : v 20 = .agg #[.bool false, .slice x0 x1 x2, .slice y0 y1 y2] := by
        have := e18.symm.trans e
        injection this with this
        injection this with this
        injection this with _ this
        injection this
      have HE : Hid (v 20 = _) := ev
      have HB : Hid (v 4 = _ ∧ W.heap.size ≤ b ∧ b < u.heap.size ∧ ¬ Z b) := ⟨eb, hb0, hbl, hz⟩
      clear e18 e hb0 hbl hz hb
      have s0 : u.cell? ⟨b, 0, none⟩ = some c0 := heap_cell hc rfl
      have z0 := heap_frozen (o := 0) hc
      have s1 : u.cell? ⟨b, 1, none⟩ = some c1 := heap_cell hc rfl
      have z1 := heap_frozen (o := 1) hc
      have s2 : u.cell? ⟨b, 2, none⟩ = some c2 := heap_cell hc rfl
      have z2 := heap_frozen (o := 2) hc
      obtain ⟨U, hU, hUR, hUs, hUk, hUo⟩ := store3w hc (.bool false) (.slice x0 x1 x2) (.slice y0 y1 y2)
      have HU : Hid (U.heap.size = u.heap.size ∧ (∀ x, x ≠ b → U.heap[x]? = u.heap[x]?) ∧ (U.os = u.os ∧ U.tape = u.tape ∧ U.output = u.output) ∧ U.heap[b]? = _) := ⟨hUs, hUk, hUo, hUR⟩
      clear hUs hUk hUo hUR hc
      refine wpOp_step (o := _) rfl (fun K1 hK1 => ?_)
      have HK1 : Hid (∀ (a : Act) (w : World), _ → K1 a w) := hK1
      clear hK1
      unfold awF
      rw [eb, ev]
      clear eb ev
      go_simp
      rw [← hU]
      rw [← HB.out.1, ← HE.out]
      exact HK1.out _ _ ⟨upd l 12 true, v, Z, rfl, rfl, HS.out.s12 l4 l7 l10 HB.out.1 HB.out.2.1 HB.out.2.2.2 HU.out.1 HU.out.2.2.1 HU.out.2.1 HU.out.2.2.2 HE.out HB.out.2.2.1⟩
    · have l8 : l 8 = true := hp 8 (by decide)
      refine wpOp_step (o := _) rfl (fun K1 hK1 => ?_)
      have HK1 : Hid (∀ (a : Act) (w : World), _ → K1 a w) := hK1
      clear hK1
      unfold awF
      go_simp
      exact HK1.out _ _ ⟨upd l 13 true, upd v 5 (v 21), Z, rfl, rfl, HS.out.s13 l8⟩
  · rintro listed a u ⟨l, v, Z, rfl, rfl, hs⟩ hr
    have hall : ∀ i, i < 14 → (#[l 0, l 1, l 2, l 3, l 4, l 5, l 6, l 7, l 8, l 9, l 10, l 11, l 12, l 13] : Array Bool).getD i true = true := fun i hi => ready_nil (by kernel_rfl) hr 14 i hi hi
    clear hr
    show K _ _
    refine HK.out _ _ ?_
    clear HK
    obtain ⟨pa, pc, gc, oc, cc, ge, oe, ec, ad1, c1, gm, om, cm, e18, ⟨z1, z2, z3⟩, y0, y1, y2, pa2, pc2, ca2, cl2, cc2, ea2, el2, ec2, ⟨k2, k3, k4, k5, k6⟩, hN⟩ := hs.f4 (hall 4 (by decide))
    have hzl := hs.zlt
    have hz1 := hs.zlt _ z1
    have hz2 := hs.zlt _ z2
    have hz3 := hs.zlt _ z3
    have e19 : v 19 = .agg #[.int .i64 3, .int .i64 0, .slice pa 1 pc, .slice (some ⟨gc, oc, none⟩) 1 cc, .slice (some ⟨ge, oe, none⟩) 1 ec] := by
      obtain ⟨_, y, z, e⟩ := hs.f6 (hall 6 (by decide))
      have := e.symm.trans e18
      injection this with this
      injection this with this
      injection this
    have e20 : v 20 = .agg #[.bool false, .slice ad1 0 c1, .slice (some ⟨gm, om, none⟩) 1 cm] := by
      obtain ⟨_, y, z, e⟩ := hs.f7 (hall 7 (by decide))
      have := e.symm.trans e18
      injection this with this
      injection this with this
      injection this with _ this
      injection this
    have e5 : v 5 = .int .i64 0 := by
      obtain ⟨_, y, z, e⟩ := hs.f8 (hall 8 (by decide))
      have := e.symm.trans e18
      injection this with this
      injection this with this
      injection this with _ this
      injection this with _ this
      injection this with this
      exact (hs.f13 (hall 13 (by decide))).2.trans this
    obtain ⟨b3, d0, d1, d2, d3, d4, e3, hb30, hb3, _, hc3, hv3⟩ := hs.f9 (hall 9 (by decide))
    obtain ⟨b4, g0, g1, g2, e4, hb40, hb4, _, hc4, hv4⟩ := hs.f10 (hall 10 (by decide))
    have e3' := (hv3 (hall 11 (by decide))).symm.trans e19
    have e4' := (hv4 (hall 12 (by decide))).symm.trans e20
    injection e3' with e3'
    injection e4' with e4'
    rw [e3'] at hc3
    rw [e4'] at hc4
    have hbe := HW.out.1.trans (hs.below.mono HW.out.1.size)
    have HBE : Hid (Below w.heap.size w u) := hbe
    have hlw : w.heap.size ≤ u.heap.size := hbe.size
    clear e3' e4' hv3 hv4 e19 e20 e18 hs hall HW hbe
    obtain ⟨X, hX⟩ : ∃ X, X = (u.alloc (Obj.cells #[.int .i64 3, .int .i64 0, .slice pa2 2 pc2, .slice ca2 cl2 cc2, .slice ea2 el2 ec2] 32)).alloc (Obj.cells #[.int .i64 0, .int .i64 1] 3) := ⟨_, rfl⟩
    have hXb : Below u.heap.size u X := by rw [hX]; exact ((Below.refl _ _).alloc (Nat.le_refl _) _).alloc (by simp) _
    have hXs : X.heap.size = u.heap.size + 1 + 1 := by rw [hX]; simp
    have hX1 : X.heap[u.heap.size]? = some (Obj.cells #[.int .i64 3, .int .i64 0, .slice pa2 2 pc2, .slice ca2 cl2 cc2, .slice ea2 el2 ec2] 32 (0, 0)) := by
      rw [hX, Below.heap_alloc _ _ _ (by simp)]
      exact new_block _ _
    have hX2 : X.heap[u.heap.size + 1]? = some (Obj.cells #[.int .i64 0, .int .i64 1] 3 (0, 0)) := by
      have e : (u.alloc (Obj.cells #[.int .i64 3, .int .i64 0, .slice pa2 2 pc2, .slice ca2 cl2 cc2, .slice ea2 el2 ec2] 32)).heap.size = u.heap.size + 1 := by simp
      rw [hX, ← e]
      exact new_block _ _
    have CN : Calls Try.prog 16 #[.slice pa2 2 pc2, .slice (some ⟨u.heap.size + 1, 0, none⟩) 2 2] X fun r w' => r = .returned (.bool true) ∧ Below X.heap.size X w' := by
      refine nats_same (S := fun y => y < X.heap.size) _ _ [0, 1] (fun _ h => h) ((hN.up (S' := fun y => y < u.heap.size) ?_).on (Keeps.of hXb fun _ h => h) |>.up fun y hy => Nat.lt_of_lt_of_le hy hXb.size) (.inr ⟨u.heap.size + 1, 0, 2, rfl, by simp, by simp, fun j hj => ?_⟩) (by simp)
      · exact hzl
      · match j, hj with
        | 0, _ => exact ⟨by omega, heap_cell hX2 rfl⟩
        | 1, _ => exact ⟨by omega, heap_cell hX2 rfl⟩
    have HN2 : Hid (∀ w1, Below X.heap.size X w1 → Below w.heap.size w w1 ∧ (w1.cell? ⟨b3, 3, none⟩ = some (.slice (some ⟨gc, oc, none⟩) 1 cc) ∧ w1.cell? ⟨gc, oc, none⟩ = some (.string ⟨#[67, 111, 110, 115]⟩) ∧ w1.cell? ⟨u.heap.size, 0, none⟩ = some (.int .i64 3) ∧ w1.cell? ⟨b4, 0, none⟩ = some (.bool false) ∧ w1.cell? ⟨b4, 2, none⟩ = some (.slice (some ⟨gm, om, none⟩) 1 cm) ∧ w1.cell? ⟨gm, om + 1, none⟩ = some (.string ⟨#[67, 111, 110, 115]⟩))) := fun w1 hb1 => by
      have hb : Below u.heap.size u w1 := hXb.trans (hb1.mono hXb.size)
      refine ⟨HBE.out.trans (hb.mono hlw), ?_, ?_, ?_, ?_, ?_, ?_⟩
      · exact (hb.cell (p := ⟨b3, 3, none⟩) hb3).trans (heap_cell hc3 rfl)
      · exact (hb.cell (p := ⟨gc, oc, none⟩) hz1).trans y2
      · exact (hb1.cell (p := ⟨u.heap.size, 0, none⟩) (by show u.heap.size < _; omega)).trans (heap_cell hX1 rfl)
      · exact (hb.cell (p := ⟨b4, 0, none⟩) hb4).trans (heap_cell hc4 rfl)
      · exact (hb.cell (p := ⟨b4, 2, none⟩) hb4).trans (heap_cell hc4 rfl)
      · exact (hb.cell (p := ⟨gm, om + 1, none⟩) hz3).trans y1
    have i0 : u.cell? ⟨b3, 0, none⟩ = some (.int .i64 3) := heap_cell hc3 rfl
    have i3 : u.cell? ⟨b3, 3, none⟩ = some (.slice (some ⟨gc, oc, none⟩) 1 cc) := heap_cell hc3 rfl
    have i4 : u.cell? ⟨b3, 4, none⟩ = some (.slice (some ⟨ge, oe, none⟩) 1 ec) := heap_cell hc3 rfl
    rw [hX] at CN HN2
    clear hc3 hc4 hXb hXs hX1 hX2 hX y1 y2 hz1 hz2 hz3 z1 z2 z3 hzl hN hb30 hb40 hb3 hb4 hlw HBE
    unfold awF
    rw [e3, e4, e5]
    clear e3 e4 e5
    go_wp2_with (first | (go_at_call 16; (with_reducible refine Calls.mono CN ?_); rintro e' w1 ⟨rfl, hb1⟩; obtain ⟨hbw, m0, m1, m2, m3, m4, m5⟩ := HN2.out w1 hb1; clear hb1))
    refine bodyPost_ret (v := .bool true) (by simp [results, Try.results5, go_sem]) rfl ?_
    exact ⟨hbw, rfl⟩
end Go.Proofs.Ytpdmkhnonbbhnaa
