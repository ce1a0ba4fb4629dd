/- The graph: a variable that stands for a node without arguments: contracts of nodesLeft and typeOf there. The graph: the contract of agree, at the two types that awake holds against one another. -/
import Derived.Test.YtikpipenhamdbaaGreatGf
namespace Go.Proofs.YtikpipenhamdbaaGreat
open Go.RowKit Go.Maps

set_option maxHeartbeats 8000000 in
set_option maxRecDepth 10000 in
theorem end_drew {w : World} {lo G b : Nat} {v : Value} {ns : List Gn} {D : DataW Unit} {wk : Nat} (h : GS w lo G b v ns D wk) (i m : Nat) (hi : i < ns.length) (hm : m < ns.length) (him : i ≠ m) (ht : ns[i].tg = m) (hs : ns[m].tg = m) :
  Calls Tryz.prog 46 #[.pointer (some ⟨G, 0, none⟩), .int .i64 i] w fun e w' => e = .returned (.int .i64 m) ∧ w' = w.drew := by
 obtain ⟨g, cap, rfl, hg, hlt, ⟨cur, hcur⟩, ⟨c0, c1, c2⟩, ⟨n0, n1, n2, n3, n4, n5⟩, hfr⟩ := h.cells hi
 obtain ⟨g', cap', e0, _, _, _, _, ⟨m0, m1, m2, m3, m4, m5⟩, _⟩ := h.cells hm
 cases e0
 rw [ht] at n3
 rw [hs] at m3
 have hn := h.num
 have i1 : (0 : Int) ≤ (i : Int) := by omega
 have i2 : (i : Int) < (ns.length : Int) := by omega
 have j1 : (0 : Int) ≤ (m : Int) := by omega
 have j2 : (m : Int) < (ns.length : Int) := by omega
 have hne : ((m : Int) != (i : Int)) = true := by simp; omega
 have hne2 : ((m : Int) == (i : Int)) = false := by simp; omega
 have hf3 := hfr (i * 6 + 3)
 have hsame := setCell_self hcur n3
 have hGg : ¬ G = g := fun e => by
  have := h.box
  rw [e, hcur] at this
  cases this
 have hgG : ¬ g = G := fun e => hGg e.symm
 clear h ht hs n0 n1 n2 n4 n5 c1 c2 m0 m1 m2 m4 m5 hfr
 go_enter Tryz.func46, Tryz.ntmps46
 go_wp2
 refine wp_loop_rounds 2 ?_
 rw [rounds_succ]
 go_wp2
 go_region_held3 (fun w' => w'.cell? ⟨G, 0, none⟩ = some (.slice (some ⟨g, 0, none⟩) ns.length cap) ∧ w'.cell? ⟨g, i * 6 + 3, none⟩ = some (.int .i64 m) ∧ w'.cell? ⟨g, m * 6 + 3, none⟩ = some (.int .i64 m) ∧ w'.frozen? ⟨g, i * 6 + 3, none⟩ = false) (first | exact ⟨c0, n3, m3, hf3⟩ | assumption | (rw [hsame]; exact ⟨c0, n3, m3, hf3⟩) | go_keep) (fail)
 go_wp2
 rw [rounds_succ]
 go_wp2
 go_ret
 exact ⟨rfl, by first | rfl | (show World.drew _ = _; rw [hsame])⟩
theorem GX.end_drew {w : World} {lo G b wk : Nat} {R : Nat → Prop} {xs : List Gx} {D : DataW Unit} (h : GX w lo G b R xs D wk) {i m : Nat} (hi : i < xs.length) (hm : m < xs.length) (him : i ≠ m) (ht : xs[i].tg = m) (hs : xs[m].tg = m) : Calls Tryz.prog 46 #[.pointer (some ⟨G, 0, none⟩), .int .i64 i] w fun e w' => e = .returned (.int .i64 m) ∧ w' = w.drew := by
 obtain ⟨v, ns, rfl, hG, hr⟩ := h
 rw [List.length_map] at hi hm
 exact YtikpipenhamdbaaGreat.end_drew hG i m hi hm him (by simpa [Gn.st] using ht) (by simpa [Gn.st] using hs)
theorem GX.end_one {w : World} {lo G b wk : Nat} {R : Nat → Prop} {xs : List Gx} {D : DataW Unit} (h : GX w lo G b R xs D wk) {i m : Nat} (hi : i < xs.length) (hm : m < xs.length) (him : i ≠ m) (ht : xs[i].tg = m) (hs : xs[m].tg = m) : Calls Tryz.prog 46 #[.pointer (some ⟨G, 0, none⟩), .int .i64 i] w fun e w' => e = .returned (.int .i64 m) ∧ Sm w w' := by
 obtain ⟨v, ns, rfl, hG, hr⟩ := h
 rw [List.length_map] at hi hm
 exact YtikpipenhamdbaaGreat.end_one hG i m hi hm him (by simpa [Gn.st] using ht) (by simpa [Gn.st] using hs)
theorem Sm.cell {w w' : World} (h : Sm w w') (p : Addr) : w'.cell? p = w.cell? p := World.cell?_of_block (w := w) (by rw [h.heap])
theorem GX.num {w : World} {lo G b wk : Nat} {R : Nat → Prop} {xs : List Gx} {D : DataW Unit} (h : GX w lo G b R xs D wk) : xs.length ≤ 200000000 ∧ lo ≤ w.heap.size ∧ G < w.heap.size ∧ b < w.heap.size := by
 obtain ⟨v, ns, rfl, hG, hr⟩ := h
 rw [List.length_map]
 exact ⟨hG.num, hG.lt⟩
set_option maxHeartbeats 8000000 in
set_option maxRecDepth 10000 in
theorem left_leaf {w : World} {lo G b wk : Nat} {R : Nat → Prop} {xs : List Gx} {D : DataW Unit} (h : GX w lo G b R xs D wk) (i m : Nat) (hi : i < xs.length) (hm : m < xs.length) (him : i ≠ m) (ht : xs[i].tg = m) (hs : xs[m].tg = m) (har : xs[m].ar = []) :
  Calls Tryz.prog 50 #[.pointer (some ⟨G, 0, none⟩), .int .i64 i, .int .i64 500] w fun e w' => e = .returned (.int .i64 499) ∧ Sm w w' := by
 obtain ⟨g, cap, ad, c0, c1, hgG, hfr, ⟨n0, n1, n2, n3, n4, n5⟩, _, _⟩ := h.at hm
 rw [har] at n2
 have C1 := (h.sm (w' := w.drew) ⟨rfl, rfl, rfl, rfl⟩).end_one hi hm him ht hs
 have hl := h.num.1
 have j1 : (0 : Int) ≤ (m : Int) := by omega
 have j2 : (m : Int) < (xs.length : Int) := by omega
 clear h n0 n1 n3 n4 n5 c1 hfr
 go_enter Tryz.func50, Tryz.ntmps50
 go_wp2
 go_region_held3 (fun w' => w'.cell? ⟨G, 0, none⟩ = some (.slice (some ⟨g, 0, none⟩) xs.length cap) ∧ w'.cell? ⟨g, m * 6 + 2, none⟩ = some (.slice ad 0 0) ∧ Sm w w') (first | exact ⟨c0, n2, Sm.refl _⟩ | exact ⟨c0, n2, ⟨rfl, rfl, rfl, rfl⟩⟩ | assumption | (exact ⟨(hsm.cell _).trans c0, (hsm.cell _).trans n2, ⟨hsm.heap, hsm.os, hsm.tape, hsm.output⟩⟩) | go_keep) (first | (go_at_call 46; (with_reducible refine Calls.mono C1 ?_); rintro e' w5 ⟨rfl, hsm⟩))
 go_wp2
 refine wp_loop_rounds 1 ?_
 rw [rounds_succ]
 go_wp2
 go_ret
 exact ⟨rfl, ⟨hsm.heap, hsm.os, hsm.tape, hsm.output⟩⟩
theorem alloc_keep {w : World} {k i : Nat} {v : Value} (h : w.cell? ⟨k, i, none⟩ = some v) (o : Obj) : (w.alloc o).cell? ⟨k, i, none⟩ = some v :=
 (World.cell?_of_block (w := w) (Below.heap_alloc _ _ _ (lt_cell h))).trans h
theorem six_cells {w : World} {k : Nat} {a b c d e f : Value} {t : TypeId} (h : w.heap[k]? = some (.cells #[a, b, c, d, e, f] t (0, 0))) : (w.cell? ⟨k, 0, none⟩ = some a ∧ w.cell? ⟨k, 1, none⟩ = some b ∧ w.cell? ⟨k, 2, none⟩ = some c ∧ w.cell? ⟨k, 3, none⟩ = some d ∧ w.cell? ⟨k, 4, none⟩ = some e ∧ w.cell? ⟨k, 5, none⟩ = some f) ∧
  w.frozen? ⟨k, 0, none⟩ = false ∧ w.frozen? ⟨k, 1, none⟩ = false ∧ w.frozen? ⟨k, 2, none⟩ = false ∧ w.frozen? ⟨k, 3, none⟩ = false ∧ w.frozen? ⟨k, 4, none⟩ = false ∧ w.frozen? ⟨k, 5, none⟩ = false := by
 simp [World.cell?, World.frozen?, h]
theorem put_box {w : World} {k : Nat} {a0 b0 c0 : Value} {t : TypeId} (h : w.heap[k]? = some (.cells #[a0, b0, c0] t (0, 0))) (a b c : Value) : ∃ W, W = ((w.setCell ⟨k, 0, none⟩ a).setCell ⟨k, 1, none⟩ b).setCell ⟨k, 2, none⟩ c ∧ W.heap[k]? = some (.cells #[a, b, c] t (0, 0)) ∧ Below k w W := by
 refine ⟨_, rfl, ?_, ?_⟩
 ·exact (setCell_block (setCell_block (setCell_block h))).trans rfl
 ·exact (((Below.refl k w).setCell (Nat.le_refl _) _).setCell (Nat.le_refl _) _).setCell (Nat.le_refl _) _
theorem kind_at (w : World) : (Instr.index 143 (.agg #[.int .i64 0, .int .i64 1, .int .i64 2, .int .i64 3, .int .i64 4]) (.int .i64 1)).run Tryz.prog w = .ok (.int .i64 1) w := by kernel_rfl
set_option maxRecDepth 10000 in
theorem kind_one (w : World) : Calls Tryz.prog 73 #[.int .i64 1] w fun e w' => e = .returned (.int .i64 1) ∧ w' = w := by
 have hk := kind_at w
 go_enter Tryz.func73, Tryz.ntmps73
 go_wp2
 go_ret
 exact ⟨rfl, rfl⟩
set_option maxHeartbeats 8000000 in
set_option maxRecDepth 10000 in
theorem typeOf_int {w : World} {lo G b wk : Nat} {R : Nat → Prop} {xs : List Gx} {D : DataW Unit} (h : GX w lo G b R xs D wk) (i m : Nat) (hi : i < xs.length) (hm : m < xs.length) (him : i ≠ m) (ht : xs[i].tg = m) (hs : xs[m].tg = m) (har : xs[m].ar = []) (his : xs[m].is = 1) (hnm : xs[m].name = []) :
  Calls Tryz.prog 53 #[.pointer (some ⟨G, 0, none⟩), .int .i64 i] w fun e w' => e = .returned (.agg #[.int .i64 1, .string ⟨#[]⟩, .slice none 0 0]) ∧ Below w.heap.size w w' := by
 obtain ⟨W0, hW0, hbW0, hsW0, _, _, _⟩ := cells_box w (.int .i64 0) (.string ⟨#[]⟩) (.slice none 0 0) 29
 have hz : W0.heap[w.heap.size]? = some (.cells #[.int .i64 0, .string ⟨#[]⟩, .slice none 0 0] 29 (0, 0)) := by rw [hW0]; exact heap_alloc_new w _
 have h0 := h.below hbW0
 have hl := h.num
 obtain ⟨g, cap, ad, c0, c1, hgG, hfr, ⟨n0, n1, n2, n3, n4, n5⟩, _, _⟩ := h0.at hm
 rw [har] at n2
 rw [his] at n0
 rw [hnm] at n1
 rw [hs] at n3
 have C1 := (h0.sm (w' := W0.drew) ⟨rfl, rfl, rfl, rfl⟩).end_drew hi hm him ht hs
 have C2 := fun o : Obj => ((h0.below ((Below.refl _ _).alloc (Nat.le_refl _) o)).sm (w' := (W0.alloc o).drew) ⟨rfl, rfl, rfl, rfl⟩).end_drew hi hm him ht hs
 have j1 : (0 : Int) ≤ (m : Int) := by omega
 have j2 : (m : Int) < (xs.length : Int) := by omega
 generalize xs[m].ins = ins at n4
 generalize xs[m].walk = wlk at n5
 clear h h0 c1 hfr
 go_enter Tryz.func53, Tryz.ntmps53
 go_upto_region 1 with fail
 rw [← hW0]
 clear hW0
 have q1 : ¬ G = W0.heap.size := by omega
 have q2 : ¬ g = W0.heap.size := by have := lt_cell n0; omega
 have q3 : ¬ W0.heap.size = G := fun e => q1 e.symm
 have q4 : ¬ W0.heap.size = g := fun e => q2 e.symm
 have HS0 : Hid (W0.heap.size = w.heap.size + 1) := hsW0
 clear hsW0
 obtain ⟨Z, hZ⟩ : ∃ Z, Z = Obj.cells #[.int .i64 0, .string ⟨#[]⟩, .slice none 0 0, .int .i64 0, .bool false, .int .i64 0] 97 := ⟨_, rfl⟩
 have C2 := C2 Z
 rw [hZ] at C2
 go_cut [5] from 9 to 17 (fun s wc => s = .pointer (some ⟨W0.heap.size, 0, none⟩) ∧ wc = (W0.alloc (Obj.cells #[.int .i64 1, .string ⟨#[]⟩, .slice ad 0 0, .int .i64 m, .bool ins, .int .i64 wlk] 97)).drew.drew)
 case first =>
  go_region_held3 (fun w' => w'.cell? ⟨G, 0, none⟩ = some (.slice (some ⟨g, 0, none⟩) xs.length cap) ∧ (w'.cell? ⟨g, m * 6, none⟩ = some (.int .i64 1) ∧ w'.cell? ⟨g, m * 6 + 1, none⟩ = some (.string ⟨#[]⟩) ∧ w'.cell? ⟨g, m * 6 + 2, none⟩ = some (.slice ad 0 0) ∧ w'.cell? ⟨g, m * 6 + 3, none⟩ = some (.int .i64 m) ∧ w'.cell? ⟨g, m * 6 + 4, none⟩ = some (.bool ins) ∧ w'.cell? ⟨g, m * 6 + 5, none⟩ = some (.int .i64 wlk))) (first | exact ⟨c0, n0, n1, n2, n3, n4, n5⟩ | assumption | exact ⟨alloc_keep c0 _, alloc_keep n0 _, alloc_keep n1 _, alloc_keep n2 _, alloc_keep n3 _, alloc_keep n4 _, alloc_keep n5 _⟩ | go_keep) (first
   | (go_at_call 46; (with_reducible refine Calls.mono C1 ?_); rintro e' w5 ⟨rfl, rfl⟩)
   | (go_at_call 46; (with_reducible refine Calls.mono C2 ?_); rintro e' w5 ⟨rfl, rfl⟩))
  all_goals (go_wp2_with fail; go_meet; exact ⟨rfl, rfl⟩)
 case rest =>
  obtain ⟨rfl, rfl⟩ := hcut
  obtain ⟨W1, hW1⟩ : ∃ W1, W1 = (W0.alloc (Obj.cells #[.int .i64 1, .string ⟨#[]⟩, .slice ad 0 0, .int .i64 m, .bool ins, .int .i64 wlk] 97)).drew.drew := ⟨_, rfl⟩
  rw [← hW1]
  have hs1 : W1.heap.size = W0.heap.size + 1 := by rw [hW1]; simp
  have hb1 : Below W0.heap.size W0 W1 := by rw [hW1]; exact (((Below.refl _ _).alloc (Nat.le_refl _) _).drew).drew
  have hx1 : W1.heap[W0.heap.size]? = some (.cells #[.int .i64 1, .string ⟨#[]⟩, .slice ad 0 0, .int .i64 m, .bool ins, .int .i64 wlk] 97 (0, 0)) := by rw [hW1]; exact heap_alloc_new W0 _
  have hy1 : W1.heap[w.heap.size]? = some (.cells #[.int .i64 0, .string ⟨#[]⟩, .slice none 0 0] 29 (0, 0)) := (hb1.block _ (by have := HS0.out; omega)).trans hz
  have HS1 : Hid (W1.heap.size = W0.heap.size + 1) := hs1
  clear hW1 C1 C2 c0 n0 n1 n2 n3 n4 n5
  obtain ⟨⟨e0, e1, e2, e3, e4, e5⟩, f0, f1, f2, f3, f4, f5⟩ := six_cells hx1
  have q5 : ¬ W0.heap.size = W1.heap.size := by omega
  have q6 : ¬ W1.heap.size = W0.heap.size := by omega
  clear hs1
  go_upto_region 2 with fail
  go_cut [6] from 18 to 23 (fun s wc => s = .pointer (some ⟨W1.heap.size, 0, none⟩) ∧ wc = (W1.alloc (Obj.cells #[.int .i64 1, .string ⟨#[]⟩, .slice none 0 0] 29)).drew)
  case first =>
   go_region_held3 (fun w' => w'.cell? ⟨W0.heap.size, 0, none⟩ = some (.int .i64 1) ∧ w'.cell? ⟨W0.heap.size, 1, none⟩ = some (.string ⟨#[]⟩)) (first | exact ⟨e0, e1⟩ | assumption | exact ⟨alloc_keep e0 _, alloc_keep e1 _⟩ | go_keep) (first
    | (go_at_call 73; (with_reducible refine Calls.mono (kind_one _) ?_); rintro e' w5 ⟨rfl, rfl⟩))
   all_goals (go_wp2_with fail; go_meet; exact ⟨rfl, rfl⟩)
  case rest =>
   obtain ⟨rfl, rfl⟩ := hcut
   obtain ⟨W2, hW2⟩ : ∃ W2, W2 = (W1.alloc (Obj.cells #[.int .i64 1, .string ⟨#[]⟩, .slice none 0 0] 29)).drew := ⟨_, rfl⟩
   rw [← hW2]
   have hb2 : Below W1.heap.size W1 W2 := by rw [hW2]; exact ((Below.refl _ _).alloc (Nat.le_refl _) _).drew
   have hx2 : W2.heap[W1.heap.size]? = some (.cells #[.int .i64 1, .string ⟨#[]⟩, .slice none 0 0] 29 (0, 0)) := by rw [hW2]; exact heap_alloc_new W1 _
   have i2 : W2.cell? ⟨W0.heap.size, 2, none⟩ = some (.slice ad 0 0) := (World.cell?_of_block (w := W1) (hb2.block _ (lt_cell e2))).trans e2
   have hy2 : W2.heap[w.heap.size]? = some (.cells #[.int .i64 0, .string ⟨#[]⟩, .slice none 0 0] 29 (0, 0)) := (hb2.block _ (lt_of_heap hy1)).trans hy1
   obtain ⟨x0, x1, x2⟩ := heap_cells hx2
   obtain ⟨y0, y1, y2⟩ := heap_cells hy2
   have g0 := heap_frozen (o := 0) hy2
   have g1 := heap_frozen (o := 1) hy2
   have g2 := heap_frozen (o := 2) hy2
   have HB : Hid (Below w.heap.size w W2) := hbW0.trans ((hb1.mono (by have := HS0.out; omega)).trans (hb2.mono (by have := HS0.out; have := HS1.out; omega)))
   have HX2 : Hid (W2.heap[w.heap.size]? = some (.cells #[.int .i64 0, .string ⟨#[]⟩, .slice none 0 0] 29 (0, 0))) := hy2
   clear hW2 hb2 hb1 hbW0 e0 e1 e2 e3 e4 e5 f0 f1 f2 f3 f4 f5 hx2 hy2 hx1 hy1 hz
   go_wp2
   refine wp_loop_rounds 1 ?_
   rw [rounds_succ]
   go_wp2
   obtain ⟨W, hWe, k1, k2⟩ := put_box HX2.out (.int .i64 1) (.string ⟨#[]⟩) (.slice none 0 0)
   rw [← hWe]
   obtain ⟨s0, s1, s2⟩ := heap_cells k1
   refine bodyPost_ret (v := .agg #[.int .i64 1, .string ⟨#[]⟩, .slice none 0 0]) (by simp [results, Tryz.results53, go_sem, s0, s1, s2]) rfl ?_
   exact ⟨rfl, HB.out.trans k2⟩
end Go.Proofs.YtikpipenhamdbaaGreat

namespace Go.Proofs.YtikpipenhamdbaaGreat
open Go.RowKit Go.Maps

abbrev tkC (t : Nat × Nat × Bool) : List Value := [.int .i64 t.1, .int .i64 t.2.1, .bool t.2.2]
/-- At a task's round: the graph, and the row of tasks. -/
structure AgR (lo G b wk : Nat) (w wr : World) (v : Value) (ts : List (Nat × Nat × Bool)) (xs : List Gx) (D : DataW Unit) : Prop where
 gx : GX wr lo G b (fun _ => False) xs D wk
 gk : Gk lo G b w wr
 own : wr.ownsRow w.heap.size 91 3 v ts.length (ts.flatMap tkC)
theorem AgR.next {lo G b wk wk' : Nat} {w wr wr' : World} {v : Value} {ts : List (Nat × Nat × Bool)} {xs xs' : List Gx} {D D' : DataW Unit} (h : AgR lo G b wk w wr v ts xs D) (hG : G < w.heap.size ∧ b < w.heap.size) (hk : Gk lo G b wr wr') (hx : GX wr' lo G b (fun _ => False) xs' D' wk') : AgR lo G b wk' w wr' v ts xs' D' := by
 refine ⟨hx, h.gk.trans hk, own_keep h.own fun k hk' => ?_⟩
 rcases h.own.2 with ⟨h0, _⟩ | ⟨g, cap, cur, hv, hb, hh, _⟩
 ·rw [h0] at hk'; cases hk'
 ·rw [hv] at hk'
  cases hk'
  exact (hk.keep _ _ hh (by show g ≠ G; omega) (by show g ≠ b; omega) (by intro c fz e; exact absurd (cells_ty (congrArg some e)) (by decide))).trans hh.symm
theorem AgR.sm {lo G b wk : Nat} {w wr wr' : World} {v : Value} {ts : List (Nat × Nat × Bool)} {xs : List Gx} {D : DataW Unit} (h : AgR lo G b wk w wr v ts xs D) (hG : G < w.heap.size ∧ b < w.heap.size) (s : Sm wr wr') : AgR lo G b wk w wr' v ts xs D := h.next hG (Gk.of_sm s) (h.gx.sm s)
theorem AgR.below {lo G b wk : Nat} {w wr wr' : World} {v : Value} {ts : List (Nat × Nat × Bool)} {xs : List Gx} {D : DataW Unit} (h : AgR lo G b wk w wr v ts xs D) (hG : G < w.heap.size ∧ b < w.heap.size) (s : Below wr.heap.size wr wr') : AgR lo G b wk w wr' v ts xs D := h.next hG (Gk.of_below s h.gx.num.2.1) (h.gx.below s)
theorem tk_len (ts : List (Nat × Nat × Bool)) : (ts.flatMap tkC).length = ts.length * 3 := by
 induction ts with
 | nil => rfl
 | cons a r ih => rw [List.flatMap_cons, List.length_append, ih]; simp; omega
/-- The last task is taken. -/
theorem AgR.pop {lo G b wk n : Nat} {w wr : World} {v : Value} {ts : List (Nat × Nat × Bool)} {t : Nat × Nat × Bool} {xs : List Gx} {D : DataW Unit} (h : AgR lo G b wk w wr v (ts ++ [t]) xs D) (hn : ts.length = n) : ∃ g cap, v = .slice (some ⟨g, 0, none⟩) (n + 1 : Nat) cap ∧ n + 1 ≤ cap ∧ w.heap.size ≤ g ∧ g < wr.heap.size ∧ (wr.cell? ⟨g, n * 3, none⟩ = some (.int .i64 t.1) ∧ wr.cell? ⟨g, n * 3 + 1, none⟩ = some (.int .i64 t.2.1) ∧ wr.cell? ⟨g, n * 3 + 2, none⟩ = some (.bool t.2.2)) ∧ AgR lo G b wk w wr (.slice (some ⟨g, 0, none⟩) n cap) ts xs D := by
 have hl : (ts ++ [t]).length = n + 1 := by simp [hn]
 have hf : (ts ++ [t]).flatMap tkC = ts.flatMap tkC ++ tkC t := by simp
 have ho := h.own
 rw [hl, hf] at ho
 have hlen := tk_len ts
 rw [hn] at hlen
 have hcell : ∀ (j : Nat), j < 3 → ∀ {g cap : Nat}, v = .slice (some ⟨g, 0, none⟩) (n + 1 : Nat) cap → wr.cell? ⟨g, n * 3 + j, none⟩ = (tkC t)[j]? := fun j hj g cap hv => by
  rw [hv] at ho
  rw [ho.cellAt (n * 3 + j) (by omega), List.getElem?_append_right (by omega)]
  congr 1
  omega
 rcases ho.2 with ⟨_, h0⟩ | ⟨g, cap, cur, hv, hb, hh, hc, hm, hs, ht⟩
 ·omega
 ·refine ⟨g, cap, hv, hc, hb, lt_of_heap hh, ⟨?_, ?_, ?_⟩, h.gx, h.gk, ?_, .inr ⟨g, cap, cur, by rw [hn], hb, hh, by omega, hm, hs, ?_⟩⟩
  ·have := hcell 0 (by omega) hv
   simpa using this
  ·have := hcell 1 (by omega) hv
   simpa using this
  ·have := hcell 2 (by omega) hv
   simpa using this
  ·rw [tk_len]
  ·have := congrArg (List.take (n * 3)) ht
   rw [List.take_take, show min (n * 3) ((n + 1) * 3) = n * 3 by omega, List.take_append_of_le_length (by omega), List.take_of_length_le (l := ts.flatMap tkC) (by omega)] at this
   rw [hn]
   exact this
theorem GX.arg2 {w : World} {lo G b wk : Nat} {R : Nat → Prop} {xs : List Gx} {D : DataW Unit} (h : GX w lo G b R xs D wk) {i p q : Nat} (hi : i < xs.length) (ha : xs[i].ar = [p, q]) : ∃ g cap ag, w.cell? ⟨G, 0, none⟩ = some (.slice (some ⟨g, 0, none⟩) xs.length cap) ∧ w.cell? ⟨g, i * 6 + 2, none⟩ = some (.slice (some ⟨ag, 0, none⟩) 2 2) ∧ w.heap[ag]? = some (.cells #[.int .i64 p, .int .i64 q] 3 (0, 0)) := by
 obtain ⟨v, ns, rfl, hG, hr⟩ := h
 rw [List.length_map] at hi
 obtain ⟨g, cap, hv, _, _, _, ⟨c0, _, _⟩, ⟨_, _, n2, _⟩, _⟩ := hG.cells hi
 have ha : ns[i].ar = [p, q] := by simpa [Gn.st] using ha
 rcases hG.arg ns[i] (List.getElem_mem hi) with h1 | ⟨ag, h1, h2, h3⟩
 ·rw [ha] at h1; cases h1
 ·refine ⟨g, cap, ag, by rw [List.length_map]; exact c0, ?_, ?_⟩
  ·rw [n2]
   simp [h1, ha]
  ·rw [h3, ha]
   rfl
theorem GX.row84 {w : World} {lo G b wk g n cap : Nat} {R : Nat → Prop} {xs : List Gx} {D : DataW Unit} (h : GX w lo G b R xs D wk) (h0 : 0 < xs.length) (hc : w.cell? ⟨G, 0, none⟩ = some (.slice (some ⟨g, 0, none⟩) n cap)) : ∃ cur, w.heap[g]? = some (.cells cur 97 (0, 0)) := by
 obtain ⟨v, ns, rfl, hG, hr⟩ := h
 rw [List.length_map] at h0
 obtain ⟨g', cap', hv, _, _, hcur, ⟨c0, _, _⟩, _⟩ := hG.cells h0
 rw [c0] at hc
 rw [← slice_block hc]
 exact hcur
/-- The row of tasks has grown. -/
theorem AgR.push {lo G b wk n : Nat} {w wr wr' : World} {v v' : Value} {ts : List (Nat × Nat × Bool)} {xs : List Gx} {D : DataW Unit} (h : AgR lo G b wk w wr v ts xs D) (hGb : G < w.heap.size ∧ b < w.heap.size) (t : Nat × Nat × Bool) (hn : ts.length = n) (ho : wr'.ownsRow w.heap.size 91 3 v' (n + 1) (ts.flatMap tkC ++ tkC t)) (hg : wr.grownBy wr' v.ownBlock) :
  AgR lo G b wk w wr' v' (ts ++ [t]) xs D ∧ ∀ (k : Nat) (o : Obj), wr.heap[k]? = some o → (∀ c fz, o ≠ .cells c 91 fz) → wr'.heap[k]? = some o := by
 have hloG : lo ≤ G := by
  obtain ⟨_, _, _, hG, _⟩ := h.gx
  exact hG.loG
 have hkeep : ∀ (k : Nat) (o : Obj), wr.heap[k]? = some o → (∀ c fz, o ≠ .cells c 91 fz) → wr'.heap[k]? = some o := fun k o hk hty => by
  rw [hg.block k (lt_of_heap hk) (fun e => ?_)]
  ·exact hk
  ·rcases h.own.2 with ⟨h0, _⟩ | ⟨g, cap, cur, hv, hb, hh, _⟩
   ·rw [h0] at e; cases e
   ·rw [hv] at e
    cases e
    rw [hh] at hk
    exact hty _ _ (Option.some.inj hk).symm
 have hlow : ∀ k, k < w.heap.size → wr'.heap[k]? = wr.heap[k]? := fun k hk => hg.block k (by have := h.gk.size; omega) (fun e => by
  rcases h.own.2 with ⟨h0, _⟩ | ⟨g, cap, cur, hv, hb, hh, _⟩
  ·rw [h0] at e; cases e
  ·rw [hv] at e
   cases e
   exact absurd hk (by show ¬ g < w.heap.size; omega))
 refine ⟨⟨?_, ⟨hg.os.trans h.gk.os, hg.tape.trans h.gk.tape, hg.output.trans h.gk.output, Nat.le_trans h.gk.size hg.size, fun k hk => ?_, fun k o h1 h2 h3 h4 => ?_⟩, ?_⟩, hkeep⟩
 ·obtain ⟨vv, ns, e, hG, hr⟩ := h.gx
  refine ⟨vv, ns, e, ⟨(hlow G hGb.1).trans hG.box, own_keep hG.own fun k hk => ?_, hG.map.kept (row := v.ownBlock) hg ?_, hG.msz, fun m hm => ?_, hG.loG, hG.lob, hG.num⟩, hr⟩
  ·rcases hG.own.2 with ⟨h0, _⟩ | ⟨g', cap', cur, hv, _, hh, _⟩
   ·rw [h0] at hk; cases hk
   ·rw [hv] at hk
    cases hk
    exact (hkeep _ _ hh (by intro c fz e; exact absurd (cells_ty (congrArg some e)) (by decide))).trans hh.symm
  ·intro e
   rcases h.own.2 with ⟨h0, _⟩ | ⟨g, cap, cur, hv, hb, hh, _⟩
   ·rw [h0] at e; cases e
   ·rw [hv] at e
    cases e
    exact absurd hGb.2 (by show ¬ g < w.heap.size; omega)
  ·rcases hG.arg m hm with h1 | ⟨g', h1, h2, h3⟩
   ·exact .inl h1
   ·exact .inr ⟨g', h1, h2, hkeep _ _ h3 (by intro c fz e; exact absurd (cells_ty (congrArg some e)) (by decide))⟩
 ·rw [hlow k (by omega)]
  exact h.gk.low k hk
 ·rw [hlow k (lt_of_heap h1)]
  exact h.gk.keep k o h1 h2 h3 h4
 ·rw [List.length_append, List.flatMap_append, hn]
  simpa using ho
/-- The two functions' rows of arguments. -/
structure NdA (W : World) (gn a2 a4 : Nat) (cur : Array Value) : Prop where
 h84 : W.heap[gn]? = some (.cells cur 97 (0, 0))
 c2 : cur[14]? = some (.slice (some ⟨a2, 0, none⟩) 2 2)
 c4 : cur[26]? = some (.slice (some ⟨a4, 0, none⟩) 2 2)
 h2 : W.heap[a2]? = some (.cells #[.int .i64 0, .int .i64 1] 3 (0, 0))
 h4 : W.heap[a4]? = some (.cells #[.int .i64 3, .int .i64 0] 3 (0, 0))
theorem NdA.on {W W' : World} {gn a2 a4 : Nat} {cur : Array Value} (h : NdA W gn a2 a4 cur) (hk : ∀ (k : Nat) (o : Obj), W.heap[k]? = some o → (∀ c fz, o ≠ .cells c 91 fz) → W'.heap[k]? = some o) : NdA W' gn a2 a4 cur :=
 ⟨hk _ _ h.h84 (by intro c fz e; exact absurd (cells_ty (congrArg some e)) (by decide)), h.c2, h.c4, hk _ _ h.h2 (by intro c fz e; exact absurd (cells_ty (congrArg some e)) (by decide)), hk _ _ h.h4 (by intro c fz e; exact absurd (cells_ty (congrArg some e)) (by decide))⟩
theorem NdA.cells {W : World} {gn a2 a4 : Nat} {cur : Array Value} (h : NdA W gn a2 a4 cur) : W.cell? ⟨gn, 14, none⟩ = some (.slice (some ⟨a2, 0, none⟩) 2 2) ∧ W.cell? ⟨gn, 26, none⟩ = some (.slice (some ⟨a4, 0, none⟩) 2 2) ∧ (W.cell? ⟨a2, 0, none⟩ = some (.int .i64 0) ∧ W.cell? ⟨a2, 1, none⟩ = some (.int .i64 1)) ∧ W.cell? ⟨a4, 0, none⟩ = some (.int .i64 3) ∧ W.cell? ⟨a4, 1, none⟩ = some (.int .i64 0) := by
 refine ⟨?_, ?_, ⟨?_, ?_⟩, ?_, ?_⟩
 ·simp only [World.cell?, h.h84]; exact h.c2
 ·simp only [World.cell?, h.h84]; exact h.c4
 ·simp only [World.cell?, h.h2]; rfl
 ·simp only [World.cell?, h.h2]; rfl
 ·simp only [World.cell?, h.h4]; rfl
 ·simp only [World.cell?, h.h4]; rfl
/-- A task's cells in memory. -/
theorem tk_lit (w : World) (a b : Int) (d : Bool) : ∀ (j : Nat) (u : Value), [Value.int .i64 a, .int .i64 b, .bool d][j]? = some u → (w.alloc (Obj.cells #[.int .i64 a, .int .i64 b, .bool d] 91)).cell? ((⟨w.heap.size, 0, none⟩ : Addr).add j) = some u :=
 World.news_of_block (cs := #[.int .i64 a, .int .i64 b, .bool d]) (t := 91) (fr := (0, 0)) (heap_alloc_new w _)
theorem tk_one (a b : Int) (d : Bool) : ∀ u ∈ [Value.int .i64 a, .int .i64 b, .bool d], u.oneCell' = true := by
 intro u hu
 simp at hu
 rcases hu with rfl | rfl | rfl <;> rfl
def gA (tg0 tg1 tg2 w3 : Nat) : List Gx := [⟨2, [97], [], tg0, true, 0⟩, ⟨2, [98], [], tg1, true, 0⟩, ⟨3, [], [0, 1], tg2, false, 0⟩, ⟨1, [], [], 3, true, w3⟩, ⟨3, [], [3, 0], 4, false, 0⟩]
theorem Tryz.info91 : (Tryz.prog.info? 91).map (fun i => (i.zero, i.size, i.bytes)) = some (some (.agg #[.int .i64 0, .int .i64 0, .bool false]), 3, 24) := by kernel_rfl
set_option maxHeartbeats 16000000 in
set_option maxRecDepth 10000 in
theorem agree_awake {lo G b : Nat} {D : DataW Unit} (w : World) (h : GX w lo G b (fun _ => False) (gA 0 1 2 0) D 0) :
  Calls Tryz.prog 27 #[.pointer (some ⟨G, 0, none⟩), .int .i64 2, .int .i64 4] w fun e w' => e = .returned (.int .i64 0) ∧ Gk lo G b w w' ∧ GX w' lo G b (fun _ => False) (gA 3 3 4 2) D 2 := by
 have hl := h.num
 have hGb : G < w.heap.size ∧ b < w.heap.size := hl.2.2
 have hb0 := (Below.refl w.heap.size w).alloc (Nat.le_refl _) (Obj.cells #[.int .i64 2, .int .i64 4, .bool false] 91)
 have R0 : AgR lo G b 0 w (w.alloc (Obj.cells #[.int .i64 2, .int .i64 4, .bool false] 91)) (.slice (some ⟨w.heap.size, 0, none⟩) 1 1) ([] ++ [(2, 4, false)]) (gA 0 1 2 0) D :=
  ⟨h.below hb0, Gk.of_below hb0 hl.2.1, World.ownsRow_lit (base := w.heap.size) (e := 91) (size := 3) w #[.int .i64 2, .int .i64 4, .bool false] 1 (by omega) (by decide) rfl⟩
 clear h hb0
 go_enter Tryz.func27, Tryz.ntmps27
 go_upto_region 2 with fail
 generalize w.alloc (Obj.cells #[.int .i64 2, .int .i64 4, .bool false] 91) = w1 at *
 obtain ⟨g, cap, hv, hcap, hgw, hgl, ⟨c0, c1, c2⟩, R1⟩ := R0.pop rfl
 cases hv
 replace c0 : w1.cell? ⟨w.heap.size, 0, none⟩ = some (.int .i64 2) := c0
 replace c1 : w1.cell? ⟨w.heap.size, 1, none⟩ = some (.int .i64 4) := c1
 replace c2 : w1.cell? ⟨w.heap.size, 2, none⟩ = some (.bool false) := c2
 replace R1 : AgR lo G b 0 w w1 (.slice (some ⟨w.heap.size, 0, none⟩) 0 1) [] (gA 0 1 2 0) D := R1
 clear R0 hcap hgw
 refine wp_loop_rounds 5 ?_
 rw [rounds_succ]
 go_upto_region 6 with fail
 have hbn := (Below.refl w1.heap.size w1).alloc (Nat.le_refl _) (Obj.cells #[.int .i64 2, .int .i64 4, .bool false] 91)
 have R2 := R1.below hGb hbn
 have hnx : (w1.alloc (Obj.cells #[.int .i64 2, .int .i64 4, .bool false] 91)).heap[w1.heap.size]? = some (.cells #[.int .i64 2, .int .i64 4, .bool false] 91 (0, 0)) := heap_alloc_new w1 _
 generalize w1.alloc (Obj.cells #[.int .i64 2, .int .i64 4, .bool false] 91) = w2 at *
 generalize w1.heap.size = nx at *
 clear hbn R1 c0 c1 c2 hgl
 obtain ⟨x0, x1, x2⟩ := heap_cells hnx
 have CA : ∀ W, Sm w2 W → Calls Tryz.prog 46 #[.pointer (some ⟨G, 0, none⟩), .int .i64 2] W fun e w' => e = .returned (.int .i64 2) ∧ w' = W := fun W (s : Sm w2 W) => (R2.gx.sm s).end_self (i := 2) (by decide) rfl
 have CB : ∀ W, Sm w2 W → Calls Tryz.prog 46 #[.pointer (some ⟨G, 0, none⟩), .int .i64 4] W fun e w' => e = .returned (.int .i64 4) ∧ w' = W := fun W (s : Sm w2 W) => (R2.gx.sm s).end_self (i := 4) (by decide) rfl
 go_cut [10, 11] from 33 to 40 (fun s t wc => s = .int .i64 2 ∧ t = .int .i64 4 ∧ Sm w2 wc)
 case first =>
  go_region_held3 (fun w' => w'.cell? ⟨nx, 0, none⟩ = some (.int .i64 2) ∧ w'.cell? ⟨nx, 1, none⟩ = some (.int .i64 4)) (first | exact ⟨x0, x1⟩ | assumption | go_keep) (first
   | (go_at_call 46; (with_reducible refine Calls.mono (CA _ ?_) ?_); exact ⟨rfl, rfl, rfl, rfl⟩; rintro e' w5 ⟨rfl, rfl⟩)
   | (go_at_call 46; (with_reducible refine Calls.mono (CB _ ?_) ?_); exact ⟨rfl, rfl, rfl, rfl⟩; rintro e' w5 ⟨rfl, rfl⟩))
  all_goals
   go_wp2_with fail
   go_meet
   exact ⟨rfl, rfl, ⟨rfl, rfl, rfl, rfl⟩⟩
 case rest =>
  obtain ⟨rfl, rfl, hsm⟩ := hcut
  have R3 := R2.sm hGb hsm
  have hnx3 : wc.heap[nx]? = some (.cells #[.int .i64 2, .int .i64 4, .bool false] 91 (0, 0)) := by rw [hsm.heap]; exact hnx
  clear CA CB x0 x1 x2 hnx R2 hsm
  obtain ⟨x0, x1, x2⟩ := heap_cells hnx3
  obtain ⟨gn, gc, ad, c0, c1, hgG, hfr, ⟨n0, n1, _⟩, _⟩ := R3.gx.at (i := 2) (by decide)
  obtain ⟨gn', gc', ad', c0', _, _, _, ⟨m0, m1, _⟩, _⟩ := R3.gx.at (i := 4) (by decide)
  rw [c0] at c0'
  cases c0'
  obtain ⟨gn', gc', a2, c0', n2, A2⟩ := R3.gx.arg2 (i := 2) (p := 0) (q := 1) (by decide) rfl
  rw [c0] at c0'
  cases c0'
  obtain ⟨gn', gc', a4, c0', m2, A4⟩ := R3.gx.arg2 (i := 4) (p := 3) (q := 0) (by decide) rfl
  rw [c0] at c0'
  cases c0'
  replace c0 : wc.cell? ⟨G, 0, none⟩ = some (.slice (some ⟨gn, 0, none⟩) 5 gc) := c0
  replace n0 : wc.cell? ⟨gn, 12, none⟩ = some (.int .i64 3) := n0
  replace n1 : wc.cell? ⟨gn, 13, none⟩ = some (.string ⟨#[]⟩) := n1
  replace n2 : wc.cell? ⟨gn, 14, none⟩ = some (.slice (some ⟨a2, 0, none⟩) 2 2) := n2
  replace m0 : wc.cell? ⟨gn, 24, none⟩ = some (.int .i64 3) := m0
  replace m1 : wc.cell? ⟨gn, 25, none⟩ = some (.string ⟨#[]⟩) := m1
  replace m2 : wc.cell? ⟨gn, 26, none⟩ = some (.slice (some ⟨a4, 0, none⟩) 2 2) := m2
  clear c1 hfr
  go_upto_region 8 with fail
  go_quiet (fail)
  go_upto_region 23 with fail
  go_quiet (fail)
  go_upto_region 9 with fail
  generalize hv2 : World.drewN _ _ = v2
  have s2 : Sm wc v2 := by rw [← hv2]; exact ⟨rfl, rfl, rfl, rfl⟩
  clear hv2
  have R4 := R3.sm hGb s2
  have hb4 := (Below.refl v2.heap.size v2).alloc (Nat.le_refl _) (Obj.cells #[.int .i64 2, .int .i64 4, .bool true] 91)
  have R5 := R4.below hGb hb4
  have KP : Hid (∀ (k : Nat) (o : Obj), wc.heap[k]? = some o → (v2.alloc (Obj.cells #[.int .i64 2, .int .i64 4, .bool true] 91)).heap[k]? = some o) := fun k o hk => by
   have hk2 : v2.heap[k]? = some o := by rw [s2.heap]; exact hk
   exact (hb4.block k (lt_of_heap hk2)).trans hk2
  obtain ⟨cur, H84⟩ := R3.gx.row84 (by decide) c0
  have ND : NdA wc gn a2 a4 cur := ⟨H84, by simpa [World.cell?, H84] using n2, by simpa [World.cell?, H84] using m2, A2, A4⟩
  have ND5 := ND.on (fun k o hk _ => KP.out k o hk)
  have hsz4 : w.heap.size ≤ (v2.alloc (Obj.cells #[.int .i64 2, .int .i64 4, .bool true] 91)).heap.size := R5.gk.size
  clear x0 x1 x2 c0 n0 m0 m1 n1 n2 m2 A2 A4 H84 hb4 R4 R3 s2 ND KP hnx3
  obtain ⟨i0, hi, hz0, hz1, hz2⟩ := info_parts Tryz.info91
  go_upto_region 10 with (at_builtin; refine wpList_append_own _ rfl _ _ 92 rfl w.heap.size 91 i0 _ 3 24 Tryz.underlying92 hi hz0 hz1 hz2 rfl (by decide) (.slice (some ⟨w.heap.size, 0, none⟩) 0 1) 0 [] rfl R5.own ⟨v2.heap.size, 0, none⟩ 1 1 [.int .i64 2, .int .i64 4, .bool true] rfl rfl (tk_lit v2 2 4 true) (tk_one 2 4 true) (by unfold maxLen; omega) (by omega) hsz4 ?_; intro v6 w6 ho6 hg6 _)
  obtain ⟨R6, K6⟩ := R5.push hGb (2, 4, true) rfl ho6 hg6
  have ND6 := ND5.on K6
  clear R5 ND5 K6 ho6 hg6 hsz4
  obtain ⟨n2, m2, ⟨p0, p1⟩, q0, q1⟩ := ND6.cells
  go_upto_region 11 with fail
  refine wp_loop_rounds 3 ?_
  rw [rounds_succ]
  go_upto_block 4 with fail
  have b6 := (Below.refl w6.heap.size w6).alloc (Nat.le_refl _) (Obj.cells #[.int .i64 1, .int .i64 0, .bool false] 91)
  have R7 := (R6.below hGb b6).sm hGb (wr' := (w6.alloc (Obj.cells #[.int .i64 1, .int .i64 0, .bool false] 91)).drew) ⟨rfl, rfl, rfl, rfl⟩
  have ND7 : NdA ((w6.alloc (Obj.cells #[.int .i64 1, .int .i64 0, .bool false] 91)).drew) gn a2 a4 cur := ND6.on (fun k o hk _ => (b6.block k (lt_of_heap hk)).trans hk)
  have hsz7 : w.heap.size ≤ (w6.alloc (Obj.cells #[.int .i64 1, .int .i64 0, .bool false] 91)).drew.heap.size := R7.gk.size
  clear R6 ND6 b6
  go_cut [7] from 69 to 86 (fun s wx => ∃ g8 cap8, s = .slice (some ⟨g8, 0, none⟩) 2 cap8 ∧ AgR lo G b 0 w wx (.slice (some ⟨g8, 0, none⟩) 2 cap8) [(2, 4, true), (1, 0, false)] (gA 0 1 2 0) D ∧ NdA wx gn a2 a4 cur)
  case first =>
   go_upto_region 13 with fail
   go_region_law ((refine step_append_lies _ (by rfl) _ _ _ (by rfl) w.heap.size 91 i0 _ 3 24 Tryz.underlying92 hi hz0 hz1 hz2 rfl (by omega) v6 1 [.int .i64 2, .int .i64 4, .bool true] (by rfl) R7.own ⟨w6.heap.size, 0, none⟩ 1 1 [.int .i64 1, .int .i64 0, .bool false] (by rfl) (by rfl) (tk_lit w6 1 0 false) (tk_one 1 0 false) (by omega) (by unfold maxLen; omega) (by omega) hsz7 (w6.heap.size + 1) (by simp) ?_; intro g8 cap8 w8 ho8 hg8 hat8 hlt8))
   all_goals
    obtain ⟨R8, K8⟩ := R7.push hGb (1, 0, false) rfl ho8 hg8
    have ND8 := ND7.on K8
    clear K8
    go_wp2_with fail
    go_meet
    exact ⟨g8, cap8, rfl, R8, ND8⟩
  case rest =>
   obtain ⟨g8, cap8, rfl, R8, ND8⟩ := hcut
   clear R7 ND7 hsz7 n2 m2 p0 p1 q0 q1
   generalize wc = w8 at *
   obtain ⟨n2, m2, ⟨p0, p1⟩, q0, q1⟩ := ND8.cells
   go_wp2_with fail
   rw [rounds_succ]
   go_upto_block 4 with fail
   have b8 := (Below.refl w8.heap.size w8).alloc (Nat.le_refl _) (Obj.cells #[.int .i64 0, .int .i64 3, .bool false] 91)
   have R9 := (R8.below hGb b8).sm hGb (wr' := (w8.alloc (Obj.cells #[.int .i64 0, .int .i64 3, .bool false] 91)).drew) ⟨rfl, rfl, rfl, rfl⟩
   have hsz9 : w.heap.size ≤ (w8.alloc (Obj.cells #[.int .i64 0, .int .i64 3, .bool false] 91)).drew.heap.size := R9.gk.size
   clear R8 ND8 b8
   go_cut [7] from 69 to 86 (fun s wx => ∃ g8 cap8, s = .slice (some ⟨g8, 0, none⟩) 3 cap8 ∧ AgR lo G b 0 w wx (.slice (some ⟨g8, 0, none⟩) 3 cap8) ([(2, 4, true), (1, 0, false)] ++ [(0, 3, false)]) (gA 0 1 2 0) D)
   case first =>
    go_upto_region 13 with fail
    go_region_law ((refine step_append_lies _ (by rfl) _ _ _ (by rfl) w.heap.size 91 i0 _ 3 24 Tryz.underlying92 hi hz0 hz1 hz2 rfl (by omega) (.slice (some ⟨g8, 0, none⟩) 2 cap8) 2 [.int .i64 2, .int .i64 4, .bool true, .int .i64 1, .int .i64 0, .bool false] (by rfl) R9.own ⟨w8.heap.size, 0, none⟩ 1 1 [.int .i64 0, .int .i64 3, .bool false] (by rfl) (by rfl) (tk_lit w8 0 3 false) (tk_one 0 3 false) (by omega) (by unfold maxLen; omega) (by omega) hsz9 (w8.heap.size + 1) (by simp) ?_; intro g10 cap10 w10 ho10 hg10 hat10 hlt10))
    all_goals
     obtain ⟨R10, _⟩ := R9.push hGb (0, 3, false) rfl ho10 hg10
     go_wp2_with fail
     go_meet
     exact ⟨g10, cap10, rfl, R10⟩
   case rest =>
    obtain ⟨g10, cap10, rfl, R10⟩ := hcut
    clear R9 hsz9 n2 m2 p0 p1 q0 q1
    generalize wc = w10 at *
    go_wp2_with fail
    rw [rounds_succ]
    go_wp2_with fail
    rw [rounds_succ]
    obtain ⟨g, cap, hv, hcap, hgw, hgl, ⟨c0, c1, c2⟩, R11⟩ := R10.pop (n := 2) rfl
    cases hv
    replace c0 : w10.cell? ⟨g10, 6, none⟩ = some (.int .i64 0) := c0
    replace c1 : w10.cell? ⟨g10, 7, none⟩ = some (.int .i64 3) := c1
    replace c2 : w10.cell? ⟨g10, 8, none⟩ = some (.bool false) := c2
    replace R11 : AgR lo G b 0 w w10 (.slice (some ⟨g10, 0, none⟩) 2 cap10) [(2, 4, true), (1, 0, false)] (gA 0 1 2 0) D := R11
    replace hcap : (2 : Int) ≤ (cap10 : Int) := by omega
    clear R10 hgw
    go_upto_region 6 with fail
    have hbn := (Below.refl w10.heap.size w10).alloc (Nat.le_refl _) (Obj.cells #[.int .i64 0, .int .i64 3, .bool false] 91)
    have R12 := R11.below hGb hbn
    have hnx : (w10.alloc (Obj.cells #[.int .i64 0, .int .i64 3, .bool false] 91)).heap[w10.heap.size]? = some (.cells #[.int .i64 0, .int .i64 3, .bool false] 91 (0, 0)) := heap_alloc_new w10 _
    generalize w10.alloc (Obj.cells #[.int .i64 0, .int .i64 3, .bool false] 91) = w2 at *
    generalize w10.heap.size = nx at *
    clear hbn R11 c0 c1 c2 hgl
    obtain ⟨x0, x1, x2⟩ := heap_cells hnx
    have CA : ∀ W, Sm w2 W → Calls Tryz.prog 46 #[.pointer (some ⟨G, 0, none⟩), .int .i64 0] W fun e w' => e = .returned (.int .i64 0) ∧ w' = W := fun W (s : Sm w2 W) => (R12.gx.sm s).end_self (i := 0) (by decide) rfl
    have CB : ∀ W, Sm w2 W → Calls Tryz.prog 46 #[.pointer (some ⟨G, 0, none⟩), .int .i64 3] W fun e w' => e = .returned (.int .i64 3) ∧ w' = W := fun W (s : Sm w2 W) => (R12.gx.sm s).end_self (i := 3) (by decide) rfl
    go_cut [10, 11] from 33 to 40 (fun s t wc => s = .int .i64 0 ∧ t = .int .i64 3 ∧ Sm w2 wc)
    case first =>
     go_region_held3 (fun w' => w'.cell? ⟨nx, 0, none⟩ = some (.int .i64 0) ∧ w'.cell? ⟨nx, 1, none⟩ = some (.int .i64 3)) (first | exact ⟨x0, x1⟩ | assumption | go_keep) (first
      | (go_at_call 46; (with_reducible refine Calls.mono (CA _ ?_) ?_); exact ⟨rfl, rfl, rfl, rfl⟩; rintro e' w5 ⟨rfl, rfl⟩)
      | (go_at_call 46; (with_reducible refine Calls.mono (CB _ ?_) ?_); exact ⟨rfl, rfl, rfl, rfl⟩; rintro e' w5 ⟨rfl, rfl⟩))
     all_goals
      go_wp2_with fail
      go_meet
      exact ⟨rfl, rfl, ⟨rfl, rfl, rfl, rfl⟩⟩
    case rest =>
     obtain ⟨rfl, rfl, hsm⟩ := hcut
     generalize wc = w12 at *
     have R13 := R12.sm hGb hsm
     have hnx3 : w12.heap[nx]? = some (.cells #[.int .i64 0, .int .i64 3, .bool false] 91 (0, 0)) := by rw [hsm.heap]; exact hnx
     clear CA CB x0 x1 x2 hnx R12 hsm
     obtain ⟨x0, x1, x2⟩ := heap_cells hnx3
     obtain ⟨gm, gc2, ad2, e0, _, _, _, ⟨n0, n1, _⟩, _⟩ := R13.gx.at (i := 0) (by decide)
     obtain ⟨gm', gc', ad', e0', _, _, hfr, ⟨m0, m1, _⟩, _⟩ := R13.gx.at (i := 3) (by decide)
     rw [e0] at e0'
     cases e0'
     replace e0 : w12.cell? ⟨G, 0, none⟩ = some (.slice (some ⟨gm, 0, none⟩) 5 gc2) := e0
     replace n0 : w12.cell? ⟨gm, 0, none⟩ = some (.int .i64 2) := n0
     replace n1 : w12.cell? ⟨gm, 1, none⟩ = some (.string ⟨#[97]⟩) := n1
     replace m0 : w12.cell? ⟨gm, 18, none⟩ = some (.int .i64 1) := m0
     replace m1 : w12.cell? ⟨gm, 19, none⟩ = some (.string ⟨#[]⟩) := m1
     go_upto_region 8 with fail
     go_quiet (fail)
     go_upto_region 20 with fail
     generalize hv5 : World.drewN _ _ = v5
     have s5 : Sm w12 v5 := by rw [← hv5]; exact ⟨rfl, rfl, rfl, rfl⟩
     clear hv5
     have R14 := R13.sm hGb s5
     have CB : Calls Tryz.prog 48 #[.pointer (some ⟨G, 0, none⟩), .int .i64 0, .int .i64 3] v5 fun e w' => e = .returned (.int .i64 0) ∧ AgR lo G b 1 w w' (.slice (some ⟨g10, 0, none⟩) 2 cap10) ([(2, 4, true)] ++ [(1, 0, false)]) (gA 3 1 2 1) D := by
      refine Calls.mono (bind_zero 0 3 (by decide) (by decide) rfl rfl (by decide) rfl (by decide) (by decide) v5 R14.gx) ?_
      rintro e w' ⟨rfl, hk, hx⟩
      exact ⟨rfl, R14.next hGb hk hx⟩
     clear R14 R13 s5 x0 x1 x2 hnx3 e0 n0 n1 m0 m1 hfr
     go_wp2_with (first | (go_at_call 48; (with_reducible refine Calls.mono CB ?_); rintro e' w15 ⟨rfl, R15⟩))
     clear CB
     rw [rounds_succ]
     obtain ⟨g, cap, hv, hcap, hgw, hgl, ⟨c0, c1, c2⟩, R11⟩ := R15.pop (n := 1) rfl
     cases hv
     replace c0 : w15.cell? ⟨g10, 3, none⟩ = some (.int .i64 1) := c0
     replace c1 : w15.cell? ⟨g10, 4, none⟩ = some (.int .i64 0) := c1
     replace c2 : w15.cell? ⟨g10, 5, none⟩ = some (.bool false) := c2
     replace R11 : AgR lo G b 1 w w15 (.slice (some ⟨g10, 0, none⟩) 1 cap10) [(2, 4, true)] (gA 3 1 2 1) D := R11
     replace hcap : (1 : Int) ≤ (cap10 : Int) := by omega
     clear R15 hgw
     go_upto_region 6 with fail
     have hbn := (Below.refl w15.heap.size w15).alloc (Nat.le_refl _) (Obj.cells #[.int .i64 1, .int .i64 0, .bool false] 91)
     have R12 := R11.below hGb hbn
     have hnx : (w15.alloc (Obj.cells #[.int .i64 1, .int .i64 0, .bool false] 91)).heap[w15.heap.size]? = some (.cells #[.int .i64 1, .int .i64 0, .bool false] 91 (0, 0)) := heap_alloc_new w15 _
     generalize w15.alloc (Obj.cells #[.int .i64 1, .int .i64 0, .bool false] 91) = w2 at *
     generalize w15.heap.size = nx at *
     clear hbn R11 c0 c1 c2 hgl
     obtain ⟨x0, x1, x2⟩ := heap_cells hnx
     have CA : ∀ W, Sm w2 W → Calls Tryz.prog 46 #[.pointer (some ⟨G, 0, none⟩), .int .i64 1] W fun e w' => e = .returned (.int .i64 1) ∧ w' = W := fun W (s : Sm w2 W) => (R12.gx.sm s).end_self (i := 1) (by decide) rfl
     have CB : ∀ W, Sm w2 W → Calls Tryz.prog 46 #[.pointer (some ⟨G, 0, none⟩), .int .i64 0] W fun e w' => e = .returned (.int .i64 3) ∧ w' = W.drew := fun W (s : Sm w2 W) => (R12.gx.sm s).end_drew (i := 0) (m := 3) (by decide) (by decide) (by decide) rfl rfl
     go_cut [10, 11] from 33 to 40 (fun s t wc => s = .int .i64 1 ∧ t = .int .i64 3 ∧ Sm w2 wc)
     case first =>
      go_region_held3 (fun w' => w'.cell? ⟨nx, 0, none⟩ = some (.int .i64 1) ∧ w'.cell? ⟨nx, 1, none⟩ = some (.int .i64 0)) (first | exact ⟨x0, x1⟩ | assumption | go_keep) (first
       | (go_at_call 46; (with_reducible refine Calls.mono (CA _ ?_) ?_); exact ⟨rfl, rfl, rfl, rfl⟩; rintro e' w5 ⟨rfl, rfl⟩)
       | (go_at_call 46; (with_reducible refine Calls.mono (CB _ ?_) ?_); exact ⟨rfl, rfl, rfl, rfl⟩; rintro e' w5 ⟨rfl, rfl⟩))
      all_goals
       go_wp2_with fail
       go_meet
       exact ⟨rfl, rfl, ⟨rfl, rfl, rfl, rfl⟩⟩
     case rest =>
      obtain ⟨rfl, rfl, hsm⟩ := hcut
      generalize wc = w17 at *
      have R17 := R12.sm hGb hsm
      have hnx3 : w17.heap[nx]? = some (.cells #[.int .i64 1, .int .i64 0, .bool false] 91 (0, 0)) := by rw [hsm.heap]; exact hnx
      clear CA CB x0 x1 x2 hnx R12 hsm
      obtain ⟨x0, x1, x2⟩ := heap_cells hnx3
      obtain ⟨gm, gc2, ad2, e0, _, _, _, ⟨n0, n1, _⟩, _⟩ := R17.gx.at (i := 1) (by decide)
      obtain ⟨gm', gc', ad', e0', _, _, hfr, ⟨m0, m1, _⟩, _⟩ := R17.gx.at (i := 3) (by decide)
      rw [e0] at e0'
      cases e0'
      replace e0 : w17.cell? ⟨G, 0, none⟩ = some (.slice (some ⟨gm, 0, none⟩) 5 gc2) := e0
      replace n0 : w17.cell? ⟨gm, 6, none⟩ = some (.int .i64 2) := n0
      replace n1 : w17.cell? ⟨gm, 7, none⟩ = some (.string ⟨#[98]⟩) := n1
      replace m0 : w17.cell? ⟨gm, 18, none⟩ = some (.int .i64 1) := m0
      replace m1 : w17.cell? ⟨gm, 19, none⟩ = some (.string ⟨#[]⟩) := m1
      go_upto_region 8 with fail
      go_quiet (fail)
      go_upto_region 20 with fail
      generalize hv5 : World.drewN _ _ = v5
      have s5 : Sm w17 v5 := by rw [← hv5]; exact ⟨rfl, rfl, rfl, rfl⟩
      clear hv5
      have R14 := R17.sm hGb s5
      have CB : Calls Tryz.prog 48 #[.pointer (some ⟨G, 0, none⟩), .int .i64 1, .int .i64 3] v5 fun e w' => e = .returned (.int .i64 0) ∧ AgR lo G b 2 w w' (.slice (some ⟨g10, 0, none⟩) 1 cap10) ([] ++ [(2, 4, true)]) (gA 3 3 2 2) D := by
       refine Calls.mono (bind_zero 1 3 (by decide) (by decide) rfl rfl (by decide) rfl (by decide) (by decide) v5 R14.gx) ?_
       rintro e w' ⟨rfl, hk, hx⟩
       exact ⟨rfl, R14.next hGb hk hx⟩
      clear R14 R17 s5 x0 x1 x2 hnx3 e0 n0 n1 m0 m1 hfr
      go_wp2_with (first | (go_at_call 48; (with_reducible refine Calls.mono CB ?_); rintro e' w20 ⟨rfl, R20⟩))
      clear CB
      rw [rounds_succ]
      obtain ⟨g, cap, hv, hcap, hgw, hgl, ⟨c0, c1, c2⟩, R11⟩ := R20.pop (n := 0) rfl
      cases hv
      replace c0 : w20.cell? ⟨g10, 0, none⟩ = some (.int .i64 2) := c0
      replace c1 : w20.cell? ⟨g10, 1, none⟩ = some (.int .i64 4) := c1
      replace c2 : w20.cell? ⟨g10, 2, none⟩ = some (.bool true) := c2
      replace R11 : AgR lo G b 2 w w20 (.slice (some ⟨g10, 0, none⟩) 0 cap10) [] (gA 3 3 2 2) D := R11
      replace hcap : (0 : Int) ≤ (cap10 : Int) := by omega
      clear R20 hgw
      go_upto_region 6 with fail
      have hbn := (Below.refl w20.heap.size w20).alloc (Nat.le_refl _) (Obj.cells #[.int .i64 2, .int .i64 4, .bool true] 91)
      have R12 := R11.below hGb hbn
      have hnx : (w20.alloc (Obj.cells #[.int .i64 2, .int .i64 4, .bool true] 91)).heap[w20.heap.size]? = some (.cells #[.int .i64 2, .int .i64 4, .bool true] 91 (0, 0)) := heap_alloc_new w20 _
      generalize w20.alloc (Obj.cells #[.int .i64 2, .int .i64 4, .bool true] 91) = w2 at *
      generalize w20.heap.size = nx at *
      clear hbn R11 c0 c1 c2 hgl
      obtain ⟨x0, x1, x2⟩ := heap_cells hnx
      have CA : ∀ W, Sm w2 W → Calls Tryz.prog 46 #[.pointer (some ⟨G, 0, none⟩), .int .i64 2] W fun e w' => e = .returned (.int .i64 2) ∧ w' = W := fun W (s : Sm w2 W) => (R12.gx.sm s).end_self (i := 2) (by decide) rfl
      have CB : ∀ W, Sm w2 W → Calls Tryz.prog 46 #[.pointer (some ⟨G, 0, none⟩), .int .i64 4] W fun e w' => e = .returned (.int .i64 4) ∧ w' = W := fun W (s : Sm w2 W) => (R12.gx.sm s).end_self (i := 4) (by decide) rfl
      go_cut [10, 11] from 33 to 40 (fun s t wc => s = .int .i64 2 ∧ t = .int .i64 4 ∧ Sm w2 wc)
      case first =>
       go_region_held3 (fun w' => w'.cell? ⟨nx, 0, none⟩ = some (.int .i64 2) ∧ w'.cell? ⟨nx, 1, none⟩ = some (.int .i64 4)) (first | exact ⟨x0, x1⟩ | assumption | go_keep) (first
        | (go_at_call 46; (with_reducible refine Calls.mono (CA _ ?_) ?_); exact ⟨rfl, rfl, rfl, rfl⟩; rintro e' w5 ⟨rfl, rfl⟩)
        | (go_at_call 46; (with_reducible refine Calls.mono (CB _ ?_) ?_); exact ⟨rfl, rfl, rfl, rfl⟩; rintro e' w5 ⟨rfl, rfl⟩))
       all_goals
        go_wp2_with fail
        go_meet
        exact ⟨rfl, rfl, ⟨rfl, rfl, rfl, rfl⟩⟩
      case rest =>
       obtain ⟨rfl, rfl, hsm⟩ := hcut
       generalize wc = w22 at *
       have R22 := R12.sm hGb hsm
       have hnx3 : w22.heap[nx]? = some (.cells #[.int .i64 2, .int .i64 4, .bool true] 91 (0, 0)) := by rw [hsm.heap]; exact hnx
       clear CA CB x0 x1 x2 hnx R12 hsm
       obtain ⟨x0, x1, x2⟩ := heap_cells hnx3
       obtain ⟨gm, gc2, ad2, e0, _, _, _, ⟨n0, n1, _⟩, _⟩ := R22.gx.at (i := 2) (by decide)
       obtain ⟨gm', gc', ad', e0', _, _, hfr, ⟨m0, m1, _⟩, _⟩ := R22.gx.at (i := 4) (by decide)
       rw [e0] at e0'
       cases e0'
       replace e0 : w22.cell? ⟨G, 0, none⟩ = some (.slice (some ⟨gm, 0, none⟩) 5 gc2) := e0
       replace n0 : w22.cell? ⟨gm, 12, none⟩ = some (.int .i64 3) := n0
       replace n1 : w22.cell? ⟨gm, 13, none⟩ = some (.string ⟨#[]⟩) := n1
       replace m0 : w22.cell? ⟨gm, 24, none⟩ = some (.int .i64 3) := m0
       replace m1 : w22.cell? ⟨gm, 25, none⟩ = some (.string ⟨#[]⟩) := m1
       go_upto_region 8 with fail
       go_quiet (fail)
       go_upto_region 16 with fail
       generalize hv5 : World.drewN _ _ = v5
       have s5 : Sm w22 v5 := by rw [← hv5]; exact ⟨rfl, rfl, rfl, rfl⟩
       clear hv5
       have R23 := R22.sm hGb s5
       obtain ⟨g4, gc4, ad4, d0, _, _, hf4, ⟨_, _, _, d3, _⟩, _, hT⟩ := R23.gx.at (i := 2) (by decide)
       have hg4 : g4 = gm := by
        have e : v5.cell? ⟨G, 0, none⟩ = w22.cell? ⟨G, 0, none⟩ := s5.cell _
        rw [e, e0] at d0
        exact (slice_block d0).symm
       subst hg4
       obtain ⟨hT1, hT2⟩ := hT 4
       have f15 : v5.frozen? ⟨g4, 15, none⟩ = false := hf4 15
       replace d3 : v5.cell? ⟨g4, 15, none⟩ = some (.int .i64 2) := d3
       have HX : Hid (GX (v5.setCell ⟨g4, 15, none⟩ (.int .i64 4)) lo G b (fun _ => False) (gA 3 3 4 2) D 2 ∧ Gk lo G b w (v5.setCell ⟨g4, 15, none⟩ (.int .i64 4))) := ⟨hT1, R23.gk.trans hT2⟩
       clear hT1 hT2 hT hf4 R22 R23 s5 x0 x1 x2 hnx3 e0 n0 n1 m0 m1 hfr d0
       go_wp2_with fail
       rw [rounds_succ]
       go_wp2_with fail
       go_ret
       exact ⟨rfl, HX.out.2, HX.out.1⟩
end Go.Proofs.YtikpipenhamdbaaGreat
