/- The graph: a variable that stands for a node without arguments: contracts of nodesLeft and typeOf there. -/
import Derived.Test.YthcejnpknjepfaaGreatDoorGf
namespace Go.Proofs.YthcejnpknjepfaaGreatDoor
open Go.RowKit Go.Maps

set_option maxHeartbeats 8000000 in
set_option maxRecDepth 10000 in
theorem end_drew {w : World} {lo G b : Nat} {v : Value} {ns : List Gn} {D : DataW Unit} {wk : Nat} (h : GS w lo G b v ns D wk) (i m : Nat) (hi : i < ns.length) (hm : m < ns.length) (him : i ≠ m) (ht : ns[i].tg = m) (hs : ns[m].tg = m) :
    Calls Tryz.prog 63 #[.pointer (some ⟨G, 0, none⟩), .int .i64 i] w fun e w' => e = .returned (.int .i64 m) ∧ w' = w.drew := by
  obtain ⟨g, cap, rfl, hg, hlt, ⟨cur, hcur⟩, ⟨c0, c1, c2⟩, ⟨n0, n1, n2, n3, n4, n5⟩, hfr⟩ := h.cells hi
  obtain ⟨g', cap', e0, _, _, _, _, ⟨m0, m1, m2, m3, m4, m5⟩, _⟩ := h.cells hm
  cases e0
  rw [ht] at n3
  rw [hs] at m3
  have hn := h.num
  have i1 : (0 : Int) ≤ (i : Int) := by omega
  have i2 : (i : Int) < (ns.length : Int) := by omega
  have j1 : (0 : Int) ≤ (m : Int) := by omega
  have j2 : (m : Int) < (ns.length : Int) := by omega
  have hne : ((m : Int) != (i : Int)) = true := by simp; omega
  have hne2 : ((m : Int) == (i : Int)) = false := by simp; omega
  have hf3 := hfr (i * 6 + 3)
  have hsame := setCell_self hcur n3
  have hGg : ¬ G = g := fun e => by
    have := h.box
    rw [e, hcur] at this
    cases this
  have hgG : ¬ g = G := fun e => hGg e.symm
  clear h ht hs n0 n1 n2 n4 n5 c1 c2 m0 m1 m2 m4 m5 hfr
  go_enter Tryz.func63, Tryz.ntmps63
  go_wp2
  refine wp_loop_rounds 2 ?_
  rw [rounds_succ]
  go_wp2
  go_region_held3 (fun w' => w'.cell? ⟨G, 0, none⟩ = some (.slice (some ⟨g, 0, none⟩) ns.length cap) ∧ w'.cell? ⟨g, i * 6 + 3, none⟩ = some (.int .i64 m) ∧ w'.cell? ⟨g, m * 6 + 3, none⟩ = some (.int .i64 m) ∧ w'.frozen? ⟨g, i * 6 + 3, none⟩ = false) (first | exact ⟨c0, n3, m3, hf3⟩ | assumption | (rw [hsame]; exact ⟨c0, n3, m3, hf3⟩) | go_keep) (fail)
  go_wp2
  rw [rounds_succ]
  go_wp2
  go_ret
  exact ⟨rfl, by first | rfl | (show World.drew _ = _; rw [hsame])⟩
theorem GX.end_drew {w : World} {lo G b wk : Nat} {R : Nat → Prop} {xs : List Gx} {D : DataW Unit} (h : GX w lo G b R xs D wk) {i m : Nat} (hi : i < xs.length) (hm : m < xs.length) (him : i ≠ m) (ht : xs[i].tg = m) (hs : xs[m].tg = m) : Calls Tryz.prog 63 #[.pointer (some ⟨G, 0, none⟩), .int .i64 i] w fun e w' => e = .returned (.int .i64 m) ∧ w' = w.drew := by
  obtain ⟨v, ns, rfl, hG, hr⟩ := h
  rw [List.length_map] at hi hm
  exact YthcejnpknjepfaaGreatDoor.end_drew hG i m hi hm him (by simpa [Gn.st] using ht) (by simpa [Gn.st] using hs)
theorem GX.end_one {w : World} {lo G b wk : Nat} {R : Nat → Prop} {xs : List Gx} {D : DataW Unit} (h : GX w lo G b R xs D wk) {i m : Nat} (hi : i < xs.length) (hm : m < xs.length) (him : i ≠ m) (ht : xs[i].tg = m) (hs : xs[m].tg = m) : Calls Tryz.prog 63 #[.pointer (some ⟨G, 0, none⟩), .int .i64 i] w fun e w' => e = .returned (.int .i64 m) ∧ Sm w w' := by
  obtain ⟨v, ns, rfl, hG, hr⟩ := h
  rw [List.length_map] at hi hm
  exact YthcejnpknjepfaaGreatDoor.end_one hG i m hi hm him (by simpa [Gn.st] using ht) (by simpa [Gn.st] using hs)
theorem Sm.undrew {w w' : World} (h : Sm w.drew w') : Sm w w' := ⟨h.heap, h.os, h.tape, h.output⟩
theorem Sm.cell {w w' : World} (h : Sm w w') (p : Addr) : w'.cell? p = w.cell? p := World.cell?_of_block (w := w) (by rw [h.heap])
theorem GX.num {w : World} {lo G b wk : Nat} {R : Nat → Prop} {xs : List Gx} {D : DataW Unit} (h : GX w lo G b R xs D wk) : xs.length ≤ 1000000 ∧ lo ≤ w.heap.size ∧ G < w.heap.size ∧ b < w.heap.size := by
  obtain ⟨v, ns, rfl, hG, hr⟩ := h
  rw [List.length_map]
  exact ⟨hG.num, hG.lt⟩
set_option maxHeartbeats 8000000 in
set_option maxRecDepth 10000 in
theorem left_leaf {w : World} {lo G b wk : Nat} {R : Nat → Prop} {xs : List Gx} {D : DataW Unit} (h : GX w lo G b R xs D wk) (i m : Nat) (hi : i < xs.length) (hm : m < xs.length) (him : i ≠ m) (ht : xs[i].tg = m) (hs : xs[m].tg = m) (har : xs[m].ar = []) :
    Calls Tryz.prog 66 #[.pointer (some ⟨G, 0, none⟩), .int .i64 i, .int .i64 500] w fun e w' => e = .returned (.int .i64 499) ∧ Sm w w' := by
  obtain ⟨g, cap, ad, c0, c1, hgG, hfr, ⟨n0, n1, n2, n3, n4, n5⟩, _, _⟩ := h.at hm
  rw [har] at n2
  have C1 := (h.sm (w' := w.drew) ⟨rfl, rfl, rfl, rfl⟩).end_one hi hm him ht hs
  have hl := h.num.1
  have j1 : (0 : Int) ≤ (m : Int) := by omega
  have j2 : (m : Int) < (xs.length : Int) := by omega
  clear h n0 n1 n3 n4 n5 c1 hfr
  go_enter Tryz.func66, Tryz.ntmps66
  go_wp2
  go_region_held3 (fun w' => w'.cell? ⟨G, 0, none⟩ = some (.slice (some ⟨g, 0, none⟩) xs.length cap) ∧ w'.cell? ⟨g, m * 6 + 2, none⟩ = some (.slice ad 0 0) ∧ Sm w w') (first | exact ⟨c0, n2, Sm.refl _⟩ | exact ⟨c0, n2, ⟨rfl, rfl, rfl, rfl⟩⟩ | assumption | (exact ⟨(hsm.cell _).trans c0, (hsm.cell _).trans n2, ⟨hsm.heap, hsm.os, hsm.tape, hsm.output⟩⟩) | go_keep) (first | (go_at_call 63; (with_reducible refine Calls.mono C1 ?_); rintro e' w5 ⟨rfl, hsm⟩))
  go_wp2
  refine wp_loop_rounds 1 ?_
  rw [rounds_succ]
  go_wp2
  go_ret
  exact ⟨rfl, ⟨hsm.heap, hsm.os, hsm.tape, hsm.output⟩⟩
theorem alloc_keep {w : World} {k i : Nat} {v : Value} (h : w.cell? ⟨k, i, none⟩ = some v) (o : Obj) : (w.alloc o).cell? ⟨k, i, none⟩ = some v :=
  (World.cell?_of_block (w := w) (Below.heap_alloc _ _ _ (lt_cell h))).trans h
theorem six_cells {w : World} {k : Nat} {a b c d e f : Value} {t : TypeId} (h : w.heap[k]? = some (.cells #[a, b, c, d, e, f] t (0, 0))) : (w.cell? ⟨k, 0, none⟩ = some a ∧ w.cell? ⟨k, 1, none⟩ = some b ∧ w.cell? ⟨k, 2, none⟩ = some c ∧ w.cell? ⟨k, 3, none⟩ = some d ∧ w.cell? ⟨k, 4, none⟩ = some e ∧ w.cell? ⟨k, 5, none⟩ = some f) ∧
    w.frozen? ⟨k, 0, none⟩ = false ∧ w.frozen? ⟨k, 1, none⟩ = false ∧ w.frozen? ⟨k, 2, none⟩ = false ∧ w.frozen? ⟨k, 3, none⟩ = false ∧ w.frozen? ⟨k, 4, none⟩ = false ∧ w.frozen? ⟨k, 5, none⟩ = false := by
  simp [World.cell?, World.frozen?, h]
theorem put_box {w : World} {k : Nat} {a0 b0 c0 : Value} {t : TypeId} (h : w.heap[k]? = some (.cells #[a0, b0, c0] t (0, 0))) (a b c : Value) : ∃ W, W = ((w.setCell ⟨k, 0, none⟩ a).setCell ⟨k, 1, none⟩ b).setCell ⟨k, 2, none⟩ c ∧ W.heap[k]? = some (.cells #[a, b, c] t (0, 0)) ∧ Below k w W := by
  refine ⟨_, rfl, ?_, ?_⟩
  · exact (setCell_block (setCell_block (setCell_block h))).trans rfl
  · exact (((Below.refl k w).setCell (Nat.le_refl _) _).setCell (Nat.le_refl _) _).setCell (Nat.le_refl _) _
theorem kind_at (w : World) : (Instr.index 137 (.agg #[.int .i64 0, .int .i64 1, .int .i64 2, .int .i64 3, .int .i64 4]) (.int .i64 1)).run Tryz.prog w = .ok (.int .i64 1) w := by kernel_rfl
set_option maxRecDepth 10000 in
theorem kind_one (w : World) : Calls Tryz.prog 85 #[.int .i64 1] w fun e w' => e = .returned (.int .i64 1) ∧ w' = w := by
  have hk := kind_at w
  go_enter Tryz.func85, Tryz.ntmps85
  go_wp2
  go_ret
  exact ⟨rfl, rfl⟩
set_option maxHeartbeats 8000000 in
set_option maxRecDepth 10000 in
theorem typeOf_int {w : World} {lo G b wk : Nat} {R : Nat → Prop} {xs : List Gx} {D : DataW Unit} (h : GX w lo G b R xs D wk) (i m : Nat) (hi : i < xs.length) (hm : m < xs.length) (him : i ≠ m) (ht : xs[i].tg = m) (hs : xs[m].tg = m) (har : xs[m].ar = []) (his : xs[m].is = 1) (hnm : xs[m].name = []) :
    Calls Tryz.prog 68 #[.pointer (some ⟨G, 0, none⟩), .int .i64 i] w fun e w' => e = .returned (.agg #[.int .i64 1, .string ⟨#[]⟩, .slice none 0 0]) ∧ Below w.heap.size w w' := by
  obtain ⟨W0, hW0, hbW0, hsW0, _, _, _⟩ := cells_box w (.int .i64 0) (.string ⟨#[]⟩) (.slice none 0 0) 24
  have hz : W0.heap[w.heap.size]? = some (.cells #[.int .i64 0, .string ⟨#[]⟩, .slice none 0 0] 24 (0, 0)) := by rw [hW0]; exact heap_alloc_new w _
  have h0 := h.below hbW0
  have hl := h.num
  obtain ⟨g, cap, ad, c0, c1, hgG, hfr, ⟨n0, n1, n2, n3, n4, n5⟩, _, _⟩ := h0.at hm
  rw [har] at n2
  rw [his] at n0
  rw [hnm] at n1
  rw [hs] at n3
  have C1 := (h0.sm (w' := W0.drew) ⟨rfl, rfl, rfl, rfl⟩).end_drew hi hm him ht hs
  have C2 := fun o : Obj => ((h0.below ((Below.refl _ _).alloc (Nat.le_refl _) o)).sm (w' := (W0.alloc o).drew) ⟨rfl, rfl, rfl, rfl⟩).end_drew hi hm him ht hs
  have j1 : (0 : Int) ≤ (m : Int) := by omega
  have j2 : (m : Int) < (xs.length : Int) := by omega
  generalize xs[m].ins = ins at n4
  generalize xs[m].walk = wlk at n5
  clear h h0 c1 hfr
  go_enter Tryz.func68, Tryz.ntmps68
  go_upto_region 1 with fail
  rw [← hW0]
  clear hW0
  have q1 : ¬ G = W0.heap.size := by omega
  have q2 : ¬ g = W0.heap.size := by have := lt_cell n0; omega
  have q3 : ¬ W0.heap.size = G := fun e => q1 e.symm
  have q4 : ¬ W0.heap.size = g := fun e => q2 e.symm
  have HS0 : Hid (W0.heap.size = w.heap.size + 1) := hsW0
  clear hsW0
  obtain ⟨Z, hZ⟩ : ∃ Z, Z = Obj.cells #[.int .i64 0, .string ⟨#[]⟩, .slice none 0 0, .int .i64 0, .bool false, .int .i64 0] 107 := ⟨_, rfl⟩
  have C2 := C2 Z
  rw [hZ] at C2
  go_cut [5] from 9 to 17 (fun s wc => s = .pointer (some ⟨W0.heap.size, 0, none⟩) ∧ wc = (W0.alloc (Obj.cells #[.int .i64 1, .string ⟨#[]⟩, .slice ad 0 0, .int .i64 m, .bool ins, .int .i64 wlk] 107)).drew.drew)
  case first =>
    go_region_held3 (fun w' => w'.cell? ⟨G, 0, none⟩ = some (.slice (some ⟨g, 0, none⟩) xs.length cap) ∧ (w'.cell? ⟨g, m * 6, none⟩ = some (.int .i64 1) ∧ w'.cell? ⟨g, m * 6 + 1, none⟩ = some (.string ⟨#[]⟩) ∧ w'.cell? ⟨g, m * 6 + 2, none⟩ = some (.slice ad 0 0) ∧ w'.cell? ⟨g, m * 6 + 3, none⟩ = some (.int .i64 m) ∧ w'.cell? ⟨g, m * 6 + 4, none⟩ = some (.bool ins) ∧ w'.cell? ⟨g, m * 6 + 5, none⟩ = some (.int .i64 wlk))) (first | exact ⟨c0, n0, n1, n2, n3, n4, n5⟩ | assumption | exact ⟨alloc_keep c0 _, alloc_keep n0 _, alloc_keep n1 _, alloc_keep n2 _, alloc_keep n3 _, alloc_keep n4 _, alloc_keep n5 _⟩ | go_keep) (first
      | (go_at_call 63; (with_reducible refine Calls.mono C1 ?_); rintro e' w5 ⟨rfl, rfl⟩)
      | (go_at_call 63; (with_reducible refine Calls.mono C2 ?_); rintro e' w5 ⟨rfl, rfl⟩))
    all_goals (go_wp2_with fail; go_meet; exact ⟨rfl, rfl⟩)
  case rest =>
    obtain ⟨rfl, rfl⟩ := hcut
    obtain ⟨W1, hW1⟩ : ∃ W1, W1 = (W0.alloc (Obj.cells #[.int .i64 1, .string ⟨#[]⟩, .slice ad 0 0, .int .i64 m, .bool ins, .int .i64 wlk] 107)).drew.drew := ⟨_, rfl⟩
    rw [← hW1]
    have hs1 : W1.heap.size = W0.heap.size + 1 := by rw [hW1]; simp
    have hb1 : Below W0.heap.size W0 W1 := by rw [hW1]; exact (((Below.refl _ _).alloc (Nat.le_refl _) _).drew).drew
    have hx1 : W1.heap[W0.heap.size]? = some (.cells #[.int .i64 1, .string ⟨#[]⟩, .slice ad 0 0, .int .i64 m, .bool ins, .int .i64 wlk] 107 (0, 0)) := by rw [hW1]; exact heap_alloc_new W0 _
    have hy1 : W1.heap[w.heap.size]? = some (.cells #[.int .i64 0, .string ⟨#[]⟩, .slice none 0 0] 24 (0, 0)) := (hb1.block _ (by have := HS0.out; omega)).trans hz
    have HS1 : Hid (W1.heap.size = W0.heap.size + 1) := hs1
    clear hW1 C1 C2 c0 n0 n1 n2 n3 n4 n5
    obtain ⟨⟨e0, e1, e2, e3, e4, e5⟩, f0, f1, f2, f3, f4, f5⟩ := six_cells hx1
    have q5 : ¬ W0.heap.size = W1.heap.size := by omega
    have q6 : ¬ W1.heap.size = W0.heap.size := by omega
    clear hs1
    go_upto_region 2 with fail
    go_cut [6] from 18 to 23 (fun s wc => s = .pointer (some ⟨W1.heap.size, 0, none⟩) ∧ wc = (W1.alloc (Obj.cells #[.int .i64 1, .string ⟨#[]⟩, .slice none 0 0] 24)).drew)
    case first =>
      go_region_held3 (fun w' => w'.cell? ⟨W0.heap.size, 0, none⟩ = some (.int .i64 1) ∧ w'.cell? ⟨W0.heap.size, 1, none⟩ = some (.string ⟨#[]⟩)) (first | exact ⟨e0, e1⟩ | assumption | exact ⟨alloc_keep e0 _, alloc_keep e1 _⟩ | go_keep) (first
        | (go_at_call 85; (with_reducible refine Calls.mono (kind_one _) ?_); rintro e' w5 ⟨rfl, rfl⟩))
      all_goals (go_wp2_with fail; go_meet; exact ⟨rfl, rfl⟩)
    case rest =>
      obtain ⟨rfl, rfl⟩ := hcut
      obtain ⟨W2, hW2⟩ : ∃ W2, W2 = (W1.alloc (Obj.cells #[.int .i64 1, .string ⟨#[]⟩, .slice none 0 0] 24)).drew := ⟨_, rfl⟩
      rw [← hW2]
      have hb2 : Below W1.heap.size W1 W2 := by rw [hW2]; exact ((Below.refl _ _).alloc (Nat.le_refl _) _).drew
      have hx2 : W2.heap[W1.heap.size]? = some (.cells #[.int .i64 1, .string ⟨#[]⟩, .slice none 0 0] 24 (0, 0)) := by rw [hW2]; exact heap_alloc_new W1 _
      have i2 : W2.cell? ⟨W0.heap.size, 2, none⟩ = some (.slice ad 0 0) := (World.cell?_of_block (w := W1) (hb2.block _ (lt_cell e2))).trans e2
      have hy2 : W2.heap[w.heap.size]? = some (.cells #[.int .i64 0, .string ⟨#[]⟩, .slice none 0 0] 24 (0, 0)) := (hb2.block _ (lt_of_heap hy1)).trans hy1
      obtain ⟨x0, x1, x2⟩ := heap_cells hx2
      obtain ⟨y0, y1, y2⟩ := heap_cells hy2
      have g0 := heap_frozen (o := 0) hy2
      have g1 := heap_frozen (o := 1) hy2
      have g2 := heap_frozen (o := 2) hy2
      have HB : Hid (Below w.heap.size w W2) := hbW0.trans ((hb1.mono (by have := HS0.out; omega)).trans (hb2.mono (by have := HS0.out; have := HS1.out; omega)))
      have HX2 : Hid (W2.heap[w.heap.size]? = some (.cells #[.int .i64 0, .string ⟨#[]⟩, .slice none 0 0] 24 (0, 0))) := hy2
      clear hW2 hb2 hb1 hbW0 e0 e1 e2 e3 e4 e5 f0 f1 f2 f3 f4 f5 hx2 hy2 hx1 hy1 hz
      go_wp2
      refine wp_loop_rounds 1 ?_
      rw [rounds_succ]
      go_wp2
      obtain ⟨W, hWe, k1, k2⟩ := put_box HX2.out (.int .i64 1) (.string ⟨#[]⟩) (.slice none 0 0)
      rw [← hWe]
      obtain ⟨s0, s1, s2⟩ := heap_cells k1
      refine bodyPost_ret (v := .agg #[.int .i64 1, .string ⟨#[]⟩, .slice none 0 0]) (by simp [results, Tryz.results68, go_sem, s0, s1, s2]) rfl ?_
      exact ⟨rfl, HB.out.trans k2⟩
end Go.Proofs.YthcejnpknjepfaaGreatDoor
