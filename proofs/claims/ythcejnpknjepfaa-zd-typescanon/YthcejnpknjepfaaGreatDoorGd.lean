/- The graph: the contract of lay at a function. -/
import Derived.Test.YthcejnpknjepfaaGreatDoorGc
namespace Go.Proofs.YthcejnpknjepfaaGreatDoor
open Go.RowKit Go.Maps

/-- A node that stands within another one. -/
def insX (xs : List Gx) (i : Nat) : List Gx := xs.modify i fun x => { x with ins := true }
/-- The mark, set. -/
theorem GX.mark {w : World} {lo G b wk : Nat} {R : Nat → Prop} {xs : List Gx} {D : DataW Unit} (h : GX w lo G b R xs D wk) {i : Nat} (hi : i < xs.length) : ∃ g cap, w.cell? ⟨G, 0, none⟩ = some (.slice (some ⟨g, 0, none⟩) xs.length cap) ∧ w.frozen? ⟨g, i * 6 + 4, none⟩ = false ∧ (∃ u, w.cell? ⟨g, i * 6 + 4, none⟩ = some u) ∧ (g ≠ G ∧ ∀ k c, w.heap[k]? = some (.cells c 3 (0, 0)) → g ≠ k) ∧ GX (w.setCell ⟨g, i * 6 + 4, none⟩ (.bool true)) lo G b R (insX xs i) D wk ∧ Gk lo G b w (w.setCell ⟨g, i * 6 + 4, none⟩ (.bool true)) := by
  obtain ⟨v, ns, rfl, hG, hr⟩ := h
  rw [List.length_map] at hi ⊢
  obtain ⟨g, cap, hv, _, _, ⟨cur, hcur⟩, ⟨c0, _, _⟩, ⟨_, _, _, _, n4, _⟩, hfr⟩ := hG.cells hi
  obtain ⟨g', cap', hv', h1, h2⟩ := hG.node hi { ns[i] with ins := true } ⟨rfl, rfl⟩ (j := 4) (by omega) (u := .bool true) rfl
  rw [hv] at hv'
  cases hv'
  refine ⟨g, cap, c0, hfr _, ⟨_, n4⟩, ⟨fun e => by
    have := hG.box
    rw [← e, hcur] at this
    exact absurd (cells_ty this) (by decide), fun k c hk e => by
    rw [← e, hcur] at hk
    exact absurd (cells_ty hk) (by decide)⟩, ⟨v, _, ?_, h1, fun n hn => ?_⟩, h2⟩
  · unfold insX
    apply List.ext_getElem?
    intro j
    rw [List.getElem?_map, List.getElem?_set, List.getElem?_modify, List.getElem?_map]
    by_cases hj : i = j
    · subst hj
      simp [hi, Gn.st]
    · simp [hj]
  · rcases List.mem_or_eq_of_mem_set hn with hn | hn
    · exact hr n hn
    · rw [hn]
      exact fun h0 g hg => hr ns[i] (List.getElem_mem hi) h0 g hg
/-- end, at a node that leads nowhere. -/
theorem GX.end_self {w : World} {lo G b wk : Nat} {R : Nat → Prop} {xs : List Gx} {D : DataW Unit} (h : GX w lo G b R xs D wk) {i : Nat} (hi : i < xs.length) (ht : xs[i].tg = i) : Calls Tryz.prog 63 #[.pointer (some ⟨G, 0, none⟩), .int .i64 i] w fun e w' => e = .returned (.int .i64 i) ∧ w' = w := by
  obtain ⟨v, ns, rfl, hG, hr⟩ := h
  rw [List.length_map] at hi
  exact YthcejnpknjepfaaGreatDoor.end_self hG i hi (by simpa [Gn.st] using ht)
/-- One round of lay's loop: the argument x is laid, and stands in the row za at j. -/
structure FnR (lo G b wk : Nat) (w0 wr : World) (z za : Nat) (xs : List Gx) (D : DataW Unit) (a1 a2 : Int) (sl : Value) : Prop where
  gx : GX wr lo G b (fun g => g = za) xs D wk
  gk : Gk lo G b w0 wr
  row : wr.heap[za]? = some (.cells #[.int .i64 a1, .int .i64 a2] 3 (0, 0))
  box : wr.heap[z]? = some (.cells #[.int .i64 3, .string ⟨#[]⟩, sl] 24 (0, 0))
theorem FnR.next {lo G b wk z za : Nat} {w0 wr w1 : World} {xs xs' : List Gx} {D D' : DataW Unit} {a1 a2 : Int} {sl : Value} (h : FnR lo G b wk w0 wr z za xs D a1 a2 sl) (hn : za ≠ G ∧ za ≠ b ∧ z ≠ G ∧ z ≠ b) (hk : Gk lo G b wr w1) (hx : GX w1 lo G b (fun g => g = za) xs' D' wk) : FnR lo G b wk w0 w1 z za xs' D' a1 a2 sl :=
  ⟨hx, h.gk.trans hk, hk.keep _ _ h.row hn.1 hn.2.1 (by intro c fz e; exact absurd (cells_ty (congrArg some e)) (by decide)), hk.keep _ _ h.box hn.2.2.1 hn.2.2.2 (by intro c fz e; exact absurd (cells_ty (congrArg some e)) (by decide))⟩
/-- A number is put into the row za. -/
theorem FnR.store {lo G b wk z za : Nat} {w0 wr : World} {xs : List Gx} {D : DataW Unit} {a1 a2 : Int} {sl : Value} (h : FnR lo G b wk w0 wr z za xs D a1 a2 sl) (hz : w0.heap.size ≤ za) (hlo : lo ≤ w0.heap.size) (hzz : z ≠ za) (j : Nat) (c : Int) : FnR lo G b wk w0 (wr.setCell ⟨za, j, none⟩ (.int .i64 c)) z za xs D (if j = 0 then c else a1) (if j = 1 then c else a2) sl := by
  have hoth : ∀ k, k ≠ za → (wr.setCell ⟨za, j, none⟩ (.int .i64 c)).heap[k]? = wr.heap[k]? := fun k hk => Below.heap_setCell _ _ _ _ hk
  refine ⟨h.gx.aside rfl h.row _ _, ⟨h.gk.os, h.gk.tape, h.gk.output, by simpa [World.setCell] using h.gk.size, fun k hk => ?_, fun k o h1 h2 h3 h4 => ?_⟩, ?_, ?_⟩
  · rw [hoth k (by omega)]
    exact h.gk.low k hk
  · rw [hoth k (by have := lt_of_heap h1; omega)]
    exact h.gk.keep k o h1 h2 h3 h4
  · rw [setCell_block h.row]
    match j with
    | 0 => rfl
    | 1 => rfl
    | j + 2 => simp
  · rw [hoth z hzz]
    exact h.box
/-- A node is marked. -/
theorem FnR.mark {lo G b wk z za : Nat} {w0 wr : World} {xs : List Gx} {D : DataW Unit} {a1 a2 : Int} {sl : Value} (h : FnR lo G b wk w0 wr z za xs D a1 a2 sl) (hn : za ≠ G ∧ za ≠ b ∧ z ≠ G ∧ z ≠ b) {i : Nat} (hi : i < xs.length) : ∃ g cap, wr.cell? ⟨G, 0, none⟩ = some (.slice (some ⟨g, 0, none⟩) xs.length cap) ∧ wr.frozen? ⟨g, i * 6 + 4, none⟩ = false ∧ (∃ u, wr.cell? ⟨g, i * 6 + 4, none⟩ = some u) ∧ (g ≠ G ∧ g ≠ za) ∧ FnR lo G b wk w0 (wr.setCell ⟨g, i * 6 + 4, none⟩ (.bool true)) z za (insX xs i) D a1 a2 sl := by
  obtain ⟨g, cap, h1, h2, h3, h6, h4, h5⟩ := h.gx.mark hi
  exact ⟨g, cap, h1, h2, h3, ⟨h6.1, h6.2 _ _ h.row⟩, h.next hn h5 h4⟩
theorem FnR.sm {lo G b wk z za : Nat} {w0 wr w1 : World} {xs : List Gx} {D : DataW Unit} {a1 a2 : Int} {sl : Value} (h : FnR lo G b wk w0 wr z za xs D a1 a2 sl) (hn : za ≠ G ∧ za ≠ b ∧ z ≠ G ∧ z ≠ b) (s : Sm wr w1) : FnR lo G b wk w0 w1 z za xs D a1 a2 sl := h.next hn (Gk.of_sm s) (h.gx.sm s)
theorem cell_row0 {w : World} {b : Nat} {x y : Value} {t : TypeId} {fr : Nat × Nat} (h : w.heap[b]? = some (.cells #[x, y] t fr)) : w.cell? ⟨b, 0, none⟩ = some x ∧ w.cell? ⟨b, 1, none⟩ = some y := by
  refine ⟨?_, ?_⟩ <;> (simp only [World.cell?, h]; rfl)
set_option maxHeartbeats 16000000 in
set_option maxRecDepth 10000 in
theorem lay_fun (lo G b wk : Nat) (k1 k2 : Int) (n1 n2 : ByteArray) (ad1 ad2 : Option Addr) (len1 len2 cp1 cp2 g o cap : Nat) (xs xs1 xs2 : List Gx) (D D1 D2 : DataW Unit) (i1 i2 : Nat)
    (H1 : LayP lo G b wk (.agg #[.int .i64 k1, .string n1, .slice ad1 len1 cp1]) xs D i1 xs1 D1) (hi1 : i1 < xs1.length) (ht1 : xs1[i1].tg = i1)
    (H2 : LayP lo G b wk (.agg #[.int .i64 k2, .string n2, .slice ad2 len2 cp2]) (insX xs1 i1) D1 i2 xs2 D2) (hi2 : i2 < xs2.length) (ht2 : xs2[i2].tg = i2) (hD : Maps.has D (.string []) = false) (hnum : xs2.length < 1000000)
    (w : World) (h : GX w lo G b (fun _ => False) xs D wk) (hg : g < lo)
    (p0 : w.cell? ⟨g, o, none⟩ = some (.int .i64 k1)) (p1 : w.cell? ⟨g, o + 1, none⟩ = some (.string n1)) (p2 : w.cell? ⟨g, o + 2, none⟩ = some (.slice ad1 len1 cp1)) (p3 : w.cell? ⟨g, o + 3, none⟩ = some (.int .i64 k2)) (p4 : w.cell? ⟨g, o + 4, none⟩ = some (.string n2)) (p5 : w.cell? ⟨g, o + 5, none⟩ = some (.slice ad2 len2 cp2)) :
    Calls Tryz.prog 41 #[.pointer (some ⟨G, 0, none⟩), .agg #[.int .i64 3, .string ⟨#[]⟩, .slice (some ⟨g, o, none⟩) 2 cap]] w fun e w' => e = .returned (.int .i64 xs2.length) ∧ Gk lo G b w w' ∧
      GX w' lo G b (fun _ => False) (insX xs2 i2 ++ [{ is := 3, name := [], ar := [i1, i2], tg := xs2.length, ins := false, walk := 0 }]) D2 wk := by
  have CF : ∀ W, Calls Tryz.prog 54 #[.agg #[.int .i64 3, .string ⟨#[]⟩, .slice (some ⟨g, o, none⟩) 2 cap]] W fun e w' => e = .returned (.int .i64 3) ∧ Below W.heap.size W w' := fun W => formOf_any 3 [] (some ⟨g, o, none⟩) 2 cap W (by simp) (by omega)
  have hlt : lo ≤ w.heap.size ∧ G < w.heap.size ∧ b < w.heap.size := by
    obtain ⟨v, ns, _, hG, _⟩ := h
    exact hG.lt
  have PC : Hid (∀ w1, Gk lo G b w w1 → (w1.cell? ⟨g, o, none⟩ = some (.int .i64 k1) ∧ w1.cell? ⟨g, o + 1, none⟩ = some (.string n1) ∧ w1.cell? ⟨g, o + 2, none⟩ = some (.slice ad1 len1 cp1)) ∧ w1.cell? ⟨g, o + 3, none⟩ = some (.int .i64 k2) ∧ w1.cell? ⟨g, o + 4, none⟩ = some (.string n2) ∧ w1.cell? ⟨g, o + 5, none⟩ = some (.slice ad2 len2 cp2)) := fun w1 hk => by
    have e : ∀ j, w1.cell? ⟨g, j, none⟩ = w.cell? ⟨g, j, none⟩ := fun j => World.cell?_of_block (w := w) (a := ⟨g, j, none⟩) (hk.low g hg)
    rw [e, e, e, e, e, e]
    exact ⟨⟨p0, p1, p2⟩, p3, p4, p5⟩
  obtain ⟨W, hW, hbW, hsW, b0, b1, b2⟩ := cells_box w (.int .i64 3) (.string ⟨#[]⟩) (.slice (some ⟨g, o, none⟩) 2 cap) 24
  have HX : Hid (∀ w1, Below W.heap.size W w1 → GX w1 lo G b (fun _ => False) xs D wk ∧ Gk lo G b w w1 ∧ w1.heap[w.heap.size]? = some (.cells #[.int .i64 3, .string ⟨#[]⟩, .slice (some ⟨g, o, none⟩) 2 cap] 24 (0, 0))) := fun w1 hb => by
    have hb0 : Below w.heap.size w w1 := hbW.trans (hb.mono hbW.size)
    refine ⟨h.below hb0, Gk.of_below hb0 hlt.1, ?_⟩
    rw [hb.block _ (by omega), hW]
    exact heap_alloc_new w _
  clear hbW hsW b0 b1 b2 p0 p1 p2 p3 p4 p5
  go_enter Tryz.func41, Tryz.ntmps41
  go_upto_region 1 with fail
  rw [← hW]
  clear hW
  obtain ⟨_, _, hbx⟩ := HX.out W (Below.refl _ _)
  obtain ⟨a0, a1, a2⟩ := heap_cells hbx
  go_upto_region 2 with (first | (go_at_call 54; (with_reducible refine Calls.mono (CF _) ?_); rintro e' w1 ⟨rfl, hb1⟩))
  obtain ⟨h1, k1', hbx1⟩ := HX.out _ hb1
  obtain ⟨x0, x1, x2⟩ := heap_cells hbx1
  obtain ⟨lc, hrun, c1⟩ : ∃ lc : Int, (∀ m, (Instr.lookup 77 (.map (some b)) (.string ⟨#[]⟩) true).run Tryz.prog (w1.drewN m) = .ok (.tuple #[.int .i64 lc, .bool false]) (w1.drewN m)) ∧ w1.cell? ⟨G, 1, none⟩ = some (.map (some b)) := by
    obtain ⟨v, ns, _, hG, _⟩ := h1
    obtain ⟨lc, _, hat⟩ := hG.look [] (by simp)
    refine ⟨lc, fun m => ?_, (heap_cells hG.box).2.1⟩
    obtain ⟨lc', hr, hat'⟩ := (hG.sm (w' := w1.drewN m) ⟨rfl, rfl, rfl, rfl⟩).look [] (by simp)
    rw [hat] at hat'
    cases hat'
    rw [hD] at hr
    exact hr
  clear CF hbx a0 a1 a2
  go_quiet (fail)
  generalize hw2 : w1.drewN _ = w2
  have s2 : Sm w1 w2 := by rw [← hw2]; exact ⟨rfl, rfl, rfl, rfl⟩
  clear hw2 hrun
  have h2 := h1.sm s2
  have hbx2 : w2.heap[w.heap.size]? = some (.cells #[.int .i64 3, .string ⟨#[]⟩, .slice (some ⟨g, o, none⟩) 2 cap] 24 (0, 0)) := by rw [s2.heap]; exact hbx1
  obtain ⟨y0, y1, y2⟩ := heap_cells hbx2
  have hmk : (Instr.makeSlice 73 (.int .i64 2) (.int .i64 2)).run Tryz.prog w2 = .ok (.slice (some ⟨w2.heap.size, 0, none⟩) 2 2) (w2.alloc (.cells #[.int .i64 0, .int .i64 0] 3)) := by
    have := make_ints w2 2 (by omega)
    rw [show madeCells (Value.int .i64 0).cells 2 = #[.int .i64 0, .int .i64 0] by kernel_rfl] at this
    exact this
  go_upto_region 6 with fail
  have hza : w.heap.size < w2.heap.size := lt_of_heap hbx2
  have hb3 : Below w2.heap.size w2 (w2.alloc (.cells #[.int .i64 0, .int .i64 0] 3)) := (Below.refl _ _).alloc (Nat.le_refl _) _
  have k2' : Gk lo G b w w2 := k1'.trans (Gk.of_sm s2)
  have F0 : FnR lo G b wk w (w2.alloc (.cells #[.int .i64 0, .int .i64 0] 3)) w.heap.size w2.heap.size xs D 0 0 (.slice (some ⟨g, o, none⟩) 2 cap) := ⟨h2.fresh _, k2'.trans (Gk.of_below hb3 (by omega)), heap_alloc_new w2 _, (hb3.block _ hza).trans hbx2⟩
  clear hmk h2 hbx2 y0 y1 y2 hb3 k2' s2 h1 k1' hbx1 x0 x1 x2 c1 hb1 HX
  generalize w2.alloc (.cells #[.int .i64 0, .int .i64 0] 3) = w3 at *
  generalize w2.heap.size = za at *
  have hne : za ≠ G ∧ za ≠ b ∧ w.heap.size ≠ G ∧ w.heap.size ≠ b := by omega
  obtain ⟨y0, y1, y2⟩ := heap_cells F0.box
  go_wp2
  refine wp_loop_rounds 3 ?_
  rw [rounds_succ]
  have ROUND : Hid (∀ (j : Nat) (wr : World) (k : Int) (n : ByteArray) (ad : Option Addr) (len cp : Nat) (ys ys' : List Gx) (E E' : DataW Unit) (i : Nat) (a1 a2 : Int), FnR lo G b wk w wr w.heap.size za ys E a1 a2 (.slice (some ⟨g, o, none⟩) 2 cap) → LayP lo G b wk (.agg #[.int .i64 k, .string n, .slice ad len cp]) ys E i ys' E' → Calls Tryz.prog 41 #[.pointer (some ⟨G, 0, none⟩), .agg #[.int .i64 k, .string n, .slice ad len cp]] (wr.alloc (Obj.cells #[.int .i64 k, .string n, .slice ad len cp] 24)) fun e w' => e = .returned (.int .i64 i) ∧ FnR lo G b wk w w' w.heap.size za ys' E' a1 a2 (.slice (some ⟨g, o, none⟩) 2 cap)) := fun j wr k n ad len cp ys ys' E E' i a1 a2 hR hL => by
    have hb := (Below.refl wr.heap.size wr).alloc (Nat.le_refl _) (Obj.cells #[.int .i64 k, .string n, .slice ad len cp] 24)
    have hlo : lo ≤ wr.heap.size := by have := hR.gk.size; omega
    have hR1 := hR.next hne (Gk.of_below hb hlo) (hR.gx.below hb)
    refine Calls.mono (hL _ (fun g => g = za) (fun g e => by rw [e]; exact lt_of_heap hR1.row) hR1.gx) ?_
    rintro e w' ⟨rfl, hk, hx⟩
    exact ⟨rfl, hR1.next hne hk hx⟩
  obtain ⟨⟨q0, q1, q2⟩, _⟩ := PC.out w3 F0.gk
  have C1 := ROUND.out 0 w3 k1 n1 ad1 len1 cp1 xs xs1 D D1 i1 0 0 F0 H1
  go_upto_region 10 with (first
    | (go_at_call 41; (with_reducible refine Calls.mono C1 ?_); rintro e' w4 ⟨rfl, F1⟩; have rA := cell_row0 F1.row; have fA := heap_frozen (o := 0) F1.row))
  have F2 := F1.store (by omega) hlt.1 (by omega) 0 i1
  simp only [if_true, Nat.zero_ne_one, if_false] at F2
  generalize w4.setCell ⟨za, 0, none⟩ (.int .i64 i1) = v1 at F2 ⊢
  clear C1 F0 F1 q0 q1 q2 y0 y1 y2 rA fA
  obtain ⟨g1, cp1', m0, m1, ⟨mu, m2⟩, ⟨mg1, mg2⟩, F3⟩ := (F2.sm hne (w1 := v1.drew) ⟨rfl, rfl, rfl, rfl⟩).mark hne hi1
  have C2 := (F2.sm hne (w1 := v1.drew) ⟨rfl, rfl, rfl, rfl⟩).gx.end_self hi1 ht1
  obtain ⟨rA, _⟩ := cell_row0 F2.row
  have j1 : (0 : Int) ≤ (i1 : Int) := by omega
  have j2 : (i1 : Int) < (xs1.length : Int) := by omega
  have m0' : v1.cell? ⟨G, 0, none⟩ = some (.slice (some ⟨g1, 0, none⟩) xs1.length cp1') := m0
  have m1' : v1.frozen? ⟨g1, i1 * 6 + 4, none⟩ = false := m1
  have m2' : v1.cell? ⟨g1, i1 * 6 + 4, none⟩ = some mu := m2
  have e1 : ¬ g1 = G := mg1
  have e2 : ¬ G = g1 := fun e => mg1 e.symm
  have e3 : ¬ g1 = za := mg2
  have e4 : ¬ za = g1 := fun e => mg2 e.symm
  go_region_held3 (fun w' => w'.cell? ⟨G, 0, none⟩ = some (.slice (some ⟨g1, 0, none⟩) xs1.length cp1') ∧ w'.cell? ⟨za, 0, none⟩ = some (.int .i64 i1)) (first | exact ⟨m0', rA⟩ | exact ⟨m0, rA⟩ | assumption | go_keep) (first | (go_at_call 63; (with_reducible refine Calls.mono C2 ?_); rintro e' w5 ⟨rfl, rfl⟩))
  have F4 : FnR lo G b wk w ((v1.setCell ⟨g1, i1 * 6 + 4, none⟩ (.bool true)).drew) w.heap.size za (insX xs1 i1) D1 i1 0 (.slice (some ⟨g, o, none⟩) 2 cap) := F3
  generalize (v1.setCell ⟨g1, i1 * 6 + 4, none⟩ (.bool true)).drew = v2 at F4 ⊢
  clear F2 F3 C2 rA m0 m1 m2 m0' m1' m2' e1 e2 e3 e4 mg1 mg2 j1 j2
  obtain ⟨_, q3, q4, q5⟩ := PC.out v2 F4.gk
  have C3 := ROUND.out 1 v2 k2 n2 ad2 len2 cp2 (insX xs1 i1) xs2 D1 D2 i2 i1 0 F4 H2
  go_wp2
  rw [rounds_succ]
  go_upto_region 10 with (first
    | (go_at_call 41; (with_reducible refine Calls.mono C3 ?_); rintro e' w4 ⟨rfl, F1⟩; have rA := cell_row0 F1.row; have fA := heap_frozen (o := 1) F1.row))
  have F2 := F1.store (by omega) hlt.1 (by omega) 1 i2
  simp only [if_true, Nat.one_ne_zero, if_false] at F2
  generalize w4.setCell ⟨za, 1, none⟩ (.int .i64 i2) = v3 at F2 ⊢
  clear C3 F4 F1 q3 q4 q5 rA fA
  obtain ⟨g1, cp1', m0, m1, ⟨mu, m2⟩, ⟨mg1, mg2⟩, F3⟩ := (F2.sm hne (w1 := v3.drew) ⟨rfl, rfl, rfl, rfl⟩).mark hne hi2
  have C2 := (F2.sm hne (w1 := v3.drew) ⟨rfl, rfl, rfl, rfl⟩).gx.end_self hi2 ht2
  obtain ⟨_, rA⟩ := cell_row0 F2.row
  have j1 : (0 : Int) ≤ (i2 : Int) := by omega
  have j2 : (i2 : Int) < (xs2.length : Int) := by omega
  have m0' : v3.cell? ⟨G, 0, none⟩ = some (.slice (some ⟨g1, 0, none⟩) xs2.length cp1') := m0
  have m1' : v3.frozen? ⟨g1, i2 * 6 + 4, none⟩ = false := m1
  have m2' : v3.cell? ⟨g1, i2 * 6 + 4, none⟩ = some mu := m2
  have e1 : ¬ g1 = G := mg1
  have e2 : ¬ G = g1 := fun e => mg1 e.symm
  have e3 : ¬ g1 = za := mg2
  have e4 : ¬ za = g1 := fun e => mg2 e.symm
  go_region_held3 (fun w' => w'.cell? ⟨G, 0, none⟩ = some (.slice (some ⟨g1, 0, none⟩) xs2.length cp1') ∧ w'.cell? ⟨za, 1, none⟩ = some (.int .i64 i2)) (first | exact ⟨m0', rA⟩ | exact ⟨m0, rA⟩ | assumption | go_keep) (first | (go_at_call 63; (with_reducible refine Calls.mono C2 ?_); rintro e' w5 ⟨rfl, rfl⟩))
  have F4 : FnR lo G b wk w ((v3.setCell ⟨g1, i2 * 6 + 4, none⟩ (.bool true)).drew) w.heap.size za (insX xs2 i2) D2 i1 i2 (.slice (some ⟨g, o, none⟩) 2 cap) := F3
  generalize (v3.setCell ⟨g1, i2 * 6 + 4, none⟩ (.bool true)).drew = v4 at F4 ⊢
  clear F2 F3 C2 rA m0 m1 m2 m0' m1' m2' e1 e2 e3 e4 mg1 mg2 j1 j2 ROUND
  have hlx : (insX xs2 i2).length = xs2.length := by simp [insX]
  obtain ⟨gx, gk, row, box⟩ := F4
  obtain ⟨v, ns, hst, hG, hr⟩ := gx
  have HNL : Hid (ns.length = xs2.length) := by show _ = _; rw [← hlx, ← hst, List.length_map]
  have hnn : ns.length < 1000000 := by have := HNL.out; omega
  clear hlx
  obtain ⟨va, vc, rfl⟩ := hG.form
  obtain ⟨d0, d1, d2⟩ := heap_cells hG.box
  obtain ⟨y0, y1, y2⟩ := heap_cells box
  obtain ⟨i0, hi, hz0, hz1, hz2⟩ := info_parts Tryz.info107
  go_wp2
  rw [rounds_succ]
  go_wp2
  have FIN : Hid (∀ g' cap' w5, w5.ownsRow lo 107 6 (.slice (some ⟨g', 0, none⟩) (ns.length + 1) cap') (ns.length + 1) (ns.flatMap gnC ++ [.int .i64 3, .string ⟨#[]⟩, .slice (some ⟨za, 0, none⟩) 2 2, .int .i64 ns.length, .bool false, .int .i64 0]) → ((v4.alloc (Obj.cells #[.int .i64 3, .string ⟨#[]⟩, .slice (some ⟨za, 0, none⟩) 2 2, .int .i64 ns.length, .bool false, .int .i64 0] 107)).drew).grownBy w5 (Value.slice va ns.length vc).ownBlock → w5.heap[G]? = some (.cells #[.slice va ns.length vc, .map (some b), .int .i64 wk] 80 (0, 0)) ∧ ∃ U, U = w5.setCell ⟨G, 0, none⟩ (.slice (some ⟨g', 0, none⟩) (ns.length + 1) cap') ∧ GX U lo G b (fun _ => False) (insX xs2 i2 ++ [{ is := 3, name := [], ar := [i1, i2], tg := xs2.length, ins := false, walk := 0 }]) D2 wk ∧ Gk lo G b w U) := fun g' cap' w5 ho hg' => by
    obtain ⟨q1, U, q2, q3, q4⟩ := hG.put (n := { is := 3, name := [], ad := some ⟨za, 0, none⟩, ar := [i1, i2], tg := ns.length, ins := false, walk := 0 }) hnn (.inr ⟨za, rfl, by omega, row⟩) ho (o := Obj.cells #[.int .i64 3, .string ⟨#[]⟩, .slice (some ⟨za, 0, none⟩) 2 2, .int .i64 ns.length, .bool false, .int .i64 0] 107) ⟨hg'.os, hg'.tape, hg'.output, hg'.size, hg'.block⟩
    refine ⟨q1, U, q2, ⟨_, _, ?_, q3, fun _ _ _ g hg => hg.elim⟩, gk.trans q4⟩
    rw [List.map_append, hst]
    simp [Gn.st, HNL.out]
  have hlo3 := hG.lt.1
  have hG3 := hG.lt.2.1
  have hzl := lt_of_heap box
  have nG : ¬ G = v4.heap.size := by omega
  have nG' : ¬ v4.heap.size = G := by omega
  have nz : ¬ w.heap.size = v4.heap.size := by omega
  have nz' : ¬ v4.heap.size = w.heap.size := by omega
  have hown3 := hG.own
  clear hG gk hr hst
  go_region_law ((refine step_append_lies _ (by rfl) _ _ _ (by rfl) lo 107 i0 _ 6 72 Tryz.underlying78 hi hz0 hz1 hz2 rfl (by omega) (.slice va ns.length vc) ns.length (ns.flatMap gnC) (by rfl) ((hown3.alloc _).drew) ⟨v4.heap.size, 0, none⟩ 1 1 [.int .i64 3, .string ⟨#[]⟩, .slice (some ⟨za, 0, none⟩) 2 2, .int .i64 ns.length, .bool false, .int .i64 0] (by rfl) (by rfl) (World.news_of_block (cs := #[.int .i64 3, .string ⟨#[]⟩, .slice (some ⟨za, 0, none⟩) 2 2, .int .i64 ns.length, .bool false, .int .i64 0]) (t := 107) (fr := (0, 0)) (heap_alloc_new v4 _)) (by simp [Value.oneCell']) (by omega) (by unfold maxLen; omega) (by omega) (by simp; omega) (v4.heap.size + 1) (by simp) ?_; intro g' cap' w5 hown5 hgrow hat hlt5; obtain ⟨hG5, U, hU, hGS, hGk⟩ := FIN.out g' cap' w5 hown5 hgrow; obtain ⟨e0, e1, e2⟩ := heap_cells hG5; have fG := heap_frozen (o := 0) hG5))
  all_goals
    rw [← hU]
    clear hU hG5 e0 e1 e2 fG
    go_wp2
    go_ret
    exact ⟨by rw [← HNL.out]; rfl, hGk, hGS⟩
end Go.Proofs.YthcejnpknjepfaaGreatDoor
