/- The graph: the walk through a node that is no variable and has no arguments. -/
import Derived.Test.YthcejnpknjepfaaGreatDoorGd
namespace Go.Proofs.YthcejnpknjepfaaGreatDoor
open Go.RowKit Go.Maps

theorem wpList_append_zero {P : Program} {w : World} {ops : Array Oper} {rest : List Oper} {o : Oper} {a : Act} {Q : Exit → Act → World → Prop} (hgd : o.guard = none) (s x : Operand) (t : TypeId)
    (ho : o.op = .call { callee := .builtin .append, args := #[s, x], argTypes := #[t, t] })
    (base : Nat) (e : TypeId) (i : TypeInfo) (size : Nat) (ht : P.underlying t = some (.slice e)) (hi : P.info? e = some i)
    (v : Value) (n : Nat) (xs : List Value) (hs : a.eval s = v) (hown : w.ownsRow base e size v n xs) (ad : Option Addr) (c : Nat) (hx : a.eval x = .slice ad 0 c)
    (h : wpList P ops Q rest (a.put o.dst v) w) : wpList P ops Q (o :: rest) a w := by
  refine wpList_plain hgd fun K hK => ?_
  have hrun := run_append_zero (P := P) (w := w) base t o.type e i size ht hi v n xs hown ad c
  unfold Oper.wp
  simp [execOp, ho, resolve, invoke, builtin, hs, hx, hrun, Result.andThen]
  exact hK _ _ h
/-- One more walk. -/
theorem GX.walks {w : World} {lo G b wk : Nat} {R : Nat → Prop} {xs : List Gx} {D : DataW Unit} (h : GX w lo G b R xs D wk) : w.cell? ⟨G, 2, none⟩ = some (.int .i64 wk) ∧ w.frozen? ⟨G, 2, none⟩ = false ∧ GX (w.setCell ⟨G, 2, none⟩ (.int .i64 (wk + 1 : Nat))) lo G b R xs D (wk + 1) ∧ Gk lo G b w (w.setCell ⟨G, 2, none⟩ (.int .i64 (wk + 1 : Nat))) := by
  obtain ⟨v, ns, e, h, hr⟩ := h
  have hoth : ∀ k, k ≠ G → (w.setCell ⟨G, 2, none⟩ (.int .i64 (wk + 1 : Nat))).heap[k]? = w.heap[k]? := fun k hk => Below.heap_setCell _ _ _ _ hk
  refine ⟨(heap_cells h.box).2.2, heap_frozen h.box, ⟨v, ns, e, ⟨(setCell_block h.box).trans rfl, own_keep h.own fun k hk => hoth k (fun e => ?_), h.map.setCell (fun e => ?_) _, h.msz, fun n hn => ?_, h.loG, h.lob, h.num⟩, hr⟩, ⟨rfl, rfl, rfl, by simp [World.setCell], fun k hk => hoth k (by have := h.loG; omega), fun k o h1 h2 _ _ => (hoth k h2).trans h1⟩⟩
  · rcases h.own.2 with ⟨h0, _⟩ | ⟨g', cap', cur, hv, _, hh, _⟩
    · rw [h0] at hk; cases hk
    · rw [hv] at hk
      cases hk
      have e : g' = G := e
      rw [e, h.box] at hh
      exact absurd (cells_ty hh) (by decide)
  · obtain ⟨es, clock, hbm, _⟩ := h.map
    have e : b = G := e
    rw [e, h.box] at hbm
    cases hbm
  · rcases h.arg n hn with h1 | ⟨g, h1, h2, h3⟩
    · exact .inl h1
    · exact .inr ⟨g, h1, h2, by rw [hoth g (fun e => by rw [e, h.box] at h3; exact absurd (cells_ty h3) (by decide))]; exact h3⟩
theorem slice_block {g g' n n' c c' : Nat} (h : some (Value.slice (some ⟨g, 0, none⟩) n c) = some (.slice (some ⟨g', 0, none⟩) n' c')) : g = g' := by
  simp only [Option.some.injEq, Value.slice.injEq, Addr.mk.injEq, and_true] at h
  exact h.1
def walkX (xs : List Gx) (i wk : Nat) : List Gx := xs.modify i fun x => { x with walk := wk }
def toX (xs : List Gx) (i m : Nat) : List Gx := xs.modify i fun x => { x with tg := m }
/-- The cells of a node, and what its walk and its way turn. -/
theorem GX.at {w : World} {lo G b wk : Nat} {R : Nat → Prop} {xs : List Gx} {D : DataW Unit} (h : GX w lo G b R xs D wk) {i : Nat} (hi : i < xs.length) : ∃ g cap ad, w.cell? ⟨G, 0, none⟩ = some (.slice (some ⟨g, 0, none⟩) xs.length cap) ∧ w.cell? ⟨G, 1, none⟩ = some (.map (some b)) ∧ g ≠ G ∧ (∀ j, w.frozen? ⟨g, j, none⟩ = false) ∧
    (w.cell? ⟨g, i * 6, none⟩ = some (.int .i64 xs[i].is) ∧ w.cell? ⟨g, i * 6 + 1, none⟩ = some (.string ⟨xs[i].name.toArray⟩) ∧ w.cell? ⟨g, i * 6 + 2, none⟩ = some (.slice ad xs[i].ar.length xs[i].ar.length) ∧ w.cell? ⟨g, i * 6 + 3, none⟩ = some (.int .i64 xs[i].tg) ∧ w.cell? ⟨g, i * 6 + 4, none⟩ = some (.bool xs[i].ins) ∧ w.cell? ⟨g, i * 6 + 5, none⟩ = some (.int .i64 xs[i].walk)) ∧
    (∀ m : Nat, GX (w.setCell ⟨g, i * 6 + 5, none⟩ (.int .i64 m)) lo G b R (walkX xs i m) D wk ∧ Gk lo G b w (w.setCell ⟨g, i * 6 + 5, none⟩ (.int .i64 m))) ∧
    (∀ m : Nat, GX (w.setCell ⟨g, i * 6 + 3, none⟩ (.int .i64 m)) lo G b R (toX xs i m) D wk ∧ Gk lo G b w (w.setCell ⟨g, i * 6 + 3, none⟩ (.int .i64 m))) := by
  obtain ⟨v, ns, rfl, hG, hr⟩ := h
  rw [List.length_map] at hi
  obtain ⟨g, cap, hv, _, _, ⟨cur, hcur⟩, ⟨c0, c1, _⟩, hn, hfr⟩ := hG.cells hi
  have hmod : ∀ (f : Gn → Gn) (f' : Gx → Gx), (∀ n, (f n).st = f' n.st) → (ns.set i (f ns[i])).map Gn.st = (ns.map Gn.st).modify i f' := fun f f' hf => by
    apply List.ext_getElem?
    intro j
    rw [List.getElem?_map, List.getElem?_set, List.getElem?_modify, List.getElem?_map]
    by_cases hj : i = j
    · subst hj
      simp [hi, hf]
    · simp [hj]
  have hmem : ∀ (n' : Gn), (n'.ar = ns[i].ar ∧ n'.ad = ns[i].ad) → ∀ n ∈ ns.set i n', n.ar ≠ [] → ∀ g, R g → n.ad ≠ some ⟨g, 0, none⟩ := fun n' hn' n hn => by
    rcases List.mem_or_eq_of_mem_set hn with hn | hn
    · exact hr n hn
    · rw [hn, hn'.1, hn'.2]
      exact hr _ (List.getElem_mem hi)
  refine ⟨g, cap, ns[i].ad, by rw [List.length_map]; exact c0, c1, fun e => by
    have := hG.box
    rw [← e, hcur] at this
    exact absurd (cells_ty this) (by decide), hfr, ?_, fun m => ?_, fun m => ?_⟩
  · simpa [Gn.st] using hn
  · obtain ⟨g', cap', hv', h1, h2⟩ := hG.node hi { ns[i] with walk := m } ⟨rfl, rfl⟩ (j := 5) (by omega) (u := .int .i64 m) rfl
    rw [hv] at hv'
    cases hv'
    exact ⟨⟨v, _, hmod (fun n => { n with walk := m }) _ (fun _ => rfl), h1, hmem _ ⟨rfl, rfl⟩⟩, h2⟩
  · obtain ⟨g', cap', hv', h1, h2⟩ := hG.node hi { ns[i] with tg := m } ⟨rfl, rfl⟩ (j := 3) (by omega) (u := .int .i64 m) rfl
    rw [hv] at hv'
    cases hv'
    exact ⟨⟨v, _, hmod (fun n => { n with tg := m }) _ (fun _ => rfl), h1, hmem _ ⟨rfl, rfl⟩⟩, h2⟩
set_option maxHeartbeats 16000000 in
set_option maxRecDepth 10000 in
/-- The iterator, at a node that is no variable and has no arguments: nothing is yielded. -/
theorem iter_none {lo G b wk : Nat} {xs : List Gx} {D : DataW Unit} (i : Nat) (hi : i < xs.length) (ht : xs[i].tg = i) (his : xs[i].is ≠ 2) (har : xs[i].ar = []) (hwk : xs[i].walk ≤ wk) (hwm : wk < 1000000) (y : Value) (pg pn : Nat) (w : World) (h : GX w lo G b (fun _ => False) xs D wk) (hpg : w.cell? ⟨pg, 0, none⟩ = some (.pointer (some ⟨G, 0, none⟩)))
    (hkp : ∀ w', Gk lo G b w w' → w'.cell? ⟨pg, 0, none⟩ = some (.pointer (some ⟨G, 0, none⟩)) ∧ w'.cell? ⟨pn, 0, none⟩ = some (.int .i64 i)) :
    Calls Tryz.prog 99 #[y, .pointer (some ⟨pg, 0, none⟩), .pointer (some ⟨pn, 0, none⟩)] w fun e w' => e = .returned (.tuple #[]) ∧ Gk lo G b w w' ∧ GX w' lo G b (fun _ => False) (walkX xs i (wk + 1)) D (wk + 1) := by
  obtain ⟨c2, f2, h1, k1⟩ := h.walks
  have hlt : lo ≤ w.heap.size := by
    obtain ⟨v, ns, _, hG, _⟩ := h
    exact hG.lt.1
  obtain ⟨hpg1, hpn1⟩ := hkp _ k1
  have hcw : ((wk + 1 : Nat) : Int) = (wk : Int) + 1 := by omega
  rw [hcw] at h1 k1 hpg1 hpn1
  go_enter Tryz.func99, Tryz.ntmps99
  go_wp2
  obtain ⟨v0, hv0⟩ : ∃ v0, v0 = w.setCell ⟨G, 2, none⟩ (.int .i64 ((wk : Int) + 1)) := ⟨_, rfl⟩
  have hsz0 : v0.heap.size = w.heap.size := by rw [hv0]; simp [World.setCell]
  rw [← hv0] at h1 k1 hpg1 hpn1 ⊢
  have hb1 := (Below.refl v0.heap.size v0).alloc (Nat.le_refl _) (Obj.cells #[.int .i64 i] 3)
  have k2 : Gk lo G b w (v0.alloc (Obj.cells #[.int .i64 i] 3)) := k1.trans (Gk.of_below hb1 (by omega))
  have h2 := h1.below hb1
  have o2 := World.ownsRow_lit (base := w.heap.size) (e := 3) (size := 1) v0 #[.int .i64 i] 1 (by omega) (by decide) rfl
  have r2 : (v0.alloc (Obj.cells #[.int .i64 i] 3)).cell? ⟨v0.heap.size, 0, none⟩ = some (.int .i64 i) := by
    have := heap_alloc_new v0 (Obj.cells #[.int .i64 i] 3)
    simp only [World.cell?, this]
    rfl
  clear hb1 h1 k1 hv0 c2 f2 hpg1 hpn1 hpg h
  rw [hsz0] at r2 o2
  clear hsz0
  generalize v0.alloc (Obj.cells #[.int .i64 i] 3) = v1 at *
  obtain ⟨hpg1, hpn1⟩ := hkp _ k2
  obtain ⟨g, cap, ad, c0, c1, hgG, hfr, ⟨n0, n1, n2, n3, n4, n5⟩, hW, _⟩ := h2.at hi
  obtain ⟨c2, _⟩ := h2.walks
  rw [har] at n2
  have C1 := (h2.sm (w' := v1.drew) ⟨rfl, rfl, rfl, rfl⟩).end_self hi ht
  have hlen : xs.length ≤ 1000000 := by
    obtain ⟨v, ns, e, hG, _⟩ := h2
    rw [← e, List.length_map]
    exact hG.num
  have j1 : (0 : Int) ≤ (i : Int) := by omega
  have j2 : (i : Int) < (xs.length : Int) := by omega
  have hwn : ¬ (xs[i].walk : Int) = (wk : Int) + 1 := by omega
  have hwn2 : ((xs[i].walk : Int) == (wk : Int) + 1) = false := by simp; omega
  have his2 : (xs[i].is == 2) = false := by simpa using his
  have f5 := hfr (i * 6 + 5)
  have c2' : v1.cell? ⟨G, 2, none⟩ = some (.int .i64 ((wk : Int) + 1)) := by rw [c2]; simp
  obtain ⟨hW1, hW2⟩ := hW (wk + 1)
  rw [show ((wk + 1 : Nat) : Int) = (wk : Int) + 1 by omega] at hW1 hW2
  obtain ⟨hpg2, hpn2⟩ := hkp _ (k2.trans hW2)
  clear n1 n3 n4 c1 hfr hW c2
  refine wp_loop_rounds 2 ?_
  rw [rounds_succ]
  go_wp2
  go_region_held3 (fun w' => w'.cell? ⟨pg, 0, none⟩ = some (.pointer (some ⟨G, 0, none⟩)) ∧ w'.cell? ⟨w.heap.size, 0, none⟩ = some (.int .i64 i)) (first | exact ⟨hpg1, r2⟩ | assumption | go_keep) (first | (go_at_call 63; (with_reducible refine Calls.mono C1 ?_); rintro e' w5 ⟨rfl, rfl⟩))
  go_wp2
  go_quiet (fail)
  generalize hv2 : World.drewN _ _ = v2
  have s2 : Sm v1 v2 := by rw [← hv2]; exact ⟨rfl, rfl, rfl, rfl⟩
  have HC0 : Hid (v1.cell? ⟨G, 0, none⟩ = some (.slice (some ⟨g, 0, none⟩) xs.length cap)) := c0
  clear hv2 c0 c2' n0 n2 n5 f5 hW1 hW2 hpg2 hpn2 hpg1 hpn1 r2
  have h3 := h2.sm s2
  have k3 := k2.trans (Gk.of_sm s2)
  have o3 : v2.ownsRow w.heap.size 3 1 (.slice (some ⟨w.heap.size, 0, none⟩) 0 1) 0 [] := by
    rcases o2.2 with ⟨h0, _⟩ | ⟨g', cap', cur, hv, hb, hh, hc, hm, hs, _⟩
    · cases h0
    · cases hv
      exact ⟨rfl, .inr ⟨w.heap.size, 1, cur, rfl, hb, by rw [s2.heap]; exact hh, by omega, hm, hs, by simp⟩⟩
  obtain ⟨hpg1, hpn1⟩ := hkp _ k3
  obtain ⟨g', cap', ad', c0, c1, hgG', hfr, ⟨n0, n1, n2, n3, n4, n5⟩, hW, _⟩ := h3.at hi
  obtain ⟨c2, _⟩ := h3.walks
  rw [har] at n2
  have c2' : v2.cell? ⟨G, 2, none⟩ = some (.int .i64 ((wk : Int) + 1)) := by rw [c2]; simp
  have f5 := hfr (i * 6 + 5)
  have hgg : g' = g := by
    have e : v2.cell? ⟨G, 0, none⟩ = v1.cell? ⟨G, 0, none⟩ := World.cell?_of_block (w := v1) (by rw [s2.heap])
    rw [e, HC0.out] at c0
    cases c0
    rfl
  subst hgg
  obtain ⟨hW1, hW2⟩ := hW (wk + 1)
  rw [show ((wk + 1 : Nat) : Int) = (wk : Int) + 1 by omega] at hW1 hW2
  have k4 := k3.trans hW2
  obtain ⟨hpg2, hpn2⟩ := hkp _ k4
  have hi4 : i < (walkX xs i (wk + 1)).length := by simpa [walkX] using hi
  have hx4 : (walkX xs i (wk + 1))[i].is = xs[i].is ∧ (walkX xs i (wk + 1))[i].ar = [] := by simp [walkX, har]
  obtain ⟨g4, cap4, ad4, e0, _, _, _, ⟨m0, _, m2, _⟩, _⟩ := hW1.at hi4
  rw [hx4.1] at m0
  rw [hx4.2] at m2
  have hg4 : g4 = g' := by
    have e : (v2.setCell ⟨g', i * 6 + 5, none⟩ (.int .i64 ((wk : Int) + 1))).cell? ⟨G, 0, none⟩ = v2.cell? ⟨G, 0, none⟩ := World.cell?_of_block (w := v2) (Below.heap_setCell _ _ _ _ (fun e => hgG' e.symm))
    rw [e, c0] at e0
    exact (slice_block e0).symm
  subst hg4
  have o4 : (v2.setCell ⟨g4, i * 6 + 5, none⟩ (.int .i64 ((wk : Int) + 1))).ownsRow w.heap.size 3 1 (.slice (some ⟨w.heap.size, 0, none⟩) 0 1) 0 [] := own_keep o3 fun k hk => by
    cases hk
    refine Below.heap_setCell _ _ _ _ (fun e => ?_)
    have e : w.heap.size = g4 := e
    rcases o3.2 with ⟨h0, _⟩ | ⟨_, _, cur, hv, _, hh, _⟩
    · cases h0
    · cases hv
      obtain ⟨v, ns, e', hG, _⟩ := h3
      obtain ⟨g5, _, hv5, _, _, ⟨cur5, hc5⟩, ⟨d0, _⟩, _⟩ := hG.cells (i := i) (by rw [← e'] at hi; simpa using hi)
      rw [c0] at d0
      rw [← slice_block d0, ← e, hh] at hc5
      exact absurd (cells_ty hc5) (by decide)
  obtain ⟨i0, hin, _, _, _⟩ := info_parts Tryz.info3
  clear hW h2 h3 k2 k3 hW2 o2 o3 C1 n1 n3 n4 c1 hfr
  go_upto_region 9 with fail
  generalize v2.setCell ⟨g4, i * 6 + 5, none⟩ (.int .i64 ((wk : Int) + 1)) = v3 at *
  clear c0 n0 n2 n5 f5 c2 c2' hpg1 hpn1
  go_wp2_with (at_builtin; refine wpList_append_zero rfl _ _ 73 rfl w.heap.size 3 i0 1 Tryz.underlying73 hin (.slice (some ⟨w.heap.size, 0, none⟩) 0 1) 0 [] rfl o4 ad4 0 rfl ?_)
  rw [rounds_succ]
  go_wp2
  go_end0
  exact ⟨rfl, k4, hW1⟩
end Go.Proofs.YthcejnpknjepfaaGreatDoor
