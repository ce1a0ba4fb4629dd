/- The graph: the iterator variablesIn. -/
import Derived.Test.YtikpipenhamdbaaGreatHf
import Derived.Sort.LoopGhostIn
import Derived.Sort.CutIn
namespace Go.Proofs.YtikpipenhamdbaaGreat
open Go.RowKit Go.Maps Go.Shelf
attribute [local go_sem] Oper.semAt_some

/-- A block that is no node's and no row of the graph has turned. -/
theorem GX.grown {w w' : World} {lo G b wk : Nat} {R : Nat → Prop} {xs : List Gx} {D : DataW Unit} (h : GX w lo G b R xs D wk) {row : Option Nat} (hg : w.grownBy w' row) (hr : ∀ g, row = some g → R g ∧ ∃ c, w.heap[g]? = some (.cells c 3 (0, 0))) : GX w' lo G b R xs D wk := by
 obtain ⟨v, ns, e, h, hR⟩ := h
 have hc : ∀ (j : Nat) (c : Array Value) (t : TypeId) (fz : Nat × Nat), w.heap[j]? = some (Obj.cells c t fz) → t ≠ 3 → w'.heap[j]? = some (Obj.cells c t fz) := fun j c t fz hj ht => by
  rw [hg.block j (lt_of_heap hj) (fun e => by
   obtain ⟨_, c', h'⟩ := hr j e.symm
   rw [hj] at h'
   exact ht (cells_ty h'))]
  exact hj
 refine ⟨v, ns, e, ⟨hc _ _ _ _ h.box (by decide), own_keep h.own fun j hj => ?_, h.map.kept hg (fun e => ?_), h.msz, fun n hn => ?_, h.loG, h.lob, h.num⟩, hR⟩
 ·rcases h.own.2 with ⟨h0, _⟩ | ⟨g', cap', cur, hv, _, hh, _⟩
  ·rw [h0] at hj; cases hj
  ·rw [hv] at hj
   cases hj
   exact (hc _ _ _ _ hh (by decide)).trans hh.symm
 ·obtain ⟨_, c', h'⟩ := hr b e.symm
  obtain ⟨es, clock, hb, _⟩ := h.map
  rw [hb] at h'
  cases h'
 ·by_cases h0 : n.ar = []
  ·exact .inl h0
  ·rcases h.arg n hn with q1 | ⟨g, q1, q2, q3⟩
   ·exact .inl q1
   ·refine .inr ⟨g, q1, q2, ?_⟩
    rw [hg.block g (lt_of_heap q3) (fun e => hR n hn h0 g (hr g e.symm).1 q1)]
    exact q3
/-- A row of numbers without its last. -/
theorem ints_but {w : World} {base g m cap : Nat} {es : List Nat} (h : w.ownsRow base 3 1 (.slice (some ⟨g, 0, none⟩) (m + 1) cap) (m + 1) (es.map fun (x : Nat) => Value.int .i64 x)) : w.ownsRow base 3 1 (.slice (some ⟨g, 0, none⟩) m cap) m ((es.take m).map fun (x : Nat) => Value.int .i64 x) := by
 have hl := h.1
 rw [List.length_map] at hl
 refine ⟨by rw [List.length_map, List.length_take]; omega, ?_⟩
 rcases h.2 with ⟨h0, _⟩ | ⟨g', cap', cur, hv, hb, hh, hc, hm, hs, ht⟩
 ·cases h0
 ·simp only [Value.slice.injEq, Option.some.injEq, Addr.mk.injEq, and_true] at hv
  obtain ⟨e1, _, e3⟩ := hv
  subst e1
  subst e3
  refine .inr ⟨g, cap, cur, rfl, hb, hh, by omega, hm, hs, ?_⟩
  have := congrArg (List.take (m * 1)) ht
  rw [List.take_take, Nat.min_eq_left (by omega)] at this
  rw [this, ← List.map_take, Nat.mul_one]
theorem sumU_le (ar : Nat → List Nat) (mk : Nat → Bool) (h : ∀ i, (ar i).length ≤ 6) : ∀ n, sumU ar mk n ≤ 7 * n
 | 0 => Nat.le_refl _
 | n + 1 => by
  have := sumU_le ar mk h n
  have := h n
  show sumU ar mk n + (if mk n then 0 else (ar n).length + 1) ≤ _
  split <;> omega
theorem Kq.gj {B lo G b : Nat} {w w' : World} (h : Kq B w w') (hlo : lo ≤ B) (hB : B ≤ w.heap.size) : Gj B lo G b w w' :=
 ⟨h.os, h.tape, h.output, h.size, fun k hk => by
  have hk' : k < w.heap.size := by omega
  rw [h.same k _ (Array.getElem?_eq_getElem hk') (.inl (by omega)), Array.getElem?_eq_getElem hk'], fun k o h0 h1 _ _ _ => h.same k o h1 (.inl h0)⟩
theorem walkX_eq (xs : List Gx) {i : Nat} (hi : i < xs.length) (t : Nat) : (walkX xs i t).length = xs.length ∧ lbX (walkX xs i t) = lbX xs ∧ arX (walkX xs i t) = arX xs ∧ tgX (walkX xs i t) = tgX xs ∧ inX (walkX xs i t) = inX xs ∧ wkX (walkX xs i t) = putN (wkX xs) i t := by
 have key := getD_mod xs (fun x => { x with walk := t }) hi
 refine ⟨by simp [walkX], ?_, ?_, ?_, ?_, ?_⟩ <;> (funext j; simp only [walkX, lbX, arX, inX, wkX, tgX, putN, key]; split <;> rfl)
/-- Between the rounds of the walk. -/
structure WkS (B lo G b wk : Nat) (R : Nat → Prop) (xs : List Gx) (D : DataW Unit) (dn : Nat → List Nd) (rt rk : Nat → Nat) (m v : Nat) (J : World → Prop) (W wr : World) (rv : Value) (rs : List Nat) (ys : List Gx) : Prop where
 gx : GX wr lo G b (fun g => W.heap.size ≤ g ∨ R g) ys D (wk + 1)
 den : DenX ys dn rt rk
 len : ys.length = xs.length
 lb : lbX ys = lbX xs
 ar : arX ys = arX xs
 ins : inX ys = inX xs
 wm : ∀ i, wkX ys i ≤ wk + 1
 wk : Wk xs.length (lbX xs) (arX xs) dn rt m v (fun i => decide (wkX ys i = wk + 1)) rs
 own : wr.ownsRow W.heap.size 3 1 rv rs.length (rs.reverse.map fun (x : Nat) => Value.int .i64 x)
 j : J wr
 gj : Gj B lo G b W wr
theorem wpListIn_append_ints {F : Fence} {n : Nat} {P : Program} (w : World) {ops : Array Oper} {rest : List Oper} {o : Oper} {a : Act} {Q : Exit → Act → World → Prop}
  (hg : o.guard = none) (s x : Operand) (t : TypeId) (hop : o.op = Op.call { callee := Callee.builtin Builtin.append, args := #[s, x], argTypes := #[t, t] })
  (base : Nat) (e : TypeId) (i : TypeInfo) (z : Value) (bytes : Nat) (h1 : P.underlying t = some (.slice e)) (h2 : P.info? e = some i) (h3 : i.zero = some z) (h4 : i.size = 1) (h5 : i.bytes = bytes) (h6 : z.cells.size = 1)
  (v : Value) (k : Nat) (xs : List Value) (hs : a.eval s = v) (hown : w.ownsRow base e 1 v k xs) (ad : Option Addr) (m c : Nat) (news : List Value) (hx : a.eval x = .slice ad m c) (hn : news.length = m)
  (hsrc : m = 0 ∨ ∃ p, ad = some p ∧ ∀ j u, news[j]? = some u → w.cell? (p.add j) = some u) (h1c : ∀ u ∈ news, u.oneCell' = true) (b1 : k + m ≤ maxLen) (b2 : (k + m) * bytes ≤ 140737488355328) (b3 : base ≤ w.heap.size)
  (hK : ∀ v' w', w'.ownsRow base e 1 v' (k + m) (xs ++ news) → w.grownBy w' v.ownBlock → wpListIn F n P ops Q rest (a.put o.dst v') w') :
  wpListIn F n P ops Q (o :: rest) a w := by
 by_cases h0 : m = 0
 ·subst h0
  have : news = [] := List.length_eq_zero_iff.1 hn
  subst this
  refine wpListIn_plain hg fun K hK' => ?_
  have hrun := run_append_zero (P := P) (w := w) base t o.type e i 1 h1 h2 v k xs hown ad c
  unfold Oper.wpIn
  refine ⟨?_, ?_⟩
  ·simp [Oper.about, hop, resolve, Target.leads, Sem.run_pure]
  ·rw [Oper.semAt_plain F _ _ (by rw [hop]; intro c hc'; cases hc')]
   simp [execOp, hop, resolve, invoke, builtin, hs, hx, hrun, Result.andThen]
   exact hK' _ _ (hK v w (by simpa using hown) ⟨rfl, rfl, rfl, Nat.le_refl _, fun _ _ _ => rfl⟩)
 ·obtain ⟨p, rfl, hc⟩ := hsrc.resolve_left h0
  exact wpListIn_append_own w hg s x t hop base e i z 1 bytes h1 h2 h3 h4 h5 h6 (by omega) v k xs hs hown p m c news hx (by omega) hc h1c b1 b2 b3 fun v' w' r1 r2 _ => hK v' w' r1 r2
/-- The row of a node's arguments. -/
theorem GX.args {w : World} {lo G b wk : Nat} {R : Nat → Prop} {xs : List Gx} {D : DataW Unit} (h : GX w lo G b R xs D wk) {i : Nat} (hi : i < xs.length) {g cap : Nat} (c0 : w.cell? ⟨G, 0, none⟩ = some (.slice (some ⟨g, 0, none⟩) xs.length cap)) :
  w.cell? ⟨g, i * 6, none⟩ = some (.int .i64 (lbX xs i).1) ∧ ∃ ad, w.cell? ⟨g, i * 6 + 2, none⟩ = some (.slice ad (arX xs i).length (arX xs i).length) ∧ ((arX xs i).length = 0 ∨ ∃ p, ad = some p ∧ ∀ j u, ((arX xs i).map fun (x : Nat) => Value.int .i64 x)[j]? = some u → w.cell? (p.add j) = some u) := by
 have e0 : xs[i].is = (lbX xs i).1 := by unfold lbX; rw [getD_at hi]
 have e2 : xs[i].ar = arX xs i := by unfold arX; rw [getD_at hi]
 rw [← e0, ← e2]
 obtain ⟨v, ns, rfl, hG, hr⟩ := h
 have hi' : i < ns.length := by simpa using hi
 rw [List.length_map] at c0
 obtain ⟨g', cap', hv, _, _, _, ⟨c0', _, _⟩, ⟨n0, n1, n2, n3, n4, n5⟩, _⟩ := hG.cells hi'
 rw [c0] at c0'
 have eg := slice_block c0'
 subst eg
 have ea : (ns.map Gn.st)[i].ar = ns[i].ar := by simp [Gn.st]
 have ei : (ns.map Gn.st)[i].is = ns[i].is := by simp [Gn.st]
 rw [ea, ei]
 refine ⟨n0, ns[i].ad, n2, ?_⟩
 rcases hG.arg ns[i] (List.getElem_mem hi') with q | ⟨g2, q1, _, q3⟩
 ·exact .inl (by rw [q]; rfl)
 ·refine .inr ⟨_, q1, fun j u hu => ?_⟩
  have ha : (⟨g2, 0, none⟩ : Addr).add j = ⟨g2, j, none⟩ := by cases j <;> simp [Addr.add]
  rw [ha]
  simp only [World.cell?, q3]
  simpa using hu
/-- end has been asked. -/
theorem WkS.ended {B lo G b wk : Nat} {R : Nat → Prop} {xs : List Gx} {D : DataW Unit} {dn : Nat → List Nd} {rt rk : Nat → Nat} {m v : Nat} {J : World → Prop} {W wr w1 w' : World} {rv : Value} {rs : List Nat} {ys : List Gx} (hJ : ∀ A C, J A → Gj W.heap.size lo G b A C → J C) (h : WkS B lo G b wk R xs D dn rt rk m v J W wr rv rs ys) (s : Sm wr w1) (e : Ended lo G b (wk + 1) (fun g => W.heap.size ≤ g ∨ R g) ys D dn rt rk w1 w') :
  ∃ zs, WkS B lo G b wk R xs D dn rt rk m v J W w' rv rs zs ∧ wkX zs = wkX ys := by
 obtain ⟨⟨zs, e1, e2, e3⟩, e4, e5, e6⟩ := e
 have hgk := (Gk.of_sm (lo := lo) (G := G) (b := b) s).trans e4
 refine ⟨zs, ⟨e3, e2, e1.len.trans h.len, e1.lb.trans h.lb, e1.ar.trans h.ar, e1.ins.trans h.ins, by rw [e1.wk]; exact h.wm, by rw [e1.wk]; exact h.wk, ?_, hJ _ _ h.j (hgk.gj _), h.gj.trans (hgk.gj _)⟩, e1.wk⟩
 refine own_keep h.own fun j hj => ?_
 rw [e5 j fun c fz q => ?_, s.heap]
 rcases h.own.2 with ⟨h0, _⟩ | ⟨g', cap', cur, hv, _, hh, _⟩
 ·rw [h0] at hj; cases hj
 ·rw [hv] at hj
  cases hj
  rw [s.heap, hh] at q
  exact absurd (cells_ty q) (by decide)
set_option maxHeartbeats 16000000 in
set_option maxRecDepth 100000 in
theorem walk_in {lo G b wk : Nat} {R : Nat → Prop} {xs : List Gx} {D : DataW Unit} {dn : Nat → List Nd} {rt rk : Nat → Nat} {L : List (List UInt8 × List Nd)} (hM : Mn wk xs D dn rt rk L) (hwm : wk < 200000000) (m v : Nat) (hm : m < xs.length) (hv : v < xs.length) (hv2 : (lbX xs v).1 = 2)
  (B k l pg pn : Nat) (J Jx : World → Prop) (W : World) (hJ : ∀ A C, J A → Gj W.heap.size lo G b A C → J C)
  (hY : ∀ (x : Nat) W1, J W1 → YieldAt Fence.wide (k - 1) Tryz.prog l #[.int .i64 x] W1 fun e W' => (e = .returned (.bool true) ∧ J W' ∧ Kq B W1 W' ∧ x ≠ v) ∨ (e = .returned (.bool false) ∧ ¬ x ≠ v ∧ Jx W'))
  (h : GX W lo G b R xs D wk) (hj : J W) (zg : W.heap[pg]? = some (.cells #[.pointer (some ⟨G, 0, none⟩)] 89 (0, 0))) (zn : W.heap[pn]? = some (.cells #[.int .i64 m] 3 (0, 0))) (hne : pg ≠ G ∧ pg ≠ b ∧ pn ≠ G ∧ pn ≠ b) (hpgB : pg < B) (hBW : B ≤ W.heap.size) (hloB : lo ≤ B) :
  CallsIn Fence.wide k Tryz.prog 87 #[.func (.yield l) #[] #[], .pointer (some ⟨pg, 0, none⟩), .pointer (some ⟨pn, 0, none⟩)] W fun e W' => (∃ u, e = .returned u) ∧
   (((∃ ys, GX W' lo G b R ys D (wk + 1) ∧ DenX ys dn rt rk ∧ ys.length = xs.length ∧ lbX ys = lbX xs ∧ arX ys = arX xs ∧ inX ys = inX xs ∧ (∀ i, wkX ys i ≤ wk + 1) ∧ ((2, (lbX xs v).2, 0) : Nd) ∉ dn m) ∧ J W') ∨ (((2, (lbX xs v).2, 0) : Nd) ∈ dn m ∧ Jx W')) := by
 have hdd : ∀ k : Nat, (Fence.wide.depth.isSome = true → 1 ≤ k) := fun k h => by cases h
 obtain ⟨c2, f2, h1, k1⟩ := h.walks
 have hlt := h.num
 have hcw : ((wk + 1 : Nat) : Int) = (wk : Int) + 1 := by omega
 rw [hcw] at h1 k1
 have hpg : W.cell? ⟨pg, 0, none⟩ = some (.pointer (some ⟨G, 0, none⟩)) := by simp only [World.cell?, zg]; rfl
 have zn1 := k1.keep _ _ zn hne.2.2.1 hne.2.2.2 (by intro c fz e; exact absurd (cells_ty (congrArg some e)) (by decide))
 have hpn : (W.setCell ⟨G, 2, none⟩ (.int .i64 ((wk : Int) + 1))).cell? ⟨pn, 0, none⟩ = some (.int .i64 m) := by simp only [World.cell?, zn1]; rfl
 obtain ⟨v0, hv0⟩ : ∃ v0, v0 = W.setCell ⟨G, 2, none⟩ (.int .i64 ((wk : Int) + 1)) := ⟨_, rfl⟩
 have hsz0 : v0.heap.size = W.heap.size := by rw [hv0]; simp [World.setCell]
 have HST : Hid (∀ xs' : List Gx, xs' = xs → WkS B lo G b wk R xs D dn rt rk m v J W (v0.alloc (Obj.cells #[.int .i64 m] 3)) (.slice (some ⟨W.heap.size, 0, none⟩) 1 1) [m] xs) := fun xs' _ => by
  rw [← hv0] at h1 k1
  have hb1 := (Below.refl v0.heap.size v0).alloc (Nat.le_refl _) (Obj.cells #[.int .i64 m] 3)
  have hk2 := k1.trans (Gk.of_below hb1 (by omega))
  have o2 := World.ownsRow_lit (base := W.heap.size) (e := 3) (size := 1) v0 #[.int .i64 m] 1 (by omega) (by decide) rfl
  rw [hsz0] at o2
  refine ⟨?_, hM.den, rfl, rfl, rfl, rfl, fun i => by have := hM.wm i; omega, ?_, o2, hJ _ _ hj (hk2.gj _), hk2.gj _⟩
  ·obtain ⟨v', ns, e, hG, hr⟩ := h1
   refine ⟨v', ns, e, hG.below hb1, fun n hn h0 g hg => ?_⟩
   rcases hg with hg | hg
   ·intro e2
    rcases hG.arg n hn with q | ⟨g', q1, _, q3⟩
    ·exact h0 q
    ·rw [q1] at e2
     have e2 : g' = g := by cases e2; rfl
     have := lt_of_heap q3
     omega
   ·exact hr n hn h0 g hg
  ·have := Wk.begin (n := xs.length) (lb := lbX xs) (ar := arX xs) (dn := dn) (rt := rt) (v := v) hm
   rw [show (fun i => decide (wkX xs i = wk + 1)) = fun _ => false from funext fun i => by have := hM.wm i; simp; omega]
   exact this
 have hN := hlt.1
 clear h1 k1 hlt hj h zn1
 refine callsIn_of_wp Tryz.func87 rfl trivial ?_ rfl
 simp only [Tryz.ntmps87, List.size_toArray, List.length_cons, List.length_nil, Nat.reduceAdd, Nat.reduceSub, Array.replicate_succ, Array.replicate_zero, List.push_toArray, List.append_toArray, List.nil_append, List.cons_append]
 gi_wp2
 rw [← hv0]
 have HV2 : Hid ((lbX xs v).1 = 2) := hv2
 clear hv0 hsz0 hpg hpn c2 f2 hv2
 gi_loopg [4] (sumU (arX xs) (fun i => decide (wkX xs i = wk + 1)) xs.length + 1) (fun g rv wr => ∃ (rs : List Nat) (ys : List Gx), Hid (sumU (arX xs) (fun i => decide (wkX ys i = wk + 1)) xs.length + rs.length ≤ g ∧ g ≤ 1400000001 ∧ WkS B lo G b wk R xs D dn rt rk m v J W wr rv rs ys))
 case atStart => exact ⟨[m], xs, by show _ ≤ _; simp, by have := sumU_le (arX xs) (fun i => decide (wkX xs i = wk + 1)) hM.few xs.length; omega, HST.out xs rfl⟩
 case round =>
  obtain ⟨rs, ys, HP⟩ := hrel
  obtain ⟨hmu, hg1, S⟩ := HP.out
  cases rs with
  | nil =>
   obtain ⟨ad, cap, hrv⟩ : ∃ ad cap, u4 = .slice ad 0 cap := by
    rcases S.own.2 with ⟨h0, _⟩ | ⟨g', cap', _, h0, _⟩
    ·exact ⟨none, 0, h0⟩
    ·exact ⟨_, cap', h0⟩
   subst hrv
   have HF : Hid ((∃ ys, GX wr lo G b R ys D (wk + 1) ∧ DenX ys dn rt rk ∧ ys.length = xs.length ∧ lbX ys = lbX xs ∧ arX ys = arX xs ∧ inX ys = inX xs ∧ (∀ i, wkX ys i ≤ wk + 1) ∧ ((2, (lbX xs v).2, 0) : Nd) ∉ dn m) ∧ J wr) := by
    refine ⟨⟨ys, ?_, S.den, S.len, S.lb, S.ar, S.ins, S.wm, ?_⟩, S.j⟩
    ·obtain ⟨v', ns, e, hG, hr⟩ := S.gx
     exact ⟨v', ns, e, hG, fun n hn h0 g hg => hr n hn h0 g (.inr hg)⟩
    ·have d := S.den
     unfold DenX at d
     rw [S.len, S.lb, S.ar] at d
     exact Wk.none d S.wk hm hv HV2.out
   clear S HP hmu HST hY hJ hM
   gi_wp2
   go_end0
   exact ⟨⟨_, rfl⟩, .inl HF.out⟩
  | cons r rs =>
   obtain ⟨g, cap, hrv, hgW, hgl⟩ := S.own.form (by simp)
   have hrv : u4 = .slice (some ⟨g, 0, none⟩) (rs.length + 1) cap := hrv
   subst hrv
   have hr : r < ys.length := by rw [S.len]; exact S.wk.low r List.mem_cons_self
   have hrx : r < xs.length := S.wk.low r List.mem_cons_self
   have C1 := end_any (S.gx.sm (w' := wr.drew) ⟨rfl, rfl, rfl, rfl⟩) S.den r hr
   have zg2 := S.gj.keep _ _ hpgB zg hne.1 hne.2.1 (by intro c fz e; exact absurd (cells_ty (congrArg some e)) (by decide))
   have p1 : wr.cell? ⟨pg, 0, none⟩ = some (.pointer (some ⟨G, 0, none⟩)) := by simp only [World.cell?, zg2]; rfl
   have p2 : wr.cell? ⟨g, rs.length, none⟩ = some (.int .i64 r) := by
    have := S.own.cellAt rs.length (by simp)
    rw [this]
    simp
   have hrl : rs.length < 1400000001 := by simp at hmu; omega
   have i1 : (0 : Int) ≤ (rs.length : Int) := by omega
   have i2 : (rs.length : Int) < ((rs.length + 1 : Nat) : Int) := by omega
   have C3 : Calls Tryz.prog 46 #[.pointer (some ⟨G, 0, none⟩), .int .i64 r] wr.drew fun e w' => e = .returned (.int .i64 (rt r : Nat)) ∧ w'.cell? ⟨pg, 0, none⟩ = some (.pointer (some ⟨G, 0, none⟩)) ∧ Hid (∃ zs, WkS B lo G b wk R xs D dn rt rk m v J W w' (.slice (some ⟨g, 0, none⟩) (rs.length + 1) cap) (r :: rs) zs ∧ wkX zs = wkX ys) := by
    refine Calls.mono C1 ?_
    rintro e w' ⟨rfl, hE⟩
    obtain ⟨zs, S', hz⟩ := S.ended hJ (w1 := wr.drew) ⟨rfl, rfl, rfl, rfl⟩ hE
    have zg3 := S'.gj.keep _ _ hpgB zg hne.1 hne.2.1 (by intro c fz e; exact absurd (cells_ty (congrArg some e)) (by decide))
    exact ⟨rfl, by simp only [World.cell?, zg3]; rfl, zs, S', hz⟩
   have HMU : Hid (sumU (arX xs) (fun i => decide (wkX ys i = wk + 1)) xs.length + (rs.length + 1) ≤ gk ∧ gk ≤ 1400000001) := ⟨hmu, hg1⟩
   clear C1 hmu S HP HST
   gi_wp2
   have f46 : Fence.wide.fn 46 := trivial
   gi_cut [6] from 23 (fun s wc => s = .int .i64 (rt r : Nat) ∧ wc.cell? ⟨pg, 0, none⟩ = some (.pointer (some ⟨G, 0, none⟩)) ∧ Hid (∃ zs, WkS B lo G b wk R xs D dn rt rk m v J W wc (.slice (some ⟨g, 0, none⟩) (rs.length + 1) cap) (r :: rs) zs ∧ wkX zs = wkX ys))
   case first =>
    gi_region_with ((try refine ⟨hdd _, ?_⟩); gi_at_call 46; refine (callsIn_wide.2 C3).mono ?_; rintro e' w5 ⟨rfl, p3, HS5⟩)
    all_goals (gi_wp2; gi_meet; exact ⟨rfl, p3, HS5⟩)
   case rest =>
    obtain ⟨rfl, p3, HS5⟩ := hcut
    clear C3 p1 p2
    obtain ⟨zs, S5, ez⟩ := HS5.out
    have hat : rt r < zs.length := by
     rw [S5.len]
     have d := S5.den
     unfold DenX at d
     rw [S5.len, S5.lb, S5.ar] at d
     exact Den.rt_lt d hrx
    obtain ⟨gn, capn, adn, c0, _, hgG, hfr, ⟨n0, n1, n2, n3, n4, n5⟩, hWk, _⟩ := S5.gx.at hat
    obtain ⟨cw, _⟩ := S5.gx.walks
    have e5 : zs[rt r].walk = wkX zs (rt r) := by unfold wkX; rw [getD_at hat]
    have e0 : zs[rt r].is = (lbX xs (rt r)).1 := by rw [← S5.lb]; unfold lbX; rw [getD_at hat]
    have e2 : zs[rt r].ar = arX xs (rt r) := by rw [← S5.ar]; unfold arX; rw [getD_at hat]
    rw [e5] at n5
    rw [e0] at n0
    rw [e2] at n2
    have hln : zs.length ≤ 200000000 := S5.gx.num.1
    have i3 : (0 : Int) ≤ ((rt r : Nat) : Int) := by omega
    have i4 : ((rt r : Nat) : Int) < (zs.length : Int) := by omega
    have hcp : rs.length ≤ cap := by
     rcases S5.own.2 with ⟨h0, _⟩ | ⟨_, _, _, hv, _, _, hc, _⟩
     ·cases h0
     ·cases hv
      have hc : (r :: rs).length ≤ _ := hc
      simp at hc
      omega
    have i5 : (rs.length : Int) ≤ (cap : Int) := by omega
    have cw' : wc.cell? ⟨G, 2, none⟩ = some (.int .i64 ((wk : Int) + 1)) := by rw [cw]; simp
    have hmu : sumU (arX xs) (fun i => decide (wkX zs i = wk + 1)) xs.length + (rs.length + 1) ≤ gk ∧ gk ≤ 1400000001 := by
     rw [ez]
     exact HMU.out
    clear ez
    by_cases hmk : wkX zs (rt r) = wk + 1
    ·have HF : Hid (∀ w', Sm wc w' → WkS B lo G b wk R xs D dn rt rk m v J W w' (.slice (some ⟨g, 0, none⟩) rs.length cap) rs zs) := fun w' s => by
      have hgk := Gk.of_sm (lo := lo) (G := G) (b := b) s
      refine ⟨S5.gx.sm s, S5.den, S5.len, S5.lb, S5.ar, S5.ins, S5.wm, S5.wk.pass (by simpa using hmk), ?_, hJ _ _ S5.j (hgk.gj _), S5.gj.trans (hgk.gj _)⟩
      have := ints_but (m := rs.length) (es := (r :: rs).reverse) S5.own
      rw [List.reverse_cons, List.take_left' (by simp)] at this
      exact own_keep this fun j _ => by rw [s.heap]
     rw [hmk] at n5
     have n5' : wc.cell? ⟨gn, rt r * 6 + 5, none⟩ = some (.int .i64 ((wk : Int) + 1)) := by rw [n5]; simp
     clear n5 S5 HS5 hWk hfr hJ hY hM n0 n1 n2 n3 n4
     gi_wp2
     gi_quiet (fail)
     gi_wp2
     gi_roundg (gk - 1)
     case measure => omega
     case rel => exact ⟨rs, zs, by show _ ≤ _; omega, by omega, HF.out _ ⟨rfl, rfl, rfl, rfl⟩⟩
    ·have hwn : ¬ ((wkX zs (rt r) : Nat) : Int) = (wk : Int) + 1 := by omega
     have hwn2 : (((wkX zs (rt r) : Nat) : Int) == (wk : Int) + 1) = false := by simpa using hwn
     have f5 := hfr (rt r * 6 + 5)
     obtain ⟨hW1, hW2⟩ := hWk (wk + 1)
     rw [show ((wk + 1 : Nat) : Int) = (wk : Int) + 1 by omega] at hW1 hW2
     obtain ⟨x1, x2, x3, x4, x5, x6⟩ := walkX_eq zs hat (wk + 1)
     have hmks : (fun i => decide (wkX (walkX zs (rt r) (wk + 1)) i = wk + 1)) = setM (fun i => decide (wkX zs i = wk + 1)) (rt r) := by
      funext i
      rw [x6]
      unfold putN setM
      split
      ·simp
      ·rfl
     have dx : Den xs.length (lbX xs) (arX xs) (tgX zs) dn rt rk := by
      have d := S5.den
      unfold DenX at d
      rw [S5.len, S5.lb, S5.ar] at d
      exact d
     have HO : Hid (∀ w6, Sm (wc.setCell ⟨gn, rt r * 6 + 5, none⟩ (.int .i64 ((wk : Int) + 1))) w6 → W.heap.size ≤ w6.heap.size ∧ J w6 ∧ w6.ownsRow W.heap.size 3 1 (.slice (some ⟨g, 0, none⟩) rs.length cap) rs.length (rs.reverse.map fun (x : Nat) => Value.int .i64 x) ∧ GX w6 lo G b (fun g => W.heap.size ≤ g ∨ R g) (walkX zs (rt r) (wk + 1)) D (wk + 1) ∧ (rt r ≠ v → ∀ w7, GX w7 lo G b (fun g => W.heap.size ≤ g ∨ R g) (walkX zs (rt r) (wk + 1)) D (wk + 1) → Gj B lo G b w6 w7 → J w7 → ∀ rv' new, (∀ q, q ∈ new ↔ q ∈ arX xs (rt r) ∨ q ∈ rs) → w7.ownsRow W.heap.size 3 1 rv' new.length (new.reverse.map fun (x : Nat) => Value.int .i64 x) → WkS B lo G b wk R xs D dn rt rk m v J W w7 rv' new (walkX zs (rt r) (wk + 1)))) := fun w6 s => by
      have hgk := hW2.trans (Gk.of_sm (lo := lo) (G := G) (b := b) s)
      have hown := ints_but (m := rs.length) (es := (r :: rs).reverse) S5.own
      rw [List.reverse_cons, List.take_left' (by simp)] at hown
      refine ⟨Nat.le_trans S5.gj.size hgk.size, hJ _ _ S5.j (hgk.gj _), ?_, hW1.sm s, fun hrv w7 g7 j7 jj rv' new hnew ho => ?_⟩
      ·refine own_keep hown fun j hj => ?_
       rw [s.heap, Below.heap_setCell _ _ _ _ (show j ≠ gn from fun e => ?_)]
       rcases hown.2 with ⟨h0, _⟩ | ⟨g', cap', cur, hv, _, hh, _⟩
       ·cases h0
       ·cases hv
        have hj : g = j := by simpa [Value.ownBlock] using hj
        obtain ⟨cur', hcur'⟩ := S5.gx.row c0 (by omega)
        rw [← e, ← hj, hh] at hcur'
        exact absurd (cells_ty hcur') (by decide)
      ·refine ⟨g7, ?_, by rw [x1]; exact S5.len, by rw [x2]; exact S5.lb, by rw [x3]; exact S5.ar, by rw [x5]; exact S5.ins, fun i => ?_, ?_, ho, jj, (S5.gj.trans (hgk.gj _)).trans j7⟩
       ·unfold DenX
        rw [x1, x2, x3, x4]
        exact S5.den
       ·rw [x6]
        unfold putN
        split
        ·omega
        ·exact S5.wm i
       ·rw [hmks]
        exact Wk.step dx S5.wk hrv hnew
     have HMU2 : Hid (∀ new : List Nat, new.length = (arX xs (rt r)).length + rs.length → sumU (arX xs) (fun i => decide (wkX (walkX zs (rt r) (wk + 1)) i = wk + 1)) xs.length + new.length < gk) := fun new hn => by
      rw [hmks]
      have := sumU_less (arX xs) (fun i => decide (wkX zs i = wk + 1)) (rt r) (by simpa using hmk) xs.length (by rw [← S5.len]; exact hat)
      omega
     have HSP : Hid (¬ rt r ≠ v → ((2, (lbX xs v).2, 0) : Nd) ∈ dn m) := fun hrv => Wk.found dx S5.wk (by omega) HV2.out
     have hsz : (arX xs (rt r)).length ≤ 6 := hM.few _
     have HBX : Hid (lbX (walkX zs (rt r) (wk + 1)) = lbX xs ∧ arX (walkX zs (rt r) (wk + 1)) = arX xs) := ⟨by rw [x2]; exact S5.lb, by rw [x3]; exact S5.ar⟩
     have HVA : Hid ((lbX xs (rt r)).1 = 2 → (arX xs (rt r)).length = 0) := fun q => by rw [Den.var dx (rt r) (by rw [← S5.len]; exact hat) q]; rfl
     clear hW1 hW2 hmks dx x1 x2 x3 x4 x5 x6 S5 HS5 hM hWk n1 n3 n4
     gi_wp2
     gi_quiet (fail)
     gi_upto_region 9 with fail
     obtain ⟨w6, hw6⟩ : ∃ w6, w6 = (wc.drewN nq).setCell ⟨gn, rt r * 6 + 5, none⟩ (.int .i64 ((wk : Int) + 1)) := ⟨_, rfl⟩
     obtain ⟨hs6, j6, o6, g6, HO6⟩ := HO.out w6 (by rw [hw6]; exact ⟨rfl, rfl, rfl, rfl⟩)
     rw [← hw6]
     have c06 : w6.cell? ⟨G, 0, none⟩ = some (.slice (some ⟨gn, 0, none⟩) zs.length capn) := by
      rw [← c0, hw6]
      exact World.cell?_of_block (w := wc) (Below.heap_setCell _ _ _ _ hgG.symm)
     have hlx : (walkX zs (rt r) (wk + 1)).length = zs.length := by simp [walkX]
     have hat6 : rt r < (walkX zs (rt r) (wk + 1)).length := by rw [hlx]; exact hat
     have hbx : lbX (walkX zs (rt r) (wk + 1)) = lbX xs ∧ arX (walkX zs (rt r) (wk + 1)) = arX xs := HBX.out
     have HARG : Hid (∀ w7, GX w7 lo G b (fun g => W.heap.size ≤ g ∨ R g) (walkX zs (rt r) (wk + 1)) D (wk + 1) → w7.cell? ⟨G, 0, none⟩ = some (.slice (some ⟨gn, 0, none⟩) zs.length capn) → w7.cell? ⟨gn, rt r * 6, none⟩ = some (.int .i64 (lbX xs (rt r)).1) ∧ ∃ ad, w7.cell? ⟨gn, rt r * 6 + 2, none⟩ = some (.slice ad (arX xs (rt r)).length (arX xs (rt r)).length) ∧ ((arX xs (rt r)).length = 0 ∨ ∃ p, ad = some p ∧ ∀ j u, ((arX xs (rt r)).map fun (x : Nat) => Value.int .i64 x)[j]? = some u → w7.cell? (p.add j) = some u)) := fun w7 h7 h70 => by
      have := h7.args hat6 (by rw [hlx]; exact h70)
      rw [hbx.1, hbx.2] at this
      exact this
     clear hw6 HO hlx hat6 hbx n0 n2 n5 c0 p3 cw cw' f5
     obtain ⟨q0, _⟩ := HARG.out w6 g6 c06
     obtain ⟨i0, hin, hz0, hz1, hz2⟩ := info_parts Tryz.info3
     have TAIL : Hid (∀ w7, GX w7 lo G b (fun g => W.heap.size ≤ g ∨ R g) (walkX zs (rt r) (wk + 1)) D (wk + 1) → w7.ownsRow W.heap.size 3 1 (.slice (some ⟨g, 0, none⟩) rs.length cap) rs.length (rs.reverse.map fun (x : Nat) => Value.int .i64 x) → rt r ≠ v → J w7 → Gj B lo G b w6 w7 → ∀ v' w8, w8.ownsRow W.heap.size 3 1 v' (rs.length + (arX xs (rt r)).length) ((rs.reverse.map fun (x : Nat) => Value.int .i64 x) ++ (arX xs (rt r)).map fun (x : Nat) => Value.int .i64 x) → w7.grownBy w8 (Value.slice (some ⟨g, 0, none⟩) rs.length cap).ownBlock → ∃ (rs' : List Nat) (ys : List Gx), Hid (sumU (arX xs) (fun i => decide (wkX ys i = wk + 1)) xs.length + rs'.length ≤ gk - 1 ∧ gk - 1 ≤ 1400000001 ∧ WkS B lo G b wk R xs D dn rt rk m v J W w8 v' rs' ys)) := fun w7 g7 o7 hrv j7 k7 v' w8 o8 gr => by
      have hrow : ∀ q, (Value.slice (some ⟨g, 0, none⟩) rs.length cap).ownBlock = some q → q = g ∧ ∃ c, w7.heap[q]? = some (.cells c 3 (0, 0)) := fun q hq => by
       rcases o7.2 with ⟨h0, _⟩ | ⟨g', cap', cur, hv, _, hh, _⟩
       ·cases h0
       ·cases hv
        have hq : g = q := by simpa [Value.ownBlock] using hq
        subst hq
        exact ⟨rfl, cur, hh⟩
      have hgj : Gj W.heap.size lo G b w7 w8 := ⟨gr.os, gr.tape, gr.output, gr.size, fun q hq => gr.block q (by have := g7.num; omega) (fun e => by have := (hrow q e.symm).1; omega), fun q o h0 h1 _ _ _ => (gr.block q (lt_of_heap h1) (fun e => by have := (hrow q e.symm).1; omega)).trans h1⟩
      refine ⟨(arX xs (rt r)).reverse ++ rs, walkX zs (rt r) (wk + 1), ?_, by omega, ?_⟩
      ·have := HMU2.out ((arX xs (rt r)).reverse ++ rs) (by simp)
       show _ ≤ _
       omega
      ·refine HO6 hrv w8 (g7.grown gr fun q hq => ⟨.inl (by rw [(hrow q hq).1]; exact hgW), (hrow q hq).2⟩) (k7.trans (hgj.mono hBW)) (hJ _ _ j7 hgj) v' _ (fun q => by simp) ?_
       have e1 : ((arX xs (rt r)).reverse ++ rs).length = rs.length + (arX xs (rt r)).length := by simp; omega
       have e2 : (((arX xs (rt r)).reverse ++ rs).reverse.map fun (x : Nat) => Value.int .i64 x) = (rs.reverse.map fun (x : Nat) => Value.int .i64 x) ++ (arX xs (rt r)).map fun (x : Nat) => Value.int .i64 x := by simp
       rw [e1, e2]
       exact o8
     by_cases hvar : (lbX xs (rt r)).1 = 2
     ·have hK0 := hY (rt r) w6 j6
      rw [hvar] at q0
      obtain ⟨fn, tmps, assign, body, hy, hR⟩ := hK0
      have hgk1 : 1 ≤ gk := by omega
      have hB6 : B ≤ w6.heap.size := by omega
      have HG6 : Hid (∀ W2, Kq B w6 W2 → W2.cell? ⟨G, 0, none⟩ = some (.slice (some ⟨gn, 0, none⟩) zs.length capn) ∧ W2.ownsRow W.heap.size 3 1 (.slice (some ⟨g, 0, none⟩) rs.length cap) rs.length (rs.reverse.map fun (x : Nat) => Value.int .i64 x) ∧ W.heap.size ≤ W2.heap.size) := fun W2 hq => by
       refine ⟨?_, own_keep o6 fun j hj => ?_, by have := hq.size; omega⟩
       ·have hbx : ∃ c, w6.heap[G]? = some (.cells c 66 (0, 0)) := by
         obtain ⟨v', ns, _, hG, _⟩ := g6
         exact ⟨_, hG.box⟩
        obtain ⟨c, hc⟩ := hbx
        rw [← c06]
        exact World.cell?_of_block (w := w6) ((hq.same G _ hc (.inr (.inl ⟨_, _, _, rfl⟩))).trans hc.symm)
       ·rcases o6.2 with ⟨h0, _⟩ | ⟨g', cap', cur, hv, _, hh, _⟩
        ·cases h0
        ·cases hv
         have hj : g = j := by simpa [Value.ownBlock] using hj
         subst hj
         exact (hq.same g _ hh (.inr (.inl ⟨_, _, _, rfl⟩))).trans hh.symm
      clear hY HO6 HMU2 HMU hmu
      gi_upto_region 10 with ((try refine ⟨hdd _, ?_⟩); refine hR.mono ?_; clear hR; rintro e W2 (⟨rfl, hJ2, hq2, hrv⟩ | ⟨rfl, hx2, hjx⟩))
      ·have g7 := g6.kq hq2
       obtain ⟨c07, o7, hs7⟩ := HG6.out W2 hq2
       obtain ⟨_, ad7, a7, src7⟩ := HARG.out W2 g7 c07
       have k7 := hq2.gj (lo := lo) (G := G) (b := b) hloB hB6
       gi_wp2_with (gi_at_builtin; refine wpListIn_append_ints W2 rfl _ _ 72 rfl W.heap.size 3 i0 _ 8 Tryz.underlying72 hin hz0 hz1 hz2 rfl (.slice (some ⟨g, 0, none⟩) rs.length cap) rs.length (rs.reverse.map fun (x : Nat) => Value.int .i64 x) rfl o7 ad7 (arX xs (rt r)).length (arX xs (rt r)).length ((arX xs (rt r)).map fun (x : Nat) => Value.int .i64 x) rfl (by simp) src7 (by simp [Value.oneCell']) (by unfold maxLen; omega) (by omega) hs7 ?_; intro v' w8 o8 gr)
       gi_roundg (gk - 1)
       case measure => omega
       case rel => exact TAIL.out W2 g7 o7 hrv hJ2 k7 v' w8 o8 gr
      ·refine bodyPost_ret (results_none rfl _ _ _) rfl ?_
       exact ⟨⟨_, rfl⟩, .inr ⟨HSP.out hx2, hjx⟩⟩
     ·have hvb : ((lbX xs (rt r)).1 == 2) = false := by simpa using hvar
      have hgk1 : 1 ≤ gk := by omega
      have hrv : rt r ≠ v := fun e => hvar (by rw [e]; exact HV2.out)
      obtain ⟨_, ad7, a7, src7⟩ := HARG.out w6 g6 c06
      have k7 : Gj B lo G b w6 w6 := (Gk.refl lo G b w6).gj B
      clear hY HO6 HMU2 HMU hmu
      generalize (lbX xs (rt r)).1 = kd at *
      gi_upto_region 10 with (refine ⟨(by intro f h; cases h), ?_⟩)
      gi_wp2_with (gi_at_builtin; refine wpListIn_append_ints w6 rfl _ _ 72 rfl W.heap.size 3 i0 _ 8 Tryz.underlying72 hin hz0 hz1 hz2 rfl (.slice (some ⟨g, 0, none⟩) rs.length cap) rs.length (rs.reverse.map fun (x : Nat) => Value.int .i64 x) rfl o6 ad7 (arX xs (rt r)).length (arX xs (rt r)).length ((arX xs (rt r)).map fun (x : Nat) => Value.int .i64 x) rfl (by simp) src7 (by simp [Value.oneCell']) (by unfold maxLen; omega) (by omega) hs6 ?_; intro v' w8 o8 gr)
      gi_roundg (gk - 1)
      case measure => omega
      case rel => exact TAIL.out w6 g6 o6 hrv j6 k7 v' w8 o8 gr
end Go.Proofs.YtikpipenhamdbaaGreat
