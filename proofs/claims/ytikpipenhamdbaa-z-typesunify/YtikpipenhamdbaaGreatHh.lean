/- The graph: the contract of bind. -/
import Derived.Test.YtikpipenhamdbaaGreatHg
namespace Go.Proofs.YtikpipenhamdbaaGreat
open Go.RowKit Go.Maps Go.Shelf
attribute [local go_sem] Oper.semAt_some

/-- What bind answers, and what it leaves. -/
def BindP (lo G b wk : Nat) (R : Nat → Prop) (xs : List Gx) (D : DataW Unit) (dn : Nat → List Nd) (rt rk : Nat → Nat) (v i : Nat) (w : World) (e : Ending) (w' : World) : Prop :=
 Gk lo G b w w' ∧ ((e = .returned (.int .i64 51) ∧ ((2, (lbX xs v).2, 0) : Nd) ∈ dn i) ∨
  (e = .returned (.int .i64 0) ∧ ((2, (lbX xs v).2, 0) : Nd) ∉ dn i ∧ ∃ ys wk', wk ≤ wk' ∧ wk' ≤ wk + 1 ∧ GX w' lo G b R (toX ys v i) D wk' ∧ DenX ys dn rt rk ∧ ys.length = xs.length ∧ lbX ys = lbX xs ∧ arX ys = arX xs ∧ inX ys = inX xs ∧ ∀ q, wkX ys q ≤ wk'))
set_option maxHeartbeats 16000000 in
set_option maxRecDepth 100000 in
theorem bind_any {lo G b wk : Nat} {R : Nat → Prop} {xs : List Gx} {D : DataW Unit} {dn : Nat → List Nd} {rt rk : Nat → Nat} {L : List (List UInt8 × List Nd)} (hM : Mn wk xs D dn rt rk L) (hwm : wk < 200000000) (v i : Nat) (hv : v < xs.length) (hi : i < xs.length) (hvv : tgX xs v = v) (hii : tgX xs i = i) (hv2 : (lbX xs v).1 = 2) (hvi : v ≠ i) (w : World) (h : GX w lo G b R xs D wk) :
  Calls Tryz.prog 48 #[.pointer (some ⟨G, 0, none⟩), .int .i64 v, .int .i64 i] w fun e w' => BindP lo G b wk R xs D dn rt rk v i w e w' := by
 refine (callsIn_wide (n := 6)).1 ?_
 obtain ⟨W, hW⟩ : ∃ W, W = (w.alloc (Obj.cells #[.int .i64 v] 3)).alloc (Obj.cells #[.int .i64 0] 30) := ⟨_, rfl⟩
 have hlt := h.num
 have hbW : Below w.heap.size w W := by rw [hW]; exact ((Below.refl _ _).alloc (Nat.le_refl _) _).alloc (by simp) _
 have hsW : W.heap.size = w.heap.size + 2 := by rw [hW]; simp
 have hx1 : W.heap[w.heap.size]? = some (.cells #[.int .i64 v] 3 (0, 0)) := by rw [hW, Below.heap_alloc _ _ _ (by simp)]; exact heap_alloc_new w _
 have hx2 : W.heap[w.heap.size + 1]? = some (.cells #[.int .i64 0] 30 (0, 0)) := by
  rw [hW]
  have := heap_alloc_new (w.alloc (Obj.cells #[.int .i64 v] 3)) (Obj.cells #[.int .i64 0] 30)
  simpa using this
 have hX := h.below hbW
 refine callsIn_of_wp_marks Tryz.func48 rfl trivial ?_ rfl
 simp only [Tryz.ntmps48, List.size_toArray, List.length_cons, List.length_nil, Nat.reduceAdd, Nat.reduceSub, Array.replicate_succ, Array.replicate_zero, List.push_toArray, List.append_toArray, List.nil_append, List.cons_append]
 gi_wp2
 rw [← hW]
 clear hW
 obtain ⟨g, cap, ad, c0, c1, hgG, hfr, ⟨n0, n1, n2, n3, n4, n5⟩, _, _⟩ := hX.at hv
 have e4 : xs[v].ins = inX xs v := by unfold inX; rw [getD_at hv]
 rw [e4] at n4
 have x1 : W.cell? ⟨w.heap.size, 0, none⟩ = some (.int .i64 v) := by simp only [World.cell?, hx1]; rfl
 have hlen := hlt.1
 have j1 : (0 : Int) ≤ (v : Int) := by omega
 have j2 : (v : Int) < (xs.length : Int) := by omega
 cases hin : inX xs v with
 | false =>
  rw [hin] at n4
  gi_region
  obtain ⟨V, hV⟩ : ∃ V, V = W.drew := ⟨_, rfl⟩
  have sV : Sm W V := by rw [hV]; exact ⟨rfl, rfl, rfl, rfl⟩
  rw [← hV]
  clear hV c0 c1 hfr n0 n1 n2 n3 n4 n5 x1
  have hXV := hX.sm sV
  obtain ⟨g', cap', ad', c0, c1, hgG', hfr, ⟨_, _, _, n3, _, _⟩, _, hT⟩ := hXV.at hv
  have p1 : V.heap[w.heap.size]? = some (.cells #[.int .i64 v] 3 (0, 0)) := by rw [sV.heap]; exact hx1
  have p2 : V.heap[w.heap.size + 1]? = some (.cells #[.int .i64 0] 30 (0, 0)) := by rw [sV.heap]; exact hx2
  have a1 : V.cell? ⟨w.heap.size, 0, none⟩ = some (.int .i64 v) := by simp only [World.cell?, p1]; rfl
  have a2 : V.cell? ⟨w.heap.size + 1, 0, none⟩ = some (.int .i64 0) := by simp only [World.cell?, p2]; rfl
  have a3 : V.frozen? ⟨w.heap.size + 1, 0, none⟩ = false := by simp [World.frozen?, p2]
  have f3 : V.frozen? ⟨g', v * 6 + 3, none⟩ = false := hfr _
  obtain ⟨hT1, hT2⟩ := hT i
  have HR : Hid (∀ X, Sm (V.setCell ⟨g', v * 6 + 3, none⟩ (.int .i64 i)) X → BindP lo G b wk R xs D dn rt rk v i w (.returned (.int .i64 0)) X) := fun X s => by
   refine ⟨((Gk.of_below hbW hlt.2.1).trans (Gk.of_sm sV)).trans (hT2.trans (Gk.of_sm s)), .inr ⟨rfl, ?_, xs, wk, Nat.le_refl _, by omega, hT1.sm s, hM.den, rfl, rfl, rfl, rfl, hM.wm⟩⟩
   exact Den.clear hM.den hM.mrk hv hi hvv hii hv2 hvi hin
  have HP2 : Hid (∀ X, Sm (V.setCell ⟨g', v * 6 + 3, none⟩ (.int .i64 i)) X → X.heap[w.heap.size + 1]? = some (.cells #[.int .i64 0] 30 (0, 0))) := fun X s => by
   rw [s.heap]
   exact hT2.keep _ _ p2 (by omega) (by omega) (by intro c fz e; exact absurd (cells_ty (congrArg some e)) (by decide))
  clear hT hT1 hT2 hXV hX h hM
  gi_wp2
  gi_region
  obtain ⟨X, hX⟩ : ∃ X, X = (V.setCell ⟨g', v * 6 + 3, none⟩ (.int .i64 i)).drew := ⟨_, rfl⟩
  have sX : Sm (V.setCell ⟨g', v * 6 + 3, none⟩ (.int .i64 i)) X := by rw [hX]; exact ⟨rfl, rfl, rfl, rfl⟩
  rw [← hX]
  clear hX
  have p2' := HP2.out X sX
  have b2 : X.cell? ⟨w.heap.size + 1, 0, none⟩ = some (.int .i64 0) := by simp only [World.cell?, p2']; rfl
  have b3 : X.frozen? ⟨w.heap.size + 1, 0, none⟩ = false := by simp [World.frozen?, p2']
  have hself := setCell_self p2' b2
  gi_wp2
  exact ⟨.int .i64 0, by simp [results, Tryz.results48, go_sem, b2], HR.out X sX⟩
 | true =>
  rw [hin] at n4
  gi_region
  obtain ⟨V, hV⟩ : ∃ V, V = W.drew := ⟨_, rfl⟩
  have sV : Sm W V := by rw [hV]; exact ⟨rfl, rfl, rfl, rfl⟩
  rw [← hV]
  clear hV c0 c1 hfr n0 n1 n2 n3 n4 n5 x1
  have hXV := hX.sm sV
  have y1 : V.heap[w.heap.size]? = some (.cells #[.int .i64 v] 3 (0, 0)) := by rw [sV.heap]; exact hx1
  have y2 : V.heap[w.heap.size + 1]? = some (.cells #[.int .i64 0] 30 (0, 0)) := by rw [sV.heap]; exact hx2
  have hsV : V.heap.size = w.heap.size + 2 := by rw [sV.heap]; exact hsW
  have bV : Below w.heap.size w V := hbW.trans (sV.below _)
  clear hX hx1 hx2 hsW hbW sV
  have C44 := vars_in G i V
  obtain ⟨V1, hV1⟩ : ∃ V1, V1 = (V.alloc (Obj.cells #[.pointer (some ⟨G, 0, none⟩)] 89)).alloc (Obj.cells #[.int .i64 i] 3) := ⟨_, rfl⟩
  rw [← hV1] at C44
  have b1 : Below V.heap.size V V1 := by rw [hV1]; exact ((Below.refl _ _).alloc (Nat.le_refl _) _).alloc (by simp) _
  have hs1 : V1.heap.size = w.heap.size + 4 := by rw [hV1]; simp; omega
  have z1 : V1.heap[V.heap.size]? = some (.cells #[.pointer (some ⟨G, 0, none⟩)] 89 (0, 0)) := by rw [hV1, Below.heap_alloc _ _ _ (by simp)]; exact heap_alloc_new V _
  have z2 : V1.heap[V.heap.size + 1]? = some (.cells #[.int .i64 i] 3 (0, 0)) := by
   rw [hV1]
   have := heap_alloc_new (V.alloc (Obj.cells #[.pointer (some ⟨G, 0, none⟩)] 89)) (Obj.cells #[.int .i64 i] 3)
   simpa using this
  clear hV1
  have hfk : Fence.wide.fn 68 := trivial
  gi_wp2_with (gi_at_call 68; refine (callsIn_wide.2 C44).mono ?_; rintro e' w1 ⟨rfl, rfl⟩)
  have hXw := hXV.below b1
  have k1 : Gk lo G b w w1 := (Gk.of_below bV hlt.2.1).trans (Gk.of_below b1 (by omega))
  have u1 : w1.heap[w.heap.size]? = some (.cells #[.int .i64 v] 3 (0, 0)) := (b1.block _ (by omega)).trans y1
  have u2 : w1.heap[w.heap.size + 1]? = some (.cells #[.int .i64 0] 30 (0, 0)) := (b1.block _ (by omega)).trans y2
  rw [hsV] at z1 z2
  clear b1 bV y1 y2 C44 hXV hsV
  have hKc : ∀ {A C : World} {k : Nat} {c : Array Value} {t : TypeId} {fz : Nat × Nat}, Kq w1.heap.size A C → A.heap[k]? = some (.cells c t fz) → C.heap[k]? = some (.cells c t fz) := fun hq hk => hq.same _ _ hk (.inr (.inl ⟨_, _, _, rfl⟩))
  have hlo1 : lo ≤ w.heap.size := hlt.2.1
  refine wpIn_rangeFunc_graph (lo := lo) (G := G) (b := b) rfl (by omega) (gf := 87) (lb := #[.pointer (some ⟨w.heap.size + 2, 0, none⟩), .pointer (some ⟨w.heap.size + 2 + 1, 0, none⟩)]) rfl trivial (enters_of Tryz.func87 (by kernel_rfl) rfl) ⟨by omega, by omega⟩ (fun x => #[.int .i64 x]) (fun _ => rfl) (fun x => x ≠ v)
   (fun W => Gk lo G b w W ∧ W.heap[w.heap.size]? = some (.cells #[.int .i64 v] 3 (0, 0)) ∧ W.heap[w.heap.size + 1]? = some (.cells #[.int .i64 0] 30 (0, 0)))
   (fun W => Gk lo G b w W ∧ W.heap[w.heap.size + 1]? = some (.cells #[.int .i64 51] 30 (0, 0)))
   (fun W => ∃ ys, GX W lo G b R ys D (wk + 1) ∧ DenX ys dn rt rk ∧ ys.length = xs.length ∧ lbX ys = lbX xs ∧ arX ys = arX xs ∧ inX ys = inX xs ∧ (∀ q, wkX ys q ≤ wk + 1) ∧ ((2, (lbX xs v).2, 0) : Nd) ∉ dn i)
   (((2, (lbX xs v).2, 0) : Nd) ∈ dn i)
   (fun A C hI hk => ⟨Gj.gk hI.1 (hk.mono (by omega)), hk.keep _ _ (by omega) hI.2.1 (by omega) (by omega) (by intro c fz e; exact absurd (cells_ty (congrArg some e)) (by decide)), hk.keep _ _ (by omega) hI.2.2 (by omega) (by omega) (by intro c fz e; exact absurd (cells_ty (congrArg some e)) (by decide))⟩)
   (fun A C hI hq => ⟨Kq.gk hI.1 (by omega) hlo1 hq, hKc hq hI.2.1, hKc hq hI.2.2⟩)
   (fun A C hI hq => ⟨Kq.gk hI.1 (by omega) hlo1 hq, hKc hq hI.2⟩)
   (fun A C hS hq => by
    obtain ⟨ys, hx, hrest⟩ := hS
    exact ⟨ys, hx.kq hq, hrest⟩)
   (fun l J Jx W hqW hbW hJ hY hj => ?seq) ⟨k1, u1, u2⟩
   (fun x => { tmps := #[.pointer (some ⟨G, 0, none⟩), .int .i64 v, .int .i64 i, undef, .pointer (some ⟨w.heap.size, 0, none⟩), undef, .pointer (some ⟨w.heap.size + 1, 0, none⟩), .int .i64 x, .pointer (some ⟨G, 0, none⟩), .pointer (some ⟨G, 0, none⟩), .pointer (some ⟨G, 0, none⟩), .slice (some ⟨g, 0, none⟩) xs.length cap, .int .i64 v, .pointer (some ⟨g, v * 6, none⟩), .pointer (some ⟨g, v * 6 + 4, none⟩), .bool true, .pointer (some ⟨G, 0, none⟩), .int .i64 i, .func (.func 87) #[] #[.pointer (some ⟨w.heap.size + 2, 0, none⟩), .pointer (some ⟨w.heap.size + 2 + 1, 0, none⟩)], .int .i64 x, undef, undef, undef, undef, undef, undef, undef, undef, undef, undef, undef], defers := [] }) ?assign ?body ?done ?stop
  case seq =>
   refine walk_in hM hwm i v hi hv hv2 w1.heap.size (6 - 1) l (w.heap.size + 2) (w.heap.size + 2 + 1) J Jx W hJ hY (hXw.kq hqW) hj ((hbW.block _ (by omega)).trans z1) ((hbW.block _ (by omega)).trans z2) (by omega) (by omega) hbW.size (by omega)
  case assign =>
   intro l x W K hK
   gi_wp2
   exact hK
  case body =>
   rintro l x W ⟨hk, q1, q2⟩
   have a1 : W.cell? ⟨w.heap.size, 0, none⟩ = some (.int .i64 v) := by simp only [World.cell?, q1]; rfl
   have a2 : W.cell? ⟨w.heap.size + 1, 0, none⟩ = some (.int .i64 0) := by simp only [World.cell?, q2]; rfl
   have a3 : W.frozen? ⟨w.heap.size + 1, 0, none⟩ = false := by simp [World.frozen?, q2]
   by_cases hxv : x = v
   ·subst hxv
    gi_wp2
    refine ⟨fun e => e rfl, (KeepsOthers.setCell _ _ _).from _, ⟨hk.os, hk.tape, hk.output, by simpa [World.setCell] using hk.size, fun j hj => ?_, fun j o h1 h2 h3 h4 => ?_⟩, (setCell_block q2).trans rfl⟩
    ·rw [Below.heap_setCell _ _ _ _ (show j ≠ w.heap.size + 1 by omega)]
     exact hk.low j hj
    ·rw [Below.heap_setCell _ _ _ _ (show j ≠ w.heap.size + 1 by have := lt_of_heap h1; omega)]
     exact hk.keep j o h1 h2 h3 h4
   ·have hxi : ¬ (x : Int) = (v : Int) := by omega
    have hxb : ((x : Int) == (v : Int)) = false := by simpa using hxi
    gi_wp2
    exact ⟨hxv, ⟨rfl, rfl, rfl, rfl⟩⟩
  case done =>
   rintro Dd U hDd ⟨ys, hxU, hd, hl, hlb, har, hins, hwk, hno⟩ ⟨kU, p1, p2⟩ p3
   have hvy : v < ys.length := by rw [hl]; exact hv
   obtain ⟨g', cap', ad', c0, c1, hgG', hfr, ⟨_, _, _, n3, _, _⟩, _, hT⟩ := (hxU.sm (w' := U.drew) ⟨rfl, rfl, rfl, rfl⟩).at hvy
   have a1 : U.cell? ⟨w.heap.size, 0, none⟩ = some (.int .i64 v) := by simp only [World.cell?, p1]; rfl
   have a2 : U.cell? ⟨w.heap.size + 1, 0, none⟩ = some (.int .i64 0) := by simp only [World.cell?, p2]; rfl
   have a3 : U.frozen? ⟨w.heap.size + 1, 0, none⟩ = false := by simp [World.frozen?, p2]
   have c0' : U.cell? ⟨G, 0, none⟩ = some (.slice (some ⟨g', 0, none⟩) ys.length cap') := c0
   have n3' : U.cell? ⟨g', v * 6 + 3, none⟩ = some (.int .i64 ys[v].tg) := n3
   have f3 : U.frozen? ⟨g', v * 6 + 3, none⟩ = false := hfr _
   have j2' : (v : Int) < (ys.length : Int) := by omega
   have hly : ys.length ≤ 200000000 := by omega
   obtain ⟨hT1, hT2⟩ := hT i
   gi_wp2
   gi_region
   obtain ⟨X, hX⟩ : ∃ X, X = (U.setCell ⟨g', v * 6 + 3, none⟩ (.int .i64 i)).drew := ⟨_, rfl⟩
   have hXX : GX X lo G b R (toX ys v i) D (wk + 1) := by rw [hX]; exact hT1
   have kX : Gk lo G b U X := by rw [hX]; exact (Gk.of_sm (w := U) (w' := U.drew) ⟨rfl, rfl, rfl, rfl⟩).trans hT2
   rw [← hX]
   clear hX hT1 hT2
   have p2' := kX.keep _ _ p2 (by omega) (by omega) (by intro c fz e; exact absurd (cells_ty (congrArg some e)) (by decide))
   have p3' := kX.keep _ _ p3 (by omega) (by omega) (by intro c fz e; cases e)
   have b2 : X.cell? ⟨w.heap.size + 1, 0, none⟩ = some (.int .i64 0) := by simp only [World.cell?, p2']; rfl
   have b3 : X.frozen? ⟨w.heap.size + 1, 0, none⟩ = false := by simp [World.frozen?, p2']
   have hself := setCell_self p2' b2
   have kX' := kU.trans kX
   gi_wp2
   have hoth : ∀ k, k ≠ Dd → (X.putObj Dd (.deferred none)).heap[k]? = X.heap[k]? := fun k hne => World.putObj_heap_other hne
   refine ⟨by simp, .inl ⟨_, _, rfl, run_takeDeferred p3', ?_⟩⟩
   have r2 : (X.putObj Dd (.deferred none)).cell? ⟨w.heap.size + 1, 0, none⟩ = some (.int .i64 0) := by
    have := (hoth (w.heap.size + 1) (by omega)).trans p2'
    simp only [World.cell?, this]
    rfl
   refine ⟨.int .i64 0, by simp [results, Tryz.results48, go_sem, r2], ?_, .inr ⟨rfl, hno, ys, wk + 1, by omega, Nat.le_refl _, ?_, hd, hl, hlb, har, hins, hwk⟩⟩
   ·exact ⟨kX'.os, kX'.tape, kX'.output, by simpa using kX'.size, fun k hk => by rw [hoth k (by omega)]; exact kX'.low k hk, fun k o h1 h2 h3 h4 => by rw [hoth k (by have := lt_of_heap h1; omega)]; exact kX'.keep k o h1 h2 h3 h4⟩
   ·exact hXX.other p3' (by intro c t fz e; cases e) (by intro c t e; cases e) (by simp) ⟨rfl, rfl, rfl⟩ (fun k _ hne => hoth k hne)
  case stop =>
   rintro Dd U hDd hSp ⟨kU, p2⟩ p3
   have hoth : ∀ k, k ≠ Dd → (U.putObj Dd (.deferred none)).heap[k]? = U.heap[k]? := fun k hne => World.putObj_heap_other hne
   have r2 : (U.putObj Dd (.deferred none)).cell? ⟨w.heap.size + 1, 0, none⟩ = some (.int .i64 51) := by
    have := (hoth (w.heap.size + 1) (by omega)).trans p2
    simp only [World.cell?, this]
    rfl
   gi_wp2
   refine ⟨by simp, .inl ⟨_, _, rfl, run_takeDeferred p3, ?_⟩⟩
   refine ⟨.int .i64 51, by simp [results, Tryz.results48, go_sem, r2], ?_, .inl ⟨rfl, hSp⟩⟩
   exact ⟨kU.os, kU.tape, kU.output, by simpa using kU.size, fun k hk => by rw [hoth k (by omega)]; exact kU.low k hk, fun k o h1 h2 h3 h4 => by rw [hoth k (by have := lt_of_heap h1; omega)]; exact kU.keep k o h1 h2 h3 h4⟩
end Go.Proofs.YtikpipenhamdbaaGreat
