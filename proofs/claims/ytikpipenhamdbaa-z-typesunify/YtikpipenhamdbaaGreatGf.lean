/- The graph: the contract of bind, where the other node is no variable and has no arguments. -/
import Derived.Test.YtikpipenhamdbaaGreatMajx
import Derived.RangeFuncNested
import Derived.RangeFuncBound
import Derived.RangeFuncCalls
import Derived.RangeFuncLeaves
import Derived.Shelf.Abstract
import Derived.Shelf.RegionOpen
import Derived.OwnWalkIn
import Derived.TacticsInMore
import Derived.LoopNIn
import Derived.LoopIn
namespace Go.Proofs.YtikpipenhamdbaaGreat
open Go.RowKit Go.Maps Go.Shelf
attribute [local go_sem] Oper.semAt_some

/-- A range over a function that yields nothing. -/
theorem wpIn_rangeFunc_none {F : Fence} {n : Nat} {P : Program} {g : Operand} {ps : Array Tmp} {assign body : Code} {Q : Exit → Act → World → Prop} {a : Act} {w : World}
  (hro : F.round = none) (h1 : 1 ≤ n) {gf : Nat} {lb : Array Value} (hg : a.eval g = .func (.func gf) #[] lb) (hFg : F.fn gf) (eg : ∀ args w, (callFunc gf args).run P w = .ok (.enter gf args) w)
  (R : World → Prop)
  (hcall : ∀ r : Loop, CallsIn F (n - 1) P gf (#[.func (.yield (w.heap.size + 1)) #[] #[]] ++ lb) ((w.alloc (.deferred (some []))).alloc (.loop r)) fun e w' => (∃ v, e = .returned v) ∧ w'.heap[w.heap.size + 1]? = some (.loop r) ∧ R w')
  (hdone : ∀ (w' : World) (r r' : Loop), R w' → w'.heap[w.heap.size + 1]? = some (.loop r) → Q .normal { a with defers := { target := .collected w.heap.size, args := #[] } :: a.defers } (w'.putObj (w.heap.size + 1) (.loop r'))) :
  (Code.rangeFunc g ps assign body).wpIn F n P Q a w := by
 refine wpIn_rangeFunc ?_
 intro fn hfn
 rw [hro]
 obtain ⟨rec, hrec⟩ : ∃ rec : Loop, rec = { state := .ready, pending := none, fn, tmps := a.tmps, params := ps, assign, body, defers := w.heap.size } := ⟨_, rfl⟩
 obtain ⟨W1, hW1⟩ : ∃ W1, (w.alloc (.deferred (some []))).alloc (.loop rec) = W1 := ⟨_, rfl⟩
 refine ⟨w.heap.size + 1, [{ target := .collected w.heap.size, args := #[] }], W1, { target := .fn (.func gf) lb, args := #[.func (.yield (w.heap.size + 1)) #[] #[]] }, W1, gf,
  #[.func (.yield (w.heap.size + 1)) #[] #[]] ++ lb, W1, ?_, ?_, ?_, ?_, fun _ => h1, ?_⟩
 ·rw [← hW1, hrec]; exact run_enterLoop_outer _ _ _ _ _
 ·simp only [resolve, hg]
  simp [go_sem]
 ·intro f' hf'; simp [Target.leads] at hf'; subst hf'; exact hFg
 ·simp [invoke, go_sem, eg]
 ·rw [← hW1]
  refine (hcall rec).mono ?_
  rintro e w' ⟨⟨v, rfl⟩, hl, hR⟩
  refine ⟨rec.pending, _, run_endLoop (P := P) hl (by rw [hrec]; simp), ?_⟩
  rw [show rec.pending = none by rw [hrec]]
  exact hdone w' rec _ hR hl
/-- A block that is no cells and no map has turned. -/
theorem GX.other {w U : World} {lo G b wk m : Nat} {R : Nat → Prop} {xs : List Gx} {D : DataW Unit} {o : Obj} (h : GX w lo G b R xs D wk) (hm : w.heap[m]? = some o) (h1 : ∀ c t fz, o ≠ .cells c t fz) (h2 : ∀ es c, o ≠ .map es c) (hs : w.heap.size ≤ U.heap.size) (ho : U.os = w.os ∧ U.tape = w.tape ∧ U.output = w.output) (hb : ∀ k, k < w.heap.size → k ≠ m → U.heap[k]? = w.heap[k]?) : GX U lo G b R xs D wk := by
 obtain ⟨v, ns, e, h, hr⟩ := h
 have hc : ∀ (k : Nat) (c : Array Value) (t : TypeId) (fz : Nat × Nat), w.heap[k]? = some (Obj.cells c t fz) → U.heap[k]? = some (Obj.cells c t fz) := fun k c t fz hk => by
  rw [hb k (lt_of_heap hk) (fun e => by rw [e, hm] at hk; exact h1 _ _ _ (Option.some.inj hk))]
  exact hk
 refine ⟨v, ns, e, ⟨hc _ _ _ _ h.box, own_keep h.own fun k hk => ?_, h.map.kept (row := some m) ⟨ho.1, ho.2.1, ho.2.2, hs, fun k hk hne => hb k hk (fun e => hne (by rw [e]))⟩ (fun e => ?_), h.msz, fun n hn => ?_, h.loG, h.lob, h.num⟩, hr⟩
 ·rcases h.own.2 with ⟨h0, _⟩ | ⟨g', cap', cur, hv, _, hh, _⟩
  ·rw [h0] at hk; cases hk
  ·rw [hv] at hk
   cases hk
   exact (hc _ _ _ _ hh).trans hh.symm
 ·obtain ⟨es, clock, hbm, _⟩ := h.map
  rw [Option.some.inj e, hm] at hbm
  exact h2 _ _ (Option.some.inj hbm)
 ·rcases h.arg n hn with q1 | ⟨g, q1, q2, q3⟩
  ·exact .inl q1
  ·exact .inr ⟨g, q1, q2, hc _ _ _ _ q3⟩
theorem vars_in (G i : Nat) (w : World) : Calls Tryz.prog 68 #[.pointer (some ⟨G, 0, none⟩), .int .i64 i] w fun e w' => e = .returned (.func (.func 87) #[] #[.pointer (some ⟨w.heap.size, 0, none⟩), .pointer (some ⟨w.heap.size + 1, 0, none⟩)]) ∧ w' = (w.alloc (Obj.cells #[.pointer (some ⟨G, 0, none⟩)] 89)).alloc (Obj.cells #[.int .i64 i] 3) := by
 go_enter Tryz.func68, Tryz.ntmps68
 go_wp2
 go_ret
 exact ⟨by simp, rfl⟩
set_option maxHeartbeats 16000000 in
set_option maxRecDepth 100000 in
theorem bind_zero {lo G b wk : Nat} {xs : List Gx} {D : DataW Unit} (v i : Nat) (hv : v < xs.length) (hi : i < xs.length) (hin : xs[v].ins = true) (ht : xs[i].tg = i) (his : xs[i].is ≠ 2) (har : xs[i].ar = []) (hwk : xs[i].walk ≤ wk) (hwm : wk < 200000000) (w : World) (h : GX w lo G b (fun _ => False) xs D wk) :
  Calls Tryz.prog 48 #[.pointer (some ⟨G, 0, none⟩), .int .i64 v, .int .i64 i] w fun e w' => e = .returned (.int .i64 0) ∧ Gk lo G b w w' ∧ GX w' lo G b (fun _ => False) (toX (walkX xs i (wk + 1)) v i) D (wk + 1) := by
 refine (callsIn_wide (n := 6)).1 ?_
 obtain ⟨W, hW⟩ : ∃ W, W = (w.alloc (Obj.cells #[.int .i64 v] 3)).alloc (Obj.cells #[.int .i64 0] 30) := ⟨_, rfl⟩
 have hlt : lo ≤ w.heap.size ∧ G < w.heap.size ∧ b < w.heap.size := by
  obtain ⟨v, ns, _, hG, _⟩ := h
  exact hG.lt
 have hbW : Below w.heap.size w W := by rw [hW]; exact ((Below.refl _ _).alloc (Nat.le_refl _) _).alloc (by simp) _
 have hsW : W.heap.size = w.heap.size + 2 := by rw [hW]; simp
 have hx1 : W.heap[w.heap.size]? = some (.cells #[.int .i64 v] 3 (0, 0)) := by rw [hW, Below.heap_alloc _ _ _ (by simp)]; exact heap_alloc_new w _
 have hx2 : W.heap[w.heap.size + 1]? = some (.cells #[.int .i64 0] 30 (0, 0)) := by
  rw [hW]
  have := heap_alloc_new (w.alloc (Obj.cells #[.int .i64 v] 3)) (Obj.cells #[.int .i64 0] 30)
  simpa using this
 have hX := h.below hbW
 have hfn : Fence.wide.fn 48 := trivial
 refine callsIn_of_wp_marks Tryz.func48 rfl trivial ?_ rfl
 simp only [Tryz.ntmps48, List.size_toArray, List.length_cons, List.length_nil, Nat.reduceAdd, Nat.reduceSub, Array.replicate_succ, Array.replicate_zero, List.push_toArray, List.append_toArray, List.nil_append, List.cons_append]
 gi_wp2
 rw [← hW]
 clear hW
 obtain ⟨g, cap, ad, c0, c1, hgG, hfr, ⟨n0, n1, n2, n3, n4, n5⟩, _, _⟩ := hX.at hv
 rw [hin] at n4
 have x1 : W.cell? ⟨w.heap.size, 0, none⟩ = some (.int .i64 v) := by simp only [World.cell?, hx1]; rfl
 have hlen : xs.length ≤ 200000000 := by
  obtain ⟨v, ns, e, hG, _⟩ := h
  rw [← e, List.length_map]
  exact hG.num
 have j1 : (0 : Int) ≤ (v : Int) := by omega
 have j2 : (v : Int) < (xs.length : Int) := by omega
 gi_region
 obtain ⟨V, hV⟩ : ∃ V, V = W.drew := ⟨_, rfl⟩
 have sV : Sm W V := by rw [hV]; exact ⟨rfl, rfl, rfl, rfl⟩
 rw [← hV]
 clear hV c0 c1 hfr n0 n1 n2 n3 n4 n5 x1
 have hXV := hX.sm sV
 have y1 : V.heap[w.heap.size]? = some (.cells #[.int .i64 v] 3 (0, 0)) := by rw [sV.heap]; exact hx1
 have y2 : V.heap[w.heap.size + 1]? = some (.cells #[.int .i64 0] 30 (0, 0)) := by rw [sV.heap]; exact hx2
 have hsV : V.heap.size = w.heap.size + 2 := by rw [sV.heap]; exact hsW
 have bV : Below w.heap.size w V := hbW.trans (sV.below _)
 clear hX hx1 hx2 hsW hbW sV
 have C44 := vars_in G i V
 obtain ⟨V1, hV1⟩ : ∃ V1, V1 = (V.alloc (Obj.cells #[.pointer (some ⟨G, 0, none⟩)] 89)).alloc (Obj.cells #[.int .i64 i] 3) := ⟨_, rfl⟩
 rw [← hV1] at C44
 have b1 : Below V.heap.size V V1 := by rw [hV1]; exact ((Below.refl _ _).alloc (Nat.le_refl _) _).alloc (by simp) _
 have hs1 : V1.heap.size = w.heap.size + 4 := by rw [hV1]; simp; omega
 have z1 : V1.heap[V.heap.size]? = some (.cells #[.pointer (some ⟨G, 0, none⟩)] 89 (0, 0)) := by rw [hV1, Below.heap_alloc _ _ _ (by simp)]; exact heap_alloc_new V _
 have z2 : V1.heap[V.heap.size + 1]? = some (.cells #[.int .i64 i] 3 (0, 0)) := by
  rw [hV1]
  have := heap_alloc_new (V.alloc (Obj.cells #[.pointer (some ⟨G, 0, none⟩)] 89)) (Obj.cells #[.int .i64 i] 3)
  simpa using this
 clear hV1
 have hfk : Fence.wide.fn 68 := trivial
 gi_wp2_with (gi_at_call 68; refine (callsIn_wide.2 C44).mono ?_; rintro e' w1 ⟨rfl, rfl⟩)
 have hXw := hXV.below b1
 have k1 : Gk lo G b w w1 := (Gk.of_below bV hlt.1).trans (Gk.of_below b1 (by omega))
 have u1 : w1.heap[w.heap.size]? = some (.cells #[.int .i64 v] 3 (0, 0)) := (b1.block _ (by omega)).trans y1
 have u2 : w1.heap[w.heap.size + 1]? = some (.cells #[.int .i64 0] 30 (0, 0)) := (b1.block _ (by omega)).trans y2
 rw [hsV] at z1 z2
 clear b1 bV y1 y2 C44 hXV hsV
 refine wpIn_rangeFunc_none rfl (by omega) (gf := 87) (lb := #[.pointer (some ⟨w.heap.size + 2, 0, none⟩), .pointer (some ⟨w.heap.size + 2 + 1, 0, none⟩)]) rfl trivial (enters_of Tryz.func87 (by kernel_rfl) rfl) (fun w' => Gk lo G b w w' ∧ GX w' lo G b (fun _ => False) (walkX xs i (wk + 1)) D (wk + 1) ∧ w'.heap[w.heap.size]? = some (.cells #[.int .i64 v] 3 (0, 0)) ∧ w'.heap[w.heap.size + 1]? = some (.cells #[.int .i64 0] 30 (0, 0)) ∧ w'.heap[w1.heap.size]? = some (.deferred (some [])) ∧ w1.heap.size + 2 ≤ w'.heap.size) ?call ?done
 case call =>
  intro r
  have hb2 : Below w1.heap.size w1 ((w1.alloc (.deferred (some []))).alloc (.loop r)) := ((Below.refl _ _).alloc (Nat.le_refl _) _).alloc (by simp) _
  obtain ⟨W2, hW2⟩ : ∃ W2, W2 = (w1.alloc (.deferred (some []))).alloc (.loop r) := ⟨_, rfl⟩
  have l1 : W2.heap[w1.heap.size]? = some (.deferred (some [])) := by rw [hW2, Below.heap_alloc _ _ _ (by simp)]; exact heap_alloc_new w1 _
  have l2 : W2.heap[w1.heap.size + 1]? = some (.loop r) := by
   rw [hW2]
   have := heap_alloc_new (w1.alloc (.deferred (some []))) (.loop r)
   simpa using this
  have hs2 : W2.heap.size = w1.heap.size + 2 := by rw [hW2]; simp
  rw [← hW2] at hb2 ⊢
  clear hW2
  have hX2 := hXw.below hb2
  have cc : ∀ {k : Nat} {x : Value} {t : TypeId} {w' : World}, w'.heap[k]? = some (.cells #[x] t (0, 0)) → w'.cell? ⟨k, 0, none⟩ = some x := fun h => by simp only [World.cell?, h]; rfl
  have z1' := (hb2.block _ (by omega)).trans z1
  have z2' := (hb2.block _ (by omega)).trans z2
  have hkp : ∀ w', Gk lo G b W2 w' → w'.cell? ⟨w.heap.size + 2, 0, none⟩ = some (.pointer (some ⟨G, 0, none⟩)) ∧ w'.cell? ⟨w.heap.size + 2 + 1, 0, none⟩ = some (.int .i64 i) := fun w' hk =>
   ⟨cc (hk.keep _ _ z1' (by omega) (by omega) (by intro c fz e; exact absurd (cells_ty (congrArg some e)) (by decide))), cc (hk.keep _ _ z2' (by omega) (by omega) (by intro c fz e; exact absurd (cells_ty (congrArg some e)) (by decide)))⟩
  refine callsIn_wide.2 (Calls.mono (iter_none i hi ht his har hwk hwm (.func (.yield (w1.heap.size + 1)) #[] #[]) (w.heap.size + 2) (w.heap.size + 2 + 1) W2 hX2 (cc z1') hkp) ?_)
  rintro e w' ⟨rfl, hk, hx⟩
  refine ⟨⟨_, rfl⟩, hk.keep _ _ l2 (by omega) (by omega) (by intro c fz e; cases e), (k1.trans (Gk.of_below hb2 (by omega))).trans hk, hx, ?_, ?_, hk.keep _ _ l1 (by omega) (by omega) (by intro c fz e; cases e), by have := hk.size; omega⟩
  ·exact hk.keep _ _ ((hb2.block _ (by omega)).trans u1) (by omega) (by omega) (by intro c fz e; exact absurd (cells_ty (congrArg some e)) (by decide))
  ·exact hk.keep _ _ ((hb2.block _ (by omega)).trans u2) (by omega) (by omega) (by intro c fz e; exact absurd (cells_ty (congrArg some e)) (by decide))
 case done =>
  rintro w' r r' ⟨hk, hx, q1, q2, q3, q4⟩ hl
  obtain ⟨U, hU⟩ : ∃ U, U = w'.putObj (w1.heap.size + 1) (.loop r') := ⟨_, rfl⟩
  have hoth : ∀ k, k ≠ w1.heap.size + 1 → U.heap[k]? = w'.heap[k]? := fun k hne => by rw [hU]; exact World.putObj_heap_other (fun e => hne e)
  have hsU : U.heap.size = w'.heap.size := by rw [hU]; simp [World.putObj]
  have hou : U.os = w'.os ∧ U.tape = w'.tape ∧ U.output = w'.output := by rw [hU]; exact ⟨rfl, rfl, rfl⟩
  rw [← hU]
  clear hU
  have hxU : GX U lo G b (fun _ => False) (walkX xs i (wk + 1)) D (wk + 1) := hx.other hl (by intro c t fz e; cases e) (by intro c t e; cases e) (by omega) hou (fun k _ hne => hoth k hne)
  have kU : Gk lo G b w U := ⟨hou.1.trans hk.os, hou.2.1.trans hk.tape, hou.2.2.trans hk.output, by have := hk.size; omega, fun k hkl => by rw [hoth k (by omega)]; exact hk.low k hkl, fun k o h1 h2 h3 h4 => by rw [hoth k (by have := lt_of_heap h1; omega)]; exact hk.keep k o h1 h2 h3 h4⟩
  have p1 : U.heap[w.heap.size]? = some (.cells #[.int .i64 v] 3 (0, 0)) := (hoth _ (by omega)).trans q1
  have p2 : U.heap[w.heap.size + 1]? = some (.cells #[.int .i64 0] 30 (0, 0)) := (hoth _ (by omega)).trans q2
  have p3 : U.heap[w1.heap.size]? = some (.deferred (some [])) := (hoth _ (by omega)).trans q3
  clear hoth hx q1 q2 q3 hl hou hk
  have hvw : v < (walkX xs i (wk + 1)).length := by simpa [walkX] using hv
  obtain ⟨g', cap', ad', c0, c1, hgG', hfr, hn, _, hT⟩ := (hxU.sm (w' := U.drew) ⟨rfl, rfl, rfl, rfl⟩).at hvw
  have hll : (walkX xs i (wk + 1)).length = xs.length := by simp [walkX]
  rw [hll] at c0
  have a1 : U.cell? ⟨w.heap.size, 0, none⟩ = some (.int .i64 v) := by simp only [World.cell?, p1]; rfl
  have a2 : U.cell? ⟨w.heap.size + 1, 0, none⟩ = some (.int .i64 0) := by simp only [World.cell?, p2]; rfl
  have a3 : U.frozen? ⟨w.heap.size + 1, 0, none⟩ = false := by simp [World.frozen?, p2]
  have c0' : U.cell? ⟨G, 0, none⟩ = some (.slice (some ⟨g', 0, none⟩) xs.length cap') := c0
  have f3 : U.frozen? ⟨g', v * 6 + 3, none⟩ = false := hfr _
  obtain ⟨hT1, hT2⟩ := hT i
  gi_wp2
  gi_region
  obtain ⟨X, hX⟩ : ∃ X, X = (U.setCell ⟨g', v * 6 + 3, none⟩ (.int .i64 i)).drew := ⟨_, rfl⟩
  have hXX : GX X lo G b (fun _ => False) (toX (walkX xs i (wk + 1)) v i) D (wk + 1) := by rw [hX]; exact hT1
  have kX : Gk lo G b U X := by rw [hX]; exact (Gk.of_sm (w := U) (w' := U.drew) ⟨rfl, rfl, rfl, rfl⟩).trans hT2
  rw [← hX]
  clear hX hT1 hT2
  have p2' := kX.keep _ _ p2 (by omega) (by omega) (by intro c fz e; exact absurd (cells_ty (congrArg some e)) (by decide))
  have p3' := kX.keep _ _ p3 (by omega) (by omega) (by intro c fz e; cases e)
  have b2 : X.cell? ⟨w.heap.size + 1, 0, none⟩ = some (.int .i64 0) := by simp only [World.cell?, p2']; rfl
  have b3 : X.frozen? ⟨w.heap.size + 1, 0, none⟩ = false := by simp [World.frozen?, p2']
  have hself := setCell_self p2' b2
  have kX' := kU.trans kX
  gi_wp2
  have hoth : ∀ k, k ≠ w1.heap.size → (X.putObj w1.heap.size (.deferred none)).heap[k]? = X.heap[k]? := fun k hne => World.putObj_heap_other hne
  refine ⟨by simp, .inl ⟨_, _, rfl, run_takeDeferred p3', ?_⟩⟩
  have r2 : (X.putObj w1.heap.size (.deferred none)).cell? ⟨w.heap.size + 1, 0, none⟩ = some (.int .i64 0) := by
   have := (hoth (w.heap.size + 1) (by omega)).trans p2'
   simp only [World.cell?, this]
   rfl
  refine ⟨.int .i64 0, ?_, rfl, ?_, ?_⟩
  ·simp [results, Tryz.results48, go_sem, r2]
  ·exact ⟨kX'.os, kX'.tape, kX'.output, by simpa using kX'.size, fun k hk => by rw [hoth k (by omega)]; exact kX'.low k hk, fun k o h1 h2 h3 h4 => by rw [hoth k (by have := lt_of_heap h1; omega)]; exact kX'.keep k o h1 h2 h3 h4⟩
  ·exact hXX.other p3' (by intro c t fz e; cases e) (by intro c t e; cases e) (by simp) ⟨rfl, rfl, rfl⟩ (fun k _ hne => hoth k hne)
end Go.Proofs.YtikpipenhamdbaaGreat
