/- The graph: a node's marks; the contract of lay at a variable that is there, and at a function. -/
import Derived.Test.YthcejnpknjepfaaGreatDoorGb
namespace Go.Proofs.YthcejnpknjepfaaGreatDoor
open Go.RowKit Go.Maps

/-- A node, but for where its arguments lie. -/
structure Gx where
  is : Int
  name : List UInt8
  ar : List Nat
  tg : Nat
  ins : Bool
  walk : Nat
def Gn.st (n : Gn) : Gx := { is := n.is, name := n.name, ar := n.ar, tg := n.tg, ins := n.ins, walk := n.walk }
/-- The graph in memory, wherever its rows lie; of the blocks of which R says so none is a node's. -/
def GX (w : World) (lo G b : Nat) (R : Nat → Prop) (xs : List Gx) (D : DataW Unit) (wk : Nat) : Prop := ∃ v ns, ns.map Gn.st = xs ∧ GS w lo G b v ns D wk ∧ ∀ n ∈ ns, n.ar ≠ [] → ∀ g, R g → n.ad ≠ some ⟨g, 0, none⟩
/-- What a call of lay does. -/
def LayP (lo G b wk : Nat) (x : Value) (xs : List Gx) (D : DataW Unit) (i : Nat) (xs' : List Gx) (D' : DataW Unit) : Prop :=
  ∀ (w : World) (R : Nat → Prop), (∀ g, R g → g < w.heap.size) → GX w lo G b R xs D wk → Calls Tryz.prog 41 #[.pointer (some ⟨G, 0, none⟩), x] w fun e w' => e = .returned (.int .i64 i) ∧ Gk lo G b w w' ∧ GX w' lo G b R xs' D' wk
/-- One cell of a node has turned. -/
theorem GS.node {w : World} {lo G b : Nat} {v : Value} {ns : List Gn} {D : DataW Unit} {wk : Nat} (h : GS w lo G b v ns D wk) {i : Nat} (hi : i < ns.length) (n' : Gn) (hn' : n'.ar = ns[i].ar ∧ n'.ad = ns[i].ad) {j : Nat} (hj : j < 6) {u : Value} (hu : gnC n' = (gnC ns[i]).set j u) :
    ∃ g cap, v = .slice (some ⟨g, 0, none⟩) ns.length cap ∧ GS (w.setCell ⟨g, i * 6 + j, none⟩ u) lo G b v (ns.set i n') D wk ∧ Gk lo G b w (w.setCell ⟨g, i * 6 + j, none⟩ u) := by
  obtain ⟨g, cap, rfl, hg, hlt, ⟨cur, hcur⟩, _⟩ := h.cells hi
  refine ⟨g, cap, rfl, ?_, ?_⟩
  · have hoth : ∀ k, k ≠ g → (w.setCell ⟨g, i * 6 + j, none⟩ u).heap[k]? = w.heap[k]? := fun k hk => Below.heap_setCell _ _ _ _ hk
    have hne : ∀ k (o : Obj), w.heap[k]? = some o → (∀ c fz, o ≠ .cells c 107 fz) → k ≠ g := fun k o h1 h2 e => by
      rw [e, hcur] at h1
      exact h2 _ _ (Option.some.inj h1).symm
    have hset : (ns.set i n').flatMap gnC = (ns.flatMap gnC).set (i * 6 + j) u := by
      have key : ∀ (ns : List Gn) (i : Nat) (hi : i < ns.length), gnC n' = (gnC ns[i]).set j u → (ns.set i n').flatMap gnC = (ns.flatMap gnC).set (i * 6 + j) u := by
        intro ns
        induction ns with
        | nil => intro i hi; simp at hi
        | cons a r ih =>
          intro i hi hu
          cases i with
          | zero =>
            have hu : gnC n' = (gnC a).set j u := hu
            simp only [List.set_cons_zero, List.flatMap_cons]
            rw [hu, show 0 * 6 + j = j by omega, List.set_append_left _ _ (by simp [gnC]; omega)]
          | succ i =>
            simp only [List.set_cons_succ, List.flatMap_cons]
            rw [ih i (by simpa using hi) (by simpa using hu), List.set_append_right _ _ (by simp [gnC]; omega)]
            congr 2
            simp [gnC]
            omega
      exact key ns i hi hu
    have hst := (h.own.stored (i * 6 + j) u).1
    refine ⟨?_, ?_, ?_, by rw [List.length_set]; exact h.msz, fun n hn => ?_, h.loG, h.lob, by rw [List.length_set]; exact h.num⟩
    · rw [hoth G (hne G _ h.box (by intro c fz e; exact absurd (cells_ty (congrArg some e)) (by decide)))]
      exact h.box
    · rw [List.length_set, hset]
      exact hst
    · exact h.map.setCell (fun e => by
        obtain ⟨es, clock, hb, _⟩ := h.map
        have e : b = g := e
        rw [e, hcur] at hb
        cases hb) _
    · have hn : ∃ n0 ∈ ns, n.ar = n0.ar ∧ n.ad = n0.ad := by
        rcases List.mem_or_eq_of_mem_set hn with hn | hn
        · exact ⟨n, hn, rfl, rfl⟩
        · exact ⟨ns[i], List.getElem_mem hi, by rw [hn]; exact hn'.1, by rw [hn]; exact hn'.2⟩
      obtain ⟨n0, hm, e1, e2⟩ := hn
      rcases h.arg n0 hm with h1 | ⟨g', h1, h2, h3⟩
      · exact .inl (by rw [e1]; exact h1)
      · refine .inr ⟨g', by rw [e2]; exact h1, h2, ?_⟩
        rw [hoth g' (hne g' _ h3 (by intro c fz e; exact absurd (cells_ty (congrArg some e)) (by decide))), e1]
        exact h3
  · refine ⟨rfl, rfl, rfl, by simp [World.setCell], fun k hk => Below.heap_setCell _ _ _ _ (show k ≠ g by omega), fun k o h1 _ _ h4 => ?_⟩
    rw [Below.heap_setCell _ _ _ _ (show k ≠ g from fun e => by
      rw [e, hcur] at h1
      exact h4 _ _ (Option.some.inj h1).symm)]
    exact h1
set_option maxHeartbeats 16000000 in
set_option maxRecDepth 10000 in
/-- A variable that is there. -/
theorem lay_old {w : World} {lo G b : Nat} {v : Value} {ns : List Gn} {D : DataW Unit} {wk : Nat} (h : GS w lo G b v ns D wk) (n : List UInt8) (ad : Option Addr) (cap i : Nat) (hn : n.length < 140737488355328) (hf : formN 2 n 0 = 2) (hD : Maps.has D (.string n) = true) (hat : D.atKey (.string n) (.lit (.int .i64 0)) = .lit (.int .i64 i)) :
    Calls Tryz.prog 41 #[.pointer (some ⟨G, 0, none⟩), .agg #[.int .i64 2, .string ⟨n.toArray⟩, .slice ad 0 cap]] w fun e w' => e = .returned (.int .i64 i) ∧ Gk lo G b w w' ∧ GS w' lo G b v ns D wk := by
  have CF := fun W => formOf_any 2 n ad 0 cap W hn (by omega)
  rw [hf] at CF
  obtain ⟨W, hW, hbW, hsW, b0, b1, b2⟩ := cells_box w (.int .i64 2) (.string ⟨n.toArray⟩) (.slice ad 0 cap) 24
  have HX : Hid (∀ w1, Below W.heap.size W w1 → GS w1 lo G b v ns D wk ∧ Gk lo G b w w1 ∧ w1.heap[w.heap.size]? = some (.cells #[.int .i64 2, .string ⟨n.toArray⟩, .slice ad 0 cap] 24 (0, 0))) := fun w1 hb => by
    have hb0 : Below w.heap.size w w1 := hbW.trans (hb.mono hbW.size)
    refine ⟨h.below hb0, Gk.of_below hb0 h.lt.1, ?_⟩
    rw [hb.block _ (by omega), hW]
    exact heap_alloc_new w _
  clear hbW hsW b0 b1 b2 h
  go_enter Tryz.func41, Tryz.ntmps41
  go_upto_region 1 with fail
  rw [← hW]
  clear hW
  obtain ⟨_, _, hbx⟩ := HX.out W (Below.refl _ _)
  obtain ⟨a0, a1, a2⟩ := heap_cells hbx
  go_upto_region 2 with (first | (go_at_call 54; (with_reducible refine Calls.mono (CF _) ?_); rintro e' w1 ⟨rfl, hb1⟩))
  obtain ⟨h1, k1, hbx1⟩ := HX.out _ hb1
  obtain ⟨x0, x1, x2⟩ := heap_cells hbx1
  obtain ⟨c0, c1, c2⟩ := heap_cells h1.box
  have hrun : ∀ m, (Instr.lookup 77 (.map (some b)) (.string ⟨n.toArray⟩) true).run Tryz.prog (w1.drewN m) = .ok (.tuple #[.int .i64 i, .bool true]) (w1.drewN m) := fun m => by
    obtain ⟨lc', hr, hat'⟩ := (h1.sm (w' := w1.drewN m) ⟨rfl, rfl, rfl, rfl⟩).look n hn
    rw [hat] at hat'
    cases hat'
    rw [hr, hD]
  clear CF hbx a0 a1 a2
  go_quiet (fail)
  go_wp2
  go_ret
  exact ⟨rfl, k1.trans (Gk.of_sm ⟨rfl, rfl, rfl, rfl⟩), h1.sm ⟨rfl, rfl, rfl, rfl⟩⟩
theorem layP_leaf (lo G b wk : Nat) (k : Int) (n : List UInt8) (ad : Option Addr) (cap : Nat) (xs : List Gx) (D : DataW Unit) (hn : n.length < 140737488355328) (hk : k = 1 ∨ k = 2) (hf : formN k n 0 = k) (hD : Maps.has D (.string n) = false) (hnum : xs.length < 1000000) :
    LayP lo G b wk (.agg #[.int .i64 k, .string ⟨n.toArray⟩, .slice ad 0 cap]) xs D xs.length (xs ++ [{ is := k, name := n, ar := [], tg := xs.length, ins := false, walk := 0 }]) (if k = 2 then D.put (.string n) (.lit (.int .i64 xs.length)) else D) := by
  intro w R hR hX
  obtain ⟨v, ns, rfl, h, hr⟩ := hX
  rw [List.length_map] at hnum ⊢
  refine Calls.mono (lay_leaf h k n ad cap hn hk hf hD hnum) ?_
  rintro e w' ⟨rfl, hk', v', za, hza, hG⟩
  refine ⟨rfl, hk', v', _, ?_, hG, fun m hm h0 => ?_⟩
  · simp [Gn.st]
  · rcases List.mem_append.1 hm with hm | hm
    · exact hr m hm h0
    · have hm := List.mem_singleton.1 hm
      rw [hm] at h0
      exact absurd rfl h0
theorem layP_old (lo G b wk : Nat) (n : List UInt8) (ad : Option Addr) (cap i : Nat) (xs : List Gx) (D : DataW Unit) (hn : n.length < 140737488355328) (hf : formN 2 n 0 = 2) (hD : Maps.has D (.string n) = true) (hat : D.atKey (.string n) (.lit (.int .i64 0)) = .lit (.int .i64 i)) :
    LayP lo G b wk (.agg #[.int .i64 2, .string ⟨n.toArray⟩, .slice ad 0 cap]) xs D i xs D := by
  intro w R hR hX
  obtain ⟨v, ns, rfl, h, hr⟩ := hX
  refine Calls.mono (lay_old h n ad cap i hn hf hD hat) ?_
  rintro e w' ⟨rfl, hk', hG⟩
  exact ⟨rfl, hk', v, ns, rfl, hG, hr⟩
theorem GX.below {w w' : World} {lo G b wk : Nat} {R : Nat → Prop} {xs : List Gx} {D : DataW Unit} (h : GX w lo G b R xs D wk) (hb : Below w.heap.size w w') : GX w' lo G b R xs D wk := by
  obtain ⟨v, ns, e, hG, hr⟩ := h
  exact ⟨v, ns, e, hG.below hb, hr⟩
theorem GX.sm {w w' : World} {lo G b wk : Nat} {R : Nat → Prop} {xs : List Gx} {D : DataW Unit} (h : GX w lo G b R xs D wk) (s : Sm w w') : GX w' lo G b R xs D wk := by
  obtain ⟨v, ns, e, hG, hr⟩ := h
  exact ⟨v, ns, e, hG.sm s, hr⟩
/-- A cell of a row of numbers that no node has. -/
theorem GX.aside {w : World} {lo G b wk za : Nat} {R : Nat → Prop} {xs : List Gx} {D : DataW Unit} (h : GX w lo G b R xs D wk) (hza : R za) {cs : Array Value} (hb : w.heap[za]? = some (.cells cs 3 (0, 0))) (j : Nat) (u : Value) : GX (w.setCell ⟨za, j, none⟩ u) lo G b R xs D wk := by
  obtain ⟨v, ns, e, h, hr⟩ := h
  have hoth : ∀ k, k ≠ za → (w.setCell ⟨za, j, none⟩ u).heap[k]? = w.heap[k]? := fun k hk => Below.heap_setCell _ _ _ _ hk
  refine ⟨v, ns, e, ⟨?_, own_keep h.own fun k hk => hoth k (fun e => ?_), h.map.setCell (fun e => ?_) _, h.msz, fun n hn => ?_, h.loG, h.lob, h.num⟩, hr⟩
  · rw [hoth G (fun e => by rw [← e, h.box] at hb; exact absurd (cells_ty hb) (by decide))]
    exact h.box
  · rcases h.own.2 with ⟨h0, _⟩ | ⟨g', cap', cur, hv, _, hh, _⟩
    · rw [h0] at hk; cases hk
    · rw [hv] at hk
      cases hk
      have e : g' = za := e
      rw [e, hb] at hh
      exact absurd (cells_ty hh) (by decide)
  · obtain ⟨es, clock, hbm, _⟩ := h.map
    have e : b = za := e
    rw [e, hb] at hbm
    cases hbm
  · by_cases h0 : n.ar = []
    · exact .inl h0
    · rcases h.arg n hn with h1 | ⟨g, h1, h2, h3⟩
      · exact .inl h1
      · exact .inr ⟨g, h1, h2, by rw [hoth g (fun e => hr n hn h0 za hza (by rw [h1, e]))]; exact h3⟩
/-- A new block is no node's. -/
theorem GX.fresh {w : World} {lo G b wk : Nat} {R : Nat → Prop} {xs : List Gx} {D : DataW Unit} (h : GX w lo G b R xs D wk) (o : Obj) : GX (w.alloc o) lo G b (fun g => g = w.heap.size) xs D wk := by
  obtain ⟨v, ns, e, hG, hr⟩ := h
  refine ⟨v, ns, e, hG.below ((Below.refl _ _).alloc (Nat.le_refl _) o), fun n hn h0 g hg e => ?_⟩
  rcases hG.arg n hn with h1 | ⟨g', h1, h2, h3⟩
  · exact h0 h1
  · rw [h1] at e
    have e : g' = g := by cases e; rfl
    have := lt_of_heap h3
    have hg : g = w.heap.size := hg
    omega
end Go.Proofs.YthcejnpknjepfaaGreatDoor
