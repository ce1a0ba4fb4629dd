/- The graph: what a step may turn; the contract of lay at a type without arguments. -/
import Derived.Test.YtgdflaapgfpdeaaGreatDoorGa
import Derived.StringKeys
namespace Go.Proofs.YtgdflaapgfpdeaaGreatDoor
open Go.RowKit Go.Maps

/-- From w to w' nothing has turned but the graph's box G, its map b and its row of nodes, all from lo on. -/
structure Gk (lo G b : Nat) (w w' : World) : Prop where
  os : w'.os = w.os
  tape : w'.tape = w.tape
  output : w'.output = w.output
  size : w.heap.size ≤ w'.heap.size
  low : ∀ k, k < lo → w'.heap[k]? = w.heap[k]?
  keep : ∀ k o, w.heap[k]? = some o → k ≠ G → k ≠ b → (∀ c fz, o ≠ .cells c 122 fz) → w'.heap[k]? = some o
theorem Gk.refl (lo G b : Nat) (w : World) : Gk lo G b w w := ⟨rfl, rfl, rfl, Nat.le_refl _, fun _ _ => rfl, fun _ _ h _ _ _ => h⟩
theorem Gk.trans {lo G b : Nat} {w1 w2 w3 : World} (h : Gk lo G b w1 w2) (k : Gk lo G b w2 w3) : Gk lo G b w1 w3 :=
  ⟨k.os.trans h.os, k.tape.trans h.tape, k.output.trans h.output, Nat.le_trans h.size k.size, fun i hi => (k.low i hi).trans (h.low i hi), fun i o h1 h2 h3 h4 => k.keep i o (h.keep i o h1 h2 h3 h4) h2 h3 h4⟩
theorem Gk.of_below {lo G b : Nat} {w w' : World} (h : Below w.heap.size w w') (hl : lo ≤ w.heap.size) : Gk lo G b w w' :=
  ⟨h.os, h.tape, h.output, h.size, fun i hi => h.block i (by omega), fun i o h1 _ _ _ => (h.block i (lt_of_heap h1)).trans h1⟩
theorem Gk.of_sm {lo G b : Nat} {w w' : World} (h : Sm w w') : Gk lo G b w w' :=
  ⟨h.os, h.tape, h.output, by rw [h.heap]; exact Nat.le_refl _, fun i _ => by rw [h.heap], fun i o h1 _ _ _ => by rw [h.heap]; exact h1⟩
theorem GS.lt {w : World} {lo G b : Nat} {v : Value} {ns : List Gn} {D : DataW Unit} {wk : Nat} (h : GS w lo G b v ns D wk) : lo ≤ w.heap.size ∧ G < w.heap.size ∧ b < w.heap.size := by
  have := lt_of_heap h.box
  have := h.loG
  exact ⟨by omega, by omega, h.map.lt⟩
theorem GS.below {w w' : World} {lo G b : Nat} {v : Value} {ns : List Gn} {D : DataW Unit} {wk : Nat} (h : GS w lo G b v ns D wk) (hb : Below w.heap.size w w') : GS w' lo G b v ns D wk :=
  ⟨(hb.block G h.lt.2.1).trans h.box, own_keep h.own fun k hk => hb.block k (h.own.lt k hk).2, h.map.kept (row := none) ⟨hb.os, hb.tape, hb.output, hb.size, fun k hk _ => hb.block k hk⟩ (by simp), h.msz, fun n hn => by
    rcases h.arg n hn with h1 | ⟨g, h1, h2, h3⟩
    · exact .inl h1
    · exact .inr ⟨g, h1, h2, (hb.block g (lt_of_heap h3)).trans h3⟩, h.loG, h.lob, h.num⟩
theorem law9 : Keyed Tryz.prog 9 := string_keyed Tryz.underlying9
theorem key9 (n : List UInt8) (hn : n.length < 140737488355328) : keyOf Tryz.prog 9 (.string ⟨n.toArray⟩) = some (.string n) := by
  have := Go.WideMaps.keyOf_string_mk (P := Tryz.prog) Tryz.underlying9 (s := ⟨n.toArray⟩) (by show n.toArray.size ≤ maxLen; unfold maxLen; simp; omega)
  simpa using this
theorem cells_ty {c c' : Array Value} {t t' : TypeId} {f f' : Nat × Nat} (h : some (Obj.cells c t f) = some (Obj.cells c' t' f')) : t = t' := by
  have := Option.some.inj h
  injection this
theorem GS.form {w : World} {lo G b : Nat} {v : Value} {ns : List Gn} {D : DataW Unit} {wk : Nat} (h : GS w lo G b v ns D wk) : ∃ va vc, v = .slice va ns.length vc := by
  rcases h.own.2 with ⟨h0, h1⟩ | ⟨g, cap, _, h1, _⟩
  · exact ⟨none, 0, by rw [h0, h1]⟩
  · exact ⟨_, cap, h1⟩
theorem Tryz.info3 : (Tryz.prog.info? 3).map (fun i => (i.zero, i.size, i.bytes)) = some (some (.int .i64 0), 1, 8) := by kernel_rfl
theorem make_ints (w : World) (n : Nat) (hn : n ≤ 1000) : (Instr.makeSlice 25 (.int .i64 n) (.int .i64 n)).run Tryz.prog w = .ok (.slice (some ⟨w.heap.size, 0, none⟩) n n) (w.alloc (.cells (madeCells (Value.int .i64 0).cells n) 3)) := by
  obtain ⟨i0, hi, hz0, hz1, hz2⟩ := info_parts Tryz.info3
  have := run_makeSlice (P := Tryz.prog) w 25 3 i0 _ Tryz.underlying25 hi hz0 .i64 .i64 n n (by omega) (Int.le_refl _) (by rw [hz1]; simp; omega) (by rw [hz2]; omega) (by omega)
  rw [hz1] at this
  simpa using this
theorem own_tight {w : World} {b n : Nat} {D : DataW Unit} (h : w.ownsMap Tryz.prog 9 (plainElem Tryz.prog 3) b n D) : w.ownsMap Tryz.prog 9 (plainElem Tryz.prog 3) b (Maps.size D) D := by
  obtain ⟨es, clock, h1, h2, h3, rfl⟩ := h
  exact ⟨es, clock, h1, h2, by simp [Maps.size, length_sorted], rfl⟩
/-- The map has turned. -/
theorem GS.mapped {w w' : World} {lo G b m : Nat} {v : Value} {ns : List Gn} {D D' : DataW Unit} {wk : Nat} (h : GS w lo G b v ns D wk) (hm : w'.ownsMap Tryz.prog 9 (plainElem Tryz.prog 3) b m D') (hg : w.grownBy w' (some b)) (hs : m ≤ ns.length) : GS w' lo G b v ns D' wk ∧ Gk lo G b w w' := by
  have hbm : ∃ es clock, w.heap[b]? = some (.map es clock) := by
    obtain ⟨es, clock, h1, _⟩ := h.map
    exact ⟨es, clock, h1⟩
  obtain ⟨es, clock, hbm⟩ := hbm
  have kb : ∀ k, k < w.heap.size → k ≠ b → w'.heap[k]? = w.heap[k]? := fun k hk hne => hg.block k hk (fun e => hne (Option.some.inj e))
  refine ⟨⟨?_, own_keep h.own fun k hk => kb k (h.own.lt k hk).2 (fun e => ?_), own_tight hm, Nat.le_trans hm.size_le hs, fun n hn => ?_, h.loG, h.lob, h.num⟩, hg.os, hg.tape, hg.output, hg.size, fun k hk => kb k (by have := h.lt.1; omega) (by have := h.lob; omega), fun k o h1 _ h3 _ => (kb k (lt_of_heap h1) h3).trans h1⟩
  · rw [kb G h.lt.2.1 (fun e => by rw [← e, h.box] at hbm; cases hbm)]
    exact h.box
  · rcases h.own.2 with ⟨h0, _⟩ | ⟨g', cap', cur, hv, _, hh, _⟩
    · rw [h0] at hk; cases hk
    · rw [hv] at hk
      cases hk
      have e : g' = b := e
      rw [e, hbm] at hh
      cases hh
  · rcases h.arg n hn with h1 | ⟨g, h1, h2, h3⟩
    · exact .inl h1
    · refine .inr ⟨g, h1, h2, ?_⟩
      rw [kb g (lt_of_heap h3) (fun e => by rw [e, hbm] at h3; cases h3)]
      exact h3
/-- A node more: the row, the box that leads to it. -/
theorem GS.put {w w5 : World} {lo G b g cap : Nat} {v : Value} {ns : List Gn} {D : DataW Unit} {wk : Nat} {o : Obj} {n : Gn} (h : GS w lo G b v ns D wk) (hnum : ns.length < 1000000) (hn : n.ar = [] ∨ ∃ g, n.ad = some ⟨g, 0, none⟩ ∧ lo ≤ g ∧ w.heap[g]? = some (.cells (n.ar.map fun (x : Nat) => Value.int .i64 x).toArray 3 (0, 0)))
    (hown : w5.ownsRow lo 122 6 (.slice (some ⟨g, 0, none⟩) (ns.length + 1) cap) (ns.length + 1) (ns.flatMap gnC ++ gnC n)) (hg : (w.alloc o).grownBy w5 v.ownBlock) :
    w5.heap[G]? = some (.cells #[v, .map (some b), .int .i64 wk] 97 (0, 0)) ∧ ∃ U, U = w5.setCell ⟨G, 0, none⟩ (.slice (some ⟨g, 0, none⟩) (ns.length + 1) cap) ∧ GS U lo G b (.slice (some ⟨g, 0, none⟩) (ns.length + 1) cap) (ns ++ [n]) D wk ∧ Gk lo G b w U := by
  have hvb : ∀ k, v.ownBlock = some k → lo ≤ k ∧ ∃ cur, w.heap[k]? = some (.cells cur 122 (0, 0)) := fun k hk => by
    refine ⟨(h.own.lt k hk).1, ?_⟩
    rcases h.own.2 with ⟨h0, _⟩ | ⟨g', cap', cur, hv, _, hh, _⟩
    · rw [h0] at hk; cases hk
    · rw [hv] at hk
      cases hk
      exact ⟨cur, hh⟩
  have kb : ∀ k, k < w.heap.size → v.ownBlock ≠ some k → w5.heap[k]? = w.heap[k]? := fun k hk hne => by
    rw [hg.block k (by simp; omega) (fun e => hne e.symm)]
    exact Below.heap_alloc _ _ _ hk
  have hnG : v.ownBlock ≠ some G := fun e => by
    obtain ⟨_, cur, hc⟩ := hvb G e
    rw [h.box] at hc
    cases hc
  have hG5 : w5.heap[G]? = some (.cells #[v, .map (some b), .int .i64 wk] 97 (0, 0)) := (kb G h.lt.2.1 hnG).trans h.box
  refine ⟨hG5, _, rfl, ?_, ?_⟩
  · have hoth : ∀ k, k ≠ G → (w5.setCell ⟨G, 0, none⟩ (.slice (some ⟨g, 0, none⟩) (ns.length + 1) cap)).heap[k]? = w5.heap[k]? := fun k hk => Below.heap_setCell _ _ _ _ hk
    have harg : ∀ (n' : Gn), (n'.ar = [] ∨ ∃ g, n'.ad = some ⟨g, 0, none⟩ ∧ lo ≤ g ∧ w.heap[g]? = some (.cells (n'.ar.map fun (x : Nat) => Value.int .i64 x).toArray 3 (0, 0))) → (n'.ar = [] ∨ ∃ g', n'.ad = some ⟨g', 0, none⟩ ∧ lo ≤ g' ∧ (w5.setCell ⟨G, 0, none⟩ (.slice (some ⟨g, 0, none⟩) (ns.length + 1) cap)).heap[g']? = some (.cells (n'.ar.map fun (x : Nat) => Value.int .i64 x).toArray 3 (0, 0))) := fun n' hn' => by
      rcases hn' with hn' | ⟨g', q1, q2, q3⟩
      · exact .inl hn'
      · refine .inr ⟨g', q1, q2, ?_⟩
        rw [hoth g' (fun e => by rw [e, h.box] at q3; exact absurd (cells_ty q3) (by decide)), kb g' (lt_of_heap q3) (fun e => by
          obtain ⟨_, cur, hc⟩ := hvb g' e
          rw [q3] at hc
          exact absurd (cells_ty hc) (by decide))]
        exact q3
    refine ⟨(setCell_block hG5).trans rfl, ?_, ?_, by have := h.msz; simp; omega, fun n' hn' => ?_, h.loG, h.lob, by simp; omega⟩
    · rw [List.length_append, List.flatMap_append]
      have : w5.ownsRow lo 122 6 (.slice (some ⟨g, 0, none⟩) (ns.length + 1) cap) (ns.length + [n].length) (ns.flatMap gnC ++ [n].flatMap gnC) := by simpa using hown
      refine own_keep this fun k hk => hoth k (fun e => ?_)
      cases hk
      rcases hown.2 with ⟨h0, _⟩ | ⟨g', cap', cur, hv, _, hh, _⟩
      · cases h0
      · cases hv
        have e : g = G := e
        rw [e, hG5] at hh
        cases hh
    · have hm5 : w5.ownsMap Tryz.prog 9 (plainElem Tryz.prog 3) b (Maps.size D) D := (h.map.alloc o).kept hg (fun e => by
        obtain ⟨_, cur, hc⟩ := hvb b e.symm
        obtain ⟨es, clock, hb, _⟩ := h.map
        rw [hb] at hc
        cases hc)
      refine hm5.setCell (fun e => ?_) _
      have e : b = G := e
      obtain ⟨es, clock, hb, _⟩ := h.map
      rw [e, h.box] at hb
      cases hb
    · rcases List.mem_append.1 hn' with hn' | hn'
      · exact harg n' (h.arg n' hn')
      · have : n' = n := by simpa using hn'
        subst this
        exact harg n' hn
  · have hs5 : w.heap.size ≤ w5.heap.size := by have := hg.size; simp at this; omega
    refine ⟨hg.os, hg.tape, hg.output, by simpa [World.setCell] using hs5, fun k hk => ?_, fun k o h1 h2 h3 h4 => ?_⟩
    · rw [Below.heap_setCell _ _ _ _ (show k ≠ G by have := h.loG; omega), kb k (by have := h.lt.1; omega) (fun e => by have := (hvb k e).1; omega)]
    · rw [Below.heap_setCell _ _ _ _ h2, kb k (lt_of_heap h1) (fun e => by
        obtain ⟨_, cur, hc⟩ := hvb k e
        rw [h1] at hc
        exact h4 _ _ (Option.some.inj hc))]
      exact h1
end Go.Proofs.YtgdflaapgfpdeaaGreatDoor
