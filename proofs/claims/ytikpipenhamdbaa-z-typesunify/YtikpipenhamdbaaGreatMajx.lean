/- The program's graph of types in memory; the contract of end, where a node leads nowhere, or to one that does. The graph: what a step may turn; the contract of lay at a type without arguments. The graph: a node's marks; the contract of lay at a variable that is there, and at a function. The graph: the contract of lay at a function. The graph: the walk through a node that is no variable and has no arguments. -/
import Derived.Test.YtikpipenhamdbaaGreatMaix
import Derived.Maps.Own
import Derived.Maps.OwnOps
import Derived.Maps.OwnSet
import Derived.BigRegion
import Derived.StringKeys
namespace Go.Proofs.YtikpipenhamdbaaGreat
open Go.RowKit Go.Maps

/-- A node of the graph. -/
structure Gn where
 is : Int
 name : List UInt8
 ad : Option Addr
 ar : List Nat
 tg : Nat
 ins : Bool
 walk : Nat
/-- The slice of a node's arguments. -/
abbrev Gn.av (n : Gn) : Value := .slice n.ad n.ar.length n.ar.length
def gnC (n : Gn) : List Value := [.int .i64 n.is, .string ⟨n.name.toArray⟩, n.av, .int .i64 n.tg, .bool n.ins, .int .i64 n.walk]
/-- The graph in memory: its box G, its map b, its row of nodes v; all that it lies in is from lo on. -/
structure GS (w : World) (lo G b : Nat) (v : Value) (ns : List Gn) (D : DataW Unit) (wk : Nat) : Prop where
 box : w.heap[G]? = some (.cells #[v, .map (some b), .int .i64 wk] 66 (0, 0))
 own : w.ownsRow lo 97 6 v ns.length (ns.flatMap gnC)
 map : w.ownsMap Tryz.prog 9 (plainElem Tryz.prog 3) b (Maps.size D) D
 msz : Maps.size D ≤ ns.length
 arg : ∀ n ∈ ns, n.ar = [] ∨ ∃ g, n.ad = some ⟨g, 0, none⟩ ∧ lo ≤ g ∧ w.heap[g]? = some (.cells (n.ar.map fun (x : Nat) => Value.int .i64 x).toArray 3 (0, 0))
 loG : lo ≤ G
 lob : lo ≤ b
 num : ns.length ≤ 200000000
/-- Nothing has turned but how often was drawn. -/
structure Sm (w w' : World) : Prop where
 heap : w'.heap = w.heap
 os : w'.os = w.os
 tape : w'.tape = w.tape
 output : w'.output = w.output
theorem Sm.refl (w : World) : Sm w w := ⟨rfl, rfl, rfl, rfl⟩
theorem Sm.below {w w' : World} (h : Sm w w') (B : Nat) : Below B w w' := ⟨h.os, h.tape, h.output, by rw [h.heap]; exact Nat.le_refl _, fun k _ => by rw [h.heap]⟩
theorem GS.sm {w w' : World} {lo G b : Nat} {v : Value} {ns : List Gn} {D : DataW Unit} {wk : Nat} (h : GS w lo G b v ns D wk) (s : Sm w w') : GS w' lo G b v ns D wk :=
 ⟨by rw [s.heap]; exact h.box, own_keep h.own fun k _ => by rw [s.heap], h.map.kept (row := none) ⟨s.os, s.tape, s.output, by rw [s.heap]; exact Nat.le_refl _, fun k _ _ => by rw [s.heap]⟩ (by simp), h.msz, fun n hn => by
  rcases h.arg n hn with h1 | ⟨g, h1, h2, h3⟩
  ·exact .inl h1
  ·exact .inr ⟨g, h1, h2, by rw [s.heap]; exact h3⟩, h.loG, h.lob, h.num⟩
theorem gnC_get (ns : List Gn) (j i : Nat) (hj : j < ns.length) (hi : i < 6) : (ns.flatMap gnC)[j * 6 + i]? = (gnC ns[j])[i]? := by
 induction ns generalizing j with
 | nil => simp at hj
 | cons t r ih =>
  cases j with
  | zero =>
   rw [List.flatMap_cons, List.getElem?_append_left (by simp [gnC]; omega)]
   simp
  | succ j =>
   have hj' : j < r.length := by simpa using hj
   rw [List.flatMap_cons, List.getElem?_append_right (by simp [gnC]; omega)]
   have e2 : (j + 1) * 6 + i - (gnC t).length = j * 6 + i := by simp [gnC]; omega
   rw [e2, ih j hj']
   rfl
/-- The cells of a node. -/
theorem GS.cells {w : World} {lo G b : Nat} {v : Value} {ns : List Gn} {D : DataW Unit} {wk : Nat} (h : GS w lo G b v ns D wk) {i : Nat} (hi : i < ns.length) : ∃ g cap, v = .slice (some ⟨g, 0, none⟩) ns.length cap ∧ lo ≤ g ∧ g < w.heap.size ∧ (∃ cur, w.heap[g]? = some (.cells cur 97 (0, 0))) ∧
  (w.cell? ⟨G, 0, none⟩ = some (.slice (some ⟨g, 0, none⟩) ns.length cap) ∧ w.cell? ⟨G, 1, none⟩ = some (.map (some b)) ∧ w.cell? ⟨G, 2, none⟩ = some (.int .i64 wk)) ∧
  (w.cell? ⟨g, i * 6, none⟩ = some (.int .i64 ns[i].is) ∧ w.cell? ⟨g, i * 6 + 1, none⟩ = some (.string ⟨ns[i].name.toArray⟩) ∧ w.cell? ⟨g, i * 6 + 2, none⟩ = some ns[i].av ∧ w.cell? ⟨g, i * 6 + 3, none⟩ = some (.int .i64 ns[i].tg) ∧ w.cell? ⟨g, i * 6 + 4, none⟩ = some (.bool ns[i].ins) ∧ w.cell? ⟨g, i * 6 + 5, none⟩ = some (.int .i64 ns[i].walk)) ∧ (∀ j, w.frozen? ⟨g, j, none⟩ = false) := by
 obtain ⟨g, cap, hv, hg, hlt⟩ := h.own.form (by omega)
 subst hv
 have hb : ∃ cur, w.heap[g]? = some (.cells cur 97 (0, 0)) := by
  rcases h.own.2 with ⟨h0, _⟩ | ⟨g', cap', cur, hv, _, hh, _⟩
  ·cases h0
  ·cases hv
   exact ⟨cur, hh⟩
 have hc : ∀ j, j < 6 → w.cell? ⟨g, i * 6 + j, none⟩ = (gnC ns[i])[j]? := fun j hj => by
  rw [h.own.cellAt (i * 6 + j) (by omega), gnC_get ns i j hi hj]
 refine ⟨g, cap, rfl, hg, hlt, hb, heap_cells h.box, ⟨?_, ?_, ?_, ?_, ?_, ?_⟩, fun j => h.own.frozenAt j⟩
 ·have := hc 0 (by omega)
  simpa [gnC] using this
 ·have := hc 1 (by omega)
  simpa [gnC] using this
 ·have := hc 2 (by omega)
  simpa [gnC] using this
 ·have := hc 3 (by omega)
  simpa [gnC] using this
 ·have := hc 4 (by omega)
  simpa [gnC] using this
 ·have := hc 5 (by omega)
  simpa [gnC] using this
set_option maxHeartbeats 8000000 in
set_option maxRecDepth 10000 in
theorem end_self {w : World} {lo G b : Nat} {v : Value} {ns : List Gn} {D : DataW Unit} {wk : Nat} (h : GS w lo G b v ns D wk) (i : Nat) (hi : i < ns.length) (ht : ns[i].tg = i) :
  Calls Tryz.prog 46 #[.pointer (some ⟨G, 0, none⟩), .int .i64 i] w fun e w' => e = .returned (.int .i64 i) ∧ w' = w := by
 obtain ⟨g, cap, rfl, hg, hlt, _, ⟨c0, c1, c2⟩, ⟨n0, n1, n2, n3, n4, n5⟩, hfr⟩ := h.cells hi
 rw [ht] at n3
 have hn := h.num
 have i1 : (0 : Int) ≤ (i : Int) := by omega
 have i2 : (i : Int) < (ns.length : Int) := by omega
 clear h ht n0 n1 n2 n4 n5 c1 c2 hfr
 go_enter Tryz.func46, Tryz.ntmps46
 go_wp2
 refine wp_loop_rounds 1 ?_
 rw [rounds_succ]
 go_wp2
 go_ret
 exact ⟨rfl, rfl⟩
/-- What is there is stored: nothing turns. -/
theorem setCell_self {w : World} {b i : Nat} {c : Array Value} {t : TypeId} {fr : Nat × Nat} {v : Value} (h : w.heap[b]? = some (.cells c t fr)) (hc : w.cell? ⟨b, i, none⟩ = some v) : w.setCell ⟨b, i, none⟩ v = w := by
 have hci : c[i]? = some v := by
  simp only [World.cell?, h] at hc
  simpa using hc
 have hb : b < w.heap.size := lt_of_heap h
 have hc2 : c.setIfInBounds i v = c := by
  apply Array.ext_getElem?
  intro j
  rw [Array.getElem?_setIfInBounds]
  split
  ·rename_i e
   subst e
   split
   ·exact hci.symm
   ·rename_i hlt
    rw [Array.getElem?_eq_none (by omega)] at hci
    cases hci
  ·rfl
 have hh : (w.setCell ⟨b, i, none⟩ v).heap = w.heap := by
  apply Array.ext_getElem?
  intro j
  by_cases hj : j = b
  ·subst hj
   simp [World.setCell, Array.getElem?_modify, h, hc2]
  ·exact Below.heap_setCell _ _ _ _ hj
 cases w
 simp only [World.setCell] at hh ⊢
 rw [hh]
set_option maxHeartbeats 8000000 in
set_option maxRecDepth 10000 in
theorem end_one {w : World} {lo G b : Nat} {v : Value} {ns : List Gn} {D : DataW Unit} {wk : Nat} (h : GS w lo G b v ns D wk) (i m : Nat) (hi : i < ns.length) (hm : m < ns.length) (him : i ≠ m) (ht : ns[i].tg = m) (hs : ns[m].tg = m) :
  Calls Tryz.prog 46 #[.pointer (some ⟨G, 0, none⟩), .int .i64 i] w fun e w' => e = .returned (.int .i64 m) ∧ Sm w w' := by
 obtain ⟨g, cap, rfl, hg, hlt, ⟨cur, hcur⟩, ⟨c0, c1, c2⟩, ⟨n0, n1, n2, n3, n4, n5⟩, hfr⟩ := h.cells hi
 obtain ⟨g', cap', e0, _, _, _, _, ⟨m0, m1, m2, m3, m4, m5⟩, _⟩ := h.cells hm
 cases e0
 rw [ht] at n3
 rw [hs] at m3
 have hn := h.num
 have i1 : (0 : Int) ≤ (i : Int) := by omega
 have i2 : (i : Int) < (ns.length : Int) := by omega
 have j1 : (0 : Int) ≤ (m : Int) := by omega
 have j2 : (m : Int) < (ns.length : Int) := by omega
 have hne : ((m : Int) != (i : Int)) = true := by simp; omega
 have hne2 : ((m : Int) == (i : Int)) = false := by simp; omega
 have hf3 := hfr (i * 6 + 3)
 have hsame := setCell_self hcur n3
 have hGg : ¬ G = g := fun e => by
  have := h.box
  rw [e, hcur] at this
  cases this
 have hgG : ¬ g = G := fun e => hGg e.symm
 clear h ht hs n0 n1 n2 n4 n5 c1 c2 m0 m1 m2 m4 m5 hfr
 go_enter Tryz.func46, Tryz.ntmps46
 go_wp2
 refine wp_loop_rounds 2 ?_
 rw [rounds_succ]
 go_wp2
 go_region_held3 (fun w' => w'.cell? ⟨G, 0, none⟩ = some (.slice (some ⟨g, 0, none⟩) ns.length cap) ∧ w'.cell? ⟨g, i * 6 + 3, none⟩ = some (.int .i64 m) ∧ w'.cell? ⟨g, m * 6 + 3, none⟩ = some (.int .i64 m) ∧ w'.frozen? ⟨g, i * 6 + 3, none⟩ = false) (first | exact ⟨c0, n3, m3, hf3⟩ | assumption | (rw [hsame]; exact ⟨c0, n3, m3, hf3⟩) | go_keep) (fail)
 go_wp2
 rw [rounds_succ]
 go_wp2
 go_ret
 exact ⟨rfl, ⟨by first | rfl | (rw [hsame]; rfl) | (show World.heap (World.drew _) = _; rw [hsame]; rfl), rfl, rfl, rfl⟩⟩
end Go.Proofs.YtikpipenhamdbaaGreat

namespace Go.Proofs.YtikpipenhamdbaaGreat
open Go.RowKit Go.Maps

/-- From w to w' nothing has turned but the graph's box G, its map b and its row of nodes, all from lo on. -/
structure Gk (lo G b : Nat) (w w' : World) : Prop where
 os : w'.os = w.os
 tape : w'.tape = w.tape
 output : w'.output = w.output
 size : w.heap.size ≤ w'.heap.size
 low : ∀ k, k < lo → w'.heap[k]? = w.heap[k]?
 keep : ∀ k o, w.heap[k]? = some o → k ≠ G → k ≠ b → (∀ c fz, o ≠ .cells c 97 fz) → w'.heap[k]? = some o
theorem Gk.refl (lo G b : Nat) (w : World) : Gk lo G b w w := ⟨rfl, rfl, rfl, Nat.le_refl _, fun _ _ => rfl, fun _ _ h _ _ _ => h⟩
theorem Gk.trans {lo G b : Nat} {w1 w2 w3 : World} (h : Gk lo G b w1 w2) (k : Gk lo G b w2 w3) : Gk lo G b w1 w3 :=
 ⟨k.os.trans h.os, k.tape.trans h.tape, k.output.trans h.output, Nat.le_trans h.size k.size, fun i hi => (k.low i hi).trans (h.low i hi), fun i o h1 h2 h3 h4 => k.keep i o (h.keep i o h1 h2 h3 h4) h2 h3 h4⟩
theorem Gk.of_below {lo G b : Nat} {w w' : World} (h : Below w.heap.size w w') (hl : lo ≤ w.heap.size) : Gk lo G b w w' :=
 ⟨h.os, h.tape, h.output, h.size, fun i hi => h.block i (by omega), fun i o h1 _ _ _ => (h.block i (lt_of_heap h1)).trans h1⟩
theorem Gk.of_sm {lo G b : Nat} {w w' : World} (h : Sm w w') : Gk lo G b w w' :=
 ⟨h.os, h.tape, h.output, by rw [h.heap]; exact Nat.le_refl _, fun i _ => by rw [h.heap], fun i o h1 _ _ _ => by rw [h.heap]; exact h1⟩
theorem GS.lt {w : World} {lo G b : Nat} {v : Value} {ns : List Gn} {D : DataW Unit} {wk : Nat} (h : GS w lo G b v ns D wk) : lo ≤ w.heap.size ∧ G < w.heap.size ∧ b < w.heap.size := by
 have := lt_of_heap h.box
 have := h.loG
 exact ⟨by omega, by omega, h.map.lt⟩
theorem GS.below {w w' : World} {lo G b : Nat} {v : Value} {ns : List Gn} {D : DataW Unit} {wk : Nat} (h : GS w lo G b v ns D wk) (hb : Below w.heap.size w w') : GS w' lo G b v ns D wk :=
 ⟨(hb.block G h.lt.2.1).trans h.box, own_keep h.own fun k hk => hb.block k (h.own.lt k hk).2, h.map.kept (row := none) ⟨hb.os, hb.tape, hb.output, hb.size, fun k hk _ => hb.block k hk⟩ (by simp), h.msz, fun n hn => by
  rcases h.arg n hn with h1 | ⟨g, h1, h2, h3⟩
  ·exact .inl h1
  ·exact .inr ⟨g, h1, h2, (hb.block g (lt_of_heap h3)).trans h3⟩, h.loG, h.lob, h.num⟩
theorem Tryz.info97 : (Tryz.prog.info? 97).map (fun i => (i.zero, i.size, i.bytes)) = some (some (.agg #[.int .i64 0, .string ⟨#[]⟩, .slice none 0 0, .int .i64 0, .bool false, .int .i64 0]), 6, 72) := by kernel_rfl
theorem law9 : Keyed Tryz.prog 9 := string_keyed Tryz.underlying9
theorem key9 (n : List UInt8) (hn : n.length < 140737488355328) : keyOf Tryz.prog 9 (.string ⟨n.toArray⟩) = some (.string n) := by
 have := Go.WideMaps.keyOf_string_mk (P := Tryz.prog) Tryz.underlying9 (s := ⟨n.toArray⟩) (by show n.toArray.size ≤ maxLen; unfold maxLen; simp; omega)
 simpa using this
/-- A look into the map. -/
theorem GS.look {w : World} {lo G b : Nat} {v : Value} {ns : List Gn} {D : DataW Unit} {wk : Nat} (h : GS w lo G b v ns D wk) (n : List UInt8) (hn : n.length < 140737488355328) : ∃ c : Int, (Instr.lookup 63 (.map (some b)) (.string ⟨n.toArray⟩) true).run Tryz.prog w = .ok (.tuple #[.int .i64 c, .bool (Maps.has D (.string n))]) w ∧ D.atKey (.string n) (.lit (.int .i64 0)) = .lit (.int .i64 c) := by
 obtain ⟨u, ps, h1, h2⟩ := h.map.look_ok law9 Tryz.underlying63 (Tryz.zeroValue3 w) (plainElem_int Tryz.underlying3 (by decide)) (key9 n hn)
 obtain ⟨c, rfl, hc, _⟩ := plainElem_int_inv Tryz.underlying3 h2
 exact ⟨c, h1, congrArg Prod.fst hc⟩
theorem cells_ty {c c' : Array Value} {t t' : TypeId} {f f' : Nat × Nat} (h : some (Obj.cells c t f) = some (Obj.cells c' t' f')) : t = t' := by
 have := Option.some.inj h
 injection this
theorem GS.form {w : World} {lo G b : Nat} {v : Value} {ns : List Gn} {D : DataW Unit} {wk : Nat} (h : GS w lo G b v ns D wk) : ∃ va vc, v = .slice va ns.length vc := by
 rcases h.own.2 with ⟨h0, h1⟩ | ⟨g, cap, _, h1, _⟩
 ·exact ⟨none, 0, by rw [h0, h1]⟩
 ·exact ⟨_, cap, h1⟩
theorem Tryz.info3 : (Tryz.prog.info? 3).map (fun i => (i.zero, i.size, i.bytes)) = some (some (.int .i64 0), 1, 8) := by kernel_rfl
theorem make_ints (w : World) (n : Nat) (hn : n ≤ 1000) : (Instr.makeSlice 72 (.int .i64 n) (.int .i64 n)).run Tryz.prog w = .ok (.slice (some ⟨w.heap.size, 0, none⟩) n n) (w.alloc (.cells (madeCells (Value.int .i64 0).cells n) 3)) := by
 obtain ⟨i0, hi, hz0, hz1, hz2⟩ := info_parts Tryz.info3
 have := run_makeSlice (P := Tryz.prog) w 72 3 i0 _ Tryz.underlying72 hi hz0 .i64 .i64 n n (by omega) (Int.le_refl _) (by rw [hz1]; simp; omega) (by rw [hz2]; omega) (by omega)
 rw [hz1] at this
 simpa using this
theorem own_tight {w : World} {b n : Nat} {D : DataW Unit} (h : w.ownsMap Tryz.prog 9 (plainElem Tryz.prog 3) b n D) : w.ownsMap Tryz.prog 9 (plainElem Tryz.prog 3) b (Maps.size D) D := by
 obtain ⟨es, clock, h1, h2, h3, rfl⟩ := h
 exact ⟨es, clock, h1, h2, by simp [Maps.size, length_sorted], rfl⟩
/-- The map has turned. -/
theorem GS.mapped {w w' : World} {lo G b m : Nat} {v : Value} {ns : List Gn} {D D' : DataW Unit} {wk : Nat} (h : GS w lo G b v ns D wk) (hm : w'.ownsMap Tryz.prog 9 (plainElem Tryz.prog 3) b m D') (hg : w.grownBy w' (some b)) (hs : m ≤ ns.length) : GS w' lo G b v ns D' wk ∧ Gk lo G b w w' := by
 have hbm : ∃ es clock, w.heap[b]? = some (.map es clock) := by
  obtain ⟨es, clock, h1, _⟩ := h.map
  exact ⟨es, clock, h1⟩
 obtain ⟨es, clock, hbm⟩ := hbm
 have kb : ∀ k, k < w.heap.size → k ≠ b → w'.heap[k]? = w.heap[k]? := fun k hk hne => hg.block k hk (fun e => hne (Option.some.inj e))
 refine ⟨⟨?_, own_keep h.own fun k hk => kb k (h.own.lt k hk).2 (fun e => ?_), own_tight hm, Nat.le_trans hm.size_le hs, fun n hn => ?_, h.loG, h.lob, h.num⟩, hg.os, hg.tape, hg.output, hg.size, fun k hk => kb k (by have := h.lt.1; omega) (by have := h.lob; omega), fun k o h1 _ h3 _ => (kb k (lt_of_heap h1) h3).trans h1⟩
 ·rw [kb G h.lt.2.1 (fun e => by rw [← e, h.box] at hbm; cases hbm)]
  exact h.box
 ·rcases h.own.2 with ⟨h0, _⟩ | ⟨g', cap', cur, hv, _, hh, _⟩
  ·rw [h0] at hk; cases hk
  ·rw [hv] at hk
   cases hk
   have e : g' = b := e
   rw [e, hbm] at hh
   cases hh
 ·rcases h.arg n hn with h1 | ⟨g, h1, h2, h3⟩
  ·exact .inl h1
  ·refine .inr ⟨g, h1, h2, ?_⟩
   rw [kb g (lt_of_heap h3) (fun e => by rw [e, hbm] at h3; cases h3)]
   exact h3
/-- A node more: the row, the box that leads to it. -/
theorem GS.put {w w5 : World} {lo G b g cap : Nat} {v : Value} {ns : List Gn} {D : DataW Unit} {wk : Nat} {o : Obj} {n : Gn} (h : GS w lo G b v ns D wk) (hnum : ns.length < 200000000) (hn : n.ar = [] ∨ ∃ g, n.ad = some ⟨g, 0, none⟩ ∧ lo ≤ g ∧ w.heap[g]? = some (.cells (n.ar.map fun (x : Nat) => Value.int .i64 x).toArray 3 (0, 0)))
  (hown : w5.ownsRow lo 97 6 (.slice (some ⟨g, 0, none⟩) (ns.length + 1) cap) (ns.length + 1) (ns.flatMap gnC ++ gnC n)) (hg : (w.alloc o).grownBy w5 v.ownBlock) :
  w5.heap[G]? = some (.cells #[v, .map (some b), .int .i64 wk] 66 (0, 0)) ∧ ∃ U, U = w5.setCell ⟨G, 0, none⟩ (.slice (some ⟨g, 0, none⟩) (ns.length + 1) cap) ∧ GS U lo G b (.slice (some ⟨g, 0, none⟩) (ns.length + 1) cap) (ns ++ [n]) D wk ∧ Gk lo G b w U := by
 have hvb : ∀ k, v.ownBlock = some k → lo ≤ k ∧ ∃ cur, w.heap[k]? = some (.cells cur 97 (0, 0)) := fun k hk => by
  refine ⟨(h.own.lt k hk).1, ?_⟩
  rcases h.own.2 with ⟨h0, _⟩ | ⟨g', cap', cur, hv, _, hh, _⟩
  ·rw [h0] at hk; cases hk
  ·rw [hv] at hk
   cases hk
   exact ⟨cur, hh⟩
 have kb : ∀ k, k < w.heap.size → v.ownBlock ≠ some k → w5.heap[k]? = w.heap[k]? := fun k hk hne => by
  rw [hg.block k (by simp; omega) (fun e => hne e.symm)]
  exact Below.heap_alloc _ _ _ hk
 have hnG : v.ownBlock ≠ some G := fun e => by
  obtain ⟨_, cur, hc⟩ := hvb G e
  rw [h.box] at hc
  cases hc
 have hG5 : w5.heap[G]? = some (.cells #[v, .map (some b), .int .i64 wk] 66 (0, 0)) := (kb G h.lt.2.1 hnG).trans h.box
 refine ⟨hG5, _, rfl, ?_, ?_⟩
 ·have hoth : ∀ k, k ≠ G → (w5.setCell ⟨G, 0, none⟩ (.slice (some ⟨g, 0, none⟩) (ns.length + 1) cap)).heap[k]? = w5.heap[k]? := fun k hk => Below.heap_setCell _ _ _ _ hk
  have harg : ∀ (n' : Gn), (n'.ar = [] ∨ ∃ g, n'.ad = some ⟨g, 0, none⟩ ∧ lo ≤ g ∧ w.heap[g]? = some (.cells (n'.ar.map fun (x : Nat) => Value.int .i64 x).toArray 3 (0, 0))) → (n'.ar = [] ∨ ∃ g', n'.ad = some ⟨g', 0, none⟩ ∧ lo ≤ g' ∧ (w5.setCell ⟨G, 0, none⟩ (.slice (some ⟨g, 0, none⟩) (ns.length + 1) cap)).heap[g']? = some (.cells (n'.ar.map fun (x : Nat) => Value.int .i64 x).toArray 3 (0, 0))) := fun n' hn' => by
   rcases hn' with hn' | ⟨g', q1, q2, q3⟩
   ·exact .inl hn'
   ·refine .inr ⟨g', q1, q2, ?_⟩
    rw [hoth g' (fun e => by rw [e, h.box] at q3; exact absurd (cells_ty q3) (by decide)), kb g' (lt_of_heap q3) (fun e => by
     obtain ⟨_, cur, hc⟩ := hvb g' e
     rw [q3] at hc
     exact absurd (cells_ty hc) (by decide))]
    exact q3
  refine ⟨(setCell_block hG5).trans rfl, ?_, ?_, by have := h.msz; simp; omega, fun n' hn' => ?_, h.loG, h.lob, by simp; omega⟩
  ·rw [List.length_append, List.flatMap_append]
   have : w5.ownsRow lo 97 6 (.slice (some ⟨g, 0, none⟩) (ns.length + 1) cap) (ns.length + [n].length) (ns.flatMap gnC ++ [n].flatMap gnC) := by simpa using hown
   refine own_keep this fun k hk => hoth k (fun e => ?_)
   cases hk
   rcases hown.2 with ⟨h0, _⟩ | ⟨g', cap', cur, hv, _, hh, _⟩
   ·cases h0
   ·cases hv
    have e : g = G := e
    rw [e, hG5] at hh
    cases hh
  ·have hm5 : w5.ownsMap Tryz.prog 9 (plainElem Tryz.prog 3) b (Maps.size D) D := (h.map.alloc o).kept hg (fun e => by
    obtain ⟨_, cur, hc⟩ := hvb b e.symm
    obtain ⟨es, clock, hb, _⟩ := h.map
    rw [hb] at hc
    cases hc)
   refine hm5.setCell (fun e => ?_) _
   have e : b = G := e
   obtain ⟨es, clock, hb, _⟩ := h.map
   rw [e, h.box] at hb
   cases hb
  ·rcases List.mem_append.1 hn' with hn' | hn'
   ·exact harg n' (h.arg n' hn')
   ·have : n' = n := by simpa using hn'
    subst this
    exact harg n' hn
 ·have hs5 : w.heap.size ≤ w5.heap.size := by have := hg.size; simp at this; omega
  refine ⟨hg.os, hg.tape, hg.output, by simpa [World.setCell] using hs5, fun k hk => ?_, fun k o h1 h2 h3 h4 => ?_⟩
  ·rw [Below.heap_setCell _ _ _ _ (show k ≠ G by have := h.loG; omega), kb k (by have := h.lt.1; omega) (fun e => by have := (hvb k e).1; omega)]
  ·rw [Below.heap_setCell _ _ _ _ h2, kb k (lt_of_heap h1) (fun e => by
    obtain ⟨_, cur, hc⟩ := hvb k e
    rw [h1] at hc
    exact h4 _ _ (Option.some.inj hc))]
   exact h1
set_option maxHeartbeats 16000000 in
set_option maxRecDepth 10000 in
theorem lay_leaf {w : World} {lo G b : Nat} {v : Value} {ns : List Gn} {D : DataW Unit} {wk : Nat} (h : GS w lo G b v ns D wk) (k : Int) (n : List UInt8) (ad : Option Addr) (cap : Nat) (hn : n.length < 140737488355328) (hk : k = 1 ∨ k = 2) (hf : formN k n 0 = k) (hD : Maps.has D (.string n) = false) (hnum : ns.length < 200000000) :
  Calls Tryz.prog 28 #[.pointer (some ⟨G, 0, none⟩), .agg #[.int .i64 k, .string ⟨n.toArray⟩, .slice ad 0 cap]] w fun e w' => e = .returned (.int .i64 ns.length) ∧ Gk lo G b w w' ∧
   ∃ v' za, w.heap.size ≤ za ∧ GS w' lo G b v' (ns ++ [{ is := k, name := n, ad := some ⟨za, 0, none⟩, ar := [], tg := ns.length, ins := false, walk := 0 }]) (if k = 2 then D.put (.string n) (.lit (.int .i64 ns.length)) else D) wk := by
 have CF := fun W => formOf_any k n ad 0 cap W hn (by omega)
 rw [hf] at CF
 obtain ⟨W, hW, hbW, hsW, b0, b1, b2⟩ := cells_box w (.int .i64 k) (.string ⟨n.toArray⟩) (.slice ad 0 cap) 29
 have HX : Hid (∀ w1, Below W.heap.size W w1 → GS w1 lo G b v ns D wk ∧ Gk lo G b w w1 ∧ w1.heap[w.heap.size]? = some (.cells #[.int .i64 k, .string ⟨n.toArray⟩, .slice ad 0 cap] 29 (0, 0))) := fun w1 hb => by
  have hb0 : Below w.heap.size w w1 := hbW.trans (hb.mono hbW.size)
  refine ⟨h.below hb0, Gk.of_below hb0 h.lt.1, ?_⟩
  rw [hb.block _ (by omega), hW]
  exact heap_alloc_new w _
 have HGw : Hid (G < w.heap.size ∧ b < w.heap.size) := h.lt.2
 clear hbW hsW b0 b1 b2
 obtain ⟨i0, hi, hz0, hz1, hz2⟩ := info_parts Tryz.info97
 rcases hk with rfl | rfl
 ·go_enter Tryz.func28, Tryz.ntmps28
  go_upto_region 1 with fail
  rw [← hW]
  clear hW
  obtain ⟨_, _, hbx⟩ := HX.out W (Below.refl _ _)
  obtain ⟨a0, a1, a2⟩ := heap_cells hbx
  go_upto_region 2 with (first | (go_at_call 49; (with_reducible refine Calls.mono (CF _) ?_); rintro e' w1 ⟨rfl, hb1⟩))
  obtain ⟨h1, k1, hbx1⟩ := HX.out _ hb1
  obtain ⟨x0, x1, x2⟩ := heap_cells hbx1
  obtain ⟨c0, c1, c2⟩ := heap_cells h1.box
  obtain ⟨lc, _, hat⟩ := h1.look n hn
  have hrun : ∀ m, (Instr.lookup 63 (.map (some b)) (.string ⟨n.toArray⟩) true).run Tryz.prog (w1.drewN m) = .ok (.tuple #[.int .i64 lc, .bool false]) (w1.drewN m) := fun m => by
   obtain ⟨lc', hr, hat'⟩ := (h1.sm (w' := w1.drewN m) ⟨rfl, rfl, rfl, rfl⟩).look n hn
   rw [hat] at hat'
   cases hat'
   rw [hr, hD]
  clear CF hbx a0 a1 a2
  go_quiet (fail)
  generalize hw2 : w1.drewN _ = w2
  have s2 : Sm w1 w2 := by rw [← hw2]; exact ⟨rfl, rfl, rfl, rfl⟩
  clear hw2 hrun
  have h2 := h1.sm s2
  have hbx2 : w2.heap[w.heap.size]? = some (.cells #[.int .i64 1, .string ⟨n.toArray⟩, .slice ad 0 cap] 29 (0, 0)) := by rw [s2.heap]; exact hbx1
  obtain ⟨y0, y1, y2⟩ := heap_cells hbx2
  have hmk := make_ints w2 0 (by omega)
  rw [show madeCells (Value.int .i64 0).cells 0 = #[] by kernel_rfl] at hmk
  have hmk : (Instr.makeSlice 72 (.int .i64 0) (.int .i64 0)).run Tryz.prog w2 = .ok (.slice (some ⟨w2.heap.size, 0, none⟩) 0 0) (w2.alloc (.cells #[] 3)) := hmk
  go_upto_region 6 with fail
  have hb3 : Below w2.heap.size w2 (w2.alloc (.cells #[] 3)) := (Below.refl _ _).alloc (Nat.le_refl _) _
  have h3 := h2.below hb3
  have hbx3 : (w2.alloc (.cells #[] 3)).heap[w.heap.size]? = some (.cells #[.int .i64 1, .string ⟨n.toArray⟩, .slice ad 0 cap] 29 (0, 0)) := (hb3.block _ (lt_of_heap hbx2)).trans hbx2
  have k3 : Gk lo G b w (w2.alloc (.cells #[] 3)) := (k1.trans (Gk.of_sm s2)).trans (Gk.of_below hb3 h2.lt.1)
  have hza : w.heap.size ≤ w2.heap.size := (k1.trans (Gk.of_sm s2)).size
  clear hmk
  generalize hw3 : w2.alloc (.cells #[] 3) = w3 at *
  generalize hq : w2.heap.size = za at *
  clear hw3 hq y0 y1 y2 hbx2 h2 hb3 s2
  obtain ⟨y0, y1, y2⟩ := heap_cells hbx3
  obtain ⟨va, vc, rfl⟩ := h3.form
  obtain ⟨d0, d1, d2⟩ := heap_cells h3.box
  go_wp2
  refine wp_loop_rounds 1 ?_
  rw [rounds_succ]
  go_wp2
  have hGw := HGw.out
  have nb0 : w.heap.size ≠ b := by omega
  have hmsz := h3.msz
  have FIN : Hid (∀ g cap' w5, w5.ownsRow lo 97 6 (.slice (some ⟨g, 0, none⟩) (ns.length + 1) cap') (ns.length + 1) (ns.flatMap gnC ++ [.int .i64 1, .string ⟨n.toArray⟩, .slice (some ⟨za, 0, none⟩) 0 0, .int .i64 ns.length, .bool false, .int .i64 0]) → ((w3.alloc (Obj.cells #[.int .i64 1, .string ⟨n.toArray⟩, .slice (some ⟨za, 0, none⟩) 0 0, .int .i64 ns.length, .bool false, .int .i64 0] 97)).drew).grownBy w5 (Value.slice va ns.length vc).ownBlock → w5.heap[G]? = some (.cells #[.slice va ns.length vc, .map (some b), .int .i64 wk] 66 (0, 0)) ∧ ∃ U, U = w5.setCell ⟨G, 0, none⟩ (.slice (some ⟨g, 0, none⟩) (ns.length + 1) cap') ∧ GS U lo G b (.slice (some ⟨g, 0, none⟩) (ns.length + 1) cap') (ns ++ [{ is := 1, name := n, ad := some ⟨za, 0, none⟩, ar := [], tg := ns.length, ins := false, walk := 0 }]) D wk ∧ Gk lo G b w U ∧ U.heap[w.heap.size]? = some (.cells #[.int .i64 1, .string ⟨n.toArray⟩, .slice ad 0 cap] 29 (0, 0))) := fun g cap' w5 ho hg => by
   obtain ⟨q1, U, q2, q3, q4⟩ := h3.put (n := { is := 1, name := n, ad := some ⟨za, 0, none⟩, ar := [], tg := ns.length, ins := false, walk := 0 }) hnum (.inl rfl) ho (o := Obj.cells #[.int .i64 1, .string ⟨n.toArray⟩, .slice (some ⟨za, 0, none⟩) 0 0, .int .i64 ns.length, .bool false, .int .i64 0] 97) ⟨hg.os, hg.tape, hg.output, hg.size, hg.block⟩
   exact ⟨q1, U, q2, q3, k3.trans q4, q4.keep _ _ hbx3 (by omega) nb0 (by intro c fz e; exact absurd (cells_ty (congrArg some e)) (by decide))⟩
  have hlo3 := h3.lt.1
  have hG3 := h3.lt.2.1
  have hzl := lt_of_heap hbx3
  have nG : ¬ G = w3.heap.size := by omega
  have nG' : ¬ w3.heap.size = G := by omega
  have nz : ¬ w.heap.size = w3.heap.size := by omega
  have nz' : ¬ w3.heap.size = w.heap.size := by omega
  have hown3 := h3.own
  clear h3 k3 h1 k1
  go_region_law ((refine step_append_lies _ (by rfl) _ _ _ (by rfl) lo 97 i0 _ 6 72 Tryz.underlying64 hi hz0 hz1 hz2 rfl (by omega) (.slice va ns.length vc) ns.length (ns.flatMap gnC) (by rfl) ((hown3.alloc _).drew) ⟨w3.heap.size, 0, none⟩ 1 1 [.int .i64 1, .string ⟨n.toArray⟩, .slice (some ⟨za, 0, none⟩) 0 0, .int .i64 ns.length, .bool false, .int .i64 0] (by rfl) (by rfl) (World.news_of_block (cs := #[.int .i64 1, .string ⟨n.toArray⟩, .slice (some ⟨za, 0, none⟩) 0 0, .int .i64 ns.length, .bool false, .int .i64 0]) (t := 97) (fr := (0, 0)) (heap_alloc_new w3 _)) (by simp [Value.oneCell']) (by omega) (by unfold maxLen; omega) (by omega) (by simp; omega) (w3.heap.size + 1) (by simp) ?_; intro g cap' w5 hown5 hgrow hat hlt5; obtain ⟨hG5, U, hU, hGS, hGk, hbU⟩ := FIN.out g cap' w5 hown5 hgrow; obtain ⟨e0, e1, e2⟩ := heap_cells hG5; have fG := heap_frozen (o := 0) hG5))
  all_goals
   rw [← hU]
   clear hU hG5 e0 e1 e2 fG
   go_wp2
   go_ret
   exact ⟨rfl, hGk, _, za, hza, hGS⟩
 ·go_enter Tryz.func28, Tryz.ntmps28
  go_upto_region 1 with fail
  rw [← hW]
  clear hW
  obtain ⟨_, _, hbx⟩ := HX.out W (Below.refl _ _)
  obtain ⟨a0, a1, a2⟩ := heap_cells hbx
  go_upto_region 2 with (first | (go_at_call 49; (with_reducible refine Calls.mono (CF _) ?_); rintro e' w1 ⟨rfl, hb1⟩))
  obtain ⟨h1, k1, hbx1⟩ := HX.out _ hb1
  obtain ⟨x0, x1, x2⟩ := heap_cells hbx1
  obtain ⟨c0, c1, c2⟩ := heap_cells h1.box
  obtain ⟨lc, _, hat⟩ := h1.look n hn
  have hrun : ∀ m, (Instr.lookup 63 (.map (some b)) (.string ⟨n.toArray⟩) true).run Tryz.prog (w1.drewN m) = .ok (.tuple #[.int .i64 lc, .bool false]) (w1.drewN m) := fun m => by
   obtain ⟨lc', hr, hat'⟩ := (h1.sm (w' := w1.drewN m) ⟨rfl, rfl, rfl, rfl⟩).look n hn
   rw [hat] at hat'
   cases hat'
   rw [hr, hD]
  clear CF hbx a0 a1 a2
  go_quiet (fail)
  generalize hw2 : w1.drewN _ = w2
  have s2 : Sm w1 w2 := by rw [← hw2]; exact ⟨rfl, rfl, rfl, rfl⟩
  clear hw2 hrun
  have h2 := h1.sm s2
  have hbx2 : w2.heap[w.heap.size]? = some (.cells #[.int .i64 2, .string ⟨n.toArray⟩, .slice ad 0 cap] 29 (0, 0)) := by rw [s2.heap]; exact hbx1
  obtain ⟨y0, y1, y2⟩ := heap_cells hbx2
  have hmk := make_ints w2 0 (by omega)
  rw [show madeCells (Value.int .i64 0).cells 0 = #[] by kernel_rfl] at hmk
  have hmk : (Instr.makeSlice 72 (.int .i64 0) (.int .i64 0)).run Tryz.prog w2 = .ok (.slice (some ⟨w2.heap.size, 0, none⟩) 0 0) (w2.alloc (.cells #[] 3)) := hmk
  go_upto_region 6 with fail
  have hb3 : Below w2.heap.size w2 (w2.alloc (.cells #[] 3)) := (Below.refl _ _).alloc (Nat.le_refl _) _
  have h3 := h2.below hb3
  have hbx3 : (w2.alloc (.cells #[] 3)).heap[w.heap.size]? = some (.cells #[.int .i64 2, .string ⟨n.toArray⟩, .slice ad 0 cap] 29 (0, 0)) := (hb3.block _ (lt_of_heap hbx2)).trans hbx2
  have k3 : Gk lo G b w (w2.alloc (.cells #[] 3)) := (k1.trans (Gk.of_sm s2)).trans (Gk.of_below hb3 h2.lt.1)
  have hza : w.heap.size ≤ w2.heap.size := (k1.trans (Gk.of_sm s2)).size
  clear hmk
  generalize hw3 : w2.alloc (.cells #[] 3) = w3 at *
  generalize hq : w2.heap.size = za at *
  clear hw3 hq y0 y1 y2 hbx2 h2 hb3 s2
  obtain ⟨y0, y1, y2⟩ := heap_cells hbx3
  obtain ⟨va, vc, rfl⟩ := h3.form
  obtain ⟨d0, d1, d2⟩ := heap_cells h3.box
  go_wp2
  refine wp_loop_rounds 1 ?_
  rw [rounds_succ]
  go_wp2
  have hGw := HGw.out
  have nb0 : w.heap.size ≠ b := by omega
  have hmsz := h3.msz
  have FIN : Hid (∀ g cap' w5, w5.ownsRow lo 97 6 (.slice (some ⟨g, 0, none⟩) (ns.length + 1) cap') (ns.length + 1) (ns.flatMap gnC ++ [.int .i64 2, .string ⟨n.toArray⟩, .slice (some ⟨za, 0, none⟩) 0 0, .int .i64 ns.length, .bool false, .int .i64 0]) → ((w3.alloc (Obj.cells #[.int .i64 2, .string ⟨n.toArray⟩, .slice (some ⟨za, 0, none⟩) 0 0, .int .i64 ns.length, .bool false, .int .i64 0] 97)).drew).grownBy w5 (Value.slice va ns.length vc).ownBlock → w5.heap[G]? = some (.cells #[.slice va ns.length vc, .map (some b), .int .i64 wk] 66 (0, 0)) ∧ ∃ U, U = w5.setCell ⟨G, 0, none⟩ (.slice (some ⟨g, 0, none⟩) (ns.length + 1) cap') ∧ GS U lo G b (.slice (some ⟨g, 0, none⟩) (ns.length + 1) cap') (ns ++ [{ is := 2, name := n, ad := some ⟨za, 0, none⟩, ar := [], tg := ns.length, ins := false, walk := 0 }]) D wk ∧ Gk lo G b w U ∧ U.heap[w.heap.size]? = some (.cells #[.int .i64 2, .string ⟨n.toArray⟩, .slice ad 0 cap] 29 (0, 0))) := fun g cap' w5 ho hg => by
   obtain ⟨q1, U, q2, q3, q4⟩ := h3.put (n := { is := 2, name := n, ad := some ⟨za, 0, none⟩, ar := [], tg := ns.length, ins := false, walk := 0 }) hnum (.inl rfl) ho (o := Obj.cells #[.int .i64 2, .string ⟨n.toArray⟩, .slice (some ⟨za, 0, none⟩) 0 0, .int .i64 ns.length, .bool false, .int .i64 0] 97) ⟨hg.os, hg.tape, hg.output, hg.size, hg.block⟩
   exact ⟨q1, U, q2, q3, k3.trans q4, q4.keep _ _ hbx3 (by omega) nb0 (by intro c fz e; exact absurd (cells_ty (congrArg some e)) (by decide))⟩
  have hlo3 := h3.lt.1
  have hG3 := h3.lt.2.1
  have hzl := lt_of_heap hbx3
  have nG : ¬ G = w3.heap.size := by omega
  have nG' : ¬ w3.heap.size = G := by omega
  have nz : ¬ w.heap.size = w3.heap.size := by omega
  have nz' : ¬ w3.heap.size = w.heap.size := by omega
  have hown3 := h3.own
  clear h3 k3 h1 k1
  go_region_law ((refine step_append_lies _ (by rfl) _ _ _ (by rfl) lo 97 i0 _ 6 72 Tryz.underlying64 hi hz0 hz1 hz2 rfl (by omega) (.slice va ns.length vc) ns.length (ns.flatMap gnC) (by rfl) ((hown3.alloc _).drew) ⟨w3.heap.size, 0, none⟩ 1 1 [.int .i64 2, .string ⟨n.toArray⟩, .slice (some ⟨za, 0, none⟩) 0 0, .int .i64 ns.length, .bool false, .int .i64 0] (by rfl) (by rfl) (World.news_of_block (cs := #[.int .i64 2, .string ⟨n.toArray⟩, .slice (some ⟨za, 0, none⟩) 0 0, .int .i64 ns.length, .bool false, .int .i64 0]) (t := 97) (fr := (0, 0)) (heap_alloc_new w3 _)) (by simp [Value.oneCell']) (by omega) (by unfold maxLen; omega) (by omega) (by simp; omega) (w3.heap.size + 1) (by simp) ?_; intro g cap' w5 hown5 hgrow hat hlt5; obtain ⟨hG5, U, hU, hGS, hGk, hbU⟩ := FIN.out g cap' w5 hown5 hgrow; obtain ⟨e0, e1, e2⟩ := heap_cells hG5; have fG := heap_frozen (o := 0) hG5))
  all_goals
   rw [← hU]
   clear hU hG5 e0 e1 e2 fG
   obtain ⟨r0, r1, r2⟩ := heap_cells hbU
   obtain ⟨q0, q1, q2⟩ := heap_cells hGS.box
   have hgd := hGS.sm (w' := U.drew) ⟨rfl, rfl, rfl, rfl⟩
   obtain ⟨w6, hup, hm6, hg6⟩ := hgd.map.update law9 Tryz.underlying63 (by unfold maxLen; omega) (key9 n hn) (plainElem_int Tryz.underlying3 (a := (ns.length : Int)) (WalkArith.wf_i64 (by omega)))
   have HFin : Hid (GS w6 lo G b _ _ _ wk ∧ Gk lo G b U.drew w6) := hgd.mapped hm6 hg6 (by simp; omega)
   clear hm6 hg6 hgd
   go_wp2
   go_region
   all_goals
    go_wp2
    go_ret
    exact ⟨rfl, hGk.trans ((Gk.of_sm (w := U) (w' := U.drew) ⟨rfl, rfl, rfl, rfl⟩).trans HFin.out.2), _, za, hza, HFin.out.1⟩
end Go.Proofs.YtikpipenhamdbaaGreat

namespace Go.Proofs.YtikpipenhamdbaaGreat
open Go.RowKit Go.Maps

/-- A node, but for where its arguments lie. -/
structure Gx where
 is : Int
 name : List UInt8
 ar : List Nat
 tg : Nat
 ins : Bool
 walk : Nat
def Gn.st (n : Gn) : Gx := { is := n.is, name := n.name, ar := n.ar, tg := n.tg, ins := n.ins, walk := n.walk }
/-- The graph in memory, wherever its rows lie; of the blocks of which R says so none is a node's. -/
def GX (w : World) (lo G b : Nat) (R : Nat → Prop) (xs : List Gx) (D : DataW Unit) (wk : Nat) : Prop := ∃ v ns, ns.map Gn.st = xs ∧ GS w lo G b v ns D wk ∧ ∀ n ∈ ns, n.ar ≠ [] → ∀ g, R g → n.ad ≠ some ⟨g, 0, none⟩
/-- What a call of lay does. -/
def LayP (lo G b wk : Nat) (x : Value) (xs : List Gx) (D : DataW Unit) (i : Nat) (xs' : List Gx) (D' : DataW Unit) : Prop :=
 ∀ (w : World) (R : Nat → Prop), (∀ g, R g → g < w.heap.size) → GX w lo G b R xs D wk → Calls Tryz.prog 28 #[.pointer (some ⟨G, 0, none⟩), x] w fun e w' => e = .returned (.int .i64 i) ∧ Gk lo G b w w' ∧ GX w' lo G b R xs' D' wk
/-- One cell of a node has turned. -/
theorem GS.node {w : World} {lo G b : Nat} {v : Value} {ns : List Gn} {D : DataW Unit} {wk : Nat} (h : GS w lo G b v ns D wk) {i : Nat} (hi : i < ns.length) (n' : Gn) (hn' : n'.ar = ns[i].ar ∧ n'.ad = ns[i].ad) {j : Nat} (hj : j < 6) {u : Value} (hu : gnC n' = (gnC ns[i]).set j u) :
  ∃ g cap, v = .slice (some ⟨g, 0, none⟩) ns.length cap ∧ GS (w.setCell ⟨g, i * 6 + j, none⟩ u) lo G b v (ns.set i n') D wk ∧ Gk lo G b w (w.setCell ⟨g, i * 6 + j, none⟩ u) := by
 obtain ⟨g, cap, rfl, hg, hlt, ⟨cur, hcur⟩, _⟩ := h.cells hi
 refine ⟨g, cap, rfl, ?_, ?_⟩
 ·have hoth : ∀ k, k ≠ g → (w.setCell ⟨g, i * 6 + j, none⟩ u).heap[k]? = w.heap[k]? := fun k hk => Below.heap_setCell _ _ _ _ hk
  have hne : ∀ k (o : Obj), w.heap[k]? = some o → (∀ c fz, o ≠ .cells c 97 fz) → k ≠ g := fun k o h1 h2 e => by
   rw [e, hcur] at h1
   exact h2 _ _ (Option.some.inj h1).symm
  have hset : (ns.set i n').flatMap gnC = (ns.flatMap gnC).set (i * 6 + j) u := by
   have key : ∀ (ns : List Gn) (i : Nat) (hi : i < ns.length), gnC n' = (gnC ns[i]).set j u → (ns.set i n').flatMap gnC = (ns.flatMap gnC).set (i * 6 + j) u := by
    intro ns
    induction ns with
    | nil => intro i hi; simp at hi
    | cons a r ih =>
     intro i hi hu
     cases i with
     | zero =>
      have hu : gnC n' = (gnC a).set j u := hu
      simp only [List.set_cons_zero, List.flatMap_cons]
      rw [hu, show 0 * 6 + j = j by omega, List.set_append_left _ _ (by simp [gnC]; omega)]
     | succ i =>
      simp only [List.set_cons_succ, List.flatMap_cons]
      rw [ih i (by simpa using hi) (by simpa using hu), List.set_append_right _ _ (by simp [gnC]; omega)]
      congr 2
      simp [gnC]
      omega
   exact key ns i hi hu
  have hst := (h.own.stored (i * 6 + j) u).1
  refine ⟨?_, ?_, ?_, by rw [List.length_set]; exact h.msz, fun n hn => ?_, h.loG, h.lob, by rw [List.length_set]; exact h.num⟩
  ·rw [hoth G (hne G _ h.box (by intro c fz e; exact absurd (cells_ty (congrArg some e)) (by decide)))]
   exact h.box
  ·rw [List.length_set, hset]
   exact hst
  ·exact h.map.setCell (fun e => by
    obtain ⟨es, clock, hb, _⟩ := h.map
    have e : b = g := e
    rw [e, hcur] at hb
    cases hb) _
  ·have hn : ∃ n0 ∈ ns, n.ar = n0.ar ∧ n.ad = n0.ad := by
    rcases List.mem_or_eq_of_mem_set hn with hn | hn
    ·exact ⟨n, hn, rfl, rfl⟩
    ·exact ⟨ns[i], List.getElem_mem hi, by rw [hn]; exact hn'.1, by rw [hn]; exact hn'.2⟩
   obtain ⟨n0, hm, e1, e2⟩ := hn
   rcases h.arg n0 hm with h1 | ⟨g', h1, h2, h3⟩
   ·exact .inl (by rw [e1]; exact h1)
   ·refine .inr ⟨g', by rw [e2]; exact h1, h2, ?_⟩
    rw [hoth g' (hne g' _ h3 (by intro c fz e; exact absurd (cells_ty (congrArg some e)) (by decide))), e1]
    exact h3
 ·refine ⟨rfl, rfl, rfl, by simp [World.setCell], fun k hk => Below.heap_setCell _ _ _ _ (show k ≠ g by omega), fun k o h1 _ _ h4 => ?_⟩
  rw [Below.heap_setCell _ _ _ _ (show k ≠ g from fun e => by
   rw [e, hcur] at h1
   exact h4 _ _ (Option.some.inj h1).symm)]
  exact h1
set_option maxHeartbeats 16000000 in
set_option maxRecDepth 10000 in
/-- A variable that is there. -/
theorem lay_old {w : World} {lo G b : Nat} {v : Value} {ns : List Gn} {D : DataW Unit} {wk : Nat} (h : GS w lo G b v ns D wk) (n : List UInt8) (ad : Option Addr) (cap i : Nat) (hn : n.length < 140737488355328) (hf : formN 2 n 0 = 2) (hD : Maps.has D (.string n) = true) (hat : D.atKey (.string n) (.lit (.int .i64 0)) = .lit (.int .i64 i)) :
  Calls Tryz.prog 28 #[.pointer (some ⟨G, 0, none⟩), .agg #[.int .i64 2, .string ⟨n.toArray⟩, .slice ad 0 cap]] w fun e w' => e = .returned (.int .i64 i) ∧ Gk lo G b w w' ∧ GS w' lo G b v ns D wk := by
 have CF := fun W => formOf_any 2 n ad 0 cap W hn (by omega)
 rw [hf] at CF
 obtain ⟨W, hW, hbW, hsW, b0, b1, b2⟩ := cells_box w (.int .i64 2) (.string ⟨n.toArray⟩) (.slice ad 0 cap) 29
 have HX : Hid (∀ w1, Below W.heap.size W w1 → GS w1 lo G b v ns D wk ∧ Gk lo G b w w1 ∧ w1.heap[w.heap.size]? = some (.cells #[.int .i64 2, .string ⟨n.toArray⟩, .slice ad 0 cap] 29 (0, 0))) := fun w1 hb => by
  have hb0 : Below w.heap.size w w1 := hbW.trans (hb.mono hbW.size)
  refine ⟨h.below hb0, Gk.of_below hb0 h.lt.1, ?_⟩
  rw [hb.block _ (by omega), hW]
  exact heap_alloc_new w _
 clear hbW hsW b0 b1 b2 h
 go_enter Tryz.func28, Tryz.ntmps28
 go_upto_region 1 with fail
 rw [← hW]
 clear hW
 obtain ⟨_, _, hbx⟩ := HX.out W (Below.refl _ _)
 obtain ⟨a0, a1, a2⟩ := heap_cells hbx
 go_upto_region 2 with (first | (go_at_call 49; (with_reducible refine Calls.mono (CF _) ?_); rintro e' w1 ⟨rfl, hb1⟩))
 obtain ⟨h1, k1, hbx1⟩ := HX.out _ hb1
 obtain ⟨x0, x1, x2⟩ := heap_cells hbx1
 obtain ⟨c0, c1, c2⟩ := heap_cells h1.box
 have hrun : ∀ m, (Instr.lookup 63 (.map (some b)) (.string ⟨n.toArray⟩) true).run Tryz.prog (w1.drewN m) = .ok (.tuple #[.int .i64 i, .bool true]) (w1.drewN m) := fun m => by
  obtain ⟨lc', hr, hat'⟩ := (h1.sm (w' := w1.drewN m) ⟨rfl, rfl, rfl, rfl⟩).look n hn
  rw [hat] at hat'
  cases hat'
  rw [hr, hD]
 clear CF hbx a0 a1 a2
 go_quiet (fail)
 go_wp2
 go_ret
 exact ⟨rfl, k1.trans (Gk.of_sm ⟨rfl, rfl, rfl, rfl⟩), h1.sm ⟨rfl, rfl, rfl, rfl⟩⟩
theorem layP_leaf (lo G b wk : Nat) (k : Int) (n : List UInt8) (ad : Option Addr) (cap : Nat) (xs : List Gx) (D : DataW Unit) (hn : n.length < 140737488355328) (hk : k = 1 ∨ k = 2) (hf : formN k n 0 = k) (hD : Maps.has D (.string n) = false) (hnum : xs.length < 200000000) :
  LayP lo G b wk (.agg #[.int .i64 k, .string ⟨n.toArray⟩, .slice ad 0 cap]) xs D xs.length (xs ++ [{ is := k, name := n, ar := [], tg := xs.length, ins := false, walk := 0 }]) (if k = 2 then D.put (.string n) (.lit (.int .i64 xs.length)) else D) := by
 intro w R hR hX
 obtain ⟨v, ns, rfl, h, hr⟩ := hX
 rw [List.length_map] at hnum ⊢
 refine Calls.mono (lay_leaf h k n ad cap hn hk hf hD hnum) ?_
 rintro e w' ⟨rfl, hk', v', za, hza, hG⟩
 refine ⟨rfl, hk', v', _, ?_, hG, fun m hm h0 => ?_⟩
 ·simp [Gn.st]
 ·rcases List.mem_append.1 hm with hm | hm
  ·exact hr m hm h0
  ·have hm := List.mem_singleton.1 hm
   rw [hm] at h0
   exact absurd rfl h0
theorem layP_old (lo G b wk : Nat) (n : List UInt8) (ad : Option Addr) (cap i : Nat) (xs : List Gx) (D : DataW Unit) (hn : n.length < 140737488355328) (hf : formN 2 n 0 = 2) (hD : Maps.has D (.string n) = true) (hat : D.atKey (.string n) (.lit (.int .i64 0)) = .lit (.int .i64 i)) :
  LayP lo G b wk (.agg #[.int .i64 2, .string ⟨n.toArray⟩, .slice ad 0 cap]) xs D i xs D := by
 intro w R hR hX
 obtain ⟨v, ns, rfl, h, hr⟩ := hX
 refine Calls.mono (lay_old h n ad cap i hn hf hD hat) ?_
 rintro e w' ⟨rfl, hk', hG⟩
 exact ⟨rfl, hk', v, ns, rfl, hG, hr⟩
theorem GX.below {w w' : World} {lo G b wk : Nat} {R : Nat → Prop} {xs : List Gx} {D : DataW Unit} (h : GX w lo G b R xs D wk) (hb : Below w.heap.size w w') : GX w' lo G b R xs D wk := by
 obtain ⟨v, ns, e, hG, hr⟩ := h
 exact ⟨v, ns, e, hG.below hb, hr⟩
theorem GX.sm {w w' : World} {lo G b wk : Nat} {R : Nat → Prop} {xs : List Gx} {D : DataW Unit} (h : GX w lo G b R xs D wk) (s : Sm w w') : GX w' lo G b R xs D wk := by
 obtain ⟨v, ns, e, hG, hr⟩ := h
 exact ⟨v, ns, e, hG.sm s, hr⟩
/-- A cell of a row of numbers that no node has. -/
theorem GX.aside {w : World} {lo G b wk za : Nat} {R : Nat → Prop} {xs : List Gx} {D : DataW Unit} (h : GX w lo G b R xs D wk) (hza : R za) {cs : Array Value} (hb : w.heap[za]? = some (.cells cs 3 (0, 0))) (j : Nat) (u : Value) : GX (w.setCell ⟨za, j, none⟩ u) lo G b R xs D wk := by
 obtain ⟨v, ns, e, h, hr⟩ := h
 have hoth : ∀ k, k ≠ za → (w.setCell ⟨za, j, none⟩ u).heap[k]? = w.heap[k]? := fun k hk => Below.heap_setCell _ _ _ _ hk
 refine ⟨v, ns, e, ⟨?_, own_keep h.own fun k hk => hoth k (fun e => ?_), h.map.setCell (fun e => ?_) _, h.msz, fun n hn => ?_, h.loG, h.lob, h.num⟩, hr⟩
 ·rw [hoth G (fun e => by rw [← e, h.box] at hb; exact absurd (cells_ty hb) (by decide))]
  exact h.box
 ·rcases h.own.2 with ⟨h0, _⟩ | ⟨g', cap', cur, hv, _, hh, _⟩
  ·rw [h0] at hk; cases hk
  ·rw [hv] at hk
   cases hk
   have e : g' = za := e
   rw [e, hb] at hh
   exact absurd (cells_ty hh) (by decide)
 ·obtain ⟨es, clock, hbm, _⟩ := h.map
  have e : b = za := e
  rw [e, hb] at hbm
  cases hbm
 ·by_cases h0 : n.ar = []
  ·exact .inl h0
  ·rcases h.arg n hn with h1 | ⟨g, h1, h2, h3⟩
   ·exact .inl h1
   ·exact .inr ⟨g, h1, h2, by rw [hoth g (fun e => hr n hn h0 za hza (by rw [h1, e]))]; exact h3⟩
/-- A new block is no node's. -/
theorem GX.fresh {w : World} {lo G b wk : Nat} {R : Nat → Prop} {xs : List Gx} {D : DataW Unit} (h : GX w lo G b R xs D wk) (o : Obj) : GX (w.alloc o) lo G b (fun g => g = w.heap.size) xs D wk := by
 obtain ⟨v, ns, e, hG, hr⟩ := h
 refine ⟨v, ns, e, hG.below ((Below.refl _ _).alloc (Nat.le_refl _) o), fun n hn h0 g hg e => ?_⟩
 rcases hG.arg n hn with h1 | ⟨g', h1, h2, h3⟩
 ·exact h0 h1
 ·rw [h1] at e
  have e : g' = g := by cases e; rfl
  have := lt_of_heap h3
  have hg : g = w.heap.size := hg
  omega
end Go.Proofs.YtikpipenhamdbaaGreat

namespace Go.Proofs.YtikpipenhamdbaaGreat
open Go.RowKit Go.Maps

/-- A node that stands within another one. -/
def insX (xs : List Gx) (i : Nat) : List Gx := xs.modify i fun x => { x with ins := true }
/-- The mark, set. -/
theorem GX.mark {w : World} {lo G b wk : Nat} {R : Nat → Prop} {xs : List Gx} {D : DataW Unit} (h : GX w lo G b R xs D wk) {i : Nat} (hi : i < xs.length) : ∃ g cap, w.cell? ⟨G, 0, none⟩ = some (.slice (some ⟨g, 0, none⟩) xs.length cap) ∧ w.frozen? ⟨g, i * 6 + 4, none⟩ = false ∧ (∃ u, w.cell? ⟨g, i * 6 + 4, none⟩ = some u) ∧ (g ≠ G ∧ ∀ k c, w.heap[k]? = some (.cells c 3 (0, 0)) → g ≠ k) ∧ GX (w.setCell ⟨g, i * 6 + 4, none⟩ (.bool true)) lo G b R (insX xs i) D wk ∧ Gk lo G b w (w.setCell ⟨g, i * 6 + 4, none⟩ (.bool true)) := by
 obtain ⟨v, ns, rfl, hG, hr⟩ := h
 rw [List.length_map] at hi ⊢
 obtain ⟨g, cap, hv, _, _, ⟨cur, hcur⟩, ⟨c0, _, _⟩, ⟨_, _, _, _, n4, _⟩, hfr⟩ := hG.cells hi
 obtain ⟨g', cap', hv', h1, h2⟩ := hG.node hi { ns[i] with ins := true } ⟨rfl, rfl⟩ (j := 4) (by omega) (u := .bool true) rfl
 rw [hv] at hv'
 cases hv'
 refine ⟨g, cap, c0, hfr _, ⟨_, n4⟩, ⟨fun e => by
  have := hG.box
  rw [← e, hcur] at this
  exact absurd (cells_ty this) (by decide), fun k c hk e => by
  rw [← e, hcur] at hk
  exact absurd (cells_ty hk) (by decide)⟩, ⟨v, _, ?_, h1, fun n hn => ?_⟩, h2⟩
 ·unfold insX
  apply List.ext_getElem?
  intro j
  rw [List.getElem?_map, List.getElem?_set, List.getElem?_modify, List.getElem?_map]
  by_cases hj : i = j
  ·subst hj
   simp [hi, Gn.st]
  ·simp [hj]
 ·rcases List.mem_or_eq_of_mem_set hn with hn | hn
  ·exact hr n hn
  ·rw [hn]
   exact fun h0 g hg => hr ns[i] (List.getElem_mem hi) h0 g hg
/-- end, at a node that leads nowhere. -/
theorem GX.end_self {w : World} {lo G b wk : Nat} {R : Nat → Prop} {xs : List Gx} {D : DataW Unit} (h : GX w lo G b R xs D wk) {i : Nat} (hi : i < xs.length) (ht : xs[i].tg = i) : Calls Tryz.prog 46 #[.pointer (some ⟨G, 0, none⟩), .int .i64 i] w fun e w' => e = .returned (.int .i64 i) ∧ w' = w := by
 obtain ⟨v, ns, rfl, hG, hr⟩ := h
 rw [List.length_map] at hi
 exact YtikpipenhamdbaaGreat.end_self hG i hi (by simpa [Gn.st] using ht)
/-- One round of lay's loop: the argument x is laid, and stands in the row za at j. -/
structure FnR (lo G b wk : Nat) (w0 wr : World) (z za : Nat) (xs : List Gx) (D : DataW Unit) (a1 a2 : Int) (sl : Value) : Prop where
 gx : GX wr lo G b (fun g => g = za) xs D wk
 gk : Gk lo G b w0 wr
 row : wr.heap[za]? = some (.cells #[.int .i64 a1, .int .i64 a2] 3 (0, 0))
 box : wr.heap[z]? = some (.cells #[.int .i64 3, .string ⟨#[]⟩, sl] 29 (0, 0))
theorem FnR.next {lo G b wk z za : Nat} {w0 wr w1 : World} {xs xs' : List Gx} {D D' : DataW Unit} {a1 a2 : Int} {sl : Value} (h : FnR lo G b wk w0 wr z za xs D a1 a2 sl) (hn : za ≠ G ∧ za ≠ b ∧ z ≠ G ∧ z ≠ b) (hk : Gk lo G b wr w1) (hx : GX w1 lo G b (fun g => g = za) xs' D' wk) : FnR lo G b wk w0 w1 z za xs' D' a1 a2 sl :=
 ⟨hx, h.gk.trans hk, hk.keep _ _ h.row hn.1 hn.2.1 (by intro c fz e; exact absurd (cells_ty (congrArg some e)) (by decide)), hk.keep _ _ h.box hn.2.2.1 hn.2.2.2 (by intro c fz e; exact absurd (cells_ty (congrArg some e)) (by decide))⟩
/-- A number is put into the row za. -/
theorem FnR.store {lo G b wk z za : Nat} {w0 wr : World} {xs : List Gx} {D : DataW Unit} {a1 a2 : Int} {sl : Value} (h : FnR lo G b wk w0 wr z za xs D a1 a2 sl) (hz : w0.heap.size ≤ za) (hlo : lo ≤ w0.heap.size) (hzz : z ≠ za) (j : Nat) (c : Int) : FnR lo G b wk w0 (wr.setCell ⟨za, j, none⟩ (.int .i64 c)) z za xs D (if j = 0 then c else a1) (if j = 1 then c else a2) sl := by
 have hoth : ∀ k, k ≠ za → (wr.setCell ⟨za, j, none⟩ (.int .i64 c)).heap[k]? = wr.heap[k]? := fun k hk => Below.heap_setCell _ _ _ _ hk
 refine ⟨h.gx.aside rfl h.row _ _, ⟨h.gk.os, h.gk.tape, h.gk.output, by simpa [World.setCell] using h.gk.size, fun k hk => ?_, fun k o h1 h2 h3 h4 => ?_⟩, ?_, ?_⟩
 ·rw [hoth k (by omega)]
  exact h.gk.low k hk
 ·rw [hoth k (by have := lt_of_heap h1; omega)]
  exact h.gk.keep k o h1 h2 h3 h4
 ·rw [setCell_block h.row]
  match j with
  | 0 => rfl
  | 1 => rfl
  | j + 2 => simp
 ·rw [hoth z hzz]
  exact h.box
/-- A node is marked. -/
theorem FnR.mark {lo G b wk z za : Nat} {w0 wr : World} {xs : List Gx} {D : DataW Unit} {a1 a2 : Int} {sl : Value} (h : FnR lo G b wk w0 wr z za xs D a1 a2 sl) (hn : za ≠ G ∧ za ≠ b ∧ z ≠ G ∧ z ≠ b) {i : Nat} (hi : i < xs.length) : ∃ g cap, wr.cell? ⟨G, 0, none⟩ = some (.slice (some ⟨g, 0, none⟩) xs.length cap) ∧ wr.frozen? ⟨g, i * 6 + 4, none⟩ = false ∧ (∃ u, wr.cell? ⟨g, i * 6 + 4, none⟩ = some u) ∧ (g ≠ G ∧ g ≠ za) ∧ FnR lo G b wk w0 (wr.setCell ⟨g, i * 6 + 4, none⟩ (.bool true)) z za (insX xs i) D a1 a2 sl := by
 obtain ⟨g, cap, h1, h2, h3, h6, h4, h5⟩ := h.gx.mark hi
 exact ⟨g, cap, h1, h2, h3, ⟨h6.1, h6.2 _ _ h.row⟩, h.next hn h5 h4⟩
theorem FnR.sm {lo G b wk z za : Nat} {w0 wr w1 : World} {xs : List Gx} {D : DataW Unit} {a1 a2 : Int} {sl : Value} (h : FnR lo G b wk w0 wr z za xs D a1 a2 sl) (hn : za ≠ G ∧ za ≠ b ∧ z ≠ G ∧ z ≠ b) (s : Sm wr w1) : FnR lo G b wk w0 w1 z za xs D a1 a2 sl := h.next hn (Gk.of_sm s) (h.gx.sm s)
theorem cell_row0 {w : World} {b : Nat} {x y : Value} {t : TypeId} {fr : Nat × Nat} (h : w.heap[b]? = some (.cells #[x, y] t fr)) : w.cell? ⟨b, 0, none⟩ = some x ∧ w.cell? ⟨b, 1, none⟩ = some y := by
 refine ⟨?_, ?_⟩ <;> (simp only [World.cell?, h]; rfl)
set_option maxHeartbeats 16000000 in
set_option maxRecDepth 10000 in
theorem lay_fun (lo G b wk : Nat) (k1 k2 : Int) (n1 n2 : ByteArray) (ad1 ad2 : Option Addr) (len1 len2 cp1 cp2 g o cap : Nat) (xs xs1 xs2 : List Gx) (D D1 D2 : DataW Unit) (i1 i2 : Nat)
  (H1 : LayP lo G b wk (.agg #[.int .i64 k1, .string n1, .slice ad1 len1 cp1]) xs D i1 xs1 D1) (hi1 : i1 < xs1.length) (ht1 : xs1[i1].tg = i1)
  (H2 : LayP lo G b wk (.agg #[.int .i64 k2, .string n2, .slice ad2 len2 cp2]) (insX xs1 i1) D1 i2 xs2 D2) (hi2 : i2 < xs2.length) (ht2 : xs2[i2].tg = i2) (hD : Maps.has D (.string []) = false) (hnum : xs2.length < 200000000)
  (w : World) (h : GX w lo G b (fun _ => False) xs D wk) (hg : g < lo)
  (p0 : w.cell? ⟨g, o, none⟩ = some (.int .i64 k1)) (p1 : w.cell? ⟨g, o + 1, none⟩ = some (.string n1)) (p2 : w.cell? ⟨g, o + 2, none⟩ = some (.slice ad1 len1 cp1)) (p3 : w.cell? ⟨g, o + 3, none⟩ = some (.int .i64 k2)) (p4 : w.cell? ⟨g, o + 4, none⟩ = some (.string n2)) (p5 : w.cell? ⟨g, o + 5, none⟩ = some (.slice ad2 len2 cp2)) :
  Calls Tryz.prog 28 #[.pointer (some ⟨G, 0, none⟩), .agg #[.int .i64 3, .string ⟨#[]⟩, .slice (some ⟨g, o, none⟩) 2 cap]] w fun e w' => e = .returned (.int .i64 xs2.length) ∧ Gk lo G b w w' ∧
   GX w' lo G b (fun _ => False) (insX xs2 i2 ++ [{ is := 3, name := [], ar := [i1, i2], tg := xs2.length, ins := false, walk := 0 }]) D2 wk := by
 have CF : ∀ W, Calls Tryz.prog 49 #[.agg #[.int .i64 3, .string ⟨#[]⟩, .slice (some ⟨g, o, none⟩) 2 cap]] W fun e w' => e = .returned (.int .i64 3) ∧ Below W.heap.size W w' := fun W => formOf_any 3 [] (some ⟨g, o, none⟩) 2 cap W (by simp) (by omega)
 have hlt : lo ≤ w.heap.size ∧ G < w.heap.size ∧ b < w.heap.size := by
  obtain ⟨v, ns, _, hG, _⟩ := h
  exact hG.lt
 have PC : Hid (∀ w1, Gk lo G b w w1 → (w1.cell? ⟨g, o, none⟩ = some (.int .i64 k1) ∧ w1.cell? ⟨g, o + 1, none⟩ = some (.string n1) ∧ w1.cell? ⟨g, o + 2, none⟩ = some (.slice ad1 len1 cp1)) ∧ w1.cell? ⟨g, o + 3, none⟩ = some (.int .i64 k2) ∧ w1.cell? ⟨g, o + 4, none⟩ = some (.string n2) ∧ w1.cell? ⟨g, o + 5, none⟩ = some (.slice ad2 len2 cp2)) := fun w1 hk => by
  have e : ∀ j, w1.cell? ⟨g, j, none⟩ = w.cell? ⟨g, j, none⟩ := fun j => World.cell?_of_block (w := w) (a := ⟨g, j, none⟩) (hk.low g hg)
  rw [e, e, e, e, e, e]
  exact ⟨⟨p0, p1, p2⟩, p3, p4, p5⟩
 obtain ⟨W, hW, hbW, hsW, b0, b1, b2⟩ := cells_box w (.int .i64 3) (.string ⟨#[]⟩) (.slice (some ⟨g, o, none⟩) 2 cap) 29
 have HX : Hid (∀ w1, Below W.heap.size W w1 → GX w1 lo G b (fun _ => False) xs D wk ∧ Gk lo G b w w1 ∧ w1.heap[w.heap.size]? = some (.cells #[.int .i64 3, .string ⟨#[]⟩, .slice (some ⟨g, o, none⟩) 2 cap] 29 (0, 0))) := fun w1 hb => by
  have hb0 : Below w.heap.size w w1 := hbW.trans (hb.mono hbW.size)
  refine ⟨h.below hb0, Gk.of_below hb0 hlt.1, ?_⟩
  rw [hb.block _ (by omega), hW]
  exact heap_alloc_new w _
 clear hbW hsW b0 b1 b2 p0 p1 p2 p3 p4 p5
 go_enter Tryz.func28, Tryz.ntmps28
 go_upto_region 1 with fail
 rw [← hW]
 clear hW
 obtain ⟨_, _, hbx⟩ := HX.out W (Below.refl _ _)
 obtain ⟨a0, a1, a2⟩ := heap_cells hbx
 go_upto_region 2 with (first | (go_at_call 49; (with_reducible refine Calls.mono (CF _) ?_); rintro e' w1 ⟨rfl, hb1⟩))
 obtain ⟨h1, k1', hbx1⟩ := HX.out _ hb1
 obtain ⟨x0, x1, x2⟩ := heap_cells hbx1
 obtain ⟨lc, hrun, c1⟩ : ∃ lc : Int, (∀ m, (Instr.lookup 63 (.map (some b)) (.string ⟨#[]⟩) true).run Tryz.prog (w1.drewN m) = .ok (.tuple #[.int .i64 lc, .bool false]) (w1.drewN m)) ∧ w1.cell? ⟨G, 1, none⟩ = some (.map (some b)) := by
  obtain ⟨v, ns, _, hG, _⟩ := h1
  obtain ⟨lc, _, hat⟩ := hG.look [] (by simp)
  refine ⟨lc, fun m => ?_, (heap_cells hG.box).2.1⟩
  obtain ⟨lc', hr, hat'⟩ := (hG.sm (w' := w1.drewN m) ⟨rfl, rfl, rfl, rfl⟩).look [] (by simp)
  rw [hat] at hat'
  cases hat'
  rw [hD] at hr
  exact hr
 clear CF hbx a0 a1 a2
 go_quiet (fail)
 generalize hw2 : w1.drewN _ = w2
 have s2 : Sm w1 w2 := by rw [← hw2]; exact ⟨rfl, rfl, rfl, rfl⟩
 clear hw2 hrun
 have h2 := h1.sm s2
 have hbx2 : w2.heap[w.heap.size]? = some (.cells #[.int .i64 3, .string ⟨#[]⟩, .slice (some ⟨g, o, none⟩) 2 cap] 29 (0, 0)) := by rw [s2.heap]; exact hbx1
 obtain ⟨y0, y1, y2⟩ := heap_cells hbx2
 have hmk : (Instr.makeSlice 72 (.int .i64 2) (.int .i64 2)).run Tryz.prog w2 = .ok (.slice (some ⟨w2.heap.size, 0, none⟩) 2 2) (w2.alloc (.cells #[.int .i64 0, .int .i64 0] 3)) := by
  have := make_ints w2 2 (by omega)
  rw [show madeCells (Value.int .i64 0).cells 2 = #[.int .i64 0, .int .i64 0] by kernel_rfl] at this
  exact this
 go_upto_region 6 with fail
 have hza : w.heap.size < w2.heap.size := lt_of_heap hbx2
 have hb3 : Below w2.heap.size w2 (w2.alloc (.cells #[.int .i64 0, .int .i64 0] 3)) := (Below.refl _ _).alloc (Nat.le_refl _) _
 have k2' : Gk lo G b w w2 := k1'.trans (Gk.of_sm s2)
 have F0 : FnR lo G b wk w (w2.alloc (.cells #[.int .i64 0, .int .i64 0] 3)) w.heap.size w2.heap.size xs D 0 0 (.slice (some ⟨g, o, none⟩) 2 cap) := ⟨h2.fresh _, k2'.trans (Gk.of_below hb3 (by omega)), heap_alloc_new w2 _, (hb3.block _ hza).trans hbx2⟩
 clear hmk h2 hbx2 y0 y1 y2 hb3 k2' s2 h1 k1' hbx1 x0 x1 x2 c1 hb1 HX
 generalize w2.alloc (.cells #[.int .i64 0, .int .i64 0] 3) = w3 at *
 generalize w2.heap.size = za at *
 have hne : za ≠ G ∧ za ≠ b ∧ w.heap.size ≠ G ∧ w.heap.size ≠ b := by omega
 obtain ⟨y0, y1, y2⟩ := heap_cells F0.box
 go_wp2
 refine wp_loop_rounds 3 ?_
 rw [rounds_succ]
 have ROUND : Hid (∀ (j : Nat) (wr : World) (k : Int) (n : ByteArray) (ad : Option Addr) (len cp : Nat) (ys ys' : List Gx) (E E' : DataW Unit) (i : Nat) (a1 a2 : Int), FnR lo G b wk w wr w.heap.size za ys E a1 a2 (.slice (some ⟨g, o, none⟩) 2 cap) → LayP lo G b wk (.agg #[.int .i64 k, .string n, .slice ad len cp]) ys E i ys' E' → Calls Tryz.prog 28 #[.pointer (some ⟨G, 0, none⟩), .agg #[.int .i64 k, .string n, .slice ad len cp]] (wr.alloc (Obj.cells #[.int .i64 k, .string n, .slice ad len cp] 29)) fun e w' => e = .returned (.int .i64 i) ∧ FnR lo G b wk w w' w.heap.size za ys' E' a1 a2 (.slice (some ⟨g, o, none⟩) 2 cap)) := fun j wr k n ad len cp ys ys' E E' i a1 a2 hR hL => by
  have hb := (Below.refl wr.heap.size wr).alloc (Nat.le_refl _) (Obj.cells #[.int .i64 k, .string n, .slice ad len cp] 29)
  have hlo : lo ≤ wr.heap.size := by have := hR.gk.size; omega
  have hR1 := hR.next hne (Gk.of_below hb hlo) (hR.gx.below hb)
  refine Calls.mono (hL _ (fun g => g = za) (fun g e => by rw [e]; exact lt_of_heap hR1.row) hR1.gx) ?_
  rintro e w' ⟨rfl, hk, hx⟩
  exact ⟨rfl, hR1.next hne hk hx⟩
 obtain ⟨⟨q0, q1, q2⟩, _⟩ := PC.out w3 F0.gk
 have C1 := ROUND.out 0 w3 k1 n1 ad1 len1 cp1 xs xs1 D D1 i1 0 0 F0 H1
 go_upto_region 10 with (first
  | (go_at_call 28; (with_reducible refine Calls.mono C1 ?_); rintro e' w4 ⟨rfl, F1⟩; have rA := cell_row0 F1.row; have fA := heap_frozen (o := 0) F1.row))
 have F2 := F1.store (by omega) hlt.1 (by omega) 0 i1
 simp only [if_true, Nat.zero_ne_one, if_false] at F2
 generalize w4.setCell ⟨za, 0, none⟩ (.int .i64 i1) = v1 at F2 ⊢
 clear C1 F0 F1 q0 q1 q2 y0 y1 y2 rA fA
 obtain ⟨g1, cp1', m0, m1, ⟨mu, m2⟩, ⟨mg1, mg2⟩, F3⟩ := (F2.sm hne (w1 := v1.drew) ⟨rfl, rfl, rfl, rfl⟩).mark hne hi1
 have C2 := (F2.sm hne (w1 := v1.drew) ⟨rfl, rfl, rfl, rfl⟩).gx.end_self hi1 ht1
 obtain ⟨rA, _⟩ := cell_row0 F2.row
 have j1 : (0 : Int) ≤ (i1 : Int) := by omega
 have j2 : (i1 : Int) < (xs1.length : Int) := by omega
 have m0' : v1.cell? ⟨G, 0, none⟩ = some (.slice (some ⟨g1, 0, none⟩) xs1.length cp1') := m0
 have m1' : v1.frozen? ⟨g1, i1 * 6 + 4, none⟩ = false := m1
 have m2' : v1.cell? ⟨g1, i1 * 6 + 4, none⟩ = some mu := m2
 have e1 : ¬ g1 = G := mg1
 have e2 : ¬ G = g1 := fun e => mg1 e.symm
 have e3 : ¬ g1 = za := mg2
 have e4 : ¬ za = g1 := fun e => mg2 e.symm
 go_region_held3 (fun w' => w'.cell? ⟨G, 0, none⟩ = some (.slice (some ⟨g1, 0, none⟩) xs1.length cp1') ∧ w'.cell? ⟨za, 0, none⟩ = some (.int .i64 i1)) (first | exact ⟨m0', rA⟩ | exact ⟨m0, rA⟩ | assumption | go_keep) (first | (go_at_call 46; (with_reducible refine Calls.mono C2 ?_); rintro e' w5 ⟨rfl, rfl⟩))
 have F4 : FnR lo G b wk w ((v1.setCell ⟨g1, i1 * 6 + 4, none⟩ (.bool true)).drew) w.heap.size za (insX xs1 i1) D1 i1 0 (.slice (some ⟨g, o, none⟩) 2 cap) := F3
 generalize (v1.setCell ⟨g1, i1 * 6 + 4, none⟩ (.bool true)).drew = v2 at F4 ⊢
 clear F2 F3 C2 rA m0 m1 m2 m0' m1' m2' e1 e2 e3 e4 mg1 mg2 j1 j2
 obtain ⟨_, q3, q4, q5⟩ := PC.out v2 F4.gk
 have C3 := ROUND.out 1 v2 k2 n2 ad2 len2 cp2 (insX xs1 i1) xs2 D1 D2 i2 i1 0 F4 H2
 go_wp2
 rw [rounds_succ]
 go_upto_region 10 with (first
  | (go_at_call 28; (with_reducible refine Calls.mono C3 ?_); rintro e' w4 ⟨rfl, F1⟩; have rA := cell_row0 F1.row; have fA := heap_frozen (o := 1) F1.row))
 have F2 := F1.store (by omega) hlt.1 (by omega) 1 i2
 simp only [if_true, Nat.one_ne_zero, if_false] at F2
 generalize w4.setCell ⟨za, 1, none⟩ (.int .i64 i2) = v3 at F2 ⊢
 clear C3 F4 F1 q3 q4 q5 rA fA
 obtain ⟨g1, cp1', m0, m1, ⟨mu, m2⟩, ⟨mg1, mg2⟩, F3⟩ := (F2.sm hne (w1 := v3.drew) ⟨rfl, rfl, rfl, rfl⟩).mark hne hi2
 have C2 := (F2.sm hne (w1 := v3.drew) ⟨rfl, rfl, rfl, rfl⟩).gx.end_self hi2 ht2
 obtain ⟨_, rA⟩ := cell_row0 F2.row
 have j1 : (0 : Int) ≤ (i2 : Int) := by omega
 have j2 : (i2 : Int) < (xs2.length : Int) := by omega
 have m0' : v3.cell? ⟨G, 0, none⟩ = some (.slice (some ⟨g1, 0, none⟩) xs2.length cp1') := m0
 have m1' : v3.frozen? ⟨g1, i2 * 6 + 4, none⟩ = false := m1
 have m2' : v3.cell? ⟨g1, i2 * 6 + 4, none⟩ = some mu := m2
 have e1 : ¬ g1 = G := mg1
 have e2 : ¬ G = g1 := fun e => mg1 e.symm
 have e3 : ¬ g1 = za := mg2
 have e4 : ¬ za = g1 := fun e => mg2 e.symm
 go_region_held3 (fun w' => w'.cell? ⟨G, 0, none⟩ = some (.slice (some ⟨g1, 0, none⟩) xs2.length cp1') ∧ w'.cell? ⟨za, 1, none⟩ = some (.int .i64 i2)) (first | exact ⟨m0', rA⟩ | exact ⟨m0, rA⟩ | assumption | go_keep) (first | (go_at_call 46; (with_reducible refine Calls.mono C2 ?_); rintro e' w5 ⟨rfl, rfl⟩))
 have F4 : FnR lo G b wk w ((v3.setCell ⟨g1, i2 * 6 + 4, none⟩ (.bool true)).drew) w.heap.size za (insX xs2 i2) D2 i1 i2 (.slice (some ⟨g, o, none⟩) 2 cap) := F3
 generalize (v3.setCell ⟨g1, i2 * 6 + 4, none⟩ (.bool true)).drew = v4 at F4 ⊢
 clear F2 F3 C2 rA m0 m1 m2 m0' m1' m2' e1 e2 e3 e4 mg1 mg2 j1 j2 ROUND
 have hlx : (insX xs2 i2).length = xs2.length := by simp [insX]
 obtain ⟨gx, gk, row, box⟩ := F4
 obtain ⟨v, ns, hst, hG, hr⟩ := gx
 have HNL : Hid (ns.length = xs2.length) := by show _ = _; rw [← hlx, ← hst, List.length_map]
 have hnn : ns.length < 200000000 := by have := HNL.out; omega
 clear hlx
 obtain ⟨va, vc, rfl⟩ := hG.form
 obtain ⟨d0, d1, d2⟩ := heap_cells hG.box
 obtain ⟨y0, y1, y2⟩ := heap_cells box
 obtain ⟨i0, hi, hz0, hz1, hz2⟩ := info_parts Tryz.info97
 go_wp2
 rw [rounds_succ]
 go_wp2
 have FIN : Hid (∀ g' cap' w5, w5.ownsRow lo 97 6 (.slice (some ⟨g', 0, none⟩) (ns.length + 1) cap') (ns.length + 1) (ns.flatMap gnC ++ [.int .i64 3, .string ⟨#[]⟩, .slice (some ⟨za, 0, none⟩) 2 2, .int .i64 ns.length, .bool false, .int .i64 0]) → ((v4.alloc (Obj.cells #[.int .i64 3, .string ⟨#[]⟩, .slice (some ⟨za, 0, none⟩) 2 2, .int .i64 ns.length, .bool false, .int .i64 0] 97)).drew).grownBy w5 (Value.slice va ns.length vc).ownBlock → w5.heap[G]? = some (.cells #[.slice va ns.length vc, .map (some b), .int .i64 wk] 66 (0, 0)) ∧ ∃ U, U = w5.setCell ⟨G, 0, none⟩ (.slice (some ⟨g', 0, none⟩) (ns.length + 1) cap') ∧ GX U lo G b (fun _ => False) (insX xs2 i2 ++ [{ is := 3, name := [], ar := [i1, i2], tg := xs2.length, ins := false, walk := 0 }]) D2 wk ∧ Gk lo G b w U) := fun g' cap' w5 ho hg' => by
  obtain ⟨q1, U, q2, q3, q4⟩ := hG.put (n := { is := 3, name := [], ad := some ⟨za, 0, none⟩, ar := [i1, i2], tg := ns.length, ins := false, walk := 0 }) hnn (.inr ⟨za, rfl, by omega, row⟩) ho (o := Obj.cells #[.int .i64 3, .string ⟨#[]⟩, .slice (some ⟨za, 0, none⟩) 2 2, .int .i64 ns.length, .bool false, .int .i64 0] 97) ⟨hg'.os, hg'.tape, hg'.output, hg'.size, hg'.block⟩
  refine ⟨q1, U, q2, ⟨_, _, ?_, q3, fun _ _ _ g hg => hg.elim⟩, gk.trans q4⟩
  rw [List.map_append, hst]
  simp [Gn.st, HNL.out]
 have hlo3 := hG.lt.1
 have hG3 := hG.lt.2.1
 have hzl := lt_of_heap box
 have nG : ¬ G = v4.heap.size := by omega
 have nG' : ¬ v4.heap.size = G := by omega
 have nz : ¬ w.heap.size = v4.heap.size := by omega
 have nz' : ¬ v4.heap.size = w.heap.size := by omega
 have hown3 := hG.own
 clear hG gk hr hst
 go_region_law ((refine step_append_lies _ (by rfl) _ _ _ (by rfl) lo 97 i0 _ 6 72 Tryz.underlying64 hi hz0 hz1 hz2 rfl (by omega) (.slice va ns.length vc) ns.length (ns.flatMap gnC) (by rfl) ((hown3.alloc _).drew) ⟨v4.heap.size, 0, none⟩ 1 1 [.int .i64 3, .string ⟨#[]⟩, .slice (some ⟨za, 0, none⟩) 2 2, .int .i64 ns.length, .bool false, .int .i64 0] (by rfl) (by rfl) (World.news_of_block (cs := #[.int .i64 3, .string ⟨#[]⟩, .slice (some ⟨za, 0, none⟩) 2 2, .int .i64 ns.length, .bool false, .int .i64 0]) (t := 97) (fr := (0, 0)) (heap_alloc_new v4 _)) (by simp [Value.oneCell']) (by omega) (by unfold maxLen; omega) (by omega) (by simp; omega) (v4.heap.size + 1) (by simp) ?_; intro g' cap' w5 hown5 hgrow hat hlt5; obtain ⟨hG5, U, hU, hGS, hGk⟩ := FIN.out g' cap' w5 hown5 hgrow; obtain ⟨e0, e1, e2⟩ := heap_cells hG5; have fG := heap_frozen (o := 0) hG5))
 all_goals
  rw [← hU]
  clear hU hG5 e0 e1 e2 fG
  go_wp2
  go_ret
  exact ⟨by rw [← HNL.out]; rfl, hGk, hGS⟩
end Go.Proofs.YtikpipenhamdbaaGreat

namespace Go.Proofs.YtikpipenhamdbaaGreat
open Go.RowKit Go.Maps

theorem wpList_append_zero {P : Program} {w : World} {ops : Array Oper} {rest : List Oper} {o : Oper} {a : Act} {Q : Exit → Act → World → Prop} (hgd : o.guard = none) (s x : Operand) (t : TypeId)
  (ho : o.op = .call { callee := .builtin .append, args := #[s, x], argTypes := #[t, t] })
  (base : Nat) (e : TypeId) (i : TypeInfo) (size : Nat) (ht : P.underlying t = some (.slice e)) (hi : P.info? e = some i)
  (v : Value) (n : Nat) (xs : List Value) (hs : a.eval s = v) (hown : w.ownsRow base e size v n xs) (ad : Option Addr) (c : Nat) (hx : a.eval x = .slice ad 0 c)
  (h : wpList P ops Q rest (a.put o.dst v) w) : wpList P ops Q (o :: rest) a w := by
 refine wpList_plain hgd fun K hK => ?_
 have hrun := run_append_zero (P := P) (w := w) base t o.type e i size ht hi v n xs hown ad c
 unfold Oper.wp
 simp [execOp, ho, resolve, invoke, builtin, hs, hx, hrun, Result.andThen]
 exact hK _ _ h
/-- One more walk. -/
theorem GX.walks {w : World} {lo G b wk : Nat} {R : Nat → Prop} {xs : List Gx} {D : DataW Unit} (h : GX w lo G b R xs D wk) : w.cell? ⟨G, 2, none⟩ = some (.int .i64 wk) ∧ w.frozen? ⟨G, 2, none⟩ = false ∧ GX (w.setCell ⟨G, 2, none⟩ (.int .i64 (wk + 1 : Nat))) lo G b R xs D (wk + 1) ∧ Gk lo G b w (w.setCell ⟨G, 2, none⟩ (.int .i64 (wk + 1 : Nat))) := by
 obtain ⟨v, ns, e, h, hr⟩ := h
 have hoth : ∀ k, k ≠ G → (w.setCell ⟨G, 2, none⟩ (.int .i64 (wk + 1 : Nat))).heap[k]? = w.heap[k]? := fun k hk => Below.heap_setCell _ _ _ _ hk
 refine ⟨(heap_cells h.box).2.2, heap_frozen h.box, ⟨v, ns, e, ⟨(setCell_block h.box).trans rfl, own_keep h.own fun k hk => hoth k (fun e => ?_), h.map.setCell (fun e => ?_) _, h.msz, fun n hn => ?_, h.loG, h.lob, h.num⟩, hr⟩, ⟨rfl, rfl, rfl, by simp [World.setCell], fun k hk => hoth k (by have := h.loG; omega), fun k o h1 h2 _ _ => (hoth k h2).trans h1⟩⟩
 ·rcases h.own.2 with ⟨h0, _⟩ | ⟨g', cap', cur, hv, _, hh, _⟩
  ·rw [h0] at hk; cases hk
  ·rw [hv] at hk
   cases hk
   have e : g' = G := e
   rw [e, h.box] at hh
   exact absurd (cells_ty hh) (by decide)
 ·obtain ⟨es, clock, hbm, _⟩ := h.map
  have e : b = G := e
  rw [e, h.box] at hbm
  cases hbm
 ·rcases h.arg n hn with h1 | ⟨g, h1, h2, h3⟩
  ·exact .inl h1
  ·exact .inr ⟨g, h1, h2, by rw [hoth g (fun e => by rw [e, h.box] at h3; exact absurd (cells_ty h3) (by decide))]; exact h3⟩
theorem slice_block {g g' n n' c c' : Nat} (h : some (Value.slice (some ⟨g, 0, none⟩) n c) = some (.slice (some ⟨g', 0, none⟩) n' c')) : g = g' := by
 simp only [Option.some.injEq, Value.slice.injEq, Addr.mk.injEq, and_true] at h
 exact h.1
def walkX (xs : List Gx) (i wk : Nat) : List Gx := xs.modify i fun x => { x with walk := wk }
def toX (xs : List Gx) (i m : Nat) : List Gx := xs.modify i fun x => { x with tg := m }
/-- The cells of a node, and what its walk and its way turn. -/
theorem GX.at {w : World} {lo G b wk : Nat} {R : Nat → Prop} {xs : List Gx} {D : DataW Unit} (h : GX w lo G b R xs D wk) {i : Nat} (hi : i < xs.length) : ∃ g cap ad, w.cell? ⟨G, 0, none⟩ = some (.slice (some ⟨g, 0, none⟩) xs.length cap) ∧ w.cell? ⟨G, 1, none⟩ = some (.map (some b)) ∧ g ≠ G ∧ (∀ j, w.frozen? ⟨g, j, none⟩ = false) ∧
  (w.cell? ⟨g, i * 6, none⟩ = some (.int .i64 xs[i].is) ∧ w.cell? ⟨g, i * 6 + 1, none⟩ = some (.string ⟨xs[i].name.toArray⟩) ∧ w.cell? ⟨g, i * 6 + 2, none⟩ = some (.slice ad xs[i].ar.length xs[i].ar.length) ∧ w.cell? ⟨g, i * 6 + 3, none⟩ = some (.int .i64 xs[i].tg) ∧ w.cell? ⟨g, i * 6 + 4, none⟩ = some (.bool xs[i].ins) ∧ w.cell? ⟨g, i * 6 + 5, none⟩ = some (.int .i64 xs[i].walk)) ∧
  (∀ m : Nat, GX (w.setCell ⟨g, i * 6 + 5, none⟩ (.int .i64 m)) lo G b R (walkX xs i m) D wk ∧ Gk lo G b w (w.setCell ⟨g, i * 6 + 5, none⟩ (.int .i64 m))) ∧
  (∀ m : Nat, GX (w.setCell ⟨g, i * 6 + 3, none⟩ (.int .i64 m)) lo G b R (toX xs i m) D wk ∧ Gk lo G b w (w.setCell ⟨g, i * 6 + 3, none⟩ (.int .i64 m))) := by
 obtain ⟨v, ns, rfl, hG, hr⟩ := h
 rw [List.length_map] at hi
 obtain ⟨g, cap, hv, _, _, ⟨cur, hcur⟩, ⟨c0, c1, _⟩, hn, hfr⟩ := hG.cells hi
 have hmod : ∀ (f : Gn → Gn) (f' : Gx → Gx), (∀ n, (f n).st = f' n.st) → (ns.set i (f ns[i])).map Gn.st = (ns.map Gn.st).modify i f' := fun f f' hf => by
  apply List.ext_getElem?
  intro j
  rw [List.getElem?_map, List.getElem?_set, List.getElem?_modify, List.getElem?_map]
  by_cases hj : i = j
  ·subst hj
   simp [hi, hf]
  ·simp [hj]
 have hmem : ∀ (n' : Gn), (n'.ar = ns[i].ar ∧ n'.ad = ns[i].ad) → ∀ n ∈ ns.set i n', n.ar ≠ [] → ∀ g, R g → n.ad ≠ some ⟨g, 0, none⟩ := fun n' hn' n hn => by
  rcases List.mem_or_eq_of_mem_set hn with hn | hn
  ·exact hr n hn
  ·rw [hn, hn'.1, hn'.2]
   exact hr _ (List.getElem_mem hi)
 refine ⟨g, cap, ns[i].ad, by rw [List.length_map]; exact c0, c1, fun e => by
  have := hG.box
  rw [← e, hcur] at this
  exact absurd (cells_ty this) (by decide), hfr, ?_, fun m => ?_, fun m => ?_⟩
 ·simpa [Gn.st] using hn
 ·obtain ⟨g', cap', hv', h1, h2⟩ := hG.node hi { ns[i] with walk := m } ⟨rfl, rfl⟩ (j := 5) (by omega) (u := .int .i64 m) rfl
  rw [hv] at hv'
  cases hv'
  exact ⟨⟨v, _, hmod (fun n => { n with walk := m }) _ (fun _ => rfl), h1, hmem _ ⟨rfl, rfl⟩⟩, h2⟩
 ·obtain ⟨g', cap', hv', h1, h2⟩ := hG.node hi { ns[i] with tg := m } ⟨rfl, rfl⟩ (j := 3) (by omega) (u := .int .i64 m) rfl
  rw [hv] at hv'
  cases hv'
  exact ⟨⟨v, _, hmod (fun n => { n with tg := m }) _ (fun _ => rfl), h1, hmem _ ⟨rfl, rfl⟩⟩, h2⟩
set_option maxHeartbeats 16000000 in
set_option maxRecDepth 10000 in
/-- The iterator, at a node that is no variable and has no arguments: nothing is yielded. -/
theorem iter_none {lo G b wk : Nat} {xs : List Gx} {D : DataW Unit} (i : Nat) (hi : i < xs.length) (ht : xs[i].tg = i) (his : xs[i].is ≠ 2) (har : xs[i].ar = []) (hwk : xs[i].walk ≤ wk) (hwm : wk < 200000000) (y : Value) (pg pn : Nat) (w : World) (h : GX w lo G b (fun _ => False) xs D wk) (hpg : w.cell? ⟨pg, 0, none⟩ = some (.pointer (some ⟨G, 0, none⟩)))
  (hkp : ∀ w', Gk lo G b w w' → w'.cell? ⟨pg, 0, none⟩ = some (.pointer (some ⟨G, 0, none⟩)) ∧ w'.cell? ⟨pn, 0, none⟩ = some (.int .i64 i)) :
  Calls Tryz.prog 87 #[y, .pointer (some ⟨pg, 0, none⟩), .pointer (some ⟨pn, 0, none⟩)] w fun e w' => e = .returned (.tuple #[]) ∧ Gk lo G b w w' ∧ GX w' lo G b (fun _ => False) (walkX xs i (wk + 1)) D (wk + 1) := by
 obtain ⟨c2, f2, h1, k1⟩ := h.walks
 have hlt : lo ≤ w.heap.size := by
  obtain ⟨v, ns, _, hG, _⟩ := h
  exact hG.lt.1
 obtain ⟨hpg1, hpn1⟩ := hkp _ k1
 have hcw : ((wk + 1 : Nat) : Int) = (wk : Int) + 1 := by omega
 rw [hcw] at h1 k1 hpg1 hpn1
 go_enter Tryz.func87, Tryz.ntmps87
 go_wp2
 obtain ⟨v0, hv0⟩ : ∃ v0, v0 = w.setCell ⟨G, 2, none⟩ (.int .i64 ((wk : Int) + 1)) := ⟨_, rfl⟩
 have hsz0 : v0.heap.size = w.heap.size := by rw [hv0]; simp [World.setCell]
 rw [← hv0] at h1 k1 hpg1 hpn1 ⊢
 have hb1 := (Below.refl v0.heap.size v0).alloc (Nat.le_refl _) (Obj.cells #[.int .i64 i] 3)
 have k2 : Gk lo G b w (v0.alloc (Obj.cells #[.int .i64 i] 3)) := k1.trans (Gk.of_below hb1 (by omega))
 have h2 := h1.below hb1
 have o2 := World.ownsRow_lit (base := w.heap.size) (e := 3) (size := 1) v0 #[.int .i64 i] 1 (by omega) (by decide) rfl
 have r2 : (v0.alloc (Obj.cells #[.int .i64 i] 3)).cell? ⟨v0.heap.size, 0, none⟩ = some (.int .i64 i) := by
  have := heap_alloc_new v0 (Obj.cells #[.int .i64 i] 3)
  simp only [World.cell?, this]
  rfl
 clear hb1 h1 k1 hv0 c2 f2 hpg1 hpn1 hpg h
 rw [hsz0] at r2 o2
 clear hsz0
 generalize v0.alloc (Obj.cells #[.int .i64 i] 3) = v1 at *
 obtain ⟨hpg1, hpn1⟩ := hkp _ k2
 obtain ⟨g, cap, ad, c0, c1, hgG, hfr, ⟨n0, n1, n2, n3, n4, n5⟩, hW, _⟩ := h2.at hi
 obtain ⟨c2, _⟩ := h2.walks
 rw [har] at n2
 have C1 := (h2.sm (w' := v1.drew) ⟨rfl, rfl, rfl, rfl⟩).end_self hi ht
 have hlen : xs.length ≤ 200000000 := by
  obtain ⟨v, ns, e, hG, _⟩ := h2
  rw [← e, List.length_map]
  exact hG.num
 have j1 : (0 : Int) ≤ (i : Int) := by omega
 have j2 : (i : Int) < (xs.length : Int) := by omega
 have hwn : ¬ (xs[i].walk : Int) = (wk : Int) + 1 := by omega
 have hwn2 : ((xs[i].walk : Int) == (wk : Int) + 1) = false := by simp; omega
 have his2 : (xs[i].is == 2) = false := by simpa using his
 have f5 := hfr (i * 6 + 5)
 have c2' : v1.cell? ⟨G, 2, none⟩ = some (.int .i64 ((wk : Int) + 1)) := by rw [c2]; simp
 obtain ⟨hW1, hW2⟩ := hW (wk + 1)
 rw [show ((wk + 1 : Nat) : Int) = (wk : Int) + 1 by omega] at hW1 hW2
 obtain ⟨hpg2, hpn2⟩ := hkp _ (k2.trans hW2)
 clear n1 n3 n4 c1 hfr hW c2
 refine wp_loop_rounds 2 ?_
 rw [rounds_succ]
 go_wp2
 go_region_held3 (fun w' => w'.cell? ⟨pg, 0, none⟩ = some (.pointer (some ⟨G, 0, none⟩)) ∧ w'.cell? ⟨w.heap.size, 0, none⟩ = some (.int .i64 i)) (first | exact ⟨hpg1, r2⟩ | assumption | go_keep) (first | (go_at_call 46; (with_reducible refine Calls.mono C1 ?_); rintro e' w5 ⟨rfl, rfl⟩))
 go_wp2
 go_quiet (fail)
 generalize hv2 : World.drewN _ _ = v2
 have s2 : Sm v1 v2 := by rw [← hv2]; exact ⟨rfl, rfl, rfl, rfl⟩
 have HC0 : Hid (v1.cell? ⟨G, 0, none⟩ = some (.slice (some ⟨g, 0, none⟩) xs.length cap)) := c0
 clear hv2 c0 c2' n0 n2 n5 f5 hW1 hW2 hpg2 hpn2 hpg1 hpn1 r2
 have h3 := h2.sm s2
 have k3 := k2.trans (Gk.of_sm s2)
 have o3 : v2.ownsRow w.heap.size 3 1 (.slice (some ⟨w.heap.size, 0, none⟩) 0 1) 0 [] := by
  rcases o2.2 with ⟨h0, _⟩ | ⟨g', cap', cur, hv, hb, hh, hc, hm, hs, _⟩
  ·cases h0
  ·cases hv
   exact ⟨rfl, .inr ⟨w.heap.size, 1, cur, rfl, hb, by rw [s2.heap]; exact hh, by omega, hm, hs, by simp⟩⟩
 obtain ⟨hpg1, hpn1⟩ := hkp _ k3
 obtain ⟨g', cap', ad', c0, c1, hgG', hfr, ⟨n0, n1, n2, n3, n4, n5⟩, hW, _⟩ := h3.at hi
 obtain ⟨c2, _⟩ := h3.walks
 rw [har] at n2
 have c2' : v2.cell? ⟨G, 2, none⟩ = some (.int .i64 ((wk : Int) + 1)) := by rw [c2]; simp
 have f5 := hfr (i * 6 + 5)
 have hgg : g' = g := by
  have e : v2.cell? ⟨G, 0, none⟩ = v1.cell? ⟨G, 0, none⟩ := World.cell?_of_block (w := v1) (by rw [s2.heap])
  rw [e, HC0.out] at c0
  cases c0
  rfl
 subst hgg
 obtain ⟨hW1, hW2⟩ := hW (wk + 1)
 rw [show ((wk + 1 : Nat) : Int) = (wk : Int) + 1 by omega] at hW1 hW2
 have k4 := k3.trans hW2
 obtain ⟨hpg2, hpn2⟩ := hkp _ k4
 have hi4 : i < (walkX xs i (wk + 1)).length := by simpa [walkX] using hi
 have hx4 : (walkX xs i (wk + 1))[i].is = xs[i].is ∧ (walkX xs i (wk + 1))[i].ar = [] := by simp [walkX, har]
 obtain ⟨g4, cap4, ad4, e0, _, _, _, ⟨m0, _, m2, _⟩, _⟩ := hW1.at hi4
 rw [hx4.1] at m0
 rw [hx4.2] at m2
 have hg4 : g4 = g' := by
  have e : (v2.setCell ⟨g', i * 6 + 5, none⟩ (.int .i64 ((wk : Int) + 1))).cell? ⟨G, 0, none⟩ = v2.cell? ⟨G, 0, none⟩ := World.cell?_of_block (w := v2) (Below.heap_setCell _ _ _ _ (fun e => hgG' e.symm))
  rw [e, c0] at e0
  exact (slice_block e0).symm
 subst hg4
 have o4 : (v2.setCell ⟨g4, i * 6 + 5, none⟩ (.int .i64 ((wk : Int) + 1))).ownsRow w.heap.size 3 1 (.slice (some ⟨w.heap.size, 0, none⟩) 0 1) 0 [] := own_keep o3 fun k hk => by
  cases hk
  refine Below.heap_setCell _ _ _ _ (fun e => ?_)
  have e : w.heap.size = g4 := e
  rcases o3.2 with ⟨h0, _⟩ | ⟨_, _, cur, hv, _, hh, _⟩
  ·cases h0
  ·cases hv
   obtain ⟨v, ns, e', hG, _⟩ := h3
   obtain ⟨g5, _, hv5, _, _, ⟨cur5, hc5⟩, ⟨d0, _⟩, _⟩ := hG.cells (i := i) (by rw [← e'] at hi; simpa using hi)
   rw [c0] at d0
   rw [← slice_block d0, ← e, hh] at hc5
   exact absurd (cells_ty hc5) (by decide)
 obtain ⟨i0, hin, _, _, _⟩ := info_parts Tryz.info3
 clear hW h2 h3 k2 k3 hW2 o2 o3 C1 n1 n3 n4 c1 hfr
 go_upto_region 9 with fail
 generalize v2.setCell ⟨g4, i * 6 + 5, none⟩ (.int .i64 ((wk : Int) + 1)) = v3 at *
 clear c0 n0 n2 n5 f5 c2 c2' hpg1 hpn1
 go_wp2_with (at_builtin; refine wpList_append_zero rfl _ _ 72 rfl w.heap.size 3 i0 1 Tryz.underlying72 hin (.slice (some ⟨w.heap.size, 0, none⟩) 0 1) 0 [] rfl o4 ad4 0 rfl ?_)
 rw [rounds_succ]
 go_wp2
 go_end0
 exact ⟨rfl, k4, hW1⟩
end Go.Proofs.YtikpipenhamdbaaGreat
