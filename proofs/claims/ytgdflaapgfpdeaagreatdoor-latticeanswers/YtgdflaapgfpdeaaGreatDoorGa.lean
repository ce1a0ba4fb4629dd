/- The program's graph of types in memory; the contract of end, where a node leads nowhere, or to one that does. -/
import Derived.Test.YtgdflaapgfpdeaaGreatDoorMpx
import Derived.Maps.Own
import Derived.Maps.OwnOps
import Derived.Maps.OwnSet
import Derived.BigRegion
namespace Go.Proofs.YtgdflaapgfpdeaaGreatDoor
open Go.RowKit Go.Maps

/-- A node of the graph. -/
structure Gn where
  is : Int
  name : List UInt8
  ad : Option Addr
  ar : List Nat
  tg : Nat
  ins : Bool
  walk : Nat
/-- The slice of a node's arguments. -/
abbrev Gn.av (n : Gn) : Value := .slice n.ad n.ar.length n.ar.length
def gnC (n : Gn) : List Value := [.int .i64 n.is, .string ⟨n.name.toArray⟩, n.av, .int .i64 n.tg, .bool n.ins, .int .i64 n.walk]
/-- The graph in memory: its box G, its map b, its row of nodes v; all that it lies in is from lo on. -/
structure GS (w : World) (lo G b : Nat) (v : Value) (ns : List Gn) (D : DataW Unit) (wk : Nat) : Prop where
  box : w.heap[G]? = some (.cells #[v, .map (some b), .int .i64 wk] 97 (0, 0))
  own : w.ownsRow lo 122 6 v ns.length (ns.flatMap gnC)
  map : w.ownsMap Tryz.prog 9 (plainElem Tryz.prog 3) b (Maps.size D) D
  msz : Maps.size D ≤ ns.length
  arg : ∀ n ∈ ns, n.ar = [] ∨ ∃ g, n.ad = some ⟨g, 0, none⟩ ∧ lo ≤ g ∧ w.heap[g]? = some (.cells (n.ar.map fun (x : Nat) => Value.int .i64 x).toArray 3 (0, 0))
  loG : lo ≤ G
  lob : lo ≤ b
  num : ns.length ≤ 1000000
/-- Nothing has turned but how often was drawn. -/
structure Sm (w w' : World) : Prop where
  heap : w'.heap = w.heap
  os : w'.os = w.os
  tape : w'.tape = w.tape
  output : w'.output = w.output
theorem Sm.refl (w : World) : Sm w w := ⟨rfl, rfl, rfl, rfl⟩
theorem Sm.trans {a b c : World} (h : Sm a b) (k : Sm b c) : Sm a c := ⟨k.heap.trans h.heap, k.os.trans h.os, k.tape.trans h.tape, k.output.trans h.output⟩
theorem Sm.below {w w' : World} (h : Sm w w') (B : Nat) : Below B w w' := ⟨h.os, h.tape, h.output, by rw [h.heap]; exact Nat.le_refl _, fun k _ => by rw [h.heap]⟩
theorem GS.sm {w w' : World} {lo G b : Nat} {v : Value} {ns : List Gn} {D : DataW Unit} {wk : Nat} (h : GS w lo G b v ns D wk) (s : Sm w w') : GS w' lo G b v ns D wk :=
  ⟨by rw [s.heap]; exact h.box, own_keep h.own fun k _ => by rw [s.heap], h.map.kept (row := none) ⟨s.os, s.tape, s.output, by rw [s.heap]; exact Nat.le_refl _, fun k _ _ => by rw [s.heap]⟩ (by simp), h.msz, fun n hn => by
    rcases h.arg n hn with h1 | ⟨g, h1, h2, h3⟩
    · exact .inl h1
    · exact .inr ⟨g, h1, h2, by rw [s.heap]; exact h3⟩, h.loG, h.lob, h.num⟩
theorem gnC_len (ns : List Gn) : (ns.flatMap gnC).length = ns.length * 6 := by
  induction ns with
  | nil => rfl
  | cons a r ih => rw [List.flatMap_cons, List.length_append, ih]; simp [gnC]; omega
theorem gnC_get (ns : List Gn) (j i : Nat) (hj : j < ns.length) (hi : i < 6) : (ns.flatMap gnC)[j * 6 + i]? = (gnC ns[j])[i]? := by
  induction ns generalizing j with
  | nil => simp at hj
  | cons t r ih =>
    cases j with
    | zero =>
      rw [List.flatMap_cons, List.getElem?_append_left (by simp [gnC]; omega)]
      simp
    | succ j =>
      have hj' : j < r.length := by simpa using hj
      rw [List.flatMap_cons, List.getElem?_append_right (by simp [gnC]; omega)]
      have e2 : (j + 1) * 6 + i - (gnC t).length = j * 6 + i := by simp [gnC]; omega
      rw [e2, ih j hj']
      rfl
/-- The cells of a node. -/
theorem GS.cells {w : World} {lo G b : Nat} {v : Value} {ns : List Gn} {D : DataW Unit} {wk : Nat} (h : GS w lo G b v ns D wk) {i : Nat} (hi : i < ns.length) : ∃ g cap, v = .slice (some ⟨g, 0, none⟩) ns.length cap ∧ lo ≤ g ∧ g < w.heap.size ∧ (∃ cur, w.heap[g]? = some (.cells cur 122 (0, 0))) ∧
    (w.cell? ⟨G, 0, none⟩ = some (.slice (some ⟨g, 0, none⟩) ns.length cap) ∧ w.cell? ⟨G, 1, none⟩ = some (.map (some b)) ∧ w.cell? ⟨G, 2, none⟩ = some (.int .i64 wk)) ∧
    (w.cell? ⟨g, i * 6, none⟩ = some (.int .i64 ns[i].is) ∧ w.cell? ⟨g, i * 6 + 1, none⟩ = some (.string ⟨ns[i].name.toArray⟩) ∧ w.cell? ⟨g, i * 6 + 2, none⟩ = some ns[i].av ∧ w.cell? ⟨g, i * 6 + 3, none⟩ = some (.int .i64 ns[i].tg) ∧ w.cell? ⟨g, i * 6 + 4, none⟩ = some (.bool ns[i].ins) ∧ w.cell? ⟨g, i * 6 + 5, none⟩ = some (.int .i64 ns[i].walk)) ∧ (∀ j, w.frozen? ⟨g, j, none⟩ = false) := by
  obtain ⟨g, cap, hv, hg, hlt⟩ := h.own.form (by omega)
  subst hv
  have hb : ∃ cur, w.heap[g]? = some (.cells cur 122 (0, 0)) := by
    rcases h.own.2 with ⟨h0, _⟩ | ⟨g', cap', cur, hv, _, hh, _⟩
    · cases h0
    · cases hv
      exact ⟨cur, hh⟩
  have hc : ∀ j, j < 6 → w.cell? ⟨g, i * 6 + j, none⟩ = (gnC ns[i])[j]? := fun j hj => by
    rw [h.own.cellAt (i * 6 + j) (by omega), gnC_get ns i j hi hj]
  refine ⟨g, cap, rfl, hg, hlt, hb, heap_cells h.box, ⟨?_, ?_, ?_, ?_, ?_, ?_⟩, fun j => h.own.frozenAt j⟩
  · have := hc 0 (by omega)
    simpa [gnC] using this
  · have := hc 1 (by omega)
    simpa [gnC] using this
  · have := hc 2 (by omega)
    simpa [gnC] using this
  · have := hc 3 (by omega)
    simpa [gnC] using this
  · have := hc 4 (by omega)
    simpa [gnC] using this
  · have := hc 5 (by omega)
    simpa [gnC] using this
/-- What is there is stored: nothing turns. -/
theorem setCell_self {w : World} {b i : Nat} {c : Array Value} {t : TypeId} {fr : Nat × Nat} {v : Value} (h : w.heap[b]? = some (.cells c t fr)) (hc : w.cell? ⟨b, i, none⟩ = some v) : w.setCell ⟨b, i, none⟩ v = w := by
  have hci : c[i]? = some v := by
    simp only [World.cell?, h] at hc
    simpa using hc
  have hb : b < w.heap.size := lt_of_heap h
  have hc2 : c.setIfInBounds i v = c := by
    apply Array.ext_getElem?
    intro j
    rw [Array.getElem?_setIfInBounds]
    split
    · rename_i e
      subst e
      split
      · exact hci.symm
      · rename_i hlt
        rw [Array.getElem?_eq_none (by omega)] at hci
        cases hci
    · rfl
  have hh : (w.setCell ⟨b, i, none⟩ v).heap = w.heap := by
    apply Array.ext_getElem?
    intro j
    by_cases hj : j = b
    · subst hj
      simp [World.setCell, Array.getElem?_modify, h, hc2]
    · exact Below.heap_setCell _ _ _ _ hj
  cases w
  simp only [World.setCell] at hh ⊢
  rw [hh]
end Go.Proofs.YtgdflaapgfpdeaaGreatDoor
