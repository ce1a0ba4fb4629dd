/- The board: what lies between the rounds of bounds. -/
import Derived.Test.YtikpipenhamdbaaGreatMaqx
import Derived.Test.YtikpipenhamdbaaGreatMatx
import Derived.Test.YtikpipenhamdbaaGreatManx
namespace Go.Proofs.YtikpipenhamdbaaGreat
open Go.RowKit Go.Maps

theorem make_strs (w : World) (n : Nat) (hn : n ≤ 200000000) : (Instr.makeSlice 102 (.int .i64 n) (.int .i64 n)).run Tryz.prog w = .ok (.slice (some ⟨w.heap.size, 0, none⟩) n n) (w.alloc (.cells (madeCells (Value.string ⟨#[]⟩).cells n) 9)) := by
 obtain ⟨i0, hi, hz0, hz1, hz2⟩ := info_parts Tryz.info9n
 have := run_make (P := Tryz.prog) w 102 9 i0 _ Tryz.underlying102 hi hz0 .i64 .i64 n n (by omega) (Int.le_refl _) (by rw [hz2]; omega) (by omega)
 rw [hz1] at this
 simpa using this
/-- Names, place by place. -/
def lsV (n : Nat) (lf : Nat → List UInt8) : Array Value := ((List.range n).map fun r => encStr (lf r)).toArray
theorem lsV_made (n : Nat) : madeCells (Value.string ⟨#[]⟩).cells n = lsV n fun _ => [] := by
 unfold lsV
 apply Array.ext
 ·simp [madeCells]
 ·intro j h1 h2
  simp [madeCells, Value.cells, Nat.mod_one]
theorem lsV_at {n r : Nat} (lf : Nat → List UInt8) (hr : r < n) : (lsV n lf)[r]? = some (.string ⟨(lf r).toArray⟩) := by
 simp [lsV, hr]
def setL (lf : Nat → List UInt8) (r : Nat) (x : List UInt8) : Nat → List UInt8 := fun q => if q = r then x else lf q
theorem lsV_set {n r : Nat} (lf : Nat → List UInt8) (x : List UInt8) : (lsV n lf).setIfInBounds r (.string ⟨x.toArray⟩) = lsV n (setL lf r x) := by
 apply Array.ext_getElem?
 intro j
 rw [Array.getElem?_setIfInBounds]
 by_cases hj : j < n
 ·rw [lsV_at _ hj, lsV_at _ hj]
  unfold setL
  by_cases q : r = j
  ·subst q
   simp [lsV, hj]
  ·rw [if_neg q, if_neg (Ne.symm q)]
 ·have h1 : (lsV n lf)[j]? = none := Array.getElem?_eq_none (by simp [lsV]; omega)
  have h2 : (lsV n (setL lf r x))[j]? = none := Array.getElem?_eq_none (by simp [lsV]; omega)
  rw [h1, h2]
  by_cases q : r = j
  ·subst q
   rw [if_pos rfl, if_neg (by simp [lsV]; omega)]
  ·rw [if_neg q]
/-- The first of so many names that leads to each place. -/
def Lf (N : List (List UInt8)) (rt : Nat → Nat) (j : Nat) (lf : Nat → List UInt8) : Prop := ∀ r, (∃ (m : Nat) (h : m < N.length), m < j ∧ rt m = r ∧ (∀ q, q < m → rt q ≠ r) ∧ lf r = N[m]) ∨ ((∀ m, m < j → rt m ≠ r) ∧ lf r = [])
theorem Lf.skip {N : List (List UInt8)} {rt : Nat → Nat} {j : Nat} {lf : Nat → List UInt8} (h : Lf N rt j lf) (hne : lf (rt j) ≠ []) : Lf N rt (j + 1) lf := fun r => by
 rcases h r with ⟨m, hm, h1, h2⟩ | ⟨h1, h2⟩
 ·exact .inl ⟨m, hm, by omega, h2⟩
 ·refine .inr ⟨fun m hm q => ?_, h2⟩
  by_cases e : m = j
  ·rw [← q, e] at h2
   exact hne h2
  ·exact h1 m (by omega) q
theorem Lf.step {N : List (List UInt8)} {rt : Nat → Nat} {j : Nat} {lf : Nat → List UInt8} (h : Lf N rt j lf) (hN : ∀ n ∈ N, n ≠ []) (hj : j < N.length) (he : lf (rt j) = []) : Lf N rt (j + 1) (setL lf (rt j) N[j]) := fun r => by
 unfold setL
 by_cases q : r = rt j
 ·rw [if_pos q]
  rcases h r with ⟨m, hm, h1, h2, h3, h4⟩ | ⟨h1, _⟩
  ·rw [q, he] at h4
   exact absurd h4.symm (hN _ (List.getElem_mem hm))
  ·exact .inl ⟨j, hj, by omega, q.symm, fun p hp => h1 p hp, rfl⟩
 ·rw [if_neg q]
  rcases h r with ⟨m, hm, h1, h2⟩ | ⟨h1, h2⟩
  ·exact .inl ⟨m, hm, by omega, h2⟩
  ·refine .inr ⟨fun m hm p => ?_, h2⟩
   by_cases e : m = j
   ·rw [e] at p
    exact q p.symm
   ·exact h1 m (by omega) p
/-- What the names that count say at the end. -/
theorem Lf.done {xs : List Px} {N : List (List UInt8)} {dn : Nat → List Nd} {rt rk : Nat → Nat} {dp : Nat → List Nd} {M : List (List UInt8 × List Nd)} {lf : Nat → List UInt8} (h : Lf N rt N.length lf) (hB : BsX xs dn rt rk dp) (hnv : N.length ≤ xs.length) (isv : ∀ i, i < xs.length → (lbP xs i).1 = 2 → i < N.length) (val : ∀ i (h : i < N.length), dp i = subL M [(2, N[i], 0)]) (hs : N.Pairwise (fun a b => a < b)) (hM : Lok M) (hl : Lss M) (hL : Low N M) : ∀ r, r < xs.length → loP xs r = none → (lbP xs r).1 = 2 → dp r = [(2, lf r, 0)] := fun r hr hrr h2 => by
 have hrN := isv r hr h2
 have htr := (hB.root r).1 hrr
 rcases h r with ⟨m, hm, _, q2, q3, q4⟩ | ⟨q1, _⟩
 ·rw [q4]
  exact hB.bs.least hnv hs hM hl hL val hrN htr h2 hm q2 q3
 ·exact absurd (hB.bs.den.root r hr htr).1 (q1 r hrN)
/-- While the names that count are found. -/
structure LfW (w wr : World) (N : List (List UInt8)) (n : Nat) (rt : Nat → Nat) (j : Nat) : Prop where
 bel : Below w.heap.size w wr
 ex : ∃ lf, wr.heap[w.heap.size]? = some (.cells (lsV n lf) 9 (0, 0)) ∧ Lf N rt j lf
/-- While the bounds are made. -/
structure BpW (w wr : World) (n : Nat) (lf : Nat → List UInt8) (M : List (List UInt8 × List Nd)) (N : List (List UInt8)) (j : Nat) (v : Value) (es : List Bl4) (bs : List Bd) (rss : List (List (Value × Nat))) : Prop where
 bel : Below w.heap.size w wr
 lst : wr.heap[w.heap.size]? = some (.cells (lsV n lf) 9 (0, 0))
 row : RowB wr (w.heap.size + 1) v es bs rss
 nms : bs.map (·.1) = (N.take j).filter (pL M)
 val : ∀ x ∈ bs, flat x.2.1 x.2.2 = subL M [(2, x.1, 0)]
theorem BpW.below {w wr w' : World} {n : Nat} {lf : Nat → List UInt8} {M : List (List UInt8 × List Nd)} {N : List (List UInt8)} {j : Nat} {v : Value} {es : List Bl4} {bs : List Bd} {rss : List (List (Value × Nat))} (h : BpW w wr n lf M N j v es bs rss) (hb : Below wr.heap.size wr w') : BpW w w' n lf M N j v es bs rss :=
 ⟨h.bel.trans (hb.mono h.bel.size), (hb.block _ (lt_of_heap h.lst)).trans h.lst, h.row.on hb.size fun g _ hg => hb.block g hg, h.nms, h.val⟩
theorem BpW.skip {w wr : World} {n : Nat} {lf : Nat → List UInt8} {M : List (List UInt8 × List Nd)} {N : List (List UInt8)} {j : Nat} {v : Value} {es : List Bl4} {bs : List Bd} {rss : List (List (Value × Nat))} (h : BpW w wr n lf M N j v es bs rss) (hj : j < N.length) (hp : pL M N[j] = false) : BpW w wr n lf M N (j + 1) v es bs rss :=
 ⟨h.bel, h.lst, h.row, by rw [h.nms, List.take_succ_eq_append_getElem hj, List.filter_append]; simp [hp], h.val⟩
theorem BpW.push {w wr w6 w7 : World} {n : Nat} {lf : Nat → List UInt8} {M : List (List UInt8 × List Nd)} {N : List (List UInt8)} {j m : Nat} {va : Option Addr} {vc : Nat} {es : List Bl4} {bs : List Bd} {rss : List (List (Value × Nat))} (h : BpW w wr n lf M N j (.slice va m vc) es bs rss) (hm : es.length = m) (hj : j < N.length) (hp : pL M N[j] = true) (hnl : N[j].length < 140737488355328) (hb : Below wr.heap.size wr w6) {d : Nat} {e : El} {t : Tn d} {rws : List (Value × Nat)} (T : TyO w6 wr.heap.size d (elV e) t rws) (S : SepB wr.heap.size w6.heap.size rws) (hfl : flat d t = subL M [(2, N[j], 0)]) {g cap : Nat} {o : Obj}
  (hown : w7.ownsRow (w.heap.size + 1) 48 4 (.slice (some ⟨g, 0, none⟩) (m + 1) cap) (m + 1) (es.flatMap bCells ++ (.string ⟨N[j].toArray⟩ :: elCells e))) (hg : (w6.alloc o).grownBy w7 (Value.slice va m vc).ownBlock) (hat : (Value.slice va m vc).ownBlock = some g ∨ w6.heap.size ≤ g) :
  BpW w w7 n lf M N (j + 1) (.slice (some ⟨g, 0, none⟩) (m + 1) cap) (es ++ [(N[j], e)]) (bs ++ [(N[j], ⟨d, t⟩)]) (rss ++ [rws]) := by
 have h6 := h.below hb
 have hs6 := hb.size
 have hlw : w.heap.size + 1 ≤ wr.heap.size := lt_of_heap h.lst
 have hvb : ∀ k, (Value.slice va m vc).ownBlock = some k → w.heap.size + 1 ≤ k ∧ k < wr.heap.size := fun k hk => h.row.own.lt k hk
 have hbl : ∀ k, k < w6.heap.size → some k ≠ (Value.slice va m vc).ownBlock → w7.heap[k]? = w6.heap[k]? := fun k hk hne => by
  rw [hg.block k (by simp; omega) hne]
  exact Below.heap_alloc _ _ _ hk
 have hsz : w6.heap.size ≤ w7.heap.size := by have := hg.size; simp at this; omega
 refine ⟨⟨hg.os.trans h6.bel.os, hg.tape.trans h6.bel.tape, hg.output.trans h6.bel.output, by have := h6.bel.size; omega, fun k hk => ?_⟩, ?_, ?_, ?_, ?_⟩
 ·rw [hbl k (by omega) (fun e => by have := hvb k e.symm; omega)]
  exact h6.bel.block k hk
 ·rw [hbl _ (by omega) (fun e => by have := hvb _ e.symm; omega)]
  exact h6.lst
 ·refine h6.row.snoc hlw T ⟨rfl, hnl⟩ S hs6 ⟨fun p hp => ?_, h.row.sep.2⟩ (fun k hk => (hvb k hk).2) (by rw [hm]; exact hown) hsz hbl ?_
  ·exact h.row.sep.1 p hp
  ·rcases hat with q | q
   ·exact .inl q.symm
   ·exact .inr ⟨g, rfl, q⟩
 ·rw [List.map_append, h.nms, List.take_succ_eq_append_getElem hj, List.filter_append]
  simp [hp]
 ·intro x hx
  rcases List.mem_append.1 hx with q | q
  ·exact h.val x q
  ·have : x = (N[j], ⟨d, t⟩) := by simpa using q
   rw [this]
   exact hfl
end Go.Proofs.YtikpipenhamdbaaGreat
