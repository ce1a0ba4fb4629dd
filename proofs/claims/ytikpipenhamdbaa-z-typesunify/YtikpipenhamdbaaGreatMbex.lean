/- TypesUnify: what holds of memory on its way. TypesUnify: the walk. -/
import Derived.Test.YtikpipenhamdbaaGreatMbbx
import Derived.Test.YtikpipenhamdbaaGreatMbdx
import Derived.Test.YtikpipenhamdbaaGreatMaux
import Derived.Test.YtikpipenhamdbaaGreatMaix
import Derived.Test.YtikpipenhamdbaaGreatMaex
import Derived.Deep.Cut
import Derived.Deep.RegionHeld3
namespace Go.Proofs.YtikpipenhamdbaaGreat
open Go.RowKit

theorem leftB_many : ∀ (bs : List Bd) (l : Int), 0 ≤ l → 0 ≤ leftB bs l → (bs.length : Int) ≤ l
 | [], l, hl, _ => by simpa using hl
 | b :: r, l, hl, h => by
  rw [leftB_cons b r l hl] at h
  obtain ⟨h1, h2, h3⟩ := left_range b.2.1 b.2.2 l 65536 hl
  rcases Int.lt_or_le (leftT b.2.1 b.2.2 l 65536) 0 with hn | hp
  ·rw [leftB_low r _ hn] at h
   omega
  ·have := leftB_many r _ hp h
   simp only [List.length_cons]
   omega
theorem pbs_len : ∀ ps : List Pr, (pbs ps).length = ps.length * 2
 | [] => rfl
 | p :: ps => by
  rw [pbs_cons]
  simp only [List.length_cons, pbs_len ps]
  omega
theorem pbs_many {ps : List Pr} (h : greatB (pbs ps) = false) : ps.length ≤ 4194304 := by
 have h := of_decide_eq_false h
 have h1 := leftB_many (pbs ps) 4194304 (by omega) (by omega)
 rw [pbs_len] at h1
 omega
theorem LpW.lt {w wr : World} {G : Nat} {ps : List Pr} {j : Nat} {E F : Nat → El} (h : LpW w wr G ps j E F) : G < wr.heap.size := by
 obtain ⟨cur, hr, _⟩ := h.row
 exact lt_of_heap hr
theorem LpW.hid {w wr : World} {G : Nat} {ps : List Pr} {j : Nat} {E F : Nat → El} (h : LpW w wr G ps j E F) : Hid (LpW w wr G ps j E F) := h
theorem Rx.hid {U : World} {lo hi : Nat} {v : Value} {es : List Bl4} {bs : List Bd} {rss : List (List (Value × Nat))} (h : Rx U lo hi v es bs rss) : Hid (Rx U lo hi v es bs rss) := h
theorem Rx.by {U U' : World} {lo hi : Nat} {v : Value} {es : List Bl4} {bs : List Bd} {rss : List (List (Value × Nat))} (h : Rx U lo hi v es bs rss) (hb : Below U.heap.size U U') : Rx U' lo hi v es bs rss :=
 h.on (fun g _ hg => hb.block g (Nat.lt_of_lt_of_le hg h.hi)) hb.size
/-- The row that was lent, without the marks behind it, read. -/
theorem LpW.at {w wr : World} {G : Nat} {ps : List Pr} {E F : Nat → El} (h : LpW w wr G ps (ps.length + 3) E F) (hn : ps.length ≤ 4194304) : PrAt wr wr.heap.size (.slice (some ⟨G, 0, none⟩) ps.length (ps.length + 3)) ps := by
 have hG := h.lt
 refine ⟨_, _, rfl, by omega, fun _ => ⟨G, 0, rfl, by omega, hG, fun j hj => ?_⟩⟩
 have hA := h.ta j hj (by omega)
 have hB := h.tb j hj (by omega)
 obtain ⟨ad, len, cp, hsl⟩ := hA.slice
 obtain ⟨ad2, len2, cp2, hsl2⟩ := hB.slice
 obtain ⟨c1, c2, c3⟩ := h.ca j (by omega)
 obtain ⟨c4, c5, c6⟩ := h.cb j hj (by omega)
 unfold elV at hA hB
 rw [hsl] at c3 hA
 rw [hsl2] at c6 hB
 refine ⟨_, _, ad, len, cp, _, _, ad2, len2, cp2, fun w' hb => ?_, TyL.at (fun g q => q.2) _ _ _ hA, TyL.at (fun g q => q.2) _ _ _ hB⟩
 rw [Nat.zero_add]
 exact ⟨(hb.cell (p := ⟨G, j * 6, none⟩) hG).trans c1, (hb.cell (p := ⟨G, j * 6 + 1, none⟩) hG).trans c2, (hb.cell (p := ⟨G, j * 6 + 2, none⟩) hG).trans c3, (hb.cell (p := ⟨G, j * 6 + 3, none⟩) hG).trans c4, (hb.cell (p := ⟨G, j * 6 + 4, none⟩) hG).trans c5, (hb.cell (p := ⟨G, j * 6 + 5, none⟩) hG).trans c6⟩
/-- Pairs in turned order, each turned. -/
def turnP (ps : List Pr) : List Pr := (ps.map Prod.swap).reverse
theorem turnP_len (ps : List Pr) : (turnP ps).length = ps.length := by simp [turnP]
theorem turnP_at (ps : List Pr) (j : Nat) (h : j < (turnP ps).length) (h2 : ps.length - 1 - j < ps.length) : (turnP ps)[j] = (ps[ps.length - 1 - j].2, ps[ps.length - 1 - j].1) := by
 simp [turnP, List.getElem_reverse, Prod.swap]
theorem turnP_mem {ps : List Pr} {x : Pr} (h : x ∈ turnP ps) : ∃ y ∈ ps, x = (y.2, y.1) := by
 unfold turnP at h
 rw [List.mem_reverse, List.mem_map] at h
 obtain ⟨y, hy, rfl⟩ := h
 exact ⟨y, hy, rfl⟩
/-- The cells of a row of pairs that came in. -/
def PrE (w : World) (v : Value) (ps : List Pr) (E F : Nat → El) : Prop :=
 ∀ j (hj : j < ps.length), (∃ ad len cp, (E j).2.2 = .slice ad len cp) ∧ (∃ ad len cp, (F j).2.2 = .slice ad len cp) ∧ TyAt w w.heap.size ps[j].1.1 (elV (E j)) ps[j].1.2 ∧ TyAt w w.heap.size ps[j].2.1 (elV (F j)) ps[j].2.2 ∧ ∀ g o cap, v = .slice (some ⟨g, o, none⟩) ps.length cap → g < w.heap.size ∧ ps.length ≤ cap ∧ ∀ w', Below w.heap.size w w' → At3 w' g (o + j * 6) (E j) ∧ At3 w' g (o + j * 6 + 3) (F j)
theorem PrAt.els {w : World} {v : Value} {ps : List Pr} (h : PrAt w w.heap.size v ps) : ∃ E F : Nat → El, PrE w v ps E F := by
 have key : ∀ j, ∃ e : El × El, ∀ (hj : j < ps.length), (∃ ad len cp, e.1.2.2 = .slice ad len cp) ∧ (∃ ad len cp, e.2.2.2 = .slice ad len cp) ∧ TyAt w w.heap.size ps[j].1.1 (elV e.1) ps[j].1.2 ∧ TyAt w w.heap.size ps[j].2.1 (elV e.2) ps[j].2.2 ∧ ∀ g o cap, v = .slice (some ⟨g, o, none⟩) ps.length cap → g < w.heap.size ∧ ps.length ≤ cap ∧ ∀ w', Below w.heap.size w w' → At3 w' g (o + j * 6) e.1 ∧ At3 w' g (o + j * 6 + 3) e.2 := fun j => by
  by_cases hj : j < ps.length
  ·obtain ⟨ad, cap, rfl, _, _⟩ := id h
   obtain ⟨g, o, hv, hbl, hg, k1, n1, a1, l1, c1, k2, n2, a2, l2, c2, hc, hA, hB⟩ := h.pair j hj
   refine ⟨((k1, n1, .slice a1 l1 c1), (k2, n2, .slice a2 l2 c2)), fun _ => ⟨⟨_, _, _, rfl⟩, ⟨_, _, _, rfl⟩, hA, hB, fun g' o' cap' hv' => ?_⟩⟩
   rw [hv] at hv'
   simp only [Value.slice.injEq, Option.some.injEq, Addr.mk.injEq, and_true, true_and] at hv'
   obtain ⟨⟨rfl, rfl⟩, rfl⟩ := hv'
   refine ⟨hg, hbl, fun w' hb => ?_⟩
   obtain ⟨q0, q1, q2, q3, q4, q5⟩ := hc w' hb
   exact ⟨⟨q0, q1, q2⟩, q3, q4, q5⟩
  ·exact ⟨(markE, markE), fun h => absurd h hj⟩
 exact ⟨fun j => (Classical.choose (key j)).1, fun j => (Classical.choose (key j)).2, fun j hj => Classical.choose_spec (key j) hj⟩
/-- The six cells of a pair. -/
def pCells (e : El × El) : List Value := elCells e.1 ++ elCells e.2
/-- While the row is written anew: this block alone changes. -/
structure Tw6 (W0 W : World) (G N : Nat) (es : Nat → El × El) (k : Nat) : Prop where
 os : W.os = W0.os
 tape : W.tape = W0.tape
 output : W.output = W0.output
 size : W.heap.size = W0.heap.size
 other : ∀ b, b ≠ G → W.heap[b]? = W0.heap[b]?
 this : ∃ cur, W.heap[G]? = some (.cells cur 34 (0, 0)) ∧ cur.size = N * 6
 cel : ∀ j, j < k → At3 W G (j * 6) (es j).1 ∧ At3 W G (j * 6 + 3) (es j).2
theorem Tw6.hid {W0 W : World} {G N : Nat} {es : Nat → El × El} {k : Nat} (h : Tw6 W0 W G N es k) : Hid (Tw6 W0 W G N es k) := h
theorem Tw6.drew {W0 W : World} {G N : Nat} {es : Nat → El × El} {k : Nat} (h : Tw6 W0 W G N es k) : Tw6 W0 W.drew G N es k := ⟨h.os, h.tape, h.output, h.size, h.other, h.this, h.cel⟩
theorem Tw6.below {W0 W : World} {G N B : Nat} {es : Nat → El × El} {k : Nat} (h : Tw6 W0 W G N es k) (hB : B ≤ G) : Below B W0 W := ⟨h.os, h.tape, h.output, by have := h.size; omega, fun g hg => h.other g (by omega)⟩
theorem Tw6.cell {W0 W : World} {G N : Nat} {es : Nat → El × El} {k : Nat} (h : Tw6 W0 W G N es k) {j i : Nat} (hj : j < k) (hi : i < 6) : W.cell? ⟨G, j * 6 + i, none⟩ = (pCells (es j))[i]? := by
 obtain ⟨⟨h0, h1, h2⟩, h3, h4, h5⟩ := h.cel j hj
 obtain h | h | h | h | h | h : i = 0 ∨ i = 1 ∨ i = 2 ∨ i = 3 ∨ i = 4 ∨ i = 5 := by omega
 ·subst h; exact h0
 ·subst h; exact h1
 ·subst h; exact h2
 ·subst h; exact h3
 ·subst h; exact h4
 ·subst h; exact h5
theorem Tw6.step {W0 W W' : World} {G N : Nat} {es : Nat → El × El} {k : Nat} (h : Tw6 W0 W G N es k) (hk : k < N) (e f : El) (he : es k = (e, f))
  (hW : W' = (((((W.setCell ⟨G, k * 6, none⟩ (.int .i64 e.1)).setCell ⟨G, k * 6 + 1, none⟩ (.string e.2.1)).setCell ⟨G, k * 6 + 2, none⟩ e.2.2).setCell ⟨G, k * 6 + 3, none⟩ (.int .i64 f.1)).setCell ⟨G, k * 6 + 4, none⟩ (.string f.2.1)).setCell ⟨G, k * 6 + 5, none⟩ f.2.2) : Tw6 W0 W' G N es (k + 1) := by
 obtain ⟨cur, h1, h2⟩ := h.this
 obtain ⟨V, cur1, hV, r1, s1, c1, f1, o1, z1, b1⟩ := store3_at (q := k * 6) h1 h2 (by omega) (.int .i64 e.1) (.string e.2.1) e.2.2
 rw [← hV] at hW
 obtain ⟨V2, cur2, hV2, r2, s2, c2, f2, o2, z2, b2⟩ := store3_at (q := k * 6 + 3) r1 s1 (by omega) (.int .i64 f.1) (.string f.2.1) f.2.2
 have e2 : V2 = W' := by rw [hV2, hW]
 clear hV hV2 hW
 subst e2
 have fa : ∀ x, x < k * 6 → V2.cell? ⟨G, x, none⟩ = W.cell? ⟨G, x, none⟩ := fun x hx => (f2 x (by omega)).trans (f1 x (by omega))
 refine ⟨b2.os.trans (b1.os.trans h.os), b2.tape.trans (b1.tape.trans h.tape), b2.output.trans (b1.output.trans h.output), z2.trans (z1.trans h.size), fun b hb => (o2 b hb).trans ((o1 b hb).trans (h.other b hb)), ⟨cur2, r2, s2⟩, fun j hj => ?_⟩
 by_cases q : j = k
 ·subst q
  rw [he]
  exact ⟨⟨(f2 _ (by omega)).trans c1.1, (f2 _ (by omega)).trans c1.2.1, (f2 _ (by omega)).trans c1.2.2⟩, c2⟩
 ·obtain ⟨⟨a0, a1, a2⟩, a3, a4, a5⟩ := h.cel j (by omega)
  exact ⟨⟨(fa _ (by omega)).trans a0, (fa _ (by omega)).trans a1, (fa _ (by omega)).trans a2⟩, (fa _ (by omega)).trans a3, (fa _ (by omega)).trans a4, (fa _ (by omega)).trans a5⟩
theorem pCells_len (l : List (El × El)) : (l.flatMap pCells).length = l.length * 6 := by
 induction l with
 | nil => rfl
 | cons e l ih =>
  have h6 : (pCells e).length = 6 := rfl
  rw [List.flatMap_cons, List.length_append, ih, List.length_cons, h6]
  omega
theorem pCells_get : ∀ (es : List (El × El)) (j i : Nat) (hj : j < es.length) (_ : i < 6), (es.flatMap pCells)[j * 6 + i]? = (pCells es[j])[i]?
 | e :: es, 0, i, _, hi => by
  rw [List.flatMap_cons, List.getElem?_append_left (by show 0 * 6 + i < 6; omega)]
  simp
 | e :: es, j + 1, i, hj, hi => by
  have h6 : (pCells e).length = 6 := rfl
  rw [List.flatMap_cons, List.getElem?_append_right (by rw [h6]; omega), h6]
  have : (j + 1) * 6 + i - 6 = j * 6 + i := by omega
  rw [this, pCells_get es j i (by simpa using hj) hi]
  rfl
/-- The cells of the row that was written anew, one behind the other. -/
def newsP (es : Nat → El × El) (n : Nat) : List Value := ((List.range n).map es).flatMap pCells
theorem newsP_len (es : Nat → El × El) (n : Nat) : (newsP es n).length = n * 6 := by
 unfold newsP
 rw [pCells_len]
 simp
theorem newsP_get (es : Nat → El × El) (n j i : Nat) (hj : j < n) (hi : i < 6) : (newsP es n)[j * 6 + i]? = (pCells (es j))[i]? := by
 unfold newsP
 rw [pCells_get _ j i (by simpa using hj) hi]
 simp
theorem newsP_one (es : Nat → El × El) (n : Nat) (h : ∀ j, j < n → (∃ ad len cp, (es j).1.2.2 = .slice ad len cp) ∧ ∃ ad len cp, (es j).2.2.2 = .slice ad len cp) : ∀ u ∈ newsP es n, u.oneCell' = true := by
 intro u hu
 unfold newsP at hu
 obtain ⟨e, he, hu⟩ := List.mem_flatMap.1 hu
 obtain ⟨j, hj, rfl⟩ := List.mem_map.1 he
 obtain ⟨⟨ad, len, cp, hs⟩, ad2, len2, cp2, hs2⟩ := h j (by simpa using hj)
 simp only [pCells, elCells, List.cons_append, List.nil_append, List.mem_cons, List.not_mem_nil, or_false, hs, hs2] at hu
 rcases hu with rfl | rfl | rfl | rfl | rfl | rfl <;> rfl
theorem Tw6.news {W0 W : World} {G N : Nat} {es : Nat → El × El} {k : Nat} (h : Tw6 W0 W G N es k) : ∀ j u, (newsP es k)[j]? = some u → W.cell? ((⟨G, 0, none⟩ : Addr).add j) = some u := by
 intro j u hu
 have hj : j < k * 6 := by
  rcases Nat.lt_or_ge j (k * 6) with hlt | hge
  ·exact hlt
  ·rw [List.getElem?_eq_none (by rw [newsP_len]; exact hge)] at hu; cases hu
 rw [add_zero_addr]
 have e : j = j / 6 * 6 + j % 6 := by omega
 rw [e] at hu ⊢
 rw [newsP_get es k (j / 6) (j % 6) (by omega) (by omega)] at hu
 rw [h.cell (by omega) (by omega)]
 exact hu
theorem own_newsP {W : World} {B g n cap : Nat} {es : Nat → El × El} (h : W.ownsRow B 34 6 (.slice (some ⟨g, 0, none⟩) n cap) n (newsP es n)) : ∀ j, j < n → ∀ i, i < 6 → W.cell? ⟨g, j * 6 + i, none⟩ = (pCells (es j))[i]? := by
 intro j hj i hi
 have hlt : i < (pCells (es j)).length := hi
 have := h.cells (g := g) rfl (j * 6 + i) (pCells (es j))[i] (by rw [newsP_get es n j i hj hi]; exact List.getElem?_eq_getElem hlt)
 rw [add_zero_addr] at this
 rw [this]
 exact (List.getElem?_eq_getElem hlt).symm
/-- What is written into the row. -/
def turnF (n : Nat) (E F : Nat → El) (j : Nat) : El × El := (F (n - 1 - j), E (n - 1 - j))
/-- The row that was written anew, or a copy of it, read. -/
theorem turnP_read {w U : World} {B g cap : Nat} {ps : List Pr} {E F : Nat → El} {v : Value} (hE : PrE w v ps E F) (hb : Below w.heap.size w U) (hB : w.heap.size ≤ B) (hg : g < B) (hn : ps.length ≤ 4194304) (hcap : ps.length ≤ cap) (hc : ∀ j, j < ps.length → ∀ i, i < 6 → U.cell? ⟨g, j * 6 + i, none⟩ = (pCells (turnF ps.length E F j))[i]?) : PrAt U B (.slice (some ⟨g, 0, none⟩) ps.length cap) (turnP ps) := by
 have hl := turnP_len ps
 refine ⟨_, cap, by rw [hl], by omega, fun _ => ⟨g, 0, rfl, by omega, hg, fun j hj => ?_⟩⟩
 have hj' : j < ps.length := by omega
 have hm : ps.length - 1 - j < ps.length := by omega
 obtain ⟨⟨a1, l1, c1, s1⟩, ⟨a2, l2, c2, s2⟩, e3, e4, _⟩ := hE (ps.length - 1 - j) hm
 have d0 : U.cell? ⟨g, j * 6, none⟩ = some (.int .i64 (F (ps.length - 1 - j)).1) := hc j hj' 0 (by omega)
 have d1 : U.cell? ⟨g, j * 6 + 1, none⟩ = some (.string (F (ps.length - 1 - j)).2.1) := hc j hj' 1 (by omega)
 have d2 : U.cell? ⟨g, j * 6 + 2, none⟩ = some (F (ps.length - 1 - j)).2.2 := hc j hj' 2 (by omega)
 have d3 : U.cell? ⟨g, j * 6 + 3, none⟩ = some (.int .i64 (E (ps.length - 1 - j)).1) := hc j hj' 3 (by omega)
 have d4 : U.cell? ⟨g, j * 6 + 4, none⟩ = some (.string (E (ps.length - 1 - j)).2.1) := hc j hj' 4 (by omega)
 have d5 : U.cell? ⟨g, j * 6 + 5, none⟩ = some (E (ps.length - 1 - j)).2.2 := hc j hj' 5 (by omega)
 unfold elV at e3 e4
 rw [s1] at d5 e3
 rw [s2] at d2 e4
 rw [turnP_at ps j hj hm]
 refine ⟨_, _, a2, l2, c2, _, _, a1, l1, c1, fun w' hb' => ?_, TyAt.below hb hB _ _ _ e4, TyAt.below hb hB _ _ _ e3⟩
 rw [Nat.zero_add]
 exact ⟨(hb'.cell (p := ⟨g, j * 6, none⟩) hg).trans d0, (hb'.cell (p := ⟨g, j * 6 + 1, none⟩) hg).trans d1, (hb'.cell (p := ⟨g, j * 6 + 2, none⟩) hg).trans d2, (hb'.cell (p := ⟨g, j * 6 + 3, none⟩) hg).trans d3, (hb'.cell (p := ⟨g, j * 6 + 4, none⟩) hg).trans d4, (hb'.cell (p := ⟨g, j * 6 + 5, none⟩) hg).trans d5⟩
theorem Rx.turned {U U' : World} {G N : Nat} {fs : Nat → El × El} {q lo hi : Nat} {v : Value} {es : List Bl4} {bs : List Bd} {rss : List (List (Value × Nat))} (h : Rx U lo hi v es bs rss) (hT : Tw6 U U' G N fs q) (hG : G < lo) : Rx U' lo hi v es bs rss :=
 h.on (fun g hg _ => hT.other g (by omega)) (by rw [hT.size]; exact Nat.le_refl _)
end Go.Proofs.YtikpipenhamdbaaGreat

namespace Go.Proofs.YtikpipenhamdbaaGreat
open Go.RowKit

theorem bel2 {w a b : World} (h : Below w.heap.size w a) (k : Below a.heap.size a b) : Below w.heap.size w b := h.trans (k.mono h.size)
theorem unifies_x (ps : List Pr) (v v' : Value) (w : World) (B : Nat) (hB : B ≤ w.heap.size) (hv : PrAt w B v ps) (hv' : PrAt w B v' ps) (hN : ∀ p ∈ ps, (flat p.1.1 p.1.2).length ≤ 4194304 ∧ (flat p.2.1 p.2.2).length ≤ 4194304) :
  Calls Tryz.prog 13 #[v, v'] w fun e w' => ∃ (va : Option Addr) (vl vc : Nat) (es : List Bl4) (bs : List Bd) (rss : List (List (Value × Nat))), e = .returned (.tuple #[.slice va vl vc, .bool true]) ∧ Below w.heap.size w w' ∧ Hid (Rx w' w.heap.size w'.heap.size (.slice va vl vc) es bs rss) := by
 refine Calls.mono (unifies_any ps v v' w B hB hv hv' hN) ?_
 rintro e w' ⟨hb, va, vl, vc, lo, es, bs, rss, rfl, hlo, hR⟩
 exact ⟨va, vl, vc, es, bs, rss, rfl, hb, hR.low hlo⟩
set_option maxHeartbeats 16000000 in
set_option maxRecDepth 10000 in
theorem unify_try (hA : Wakes) (ps qs : List Pr) (v cv : Value) (w : World) (hl : PrAt w w.heap.size v ps) (hc : PrAt w w.heap.size cv qs) (hg0 : greatB (pbs ps) = false) (hg1 : greatB (pbs qs) = false) :
  Calls Tryz.prog 4 #[v, cv] w fun r w' => r = .returned (.bool true) ∧ Below w.heap.size w w' := by
 have C0 := greatPairs_any v ps w w.heap.size (Nat.le_refl _) hl
 rw [hg0] at C0
 have C1 : ∀ W, Below w.heap.size w W → Calls Tryz.prog 5 #[cv] W fun r w' => r = .returned (.bool false) ∧ Below W.heap.size W w' := fun W hb => by
  have := greatPairs_any cv qs W w.heap.size hb.size (hc.below hb (Nat.le_refl _))
  rw [hg1] at this
  exact this
 have CA : ∀ W, Calls Tryz.prog 7 #[] W fun r w' => r = .returned (.bool true) ∧ Below W.heap.size W w' := hA
 have HPL : Hid (PrAt w w.heap.size v ps) := hl
 have HCC : Hid (PrAt w w.heap.size cv qs) := hc
 have hpn := pbs_many hg0
 have hqn := pbs_many hg1
 have HM : Hid (∀ p ∈ ps, (flat p.1.1 p.1.2).length ≤ 4194304 ∧ (flat p.2.1 p.2.2).length ≤ 4194304) := pbs_small hg0
 have HQ : Hid (∀ p ∈ qs, (flat p.1.1 p.1.2).length ≤ 4194304 ∧ (flat p.2.1 p.2.2).length ≤ 4194304) := pbs_small hg1
 obtain ⟨lad, lcap, rfl, -, -⟩ := hl
 obtain ⟨cad, ccap, rfl, -, -⟩ := hc
 go_enter Tryz.func4, Tryz.ntmps4
 go_upto_region 6 with (first
  | (go_at_call 5; (with_reducible refine Calls.mono C0 ?_); rintro e' w1 ⟨rfl, hb1⟩)
  | (go_at_call 5; (with_reducible refine Calls.mono (C1 w1 hb1) ?_); rintro e' w2 ⟨rfl, hb2⟩)
  | (go_at_call 7; (with_reducible refine Calls.mono (CA w2) ?_); rintro e' w3 ⟨rfl, hb3⟩))
 have HB : Hid (Below w.heap.size w w3) := bel2 (bel2 hb1 hb2) hb3
 clear C0 C1 CA hb1 hb2 hb3 hg0 hg1
 have CL := lentP_any ps _ w3 w.heap.size HB.out.size (HPL.out.below HB.out (Nat.le_refl _)) hpn HM.out
 have HZG : Hid (w.heap.size ≤ w3.heap.size) := HB.out.size
 go_upto_region 7 with (go_at_call 12; (with_reducible refine Calls.mono CL ?_); rintro e' w4 ⟨rfl, E, F, TL⟩)
 clear CL
 have HB : Hid (Below w.heap.size w w4) := bel2 HB.out TL.bel
 have HL := TL.hid
 clear TL
 generalize w3.heap.size = G at HL HZG ⊢
 have hb3 : (ps.length : Int) ≤ ((ps.length + 3 : Nat) : Int) := by omega
 go_upto_region 8 with fail
 clear hb3
 have L4 : Hid (G < w4.heap.size) := HL.out.lt
 have CP := unifies_x ps _ _ w4 w4.heap.size (Nat.le_refl _) (HL.out.at hpn) (HPL.out.below HB.out HB.out.size) HM.out
 go_upto_region 9 with (go_at_call 13; (with_reducible refine Calls.mono CP ?_); rintro e' w5 ⟨va1, vl1, vc1, es1, bs1, rs1, rfl, hb, R1⟩)
 clear CP
 have HB : Hid (Below w.heap.size w w5) := bel2 HB.out hb
 have HL := (HL.out.below hb).hid
 have L5 : Hid (w4.heap.size ≤ w5.heap.size) := hb.size
 clear hb
 have CP := unifies_x ps _ _ w5 w5.heap.size (Nat.le_refl _) (HL.out.at hpn) (HPL.out.below HB.out HB.out.size) HM.out
 go_upto_region 10 with (go_at_call 13; (with_reducible refine Calls.mono CP ?_); rintro e' w6 ⟨va2, vl2, vc2, es2, bs2, rs2, rfl, hb, R2⟩)
 clear CP
 have HB : Hid (Below w.heap.size w w6) := bel2 HB.out hb
 have HL := (HL.out.below hb).hid
 have R1 := (R1.out.by hb).hid
 have L6 : Hid (w5.heap.size ≤ w6.heap.size) := hb.size
 clear hb
 have CP := unifies_x qs _ _ w6 w6.heap.size (Nat.le_refl _) (HCC.out.below HB.out HB.out.size) (HCC.out.below HB.out HB.out.size) HQ.out
 go_upto_region 11 with (go_at_call 13; (with_reducible refine Calls.mono CP ?_); rintro e' w7 ⟨va3, vl3, vc3, es3, bs3, rs3, rfl, hb, R3⟩)
 clear CP
 have HB : Hid (Below w.heap.size w w7) := bel2 HB.out hb
 have HL := (HL.out.below hb).hid
 have R1 := (R1.out.by hb).hid
 have R2 := (R2.out.by hb).hid
 have L7 : Hid (w6.heap.size ≤ w7.heap.size) := hb.size
 clear hb
 have CP := unifies_x ps _ _ w7 w7.heap.size (Nat.le_refl _) (HL.out.at hpn) (HPL.out.below HB.out HB.out.size) HM.out
 go_upto_region 12 with (go_at_call 13; (with_reducible refine Calls.mono CP ?_); rintro e' w8 ⟨va4, vl4, vc4, es4, bs4, rs4, rfl, hb, R4⟩)
 clear CP
 have HB : Hid (Below w.heap.size w w8) := bel2 HB.out hb
 have HL := (HL.out.below hb).hid
 have R1 := (R1.out.by hb).hid
 have R2 := (R2.out.by hb).hid
 have R3 := (R3.out.by hb).hid
 have L8 : Hid (w7.heap.size ≤ w8.heap.size) := hb.size
 clear hb
 have CK := keptP_any ps _ w3 w8 w8.heap.size G E F (Nat.le_refl _) (HPL.out.below HB.out HB.out.size) hpn HL.out
 go_upto_region 15 with (go_at_call 14; (with_reducible refine Calls.mono CK ?_); rintro e' w9 ⟨rfl, hb⟩)
 clear CK
 have HB : Hid (Below w.heap.size w w9) := bel2 HB.out hb
 have HL := (HL.out.below hb).hid
 have R1 := (R1.out.by hb).hid
 have R2 := (R2.out.by hb).hid
 have R3 := (R3.out.by hb).hid
 have R4 := (R4.out.by hb).hid
 have L9 : Hid (w8.heap.size ≤ w9.heap.size) := hb.size
 clear hb
 obtain ⟨Ef, Ff, HE0⟩ := HPL.out.els
 have HE : Hid (PrE w (.slice lad ps.length lcap) ps Ef Ff) := HE0
 have T0 : Tw6 w9 w9 G (ps.length + 3) (turnF ps.length Ef Ff) 0 := ⟨rfl, rfl, rfl, rfl, fun _ _ => rfl, HL.out.row, fun j hj => by omega⟩
 have HLE : Hid (G < w4.heap.size ∧ w4.heap.size ≤ w5.heap.size ∧ w5.heap.size ≤ w6.heap.size ∧ w6.heap.size ≤ w7.heap.size ∧ w7.heap.size ≤ w8.heap.size ∧ w8.heap.size ≤ w9.heap.size) := ⟨L4.out, L5.out, L6.out, L7.out, L8.out, L9.out⟩
 clear HL HE0 L4 L5 L6 L7 L8 L9
 obtain ⟨i0, hi, hz0, hz1, hz2⟩ := info_parts Tryz.info34
 generalize w4.heap.size = s4 at R1 HLE
 generalize w5.heap.size = s5 at R1 R2 HLE
 generalize w6.heap.size = s6 at R2 R3 HLE
 generalize w7.heap.size = s7 at R3 R4 HLE
 generalize w8.heap.size = s8 at R4 HLE
 go_wp2_with fail
 go_loopw [19] (fun iv wr => ∃ j : Nat, j ≤ ps.length ∧ iv = .int .i64 j ∧ Tw6 w9 wr G (ps.length + 3) (turnF ps.length Ef Ff) j) (fun iv _ => ps.length - (intOf iv).toNat)
 case atStart => exact ⟨0, by omega, by go_num, T0⟩
 case round =>
  obtain ⟨j, hj, rfl, T⟩ := hrel
  clear T0
  have hjb : (j : Int) ≤ 5000000 := by omega
  have j0 : (0 : Int) ≤ (j : Int) := by omega
  by_cases hlt : j < ps.length
  ·have hlt' : (j : Int) < (ps.length : Int) := by omega
   have hlt3 : (j : Int) < ((ps.length + 3 : Nat) : Int) := by omega
   have hm : ps.length - 1 - j < ps.length := by omega
   obtain ⟨g, o, hve, _⟩ := HPL.out.pair j hlt
   subst hve
   obtain ⟨⟨a1, l1, c1, hs1⟩, ⟨a2, l2, c2, hs2⟩, _, _, hc1⟩ := HE.out (ps.length - 1 - j) hm
   have hbw : Below w.heap.size w wr := HB.out.trans (T.below HZG.out)
   obtain ⟨⟨p0, p1, p2⟩, p3, x4, x5⟩ := (hc1 g o lcap rfl).2.2 wr hbw
   rw [hs1] at p2
   rw [hs2] at x5
   have p4 : wr.cell? ⟨g, o + (ps.length - 1 - j) * 6 + 4, none⟩ = some (.string (Ff (ps.length - 1 - j)).2.1) := x4
   have p5 : wr.cell? ⟨g, o + (ps.length - 1 - j) * 6 + 5, none⟩ = some (.slice a2 l2 c2) := x5
   clear x4 x5
   have HTS : Hid (∀ W', W' = (((((wr.setCell ⟨G, j * 6, none⟩ (.int .i64 (Ff (ps.length - 1 - j)).1)).setCell ⟨G, j * 6 + 1, none⟩ (.string (Ff (ps.length - 1 - j)).2.1)).setCell ⟨G, j * 6 + 2, none⟩ (.slice a2 l2 c2)).setCell ⟨G, j * 6 + 3, none⟩ (.int .i64 (Ef (ps.length - 1 - j)).1)).setCell ⟨G, j * 6 + 4, none⟩ (.string (Ef (ps.length - 1 - j)).2.1)).setCell ⟨G, j * 6 + 5, none⟩ (.slice a1 l1 c1) → Tw6 w9 W' G (ps.length + 3) (turnF ps.length Ef Ff) (j + 1)) := fun W' hW' => T.step (by omega) _ _ rfl (by rw [hs1, hs2]; exact hW')
   obtain ⟨cur, hr, hs⟩ := T.this
   have r0 : wr.cell? ⟨G, j * 6, none⟩ = some cur[j * 6] := (cell_block hr).trans (Array.getElem?_eq_getElem (by omega))
   have r1 : wr.cell? ⟨G, j * 6 + 1, none⟩ = some cur[j * 6 + 1] := (cell_block hr).trans (Array.getElem?_eq_getElem (by omega))
   have r2 : wr.cell? ⟨G, j * 6 + 2, none⟩ = some cur[j * 6 + 2] := (cell_block hr).trans (Array.getElem?_eq_getElem (by omega))
   have r3 : wr.cell? ⟨G, j * 6 + 3, none⟩ = some cur[j * 6 + 3] := (cell_block hr).trans (Array.getElem?_eq_getElem (by omega))
   have r4 : wr.cell? ⟨G, j * 6 + 4, none⟩ = some cur[j * 6 + 4] := (cell_block hr).trans (Array.getElem?_eq_getElem (by omega))
   have r5 : wr.cell? ⟨G, j * 6 + 5, none⟩ = some cur[j * 6 + 5] := (cell_block hr).trans (Array.getElem?_eq_getElem (by omega))
   have f0 : wr.frozen? ⟨G, j * 6, none⟩ = false := frozen_block hr
   have f1 : wr.frozen? ⟨G, j * 6 + 1, none⟩ = false := frozen_block hr
   have f2 : wr.frozen? ⟨G, j * 6 + 2, none⟩ = false := frozen_block hr
   have f3 : wr.frozen? ⟨G, j * 6 + 3, none⟩ = false := frozen_block hr
   have f4 : wr.frozen? ⟨G, j * 6 + 4, none⟩ = false := frozen_block hr
   have f5 : wr.frozen? ⟨G, j * 6 + 5, none⟩ = false := frozen_block hr
   generalize cur[j * 6] = v0 at r0
   generalize cur[j * 6 + 1] = v1 at r1
   generalize cur[j * 6 + 2] = v2 at r2
   generalize cur[j * 6 + 3] = v3 at r3
   generalize cur[j * 6 + 4] = v4 at r4
   generalize cur[j * 6 + 5] = v5 at r5
   generalize (Ff (ps.length - 1 - j)).1 = kf at p3 HTS
   generalize (Ff (ps.length - 1 - j)).2.1 = nf at p4 HTS
   generalize (Ef (ps.length - 1 - j)).1 = ke at p0 HTS
   generalize (Ef (ps.length - 1 - j)).2.1 = ne at p1 HTS
   clear T hr hs hc1 hbw hs1 hs2
   clear cur
   go_upto_block 1 with fail
   go_cut [19] from 95 to 116 (fun iv wc => iv = .int .i64 j ∧ Hid (Tw6 w9 wc G (ps.length + 3) (turnF ps.length Ef Ff) (j + 1)))
   case first =>
    go_wp2_with fail
    go_region
    go_wp2_with fail
    go_meet
    exact ⟨rfl, (HTS.out _ rfl).drew⟩
   case rest =>
    obtain ⟨rfl, HT'⟩ := hcut
    go_wp2
    go_roundw
    case rel => exact ⟨j + 1, hlt, by go_num, HT'.out⟩
    case measure => simp [intOf]; omega
  ·have hlt' : ¬ (j : Int) < (ps.length : Int) := by omega
   have ej : j = ps.length := by omega
   rw [ej] at T
   have HTw := T.hid
   have HEJ : Hid (j = ps.length) := ej
   clear T ej hlt hj hjb j0
   go_upto_region 20 with fail
   clear hlt'
   go_cut [20] from 117 to 119 (fun v wc => ∃ ad' cap', v = .slice ad' ps.length cap' ∧ Hid (Below wr.heap.size wr wc ∧ PrAt wc wc.heap.size (.slice ad' ps.length cap') (turnP ps)))
   case first =>
    have HBr : Hid (Below w.heap.size w wr) := HB.out.trans (HTw.out.below HZG.out)
    by_cases h0 : 0 < ps.length
    ·have N1 := newsP_one (turnF ps.length Ef Ff) ps.length (fun j hj => ⟨(HE.out (ps.length - 1 - j) (by omega)).2.1, (HE.out (ps.length - 1 - j) (by omega)).1⟩)
     go_wp2_with (refine wpList_append_lies _ rfl _ _ 22 rfl wr.heap.size 34 i0 _ 6 96 Tryz.underlying22 hi hz0 hz1 hz2 rfl (by omega) (.slice none 0 0) 0 [] rfl (World.ownsRow_nil _ _ _ _) ⟨G, 0, none⟩ ps.length (ps.length + 3) (newsP (turnF ps.length Ef Ff) ps.length) rfl (newsP_len _ _) HTw.out.news N1 h0 (by unfold maxLen; omega) (by omega) (Nat.le_refl _) wr.heap.size rfl ?_; intro g cap2 w13 hown hgrow hat hlt2)
     have hbl' : Below wr.heap.size wr w13 := grown_below hgrow (Nat.le_refl _) (fun g e => by simp [Value.ownBlock] at e)
     rw [Nat.zero_add, List.nil_append] at hown
     have hcp : ps.length ≤ cap2 := by
      rcases hown.2 with ⟨e, _⟩ | ⟨g', cap', cur', e, _, _, hnc, _⟩
      ·cases e
      ·simp only [Value.slice.injEq, Option.some.injEq, Addr.mk.injEq, and_true, true_and] at e
       omega
     have hbw := HBr.out.trans (hbl'.mono HBr.out.size)
     have BT := turnP_read HE.out hbw hbw.size hlt2 hpn hcp (own_newsP hown)
     go_meet
     exact ⟨_, _, rfl, hbl', BT⟩
    ·obtain rfl : ps = [] := List.length_eq_zero_iff.1 (by omega)
     go_wp2_with (refine wpList_append_zero rfl _ _ 22 rfl wr.heap.size 34 i0 6 Tryz.underlying22 hi (.slice none 0 0) 0 [] rfl (World.ownsRow_nil _ _ _ _) (some ⟨G, 0, none⟩) 3 rfl ?_)
     go_meet
     exact ⟨none, 0, rfl, Below.refl _ _, _, _, rfl, by simp [turnP], fun h => absurd rfl h⟩
   case rest =>
    obtain ⟨ad3, cap3, rfl, HC⟩ := hcut
    obtain ⟨w10, rfl⟩ : ∃ w10, w10 = wc := ⟨_, rfl⟩
    have hTb : Below G w9 wr := HTw.out.below (Nat.le_refl _)
    have hszr : wr.heap.size = w9.heap.size := HTw.out.size
    have hGr : G < wr.heap.size := by
     obtain ⟨cur, hr, _⟩ := HTw.out.this
     exact lt_of_heap hr
    have HBr : Below w.heap.size w wr := HB.out.trans (hTb.mono HZG.out)
    have HBc : Hid (Below w.heap.size w w10) := HBr.trans (HC.out.1.mono HBr.size)
    obtain ⟨l1, l2, l3, l4, l5, l6⟩ := HLE.out
    have R1 := ((R1.out.turned HTw.out (by omega)).by HC.out.1).hid
    have R2 := ((R2.out.turned HTw.out (by omega)).by HC.out.1).hid
    have R3 := ((R3.out.turned HTw.out (by omega)).by HC.out.1).hid
    have R4 := ((R4.out.turned HTw.out (by omega)).by HC.out.1).hid
    have L10 : Hid (w9.heap.size ≤ w10.heap.size) := by have := HC.out.1.size; show w9.heap.size ≤ w10.heap.size; omega
    have BR : PrAt w10 w10.heap.size (.slice (some ⟨G, 0, none⟩) ps.length (ps.length + 3)) (turnP ps) := turnP_read HE.out HBc.out HBc.out.size (by have := HC.out.1.size; omega) hpn (by omega) (fun j hj i hi => (HC.out.1.cell (p := ⟨G, j * 6 + i, none⟩) hGr).trans (HTw.out.cell hj hi))
    have CP := unifies_x (turnP ps) _ _ w10 w10.heap.size (Nat.le_refl _) BR HC.out.2 (fun x hx => by obtain ⟨y, hy, rfl⟩ := turnP_mem hx; exact ⟨(HM.out y hy).2, (HM.out y hy).1⟩)
    clear hTb hszr hGr HBr l1 l2 l3 l4 l5 l6 BR HTw HE HB
    go_upto_region 22 with (go_at_call 13; (with_reducible refine Calls.mono CP ?_); rintro e' w11 ⟨va5, vl5, vc5, es5, bs5, rs5, rfl, hb, R5⟩)
    clear CP HC
    have HB : Hid (Below w.heap.size w w11) := bel2 HBc.out hb
    have R1 := (R1.out.by hb).hid
    have R2 := (R2.out.by hb).hid
    have R3 := (R3.out.by hb).hid
    have R4 := (R4.out.by hb).hid
    have L11 : Hid (w10.heap.size ≤ w11.heap.size) := hb.size
    clear hb HBc
    have CO : Calls Tryz.prog 15 #[.slice (some ⟨w11.heap.size, 0, none⟩) 5 5] (w11.alloc (Obj.cells #[.slice va1 vl1 vc1, .slice va2 vl2 vc2, .slice va3 vl3 vc3, .slice va4 vl4 vc4, .slice va5 vl5 vc5] 23)) fun e w' => e = .returned (.bool true) ∧ Hid (Below w.heap.size w w') := by
     obtain ⟨l1, l2, l3, l4, l5, l6⟩ := HLE.out
     have l7 := L10.out
     have l8 := L11.out
     have l9 := HZG.out
     refine Calls.mono (owned_five (L := w.heap.size) R1.out R2.out R3.out R4.out R5.out (by omega) (by omega) (by omega) (by omega) (by omega) (by omega) (by omega) (by omega) (by omega) (by omega) rfl) ?_
     rintro e w' ⟨rfl, hb⟩
     exact ⟨rfl, (HB.out.trans (((Below.refl _ _).alloc (Nat.le_refl _) _).mono HB.out.size)).trans hb⟩
    clear HB
    go_upto_region 23 with (go_at_call 15; (with_reducible refine Calls.mono CO ?_); rintro e' w12 ⟨rfl, HB⟩)
    clear CO R1 R2 R3 R4 R5
    have CL := lentP_any qs _ w12 w12.heap.size (Nat.le_refl _) (HCC.out.below HB.out HB.out.size) hqn HQ.out
    have CK : ∀ w13 E' F', LpW w12 w13 w12.heap.size qs (qs.length + 3) E' F' → Calls Tryz.prog 14 #[.slice (some ⟨w12.heap.size, 0, none⟩) (qs.length + 3) (qs.length + 3), .slice cad qs.length ccap] w13 fun r w' => r = .returned (.bool true) ∧ Hid (Below w.heap.size w w') := fun w13 E' F' h => by
     have hb := bel2 HB.out h.bel
     refine Calls.mono (keptP_any qs _ w12 w13 w13.heap.size w12.heap.size E' F' (Nat.le_refl _) (HCC.out.below hb hb.size) hqn h) ?_
     rintro e w' ⟨rfl, hb'⟩
     exact ⟨rfl, bel2 hb hb'⟩
    go_wp2_with (first
     | (go_at_call 12; (with_reducible refine Calls.mono CL ?_); rintro e' w13 ⟨rfl, E', F', hL13⟩)
     | (go_at_call 14; (with_reducible refine Calls.mono (CK _ _ _ hL13) ?_); rintro e' w14 ⟨rfl, HB14⟩))
    go_ret
    exact ⟨rfl, HB14.out⟩
end Go.Proofs.YtikpipenhamdbaaGreat
