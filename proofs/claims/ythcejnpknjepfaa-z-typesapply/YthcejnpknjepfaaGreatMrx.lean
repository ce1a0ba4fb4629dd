/- TypesApply: what holds of memory on its way. TypesApply answers true, whatever bounds and types it is handed that are not too great. -/
import Derived.Test.YthcejnpknjepfaaGreatAz
import Derived.Test.YthcejnpknjepfaaGreatKb
import Derived.Test.YthcejnpknjepfaaGreatBe
import Derived.Test.YthcejnpknjepfaaGreatMlx
import Derived.Test.YthcejnpknjepfaaGreatMpx
import Derived.Deep.Cut
import Derived.Deep.RegionHeld3
namespace Go.Proofs.YthcejnpknjepfaaGreat
open Go.RowKit

theorem leftB_many : ∀ (bs : List Bd) (l : Int), 0 ≤ l → 0 ≤ leftB bs l → (bs.length : Int) ≤ l
  | [], l, hl, _ => by simpa using hl
  | b :: r, l, hl, h => by
    rw [leftB_cons b r l hl] at h
    obtain ⟨h1, h2, h3⟩ := left_range b.2.1 b.2.2 l 65536 hl
    rcases Int.lt_or_le (leftT b.2.1 b.2.2 l 65536) 0 with hn | hp
    · rw [leftB_low r _ hn] at h
      omega
    · have := leftB_many r _ hp h
      simp only [List.length_cons]
      omega
theorem greatB_facts {bs : List Bd} (h : greatB bs = false) : bs.length ≤ 4194304 ∧ ∀ x ∈ bs, (flat x.2.1 x.2.2).length ≤ 4194304 := by
  have h := of_decide_eq_false h
  have h1 := leftB_many bs 4194304 (by omega) (by omega)
  refine ⟨by omega, fun x hx => ?_⟩
  have := leftB_nodes bs 4194304 (by omega) (by omega) x hx
  omega
/-- The row that was lent, without the marks behind it, read. -/
theorem LbW.at {w wr : World} {G : Nat} {bs : List Bd} {E : Nat → El} (h : LbW w wr G bs (bs.length + 3) E) (hn : bs.length ≤ 4194304) (hnl : ∀ j (h : j < bs.length), bs[j].1.length < 140737488355328) : BdAt wr wr.heap.size (.slice (some ⟨G, 0, none⟩) bs.length (bs.length + 3)) bs := by
  obtain ⟨cur, hr, hs⟩ := h.row
  have hG := heap_lt hr
  refine ⟨_, _, rfl, by omega, fun _ => ⟨G, 0, rfl, by omega, hG, fun j hj => ⟨hnl j hj, ?_⟩⟩⟩
  have hT := h.tre j hj (by omega)
  obtain ⟨ad, len, cp, hsl⟩ := hT.slice
  obtain ⟨c1, c2, c3⟩ := h.cel j (by omega)
  have c0 := h.nam j hj (by omega)
  unfold elV at hT
  rw [hsl] at c3 hT
  refine ⟨_, _, ad, len, cp, fun w' hb => ?_, TyL.at (fun g q => q.2) _ _ _ hT⟩
  rw [Nat.zero_add]
  exact ⟨(hb.cell (p := ⟨G, j * 4, none⟩) hG).trans c0, (hb.cell (p := ⟨G, j * 4 + 1, none⟩) hG).trans c1, (hb.cell (p := ⟨G, j * 4 + 2, none⟩) hG).trans c2, (hb.cell (p := ⟨G, j * 4 + 3, none⟩) hG).trans c3⟩
/-- A tree that is its owner's, in a box behind it. -/
structure Oo (U : World) (b lo : Nat) (k : Int) (n : ByteArray) (ad : Option Addr) (len cap D : Nat) (t : Tn D) (rws : List (Value × Nat)) : Prop where
  box : U.heap[b]? = some (.cells #[.int .i64 k, .string n, .slice ad len cap] 25 (0, 0))
  own : TyO U lo D (.agg #[.int .i64 k, .string n, .slice ad len cap]) t rws
  sep : SepB lo b rws
  few : (flat D t).length ≤ 500
theorem Oo.keep {U U' : World} {b lo : Nat} {k : Int} {n : ByteArray} {ad : Option Addr} {len cap D : Nat} {t : Tn D} {rws : List (Value × Nat)} (h : Oo U b lo k n ad len cap D t rws) (hb : ∀ g, lo ≤ g → g < U.heap.size → U'.heap[g]? = U.heap[g]?) (hlo : lo ≤ b) : Oo U' b lo k n ad len cap D t rws := by
  have hbl := lt_of_heap h.box
  refine ⟨(hb b hlo hbl).trans h.box, TyO.on _ _ _ _ (fun p hp g hg => ?_) h.own, h.sep, h.few⟩
  obtain ⟨g', e1, e2, e3⟩ := h.sep.1 p hp
  rw [hg] at e1
  have := Option.some.inj e1
  exact hb g (by omega) (by omega)
theorem Oo.on {U U' : World} {b lo : Nat} {k : Int} {n : ByteArray} {ad : Option Addr} {len cap D : Nat} {t : Tn D} {rws : List (Value × Nat)} (h : Oo U b lo k n ad len cap D t rws) (hb : Below U.heap.size U U') (hlo : lo ≤ b) : Oo U' b lo k n ad len cap D t rws := h.keep (fun g _ hg => hb.block g hg) hlo
theorem Oo.new {U w' : World} {k : Int} {n : ByteArray} {ad : Option Addr} {len cap D : Nat} {t : Tn D} {rws : List (Value × Nat)} {lo : Nat} (hT : TyO w' lo D (.agg #[.int .i64 k, .string n, .slice ad len cap]) t rws) (hS : SepB lo w'.heap.size rws) (hf : (flat D t).length ≤ 500) (hU : U = w'.alloc (Obj.cells #[.int .i64 k, .string n, .slice ad len cap] 25)) : Oo U w'.heap.size lo k n ad len cap D t rws := by
  have hb : Below w'.heap.size w' U := by rw [hU]; exact (Below.refl _ _).alloc (Nat.le_refl _) _
  refine ⟨by rw [hU]; exact heap_alloc_new _ _, TyO.on _ _ _ _ (fun p hp g hg => hb.block g (hS.lt (Nat.le_refl _) p hp g hg)) hT, hS, hf⟩
/-- Bounds with their types in turned order. -/
@[reducible] def turnB (bs : List Bd) : List Bd := List.zipWith (fun a b => (a.1, b.2)) bs bs.reverse
theorem turnB_len (bs : List Bd) : (turnB bs).length = bs.length := by simp
theorem turnB_at (bs : List Bd) (j : Nat) (h : j < (turnB bs).length) (h1 : j < bs.length) (h2 : bs.length - 1 - j < bs.length) : (turnB bs)[j] = (bs[j].1, bs[bs.length - 1 - j].2) := by
  rw [List.getElem_zipWith, List.getElem_reverse]
theorem turnB_mem {bs : List Bd} {x : Bd} (h : x ∈ turnB bs) : ∃ y ∈ bs, y.2 = x.2 := by
  obtain ⟨j, hj, rfl⟩ := List.getElem_of_mem h
  have hl := turnB_len bs
  rw [turnB_at bs j hj (by omega) (by omega)]
  exact ⟨_, List.getElem_mem _, rfl⟩
/-- The cells of a row of bounds that came in. -/
theorem BdAt.els {w : World} {B : Nat} {v : Value} {bs : List Bd} (h : BdAt w B v bs) : ∃ E : Nat → El, ∀ j (hj : j < bs.length), bs[j].1.length < 140737488355328 ∧ (∃ ad len cp, (E j).2.2 = .slice ad len cp) ∧ TyAt w B bs[j].2.1 (elV (E j)) bs[j].2.2 ∧ ∀ g o cap, v = .slice (some ⟨g, o, none⟩) bs.length cap → g < B ∧ bs.length ≤ cap ∧ ∀ w', Below B w w' → w'.cell? ⟨g, o + j * 4, none⟩ = some (.string ⟨bs[j].1.toArray⟩) ∧ w'.cell? ⟨g, o + j * 4 + 1, none⟩ = some (.int .i64 (E j).1) ∧ w'.cell? ⟨g, o + j * 4 + 2, none⟩ = some (.string (E j).2.1) ∧ w'.cell? ⟨g, o + j * 4 + 3, none⟩ = some (E j).2.2 := by
  have key : ∀ j, ∃ e : El, ∀ (hj : j < bs.length), bs[j].1.length < 140737488355328 ∧ (∃ ad len cp, e.2.2 = .slice ad len cp) ∧ TyAt w B bs[j].2.1 (elV e) bs[j].2.2 ∧ ∀ g o cap, v = .slice (some ⟨g, o, none⟩) bs.length cap → g < B ∧ bs.length ≤ cap ∧ ∀ w', Below B w w' → w'.cell? ⟨g, o + j * 4, none⟩ = some (.string ⟨bs[j].1.toArray⟩) ∧ w'.cell? ⟨g, o + j * 4 + 1, none⟩ = some (.int .i64 e.1) ∧ w'.cell? ⟨g, o + j * 4 + 2, none⟩ = some (.string e.2.1) ∧ w'.cell? ⟨g, o + j * 4 + 3, none⟩ = some e.2.2 := fun j => by
    by_cases hj : j < bs.length
    · obtain ⟨g, o, cap, k, n, ad, len, cp, hv, hbl, hg, hnl, hc, hT⟩ := h.type j hj
      refine ⟨(k, n, .slice ad len cp), fun _ => ⟨hnl, ⟨ad, len, cp, rfl⟩, hT, fun g' o' cap' hv' => ?_⟩⟩
      rw [hv] at hv'
      simp only [Value.slice.injEq, Option.some.injEq, Addr.mk.injEq, and_true, true_and] at hv'
      obtain ⟨⟨rfl, rfl⟩, rfl⟩ := hv'
      exact ⟨hg, hbl, hc⟩
    · exact ⟨markE, fun h => absurd h hj⟩
  exact ⟨fun j => Classical.choose (key j), fun j hj => Classical.choose_spec (key j) hj⟩
/-- While the row is written anew: this block alone changes. -/
structure Tw4 (W0 W : World) (G N : Nat) (es : Nat → Bl4) (k : Nat) : Prop where
  os : W.os = W0.os
  tape : W.tape = W0.tape
  output : W.output = W0.output
  size : W.heap.size = W0.heap.size
  other : ∀ b, b ≠ G → W.heap[b]? = W0.heap[b]?
  this : ∃ cur, W.heap[G]? = some (.cells cur 47 (0, 0)) ∧ cur.size = N * 4 ∧ ∀ j, j < k → ∀ i, i < 4 → cur[j * 4 + i]? = (bCells (es j))[i]?
theorem Tw4.drew {W0 W : World} {G N : Nat} {es : Nat → Bl4} {k : Nat} (h : Tw4 W0 W G N es k) : Tw4 W0 W.drew G N es k := ⟨h.os, h.tape, h.output, h.size, h.other, h.this⟩
theorem Tw4.step {W0 W : World} {G N : Nat} {es : Nat → Bl4} {k : Nat} (h : Tw4 W0 W G N es k) (hk : k < N) :
    Tw4 W0 ((((W.setCell ⟨G, k * 4, none⟩ (.string ⟨(es k).1.toArray⟩)).setCell ⟨G, k * 4 + 1, none⟩ (.int .i64 (es k).2.1)).setCell ⟨G, k * 4 + 2, none⟩ (.string (es k).2.2.1)).setCell ⟨G, k * 4 + 3, none⟩ (es k).2.2.2) G N es (k + 1) := by
  obtain ⟨cur, h1, h2, h3⟩ := h.this
  refine ⟨h.os, h.tape, h.output, by simpa using h.size, fun b hb => ?_, ?_⟩
  · rw [Below.heap_setCell _ _ _ _ hb, Below.heap_setCell _ _ _ _ hb, Below.heap_setCell _ _ _ _ hb, Below.heap_setCell _ _ _ _ hb]
    exact h.other b hb
  · refine ⟨_, setCell_block (setCell_block (setCell_block (setCell_block h1))), by simpa using h2, fun j hj i hi => ?_⟩
    by_cases e : j = k
    · subst e
      obtain h | h | h | h : i = 0 ∨ i = 1 ∨ i = 2 ∨ i = 3 := by omega
      · subst h
        rw [Array.getElem?_setIfInBounds_ne (by omega), Array.getElem?_setIfInBounds_ne (by omega), Array.getElem?_setIfInBounds_ne (by omega)]
        show (cur.setIfInBounds (j * 4) _)[j * 4]? = _
        rw [Array.getElem?_setIfInBounds_self_of_lt (by omega)]
        rfl
      · subst h
        rw [Array.getElem?_setIfInBounds_ne (by omega), Array.getElem?_setIfInBounds_ne (by omega), Array.getElem?_setIfInBounds_self_of_lt (by simp; omega)]
        rfl
      · subst h
        rw [Array.getElem?_setIfInBounds_ne (by omega), Array.getElem?_setIfInBounds_self_of_lt (by simp; omega)]
        rfl
      · subst h
        rw [Array.getElem?_setIfInBounds_self_of_lt (by simp; omega)]
        rfl
    · rw [Array.getElem?_setIfInBounds_ne (by omega), Array.getElem?_setIfInBounds_ne (by omega), Array.getElem?_setIfInBounds_ne (by omega), Array.getElem?_setIfInBounds_ne (by omega)]
      exact h3 j (by omega) i hi
/-- A row of bounds told by its cells, read. -/
theorem bd_of_cells {U : World} {B g cap : Nat} {bs : List Bd} {es : Nat → Bl4} (hg : g < B) (hn : bs.length ≤ 4194304) (hcap : bs.length ≤ cap) (hc : ∀ j, j < bs.length → ∀ i, i < 4 → U.cell? ⟨g, j * 4 + i, none⟩ = (bCells (es j))[i]?)
    (he : ∀ j (hj : j < bs.length), (es j).1 = bs[j].1 ∧ bs[j].1.length < 140737488355328 ∧ (∃ ad len cp, (es j).2.2.2 = .slice ad len cp) ∧ TyAt U B bs[j].2.1 (elV (es j).2) bs[j].2.2) : BdAt U B (.slice (some ⟨g, 0, none⟩) bs.length cap) bs := by
  refine ⟨_, _, rfl, by omega, fun _ => ⟨g, 0, rfl, hcap, hg, fun j hj => ?_⟩⟩
  obtain ⟨h1, h2, ⟨ad, len, cp, h3⟩, h4⟩ := he j hj
  have c0 := hc j hj 0 (by omega)
  have c1 := hc j hj 1 (by omega)
  have c2 := hc j hj 2 (by omega)
  have c3 := hc j hj 3 (by omega)
  have c0 : U.cell? ⟨g, j * 4, none⟩ = some (.string ⟨(es j).1.toArray⟩) := c0
  have c1 : U.cell? ⟨g, j * 4 + 1, none⟩ = some (.int .i64 (es j).2.1) := c1
  have c2 : U.cell? ⟨g, j * 4 + 2, none⟩ = some (.string (es j).2.2.1) := c2
  have c3 : U.cell? ⟨g, j * 4 + 3, none⟩ = some (es j).2.2.2 := c3
  rw [h1] at c0
  unfold elV at h4
  rw [h3] at c3 h4
  refine ⟨h2, _, _, ad, len, cp, fun w' hb => ?_, h4⟩
  rw [Nat.zero_add]
  exact ⟨(hb.cell (p := ⟨g, j * 4, none⟩) hg).trans c0, (hb.cell (p := ⟨g, j * 4 + 1, none⟩) hg).trans c1, (hb.cell (p := ⟨g, j * 4 + 2, none⟩) hg).trans c2, (hb.cell (p := ⟨g, j * 4 + 3, none⟩) hg).trans c3⟩
end Go.Proofs.YthcejnpknjepfaaGreat

namespace Go.Proofs.YthcejnpknjepfaaGreat
open Go.RowKit

/-- A lent tree in a box. -/
structure Bq (U : World) (b : Nat) (k : Int) (n : ByteArray) (ad : Option Addr) (len cap d : Nat) (t : Tn d) : Prop where
  box : Bx U b k n ad len cap d t
  tl : TyL U (fun g => g < U.heap.size) d (.agg #[.int .i64 k, .string n, .slice ad len cap]) t
theorem Bq.on {U U' : World} {b : Nat} {k : Int} {n : ByteArray} {ad : Option Addr} {len cap d : Nat} {t : Tn d} (h : Bq U b k n ad len cap d t) (hb : Below U.heap.size U U') : Bq U' b k n ad len cap d t :=
  ⟨h.box.on hb, TyL.on (fun _ q => Nat.lt_of_lt_of_le q hb.size) (fun g q => hb.block g q) _ _ _ h.tl⟩
theorem Bq.new {w : World} {lo : Nat} {k : Int} {n : ByteArray} {ad : Option Addr} {len cap d : Nat} {t : Tn d} (h : TyL w (fun g => lo ≤ g ∧ g < w.heap.size) d (.agg #[.int .i64 k, .string n, .slice ad len cap]) t) : ∃ U, U = w.alloc (Obj.cells #[.int .i64 k, .string n, .slice ad len cap] 25) ∧ Below w.heap.size w U ∧ Bq U w.heap.size k n ad len cap d t := by
  obtain ⟨U, hU, hb, X⟩ := Bx.new (TyL.at (fun _ q => q.2) _ _ _ h)
  exact ⟨U, hU, hb, X, TyL.on (fun _ q => Nat.lt_of_lt_of_le q.2 hb.size) (fun g q => hb.block g q.2) _ _ _ h⟩
/-- A tree that is its owner's, in a box that lies behind it. -/
structure Aw (U : World) (b lo : Nat) (k : Int) (n : ByteArray) (ad : Option Addr) (len cap D : Nat) (t : Tn D) (rws : List (Value × Nat)) : Prop where
  oo : Oo U b lo k n ad len cap D t rws
  le : lo ≤ b
theorem Aw.on {U U' : World} {b lo : Nat} {k : Int} {n : ByteArray} {ad : Option Addr} {len cap D : Nat} {t : Tn D} {rws : List (Value × Nat)} (h : Aw U b lo k n ad len cap D t rws) (hb : Below U.heap.size U U') : Aw U' b lo k n ad len cap D t rws := ⟨h.oo.on hb h.le, h.le⟩
theorem Aw.lt {U : World} {b lo : Nat} {k : Int} {n : ByteArray} {ad : Option Addr} {len cap D : Nat} {t : Tn D} {rws : List (Value × Nat)} (h : Aw U b lo k n ad len cap D t rws) : b < U.heap.size := lt_of_heap h.oo.box
theorem Aw.num {U : World} {b lo : Nat} {k : Int} {n : ByteArray} {ad : Option Addr} {len cap D : Nat} {t : Tn D} {rws : List (Value × Nat)} (h : Aw U b lo k n ad len cap D t rws) : rws.length ≤ 500 ∧ ∀ p ∈ rws, p.2 ≤ 500 :=
  ⟨Nat.le_trans (own_count _ _ _ _ h.oo.own).1 h.oo.few, fun p hp => Nat.le_trans (own_wide _ _ _ _ h.oo.own p hp) h.oo.few⟩
theorem Aw.cells {U : World} {b lo : Nat} {k : Int} {n : ByteArray} {ad : Option Addr} {len cap D : Nat} {t : Tn D} {rws : List (Value × Nat)} (h : Aw U b lo k n ad len cap D t rws) : U.cell? ⟨b, 0, none⟩ = some (.int .i64 k) ∧ U.cell? ⟨b, 1, none⟩ = some (.string n) ∧ U.cell? ⟨b, 2, none⟩ = some (.slice ad len cap) := heap_cells h.oo.box
theorem Aw.hid {U : World} {b lo : Nat} {k : Int} {n : ByteArray} {ad : Option Addr} {len cap D : Nat} {t : Tn D} {rws : List (Value × Nat)} (h : Aw U b lo k n ad len cap D t rws) : Hid (Aw U b lo k n ad len cap D t rws) := h
theorem Aw.new {w w' : World} {k : Int} {n : ByteArray} {ad : Option Addr} {len cap D : Nat} {t : Tn D} {rws : List (Value × Nat)} (hb : Below w.heap.size w w') (hT : TyO w' w.heap.size D (.agg #[.int .i64 k, .string n, .slice ad len cap]) t rws) (hS : SepB w.heap.size w'.heap.size rws) (hf : (flat D t).length ≤ 500) : ∃ U, U = w'.alloc (Obj.cells #[.int .i64 k, .string n, .slice ad len cap] 25) ∧ Below w.heap.size w U ∧ Aw U w'.heap.size w.heap.size k n ad len cap D t rws := by
  refine ⟨_, rfl, ?_, ⟨Oo.new hT hS hf rfl, hb.size⟩⟩
  exact hb.trans (((Below.refl _ _).alloc (Nat.le_refl _) _).mono hb.size)
theorem LbW.hid {w wr : World} {G : Nat} {bs : List Bd} {j : Nat} {E : Nat → El} (h : LbW w wr G bs j E) : Hid (LbW w wr G bs j E) := h
theorem LbW.lt {w wr : World} {G : Nat} {bs : List Bd} {j : Nat} {E : Nat → El} (h : LbW w wr G bs j E) : G < wr.heap.size := by
  obtain ⟨cur, hr, _⟩ := h.row
  exact heap_lt hr
theorem Tw4.below {W0 W : World} {G N B : Nat} {es : Nat → Bl4} {k : Nat} (h : Tw4 W0 W G N es k) (hB : B ≤ G) : Below B W0 W := ⟨h.os, h.tape, h.output, by have := h.size; omega, fun g hg => h.other g (by omega)⟩
theorem Tw4.cell {W0 W : World} {G N : Nat} {es : Nat → Bl4} {k : Nat} (h : Tw4 W0 W G N es k) {j i : Nat} (hj : j < k) (hi : i < 4) : W.cell? ⟨G, j * 4 + i, none⟩ = (bCells (es j))[i]? := by
  obtain ⟨cur, h1, _, h3⟩ := h.this
  rw [cell_block h1]
  exact h3 j hj i hi
theorem Tw4.hid {W0 W : World} {G N : Nat} {es : Nat → Bl4} {k : Nat} (h : Tw4 W0 W G N es k) : Hid (Tw4 W0 W G N es k) := h
theorem bCells_len (l : List Bl4) : (l.flatMap bCells).length = l.length * 4 := by
  induction l with
  | nil => rfl
  | cons e l ih =>
    have h4 : (bCells e).length = 4 := rfl
    rw [List.flatMap_cons, List.length_append, ih, List.length_cons, h4]
    omega
/-- The cells of the row that was written anew, one behind the other. -/
def newsB (es : Nat → Bl4) (n : Nat) : List Value := ((List.range n).map es).flatMap bCells
theorem newsB_len (es : Nat → Bl4) (n : Nat) : (newsB es n).length = n * 4 := by
  unfold newsB
  rw [bCells_len]
  simp
theorem newsB_get (es : Nat → Bl4) (n j i : Nat) (hj : j < n) (hi : i < 4) : (newsB es n)[j * 4 + i]? = (bCells (es j))[i]? := by
  unfold newsB
  rw [bCells_get _ j i (by simpa using hj) hi]
  simp
theorem newsB_one (es : Nat → Bl4) (n : Nat) (h : ∀ j, j < n → ∃ ad len cp, (es j).2.2.2 = .slice ad len cp) : ∀ u ∈ newsB es n, u.oneCell' = true := by
  intro u hu
  unfold newsB at hu
  obtain ⟨e, he, hu⟩ := List.mem_flatMap.1 hu
  obtain ⟨j, hj, rfl⟩ := List.mem_map.1 he
  obtain ⟨ad, len, cp, hs⟩ := h j (by simpa using hj)
  simp only [bCells, elCells, List.mem_cons, List.not_mem_nil, or_false, hs] at hu
  rcases hu with rfl | rfl | rfl | rfl <;> rfl
theorem Tw4.news {W0 W : World} {G N : Nat} {es : Nat → Bl4} {k : Nat} (h : Tw4 W0 W G N es k) : ∀ j u, (newsB es k)[j]? = some u → W.cell? ((⟨G, 0, none⟩ : Addr).add j) = some u := by
  intro j u hu
  have hj : j < k * 4 := by
    rcases Nat.lt_or_ge j (k * 4) with hlt | hge
    · exact hlt
    · rw [List.getElem?_eq_none (by rw [newsB_len]; exact hge)] at hu; cases hu
  rw [add_zero_addr]
  have e : j = j / 4 * 4 + j % 4 := by omega
  rw [e] at hu ⊢
  rw [newsB_get es k (j / 4) (j % 4) (by omega) (by omega)] at hu
  rw [h.cell (by omega) (by omega)]
  exact hu
theorem own_newsB {W : World} {B g n cap : Nat} {es : Nat → Bl4} (h : W.ownsRow B 47 4 (.slice (some ⟨g, 0, none⟩) n cap) n (newsB es n)) : ∀ j, j < n → ∀ i, i < 4 → W.cell? ⟨g, j * 4 + i, none⟩ = (bCells (es j))[i]? := by
  intro j hj i hi
  have hlt : i < (bCells (es j)).length := hi
  have := h.cells (g := g) rfl (j * 4 + i) (bCells (es j))[i] (by rw [newsB_get es n j i hj hi]; exact List.getElem?_eq_getElem hlt)
  rw [add_zero_addr] at this
  rw [this]
  exact (List.getElem?_eq_getElem hlt).symm
/-- What is written into the row: the names, and the types in turned order. -/
def turnE (bs : List Bd) (E : Nat → El) (j : Nat) : Bl4 := (((bs.map (·.1))[j]?).getD [], E (bs.length - 1 - j))
theorem turnE_at {bs : List Bd} {E : Nat → El} {j : Nat} (h : j < bs.length) : turnE bs E j = (bs[j].1, E (bs.length - 1 - j)) := by
  unfold turnE
  rw [List.getElem?_map, List.getElem?_eq_getElem h]
  rfl
/-- The row that was written anew, or a copy of it, read. -/
theorem turned_at {w U : World} {B g cap : Nat} {bs : List Bd} {E : Nat → El} {v : Value} (hE : ∀ j (hj : j < bs.length), bs[j].1.length < 140737488355328 ∧ (∃ ad len cp, (E j).2.2 = .slice ad len cp) ∧ TyAt w w.heap.size bs[j].2.1 (elV (E j)) bs[j].2.2 ∧ ∀ g o cap, v = .slice (some ⟨g, o, none⟩) bs.length cap → g < w.heap.size ∧ bs.length ≤ cap ∧ ∀ w', Below w.heap.size w w' → w'.cell? ⟨g, o + j * 4, none⟩ = some (.string ⟨bs[j].1.toArray⟩) ∧ w'.cell? ⟨g, o + j * 4 + 1, none⟩ = some (.int .i64 (E j).1) ∧ w'.cell? ⟨g, o + j * 4 + 2, none⟩ = some (.string (E j).2.1) ∧ w'.cell? ⟨g, o + j * 4 + 3, none⟩ = some (E j).2.2)
    (hb : Below w.heap.size w U) (hB : w.heap.size ≤ B) (hg : g < B) (hn : bs.length ≤ 4194304) (hcap : bs.length ≤ cap) (hc : ∀ j, j < bs.length → ∀ i, i < 4 → U.cell? ⟨g, j * 4 + i, none⟩ = (bCells (turnE bs E j))[i]?) : BdAt U B (.slice (some ⟨g, 0, none⟩) bs.length cap) (turnB bs) := by
  have hl := turnB_len bs
  have := bd_of_cells (U := U) (B := B) (g := g) (cap := cap) (bs := turnB bs) (es := turnE bs E) hg (by omega) (by omega) (fun j hj i hi => hc j (by omega) i hi) (fun j hj => ?_)
  · rw [hl] at this
    exact this
  · have hj' : j < bs.length := by omega
    have hm : bs.length - 1 - j < bs.length := by omega
    obtain ⟨_, e2, e3, _⟩ := hE (bs.length - 1 - j) hm
    rw [turnB_at bs j hj hj' hm, turnE_at hj']
    exact ⟨rfl, (hE j hj').1, e2, TyAt.below hb hB _ _ _ e3⟩
theorem Aw.turned {U U' : World} {G N : Nat} {es : Nat → Bl4} {q : Nat} {b lo : Nat} {k : Int} {n : ByteArray} {ad : Option Addr} {len cap D : Nat} {t : Tn D} {rws : List (Value × Nat)} (h : Aw U b lo k n ad len cap D t rws) (hT : Tw4 U U' G N es q) (hG : G < lo) : Aw U' b lo k n ad len cap D t rws :=
  ⟨h.oo.keep (fun g hg _ => hT.other g (by omega)) h.le, h.le⟩
set_option maxHeartbeats 16000000 in
set_option maxRecDepth 10000 in
theorem apply_small (hA : Wakes) (bs : List Bd) (lv : Value) (d d2 : Nat) (t : Tn d) (s : Tn d2) (k k' : Int) (n n' : ByteArray) (ad ad' : Option Addr) (len len' cap cap' : Nat) (w : World) (hl : BdAt w w.heap.size lv bs) (h : TyAt w w.heap.size d (.agg #[.int .i64 k, .string n, .slice ad len cap]) t) (h' : TyAt w w.heap.size d2 (.agg #[.int .i64 k', .string n', .slice ad' len' cap']) s) (hgl : greatB bs = false) (hg : greatT d t = false) (hg' : greatT d2 s = false) :
    Calls Tryz.prog 5 #[lv, .agg #[.int .i64 k, .string n, .slice ad len cap], .agg #[.int .i64 k', .string n', .slice ad' len' cap']] w fun r w' => r = .returned (.bool true) ∧ Below w.heap.size w w' := by
  obtain ⟨adv, capv, rfl, _, _⟩ := id hl
  have CA : ∀ w : World, Calls Tryz.prog 6 #[] w fun r w' => r = .returned (.bool true) ∧ Below w.heap.size w w' := hA
  obtain ⟨hbl, hbm⟩ := greatB_facts hgl
  have HN : Hid ((flat d t).length ≤ 4194304 ∧ (flat d2 s).length ≤ 4194304) := ⟨great_nodes hg, great_nodes hg'⟩
  have HM : Hid (∀ x ∈ bs, (flat x.2.1 x.2.2).length ≤ 4194304) := hbm
  have HNL : Hid (∀ j (h : j < bs.length), bs[j].1.length < 140737488355328) := fun j hj => by
    obtain ⟨_, _, _, _, _, _, _, _, _, _, _, e, _⟩ := hl.type j hj
    exact e
  have HT : Hid (TyAt w w.heap.size d (.agg #[.int .i64 k, .string n, .slice ad len cap]) t) := h
  have HV : Hid (BdAt w w.heap.size (.slice adv bs.length capv) bs) := hl
  obtain ⟨V, hV, hbV, X0⟩ := Bx.new h
  obtain ⟨W, hW, hbW, X1⟩ := Bx.new (TyAt.below hbV hbV.size _ _ _ h')
  have X0 := X0.on hbW
  have hsV : V.heap.size = w.heap.size + 1 := by rw [hV]; simp
  rw [hsV] at X1
  have HB : Hid (Below w.heap.size w W) := hbV.trans (hbW.mono hbV.size)
  have CG := greatBounds_any _ bs W W.heap.size (Nat.le_refl _) (HV.out.below HB.out HB.out.size)
  rw [hgl] at CG
  have hWe : W = (w.alloc (Obj.cells #[.int .i64 k, .string n, .slice ad len cap] 25)).alloc (Obj.cells #[.int .i64 k', .string n', .slice ad' len' cap'] 25) := by rw [hW, hV]
  clear hW hV hbV hbW hsV h h' hA hgl hl hbm
  go_enter Tryz.func5, Tryz.ntmps5
  go_upto_region 1 with fail
  rw [← hWe]
  generalize hz : w.heap.size = z at X0 X1 ⊢
  have HZ : Hid (w.heap.size = z) := hz
  clear hWe hz
  go_upto_region 2 with (go_at_call 19; (with_reducible refine Calls.mono CG ?_); rintro e' w1 ⟨rfl, hb⟩)
  clear CG
  have X0 := X0.on hb
  have X1 := X1.on hb
  have HB := HB.out.trans (hb.mono HB.out.size)
  have HB : Hid (Below w.heap.size w w1) := HB
  clear hb
  have CG := great_any _ _ t w1 X0.tree
  rw [hg] at CG
  obtain ⟨x0, x1, x2⟩ : _ ∧ _ ∧ _ := ⟨X0.c0, X0.c1, X0.c2⟩
  go_upto_region 3 with (go_at_call 12; (with_reducible refine Calls.mono CG ?_); rintro e' w2 ⟨rfl, hb⟩)
  clear CG x0 x1 x2 hg
  have X0 := X0.on hb
  have X1 := X1.on hb
  have HB := HB.out.trans (hb.mono HB.out.size)
  have HB : Hid (Below w.heap.size w w2) := HB
  clear hb
  have CG := great_any _ _ s w2 X1.tree
  rw [hg'] at CG
  obtain ⟨x0, x1, x2⟩ : _ ∧ _ ∧ _ := ⟨X1.c0, X1.c1, X1.c2⟩
  go_upto_region 6 with (go_at_call 12; (with_reducible refine Calls.mono CG ?_); rintro e' w3 ⟨rfl, hb⟩)
  clear CG x0 x1 x2 hg'
  have X0 := X0.on hb
  have X1 := X1.on hb
  have HB := HB.out.trans (hb.mono HB.out.size)
  have HB : Hid (Below w.heap.size w w3) := HB
  clear hb
  go_upto_region 7 with (go_at_call 6; (with_reducible refine Calls.mono (CA _) ?_); rintro e' w4 ⟨rfl, hb⟩)
  clear CA
  have X0 := X0.on hb
  have X1 := X1.on hb
  have HB := HB.out.trans (hb.mono HB.out.size)
  have HB : Hid (Below w.heap.size w w4) := HB
  clear hb
  have CL := lentB_any bs _ w4 w.heap.size HB.out.size (HV.out.below HB.out (Nat.le_refl _)) hbl HM.out
  have HZG : Hid (z < w4.heap.size ∧ w.heap.size ≤ w4.heap.size) := ⟨X0.lt, HB.out.size⟩
  go_upto_region 8 with (go_at_call 20; (with_reducible refine Calls.mono CL ?_); rintro e' w5 ⟨rfl, E, TL⟩)
  clear CL
  have hb := TL.bel
  have X0 := X0.on hb
  have X1 := X1.on hb
  have HB := HB.out.trans (hb.mono HB.out.size)
  have HB : Hid (Below w.heap.size w w5) := HB
  clear hb
  have HL := TL.hid
  clear TL
  generalize w4.heap.size = G at HL HZG ⊢
  have hb3 : (bs.length : Int) ≤ ((bs.length + 3 : Nat) : Int) := by omega
  go_upto_region 9 with fail
  clear hb3
  have CL := lent_any _ _ t w5 w5.heap.size (Nat.le_refl _) X0.tree HN.out.1
  obtain ⟨x0, x1, x2⟩ : _ ∧ _ ∧ _ := ⟨X0.c0, X0.c1, X0.c2⟩
  go_upto_region 10 with (go_at_call 13; (with_reducible refine Calls.mono CL ?_); intro e' w6 hpost; obtain ⟨hb4, ku, nu, au, lu, cu, rfl, TU⟩ := hpost)
  clear CL x0 x1 x2
  obtain ⟨U6, hU, hbU, XU⟩ := Bq.new TU
  rw [← hU]
  have hb : Below w5.heap.size w5 U6 := hb4.trans (hbU.mono hb4.size)
  clear hU hbU hb4 TU
  have X0 := X0.on hb
  have X1 := X1.on hb
  have HL := LbW.hid (HL.out.below hb)
  have HB := HB.out.trans (hb.mono HB.out.size)
  have HB : Hid (Below w.heap.size w U6) := HB
  clear hb
  generalize w6.heap.size = zu at XU ⊢
  have CP := applies_any bs _ _ _ _ _ _ t t U6 U6.heap.size (Nat.le_refl _) (HL.out.at hbl HNL.out) (HV.out.below HB.out HB.out.size) XU.box.tree X0.tree ⟨rfl, rfl⟩ HM.out HN.out.1
  obtain ⟨x0, x1, x2⟩ : _ ∧ _ ∧ _ := ⟨XU.box.c0, XU.box.c1, XU.box.c2⟩
  obtain ⟨y0, y1, y2⟩ : _ ∧ _ ∧ _ := ⟨X0.c0, X0.c1, X0.c2⟩
  have LA : Hid (G < U6.heap.size) := HL.out.lt
  go_upto_region 11 with (go_at_call 21; (with_reducible refine Calls.mono CP ?_); intro e' w7 hpost; obtain ⟨hb4, k7, n7, a7, l7, c7, d7, t7, r7, rfl, TT, SS, FF⟩ := hpost)
  clear CP x0 x1 x2 y0 y1 y2
  obtain ⟨U7, hU, hb, OO⟩ := Aw.new hb4 TT SS FF
  rw [← hU]
  have OA := OO.hid
  clear hU hb4 TT SS FF OO
  have X0 := X0.on hb
  have X1 := X1.on hb
  have XU := XU.on hb
  have HL := LbW.hid (HL.out.below hb)
  have HB := HB.out.trans (hb.mono HB.out.size)
  have HB : Hid (Below w.heap.size w U7) := HB
  clear hb
  generalize w7.heap.size = z7 at OA ⊢
  have CP := applies_any bs _ _ _ _ _ _ t t U7 U7.heap.size (Nat.le_refl _) (HL.out.at hbl HNL.out) (HV.out.below HB.out HB.out.size) XU.box.tree X0.tree ⟨rfl, rfl⟩ HM.out HN.out.1
  obtain ⟨x0, x1, x2⟩ : _ ∧ _ ∧ _ := ⟨XU.box.c0, XU.box.c1, XU.box.c2⟩
  obtain ⟨y0, y1, y2⟩ : _ ∧ _ ∧ _ := ⟨X0.c0, X0.c1, X0.c2⟩
  have LB : Hid (z7 < U7.heap.size) := OA.out.lt
  go_upto_region 12 with (go_at_call 21; (with_reducible refine Calls.mono CP ?_); intro e' w8 hpost; obtain ⟨hb4, k8, n8, a8, l8, c8, d8, t8, r8, rfl, TT, SS, FF⟩ := hpost)
  clear CP x0 x1 x2 y0 y1 y2
  obtain ⟨U8, hU, hb, OO⟩ := Aw.new hb4 TT SS FF
  rw [← hU]
  have OB := OO.hid
  clear hU hb4 TT SS FF OO
  have X0 := X0.on hb
  have X1 := X1.on hb
  have XU := XU.on hb
  have HL := LbW.hid (HL.out.below hb)
  have OA := Aw.hid (OA.out.on hb)
  have HB := HB.out.trans (hb.mono HB.out.size)
  have HB : Hid (Below w.heap.size w U8) := HB
  clear hb
  generalize w8.heap.size = z8 at OB ⊢
  have CP := applies_any bs _ _ _ _ _ _ s s U8 U8.heap.size (Nat.le_refl _) (HL.out.at hbl HNL.out) (HV.out.below HB.out HB.out.size) X1.tree X1.tree ⟨rfl, rfl⟩ HM.out HN.out.2
  obtain ⟨x0, x1, x2⟩ : _ ∧ _ ∧ _ := ⟨X1.c0, X1.c1, X1.c2⟩
  have LC : Hid (z8 < U8.heap.size) := OB.out.lt
  go_upto_region 13 with (go_at_call 21; (with_reducible refine Calls.mono CP ?_); intro e' w9 hpost; obtain ⟨hb4, k9, n9, a9, l9, c9, d9, t9, r9, rfl, TT, SS, FF⟩ := hpost)
  clear CP x0 x1 x2
  obtain ⟨U9, hU, hb, OO⟩ := Aw.new hb4 TT SS FF
  rw [← hU]
  have OC := OO.hid
  clear hU hb4 TT SS FF OO
  have X0 := X0.on hb
  have X1 := X1.on hb
  have XU := XU.on hb
  have HL := LbW.hid (HL.out.below hb)
  have OA := Aw.hid (OA.out.on hb)
  have OB := Aw.hid (OB.out.on hb)
  have HB := HB.out.trans (hb.mono HB.out.size)
  have HB : Hid (Below w.heap.size w U9) := HB
  clear hb
  generalize w9.heap.size = z9 at OC ⊢
  have CP := applies_any bs _ _ _ _ _ _ t t U9 U9.heap.size (Nat.le_refl _) (HL.out.at hbl HNL.out) (HV.out.below HB.out HB.out.size) XU.box.tree X0.tree ⟨rfl, rfl⟩ HM.out HN.out.1
  obtain ⟨x0, x1, x2⟩ : _ ∧ _ ∧ _ := ⟨XU.box.c0, XU.box.c1, XU.box.c2⟩
  obtain ⟨y0, y1, y2⟩ : _ ∧ _ ∧ _ := ⟨X0.c0, X0.c1, X0.c2⟩
  have LD : Hid (z9 < U9.heap.size) := OC.out.lt
  go_upto_region 14 with (go_at_call 21; (with_reducible refine Calls.mono CP ?_); intro e' w10 hpost; obtain ⟨hb4, k10, n10, a10, l10, c10, d10, t10, r10, rfl, TT, SS, FF⟩ := hpost)
  clear CP x0 x1 x2 y0 y1 y2
  obtain ⟨U10, hU, hb, OO⟩ := Aw.new hb4 TT SS FF
  rw [← hU]
  have OD := OO.hid
  clear hU hb4 TT SS FF OO
  have X0 := X0.on hb
  have X1 := X1.on hb
  have XU := XU.on hb
  have HL := LbW.hid (HL.out.below hb)
  have OA := Aw.hid (OA.out.on hb)
  have OB := Aw.hid (OB.out.on hb)
  have OC := Aw.hid (OC.out.on hb)
  have HB := HB.out.trans (hb.mono HB.out.size)
  have HB : Hid (Below w.heap.size w U10) := HB
  clear hb
  generalize w10.heap.size = z10 at OD ⊢
  have CK := keptB_any bs _ w4 U10 U10.heap.size G E (Nat.le_refl _) (HV.out.below HB.out HB.out.size) hbl HL.out
  go_upto_region 15 with (go_at_call 22; (with_reducible refine Calls.mono CK ?_); rintro e' w11 ⟨rfl, hb⟩)
  clear CK
  have X0 := X0.on hb
  have X1 := X1.on hb
  have XU := XU.on hb
  have HL := LbW.hid (HL.out.below hb)
  have OA := Aw.hid (OA.out.on hb)
  have OB := Aw.hid (OB.out.on hb)
  have OC := Aw.hid (OC.out.on hb)
  have OD := Aw.hid (OD.out.on hb)
  have HB := HB.out.trans (hb.mono HB.out.size)
  have HB : Hid (Below w.heap.size w w11) := HB
  clear hb
  have CK := kept_any _ _ _ t w11 w11.heap.size (Nat.le_refl _) XU.tl X0.tree
  obtain ⟨x0, x1, x2⟩ : _ ∧ _ ∧ _ := ⟨XU.box.c0, XU.box.c1, XU.box.c2⟩
  obtain ⟨y0, y1, y2⟩ : _ ∧ _ ∧ _ := ⟨X0.c0, X0.c1, X0.c2⟩
  go_upto_region 18 with (go_at_call 17; (with_reducible refine Calls.mono CK ?_); rintro e' w12 ⟨rfl, hb⟩)
  clear CK x0 x1 x2 y0 y1 y2
  have X0 := X0.on hb
  have X1 := X1.on hb
  have XU := XU.on hb
  have HL := LbW.hid (HL.out.below hb)
  have OA := Aw.hid (OA.out.on hb)
  have OB := Aw.hid (OB.out.on hb)
  have OC := Aw.hid (OC.out.on hb)
  have OD := Aw.hid (OD.out.on hb)
  have HB := HB.out.trans (hb.mono HB.out.size)
  have HB : Hid (Below w.heap.size w w12) := HB
  clear hb
  obtain ⟨Ef, HE0⟩ := HV.out.els
  have HE : Hid _ := HE0
  have HX0 : Hid (Bx w12 z k n ad len cap d t) := X0
  have T0 : Tw4 w12 w12 G (bs.length + 3) (turnE bs Ef) 0 := by
    obtain ⟨cur, hr, hs⟩ := HL.out.row
    exact ⟨rfl, rfl, rfl, rfl, fun _ _ => rfl, cur, hr, hs, fun j hj => by omega⟩
  clear X0 X1 XU HL HE0

  have HLE : Hid (G < U6.heap.size ∧ U6.heap.size ≤ z7 ∧ z7 < U7.heap.size ∧ U7.heap.size ≤ z8 ∧ z8 < U8.heap.size ∧ U8.heap.size ≤ z9 ∧ z9 < U9.heap.size ∧ U9.heap.size ≤ z10) := ⟨LA.out, OA.out.le, LB.out, OB.out.le, LC.out, OC.out.le, LD.out, OD.out.le⟩
  clear LA LB LC LD
  obtain ⟨i0, hi, hz0, hz1, hz2⟩ := info_parts Tryz.infoB47
  go_wp2_with fail
  go_loopw [24] (fun iv wr => ∃ j : Nat, j ≤ bs.length ∧ iv = .int .i64 j ∧ Tw4 w12 wr G (bs.length + 3) (turnE bs Ef) j) (fun iv _ => bs.length - (intOf iv).toNat)
  case atStart => exact ⟨0, by omega, by go_num, T0⟩
  case round =>
    obtain ⟨j, hj, rfl, T⟩ := hrel
    clear T0
    have hjb : (j : Int) ≤ 5000000 := by omega
    have j0 : (0 : Int) ≤ (j : Int) := by omega
    by_cases hlt : j < bs.length
    · have hlt' : (j : Int) < (bs.length : Int) := by omega
      have hlt3 : (j : Int) < ((bs.length + 3 : Nat) : Int) := by omega
      have hm : bs.length - 1 - j < bs.length := by omega
      obtain ⟨g, o, cap0, _, _, _, _, _, hve, _⟩ := HV.out.type j hlt
      simp only [Value.slice.injEq, true_and] at hve
      obtain ⟨rfl, rfl⟩ := hve
      obtain ⟨_, _, _, hc1⟩ := HE.out j hlt
      obtain ⟨_, ⟨ad1, l1, cp1, hsl⟩, _, hc2⟩ := HE.out (bs.length - 1 - j) hm
      have hbw : Below w.heap.size w wr := HB.out.trans (T.below HZG.out.2)
      obtain ⟨p0, _, _, _⟩ := (hc1 g o capv rfl).2.2 wr hbw
      obtain ⟨_, q1, q2, q3⟩ := (hc2 g o capv rfl).2.2 wr hbw
      have TS := T.step (by omega : j < bs.length + 3)
      rw [turnE_at hlt] at TS
      dsimp only at TS
      rw [hsl] at TS
      obtain ⟨cur, hr, hs, hcu⟩ := T.this
      have r0 : wr.cell? ⟨G, j * 4, none⟩ = some cur[j * 4] := (cell_block hr).trans (Array.getElem?_eq_getElem (by omega))
      have r1 : wr.cell? ⟨G, j * 4 + 1, none⟩ = some cur[j * 4 + 1] := (cell_block hr).trans (Array.getElem?_eq_getElem (by omega))
      have r2 : wr.cell? ⟨G, j * 4 + 2, none⟩ = some cur[j * 4 + 2] := (cell_block hr).trans (Array.getElem?_eq_getElem (by omega))
      have r3 : wr.cell? ⟨G, j * 4 + 3, none⟩ = some cur[j * 4 + 3] := (cell_block hr).trans (Array.getElem?_eq_getElem (by omega))
      have f0 : wr.frozen? ⟨G, j * 4, none⟩ = false := frozen_block hr
      have f1 : wr.frozen? ⟨G, j * 4 + 1, none⟩ = false := frozen_block hr
      have f2 : wr.frozen? ⟨G, j * 4 + 2, none⟩ = false := frozen_block hr
      have f3 : wr.frozen? ⟨G, j * 4 + 3, none⟩ = false := frozen_block hr
      generalize cur[j * 4] = v0 at r0
      generalize cur[j * 4 + 1] = v1 at r1
      generalize cur[j * 4 + 2] = v2 at r2
      generalize cur[j * 4 + 3] = v3 at r3
      have HTS : Hid _ := TS
      clear T TS hr hs hcu hc1 hc2 hbw
      clear cur
      go_upto_block 1 with fail
      go_cut [24] from 122 to 139 (fun iv wc => iv = .int .i64 j ∧ Hid (Tw4 w12 wc G (bs.length + 3) (turnE bs Ef) (j + 1)))
      case first =>
        go_wp2_with fail
        go_region
        go_wp2_with fail
        go_meet
        exact ⟨rfl, HTS.out.drew⟩
      case rest =>
        obtain ⟨rfl, HT'⟩ := hcut
        go_wp2
        go_roundw
        case rel => exact ⟨j + 1, hlt, by go_num, HT'.out⟩
        case measure => simp [intOf]; omega
    · have hlt' : ¬ (j : Int) < (bs.length : Int) := by omega
      have ej : j = bs.length := by omega
      rw [ej] at T
      have HTw := T.hid
      have HEJ : Hid (j = bs.length) := ej
      clear T ej hlt hj hjb j0
      go_upto_region 23 with fail
      clear hlt'
      go_cut [25] from 140 to 142 (fun v wc => ∃ ad' cap', v = .slice ad' bs.length cap' ∧ Hid (Below wr.heap.size wr wc ∧ BdAt wc wc.heap.size (.slice ad' bs.length cap') (turnB bs)))
      case first =>
        have HBr : Hid (Below w.heap.size w wr) := HB.out.trans (HTw.out.below HZG.out.2)
        by_cases h0 : 0 < bs.length
        · have N1 := newsB_one (turnE bs Ef) bs.length (fun j hj => by rw [turnE_at hj]; exact (HE.out (bs.length - 1 - j) (by omega)).2.1)
          go_wp2_with (refine wpList_append_lies _ rfl _ _ 36 rfl wr.heap.size 47 i0 _ 4 64 Tryz.underlying36 hi hz0 hz1 hz2 rfl (by omega) (.slice none 0 0) 0 [] rfl (World.ownsRow_nil _ _ _ _) ⟨G, 0, none⟩ bs.length (bs.length + 3) (newsB (turnE bs Ef) bs.length) rfl (newsB_len _ _) HTw.out.news N1 h0 (by unfold maxLen; omega) (by omega) (Nat.le_refl _) wr.heap.size rfl ?_; intro g cap2 w13 hown hgrow hat hlt2)
          have hbl' : Below wr.heap.size wr w13 := grown_below hgrow (Nat.le_refl _) (fun g e => by simp [Value.ownBlock] at e)
          rw [Nat.zero_add, List.nil_append] at hown
          have hcp : bs.length ≤ cap2 := by
            rcases hown.2 with ⟨e, _⟩ | ⟨g', cap', cur', e, _, _, hnc, _⟩
            · cases e
            · simp only [Value.slice.injEq, Option.some.injEq, Addr.mk.injEq, and_true, true_and] at e
              omega
          have hbw := HBr.out.trans (hbl'.mono HBr.out.size)
          have BT := turned_at HE.out hbw hbw.size hlt2 hbl hcp (own_newsB hown)
          go_meet
          exact ⟨_, _, rfl, hbl', BT⟩
        · obtain rfl : bs = [] := List.length_eq_zero_iff.1 (by omega)
          go_wp2_with (refine wpList_append_zero rfl _ _ 36 rfl wr.heap.size 47 i0 4 Tryz.underlying36 hi (.slice none 0 0) 0 [] rfl (World.ownsRow_nil _ _ _ _) (some ⟨G, 0, none⟩) 3 rfl ?_)
          go_meet
          exact ⟨none, 0, rfl, Below.refl _ _, _, _, rfl, by simp, fun h => absurd rfl h⟩
      case rest =>
        obtain ⟨ad3, cap3, rfl, HC⟩ := hcut
        obtain ⟨w13, rfl⟩ : ∃ w13, w13 = wc := ⟨_, rfl⟩
        have hTb : Below G w12 wr := HTw.out.below (Nat.le_refl _)
        have hszr : wr.heap.size = w12.heap.size := HTw.out.size
        have hGr : G < wr.heap.size := by
          obtain ⟨cur, hr, _⟩ := HTw.out.this
          exact heap_lt hr
        have HBr : Below w.heap.size w wr := HB.out.trans (hTb.mono HZG.out.2)
        have HBc : Hid (Below w.heap.size w w13) := HBr.trans (HC.out.1.mono HBr.size)
        obtain ⟨l1, l2, l3, l4, l5, l6, l7, l8⟩ := HLE.out
        have OA := Aw.hid ((OA.out.turned HTw.out (by omega)).on HC.out.1)
        have OB := Aw.hid ((OB.out.turned HTw.out (by omega)).on HC.out.1)
        have OC := Aw.hid ((OC.out.turned HTw.out (by omega)).on HC.out.1)
        have OD := Aw.hid ((OD.out.turned HTw.out (by omega)).on HC.out.1)
        have hc : ∀ i, w13.cell? ⟨z, i, none⟩ = w12.cell? ⟨z, i, none⟩ := fun i => (HC.out.1.cell (p := ⟨z, i, none⟩) (show z < wr.heap.size by have := HZG.out.1; omega)).trans (hTb.cell (p := ⟨z, i, none⟩) HZG.out.1)
        have hzl : z < w13.heap.size := by have := HC.out.1.size; have := HZG.out.1; omega
        have X0 : Bx w13 z k n ad len cap d t := ⟨hzl, (hc 0).trans HX0.out.c0, (hc 1).trans HX0.out.c1, (hc 2).trans HX0.out.c2, TyAt.below HBc.out HBc.out.size _ _ _ HT.out⟩
        have BR : BdAt w13 w13.heap.size (.slice (some ⟨G, 0, none⟩) bs.length (bs.length + 3)) (turnB bs) := turned_at HE.out HBc.out HBc.out.size (by have := HC.out.1.size; omega) hbl (by omega) (fun j hj i hi => (HC.out.1.cell (p := ⟨G, j * 4 + i, none⟩) hGr).trans (HTw.out.cell hj hi))
        have CP := applies_any (turnB bs) _ _ _ _ _ _ t t w13 w13.heap.size (Nat.le_refl _) BR HC.out.2 X0.tree X0.tree ⟨rfl, rfl⟩ (fun x hx => by obtain ⟨y, hy, e⟩ := turnB_mem hx; rw [← e]; exact HM.out y hy) HN.out.1
        have LF : Hid (z10 < w13.heap.size) := OD.out.lt
        obtain ⟨x0, x1, x2⟩ : _ ∧ _ ∧ _ := ⟨X0.c0, X0.c1, X0.c2⟩
        clear hTb hszr hGr HBr l1 l2 l3 l4 l5 l6 l7 l8 hc hzl X0 BR HX0
        go_upto_region 25 with (go_at_call 21; (with_reducible refine Calls.mono CP ?_); intro e' w14 hpost; obtain ⟨hb4, k14, n14, a14, l14, c14, d14, t14, r14, rfl, TT, SS, FF⟩ := hpost)
        clear CP x0 x1 x2
        obtain ⟨U14, hU, hb, OO⟩ := Aw.new hb4 TT SS FF
        rw [← hU]
        have OF := OO.hid
        clear hU hb4 TT SS FF OO
        have OA := Aw.hid (OA.out.on hb)
        have OB := Aw.hid (OB.out.on hb)
        have OC := Aw.hid (OC.out.on hb)
        have OD := Aw.hid (OD.out.on hb)
        have HBf : Hid (Below w.heap.size w U14) := HBc.out.trans (hb.mono HBc.out.size)
        clear hb
        generalize w14.heap.size = z14 at OF ⊢
        have HSA : Hid (SepB w.heap.size U14.heap.size ((((r7 ++ r8) ++ r9) ++ r10) ++ r14)) := by
          obtain ⟨l1, l2, l3, l4, l5, l6, l7, l8⟩ := HLE.out
          have l9 := LF.out
          have l10 := OF.out.le
          have l11 := OF.out.lt
          have l12 := HZG.out.2
          have h1 := (((OA.out.oo.sep.append OB.out.oo.sep (by omega) (by omega) (by omega)).append OC.out.oo.sep (by omega) (by omega) (by omega)).append OD.out.oo.sep (by omega) (by omega) (by omega)).append OF.out.oo.sep (by omega) (by omega) (by omega)
          exact ⟨fun p hp => by obtain ⟨g, e, h2, h3⟩ := h1.1 p hp; exact ⟨g, e, by omega, by omega⟩, h1.2⟩
        have HEach : Hid (∀ p ∈ (((r7 ++ r8) ++ r9) ++ r10) ++ r14, (∃ xs, U14.ownsRow w.heap.size 25 3 p.1 p.2 xs) ∧ p.2 ≤ 500) := by
          obtain ⟨l1, l2, l3, l4, l5, l6, l7, l8⟩ := HLE.out
          have l9 := LF.out
          have l12 := HZG.out.2
          intro p hp
          rcases List.mem_append.1 hp with hp | hp
          · rcases List.mem_append.1 hp with hp | hp
            · rcases List.mem_append.1 hp with hp | hp
              · rcases List.mem_append.1 hp with hp | hp
                · obtain ⟨xs, h⟩ := TyO.each _ _ _ _ OA.out.oo.own p hp
                  exact ⟨⟨xs, h.mono (by omega)⟩, OA.out.num.2 p hp⟩
                · obtain ⟨xs, h⟩ := TyO.each _ _ _ _ OB.out.oo.own p hp
                  exact ⟨⟨xs, h.mono (by omega)⟩, OB.out.num.2 p hp⟩
              · obtain ⟨xs, h⟩ := TyO.each _ _ _ _ OC.out.oo.own p hp
                exact ⟨⟨xs, h.mono (by omega)⟩, OC.out.num.2 p hp⟩
            · obtain ⟨xs, h⟩ := TyO.each _ _ _ _ OD.out.oo.own p hp
              exact ⟨⟨xs, h.mono (by omega)⟩, OD.out.num.2 p hp⟩
          · obtain ⟨xs, h⟩ := TyO.each _ _ _ _ OF.out.oo.own p hp
            exact ⟨⟨xs, h.mono (by omega)⟩, OF.out.num.2 p hp⟩
        have HNn : Hid (r7.length ≤ 500 ∧ r8.length ≤ 500 ∧ r9.length ≤ 500 ∧ r10.length ≤ 500 ∧ r14.length ≤ 500) := ⟨OA.out.num.1, OB.out.num.1, OC.out.num.1, OD.out.num.1, OF.out.num.1⟩
        have HLL : Hid ((∀ p ∈ r7, ∀ g, p.1.ownBlock = some g → g < U14.heap.size) ∧ (∀ p ∈ r8, ∀ g, p.1.ownBlock = some g → g < U14.heap.size) ∧ (∀ p ∈ r9, ∀ g, p.1.ownBlock = some g → g < U14.heap.size) ∧ (∀ p ∈ r10, ∀ g, p.1.ownBlock = some g → g < U14.heap.size) ∧ (∀ p ∈ r14, ∀ g, p.1.ownBlock = some g → g < U14.heap.size)) :=
          ⟨OA.out.oo.sep.lt (Nat.le_of_lt OA.out.lt), OB.out.oo.sep.lt (Nat.le_of_lt OB.out.lt), OC.out.oo.sep.lt (Nat.le_of_lt OC.out.lt), OD.out.oo.sep.lt (Nat.le_of_lt OD.out.lt), OF.out.oo.sep.lt (Nat.le_of_lt OF.out.lt)⟩
        have HNil : Hid (U14.ownsRow U14.heap.size 23 1 (.slice none 0 0) ([] : List Value).length []) := World.ownsRow_nil _ _ _ _
        have LL := lists_any _ d7 _ t7 r7 U14 U14.heap.size (.slice none 0 0) [] (Nat.le_refl _) HLL.out.1 OA.out.oo.own (World.ownsRow_nil _ _ _ _) (by have := HNn.out; simp; omega)
        obtain ⟨x0, x1, x2⟩ := OA.out.cells
        go_upto_region 26 with (go_at_call 10; (with_reducible refine Calls.mono LL ?_); rintro e' wa ⟨ga, rfl, hLa⟩)
        clear LL x0 x1 x2 OA
        have HLa : Hid (Ls U14 wa U14.heap.size (.slice none 0 0) ga ([] ++ r7.map (·.1))) := hLa
        clear hLa
        have OB := OB.out.on (HLa.out.from (Nat.le_refl _) HNil.out)
        have LL := lists_any _ d8 _ t8 r8 wa U14.heap.size ga _ HLa.out.size HLL.out.2.1 OB.oo.own HLa.out.own (by have := HNn.out; simp; omega)
        obtain ⟨x0, x1, x2⟩ := OB.cells
        clear OB
        go_upto_region 27 with (go_at_call 10; (with_reducible refine Calls.mono LL ?_); rintro e' wb ⟨gb, rfl, hLb⟩)
        clear LL x0 x1 x2
        have HLb : Hid (Ls U14 wb U14.heap.size (.slice none 0 0) gb (([] ++ r7.map (·.1)) ++ r8.map (·.1))) := HLa.out.trans hLb
        clear hLb HLa
        have OC := OC.out.on (HLb.out.from (Nat.le_refl _) HNil.out)
        have LL := lists_any _ d9 _ t9 r9 wb U14.heap.size gb _ HLb.out.size HLL.out.2.2.1 OC.oo.own HLb.out.own (by have := HNn.out; simp; omega)
        obtain ⟨x0, x1, x2⟩ := OC.cells
        clear OC
        go_upto_region 28 with (go_at_call 10; (with_reducible refine Calls.mono LL ?_); rintro e' wc ⟨gc, rfl, hLc⟩)
        clear LL x0 x1 x2
        have HLc : Hid (Ls U14 wc U14.heap.size (.slice none 0 0) gc ((([] ++ r7.map (·.1)) ++ r8.map (·.1)) ++ r9.map (·.1))) := HLb.out.trans hLc
        clear hLc HLb
        have OD := OD.out.on (HLc.out.from (Nat.le_refl _) HNil.out)
        have LL := lists_any _ d10 _ t10 r10 wc U14.heap.size gc _ HLc.out.size HLL.out.2.2.2.1 OD.oo.own HLc.out.own (by have := HNn.out; simp; omega)
        obtain ⟨x0, x1, x2⟩ := OD.cells
        clear OD
        go_upto_region 29 with (go_at_call 10; (with_reducible refine Calls.mono LL ?_); rintro e' wd ⟨gd, rfl, hLd⟩)
        clear LL x0 x1 x2
        have HLd : Hid (Ls U14 wd U14.heap.size (.slice none 0 0) gd (((([] ++ r7.map (·.1)) ++ r8.map (·.1)) ++ r9.map (·.1)) ++ r10.map (·.1))) := HLc.out.trans hLd
        clear hLd HLc
        have OF := OF.out.on (HLd.out.from (Nat.le_refl _) HNil.out)
        have LL := lists_any _ d14 _ t14 r14 wd U14.heap.size gd _ HLd.out.size HLL.out.2.2.2.2 OF.oo.own HLd.out.own (by have := HNn.out; simp; omega)
        obtain ⟨x0, x1, x2⟩ := OF.cells
        clear OF
        go_upto_region 30 with (go_at_call 10; (with_reducible refine Calls.mono LL ?_); rintro e' we ⟨ge, rfl, hLe⟩)
        clear LL x0 x1 x2
        have hLall := HLd.out.trans hLe
        have hbd := hLall.from (Nat.le_refl _) HNil.out
        have hrows : we.ownsRow U14.heap.size 23 1 ge ((((r7 ++ r8) ++ r9) ++ r10) ++ r14).length (((((r7 ++ r8) ++ r9) ++ r10) ++ r14).map (·.1)) := by
          have := hLall.own
          simpa [List.map_append, List.append_assoc] using this
        have hbe := HBf.out.trans (hbd.mono HBf.out.size)
        have CO := owned_rows we w.heap.size U14.heap.size ge ((((r7 ++ r8) ++ r9) ++ r10) ++ r14) hbe.size hrows (by have := HNn.out; simp; omega)
          (fun p hp => by
            obtain ⟨xs, h⟩ := (HEach.out p hp).1
            exact ⟨xs, own_keep h fun k hk => hbd.block k (by obtain ⟨g, e, _, h2⟩ := HSA.out.1 p hp; rw [e] at hk; exact Option.some.inj hk ▸ h2)⟩)
          (fun p hp => by have := (HEach.out p hp).2; omega) HSA.out.sep
        have HBE : Hid (Below w.heap.size w we) := hbe
        clear hrows hLe hLall hbd hbe HLd
        go_wp2_with (go_at_call 11; (with_reducible refine Calls.mono CO ?_); rintro e' wf ⟨rfl, hbf⟩)
        go_ret
        exact ⟨rfl, HBE.out.trans hbf⟩
end Go.Proofs.YthcejnpknjepfaaGreat
