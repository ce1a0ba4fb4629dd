/- lent: a type in memory of its own, with marks behind each list. -/
import Derived.Test.YtgdflaapgfpdeaaGreatDoorMnx
import Derived.Test.YtgdflaapgfpdeaaGreatDoorMrx
import Derived.Laws.MakeOwn
namespace Go.Proofs.YtgdflaapgfpdeaaGreatDoor
open Go.RowKit

/-- 'make' with room behind the length. -/
theorem wpList_make_room {P : Program} (w : World) {ops : Array Oper} {rest : List Oper} {o : Oper} {a : Act} {Q : Exit → Act → World → Prop}
    (hg : o.guard = none) (l c : Operand) (t : TypeId) (hop : o.op = Op.makeSlice t l c)
    (e : TypeId) (i : TypeInfo) (z : Value) (size : Nat) (h1 : P.underlying t = some (.slice e)) (h2 : P.info? e = some i) (h3 : i.zero = some z) (h4 : i.size = size)
    (kl kc : IntKind) (L C : Int) (n m : Nat) (hl : a.eval l = .int kl L) (hc : a.eval c = .int kc C) (hL : L = (n : Int)) (hC : C = (m : Int)) (b1 : n ≤ m) (b2 : i.bytes * m ≤ 281474976710656) (b3 : m ≤ maxLen)
    (hK : ∀ w' g, g = w.heap.size → w'.heap.size = w.heap.size + 1 → Below w.heap.size w w' → (∃ cur, w'.heap[g]? = some (.cells cur e (0, 0)) ∧ cur.size = m * size) → wpList P ops Q rest (a.put o.dst (.slice (some ⟨g, 0, none⟩) n m)) w') :
    wpList P ops Q (o :: rest) a w := by
  refine wpList_plain hg fun K hK' => ?_
  subst hL
  subst hC
  subst h4
  have h63' : (m : Int) ≤ 9223372036854775807 := by
    have h := b3
    simp [maxLen] at h
    omega
  have hb' : (i.bytes : Int) * (m : Int) ≤ 281474976710656 := by
    have h : ((i.bytes * m : Nat) : Int) ≤ 281474976710656 := by omega
    rwa [Int.natCast_mul] at h
  have hrun := run_make (P := P) w t e i z h1 h2 h3 kl kc n m (by omega) (by omega) hb' h63'
  simp only [Int.toNat_natCast] at hrun
  unfold Oper.wp
  simp [execOp, hop, hl, hc, hrun, Result.andThen]
  refine hK' _ _ (hK _ _ rfl (by simp) ((Below.refl _ _).alloc (Nat.le_refl _) _) ⟨madeCells z.cells (m * i.size), ?_, size_madeCells _ _⟩)
  show (w.heap.push _)[w.heap.size]? = _
  simp
/-- The mark. -/
abbrev markE : El := (-77, ⟨#[98, 101, 104, 105, 110, 100]⟩, .slice none 0 0)
/-- The value x is the tree t; behind each list in it stand three marks; the blocks that it leads to are such as S says. -/
def TyL (w : World) (S : Nat → Prop) : (d : Nat) → Value → Tn d → Prop
  | 0, _, _ => False
  | d + 1, x, t => ∃ v, x = .agg #[.int .i64 t.1.1, .string ⟨t.1.2.toArray⟩, v] ∧ t.1.2.length < 140737488355328 ∧ t.2.length < 140737488355328 ∧
      ((t.2 = [] ∧ v = .slice none 0 0) ∨ (t.2 ≠ [] ∧ ∃ (g : Nat) (E : Nat → El), v = .slice (some ⟨g, 0, none⟩) t.2.length (t.2.length + 3) ∧ S g ∧
        (∀ j, j < t.2.length + 3 → w.cell? ⟨g, j * 3, none⟩ = some (.int .i64 (E j).1) ∧ w.cell? ⟨g, j * 3 + 1, none⟩ = some (.string (E j).2.1) ∧ w.cell? ⟨g, j * 3 + 2, none⟩ = some (E j).2.2) ∧
        (∀ j (h : j < t.2.length), TyL w S d (elV (E j)) t.2[j]) ∧ ∀ j, t.2.length ≤ j → j < t.2.length + 3 → E j = markE))
theorem TyL.on {w w' : World} {S S' : Nat → Prop} (hS : ∀ g, S g → S' g) (hb : ∀ g, S g → w'.heap[g]? = w.heap[g]?) : ∀ (d : Nat) (x : Value) (t : Tn d), TyL w S d x t → TyL w' S' d x t
  | 0, _, _, h => h
  | d + 1, x, t, ⟨v, hx, h1, h2, h⟩ => by
    refine ⟨v, hx, h1, h2, ?_⟩
    rcases h with h | ⟨h0, g, E, hv, hg, hc, ht, hm⟩
    · exact .inl h
    · have e : ∀ o, w'.cell? ⟨g, o, none⟩ = w.cell? ⟨g, o, none⟩ := fun o => World.cell?_of_block (w := w) (a := ⟨g, o, none⟩) (hb g hg)
      exact .inr ⟨h0, g, E, hv, hS g hg, fun j hj => by obtain ⟨a, b, c⟩ := hc j hj; exact ⟨(e _).trans a, (e _).trans b, (e _).trans c⟩, fun j hj => TyL.on hS hb d _ _ (ht j hj), hm⟩
theorem TyL.at {w : World} {S : Nat → Prop} {B : Nat} (hS : ∀ g, S g → g < B) : ∀ (d : Nat) (x : Value) (t : Tn d), TyL w S d x t → TyAt w B d x t
  | 0, _, _, h => h
  | d + 1, x, t, ⟨v, hx, h1, h2, h⟩ => by
    refine ⟨v, hx, h1, h2, ?_⟩
    rcases h with ⟨h0, hv⟩ | ⟨h0, g, E, hv, hg, hc, ht, hm⟩
    · exact .inl ⟨h0, none, 0, hv⟩
    · refine .inr ⟨g, 0, _, hv, h0, by omega, hS g hg, fun j hj => ?_⟩
      obtain ⟨a, b, c⟩ := hc j (by omega)
      exact ⟨(E j).1, (E j).2.1, (E j).2.2, by rw [Nat.zero_add]; exact a, by rw [Nat.zero_add]; exact b, by rw [Nat.zero_add]; exact c, TyL.at hS d _ _ (ht j hj)⟩
theorem TyL.slice {w : World} {S : Nat → Prop} {d : Nat} {a b u : Value} {t : Tn d} (h : TyL w S d (.agg #[a, b, u]) t) : ∃ ad len cap, u = .slice ad len cap := by
  cases d with
  | zero => exact h.elim
  | succ d =>
    obtain ⟨v, e, _, _, h⟩ := h
    have e : u = v := by
      simp only [Value.agg.injEq, Array.mk.injEq, List.cons.injEq, and_true] at e
      exact e.2.2
    rcases h with ⟨_, hv⟩ | ⟨_, g, _, hv, _⟩
    · exact ⟨_, _, _, e.trans hv⟩
    · exact ⟨_, _, _, e.trans hv⟩
/-- Three stores into a row of three cells each. -/
theorem store_at {U : World} {G j N : Nat} {cur : Array Value} (h : U.heap[G]? = some (.cells cur 24 (0, 0))) (hs : cur.size = N * 3) (hj : j < N) (a b c : Value) : ∃ W cur', W = ((U.setCell ⟨G, j * 3, none⟩ a).setCell ⟨G, j * 3 + 1, none⟩ b).setCell ⟨G, j * 3 + 2, none⟩ c ∧ W.heap[G]? = some (.cells cur' 24 (0, 0)) ∧ cur'.size = N * 3 ∧
    (W.cell? ⟨G, j * 3, none⟩ = some a ∧ W.cell? ⟨G, j * 3 + 1, none⟩ = some b ∧ W.cell? ⟨G, j * 3 + 2, none⟩ = some c) ∧ (∀ x, x < j * 3 ∨ j * 3 + 2 < x → W.cell? ⟨G, x, none⟩ = U.cell? ⟨G, x, none⟩) ∧ (∀ g, g ≠ G → W.heap[g]? = U.heap[g]?) ∧ W.heap.size = U.heap.size ∧ Below G U W := by
  have h3 := setCell_block (i := j * 3 + 2) (v := c) (setCell_block (i := j * 3 + 1) (v := b) (setCell_block (i := j * 3) (v := a) h))
  refine ⟨_, _, rfl, h3, by simpa using hs, ⟨?_, ?_, ?_⟩, fun x hx => ?_, fun g hg => ?_, by simp [World.setCell], (((Below.refl G U).setCell (Nat.le_refl _) a).setCell (Nat.le_refl _) b).setCell (Nat.le_refl _) c⟩
  · rw [cell_block h3, Array.getElem?_setIfInBounds_ne (by omega), Array.getElem?_setIfInBounds_ne (by omega), Array.getElem?_setIfInBounds_self_of_lt (by omega)]
  · rw [cell_block h3, Array.getElem?_setIfInBounds_ne (by omega), Array.getElem?_setIfInBounds_self_of_lt (by simp; omega)]
  · rw [cell_block h3, Array.getElem?_setIfInBounds_self_of_lt (by simp; omega)]
  · rw [cell_block h3, cell_block h, Array.getElem?_setIfInBounds_ne (by omega), Array.getElem?_setIfInBounds_ne (by omega), Array.getElem?_setIfInBounds_ne (by omega)]
  · rw [Below.heap_setCell _ _ _ _ hg, Below.heap_setCell _ _ _ _ hg, Below.heap_setCell _ _ _ _ hg]
/-- Between the rounds of lent: z is the box of what came, z + 1 the result's, z + 2 the new one's, G the new row. -/
structure LeW (w wr : World) (z G d : Nat) (k : Int) (n : ByteArray) (v : Value) (ts : List (Tn d)) (j : Nat) : Prop where
  bel : Below z w wr
  box : wr.heap[z]? = some (.cells #[.int .i64 k, .string n, v] 24 (0, 0))
  res : wr.heap[z + 1]? = some (.cells #[.int .i64 0, .string ⟨#[]⟩, .slice none 0 0] 24 (0, 0))
  out : wr.heap[z + 2]? = some (.cells #[.int .i64 k, .string n, .slice none 0 0] 24 (0, 0))
  row : ∃ cur, wr.heap[G]? = some (.cells cur 24 (0, 0)) ∧ cur.size = (ts.length + 3) * 3
  gt : z + 2 < G
  els : ∃ E : Nat → El, (∀ i, i < j → wr.cell? ⟨G, i * 3, none⟩ = some (.int .i64 (E i).1) ∧ wr.cell? ⟨G, i * 3 + 1, none⟩ = some (.string (E i).2.1) ∧ wr.cell? ⟨G, i * 3 + 2, none⟩ = some (E i).2.2) ∧
    (∀ i (h : i < ts.length), i < j → TyL wr (fun g => G < g ∧ g < wr.heap.size) d (elV (E i)) ts[i]) ∧ ∀ i, ts.length ≤ i → i < j → E i = markE
theorem LeW.below {w wr w' : World} {z G d : Nat} {k : Int} {n : ByteArray} {v : Value} {ts : List (Tn d)} {j : Nat} (h : LeW w wr z G d k n v ts j) (hb : Below wr.heap.size wr w') : LeW w w' z G d k n v ts j := by
  obtain ⟨cur, hr, hs⟩ := h.row
  have hG := heap_lt hr
  have hgt := h.gt
  obtain ⟨E, h1, h2, h3⟩ := h.els
  refine ⟨h.bel.trans (hb.mono (by omega)), (hb.block _ (by omega)).trans h.box, (hb.block _ (by omega)).trans h.res, (hb.block _ (by omega)).trans h.out, ⟨cur, (hb.block _ hG).trans hr, hs⟩, hgt, E, fun i hi => ?_, fun i hi hij => ?_, h3⟩
  · obtain ⟨a, b, c⟩ := h1 i hi
    exact ⟨(hb.cell (p := ⟨G, i * 3, none⟩) hG).trans a, (hb.cell (p := ⟨G, i * 3 + 1, none⟩) hG).trans b, (hb.cell (p := ⟨G, i * 3 + 2, none⟩) hG).trans c⟩
  · exact TyL.on (fun g q => ⟨q.1, Nat.lt_of_lt_of_le q.2 hb.size⟩) (fun g q => hb.block g q.2) _ _ _ (h2 i hi hij)
/-- An element is written. -/
theorem LeW.put {w wr W : World} {z G d : Nat} {k : Int} {n : ByteArray} {v : Value} {ts : List (Tn d)} {j : Nat} (h : LeW w wr z G d k n v ts j) (hj : j < ts.length + 3) (e : El)
    (he : ∀ (h : j < ts.length), TyL wr (fun g => G < g ∧ g < wr.heap.size) d (elV e) ts[j]) (hm : ts.length ≤ j → e = markE) (hW : W = ((wr.setCell ⟨G, j * 3, none⟩ (.int .i64 e.1)).setCell ⟨G, j * 3 + 1, none⟩ (.string e.2.1)).setCell ⟨G, j * 3 + 2, none⟩ e.2.2) : LeW w W z G d k n v ts (j + 1) := by
  obtain ⟨cur, hr, hs⟩ := h.row
  obtain ⟨W', cur', hW', hr', hs', ⟨c0, c1, c2⟩, hfar, hoth, hsz, hb⟩ := store_at hr hs hj (.int .i64 e.1) (.string e.2.1) e.2.2
  rw [← hW'] at hW
  subst hW
  have hgt := h.gt
  obtain ⟨E, h1, h2, h3⟩ := h.els
  have mv : ∀ (x : Value) (t : Tn d), TyL wr (fun g => G < g ∧ g < wr.heap.size) d x t → TyL W (fun g => G < g ∧ g < W.heap.size) d x t := fun x t ht => TyL.on (fun g q => ⟨q.1, by rw [hsz]; exact q.2⟩) (fun g q => hoth g (by omega)) _ _ _ ht
  refine ⟨h.bel.trans (hb.mono (by omega)), (hoth z (by omega)).trans h.box, (hoth (z + 1) (by omega)).trans h.res, (hoth (z + 2) (by omega)).trans h.out, ⟨cur', hr', hs'⟩, hgt, fun i => if i = j then e else E i, fun i hi => ?_, fun i hi hij => ?_, fun i hi hij => ?_⟩
  · by_cases q : i = j
    · subst q
      simp only [if_pos]
      exact ⟨c0, c1, c2⟩
    · simp only [if_neg q]
      obtain ⟨a, b, c⟩ := h1 i (by omega)
      exact ⟨(hfar _ (by omega)).trans a, (hfar _ (by omega)).trans b, (hfar _ (by omega)).trans c⟩
  · by_cases q : i = j
    · subst q
      simp only [if_pos]
      exact mv _ _ (he hi)
    · simp only [if_neg q]
      exact mv _ _ (h2 i hi (by omega))
  · by_cases q : i = j
    · subst q
      simp only [if_pos]
      exact hm hi
    · simp only [if_neg q]
      exact h3 i hi (by omega)
/-- An element that is to come is written over. -/
theorem LeW.spoil {w wr W : World} {z G d : Nat} {k : Int} {n : ByteArray} {v : Value} {ts : List (Tn d)} {j : Nat} (h : LeW w wr z G d k n v ts j) (hj : j < ts.length + 3) (a b c : Value)
    (hW : W = ((wr.setCell ⟨G, j * 3, none⟩ a).setCell ⟨G, j * 3 + 1, none⟩ b).setCell ⟨G, j * 3 + 2, none⟩ c) : LeW w W z G d k n v ts j := by
  obtain ⟨cur, hr, hs⟩ := h.row
  obtain ⟨W', cur', hW', hr', hs', _, hfar, hoth, hsz, hb⟩ := store_at hr hs hj a b c
  rw [← hW'] at hW
  subst hW
  have hgt := h.gt
  obtain ⟨E, h1, h2, h3⟩ := h.els
  refine ⟨h.bel.trans (hb.mono (by omega)), (hoth z (by omega)).trans h.box, (hoth (z + 1) (by omega)).trans h.res, (hoth (z + 2) (by omega)).trans h.out, ⟨cur', hr', hs'⟩, hgt, E, fun i hi => ?_, fun i hi hij => ?_, h3⟩
  · obtain ⟨a, b, c⟩ := h1 i hi
    exact ⟨(hfar _ (by omega)).trans a, (hfar _ (by omega)).trans b, (hfar _ (by omega)).trans c⟩
  · exact TyL.on (fun g q => ⟨q.1, by rw [hsz]; exact q.2⟩) (fun g q => hoth g (by omega)) _ _ _ (h2 i hi hij)
/-- The cells of an element that is to come. -/
theorem LeW.cells {w wr : World} {z G d : Nat} {k : Int} {n : ByteArray} {v : Value} {ts : List (Tn d)} {j : Nat} (h : LeW w wr z G d k n v ts j) {i : Nat} (hi : i < ts.length + 3) : (∃ a b c, wr.cell? ⟨G, i * 3, none⟩ = some a ∧ wr.cell? ⟨G, i * 3 + 1, none⟩ = some b ∧ wr.cell? ⟨G, i * 3 + 2, none⟩ = some c) ∧ ∀ x, wr.frozen? ⟨G, x, none⟩ = false := by
  obtain ⟨cur, hr, hs⟩ := h.row
  exact ⟨⟨cur[i * 3], cur[i * 3 + 1], cur[i * 3 + 2], (cell_block hr).trans (Array.getElem?_eq_getElem (by omega)), (cell_block hr).trans (Array.getElem?_eq_getElem (by omega)), (cell_block hr).trans (Array.getElem?_eq_getElem (by omega))⟩, fun x => frozen_block hr⟩
/-- Three boxes, side by side. -/
theorem boxes3 (w : World) (c0 c1 c2 : Array Value) (t : TypeId) : ∃ W, W = ((w.alloc (Obj.cells c0 t)).alloc (Obj.cells c1 t)).alloc (Obj.cells c2 t) ∧ Below w.heap.size w W ∧ W.heap.size = w.heap.size + 3 ∧ W.heap[w.heap.size]? = some (.cells c0 t (0, 0)) ∧ W.heap[w.heap.size + 1]? = some (.cells c1 t (0, 0)) ∧ W.heap[w.heap.size + 2]? = some (.cells c2 t (0, 0)) := by
  refine ⟨_, rfl, (((Below.refl _ _).alloc (Nat.le_refl _) _).alloc (by simp) _).alloc (by simp; omega) _, by simp, ?_, ?_, ?_⟩
  · rw [Below.heap_alloc _ _ _ (by simp; omega), Below.heap_alloc _ _ _ (by simp)]
    show (w.heap.push _)[w.heap.size]? = _
    simp
  · rw [Below.heap_alloc _ _ _ (by simp)]
    show ((w.heap.push _).push _)[w.heap.size + 1]? = _
    rw [Array.getElem?_push, if_pos (by simp)]
  · show (((w.heap.push _).push _).push _)[w.heap.size + 2]? = _
    rw [Array.getElem?_push, if_pos (by simp)]
theorem flats_many {d : Nat} : ∀ ts : List (Tn d), ts.length ≤ (flats d ts).length
  | [] => by simp
  | t :: ts => by
    rw [flats_cons, List.length_cons, List.length_append]
    have := flats_many ts
    have := flat_pos d t
    omega
/-- What lent answers. -/
def LePost (w : World) (d : Nat) (t : Tn d) (r : Ending) (w' : World) : Prop := Below w.heap.size w w' ∧ ∃ (k : Int) (n : ByteArray) (ad : Option Addr) (len cap : Nat), r = .returned (.agg #[.int .i64 k, .string n, .slice ad len cap]) ∧ TyL w' (fun g => w.heap.size ≤ g ∧ g < w'.heap.size) d (.agg #[.int .i64 k, .string n, .slice ad len cap]) t
end Go.Proofs.YtgdflaapgfpdeaaGreatDoor
