/- lent: a type in memory of its own, with marks behind each list. kept: is what was lent as it was, and what stands behind it? -/
import Derived.Test.YtikpipenhamdbaaGreatMaxx
import Derived.Test.YtikpipenhamdbaaGreatMazx
import Derived.Laws.MakeOwn
import Derived.Deep.CutRange
namespace Go.Proofs.YtikpipenhamdbaaGreat
open Go.RowKit

/-- 'make' with room behind the length. -/
theorem wpList_make_room {P : Program} (w : World) {ops : Array Oper} {rest : List Oper} {o : Oper} {a : Act} {Q : Exit → Act → World → Prop}
  (hg : o.guard = none) (l c : Operand) (t : TypeId) (hop : o.op = Op.makeSlice t l c)
  (e : TypeId) (i : TypeInfo) (z : Value) (size : Nat) (h1 : P.underlying t = some (.slice e)) (h2 : P.info? e = some i) (h3 : i.zero = some z) (h4 : i.size = size)
  (kl kc : IntKind) (L C : Int) (n m : Nat) (hl : a.eval l = .int kl L) (hc : a.eval c = .int kc C) (hL : L = (n : Int)) (hC : C = (m : Int)) (b1 : n ≤ m) (b2 : i.bytes * m ≤ 281474976710656) (b3 : m ≤ maxLen)
  (hK : ∀ w' g, g = w.heap.size → w'.heap.size = w.heap.size + 1 → Below w.heap.size w w' → (∃ cur, w'.heap[g]? = some (.cells cur e (0, 0)) ∧ cur.size = m * size) → wpList P ops Q rest (a.put o.dst (.slice (some ⟨g, 0, none⟩) n m)) w') :
  wpList P ops Q (o :: rest) a w := by
 refine wpList_plain hg fun K hK' => ?_
 subst hL
 subst hC
 subst h4
 have h63' : (m : Int) ≤ 9223372036854775807 := by
  have h := b3
  simp [maxLen] at h
  omega
 have hb' : (i.bytes : Int) * (m : Int) ≤ 281474976710656 := by
  have h : ((i.bytes * m : Nat) : Int) ≤ 281474976710656 := by omega
  rwa [Int.natCast_mul] at h
 have hrun := run_make (P := P) w t e i z h1 h2 h3 kl kc n m (by omega) (by omega) hb' h63'
 simp only [Int.toNat_natCast] at hrun
 unfold Oper.wp
 simp [execOp, hop, hl, hc, hrun, Result.andThen]
 refine hK' _ _ (hK _ _ rfl (by simp) ((Below.refl _ _).alloc (Nat.le_refl _) _) ⟨madeCells z.cells (m * i.size), ?_, size_madeCells _ _⟩)
 show (w.heap.push _)[w.heap.size]? = _
 simp
/-- The mark. -/
abbrev markE : El := (-77, ⟨#[98, 101, 104, 105, 110, 100]⟩, .slice none 0 0)
/-- The value x is the tree t; behind each list in it stand three marks; the blocks that it leads to are such as S says. -/
def TyL (w : World) (S : Nat → Prop) : (d : Nat) → Value → Tn d → Prop
 | 0, _, _ => False
 | d + 1, x, t => ∃ v, x = .agg #[.int .i64 t.1.1, .string ⟨t.1.2.toArray⟩, v] ∧ t.1.2.length < 140737488355328 ∧ t.2.length < 140737488355328 ∧
   ((t.2 = [] ∧ v = .slice none 0 0) ∨ (t.2 ≠ [] ∧ ∃ (g : Nat) (E : Nat → El), v = .slice (some ⟨g, 0, none⟩) t.2.length (t.2.length + 3) ∧ S g ∧
    (∀ j, j < t.2.length + 3 → w.cell? ⟨g, j * 3, none⟩ = some (.int .i64 (E j).1) ∧ w.cell? ⟨g, j * 3 + 1, none⟩ = some (.string (E j).2.1) ∧ w.cell? ⟨g, j * 3 + 2, none⟩ = some (E j).2.2) ∧
    (∀ j (h : j < t.2.length), TyL w S d (elV (E j)) t.2[j]) ∧ ∀ j, t.2.length ≤ j → j < t.2.length + 3 → E j = markE))
theorem TyL.on {w w' : World} {S S' : Nat → Prop} (hS : ∀ g, S g → S' g) (hb : ∀ g, S g → w'.heap[g]? = w.heap[g]?) : ∀ (d : Nat) (x : Value) (t : Tn d), TyL w S d x t → TyL w' S' d x t
 | 0, _, _, h => h
 | d + 1, x, t, ⟨v, hx, h1, h2, h⟩ => by
  refine ⟨v, hx, h1, h2, ?_⟩
  rcases h with h | ⟨h0, g, E, hv, hg, hc, ht, hm⟩
  ·exact .inl h
  ·have e : ∀ o, w'.cell? ⟨g, o, none⟩ = w.cell? ⟨g, o, none⟩ := fun o => World.cell?_of_block (w := w) (a := ⟨g, o, none⟩) (hb g hg)
   exact .inr ⟨h0, g, E, hv, hS g hg, fun j hj => by obtain ⟨a, b, c⟩ := hc j hj; exact ⟨(e _).trans a, (e _).trans b, (e _).trans c⟩, fun j hj => TyL.on hS hb d _ _ (ht j hj), hm⟩
theorem TyL.at {w : World} {S : Nat → Prop} {B : Nat} (hS : ∀ g, S g → g < B) : ∀ (d : Nat) (x : Value) (t : Tn d), TyL w S d x t → TyAt w B d x t
 | 0, _, _, h => h
 | d + 1, x, t, ⟨v, hx, h1, h2, h⟩ => by
  refine ⟨v, hx, h1, h2, ?_⟩
  rcases h with ⟨h0, hv⟩ | ⟨h0, g, E, hv, hg, hc, ht, hm⟩
  ·exact .inl ⟨h0, none, 0, hv⟩
  ·refine .inr ⟨g, 0, _, hv, h0, by omega, hS g hg, fun j hj => ?_⟩
   obtain ⟨a, b, c⟩ := hc j (by omega)
   exact ⟨(E j).1, (E j).2.1, (E j).2.2, by rw [Nat.zero_add]; exact a, by rw [Nat.zero_add]; exact b, by rw [Nat.zero_add]; exact c, TyL.at hS d _ _ (ht j hj)⟩
theorem TyL.slice {w : World} {S : Nat → Prop} {d : Nat} {a b u : Value} {t : Tn d} (h : TyL w S d (.agg #[a, b, u]) t) : ∃ ad len cap, u = .slice ad len cap := by
 cases d with
 | zero => exact h.elim
 | succ d =>
  obtain ⟨v, e, _, _, h⟩ := h
  have e : u = v := by
   simp only [Value.agg.injEq, Array.mk.injEq, List.cons.injEq, and_true] at e
   exact e.2.2
  rcases h with ⟨_, hv⟩ | ⟨_, g, _, hv, _⟩
  ·exact ⟨_, _, _, e.trans hv⟩
  ·exact ⟨_, _, _, e.trans hv⟩
/-- Three stores into a row of three cells each. -/
theorem store_at {U : World} {G j N : Nat} {cur : Array Value} (h : U.heap[G]? = some (.cells cur 29 (0, 0))) (hs : cur.size = N * 3) (hj : j < N) (a b c : Value) : ∃ W cur', W = ((U.setCell ⟨G, j * 3, none⟩ a).setCell ⟨G, j * 3 + 1, none⟩ b).setCell ⟨G, j * 3 + 2, none⟩ c ∧ W.heap[G]? = some (.cells cur' 29 (0, 0)) ∧ cur'.size = N * 3 ∧
  (W.cell? ⟨G, j * 3, none⟩ = some a ∧ W.cell? ⟨G, j * 3 + 1, none⟩ = some b ∧ W.cell? ⟨G, j * 3 + 2, none⟩ = some c) ∧ (∀ x, x < j * 3 ∨ j * 3 + 2 < x → W.cell? ⟨G, x, none⟩ = U.cell? ⟨G, x, none⟩) ∧ (∀ g, g ≠ G → W.heap[g]? = U.heap[g]?) ∧ W.heap.size = U.heap.size ∧ Below G U W := by
 have h3 := setCell_block (i := j * 3 + 2) (v := c) (setCell_block (i := j * 3 + 1) (v := b) (setCell_block (i := j * 3) (v := a) h))
 refine ⟨_, _, rfl, h3, by simpa using hs, ⟨?_, ?_, ?_⟩, fun x hx => ?_, fun g hg => ?_, by simp [World.setCell], (((Below.refl G U).setCell (Nat.le_refl _) a).setCell (Nat.le_refl _) b).setCell (Nat.le_refl _) c⟩
 ·rw [cell_block h3, Array.getElem?_setIfInBounds_ne (by omega), Array.getElem?_setIfInBounds_ne (by omega), Array.getElem?_setIfInBounds_self_of_lt (by omega)]
 ·rw [cell_block h3, Array.getElem?_setIfInBounds_ne (by omega), Array.getElem?_setIfInBounds_self_of_lt (by simp; omega)]
 ·rw [cell_block h3, Array.getElem?_setIfInBounds_self_of_lt (by simp; omega)]
 ·rw [cell_block h3, cell_block h, Array.getElem?_setIfInBounds_ne (by omega), Array.getElem?_setIfInBounds_ne (by omega), Array.getElem?_setIfInBounds_ne (by omega)]
 ·rw [Below.heap_setCell _ _ _ _ hg, Below.heap_setCell _ _ _ _ hg, Below.heap_setCell _ _ _ _ hg]
set_option maxHeartbeats 4000000 in
theorem mark_any (w : World) : Calls Tryz.prog 31 #[] w fun r w' => r = .returned (elV markE) ∧ Below w.heap.size w w' := by
 go_enter Tryz.func31, Tryz.ntmps31
 go_wp2
 obtain ⟨q0, q1, q2⟩ := cells_new w (.int .i64 (-77)) (.string ⟨#[98, 101, 104, 105, 110, 100]⟩) (.slice none 0 0) 29
 refine bodyPost_ret (v := elV markE) (by simp [results, Tryz.results31, go_sem, q0, q1, q2]) rfl ?_
 exact ⟨rfl, (Below.refl _ _).alloc (Nat.le_refl _) _⟩
/-- Between the rounds of lent: z is the box of what came, z + 1 the result's, z + 2 the new one's, G the new row. -/
structure LeW (w wr : World) (z G d : Nat) (k : Int) (n : ByteArray) (v : Value) (ts : List (Tn d)) (j : Nat) : Prop where
 bel : Below z w wr
 box : wr.heap[z]? = some (.cells #[.int .i64 k, .string n, v] 29 (0, 0))
 res : wr.heap[z + 1]? = some (.cells #[.int .i64 0, .string ⟨#[]⟩, .slice none 0 0] 29 (0, 0))
 out : wr.heap[z + 2]? = some (.cells #[.int .i64 k, .string n, .slice none 0 0] 29 (0, 0))
 row : ∃ cur, wr.heap[G]? = some (.cells cur 29 (0, 0)) ∧ cur.size = (ts.length + 3) * 3
 gt : z + 2 < G
 els : ∃ E : Nat → El, (∀ i, i < j → wr.cell? ⟨G, i * 3, none⟩ = some (.int .i64 (E i).1) ∧ wr.cell? ⟨G, i * 3 + 1, none⟩ = some (.string (E i).2.1) ∧ wr.cell? ⟨G, i * 3 + 2, none⟩ = some (E i).2.2) ∧
  (∀ i (h : i < ts.length), i < j → TyL wr (fun g => G < g ∧ g < wr.heap.size) d (elV (E i)) ts[i]) ∧ ∀ i, ts.length ≤ i → i < j → E i = markE
theorem LeW.below {w wr w' : World} {z G d : Nat} {k : Int} {n : ByteArray} {v : Value} {ts : List (Tn d)} {j : Nat} (h : LeW w wr z G d k n v ts j) (hb : Below wr.heap.size wr w') : LeW w w' z G d k n v ts j := by
 obtain ⟨cur, hr, hs⟩ := h.row
 have hG := lt_of_heap hr
 have hgt := h.gt
 obtain ⟨E, h1, h2, h3⟩ := h.els
 refine ⟨h.bel.trans (hb.mono (by omega)), (hb.block _ (by omega)).trans h.box, (hb.block _ (by omega)).trans h.res, (hb.block _ (by omega)).trans h.out, ⟨cur, (hb.block _ hG).trans hr, hs⟩, hgt, E, fun i hi => ?_, fun i hi hij => ?_, h3⟩
 ·obtain ⟨a, b, c⟩ := h1 i hi
  exact ⟨(hb.cell (p := ⟨G, i * 3, none⟩) hG).trans a, (hb.cell (p := ⟨G, i * 3 + 1, none⟩) hG).trans b, (hb.cell (p := ⟨G, i * 3 + 2, none⟩) hG).trans c⟩
 ·exact TyL.on (fun g q => ⟨q.1, Nat.lt_of_lt_of_le q.2 hb.size⟩) (fun g q => hb.block g q.2) _ _ _ (h2 i hi hij)
/-- An element is written. -/
theorem LeW.put {w wr W : World} {z G d : Nat} {k : Int} {n : ByteArray} {v : Value} {ts : List (Tn d)} {j : Nat} (h : LeW w wr z G d k n v ts j) (hj : j < ts.length + 3) (e : El)
  (he : ∀ (h : j < ts.length), TyL wr (fun g => G < g ∧ g < wr.heap.size) d (elV e) ts[j]) (hm : ts.length ≤ j → e = markE) (hW : W = ((wr.setCell ⟨G, j * 3, none⟩ (.int .i64 e.1)).setCell ⟨G, j * 3 + 1, none⟩ (.string e.2.1)).setCell ⟨G, j * 3 + 2, none⟩ e.2.2) : LeW w W z G d k n v ts (j + 1) := by
 obtain ⟨cur, hr, hs⟩ := h.row
 obtain ⟨W', cur', hW', hr', hs', ⟨c0, c1, c2⟩, hfar, hoth, hsz, hb⟩ := store_at hr hs hj (.int .i64 e.1) (.string e.2.1) e.2.2
 rw [← hW'] at hW
 subst hW
 have hgt := h.gt
 obtain ⟨E, h1, h2, h3⟩ := h.els
 have mv : ∀ (x : Value) (t : Tn d), TyL wr (fun g => G < g ∧ g < wr.heap.size) d x t → TyL W (fun g => G < g ∧ g < W.heap.size) d x t := fun x t ht => TyL.on (fun g q => ⟨q.1, by rw [hsz]; exact q.2⟩) (fun g q => hoth g (by omega)) _ _ _ ht
 refine ⟨h.bel.trans (hb.mono (by omega)), (hoth z (by omega)).trans h.box, (hoth (z + 1) (by omega)).trans h.res, (hoth (z + 2) (by omega)).trans h.out, ⟨cur', hr', hs'⟩, hgt, fun i => if i = j then e else E i, fun i hi => ?_, fun i hi hij => ?_, fun i hi hij => ?_⟩
 ·by_cases q : i = j
  ·subst q
   simp only [if_pos]
   exact ⟨c0, c1, c2⟩
  ·simp only [if_neg q]
   obtain ⟨a, b, c⟩ := h1 i (by omega)
   exact ⟨(hfar _ (by omega)).trans a, (hfar _ (by omega)).trans b, (hfar _ (by omega)).trans c⟩
 ·by_cases q : i = j
  ·subst q
   simp only [if_pos]
   exact mv _ _ (he hi)
  ·simp only [if_neg q]
   exact mv _ _ (h2 i hi (by omega))
 ·by_cases q : i = j
  ·subst q
   simp only [if_pos]
   exact hm hi
  ·simp only [if_neg q]
   exact h3 i hi (by omega)
/-- An element that is to come is written over. -/
theorem LeW.spoil {w wr W : World} {z G d : Nat} {k : Int} {n : ByteArray} {v : Value} {ts : List (Tn d)} {j : Nat} (h : LeW w wr z G d k n v ts j) (hj : j < ts.length + 3) (a b c : Value)
  (hW : W = ((wr.setCell ⟨G, j * 3, none⟩ a).setCell ⟨G, j * 3 + 1, none⟩ b).setCell ⟨G, j * 3 + 2, none⟩ c) : LeW w W z G d k n v ts j := by
 obtain ⟨cur, hr, hs⟩ := h.row
 obtain ⟨W', cur', hW', hr', hs', _, hfar, hoth, hsz, hb⟩ := store_at hr hs hj a b c
 rw [← hW'] at hW
 subst hW
 have hgt := h.gt
 obtain ⟨E, h1, h2, h3⟩ := h.els
 refine ⟨h.bel.trans (hb.mono (by omega)), (hoth z (by omega)).trans h.box, (hoth (z + 1) (by omega)).trans h.res, (hoth (z + 2) (by omega)).trans h.out, ⟨cur', hr', hs'⟩, hgt, E, fun i hi => ?_, fun i hi hij => ?_, h3⟩
 ·obtain ⟨a, b, c⟩ := h1 i hi
  exact ⟨(hfar _ (by omega)).trans a, (hfar _ (by omega)).trans b, (hfar _ (by omega)).trans c⟩
 ·exact TyL.on (fun g q => ⟨q.1, by rw [hsz]; exact q.2⟩) (fun g q => hoth g (by omega)) _ _ _ (h2 i hi hij)
/-- The cells of an element that is to come. -/
theorem LeW.cells {w wr : World} {z G d : Nat} {k : Int} {n : ByteArray} {v : Value} {ts : List (Tn d)} {j : Nat} (h : LeW w wr z G d k n v ts j) {i : Nat} (hi : i < ts.length + 3) : (∃ a b c, wr.cell? ⟨G, i * 3, none⟩ = some a ∧ wr.cell? ⟨G, i * 3 + 1, none⟩ = some b ∧ wr.cell? ⟨G, i * 3 + 2, none⟩ = some c) ∧ ∀ x, wr.frozen? ⟨G, x, none⟩ = false := by
 obtain ⟨cur, hr, hs⟩ := h.row
 exact ⟨⟨cur[i * 3], cur[i * 3 + 1], cur[i * 3 + 2], (cell_block hr).trans (Array.getElem?_eq_getElem (by omega)), (cell_block hr).trans (Array.getElem?_eq_getElem (by omega)), (cell_block hr).trans (Array.getElem?_eq_getElem (by omega))⟩, fun x => frozen_block hr⟩
/-- Three boxes, side by side. -/
theorem boxes3 (w : World) (c0 c1 c2 : Array Value) (t : TypeId) : ∃ W, W = ((w.alloc (Obj.cells c0 t)).alloc (Obj.cells c1 t)).alloc (Obj.cells c2 t) ∧ Below w.heap.size w W ∧ W.heap.size = w.heap.size + 3 ∧ W.heap[w.heap.size]? = some (.cells c0 t (0, 0)) ∧ W.heap[w.heap.size + 1]? = some (.cells c1 t (0, 0)) ∧ W.heap[w.heap.size + 2]? = some (.cells c2 t (0, 0)) := by
 refine ⟨_, rfl, (((Below.refl _ _).alloc (Nat.le_refl _) _).alloc (by simp) _).alloc (by simp; omega) _, by simp, ?_, ?_, ?_⟩
 ·rw [Below.heap_alloc _ _ _ (by simp; omega), Below.heap_alloc _ _ _ (by simp)]
  show (w.heap.push _)[w.heap.size]? = _
  simp
 ·rw [Below.heap_alloc _ _ _ (by simp)]
  show ((w.heap.push _).push _)[w.heap.size + 1]? = _
  rw [Array.getElem?_push, if_pos (by simp)]
 ·show (((w.heap.push _).push _).push _)[w.heap.size + 2]? = _
  rw [Array.getElem?_push, if_pos (by simp)]
theorem flats_many {d : Nat} : ∀ ts : List (Tn d), ts.length ≤ (flats d ts).length
 | [] => by simp
 | t :: ts => by
  rw [flats_cons, List.length_cons, List.length_append]
  have := flats_many ts
  have := flat_pos d t
  omega
/-- What lent answers. -/
def LePost (w : World) (d : Nat) (t : Tn d) (r : Ending) (w' : World) : Prop := Below w.heap.size w w' ∧ ∃ (k : Int) (n : ByteArray) (ad : Option Addr) (len cap : Nat), r = .returned (.agg #[.int .i64 k, .string n, .slice ad len cap]) ∧ TyL w' (fun g => w.heap.size ≤ g ∧ g < w'.heap.size) d (.agg #[.int .i64 k, .string n, .slice ad len cap]) t
set_option maxHeartbeats 8000000 in
set_option maxRecDepth 10000 in
theorem lent_step (d : Nat) (IH : ∀ (x : Value) (t : Tn d) (w : World) (B : Nat), B ≤ w.heap.size → TyAt w B d x t → (flat d t).length ≤ 4194304 → Calls Tryz.prog 32 #[x] w (LePost w d t)) : ∀ (x : Value) (t : Tn (d + 1)) (w : World) (B : Nat), B ≤ w.heap.size → TyAt w B (d + 1) x t → (flat (d + 1) t).length ≤ 4194304 → Calls Tryz.prog 32 #[x] w (LePost w (d + 1) t)
 | x, ((k, n), ts), w, B, hB, ⟨v, hx, h1, h2, h⟩, hN => by
  have hN : (flats d ts).length + 1 ≤ 4194304 := hN
  have hmany := flats_many ts
  obtain ⟨i0, hi, hz0, hz1, hz2⟩ := info_parts Tryz.info29
  simp only at hx h1 h2 h
  subst hx
  obtain ⟨ad, cap, rfl, hrow⟩ := h.cells
  by_cases h0 : ts = []
  ·subst h0
   clear IH h hrow
   show Calls Tryz.prog 32 #[.agg #[.int .i64 k, .string ⟨n.toArray⟩, .slice ad 0 cap]] w _
   obtain ⟨W, hW, hbW, hsW, b0, b1, b2⟩ := boxes3 w #[.int .i64 k, .string ⟨n.toArray⟩, .slice ad 0 cap] #[.int .i64 0, .string ⟨#[]⟩, .slice none 0 0] #[.int .i64 k, .string ⟨n.toArray⟩, .slice none 0 0] 29
   go_enter Tryz.func32, Tryz.ntmps32
   go_upto_region 2 with fail
   rw [← hW]
   generalize hz : w.heap.size = z at b0 b1 b2 hbW ⊢
   have HZ : Hid (w.heap.size = z) := hz
   clear hW hz
   obtain ⟨p0, p1, p2⟩ := heap_cells b0
   obtain ⟨q0, q1, q2⟩ := heap_cells b1
   obtain ⟨r0, r1, r2⟩ := heap_cells b2
   have g0 := heap_frozen (o := 0) b1
   have g1 := heap_frozen (o := 1) b1
   have g2 := heap_frozen (o := 2) b1
   go_wp2
   obtain ⟨W', hW', hz', hoth, hsz, hbz'⟩ := store3 b1 (.int .i64 k) (.string ⟨n.toArray⟩) (.slice none 0 0)
   rw [← hW']
   obtain ⟨s0, s1, s2⟩ := heap_cells hz'
   refine bodyPost_ret (v := .agg #[.int .i64 k, .string ⟨n.toArray⟩, .slice none 0 0]) (by simp [results, Tryz.results32, go_sem, s0, s1, s2]) rfl ?_
   exact ⟨by rw [HZ.out]; exact hbW.trans (hbz'.mono (by omega)), k, _, none, 0, 0, rfl, _, rfl, h1, by simp, .inl ⟨rfl, rfl⟩⟩
  ·obtain ⟨g, o, rfl, hcap, hg, hel⟩ := hrow h0
   have hpos : 0 < ts.length := List.length_pos_iff.2 h0
   have hne : ¬ (ts.length : Int) = 0 := by omega
   have hneb : ((ts.length : Int) == 0) = false := by rw [beq_eq_false_iff_ne]; exact hne
   have HE : Hid (∀ j (h : j < ts.length), ∃ k n ad' len' cap', (∀ w', Below B w w' → w'.cell? ⟨g, o + j * 3, none⟩ = some (.int .i64 k) ∧ w'.cell? ⟨g, o + j * 3 + 1, none⟩ = some (.string n) ∧ w'.cell? ⟨g, o + j * 3 + 2, none⟩ = some (.slice ad' len' cap')) ∧ TyAt w B d (.agg #[.int .i64 k, .string n, .slice ad' len' cap']) ts[j]) := hel
   have h0' := h0
   clear h hrow hel h0
   obtain ⟨W, hW, hbW, hsW, b0, b1, b2⟩ := boxes3 w #[.int .i64 k, .string ⟨n.toArray⟩, .slice (some ⟨g, o, none⟩) ts.length cap] #[.int .i64 0, .string ⟨#[]⟩, .slice none 0 0] #[.int .i64 k, .string ⟨n.toArray⟩, .slice none 0 0] 29
   have HB : Hid (B ≤ w.heap.size) := hB
   go_enter Tryz.func32, Tryz.ntmps32
   go_upto_region 2 with fail
   rw [← hW]
   generalize hz : w.heap.size = z at b0 b1 b2 hbW hsW ⊢
   have HZ : Hid (w.heap.size = z) := hz
   clear hW hz hB
   obtain ⟨p0, p1, p2⟩ := heap_cells b0
   have hb48 : i0.bytes * (ts.length + 3) ≤ 281474976710656 := by rw [hz2]; omega
   go_wp2_with (refine wpList_make_room _ rfl _ _ 27 rfl 29 i0 _ 3 Tryz.underlying27 hi hz0 hz1 .i64 .i64 ((ts.length : Int) + 3) ((ts.length : Int) + 3) (ts.length + 3) (ts.length + 3) rfl rfl (by omega) (by omega) (Nat.le_refl _) hb48 (by unfold maxLen; omega) ?_; intro w' G hG hsz' hbG hcur)
   have HG : Hid (G = z + 3) := by show G = z + 3; omega
   have T0 : LeW w w' z G d k ⟨n.toArray⟩ (.slice (some ⟨g, o, none⟩) ts.length cap) ts 0 := by
    have hb1 := hbW.trans (hbG.mono (by omega))
    exact ⟨hb1, (hbG.block _ (by omega)).trans b0, (hbG.block _ (by omega)).trans b1, (hbG.block _ (by omega)).trans b2, hcur, by have := HG.out; omega, fun _ => markE, fun i hi => by omega, fun i _ hi => by omega, fun i _ hi => by omega⟩
   clear hcur hbG hsz' hG b0 b1 b2 hbW hsW p0 p1 p2
   have hGz := HG.out
   subst hGz
   clear HG
   go_loopw [5] (fun iv wr => ∃ j : Nat, j ≤ ts.length + 3 ∧ iv = .int .i64 j ∧ LeW w wr z (z + 3) d k ⟨n.toArray⟩ (.slice (some ⟨g, o, none⟩) ts.length cap) ts j) (fun iv _ => ts.length + 3 - (intOf iv).toNat)
   case atStart => exact ⟨0, by omega, by go_num, T0⟩
   case round =>
    obtain ⟨j, hj, rfl, T⟩ := hrel
    clear T0
    have hjb : (j : Int) ≤ 5000000 := by omega
    have j0 : (0 : Int) ≤ (j : Int) := by omega
    by_cases hlt : j < ts.length + 3
    ·have hlt' : (j : Int) < (ts.length : Int) + 3 := by omega
     have hlt2 : (j : Int) < ((ts.length + 3 : Nat) : Int) := by omega
     have M1 := mark_any wr
     by_cases hin : j < ts.length
     ·have hin' : (j : Int) < (ts.length : Int) := by omega
      obtain ⟨k1, n1, ad1, l1, cp1, hcel, T1⟩ := HE.out j hin
      have HT1 : Hid (TyAt w B d (.agg #[.int .i64 k1, .string n1, .slice ad1 l1 cp1]) ts[j]) := T1
      have hfl := flat_le hin
      clear T1
      go_upto_region 9 with (first
       | (go_at_call 31; (with_reducible refine Calls.mono M1 ?_); rintro e' w1 ⟨rfl, hb1⟩; have T1 := T.below hb1; obtain ⟨⟨x0, x1, x2, y0, y1, y2⟩, fz⟩ := T1.cells hlt; have f0 := fz (j * 3); have f1 := fz (j * 3 + 1); have f2 := fz (j * 3 + 2); clear fz))
      obtain ⟨W2, hW2⟩ : ∃ W2, W2 = ((w1.setCell ⟨z + 3, j * 3, none⟩ (.int .i64 (-77))).setCell ⟨z + 3, j * 3 + 1, none⟩ (.string ⟨#[98, 101, 104, 105, 110, 100]⟩)).setCell ⟨z + 3, j * 3 + 2, none⟩ (.slice none 0 0) := ⟨_, rfl⟩
      have T2 := T1.spoil hlt _ _ _ hW2
      rw [← hW2]
      clear hW2 T1 T y0 y1 y2 f0 f1 f2 M1 hb1
      obtain ⟨p0, p1, p2⟩ := heap_cells T2.box
      have hzB : B ≤ z := by have := HB.out; have := HZ.out; omega
      obtain ⟨c0, c1, c2⟩ := hcel W2 (T2.bel.mono hzB)
      have hzW : z ≤ W2.heap.size := by have := lt_of_heap T2.box; omega
      have CJ := IH _ _ W2 B (by omega) (HT1.out.on (T2.bel.mono hzB)) (by omega)
      have hjl : j + 1 ≤ ts.length + 3 := hlt
      clear hcel HT1 hfl
      go_wp2_with (first
       | (go_at_call 32; (with_reducible refine Calls.mono CJ ?_); intro e' w3 hpost; obtain ⟨hb3, k3, n3, ad3, l3, c3', rfl, L3⟩ := hpost; have T3 := T2.below hb3; obtain ⟨⟨x0, x1, x2, y0, y1, y2⟩, fz⟩ := T3.cells hlt; have f0 := fz (j * 3); have f1 := fz (j * 3 + 1); have f2 := fz (j * 3 + 2); clear fz))
      have hGlt : z + 3 < W2.heap.size := by obtain ⟨cur, hr, _⟩ := T2.row; exact lt_of_heap hr
      have T4 := T3.put hlt (k3, n3, .slice ad3 l3 c3') (fun h => TyL.on (S := fun g => W2.heap.size ≤ g ∧ g < w3.heap.size) (fun g q => ⟨by omega, q.2⟩) (fun _ _ => rfl) _ _ _ L3) (fun h => by omega) rfl
      go_roundw
      case rel => exact ⟨j + 1, hjl, by go_num, T4⟩
      case measure => simp [intOf]; omega
     ·have hin' : ¬ (j : Int) < (ts.length : Int) := by omega
      have hjl : j + 1 ≤ ts.length + 3 := hlt
      clear IH
      go_upto_region 9 with (first
       | (go_at_call 31; (with_reducible refine Calls.mono M1 ?_); rintro e' w1 ⟨rfl, hb1⟩; have T1 := T.below hb1; obtain ⟨⟨x0, x1, x2, y0, y1, y2⟩, fz⟩ := T1.cells hlt; have f0 := fz (j * 3); have f1 := fz (j * 3 + 1); have f2 := fz (j * 3 + 2); clear fz))
      obtain ⟨W2, hW2⟩ : ∃ W2, W2 = ((w1.setCell ⟨z + 3, j * 3, none⟩ (.int .i64 (-77))).setCell ⟨z + 3, j * 3 + 1, none⟩ (.string ⟨#[98, 101, 104, 105, 110, 100]⟩)).setCell ⟨z + 3, j * 3 + 2, none⟩ (.slice none 0 0) := ⟨_, rfl⟩
      have T2 := T1.put hlt markE (fun h => absurd h hin) (fun _ => rfl) hW2
      rw [← hW2]
      clear hW2 T1 T y0 y1 y2 f0 f1 f2 M1 hb1
      obtain ⟨p0, p1, p2⟩ := heap_cells T2.box
      go_wp2
      go_roundw
      case rel => exact ⟨j + 1, hjl, by go_num, T2⟩
      case measure => simp [intOf]; omega
    ·have ej : j = ts.length + 3 := by omega
     have hlt2 : ¬ (j : Int) < (ts.length : Int) + 3 := by omega
     have hlt3 : ¬ (j : Int) < ((ts.length + 3 : Nat) : Int) := by omega
     obtain ⟨p0, p1, p2⟩ := heap_cells T.box
     obtain ⟨q0, q1, q2⟩ := heap_cells T.out
     have fq := heap_frozen (o := 2) T.out
     obtain ⟨r0, r1, r2⟩ := heap_cells T.res
     have g0 := heap_frozen (o := 0) T.res
     have g1 := heap_frozen (o := 1) T.res
     have g2 := heap_frozen (o := 2) T.res
     have HT : Hid (LeW w wr z (z + 3) d k ⟨n.toArray⟩ (.slice (some ⟨g, o, none⟩) ts.length cap) ts j) := T
     have EJ : Hid (j = ts.length + 3) := ej
     have s1 : (0 : Int) ≤ (ts.length : Int) := by omega
     have s2 : (ts.length : Int) ≤ ((ts.length + 3 : Nat) : Int) := by omega
     have s3 : (ts.length : Int) ≤ (ts.length : Int) + 3 := by omega
     clear IH T ej
     go_wp2
     have hT := HT.out
     obtain ⟨W1, hW1⟩ : ∃ W1, W1 = wr.setCell ⟨z + 1 + 1, 2, none⟩ (.slice (some ⟨z + 3, 0, none⟩) ts.length (ts.length + 3)) := ⟨_, rfl⟩
     rw [← hW1]
     have hot1 : ∀ b, b ≠ z + 2 → W1.heap[b]? = wr.heap[b]? := fun b hb => by rw [hW1]; exact Below.heap_setCell _ _ _ _ hb
     have hsz1 : W1.heap.size = wr.heap.size := by rw [hW1]; simp [World.setCell]
     have hbe1 : Below z wr W1 := by rw [hW1]; exact (Below.refl z wr).setCell (by show z ≤ z + 1 + 1; omega) _
     obtain ⟨W', hW', hz', hoth, hsz, hbz'⟩ := store3 ((hot1 (z + 1) (by omega)).trans hT.res) (.int .i64 k) (.string ⟨n.toArray⟩) (.slice (some ⟨z + 3, 0, none⟩) ts.length (ts.length + 3))
     rw [← hW']
     obtain ⟨s0, s1', s2'⟩ := heap_cells hz'
     refine bodyPost_ret (v := .agg #[.int .i64 k, .string ⟨n.toArray⟩, .slice (some ⟨z + 3, 0, none⟩) ts.length (ts.length + 3)]) (by simp [results, Tryz.results32, go_sem, s0, s1', s2']) rfl ?_
     have hall : ∀ b, b ≠ z + 1 → b ≠ z + 2 → W'.heap[b]? = wr.heap[b]? := fun b h1 h2 => (hoth b h1).trans (hot1 b h2)
     have hszW : W'.heap.size = wr.heap.size := hsz.trans hsz1
     have hGl : z + 3 < wr.heap.size := by obtain ⟨cur, hr, _⟩ := hT.row; exact lt_of_heap hr
     obtain ⟨E, e1, e2, e3⟩ := hT.els
     have hj' := EJ.out
     refine ⟨by rw [HZ.out]; exact (hT.bel.trans hbe1).trans (hbz'.mono (by omega)), k, _, _, _, _, rfl, _, rfl, h1, h2, .inr ⟨h0', z + 3, E, rfl, ⟨by rw [HZ.out]; omega, by omega⟩, fun i hi => ?_, fun i hi => ?_, fun i h4 h5 => e3 i h4 (by have h5 : i < ts.length + 3 := h5; omega)⟩⟩
     ·obtain ⟨a, b, c⟩ := e1 i (by have hi : i < ts.length + 3 := hi; omega)
      have ec : ∀ x, W'.cell? ⟨z + 3, x, none⟩ = wr.cell? ⟨z + 3, x, none⟩ := fun x => World.cell?_of_block (w := wr) (a := ⟨z + 3, x, none⟩) (hall (z + 3) (by omega) (by omega))
      exact ⟨(ec _).trans a, (ec _).trans b, (ec _).trans c⟩
     ·have hi : i < ts.length := hi
      exact TyL.on (S := fun g => z + 3 < g ∧ g < wr.heap.size) (fun g q => ⟨by rw [HZ.out]; omega, by omega⟩) (fun g q => hall g (by omega) (by omega)) _ _ _ (e2 i hi (by omega))
theorem lent_any : ∀ (d : Nat) (x : Value) (t : Tn d) (w : World) (B : Nat), B ≤ w.heap.size → TyAt w B d x t → (flat d t).length ≤ 4194304 → Calls Tryz.prog 32 #[x] w (LePost w d t)
 | 0, _, _, _, _, _, h, _ => h.elim
 | d + 1, x, t, w, B, hB, h, hN => lent_step d (lent_any d) x t w B hB h hN
end Go.Proofs.YtikpipenhamdbaaGreat

namespace Go.Proofs.YtikpipenhamdbaaGreat
open Go.RowKit

set_option maxHeartbeats 8000000 in
set_option maxRecDepth 10000 in
theorem kept_step (d : Nat) (IH : ∀ (x y : Value) (t : Tn d) (w : World) (B : Nat), B ≤ w.heap.size → TyL w (fun g => g < B) d x t → TyAt w B d y t → Calls Tryz.prog 34 #[x, y] w fun r w' => r = .returned (.bool true) ∧ Below w.heap.size w w') : ∀ (x y : Value) (t : Tn (d + 1)) (w : World) (B : Nat), B ≤ w.heap.size → TyL w (fun g => g < B) (d + 1) x t → TyAt w B (d + 1) y t → Calls Tryz.prog 34 #[x, y] w fun r w' => r = .returned (.bool true) ∧ Below w.heap.size w w'
 | x, y, ((k, n), ts), w, B, hB, ⟨u, hx, _, _, hL⟩, ⟨v, hy, h1, h2, h⟩ => by
  simp only at hx hy h1 h2 h hL
  subst hx hy
  obtain ⟨ad, cap, rfl, hrow⟩ := h.cells
  have hb : ∀ o o', Below w.heap.size w ((w.alloc o).alloc o') := fun o o' => ((Below.refl _ _).alloc (Nat.le_refl _) o).alloc (by simp) o'
  rcases hL with ⟨h0, rfl⟩ | ⟨h0, G, E, rfl, hG, hcel, htr, hmk⟩
  ·subst h0
   clear IH h hrow h2
   show Calls Tryz.prog 34 #[.agg #[.int .i64 k, .string ⟨n.toArray⟩, .slice none 0 0], .agg #[.int .i64 k, .string ⟨n.toArray⟩, .slice ad 0 cap]] w _
   go_enter Tryz.func34, Tryz.ntmps34
   go_wp2
   go_ret
   exact ⟨rfl, hb _ _⟩
  ·obtain ⟨g, o, rfl, hcap, hg, hel⟩ := hrow h0
   have hpos : 0 < ts.length := List.length_pos_iff.2 h0
   have hne : ¬ (ts.length : Int) = 0 := by omega
   have hneb : ((ts.length : Int) == 0) = false := by rw [beq_eq_false_iff_ne]; exact hne
   have HE : Hid (∀ j (h : j < ts.length), ∃ k n ad' len' cap', (∀ w', Below B w w' → w'.cell? ⟨g, o + j * 3, none⟩ = some (.int .i64 k) ∧ w'.cell? ⟨g, o + j * 3 + 1, none⟩ = some (.string n) ∧ w'.cell? ⟨g, o + j * 3 + 2, none⟩ = some (.slice ad' len' cap')) ∧ TyAt w B d (.agg #[.int .i64 k, .string n, .slice ad' len' cap']) ts[j]) := hel
   have HL : Hid ((∀ j, j < ts.length + 3 → w.cell? ⟨G, j * 3, none⟩ = some (.int .i64 (E j).1) ∧ w.cell? ⟨G, j * 3 + 1, none⟩ = some (.string (E j).2.1) ∧ w.cell? ⟨G, j * 3 + 2, none⟩ = some (E j).2.2) ∧ (∀ j (h : j < ts.length), TyL w (fun g => g < B) d (elV (E j)) ts[j]) ∧ ∀ j, ts.length ≤ j → j < ts.length + 3 → E j = markE) := ⟨hcel, htr, hmk⟩
   have HB : Hid (B ≤ w.heap.size) := hB
   have HGB : Hid (G < B ∧ g < B) := ⟨hG, hg⟩
   obtain ⟨W, hW, hbW, hsW, b0, b1, b2, c0, c1, c2⟩ := cells_boxes w (.int .i64 k) (.string ⟨n.toArray⟩) (.slice (some ⟨G, 0, none⟩) ts.length (ts.length + 3)) (.int .i64 k) (.string ⟨n.toArray⟩) (.slice (some ⟨g, o, none⟩) ts.length cap) 29
   have HW : Hid (Below w.heap.size w W) := hbW
   have HS : Hid (W.heap.size = w.heap.size + 2) := hsW
   have i3 : (0 : Int) ≤ (ts.length : Int) + 3 := by omega
   have i4 : (ts.length : Int) + 3 ≤ ((ts.length + 3 : Nat) : Int) := by omega
   clear hel hcel htr hmk h hrow hB hG hg h0 hb
   go_enter Tryz.func34, Tryz.ntmps34
   go_upto_region 1 with fail
   rw [← hW]
   generalize hz : w.heap.size = z at b0 b1 b2 c0 c1 c2 ⊢
   have HZ : Hid (w.heap.size = z) := hz
   clear hW hbW hsW hz
   go_wp2
   go_loopw [6] (fun i wr => ∃ j : Nat, j ≤ ts.length + 3 ∧ i = .int .i64 j ∧ Below (z + 2) W wr) (fun i _ => ts.length + 3 - (intOf i).toNat)
   case atStart => exact ⟨0, by omega, by go_num, Below.refl _ _⟩
   case round =>
    obtain ⟨j, hj, rfl, hbel⟩ := hrel
    have hjb : (j : Int) ≤ 200000000000000 := by omega
    have j0 : (0 : Int) ≤ (j : Int) := by omega
    have hzB : B ≤ z := by have := HB.out; have := HZ.out; omega
    have hwz : Below z w wr := by
     have := HW.out
     rw [HZ.out] at this
     exact this.trans (hbel.mono (by omega))
    have y2 := (hbel.cell (p := ⟨z + 1, 2, none⟩) (by simp)).trans c2
    have hzr : z + 2 ≤ wr.heap.size := by have := hbel.size; have := HS.out; have := HZ.out; omega
    by_cases hlt : j < ts.length + 3
    ·have hlt' : (j : Int) < (ts.length : Int) + 3 := by omega
     have hlt2 : (j : Int) < ((ts.length + 3 : Nat) : Int) := by omega
     have hjl : j + 1 ≤ ts.length + 3 := hlt
     obtain ⟨q0, q1, q2⟩ := HL.out.1 j hlt
     have hGz : G < z := by have := HGB.out; omega
     rw [← hwz.cell (p := ⟨G, j * 3, none⟩) hGz] at q0
     rw [← hwz.cell (p := ⟨G, j * 3 + 1, none⟩) hGz] at q1
     rw [← hwz.cell (p := ⟨G, j * 3 + 2, none⟩) hGz] at q2
     by_cases hin : j < ts.length
     ·have hin' : (j : Int) < (ts.length : Int) := by omega
      obtain ⟨k1, n1, ad1, l1, cp1, hcel, T1⟩ := HE.out j hin
      obtain ⟨p0, p1, p2⟩ := hcel wr (hwz.mono hzB)
      have TL := HL.out.2.1 j hin
      obtain ⟨ad2, l2, cp2, hsl⟩ := TL.slice
      have CJ : ∀ W', Below z w W' → z ≤ W'.heap.size → Calls Tryz.prog 34 #[elV (E j), .agg #[.int .i64 k1, .string n1, .slice ad1 l1 cp1]] W' fun r w' => r = .returned (.bool true) ∧ Below W'.heap.size W' w' :=
       fun W' hb' hs' => IH _ _ _ W' B (by omega) (TyL.on (fun g q => q) (fun g q => hb'.block g (by have q : g < B := q; omega)) _ _ _ TL) (T1.on (hb'.mono hzB))
      unfold elV at CJ
      rw [hsl] at q2 CJ
      generalize (E j).1 = k2 at q0 CJ
      generalize (E j).2.1 = n2 at q1 CJ
      clear hcel T1 TL hsl IH b0 b1 b2 c0 c1 c2
      go_upto_region 9 with fail
      go_cut [7] from 40 to 76 (fun b wc => (∃ bb : Bool, b = .bool bb) ∧ wc = wr)
      case first =>
       by_cases hk : k2 = -77
       ·subst hk
        by_cases hn : n2.toList = [98, 101, 104, 105, 110, 100]
        ·go_wp2
         go_meet
         exact ⟨⟨_, rfl⟩, rfl⟩
        ·have hnb : (n2.toList == [98, 101, 104, 105, 110, 100]) = false := by simpa using hn
         go_wp2
         go_meet
         exact ⟨⟨_, rfl⟩, rfl⟩
       ·have hkb : (k2 == -77) = false := by simpa using hk
        go_wp2
        go_meet
        exact ⟨⟨_, rfl⟩, rfl⟩
      case rest =>
       obtain ⟨⟨bb, rfl⟩, hwc⟩ := hcut
       subst hwc
       go_wp2
       go_region_held3 (fun w' => w'.cell? ⟨z + 1, 2, none⟩ = some (.slice (some ⟨g, o, none⟩) ts.length cap) ∧ (w'.cell? ⟨g, o + j * 3, none⟩ = some (.int .i64 k1) ∧ w'.cell? ⟨g, o + j * 3 + 1, none⟩ = some (.string n1) ∧ w'.cell? ⟨g, o + j * 3 + 2, none⟩ = some (.slice ad1 l1 cp1)) ∧ w'.cell? ⟨G, j * 3, none⟩ = some (.int .i64 k2) ∧ w'.cell? ⟨G, j * 3 + 1, none⟩ = some (.string n2) ∧ w'.cell? ⟨G, j * 3 + 2, none⟩ = some (.slice ad2 l2 cp2)) (first | exact ⟨y2, ⟨p0, p1, p2⟩, q0, q1, q2⟩ | assumption | (have hk : ∀ p : Addr, p.block < wc.heap.size → w1.cell? p = wc.cell? p := fun p hp => hb1.cell hp; have hgg := HGB.out; exact ⟨(hk _ (by simp; omega)).trans y2, ⟨(hk _ (by simp; omega)).trans p0, (hk _ (by simp; omega)).trans p1, (hk _ (by simp; omega)).trans p2⟩, (hk _ (by simp; omega)).trans q0, (hk _ (by simp; omega)).trans q1, (hk _ (by simp; omega)).trans q2⟩) | go_keep)
        (first | (go_at_call 34; (with_reducible refine Calls.mono (CJ _ ?_ ?_) ?_); exact hwz.drew; (show z ≤ wc.heap.size; omega); rintro e' w1 ⟨rfl, hb1⟩))
       all_goals
        have hb2 : Below (z + 2) W w1 := hbel.drew.trans (hb1.mono hzr)
        clear hb1 CJ
        go_wp2
        go_roundw
        case rel => exact ⟨j + 1, hjl, by go_num, hb2⟩
        case measure => simp [intOf]; omega
     ·have hin' : ¬ (j : Int) < (ts.length : Int) := by omega
      have hmk := HL.out.2.2 j (by omega) hlt
      rw [hmk] at q0 q1 q2
      clear IH b0 b1 b2 c0 c1 c2 hmk
      go_wp2
      go_roundw
      case rel => exact ⟨j + 1, hjl, by go_num, hbel⟩
      case measure => simp [intOf]; omega
    ·have hlt2 : ¬ (j : Int) < (ts.length : Int) + 3 := by omega
     clear IH
     go_wp2
     go_ret
     exact ⟨rfl, by have h := HW.out; rw [HZ.out] at h ⊢; exact h.trans (hbel.mono (by omega))⟩
theorem kept_any : ∀ (d : Nat) (x y : Value) (t : Tn d) (w : World) (B : Nat), B ≤ w.heap.size → TyL w (fun g => g < B) d x t → TyAt w B d y t → Calls Tryz.prog 34 #[x, y] w fun r w' => r = .returned (.bool true) ∧ Below w.heap.size w w'
 | 0, _, _, _, _, _, _, h, _ => h.elim
 | d + 1, x, y, t, w, B, hB, h, h' => kept_step d (kept_any d) x y t w B hB h h'
end Go.Proofs.YtikpipenhamdbaaGreat
