/- The reference's reading of a type: contract of rest, over that of read. The reference's reading of a type: contract of read. -/
import Derived.Test.YtgdflaapgfpdeaaGreatDoorMlx
import Derived.Test.YtgdflaapgfpdeaaGreatDoorOw
import Derived.Test.YtgdflaapgfpdeaaGreatDoorMhx
namespace Go.Proofs.YtgdflaapgfpdeaaGreatDoor
open Go.RowKit

/-- A type was read: it is the text's beginning. -/
def RdOk (w w' : World) (l : List UInt8) (k m : Nat) (x : Value) (n : Int) : Prop := ∃ (t : Tn m) (r : List UInt8), formB m t = true ∧ l = textT m t ++ r ∧ (Leaf m t → Ends r) ∧ n = (k + (textT m t).length : Nat) ∧ TyS w' (fun g => w.heap.size ≤ g ∧ g < w'.heap.size) m x t
/-- No type is the text's beginning. -/
def RdNo (l : List UInt8) : Prop := ∀ d (t : Tn d) r, formB d t = true → l = textT d t ++ r → (Leaf d t → Ends r) → False
def RdPost (w : World) (l : List UInt8) (k m : Nat) (r : Ending) (w' : World) : Prop :=
  Below w.heap.size w w' ∧ ∃ (kd : Int) (nm : ByteArray) (ad : Option Addr) (len cap : Nat) (n : Int) (ok : Bool), r = .returned (.tuple #[.agg #[.int .i64 kd, .string nm, .slice ad len cap], .int .i64 n, .bool ok]) ∧
    ((ok = true ∧ RdOk w w' l k m (.agg #[.int .i64 kd, .string nm, .slice ad len cap]) n) ∨ (ok = false ∧ RdNo l))
/-- The arguments of a data type were read, and the bracket behind them. -/
def RtOk (w w' : World) (l name : List UInt8) (k m : Nat) (x : Value) (n : Int) : Prop := ∃ (ts : List (Tn m)) (r : List UInt8), ts ≠ [] ∧ ts.length ≤ 6 ∧ (∀ a ∈ ts, formB m a = true) ∧ l = argsT m ts ++ 41 :: r ∧ n = (k + (argsT m ts).length + 1 : Nat) ∧ TyS w' (fun g => w.heap.size ≤ g ∧ g < w'.heap.size) (m + 1) x ((4, name), ts)
def RtNo (l : List UInt8) : Prop := ∀ d (ts : List (Tn d)) r, ts ≠ [] → ts.length ≤ 6 → (∀ a ∈ ts, formB d a = true) → l = argsT d ts ++ 41 :: r → False
def RtPost (w : World) (l name : List UInt8) (k m : Nat) (r : Ending) (w' : World) : Prop :=
  Below w.heap.size w w' ∧ ∃ (kd : Int) (nm : ByteArray) (ad : Option Addr) (len cap : Nat) (n : Int) (ok : Bool), r = .returned (.tuple #[.agg #[.int .i64 kd, .string nm, .slice ad len cap], .int .i64 n, .bool ok]) ∧
    ((ok = true ∧ RtOk w w' l name k m (.agg #[.int .i64 kd, .string nm, .slice ad len cap]) n) ∨ (ok = false ∧ RtNo l))
/-- Between the rounds of rest: what was read so far. -/
structure RtW (w wr : World) (z m k k' : Nat) (s : ByteArray) (name : List UInt8) (v : Value) (es : List El) (ts : List (Tn m)) : Prop where
  bel : Below z w wr
  res : wr.heap[z]? = some (.cells #[.int .i64 0, .string ⟨#[]⟩, .slice none 0 0] 24 (0, 0))
  box : wr.heap[z + 1]? = some (.cells #[.int .i64 4, .string ⟨name.toArray⟩, v] 24 (0, 0))
  row : RowM wr (z + 2) m v es ts
  le : k ≤ k' ∧ k' ≤ s.size
  txt : rs s k = argsT m ts ++ rs s k' ∧ k' = k + (argsT m ts).length
  frm : ∀ a ∈ ts, formB m a = true
  inv : ∀ d (us : List (Tn d)) r, (∀ a ∈ us, formB d a = true) → rs s k = argsT d us ++ 41 :: r → ∃ vs : List (Tn d), (∀ a ∈ vs, formB d a = true) ∧ rs s k' = argsT d vs ++ 41 :: r ∧ us.length = ts.length + vs.length
theorem heap_lt {w : World} {b : Nat} {o : Obj} (h : w.heap[b]? = some o) : b < w.heap.size := by
  rcases Nat.lt_or_ge b w.heap.size with hlt | hge
  · exact hlt
  · rw [Array.getElem?_eq_none hge] at h; cases h
theorem args_long {d : Nat} : ∀ ts : List (Tn d), ts.length ≤ (argsT d ts).length
  | [] => by simp
  | t :: ts => by
    have := args_long ts
    rw [argsT_cons]
    simp
    omega
theorem argsT_snoc {d : Nat} (ts : List (Tn d)) (t : Tn d) : argsT d (ts ++ [t]) = argsT d ts ++ 32 :: textT d t := by simp [argsT]
/-- One argument more was read, and laid behind the others. -/
theorem RtW.more {w wr w1 U w5 : World} {z m k k' : Nat} {s : ByteArray} {name : List UInt8} {v : Value} {es : List El} {ts : List (Tn m)} (T : RtW w wr z m k k' s name v es ts) {kd : Int} {nm : ByteArray} {ad : Option Addr} {len cap : Nat} {n : Int}
    (hb : begB [32] (rs s k') = true) (hb1 : Below wr.heap.size wr w1) (R : RdOk wr w1 (rs s (k' + 1)) (k' + 1) m (.agg #[.int .i64 kd, .string nm, .slice ad len cap]) n) {o o' : Obj} (hU : U = w1.alloc o) {g cap' : Nat}
    (hown : w5.ownsRow (z + 2) 24 3 (.slice (some ⟨g, 0, none⟩) (es.length + 1) cap') (es.length + 1) (es.flatMap elCells ++ [.int .i64 kd, .string nm, .slice ad len cap])) (hg : (U.alloc o').grownBy w5 v.ownBlock) (hat : v.ownBlock = some g ∨ g = U.heap.size + 1) :
    ∃ k2 t, n = (k2 : Nat) ∧ k' < k2 ∧ k2 ≤ s.size ∧ RtW w (w5.setCell ⟨z + 1, 2, none⟩ (.slice (some ⟨g, 0, none⟩) (es.length + 1) cap')) z m k k2 s name (.slice (some ⟨g, 0, none⟩) (es.length + 1) cap') (es ++ [(kd, nm, .slice ad len cap)]) (ts ++ [t]) := by
  obtain ⟨t, r, hf, hl, hE, hn, hT⟩ := R
  obtain ⟨q, hq⟩ := beg_one hb
  have hlen : (rs s k').length = s.size - k' := rs_len s k'
  have hlt : k' < s.size := by rw [hq] at hlen; simp at hlen; omega
  have hc := rs_cons hlt
  have h32 : rs s k' = 32 :: rs s (k' + 1) := by
    rw [hc] at hq ⊢
    rw [(List.cons.inj hq).1]
  have hrs : rs s (k' + 1 + (textT m t).length) = r := by
    rw [← rs_drop, hl, List.drop_left]
  have hle : k' + 1 + (textT m t).length ≤ s.size := by
    have h1 := rs_len s (k' + 1)
    rw [hl] at h1
    simp at h1
    omega
  have hz := heap_lt T.box
  have hz2 : z + 2 ≤ wr.heap.size := by omega
  have hU1 : U.heap.size = w1.heap.size + 1 := by rw [hU]; simp
  have hbU : Below wr.heap.size wr U := by rw [hU]; exact hb1.alloc hb1.size o
  have hUz : wr.heap.size ≤ U.heap.size := hbU.size
  have rowU : RowM U (z + 2) m v es ts := T.row.on hUz fun g _ hlt => hbU.block g hlt
  have ownlt : ∀ k, v.ownBlock = some k → z + 2 ≤ k ∧ k < wr.heap.size := fun k hk => T.row.own.lt k hk
  have heU : TyS U (fun g => z + 2 ≤ g ∧ g < U.heap.size ∧ v.ownBlock ≠ some g) m (elV (kd, nm, .slice ad len cap)) t := by
    refine TyS.on (S := fun g => wr.heap.size ≤ g ∧ g < w1.heap.size) (fun g q => ⟨by omega, by omega, ?side⟩) (fun g q => ?keep) m _ t hT
    case side =>
      intro e
      have := (ownlt g e).2
      omega
    case keep =>
      rw [hU]
      exact Below.heap_alloc _ _ _ q.2
  have row5 := rowU.snoc (e := (kd, nm, .slice ad len cap)) (t := t) (o := o') heU (v' := .slice (some ⟨g, 0, none⟩) (es.length + 1) cap') hown hg (by
    rcases hat with h | h
    · exact .inl h.symm
    · exact .inr ⟨g, rfl, by omega⟩)
  have h5 : ∀ b, b < z + 2 → w5.heap[b]? = wr.heap[b]? := fun b hb => by
    rw [hg.block b (by simp; omega) (fun e => by have := (ownlt b e.symm).1; omega), Below.heap_alloc _ _ _ (by omega)]
    exact hbU.block b (by omega)
  have h5s : U.heap.size + 1 ≤ w5.heap.size := by have := hg.size; simp at this; omega
  refine ⟨k' + 1 + (textT m t).length, t, hn, by omega, hle, ?_⟩
  have hrow6 : RowM (w5.setCell ⟨z + 1, 2, none⟩ (.slice (some ⟨g, 0, none⟩) (es.length + 1) cap')) (z + 2) m (.slice (some ⟨g, 0, none⟩) (es.length + 1) cap') (es ++ [(kd, nm, .slice ad len cap)]) (ts ++ [t]) :=
    row5.on (by simp [World.setCell]) fun b hb _ => Below.heap_setCell _ _ _ _ (by show b ≠ z + 1; omega)
  refine ⟨?_, ?_, ?_, hrow6, ⟨by have := T.le; omega, hle⟩, ⟨?_, ?_⟩, ?_, ?_⟩
  · have : Below z w w5 := by
      refine T.bel.trans ⟨?_, ?_, ?_, ?_, fun b hb => h5 b (by omega)⟩
      · rw [hg.os, hU]; exact hb1.os
      · rw [hg.tape, hU]; exact hb1.tape
      · rw [hg.output, hU]; exact hb1.output
      · omega
    exact this.setCell (by show z ≤ z + 1; omega) _
  · rw [Below.heap_setCell _ _ _ _ (by show z ≠ z + 1; omega), h5 z (by omega)]
    exact T.res
  · have hb5 : w5.heap[z + 1]? = some (.cells #[.int .i64 4, .string ⟨name.toArray⟩, v] 24 (0, 0)) := (h5 (z + 1) (by omega)).trans T.box
    exact (setCell_block hb5).trans rfl
  · rw [argsT_snoc, hrs, T.txt.1, h32, hl]
    simp
  · rw [argsT_snoc, List.length_append, List.length_cons, T.txt.2]
    omega
  · intro a ha
    rcases List.mem_append.1 ha with ha | ha
    · exact T.frm a ha
    · rw [List.mem_singleton.1 ha]; exact hf
  · intro d us r' h1 h2
    obtain ⟨vs, f1, f2, f3⟩ := T.inv d us r' h1 h2
    rw [h32] at f2
    obtain ⟨xs, g1, g2, g3⟩ := args_step hl hf hE f1 f2
    exact ⟨xs, g1, by rw [hrs]; exact g2, by rw [f3, g3, List.length_append]; simp; omega⟩
end Go.Proofs.YtgdflaapgfpdeaaGreatDoor

namespace Go.Proofs.YtgdflaapgfpdeaaGreatDoor
open Go.RowKit

theorem leaf_no {l : List UInt8} (hb : begB [40] l = false) (h : leafT (wordL l) = none) : RdNo l := by
  intro d t r hf hl hE
  obtain ⟨h1, h2, h3⟩ := leaf_none h
  rcases text_kinds hf with lt | ⟨q, e⟩
  · have hw : wordL l = textT d t := by rw [hl]; exact word_of lt.2.1 (hE lt)
    rw [hw] at h1 h2 h3
    rcases lt.2.2 with ⟨e, _⟩ | ⟨e, _⟩ | ⟨e, _⟩
    · exact h1 e
    · rw [h2] at e; cases e
    · rw [h3] at e; cases e
  · rw [hl, e] at hb
    simp [begB] at hb
theorem leaf_at (w : World) (S : Nat → Prop) {k : Int} {n : List UInt8} (hn : n.length < 140737488355328) (m : Nat) : TyS w S (m + 1) (.agg #[.int .i64 k, strV n, .slice none 0 0]) ((k, n), []) := ⟨.slice none 0 0, rfl, hn, by simp, .inl ⟨rfl, none, 0, rfl⟩⟩
theorem leaf_refd {n : List UInt8} {k : Int} {q : List UInt8} (h : leafT n = some (k, q)) (m : Nat) : formB (m + 1) ((k, q), []) = true ∧ textT (m + 1) ((k, q), []) = n := leaf_form h
/-- The place of the result, laid first. -/
theorem res_at (w : World) : ∃ W0, W0 = w.alloc (Obj.cells #[.int .i64 0, .string ⟨#[]⟩, .slice none 0 0] 24) ∧ Below w.heap.size w W0 ∧ W0.heap.size = w.heap.size + 1 ∧ ∀ U, Below W0.heap.size W0 U → U.heap[w.heap.size]? = some (.cells #[.int .i64 0, .string ⟨#[]⟩, .slice none 0 0] 24 (0, 0)) ∧ Below w.heap.size w U := by
  have hb := (Below.refl w.heap.size w).alloc (Nat.le_refl _) (Obj.cells #[.int .i64 0, .string ⟨#[]⟩, .slice none 0 0] 24)
  have hs : (w.alloc (Obj.cells #[.int .i64 0, .string ⟨#[]⟩, .slice none 0 0] 24)).heap.size = w.heap.size + 1 := by simp
  refine ⟨_, rfl, hb, hs, fun U hU => ⟨?_, hb.trans (hU.mono (by omega))⟩⟩
  rw [hU.block _ (by omega)]
  show (w.heap.push _)[w.heap.size]? = _
  simp
theorem rs_open {s : ByteArray} {k : Nat} (hb : begB [40] (rs s k) = true) : k < s.size ∧ rs s k = 40 :: rs s (k + 1) := by
  obtain ⟨q, hq⟩ := beg_one hb
  have hl := rs_len s k
  have hlt : k < s.size := by rw [hq] at hl; simp at hl; omega
  refine ⟨hlt, ?_⟩
  rw [rs_cons hlt] at hq ⊢
  rw [(List.cons.inj hq).1]
theorem rs_after {s : ByteArray} {k : Nat} {a r : List UInt8} (h : rs s k = a ++ r) : rs s (k + a.length) = r ∧ (k ≤ s.size → k + a.length ≤ s.size) := by
  have h1 := rs_len s k
  rw [h, List.length_append] at h1
  exact ⟨by rw [← rs_drop, h, List.drop_left], fun hk => by omega⟩
/-- The word behind a bracket, and what stands behind that. -/
theorem word_at (s : ByteArray) (k : Nat) (hk : k ≤ s.size) : rs s k = wordL (rs s k) ++ rs s (k + (wordL (rs s k)).length) ∧ (∀ c ∈ wordL (rs s k), endB c = false) ∧ Ends (rs s (k + (wordL (rs s k)).length)) ∧ k + (wordL (rs s k)).length ≤ s.size := by
  obtain ⟨r, e, hP, hE⟩ := word_split (rs s k)
  obtain ⟨h1, h2⟩ := rs_after e
  rw [h1]
  exact ⟨e, hP, hE, h2 hk⟩
theorem six_refd {w : World} {b : Nat} {c0 c1 c2 c3 c4 c5 : Value} {t : TypeId} {fr : Nat × Nat} (h : w.heap[b]? = some (.cells #[c0, c1, c2, c3, c4, c5] t fr)) : w.cell? ⟨b, 0, none⟩ = some c0 ∧ w.cell? ⟨b, 1, none⟩ = some c1 ∧ w.cell? ⟨b, 2, none⟩ = some c2 ∧ w.cell? ⟨b, 3, none⟩ = some c3 ∧ w.cell? ⟨b, 4, none⟩ = some c4 ∧ w.cell? ⟨b, 5, none⟩ = some c5 := by
  refine ⟨?_, ?_, ?_, ?_, ?_, ?_⟩ <;> (simp only [World.cell?, h]; rfl)
/-- A function's type of two that were read, in a row of its own. -/
theorem fun_at {w : World} {S : Nat → Prop} {m g : Nat} {ka kb : Int} {na nb : ByteArray} {ua ub : Value} {a b : Tn m} {t : TypeId} (hg : S g) (h : w.heap[g]? = some (.cells #[.int .i64 ka, .string na, ua, .int .i64 kb, .string nb, ub] t (0, 0)))
    (ha : TyS w S m (.agg #[.int .i64 ka, .string na, ua]) a) (hb : TyS w S m (.agg #[.int .i64 kb, .string nb, ub]) b) : TyS w S (m + 1) (.agg #[.int .i64 3, .string ⟨#[]⟩, .slice (some ⟨g, 0, none⟩) 2 2]) ((3, []), [a, b]) := by
  obtain ⟨h0, h1, h2, h3, h4, h5⟩ := six_refd h
  refine ⟨_, rfl, by simp, by simp, .inr ⟨g, 0, 2, rfl, by simp, by simp, hg, fun j hj => ?_⟩⟩
  match j, hj with
  | 0, _ => exact ⟨ka, na, ua, h0, h1, h2, ha⟩
  | 1, _ => exact ⟨kb, nb, ub, h3, h4, h5, hb⟩
end Go.Proofs.YtgdflaapgfpdeaaGreatDoor
