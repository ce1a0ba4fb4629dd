/- Types in memory of which it is known in which blocks they lie; rows of types that are made one by one. -/
import Derived.Test.YtgdflaapgfpdeaaGreatDoorMdx
import Derived.Laws.AppendOwn
import Derived.Deep.AppendLies
import Derived.OwnWalk
namespace Go.Proofs.YtgdflaapgfpdeaaGreatDoor
open Go.RowKit

/-- The value x is the tree t; the blocks that it leads to are such as S says. -/
def TyS (w : World) (S : Nat → Prop) : (d : Nat) → Value → Tn d → Prop
  | 0, _, _ => False
  | d + 1, x, t => ∃ v, x = .agg #[.int .i64 t.1.1, .string ⟨t.1.2.toArray⟩, v] ∧ t.1.2.length < 140737488355328 ∧ t.2.length < 140737488355328 ∧
      ((t.2 = [] ∧ ∃ ad cap, v = .slice ad 0 cap) ∨ ∃ g o cap, v = .slice (some ⟨g, o, none⟩) t.2.length cap ∧ t.2 ≠ [] ∧ t.2.length ≤ cap ∧ S g ∧
        ∀ j (h : j < t.2.length), ∃ k n u, w.cell? ⟨g, o + j * 3, none⟩ = some (.int .i64 k) ∧ w.cell? ⟨g, o + j * 3 + 1, none⟩ = some (.string n) ∧ w.cell? ⟨g, o + j * 3 + 2, none⟩ = some u ∧ TyS w S d (.agg #[.int .i64 k, .string n, u]) t.2[j])
theorem TyS.on {w w' : World} {S S' : Nat → Prop} (hS : ∀ g, S g → S' g) (hb : ∀ g, S g → w'.heap[g]? = w.heap[g]?) : ∀ (d : Nat) (x : Value) (t : Tn d), TyS w S d x t → TyS w' S' d x t
  | 0, _, _, h => h
  | d + 1, x, t, ⟨v, hx, h1, h2, h⟩ => by
    refine ⟨v, hx, h1, h2, ?_⟩
    rcases h with h | ⟨g, o, cap, hv, h0, hc, hg, h⟩
    · exact .inl h
    · refine .inr ⟨g, o, cap, hv, h0, hc, hS g hg, fun j hj => ?_⟩
      obtain ⟨k, n, u, c0, c1, c2, ht⟩ := h j hj
      have e : ∀ o, w'.cell? ⟨g, o, none⟩ = w.cell? ⟨g, o, none⟩ := fun o => World.cell?_of_block (w := w) (a := ⟨g, o, none⟩) (hb g hg)
      exact ⟨k, n, u, (e _).trans c0, (e _).trans c1, (e _).trans c2, TyS.on hS hb d _ _ ht⟩
theorem TyS.at {w : World} {S : Nat → Prop} {B : Nat} (hS : ∀ g, S g → g < B) : ∀ (d : Nat) (x : Value) (t : Tn d), TyS w S d x t → TyAt w B d x t
  | 0, _, _, h => h
  | d + 1, x, t, ⟨v, hx, h1, h2, h⟩ => by
    refine ⟨v, hx, h1, h2, ?_⟩
    rcases h with h | ⟨g, o, cap, hv, h0, hc, hg, h⟩
    · exact .inl h
    · refine .inr ⟨g, o, cap, hv, h0, hc, hS g hg, fun j hj => ?_⟩
      obtain ⟨k, n, u, c0, c1, c2, ht⟩ := h j hj
      exact ⟨k, n, u, c0, c1, c2, TyS.at hS d _ _ ht⟩
theorem TyS.slice {w : World} {S : Nat → Prop} {d : Nat} {a b u : Value} {t : Tn d} (h : TyS w S d (.agg #[a, b, u]) t) : ∃ ad len cap, u = .slice ad len cap := by
  cases d with
  | zero => exact h.elim
  | succ d =>
    obtain ⟨v, e, _, _, h⟩ := h
    have e : u = v := by
      simp only [Value.agg.injEq, Array.mk.injEq, List.cons.injEq, and_true] at e
      exact e.2.2
    rcases h with ⟨h0, ad, cap, hv⟩ | ⟨g, o, cap, hv, _⟩
    · exact ⟨ad, 0, cap, e.trans hv⟩
    · exact ⟨some ⟨g, o, none⟩, _, cap, e.trans hv⟩
/-- An element's parts: kind, name, arguments. -/
abbrev El := Int × ByteArray × Value
def elCells (e : El) : List Value := [.int .i64 e.1, .string e.2.1, e.2.2]
abbrev elV (e : El) : Value := .agg #[.int .i64 e.1, .string e.2.1, e.2.2]
theorem elCells_get (es : List El) (j i : Nat) (hj : j < es.length) (hi : i < 3) : (es.flatMap elCells)[j * 3 + i]? = (elCells es[j])[i]? := by
  induction es generalizing j with
  | nil => simp at hj
  | cons t r ih =>
    cases j with
    | zero =>
      simp [elCells]
      match i, hi with
      | 0, _ => rfl
      | 1, _ => rfl
      | 2, _ => rfl
    | succ j =>
      have hj' : j < r.length := by simpa using hj
      have e : (t :: r).flatMap elCells = elCells t ++ r.flatMap elCells := by simp
      rw [e, List.getElem?_append_right (by simp [elCells]; omega)]
      have e2 : (j + 1) * 3 + i - (elCells t).length = j * 3 + i := by simp [elCells]; omega
      rw [e2, ih j hj']
      rfl
theorem elCells_len (es : List El) : (es.flatMap elCells).length = es.length * 3 := by
  induction es with
  | nil => rfl
  | cons a r ih => rw [List.flatMap_cons, List.length_append, ih]; simp [elCells]; omega
/-- A row that is made one by one: v owns the cells of es, each of which is a tree that lies in blocks from lo on, none of them the row's own. -/
structure RowM (w : World) (lo d : Nat) (v : Value) (es : List El) (ts : List (Tn d)) : Prop where
  own : w.ownsRow lo 24 3 v es.length (es.flatMap elCells)
  len : es.length = ts.length
  each : ∀ j (h : j < es.length) (h' : j < ts.length), TyS w (fun g => lo ≤ g ∧ g < w.heap.size ∧ v.ownBlock ≠ some g) d (elV es[j]) ts[j]
theorem RowM.nil (w : World) (lo d : Nat) : RowM w lo d (.slice none 0 0) [] [] := ⟨World.ownsRow_nil _ _ _ _, rfl, fun j h => by simp at h⟩
/-- Behind steps that leave all blocks as they were, but for blocks below lo and new ones. -/
theorem RowM.on {w w' : World} {lo d : Nat} {v : Value} {es : List El} {ts : List (Tn d)} (h : RowM w lo d v es ts) (hs : w.heap.size ≤ w'.heap.size) (hb : ∀ g, lo ≤ g → g < w.heap.size → w'.heap[g]? = w.heap[g]?) : RowM w' lo d v es ts := by
  refine ⟨?_, h.len, fun j hj hj' => TyS.on (fun g hg => ⟨hg.1, by omega, hg.2.2⟩) (fun g hg => hb g hg.1 hg.2.1) _ _ _ (h.each j hj hj')⟩
  obtain ⟨h1, h2⟩ := h.own
  refine ⟨h1, ?_⟩
  rcases h2 with h2 | ⟨g, cap, cur, hv, hg, hh, r⟩
  · exact .inl h2
  · refine .inr ⟨g, cap, cur, hv, hg, ?_, r⟩
    rw [hb g hg]
    · exact hh
    · rcases Nat.lt_or_ge g w.heap.size with hlt | hge
      · exact hlt
      · rw [Array.getElem?_eq_none hge] at hh; cases hh
/-- One more. -/
theorem RowM.snoc {w w' : World} {lo d : Nat} {v v' : Value} {es : List El} {ts : List (Tn d)} {e : El} {t : Tn d} {o : Obj} (h : RowM w lo d v es ts) (he : TyS w (fun g => lo ≤ g ∧ g < w.heap.size ∧ v.ownBlock ≠ some g) d (elV e) t)
    (hown : w'.ownsRow lo 24 3 v' (es.length + 1) (es.flatMap elCells ++ elCells e)) (hg : (w.alloc o).grownBy w' v.ownBlock) (hv : v'.ownBlock = v.ownBlock ∨ ∃ g, v'.ownBlock = some g ∧ w.heap.size ≤ g) : RowM w' lo d v' (es ++ [e]) (ts ++ [t]) := by
  have hsz : w.heap.size ≤ w'.heap.size := by have := hg.size; simp at this; omega
  have move : ∀ (x : Value) (u : Tn d), TyS w (fun g => lo ≤ g ∧ g < w.heap.size ∧ v.ownBlock ≠ some g) d x u → TyS w' (fun g => lo ≤ g ∧ g < w'.heap.size ∧ v'.ownBlock ≠ some g) d x u := fun x u hu => by
    refine TyS.on (S := fun g => lo ≤ g ∧ g < w.heap.size ∧ v.ownBlock ≠ some g) (fun g q => ⟨q.1, by omega, ?side⟩) (fun g q => ?keep) d x u hu
    case side =>
      rcases hv with hv | ⟨g', hv, hge⟩
      · rw [hv]; exact q.2.2
      · rw [hv]
        intro e0
        have := Option.some.inj e0
        have := q.2.1
        omega
    case keep =>
      rw [hg.block g (by have := q.2.1; simp; omega) (fun e0 => q.2.2 e0.symm)]
      exact Below.heap_alloc _ _ _ q.2.1
  refine ⟨by simpa using hown, by simp [h.len], fun j hj hj' => ?_⟩
  by_cases hlt : j < es.length
  · have hlt' : j < ts.length := by have := h.len; omega
    rw [List.getElem_append_left hlt, List.getElem_append_left hlt']
    exact move _ _ (h.each j hlt hlt')
  · have h1 : j = es.length := by simp at hj; omega
    subst h1
    have hl := h.len
    rw [List.getElem_concat_length, List.getElem_append_right (by omega)]
    · simp only [hl, Nat.sub_self, List.getElem_cons_zero]
      exact move _ _ he
    · rfl
/-- The tree whose arguments are such a row. -/
theorem RowM.tree {w : World} {lo d : Nat} {v : Value} {es : List El} {ts : List (Tn d)} (h : RowM w lo d v es ts) (k : Int) (n : List UInt8) (hn : n.length < 140737488355328) (hl : ts.length < 140737488355328) :
    TyS w (fun g => lo ≤ g ∧ g < w.heap.size) (d + 1) (.agg #[.int .i64 k, .string ⟨n.toArray⟩, v]) ((k, n), ts) := by
  refine ⟨v, rfl, hn, hl, ?_⟩
  rcases id h.own.2 with ⟨hv, h0⟩ | ⟨g, cap, cur, hv, hb, hh, hcap, _⟩
  · refine .inl ⟨List.length_eq_zero_iff.1 (by rw [← h.len, h0]), none, 0, hv⟩
  · by_cases h0 : es.length = 0
    · refine .inl ⟨List.length_eq_zero_iff.1 (by rw [← h.len, h0]), _, cap, by rw [hv, h0]⟩
    · have hgl : g < w.heap.size := by
        rcases Nat.lt_or_ge g w.heap.size with hlt | hge
        · exact hlt
        · rw [Array.getElem?_eq_none hge] at hh; cases hh
      refine .inr ⟨g, 0, cap, by rw [hv, h.len], ?_, by show ts.length ≤ cap; rw [← h.len]; exact hcap, ⟨hb, hgl⟩, fun j hj => ?_⟩
      · intro e0
        have e0 : ts = [] := e0
        rw [h.len, e0] at h0
        exact h0 rfl
      · have hj : j < ts.length := hj
        have hj' : j < es.length := by rw [h.len]; exact hj
        have hc : ∀ i, i < 3 → ∀ u, (elCells es[j])[i]? = some u → w.cell? ⟨g, 0 + j * 3 + i, none⟩ = some u := by
          intro i hi u hu
          have := h.own.cells (g := g) (by rw [hv]; rfl) (j * 3 + i) u (by rw [elCells_get es j i hj' hi]; exact hu)
          rw [Nat.zero_add]
          have e : (⟨g, 0, none⟩ : Addr).add (j * 3 + i) = ⟨g, j * 3 + i, none⟩ := by
            unfold Addr.add
            split
            · rename_i h0; rw [h0]
            · simp
          rw [e] at this
          exact this
        exact ⟨es[j].1, es[j].2.1, es[j].2.2, hc 0 (by omega) _ rfl, hc 1 (by omega) _ rfl, hc 2 (by omega) _ rfl, TyS.on (fun g q => ⟨q.1, q.2.1⟩) (fun _ _ => rfl) d _ _ (h.each j hj' hj)⟩
theorem Tryz.info24 : (Tryz.prog.info? 24).map (fun i => (i.zero, i.size, i.bytes)) = some (some (.agg #[.int .i64 0, .string ⟨#[]⟩, .slice none 0 0]), 3, 48) := by kernel_rfl
end Go.Proofs.YtgdflaapgfpdeaaGreatDoor
