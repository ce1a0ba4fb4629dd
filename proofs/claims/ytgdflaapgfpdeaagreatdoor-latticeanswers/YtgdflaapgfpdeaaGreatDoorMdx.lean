/- Types in memory: a value of the program's type Type and the tree that it is. The names of a tree's variables. -/
import Derived.Test.YtgdflaapgfpdeaaGreatDoorMcx
import Derived.Test.YtgdflaapgfpdeaaGreatDoorProg
import Derived.Below
namespace Go.Proofs.YtgdflaapgfpdeaaGreatDoor
open Go.RowKit

/-- The slice v is a row of values of type Type, of each of which P says what it is; the row's block is below B. -/
def RowP {α : Type} (w : World) (B : Nat) (P : Value → α → Prop) (v : Value) (ts : List α) : Prop :=
  (ts = [] ∧ ∃ ad cap, v = .slice ad 0 cap) ∨ ∃ g o cap, v = .slice (some ⟨g, o, none⟩) ts.length cap ∧ ts ≠ [] ∧ ts.length ≤ cap ∧ g < B ∧
    ∀ j (h : j < ts.length), ∃ k n u, w.cell? ⟨g, o + j * 3, none⟩ = some (.int .i64 k) ∧ w.cell? ⟨g, o + j * 3 + 1, none⟩ = some (.string n) ∧ w.cell? ⟨g, o + j * 3 + 2, none⟩ = some u ∧ P (.agg #[.int .i64 k, .string n, u]) ts[j]
/-- The value x is the tree t; the blocks that it leads to are below B. -/
def TyAt (w : World) (B : Nat) : (d : Nat) → Value → Tn d → Prop
  | 0, _, _ => False
  | d + 1, x, t => ∃ v, x = .agg #[.int .i64 t.1.1, .string ⟨t.1.2.toArray⟩, v] ∧ t.1.2.length < 140737488355328 ∧ t.2.length < 140737488355328 ∧ RowP w B (TyAt w B d) v t.2
theorem RowP.below {α : Type} {w w' : World} {B B' : Nat} {P P' : Value → α → Prop} {v : Value} {ts : List α} (hb : Below B w w') (hB : B ≤ B') (hP : ∀ x, ∀ t ∈ ts, P x t → P' x t) (h : RowP w B P v ts) : RowP w' B' P' v ts := by
  rcases h with h | ⟨g, o, cap, hv, h0, hc, hg, h⟩
  · exact .inl h
  · refine .inr ⟨g, o, cap, hv, h0, hc, Nat.lt_of_lt_of_le hg hB, fun j hj => ?_⟩
    obtain ⟨k, n, u, c0, c1, c2, ht⟩ := h j hj
    exact ⟨k, n, u, (hb.cell (p := ⟨g, o + j * 3, none⟩) hg).trans c0, (hb.cell (p := ⟨g, o + j * 3 + 1, none⟩) hg).trans c1, (hb.cell (p := ⟨g, o + j * 3 + 2, none⟩) hg).trans c2, hP _ _ (List.getElem_mem hj) ht⟩
theorem TyAt.below {w w' : World} {B B' : Nat} (hb : Below B w w') (hB : B ≤ B') : ∀ (d : Nat) (x : Value) (t : Tn d), TyAt w B d x t → TyAt w' B' d x t
  | 0, _, _, h => h
  | d + 1, _, _, ⟨v, hx, h1, h2, h⟩ => ⟨v, hx, h1, h2, h.below hb hB fun x t _ => TyAt.below hb hB d x t⟩
/-- Behind a call whose own blocks lie from the heap's end on. -/
theorem TyAt.on {w w' : World} {B d : Nat} {x : Value} {t : Tn d} (h : TyAt w B d x t) (hb : Below B w w') : TyAt w' B d x t := TyAt.below hb (Nat.le_refl _) d x t h
theorem RowP.len {α : Type} {w : World} {B : Nat} {P : Value → α → Prop} {v : Value} {ts : List α} (h : RowP w B P v ts) : ∃ ad cap, v = .slice ad ts.length cap := by
  rcases h with ⟨h0, ad, cap, rfl⟩ | ⟨g, o, cap, rfl, _⟩
  · exact ⟨ad, cap, by rw [h0]; rfl⟩
  · exact ⟨_, cap, rfl⟩
/-- The third part of a value that is a tree is a slice. -/
theorem TyAt.slice {w : World} {B d : Nat} {a b u : Value} {t : Tn d} (h : TyAt w B d (.agg #[a, b, u]) t) : ∃ ad len cap, u = .slice ad len cap := by
  cases d with
  | zero => exact h.elim
  | succ d =>
    obtain ⟨v, e, _, _, h⟩ := h
    have e : u = v := by
      simp only [Value.agg.injEq, Array.mk.injEq, List.cons.injEq, and_true] at e
      exact e.2.2
    obtain ⟨ad, cap, hv⟩ := h.len
    exact ⟨ad, _, cap, e.trans hv⟩
/-- A row of trees of which there is one at least: its cells, in whatever world has what was below B. -/
theorem RowP.cells {w : World} {B d : Nat} {v : Value} {ts : List (Tn d)} (h : RowP w B (TyAt w B d) v ts) : ∃ ad cap, v = .slice ad ts.length cap ∧ (ts ≠ [] → ∃ g o, ad = some ⟨g, o, none⟩ ∧ ts.length ≤ cap ∧ g < B ∧
    ∀ j (h : j < ts.length), ∃ k n ad' len' cap', (∀ w', Below B w w' → w'.cell? ⟨g, o + j * 3, none⟩ = some (.int .i64 k) ∧ w'.cell? ⟨g, o + j * 3 + 1, none⟩ = some (.string n) ∧ w'.cell? ⟨g, o + j * 3 + 2, none⟩ = some (.slice ad' len' cap')) ∧ TyAt w B d (.agg #[.int .i64 k, .string n, .slice ad' len' cap']) ts[j]) := by
  rcases h with ⟨h0, ad, cap, rfl⟩ | ⟨g, o, cap, rfl, h0, hc, hg, h⟩
  · exact ⟨ad, cap, by rw [h0]; rfl, fun h => absurd h0 h⟩
  · refine ⟨_, cap, rfl, fun _ => ⟨g, o, rfl, hc, hg, fun j hj => ?_⟩⟩
    obtain ⟨k, n, u, c0, c1, c2, ht⟩ := h j hj
    obtain ⟨ad', len', cap', rfl⟩ := ht.slice
    exact ⟨k, n, ad', len', cap', fun w' hb => ⟨(hb.cell (p := ⟨g, o + j * 3, none⟩) hg).trans c0, (hb.cell (p := ⟨g, o + j * 3 + 1, none⟩) hg).trans c1, (hb.cell (p := ⟨g, o + j * 3 + 2, none⟩) hg).trans c2⟩, ht⟩
/-- Two trees, side by side: their places, from the left, as far as both go. -/
theorem flat_both {d e : Nat} {k k' : Int} {n n' : List UInt8} {ts : List (Tn d)} {us : List (Tn e)} (h : ¬ (k = k' ∧ n = n' ∧ ts.length = us.length)) :
    flat (d + 1) ((k, n), ts) ≠ flat (e + 1) ((k', n'), us) := by
  intro h1
  obtain ⟨a, b, c, _⟩ := (flat_eq_iff d e k k' n n' ts us).1 h1
  exact h ⟨a, b, c⟩
/-- A new block's cells. -/
theorem cells_new (w : World) (a b c : Value) (t : TypeId) : (w.alloc (Obj.cells #[a, b, c] t)).cell? ⟨w.heap.size, 0, none⟩ = some a ∧ (w.alloc (Obj.cells #[a, b, c] t)).cell? ⟨w.heap.size, 1, none⟩ = some b ∧ (w.alloc (Obj.cells #[a, b, c] t)).cell? ⟨w.heap.size, 2, none⟩ = some c := by
  have h : (w.alloc (Obj.cells #[a, b, c] t)).heap[w.heap.size]? = some (Obj.cells #[a, b, c] t) := by
    show (w.heap.push _)[w.heap.size]? = _
    simp
  refine ⟨?_, ?_, ?_⟩ <;> (simp only [World.cell?, h]; rfl)
/-- Two boxes of three cells, side by side. -/
theorem cells_boxes (w : World) (a b c a' b' c' : Value) (t : TypeId) : ∃ W, W = (w.alloc (Obj.cells #[a, b, c] t)).alloc (Obj.cells #[a', b', c'] t) ∧ Below w.heap.size w W ∧ W.heap.size = w.heap.size + 2 ∧
    W.cell? ⟨w.heap.size, 0, none⟩ = some a ∧ W.cell? ⟨w.heap.size, 1, none⟩ = some b ∧ W.cell? ⟨w.heap.size, 2, none⟩ = some c ∧
    W.cell? ⟨w.heap.size + 1, 0, none⟩ = some a' ∧ W.cell? ⟨w.heap.size + 1, 1, none⟩ = some b' ∧ W.cell? ⟨w.heap.size + 1, 2, none⟩ = some c' := by
  refine ⟨_, rfl, ((Below.refl _ _).alloc (Nat.le_refl _) _).alloc (by simp) _, by simp, ?_⟩
  have hb := (Below.refl (w.heap.size + 1) (w.alloc (Obj.cells #[a, b, c] t))).alloc (by simp) (Obj.cells #[a', b', c'] t)
  obtain ⟨h1, h2, h3⟩ := cells_new w a b c t
  have hn := cells_new (w.alloc (Obj.cells #[a, b, c] t)) a' b' c' t
  rw [show (w.alloc (Obj.cells #[a, b, c] t)).heap.size = w.heap.size + 1 by simp] at hn
  exact ⟨(hb.cell (by simp)).trans h1, (hb.cell (by simp)).trans h2, (hb.cell (by simp)).trans h3, hn⟩
/-- One box of three cells. -/
theorem cells_box (w : World) (a b c : Value) (t : TypeId) : ∃ W, W = w.alloc (Obj.cells #[a, b, c] t) ∧ Below w.heap.size w W ∧ W.heap.size = w.heap.size + 1 ∧
    W.cell? ⟨w.heap.size, 0, none⟩ = some a ∧ W.cell? ⟨w.heap.size, 1, none⟩ = some b ∧ W.cell? ⟨w.heap.size, 2, none⟩ = some c :=
  ⟨_, rfl, (Below.refl _ _).alloc (Nat.le_refl _) _, by simp, cells_new w a b c t⟩
end Go.Proofs.YtgdflaapgfpdeaaGreatDoor

namespace Go.Proofs.YtgdflaapgfpdeaaGreatDoor

/-- The names of a tree's variables, in order, each as often as it stands. -/
def namesT : (d : Nat) → Tn d → List (List UInt8)
  | 0, t => t.elim
  | d + 1, t => if t.1.1 = 2 then [t.1.2] else t.2.flatMap (namesT d)
theorem names_var (d : Nat) (n : List UInt8) (ts : List (Tn d)) : namesT (d + 1) ((2, n), ts) = [n] := rfl
theorem names_node (d : Nat) (k : Int) (n : List UInt8) (ts : List (Tn d)) (h : k ≠ 2) : namesT (d + 1) ((k, n), ts) = ts.flatMap (namesT d) := by
  show (if k = 2 then [n] else ts.flatMap (namesT d)) = _
  rw [if_neg h]
end Go.Proofs.YtgdflaapgfpdeaaGreatDoor
