/- The text of a type, written into a builder: contracts of write and writeRow. The text of a type: the contract of write. -/
import Derived.Test.YtgdflaapgfpdeaaGreatDoorMfx
import Derived.Lib.BufferKept
namespace Go.Proofs.YtgdflaapgfpdeaaGreatDoor
open Go.RowKit

theorem heap_cells {w : World} {b : Nat} {x y u : Value} {t : TypeId} {fr : Nat × Nat} (h : w.heap[b]? = some (.cells #[x, y, u] t fr)) : w.cell? ⟨b, 0, none⟩ = some x ∧ w.cell? ⟨b, 1, none⟩ = some y ∧ w.cell? ⟨b, 2, none⟩ = some u := by
  refine ⟨?_, ?_, ?_⟩ <;> (simp only [World.cell?, h]; rfl)
/-- The builder whose block is b holds these bytes. -/
abbrev IsB (B b : Nat) (l : List UInt8) (w : World) : Prop := Lib.IsBuilderF 86 5 B b (Lib.byteCells l) w
theorem isB_lt {B b : Nat} {l : List UInt8} {w : World} (h : IsB B b l w) : B ≤ b ∧ b < w.heap.size := by
  rcases h with ⟨h1, v, h2, _⟩ | ⟨h1, v, h2, _⟩
  · exact ⟨h1, lt_of_heap h2⟩
  · exact ⟨h1, lt_of_heap h2⟩
theorem isB_on {B b : Nat} {l : List UInt8} {w w' : World} (h : IsB B b l w) (hb : Below w.heap.size w w') : IsB B b l w' := by
  have hg : w.grownBy w' none := ⟨hb.os, hb.tape, hb.output, hb.size, fun k hk _ => hb.block k hk⟩
  rcases h with ⟨h1, v, h2, h3, h4⟩ | ⟨h1, v, h2, h3, h4⟩
  · refine .inl ⟨h1, v, (hb.block b (lt_of_heap h2)).trans h2, h3.kept hg ?_, h4⟩
    cases v.ownBlock <;> simp
  · refine .inr ⟨h1, v, (hb.block b (lt_of_heap h2)).trans h2, h3.kept hg ?_, h4⟩
    cases v.ownBlock <;> simp
/-- What write leaves. -/
def WPost (B b : Nat) (l : List UInt8) (w : World) (r : Ending) (w' : World) : Prop := r = .returned (.tuple #[]) ∧ IsB B b l w' ∧ Below B w w' ∧ Lib.OthersKept 5 (some b) w w'
/-- Texts in a row, with something between each two. -/
def preT (d : Nat) (bt : List UInt8) : List (Tn d) → List UInt8
  | [] => []
  | t :: ts => textT d t ++ (ts.map fun u => bt ++ textT d u).flatten
theorem preT_snoc (d : Nat) (bt : List UInt8) (ts : List (Tn d)) (t : Tn d) : preT d bt (ts ++ [t]) = preT d bt ts ++ ((if ts = [] then [] else bt) ++ textT d t) := by
  cases ts with
  | nil => simp [preT]
  | cons a ts => simp [preT]
theorem preT_args (d : Nat) (t : Tn d) (ts : List (Tn d)) : 32 :: preT d [32] (t :: ts) = argsT d (t :: ts) := by
  rw [argsT_cons]
  simp [preT, argsT]
theorem preT_take (d : Nat) (bt : List UInt8) (ts : List (Tn d)) : ∀ j, (preT d bt (ts.take j)).length ≤ (preT d bt ts).length := by
  intro j
  cases ts with
  | nil => simp
  | cons t ts =>
    cases j with
    | zero => simp [preT]
    | succ j =>
      have : ∀ (l : List (Tn d)) (j : Nat), ((l.take j).map fun u => bt ++ textT d u).flatten.length ≤ (l.map fun u => bt ++ textT d u).flatten.length := by
        intro l
        induction l with
        | nil => simp
        | cons a l ih =>
          intro j
          cases j with
          | zero => simp
          | succ j =>
            have := ih j
            simp only [List.take_succ_cons, List.map_cons, List.flatten_cons, List.length_append] at this ⊢
            omega
      have := this ts j
      simp only [List.take_succ_cons, preT, List.length_append]
      omega
def Writes (d : Nat) : Prop := ∀ (x : Value) (t : Tn d) (w : World) (B b : Nat) (l : List UInt8), IsB B b l w → B ≤ w.heap.size → TyAt w B d x t → formB d t = true → l.length + (textT d t).length ≤ 70368744177664 →
    Calls Tryz.prog 57 #[.pointer (some ⟨b, 0, none⟩), x] w (WPost B b (l ++ textT d t) w)
end Go.Proofs.YtgdflaapgfpdeaaGreatDoor

namespace Go.Proofs.YtgdflaapgfpdeaaGreatDoor
open Go.RowKit

/-- The ways of write. -/
def WCase (w : World) (B b : Nat) (l : List UInt8) (k : Int) (n : List UInt8) (ad : Option Addr) (len cap : Nat) (tx : List UInt8) : Prop :=
  (k = 1 ∧ tx = [73, 110, 116]) ∨ ((k = 2 ∨ k = 4) ∧ len = 0 ∧ tx = n) ∨
  (k = 3 ∧ ∀ w1, IsB B b l w1 → Below B w w1 → Calls Tryz.prog 81 #[.pointer (some ⟨b, 0, none⟩), .string ⟨#[]⟩, .slice ad len cap, .string ⟨#[32, 45, 62, 32]⟩] w1 (WPost B b (l ++ tx) w1)) ∨
  (k = 4 ∧ 0 < len ∧ n.length ≤ 4096 ∧ ∀ w1, IsB B b l w1 → Below B w w1 → Calls Tryz.prog 81 #[.pointer (some ⟨b, 0, none⟩), .string ((⟨n.toArray⟩ : ByteArray) ++ ⟨#[32]⟩), .slice ad len cap, .string ⟨#[32]⟩] w1 (WPost B b (l ++ tx) w1))
end Go.Proofs.YtgdflaapgfpdeaaGreatDoor
