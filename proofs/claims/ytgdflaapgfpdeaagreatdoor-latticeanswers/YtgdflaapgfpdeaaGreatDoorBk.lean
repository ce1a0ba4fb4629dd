/- TypesBack answers true, whatever type and text it is handed, if Print, Read and awake answer as the document says. -/
import Derived.Test.YtgdflaapgfpdeaaGreatDoorMex
import Derived.Test.YtgdflaapgfpdeaaGreatDoorSa
import Derived.Test.YtgdflaapgfpdeaaGreatDoorTl
namespace Go.Proofs.YtgdflaapgfpdeaaGreatDoor
open Go.RowKit

/-- The type that is nothing. -/
abbrev zeroT : Value := .agg #[.int .i64 0, .string ⟨#[]⟩, .slice none 0 0]
theorem zero_at (w : World) (B : Nat) (ad : Option Addr) (cap : Nat) : TyAt w B 1 (.agg #[.int .i64 0, .string ⟨#[]⟩, .slice ad 0 cap]) ((0, []), []) := ⟨.slice ad 0 cap, rfl, by simp, by simp, .inl ⟨rfl, ad, cap, rfl⟩⟩
/-- What Read answers of a text. -/
def ReadPost (w : World) (l : List UInt8) (r : Ending) (w' : World) : Prop :=
  Below w.heap.size w w' ∧ ∃ x e, r = .returned (.tuple #[x, .int .i64 e]) ∧
    ((e = 0 ∧ l.length ≤ 65536 ∧ ∃ d t, formB d t = true ∧ textT d t = l ∧ (flat d t).length ≤ 500 ∧ TyAt w' w'.heap.size d x t) ∨
     (e ≠ 0 ∧ (∃ ad cap, x = .agg #[.int .i64 0, .string ⟨#[]⟩, .slice ad 0 cap]) ∧ ((65536 < l.length ∧ e = 2) ∨ (l.length ≤ 65536 ∧ (∃ d t, formB d t = true ∧ textT d t = l ∧ 500 < (flat d t).length) ∧ e = 4) ∨ (l.length ≤ 65536 ∧ (∀ d t, formB d t = true → textT d t ≠ l) ∧ e = 52))))
/-- A function that reads as the document says. -/
def Reads (f : Nat) : Prop := ∀ (l : List UInt8) (w : World), l.length < 140737488355328 → Calls Tryz.prog f #[strV l] w (ReadPost w l)
/-- A function that prints as the document says. -/
def Prints (f : Nat) : Prop := ∀ (d : Nat) (x : Value) (t : Tn d) (w : World) (B : Nat), B ≤ w.heap.size → TyAt w B d x t → (flat d t).length ≤ 4194304 → Calls Tryz.prog f #[x] w fun r w' => r = .returned (printV d t) ∧ Below w.heap.size w w'
/-- The document's examples are answered. -/
def Wakes : Prop := ∀ w : World, Calls Tryz.prog 6 #[] w fun r w' => r = .returned (.bool true) ∧ Below w.heap.size w w'
theorem ends_nil : Ends [] := fun c h => by simp at h
theorem print_facts (d : Nat) (t : Tn d) : ∃ l e, printV d t = .tuple #[strV l, .int .i64 e] ∧ l.length ≤ 65536 ∧ (e = 0 → formB d t = true ∧ (flat d t).length ≤ 500 ∧ l = textT d t) ∧ (formB d t = true → (flat d t).length ≤ 500 → (textT d t).length ≤ 65536 → e = 0) := by
  unfold printV
  by_cases h : wrongT d t = 0
  · rw [if_neg (by simpa using h)]
    obtain ⟨h1, h2⟩ := wrong_zero h
    by_cases hb : 65536 < (textT d t).length
    · rw [if_pos hb]
      exact ⟨[], 4, rfl, by simp, by simp, fun _ _ h => by omega⟩
    · rw [if_neg hb]
      exact ⟨_, 0, rfl, by omega, fun _ => ⟨h1, h2, rfl⟩, fun _ _ _ => rfl⟩
  · rw [if_pos h]
    refine ⟨[], _, rfl, by simp, fun h0 => absurd h0 h, fun h1 h2 _ => ?_⟩
    exact absurd (by unfold wrongT; rw [if_pos h1, if_neg (by omega)]) h
/-- The type that Read answered: a tree of at most 500 nodes, in any case. -/
theorem ReadPost.tree {w w' : World} {l : List UInt8} {r : Ending} (h : ReadPost w l r w') : Below w.heap.size w w' ∧ ∃ (k : Int) (n : ByteArray) (ad : Option Addr) (len cap : Nat) (e : Int) (d : Nat) (t : Tn d), r = .returned (.tuple #[.agg #[.int .i64 k, .string n, .slice ad len cap], .int .i64 e]) ∧ TyAt w' w'.heap.size d (.agg #[.int .i64 k, .string n, .slice ad len cap]) t ∧ (flat d t).length ≤ 500 ∧
    (e = 0 → formB d t = true ∧ textT d t = l ∧ l.length ≤ 65536) ∧ (∀ d' (t' : Tn d'), formB d' t' = true → textT d' t' = l → (flat d' t').length ≤ 500 → l.length ≤ 65536 → e = 0) := by
  obtain ⟨hb, x, e, hr, h⟩ := h
  refine ⟨hb, ?_⟩
  rcases h with ⟨he, hl, d, t, h1, h2, h3, h4⟩ | ⟨he, hx, h⟩
  · obtain ⟨d, rfl⟩ : ∃ e, d = e + 1 := by
      cases d with
      | zero => exact h4.elim
      | succ e => exact ⟨e, rfl⟩
    obtain ⟨v, hx, q1, q2, q3⟩ := id h4
    subst hx
    obtain ⟨ad, cap, rfl⟩ := q3.len
    exact ⟨_, _, ad, _, cap, e, d + 1, t, hr, h4, h3, fun _ => ⟨h1, h2, hl⟩, fun _ _ _ _ _ _ => he⟩
  · obtain ⟨ad, cap, rfl⟩ := hx
    refine ⟨0, ⟨#[]⟩, ad, 0, cap, e, 1, ((0, []), []), hr, zero_at _ _ _ _, by rw [flat_succ, flats_nil]; simp, fun h0 => absurd h0 he, fun d' t' f1 f2 f3 f4 => ?_⟩
    rcases h with ⟨h1, _⟩ | ⟨_, ⟨d2, t2, g1, g2, g3⟩, _⟩ | ⟨_, h1, _⟩
    · omega
    · have := (text_inj d' t' d2 t2 [] [] f1 g1 ends_nil ends_nil (by rw [f2, g2])).1
      rw [this] at f3
      omega
    · exact absurd f2 (h1 d' t' f1)
end Go.Proofs.YtgdflaapgfpdeaaGreatDoor
