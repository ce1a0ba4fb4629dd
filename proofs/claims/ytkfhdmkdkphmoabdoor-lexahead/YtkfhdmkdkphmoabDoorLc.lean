/- Lex as its callers use it: a text's tokens, its fault, and a text that is too long; a row that is a call's own stays so. -/
import Derived.Test.YtkfhdmkdkphmoabDoorLex
namespace Go.Proofs.YtkfhdmkdkphmoabDoor
open Go.RowKit

theorem own_below {w w' : World} {B e size n : Nat} {v : Value} {xs : List Value} (h : w.ownsRow B e size v n xs) (hb : Below w.heap.size w w') : w'.ownsRow B e size v n xs := by
  refine ⟨h.1, ?_⟩
  rcases h.2 with h0 | ⟨g, cap, cur, rfl, hg, hgg, rest⟩
  · exact .inl h0
  · exact .inr ⟨g, cap, cur, rfl, hg, by rw [hb.block g (Array.getElem?_eq_some_iff.1 hgg).1]; exact hgg, rest⟩
theorem lex_ok (s : ByteArray) (w : World) {ts : List Tk} (hs : s.size ≤ 65536) (hC : Cl w) (h1 : 1 < w.heap.size) (h : lexL 0 (rest s 0) 0 = .ok ts) :
    Calls Tryd.prog 5 #[.string s] w fun e w' => (∃ tk, e = .returned (.tuple #[tk, .nilIface]) ∧ w'.ownsRow w.heap.size 34 4 tk ts.length (rowCells ts)) ∧ Below w.heap.size w w' := by
  have := lex_any s w hs hC h1
  rw [h] at this
  exact this
theorem lex_bad (s : ByteArray) (w : World) {c p : Nat} (hs : s.size ≤ 65536) (hC : Cl w) (h1 : 1 < w.heap.size) (h : lexL 0 (rest s 0) 0 = .error (c, p)) :
    Calls Tryd.prog 5 #[.string s] w fun e w' => (∃ b, w.heap.size ≤ b ∧ e = .returned (.tuple #[.slice none 0 0, .iface 39 (.pointer (some ⟨b, 0, none⟩))]) ∧ w'.heap[b]? = some (.cells (faultCells c p) 30 (0, 0))) ∧ Below w.heap.size w w' := by
  have := lex_any s w hs hC h1
  rw [h] at this
  exact this
set_option maxRecDepth 10000 in
theorem lex_long (s : ByteArray) (w : World) (hs : 65536 < s.size) (hm : s.size ≤ maxLen) :
    Calls Tryd.prog 5 #[.string s] w fun e w' => (∃ b, w.heap.size ≤ b ∧ e = .returned (.tuple #[.slice none 0 0, .iface 39 (.pointer (some ⟨b, 0, none⟩))]) ∧ w'.heap[b]? = some (.cells (faultCells 2 (-1)) 30 (0, 0))) ∧ Below w.heap.size w w' := by
  unfold maxLen at hm
  have hs' : (65536 : Int) < (s.size : Int) := by omega
  go_enter Tryd.func5, Tryd.ntmps5
  go_wp2
  go_ret2
  refine ⟨⟨w.heap.size, Nat.le_refl _, rfl, ?_⟩, (Below.refl _ _).alloc (Nat.le_refl _) _⟩
  show (w.heap.push _)[w.heap.size]? = _
  simp [faultCells]

theorem stepL_err2 {l : List UInt8} {c : Nat} (h : stepL l = .error c) : c ≠ 2 := by
  unfold stepL at h
  split at h
  · cases h
  split at h
  · split at h
    · simp at h; omega
    · cases h
  split at h
  · cases h
  split at h
  · rename_i c' hc
    simp at h
    subst h
    unfold tokL at hc
    split at hc
    · cases hc
    split at hc
    · cases hc
    split at hc
    · split at hc
      · simp at hc; omega
      · cases hc
    split at hc
    · split at hc
      · simp at hc; omega
      · cases hc
    split at hc
    · split at hc
      · simp at hc; omega
      · cases hc
    split at hc
    · split at hc
      · simp at hc; omega
      · cases hc
    split at hc
    · cases hc
    split at hc
    · split at hc
      · simp at hc; omega
      · cases hc
    · simp at hc; omega
  · cases h
theorem lexL_err2 {k n : Nat} {l : List UInt8} {c p : Nat} (h : lexL k l n = .error (c, p)) : c ≠ 2 := by
  induction l using (measure List.length).wf.induction generalizing k n with
  | _ l ih =>
    cases l with
    | nil => rw [lexL_nil] at h; cases h
    | cons x r =>
      rw [lexL_cons] at h
      split at h
      · rename_i e he
        simp at h
        rw [← h.1]
        exact stepL_err2 he
      · exact ih _ (by show (r.drop _).length < (x :: r).length; simp; omega) h
      · split at h
        · simp at h; omega
        · rename_i kd tx nm m hst hn
          cases hr : lexL (k + m) (r.drop (m - 1)) (n + 1) with
          | error y =>
            rw [hr] at h
            simp [Except.map] at h
            subst h
            exact ih _ (by show (r.drop _).length < (x :: r).length; simp; omega) hr
          | ok y => rw [hr] at h; cases h
end Go.Proofs.YtkfhdmkdkphmoabDoor
