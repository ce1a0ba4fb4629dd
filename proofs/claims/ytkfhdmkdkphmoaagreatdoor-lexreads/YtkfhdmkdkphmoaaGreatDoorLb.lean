/- Lex of a text that is too long; how many tokens there are at most. -/
import Derived.Test.YtkfhdmkdkphmoaaGreatDoorLex
import Derived.Test.YtkfhdmkdkphmoaaGreatDoorRowt
namespace Go.Proofs.YtkfhdmkdkphmoaaGreatDoor
open Go.RowKit

set_option maxRecDepth 10000 in
theorem lex_long (s : ByteArray) (w : World) (hs : 65536 < s.size) (hm : s.size ≤ maxLen) :
    Calls Tryz.prog 6 #[.string s] w fun e w' => (∃ b, w.heap.size ≤ b ∧ e = .returned (.tuple #[.slice none 0 0, .iface 45 (.pointer (some ⟨b, 0, none⟩))]) ∧ w'.heap[b]? = some (.cells (faultCells 2 (-1)) 26 (0, 0))) ∧ Below w.heap.size w w' := by
  unfold maxLen at hm
  have hs' : (65536 : Int) < (s.size : Int) := by omega
  go_enter Tryz.func6, Tryz.ntmps6
  go_wp2
  go_ret2
  refine ⟨⟨w.heap.size, Nat.le_refl _, rfl, ?_⟩, (Below.refl _ _).alloc (Nat.le_refl _) _⟩
  show (w.heap.push _)[w.heap.size]? = _
  simp [faultCells]

theorem lexL_max : ∀ (m : Nat) (l : List UInt8) (k c : Nat) (ts : List Tk), l.length ≤ m → lexL k l c = .ok ts → c ≤ 20000 → c + ts.length ≤ 20000 := by
  intro m
  induction m with
  | zero =>
    intro l k c ts hm h hc
    cases l with
    | nil => rw [lexL_nil] at h; cases h; simpa using hc
    | cons x r => simp at hm
  | succ m ih =>
    intro l k c ts hm h hc
    cases l with
    | nil => rw [lexL_nil] at h; cases h; simpa using hc
    | cons x r =>
      have hr : ∀ n, (r.drop n).length ≤ m := by intro n; simp at hm ⊢; omega
      rw [lexL_cons] at h
      cases hs : stepL (x :: r) with
      | error e => rw [hs] at h; cases h
      | ok y =>
        obtain ⟨o, n⟩ := y
        rw [hs] at h
        cases o with
        | none => exact ih _ (k + n) c ts (hr _) h hc
        | some t =>
          obtain ⟨kd, tx, nm⟩ := t
          simp only [] at h
          split at h
          · cases h
          · cases hl : lexL (k + n) (r.drop (n - 1)) (c + 1) with
            | error e => rw [hl] at h; cases h
            | ok ts' =>
              rw [hl] at h
              simp [Except.map] at h
              subst h
              have := ih _ (k + n) (c + 1) ts' (hr _) hl (by omega)
              simp
              omega
theorem own_stay {w w' : World} {B e size n : Nat} {v : Value} {xs : List Value} (h : w.ownsRow B e size v n xs) (hb : Below w.heap.size w w') : w'.ownsRow B e size v n xs := by
  refine ⟨h.1, ?_⟩
  rcases h.2 with h0 | ⟨g, cap, cur, rfl, hg, hgg, rest⟩
  · exact .inl h0
  · exact .inr ⟨g, cap, cur, rfl, hg, by rw [hb.block g (Array.getElem?_eq_some_iff.1 hgg).1]; exact hgg, rest⟩

theorem lex_fine (s : ByteArray) (w : World) {ts : List Tk} (hs : s.size ≤ 65536) (hC : Cl w) (h1 : 1 < w.heap.size) (h : lexL 0 (rest s 0) 0 = .ok ts) :
    Calls Tryz.prog 6 #[.string s] w fun e w' => (∃ tk, e = .returned (.tuple #[tk, .nilIface]) ∧ w'.ownsRow w.heap.size 39 4 tk ts.length (rowCells ts)) ∧ Below w.heap.size w w' := by
  have := lex_any s w hs hC h1
  rw [h] at this
  exact this

theorem lex_off (s : ByteArray) (w : World) {c p : Nat} (hs : s.size ≤ 65536) (hC : Cl w) (h1 : 1 < w.heap.size) (h : lexL 0 (rest s 0) 0 = .error (c, p)) :
    Calls Tryz.prog 6 #[.string s] w fun e w' => (∃ b, w.heap.size ≤ b ∧ e = .returned (.tuple #[.slice none 0 0, .iface 45 (.pointer (some ⟨b, 0, none⟩))]) ∧ w'.heap[b]? = some (.cells (faultCells c p) 26 (0, 0))) ∧ Below w.heap.size w w' := by
  have := lex_any s w hs hC h1
  rw [h] at this
  exact this

end Go.Proofs.YtkfhdmkdkphmoaaGreatDoor
