/- Rows of tokens carried on: a row that is a call's own stays so below what comes later; one row appended to another; tokens stand within their text. -/
import Derived.Test.YtkfhdmkdkphmoaaDoorSk
import Derived.Test.YtkfhdmkdkphmoaaDoorLex
import Derived.Laws.AppendOwnNone
namespace Go.Proofs.YtkfhdmkdkphmoaaDoor
open Go.RowKit

theorem own_below {w w' : World} {B e size n : Nat} {v : Value} {xs : List Value} (h : w.ownsRow B e size v n xs) (hb : Below w.heap.size w w') : w'.ownsRow B e size v n xs := by
  refine ⟨h.1, ?_⟩
  rcases h.2 with h0 | ⟨g, cap, cur, rfl, hg, hgg, rest⟩
  · exact .inl h0
  · exact .inr ⟨g, cap, cur, rfl, hg, by rw [hb.block g (Array.getElem?_eq_some_iff.1 hgg).1]; exact hgg, rest⟩
theorem rowCells_app (ts us : List Tk) : rowCells (ts ++ us) = rowCells ts ++ rowCells us := by simp [rowCells]
theorem rowCells_len (ts : List Tk) : (rowCells ts).length = ts.length * 4 := by
  induction ts with
  | nil => rfl
  | cons t r ih =>
    have e : rowCells (t :: r) = tokCells t ++ rowCells r := by simp [rowCells]
    rw [e, List.length_append, ih]
    simp [tokCells]
    omega
theorem rowCells_one (ts : List Tk) : ∀ u ∈ rowCells ts, u.oneCell' = true := by
  intro u hu
  simp only [rowCells, List.mem_flatMap] at hu
  obtain ⟨t, _, hu⟩ := hu
  simp [tokCells] at hu
  rcases hu with rfl | rfl | rfl | rfl <;> rfl

/-- append(x, y...) of two rows of tokens that are the call's own. -/
theorem wpList_append_rows {w : World} {ops : Array Oper} {rest : List Oper} {o : Oper} {a : Act} {Q : Exit → Act → World → Prop} (hgd : o.guard = none) (s x : Operand)
    (ho : o.op = .call { callee := .builtin .append, args := #[s, x], argTypes := #[22, 22] })
    (B C : Nat) (v u : Value) (ts us : List Tk) (hs : a.eval s = v) (hx : a.eval x = u) (hown : w.ownsRow B 28 4 v ts.length (rowCells ts)) (hown2 : w.ownsRow C 28 4 u us.length (rowCells us))
    (hl : ts.length + us.length ≤ 40000) (hB : B ≤ w.heap.size)
    (h : ∀ v' w', w'.ownsRow B 28 4 v' (ts ++ us).length (rowCells (ts ++ us)) → Below B w w' → wpList Tryd.prog ops Q rest (a.put o.dst v') w') : wpList Tryd.prog ops Q (o :: rest) a w := by
  obtain ⟨i0, hi, hz0, hz1, hz2⟩ := info_parts Tryd.info28
  rcases id hown2.2 with ⟨rfl, h0⟩ | ⟨g, cap, cur, rfl, _, _, hcap, _⟩
  · obtain rfl : us = [] := List.length_eq_zero_iff.1 h0
    refine wpList_append_own_none hgd s x 22 ho B 28 i0 4 Tryd.underlying22 hi v _ _ hs hown hx ?_
    refine h v w ?_ (Below.refl _ _)
    rw [List.append_nil]
    exact hown
  · refine wpList_append_own w hgd s x 22 ho B 28 i0 _ 4 40 Tryd.underlying22 hi hz0 hz1 hz2 rfl (by decide) v _ _ hs hown ⟨g, 0, none⟩ us.length cap (rowCells us) hx (rowCells_len us) (hown2.cells rfl) (rowCells_one us) (by unfold maxLen; omega) (by omega) hB ?_
    intro v' w' h1 h2 _
    refine h v' w' ?_ ?_
    · rw [List.length_append, rowCells_app]
      exact h1
    · exact (Below.refl B w).grown h2 hB (fun k hk => (hown.lt k hk).1)

theorem lexL_at : ∀ (m : Nat) (l : List UInt8) (k c : Nat) (ts : List Tk), l.length ≤ m → lexL k l c = .ok ts → ∀ t ∈ ts, t.2.2.2 ≤ k + l.length := by
  intro m
  induction m with
  | zero =>
    intro l k c ts hm h
    cases l with
    | nil => rw [lexL_nil] at h; cases h; simp
    | cons x r => simp at hm
  | succ m ih =>
    intro l k c ts hm h
    cases l with
    | nil => rw [lexL_nil] at h; cases h; simp
    | cons x r =>
      have hr : ∀ n, (r.drop n).length ≤ m := by intro n; simp at hm ⊢; omega
      rw [lexL_cons] at h
      cases hs : stepL (x :: r) with
      | error e => rw [hs] at h; cases h
      | ok y =>
        obtain ⟨o, n⟩ := y
        have hn := stepL_len (by simp) hs
        rw [hs] at h
        cases o with
        | none =>
          simp only [] at h
          intro t ht
          have := ih _ (k + n) c ts (hr _) h t ht
          simp at this hn ⊢
          omega
        | some t0 =>
          obtain ⟨kd, tx, nm⟩ := t0
          simp only [] at h
          split at h
          · cases h
          · cases hl : lexL (k + n) (r.drop (n - 1)) (c + 1) with
            | error e => rw [hl] at h; cases h
            | ok ts' =>
              rw [hl] at h
              simp [Except.map] at h
              subst h
              intro t ht
              rcases List.mem_cons.1 ht with rfl | ht
              · show k ≤ _
                omega
              · have := ih _ (k + n) (c + 1) ts' (hr _) hl t ht
                simp at this hn ⊢
                omega
theorem mv0 (ts : List Tk) : ts.map (mvT 0) = ts := by
  rw [show mvT 0 = id from rfl, List.map_id]
theorem bytes_app (x y : ByteArray) : (x ++ y).data.toList = x.data.toList ++ y.data.toList := by simp
theorem lex_ok (s : ByteArray) (w : World) {ts : List Tk} (hs : s.size ≤ 65536) (hC : Cl w) (h1 : 1 < w.heap.size) (h : lexL 0 (rest s 0) 0 = .ok ts) :
    Calls Tryd.prog 12 #[.string s] w fun e w' => (∃ tk, e = .returned (.tuple #[tk, .nilIface]) ∧ w'.ownsRow w.heap.size 28 4 tk ts.length (rowCells ts)) ∧ Below w.heap.size w w' := by
  have := lex_any s w hs hC h1
  rw [h] at this
  exact this
theorem lex_bad (s : ByteArray) (w : World) {c p : Nat} (hs : s.size ≤ 65536) (hC : Cl w) (h1 : 1 < w.heap.size) (h : lexL 0 (rest s 0) 0 = .error (c, p)) :
    Calls Tryd.prog 12 #[.string s] w fun e w' => (∃ b, w.heap.size ≤ b ∧ e = .returned (.tuple #[.slice none 0 0, .iface 48 (.pointer (some ⟨b, 0, none⟩))]) ∧ w'.heap[b]? = some (.cells (faultCells c p) 37 (0, 0))) ∧ Below w.heap.size w w' := by
  have := lex_any s w hs hC h1
  rw [h] at this
  exact this
end Go.Proofs.YtkfhdmkdkphmoaaDoor
