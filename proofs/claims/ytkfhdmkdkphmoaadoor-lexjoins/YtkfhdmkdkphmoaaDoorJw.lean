/- The contract of LexJoins: it answers true, whatever it is handed. -/
import Derived.Test.YtkfhdmkdkphmoaaDoorJm
import Derived.Test.YtkfhdmkdkphmoaaDoorAw
namespace Go.Proofs.YtkfhdmkdkphmoaaDoor
open Go.RowKit

set_option maxHeartbeats 4000000 in
set_option maxRecDepth 10000 in
theorem joins_any (a b : ByteArray) (w : World) (hCl : Cl w) (hE : Et w) (h1 : 1 < w.heap.size) (ha : a.size ≤ 140737488351232) (hb : b.size ≤ 140737488351232) :
    Calls Tryd.prog 6 #[.string a, .string b] w fun e w' => e = .returned (.bool true) ∧ Below w.heap.size w w' := by
  have AW := awake_any w hCl h1
  go_enter Tryd.func6, Tryd.ntmps6
  go_upto_region 2 with (go_at_call 8; with_reducible refine Calls.mono AW ?_; rintro e w1 ⟨rfl, hb1⟩)
  go_cut [24] from 17 (fun v wx => v = .bool (decide (20000 < a.size + b.size + 1)) ∧ wx = w1)
  case first =>
    clear AW hCl hE h1
    go_wp2
    go_meet
    refine ⟨congrArg Value.bool (decide_eq_decide.2 ?_), rfl⟩
    omega
  case rest =>
    obtain ⟨rfl, rfl⟩ := hcut
    generalize hbd : decide (20000 < a.size + b.size + 1) = bd
    cases bd with
    | true =>
      clear hbd AW hCl hE h1
      go_wp2
      go_ret
      exact ⟨rfl, hb1⟩
    | false =>
      have hsz : a.size + b.size + 1 ≤ 20000 := by have := of_decide_eq_false hbd; omega
      clear hbd ha hb AW
      cases hla : lexL 0 (rest a 0) 0 with
      | error x =>
        obtain ⟨ca, pa⟩ := x
        have LA := fun W (h : Below w.heap.size w W) => lex_bad a W (by omega) (hCl.below h h1) (Nat.lt_of_lt_of_le h1 h.size) hla
        clear hla hCl hE h1
        go_wp2_with (go_at_call 12; with_reducible refine Calls.mono (LA wc hb1) ?_; rintro e w3 ⟨⟨ba, _, rfl, _⟩, hb3⟩)
        go_ret
        exact ⟨rfl, hb1.trans (hb3.mono hb1.size)⟩
      | ok l =>
        have LA := fun W (h : Below w.heap.size w W) => lex_ok a W (by omega) (hCl.below h h1) (Nat.lt_of_lt_of_le h1 h.size) hla
        have hsN : (a ++ ⟨#[10]⟩ ++ b).size ≤ 65536 := by
          rw [ByteArray.size_append, ByteArray.size_append]
          show a.size + 1 + b.size ≤ 65536
          omega
        cases hlb : lexL 0 (rest b 0) 0 with
        | error y =>
          obtain ⟨cb, pb⟩ := y
          have hcb := lexL_err_ne hlb
          have hpb := lexL_err_at _ _ _ _ _ _ (Nat.le_refl _) hlb
          rw [rest_len] at hpb
          have hN := join_bad hla hlb (by omega)
          have LB : ∀ W, Below w.heap.size w W → Calls Tryd.prog 12 #[.string b] W fun e w' => (∃ bn, W.heap.size ≤ bn ∧ e = .returned (.tuple #[.slice none 0 0, .iface 48 (.pointer (some ⟨bn, 0, none⟩))]) ∧ w'.heap[bn]? = some (.cells #[.int .i64 cb, .int .i64 0, .int .i64 pb, .string ⟨#[]⟩] 37 (0, 0))) ∧ Below W.heap.size W w' := fun W h => lex_bad b W (by omega) (hCl.below h h1) (Nat.lt_of_lt_of_le h1 h.size) hlb
          have LN : ∀ W, Below w.heap.size w W → Calls Tryd.prog 12 #[.string (a ++ ⟨#[10]⟩ ++ b)] W fun e w' => (∃ bn, W.heap.size ≤ bn ∧ e = .returned (.tuple #[.slice none 0 0, .iface 48 (.pointer (some ⟨bn, 0, none⟩))]) ∧ w'.heap[bn]? = some (.cells #[.int .i64 cb, .int .i64 0, .int .i64 ((pb : Int) + a.size + 1), .string ⟨#[]⟩] 37 (0, 0))) ∧ Below W.heap.size W w' := fun W h => by
            have := lex_bad _ W hsN (hCl.below h h1) (Nat.lt_of_lt_of_le h1 h.size) hN
            unfold faultCells at this
            rw [show ((pb + (a.size + 1) : Nat) : Int) = (pb : Int) + a.size + 1 by omega] at this
            exact this
          have SN := fun W (h : Below w.heap.size w W) bb hbb => seen_fault bb cb pb W (hE.below h (by omega)) (by have := h.size; omega) hbb
          have FH := fun W (h : Below w.heap.size w W) bn hbn => faulted_hit bn cb ((pb : Int) + a.size + 1) W (by omega) (hE.below h (by omega)) (by have := h.size; omega) hbn
          have qa : a.size ≤ 20000 := by omega
          have qb : b.size ≤ 20000 := by omega
          have qp : pb ≤ 20000 := by omega
          clear hla hlb hN hcb hpb hsN hCl hE h1 hsz
          go_wp2_with (first
            | (go_at_call 12; with_reducible refine Calls.mono (LA wc hb1) ?_; rintro e w3 ⟨⟨tl, rfl, OL⟩, hb3⟩; have B3 := hb1.trans (hb3.mono hb1.size))
            | (go_at_call 12; with_reducible refine Calls.mono (LB w3 B3) ?_; rintro e w4 ⟨⟨bb, hbb0, rfl, hbb⟩, hb4⟩; have B4 := B3.trans (hb4.mono B3.size))
            | (go_at_call 12; with_reducible refine Calls.mono (LN w4 B4) ?_; rintro e w5 ⟨⟨bn, hbn0, rfl, hbn⟩, hb5⟩; have B5 := B4.trans (hb5.mono B4.size); have hbb5 := (hb5.block bb (lt_of_heap hbb)).trans hbb)
            | (go_at_call 14; with_reducible refine Calls.mono (SN w5 B5 bb hbb5) ?_; rintro e w6 ⟨rfl, hb6⟩; have B6 := B5.trans (hb6.mono B5.size); have hbn6 := (hb6.block bn (lt_of_heap hbn)).trans hbn)
            | (go_at_call 15; with_reducible refine Calls.mono (FH _ (B6.alloc B6.size _) bn ((Below.heap_alloc _ _ _ (lt_of_heap hbn6)).trans hbn6)) ?_; rintro e w7 ⟨rfl, hb7⟩))
          go_ret
          exact ⟨rfl, (B6.alloc B6.size _).trans (hb7.mono (B6.alloc B6.size _).size)⟩
        | ok m =>
          have hN := join_ok hla hlb (by omega)
          have LB := fun W (h : Below w.heap.size w W) => lex_ok b W (by omega) (hCl.below h h1) (Nat.lt_of_lt_of_le h1 h.size) hlb
          have LN := fun W (h : Below w.heap.size w W) => lex_ok _ W hsN (hCl.below h h1) (Nat.lt_of_lt_of_le h1 h.size) hN
          have hll := lexL_count _ _ _ _ _ (Nat.le_refl _) hla
          have hml := lexL_count _ _ _ _ _ (Nat.le_refl _) hlb
          have hlat := lexL_at _ _ _ _ _ (Nat.le_refl _) hla
          have hmat := lexL_at _ _ _ _ _ (Nat.le_refl _) hlb
          rw [rest_len] at hll hml hlat hmat
          have M1 : ∀ (W : World) B v, W.ownsRow B 28 4 v l.length (rowCells l) → Calls Tryd.prog 16 #[v, .int .i64 0] W fun e w' => (∃ v', e = .returned v' ∧ w'.ownsRow W.heap.size 28 4 v' l.length (rowCells l)) ∧ Below W.heap.size W w' := fun W B v h => by
            have := moved_any v l 0 _ W h (by omega) (by omega) (fun t ht => by have := hlat t ht; omega)
            rw [mv0] at this
            exact this
          have M2 : ∀ (W : World) B v, W.ownsRow B 28 4 v m.length (rowCells m) → Calls Tryd.prog 16 #[v, .int .i64 ((a.size : Int) + 1)] W fun e w' => (∃ v', e = .returned v' ∧ w'.ownsRow W.heap.size 28 4 v' (m.map (mvT (a.size + 1))).length (rowCells (m.map (mvT (a.size + 1))))) ∧ Below W.heap.size W w' := fun W B v h => by
            rw [List.length_map]
            exact moved_any v m (a.size + 1) _ W h (by omega) (by omega) (fun t ht => by have := hmat t ht; omega)
          have SM : ∀ (X : List Tk) W v u, X.length ≤ 20000 → RowAt W v X → RowAt W u X → Calls Tryd.prog 11 #[v, u] W fun e w' => e = .returned (.bool true) ∧ ∃ n, w' = W.drewN n := fun X W v u hX h h' => by
            have := same_any v u X X W h h' hX hX
            rw [show decide (X = X) = true by simp] at this
            exact this
          have HL2 : Hid (l.length + m.length ≤ 20000) := by show l.length + m.length ≤ 20000; omega
          have SN := seen_nil
          have qa : a.size ≤ 20000 := by omega
          have qb : b.size ≤ 20000 := by omega
          clear hla hlb hN hsN hCl hE h1 hsz hll hml hlat hmat
          go_wp2_with (first
            | (go_at_call 12; with_reducible refine Calls.mono (LA wc hb1) ?_; rintro e w3 ⟨⟨tl, rfl, OL⟩, hb3⟩; have B3 := hb1.trans (hb3.mono hb1.size))
            | (go_at_call 12; with_reducible refine Calls.mono (LB w3 B3) ?_; rintro e w4 ⟨⟨tm, rfl, OM⟩, hb4⟩; have B4 := B3.trans (hb4.mono B3.size); have OL4 := own_below OL hb4)
            | (go_at_call 12; with_reducible refine Calls.mono (LN w4 B4) ?_; rintro e w5 ⟨⟨tn, rfl, ON⟩, hb5⟩; have B5 := B4.trans (hb5.mono B4.size); have OL5 := own_below OL4 hb5; have OM5 := own_below OM hb5)
            | (go_at_call 14; with_reducible refine Calls.mono (SN w5) ?_; rintro e w6 ⟨rfl, hb6⟩; have B6 := B5.trans (hb6.mono B5.size); have OL6 := own_below OL5 hb6; have OM6 := own_below OM5 hb6; have ON6 := own_below ON hb6)
            | (go_at_call 16; with_reducible refine Calls.mono (M1 _ _ _ (OL6.alloc _)) ?_; rintro e w7 ⟨⟨v1, rfl, P1⟩, hb7⟩; have OM7 := own_below (OM6.alloc _) hb7)
            | (go_at_call 16; with_reducible refine Calls.mono (M2 _ _ _ OM7) ?_; rintro e w8 ⟨⟨v2, rfl, P2⟩, hb8⟩; have P18 := own_below P1 hb8)
            | (at_builtin; refine wpList_append_rows rfl _ _ rfl _ _ v1 v2 l _ rfl rfl P18 P2 (by rw [List.length_map]; have := HL2.out; omega) (Nat.le_trans hb7.size hb8.size) ?_; intro v3 w9 P3 hb9; have B9 := (hb7.trans (hb8.mono hb7.size)).trans hb9; have ON9 := own_below (ON6.alloc _) B9)
            | (go_at_call 11; with_reducible refine Calls.mono (SM _ w9 tn v3 (by rw [List.length_append, List.length_map]; exact HL2.out) (RowAt.of_own ON9) (RowAt.of_own P3)) ?_; rintro e w13 ⟨rfl, n1, rfl⟩))
          go_ret
          exact ⟨rfl, below_drewN ((B6.alloc B6.size _).trans (B9.mono (B6.alloc B6.size _).size)) _⟩
end Go.Proofs.YtkfhdmkdkphmoaaDoor
