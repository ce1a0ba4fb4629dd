/- The contract of Print at rows of tokens without numbers: the row's text. -/
import Derived.Test.YtkfhdmkdkphmoaaGreatDoorAw1
namespace Go.Proofs.YtkfhdmkdkphmoaaGreatDoor
open Go.RowKit

set_option maxHeartbeats 4000000 in
set_option maxRecDepth 10000 in
theorem print_any (v : Value) (ts : List Tk) (C : Nat) (w : World) (hC : Cl w) (hw : 1 < w.heap.size) (hv : w.ownsRow C 39 4 v ts.length (rowCells ts)) (hl : ts.length ≤ 20000) (h6 : ∀ t ∈ ts, t.1 ≠ 6) (h7 : ∀ t ∈ ts, t.1 = 7 → t.2.2.1 < 256) (hsz : ∀ t ∈ ts, t.2.1.length ≤ 140737488351232)
    (hok : ∀ t ∈ ts, isTokB t.1 ⟨t.2.1.toArray⟩ t.2.2.1 = true) :
    Calls Tryz.prog 10 #[v] w fun e w' => e = .returned (joinVal (joinL true [] ts)) ∧ Below w.heap.size w w' := by
  obtain ⟨B, hB⟩ : ∃ B, B = w.heap.size := ⟨_, rfl⟩
  rw [← hB]
  have HB : Hid (B = w.heap.size) := hB
  have hlt0 := hv.lt
  have JO : ∀ W, Below B w W → Calls Tryz.prog 15 #[v] W fun e w' => e = .returned (joinVal (joinL true [] ts)) ∧ Below W.heap.size W w' := by
    intro W hb
    refine join_any v ts C W ?_ hl h6 h7 hsz
    refine ⟨hv.1, ?_⟩
    rcases hv.2 with h0 | ⟨g, cap, cur, rfl, hg, hh, rest⟩
    · exact .inl h0
    · exact .inr ⟨g, cap, cur, rfl, hg, (hb.block g (by rw [hB]; exact lt_of_heap hh)).trans hh, rest⟩
  have JV : ∃ x y, joinVal (joinL true [] ts) = .tuple #[.string x, .int .i64 y] := by
    cases joinL true [] ts
    · exact ⟨_, _, rfl⟩
    · exact ⟨_, _, rfl⟩
  obtain ⟨jx, jy, hjv⟩ := JV
  rw [hjv] at JO ⊢
  clear hjv
  rcases RowAt.of_own hv with ⟨rfl, rfl⟩ | ⟨g, cap, rfl, hcap, hg⟩
  · have J := JO w (Below.refl _ _)
    clear hB hv JO
    go_enter Tryz.func10, Tryz.ntmps10
    go_wp2
    refine wp_loop_rounds 1 ?_
    rw [rounds_succ]
    go_wp2_with (go_at_call 15; refine Calls.mono J ?_; rintro e w1 ⟨rfl, hb⟩)
    go_ret2
    exact ⟨rfl, HB.out ▸ hb⟩
  · have hgB : g < B := by rw [hB]; exact (hlt0 g rfl).2
    have hw' : 1 < B := by rw [hB]; exact hw
    clear hB hv hlt0 hw h7
    go_enter Tryz.func10, Tryz.ntmps10
    go_wp2
    go_loopw [11] (fun i wr => ∃ j : Nat, j ≤ ts.length ∧ i = .int .i64 j ∧ Below B w wr) (fun i _ => ts.length - (intOf i).toNat)
    case atStart => exact ⟨0, by omega, by go_num, Below.refl _ _⟩
    case round =>
      obtain ⟨j, hj, rfl, hbel⟩ := hrel
      have hBr : B ≤ wr.heap.size := by have := hbel.size; have := HB.out; omega
      by_cases hlt : j < ts.length
      · obtain ⟨a0, a1, a2, a3⟩ := hg j hlt
        rw [← hbel.cell (p := ⟨g, j * 4, none⟩) hgB] at a0
        rw [← hbel.cell (p := ⟨g, j * 4 + 1, none⟩) hgB] at a1
        rw [← hbel.cell (p := ⟨g, j * 4 + 2, none⟩) hgB] at a2
        rw [← hbel.cell (p := ⟨g, j * 4 + 3, none⟩) hgB] at a3
        have ng : ¬ g = wr.heap.size := by omega
        have hm := List.getElem_mem hlt
        have hok' := hok _ hm
        have hsj := hsz _ hm
        have k6 := h6 _ hm
        have IT : ∀ W, Below B w W → 1 < W.heap.size → Calls Tryz.prog 14 #[.agg #[.int .i64 ts[j].1, .string ⟨ts[j].2.1.toArray⟩, .int .i64 ts[j].2.2.1, .int .i64 ts[j].2.2.2]] W fun e w' => e = .returned (.bool true) ∧ Below W.heap.size W w' := fun W hb hW1 => by
          have := isToken_any (ts[j].1 : Int) (ts[j].2.2.1 : Int) (ts[j].2.2.2 : Int) ⟨ts[j].2.1.toArray⟩ W (by omega) (by show ts[j].2.1.toArray.size ≤ maxLen; unfold maxLen; simp; omega) (hC.below hb hw') hW1
          rw [hok'] at this
          exact this
        clear hg h6 hsz hok hm hok' hsj k6 JO
        go_wp2_with (go_at_call 14; refine Calls.mono (IT _ ?_ ?_) ?_; exact hbel.alloc hBr _; (simp; omega); rintro e w2 ⟨rfl, hb⟩)
        go_roundw
        case rel => exact ⟨j + 1, by omega, by go_num, (hbel.alloc hBr _).trans (hb.mono (by simp; omega))⟩
        case measure => simp [intOf]; omega
      · have J := JO wr hbel
        clear JO
        go_wp2_with (go_at_call 15; refine Calls.mono J ?_; rintro e w1 ⟨rfl, hb⟩)
        go_ret2
        exact ⟨rfl, hbel.trans (hb.mono hBr)⟩

theorem aw_t3 : isTokB 5 ⟨#[45]⟩ 0 = true := by
  have h1 : endOf (· == 8) ⟨#[45]⟩ 0 = 1 := by
    rw [endOf_span (· == 8) _ _ rfl]
    kernel_rfl
  have h2 : kindP ⟨#[45]⟩ = 5 := by
    unfold kindP
    rw [aw_run, if_neg (by decide), if_neg (by decide), if_pos rfl, show runEndP ⟨#[45]⟩ 0 = 1 from h1, if_pos (by rfl)]
    rw [ByteArray.toList_eq]
    kernel_rfl
  simp [isTokB, h2]

theorem aw_print (v : Value) (C : Nat) (w : World) (hC : Cl w) (hw : 1 < w.heap.size) (hv : w.ownsRow C 39 4 v 3 (rowCells awRow)) :
    Calls Tryz.prog 10 #[v] w fun e w' => e = .returned (.tuple #[.string ⟨#[39, 92, 39, 39, 32, 34, 92, 34, 39, 92, 48, 48, 55, 34, 32, 45]⟩, .int .i64 0]) ∧ Below w.heap.size w w' := by
  have := print_any v awRow C w hC hw hv (by decide) (by decide) (by decide) (by decide) (by
    intro t ht
    simp [awRow] at ht
    rcases ht with rfl | rfl | rfl
    · exact aw_t1
    · exact aw_t2
    · exact aw_t3)
  rw [aw_join] at this
  exact this
end Go.Proofs.YtkfhdmkdkphmoaaGreatDoor
