/- What the plain side says of the text and the row that the head of every statement asks. The contract of Print at rows of tokens without numbers: the row's text. The contract of awake: the head of every statement answers true. -/
import Derived.Test.YtkfhdmkdkphmoaaDoorLex
import Derived.Test.YtkfhdmkdkphmoaaDoorJo
import Derived.Test.YtkfhdmkdkphmoaaDoorIt
namespace Go.Proofs.YtkfhdmkdkphmoaaDoor
open Go.RowKit
def awText : ByteArray := ⟨#[102, 32, 120, 39, 32, 61, 32, 77, 46, 103, 40, 120, 39, 41]⟩
def awToks : List Tk := [(1, [102], 0, 0), (1, [120, 39], 0, 2), (11, [61], 0, 5), (3, [77, 46, 103], 0, 7), (9, [40], 0, 10), (1, [120, 39], 0, 11), (9, [41], 0, 13)]
theorem aw_lex : lexL 0 (rest awText 0) 0 = .ok awToks := by
  show lexL 0 [102, 32, 120, 39, 32, 61, 32, 77, 46, 103, 40, 120, 39, 41] 0 = _
  rw [lexL_cons, show stepL [102, 32, 120, 39, 32, 61, 32, 77, 46, 103, 40, 120, 39, 41] = .ok (some (1, [102], 0), 1) from by kernel_rfl]
  simp only [Nat.reduceEqDiff, if_false, Nat.reduceAdd, Nat.reduceSub, List.drop_zero]
  rw [lexL_cons, show stepL [32, 120, 39, 32, 61, 32, 77, 46, 103, 40, 120, 39, 41] = .ok (none, 1) from by kernel_rfl]
  simp only [Nat.reduceAdd, Nat.reduceSub, List.drop_zero]
  rw [lexL_cons, show stepL [120, 39, 32, 61, 32, 77, 46, 103, 40, 120, 39, 41] = .ok (some (1, [120, 39], 0), 2) from by kernel_rfl]
  simp only [Nat.reduceEqDiff, if_false, Nat.reduceAdd, Nat.reduceSub, List.drop_succ_cons, List.drop_zero]
  rw [lexL_cons, show stepL [32, 61, 32, 77, 46, 103, 40, 120, 39, 41] = .ok (none, 1) from by kernel_rfl]
  simp only [Nat.reduceAdd, Nat.reduceSub, List.drop_zero]
  rw [lexL_cons, show stepL [61, 32, 77, 46, 103, 40, 120, 39, 41] = .ok (some (11, [61], 0), 1) from by kernel_rfl]
  simp only [Nat.reduceEqDiff, if_false, Nat.reduceAdd, Nat.reduceSub, List.drop_zero]
  rw [lexL_cons, show stepL [32, 77, 46, 103, 40, 120, 39, 41] = .ok (none, 1) from by kernel_rfl]
  simp only [Nat.reduceAdd, Nat.reduceSub, List.drop_zero]
  rw [lexL_cons, show stepL [77, 46, 103, 40, 120, 39, 41] = .ok (some (3, [77, 46, 103], 0), 3) from by kernel_rfl]
  simp only [Nat.reduceEqDiff, if_false, Nat.reduceAdd, Nat.reduceSub, List.drop_succ_cons, List.drop_zero]
  rw [lexL_cons, show stepL [40, 120, 39, 41] = .ok (some (9, [40], 0), 1) from by kernel_rfl]
  simp only [Nat.reduceEqDiff, if_false, Nat.reduceAdd, Nat.reduceSub, List.drop_zero]
  rw [lexL_cons, show stepL [120, 39, 41] = .ok (some (1, [120, 39], 0), 2) from by kernel_rfl]
  simp only [Nat.reduceEqDiff, if_false, Nat.reduceAdd, Nat.reduceSub, List.drop_succ_cons, List.drop_zero]
  rw [lexL_cons, show stepL [41] = .ok (some (9, [41], 0), 1) from by kernel_rfl]
  simp only [Nat.reduceEqDiff, if_false, Nat.reduceAdd, Nat.reduceSub, List.drop_zero]
  rw [lexL_nil]
  rfl
def awRow : List Tk := [(7, [], 39, 0), (8, [34, 39, 7], 0, 0), (5, [45], 0, 0)]
theorem aw_join : joinL true [] awRow = some [39, 92, 39, 39, 32, 34, 92, 34, 39, 92, 48, 48, 55, 34, 32, 45] := by kernel_rfl
theorem aw_t1 : isTokB 7 ⟨#[]⟩ 39 = true := by kernel_rfl
theorem aw_t2 : isTokB 8 ⟨#[34, 39, 7]⟩ 0 = true := by kernel_rfl
theorem aw_run : clsAt ⟨#[45]⟩ 0 = 8 := by kernel_rfl
end Go.Proofs.YtkfhdmkdkphmoaaDoor

namespace Go.Proofs.YtkfhdmkdkphmoaaDoor
open Go.RowKit

set_option maxHeartbeats 4000000 in
set_option maxRecDepth 10000 in
theorem print_any (v : Value) (ts : List Tk) (C : Nat) (w : World) (hC : Cl w) (hw : 1 < w.heap.size) (hv : w.ownsRow C 28 4 v ts.length (rowCells ts)) (hl : ts.length ≤ 20000) (h6 : ∀ t ∈ ts, t.1 ≠ 6) (h7 : ∀ t ∈ ts, t.1 = 7 → t.2.2.1 < 256) (hsz : ∀ t ∈ ts, t.2.1.length ≤ 140737488351232)
    (hok : ∀ t ∈ ts, isTokB t.1 ⟨t.2.1.toArray⟩ t.2.2.1 = true) :
    Calls Tryd.prog 10 #[v] w fun e w' => e = .returned (joinVal (joinL true [] ts)) ∧ Below w.heap.size w w' := by
  obtain ⟨B, hB⟩ : ∃ B, B = w.heap.size := ⟨_, rfl⟩
  rw [← hB]
  have HB : Hid (B = w.heap.size) := hB
  have hlt0 := hv.lt
  have JO : ∀ W, Below B w W → Calls Tryd.prog 21 #[v] W fun e w' => e = .returned (joinVal (joinL true [] ts)) ∧ Below W.heap.size W w' := by
    intro W hb
    refine join_any v ts C W ?_ hl h6 h7 hsz
    refine ⟨hv.1, ?_⟩
    rcases hv.2 with h0 | ⟨g, cap, cur, rfl, hg, hh, rest⟩
    · exact .inl h0
    · exact .inr ⟨g, cap, cur, rfl, hg, (hb.block g (by rw [hB]; exact lt_of_heap hh)).trans hh, rest⟩
  have JV : ∃ x y, joinVal (joinL true [] ts) = .tuple #[.string x, .int .i64 y] := by
    cases joinL true [] ts
    · exact ⟨_, _, rfl⟩
    · exact ⟨_, _, rfl⟩
  obtain ⟨jx, jy, hjv⟩ := JV
  rw [hjv] at JO ⊢
  clear hjv
  rcases RowAt.of_own hv with ⟨rfl, rfl⟩ | ⟨g, cap, rfl, hcap, hg⟩
  · have J := JO w (Below.refl _ _)
    clear hB hv JO
    go_enter Tryd.func10, Tryd.ntmps10
    go_wp2
    refine wp_loop_rounds 1 ?_
    rw [rounds_succ]
    go_wp2_with (go_at_call 21; refine Calls.mono J ?_; rintro e w1 ⟨rfl, hb⟩)
    go_ret2
    exact ⟨rfl, HB.out ▸ hb⟩
  · have hgB : g < B := by rw [hB]; exact (hlt0 g rfl).2
    have hw' : 1 < B := by rw [hB]; exact hw
    clear hB hv hlt0 hw h7
    go_enter Tryd.func10, Tryd.ntmps10
    go_wp2
    go_loopw [11] (fun i wr => ∃ j : Nat, j ≤ ts.length ∧ i = .int .i64 j ∧ Below B w wr) (fun i _ => ts.length - (intOf i).toNat)
    case atStart => exact ⟨0, by omega, by go_num, Below.refl _ _⟩
    case round =>
      obtain ⟨j, hj, rfl, hbel⟩ := hrel
      have hBr : B ≤ wr.heap.size := by have := hbel.size; have := HB.out; omega
      by_cases hlt : j < ts.length
      · obtain ⟨a0, a1, a2, a3⟩ := hg j hlt
        rw [← hbel.cell (p := ⟨g, j * 4, none⟩) hgB] at a0
        rw [← hbel.cell (p := ⟨g, j * 4 + 1, none⟩) hgB] at a1
        rw [← hbel.cell (p := ⟨g, j * 4 + 2, none⟩) hgB] at a2
        rw [← hbel.cell (p := ⟨g, j * 4 + 3, none⟩) hgB] at a3
        have ng : ¬ g = wr.heap.size := by omega
        have hm := List.getElem_mem hlt
        have hok' := hok _ hm
        have hsj := hsz _ hm
        have k6 := h6 _ hm
        have IT : ∀ W, Below B w W → 1 < W.heap.size → Calls Tryd.prog 20 #[.agg #[.int .i64 ts[j].1, .string ⟨ts[j].2.1.toArray⟩, .int .i64 ts[j].2.2.1, .int .i64 ts[j].2.2.2]] W fun e w' => e = .returned (.bool true) ∧ Below W.heap.size W w' := fun W hb hW1 => by
          have := isToken_any (ts[j].1 : Int) (ts[j].2.2.1 : Int) (ts[j].2.2.2 : Int) ⟨ts[j].2.1.toArray⟩ W (by omega) (by show ts[j].2.1.toArray.size ≤ maxLen; unfold maxLen; simp; omega) (hC.below hb hw') hW1
          rw [hok'] at this
          exact this
        clear hg h6 hsz hok hm hok' hsj k6 JO
        go_wp2_with (go_at_call 20; refine Calls.mono (IT _ ?_ ?_) ?_; exact hbel.alloc hBr _; (simp; omega); rintro e w2 ⟨rfl, hb⟩)
        go_roundw
        case rel => exact ⟨j + 1, by omega, by go_num, (hbel.alloc hBr _).trans (hb.mono (by simp; omega))⟩
        case measure => simp [intOf]; omega
      · have J := JO wr hbel
        clear JO
        go_wp2_with (go_at_call 21; refine Calls.mono J ?_; rintro e w1 ⟨rfl, hb⟩)
        go_ret2
        exact ⟨rfl, hbel.trans (hb.mono hBr)⟩

theorem aw_t3 : isTokB 5 ⟨#[45]⟩ 0 = true := by
  have h1 : endOf (· == 8) ⟨#[45]⟩ 0 = 1 := by
    rw [endOf_span (· == 8) _ _ rfl]
    kernel_rfl
  have h2 : kindP ⟨#[45]⟩ = 5 := by
    unfold kindP
    rw [aw_run, if_neg (by decide), if_neg (by decide), if_pos rfl, show runEndP ⟨#[45]⟩ 0 = 1 from h1, if_pos (by rfl)]
    rw [ByteArray.toList_eq]
    kernel_rfl
  simp [isTokB, h2]

theorem aw_print (v : Value) (C : Nat) (w : World) (hC : Cl w) (hw : 1 < w.heap.size) (hv : w.ownsRow C 28 4 v 3 (rowCells awRow)) :
    Calls Tryd.prog 10 #[v] w fun e w' => e = .returned (.tuple #[.string ⟨#[39, 92, 39, 39, 32, 34, 92, 34, 39, 92, 48, 48, 55, 34, 32, 45]⟩, .int .i64 0]) ∧ Below w.heap.size w w' := by
  have := print_any v awRow C w hC hw hv (by decide) (by decide) (by decide) (by decide) (by
    intro t ht
    simp [awRow] at ht
    rcases ht with rfl | rfl | rfl
    · exact aw_t1
    · exact aw_t2
    · exact aw_t3)
  rw [aw_join] at this
  exact this
end Go.Proofs.YtkfhdmkdkphmoaaDoor

namespace Go.Proofs.YtkfhdmkdkphmoaaDoor
open Go.RowKit

def awCells : Array Value := (rowCells awToks).toArray
def awCells3 : Array Value := (rowCells awRow).toArray

set_option maxHeartbeats 4000000 in
set_option maxRecDepth 10000 in
theorem awake_any (w : World) (hC : Cl w) (hw : 1 < w.heap.size) :
    Calls Tryd.prog 8 #[] w fun e w' => e = .returned (.bool true) ∧ Below w.heap.size w w' := by
  have LX : Calls Tryd.prog 12 #[.string ⟨#[102, 32, 120, 39, 32, 61, 32, 77, 46, 103, 40, 120, 39, 41]⟩] w fun e w' => (∃ tk, e = .returned (.tuple #[tk, .nilIface]) ∧ w'.ownsRow w.heap.size 28 4 tk 7 (rowCells awToks)) ∧ Below w.heap.size w w' := by
    have := lex_any awText w (by decide) hC hw
    rw [aw_lex] at this
    exact this
  have SM : ∀ W v1 v2, RowAt W v1 awToks → RowAt W v2 awToks → Calls Tryd.prog 11 #[v1, v2] W fun e w' => e = .returned (.bool true) ∧ ∃ n, w' = W.drewN n := fun W v1 v2 h1 h2 => by
    have := same_any v1 v2 awToks awToks W h1 h2 (by decide) (by decide)
    rw [show decide (awToks = awToks) = true by simp] at this
    exact this
  have L7 : ∀ W : World, RowAt (W.alloc (Obj.cells awCells 28)) (.slice (some ⟨W.heap.size, 0, none⟩) 7 7) awToks := fun W =>
    RowAt.of_own (B := 0) (World.ownsRow_lit W awCells 7 (Nat.zero_le _) (by unfold maxLen; omega) rfl)
  have L3 : ∀ (W : World) (N n : Nat), W.heap.size = N → ((W.alloc (Obj.cells awCells3 28)).drewN n).ownsRow 0 28 4 (.slice (some ⟨N, 0, none⟩) 3 3) 3 (rowCells awRow) := fun W N n h => by
    subst h
    exact World.ownsRow_lit W awCells3 3 (Nat.zero_le _) (by unfold maxLen; omega) rfl
  go_enter Tryd.func8, Tryd.ntmps8
  go_wp2_with (first
    | (go_at_call 12; refine Calls.mono LX ?_; rintro e w1 ⟨⟨tk, rfl, hown⟩, hb⟩; obtain ⟨ad, cap, rfl⟩ := own_form hown)
    | (go_at_call 11; refine Calls.mono (SM _ _ _ ?_ ?_) ?_; exact RowAt.of_own (hown.alloc _); exact L7 _; rintro e w2 ⟨rfl, n, rfl⟩))
  have hz := hb.size
  have hB3 : ∀ o o' m, Below w.heap.size w (((w1.alloc o).alloc o').drewN m) := fun o o' m => below_drewN ((hb.alloc hz o).alloc (by simp; omega) o') m
  refine Calls.mono (aw_print _ 0 _ ?_ ?_ ?_) ?_
  · exact hC.below (hB3 _ _ _) hw
  · exact Nat.lt_of_lt_of_le hw (hB3 _ _ _).size
  · exact L3 _ _ 0 (by simp)
  · rintro e w3 ⟨rfl, hb3⟩
    go_wp2
    go_ret
    exact ⟨rfl, (hB3 _ _ _).trans (hb3.mono (by simp; omega))⟩
end Go.Proofs.YtkfhdmkdkphmoaaDoor
