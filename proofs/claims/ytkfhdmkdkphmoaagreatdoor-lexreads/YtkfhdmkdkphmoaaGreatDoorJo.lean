/- The contract of join, for rows without numbers: tokens as a text. -/
import Derived.Test.YtkfhdmkdkphmoaaGreatDoorWr
import Derived.Test.YtkfhdmkdkphmoaaGreatDoorRowt
import Derived.Deep.AppendLies
namespace Go.Proofs.YtkfhdmkdkphmoaaGreatDoor
open Go.RowKit

/-- The text of a row behind what has been written so far (nothing as yet: f); none: it is too long. -/
def joinL : Bool → List UInt8 → List Tk → Option (List UInt8)
  | _, acc, [] => if 65536 < acc.length then none else some acc
  | f, acc, t :: r => if 65536 < acc.length ∨ 65536 < t.2.1.length then none else joinL false (acc ++ (if f then [] else [32]) ++ writeL t.1 t.2.2.1 t.2.1) r

def joinVal : Option (List UInt8) → Value
  | none => .tuple #[.string ⟨#[]⟩, .int .i64 4]
  | some t => .tuple #[.string ⟨t.toArray⟩, .int .i64 0]

theorem writeL_len (kd nm : Nat) (tx : List UInt8) : (writeL kd nm tx).length ≤ 4 * tx.length + 6 := by
  have h1 := escB_len 39 nm
  have h2 := quote_len 34 tx
  unfold writeL
  split
  · simp; omega
  · split
    · simp; omega
    · omega

/-- The token at hand is as it was behind an append to what is written. -/
theorem tok_kept {B n : Nat} {v v' : Value} {x0 x1 x2 x3 : Value} {o' : Obj} {xs ys : List Value} (wr w2 : World) (t : List UInt8) (_ : w2.ownsRow B 5 1 v' n ys) (hg : ((wr.alloc (Obj.cells #[x0, x1, x2, x3] 39)).alloc o').grownBy w2 v.ownBlock) (hown : wr.ownsRow B 5 1 v t.length xs) :
    w2.cell? ⟨wr.heap.size, 0, none⟩ = some x0 ∧ w2.cell? ⟨wr.heap.size, 1, none⟩ = some x1 ∧ w2.cell? ⟨wr.heap.size, 2, none⟩ = some x2 ∧ w2.cell? ⟨wr.heap.size, 3, none⟩ = some x3 := by
  have hne : v.ownBlock ≠ some wr.heap.size := by
    intro h
    have := (hown.lt _ h).2
    omega
  have hc : ∀ i, w2.cell? ⟨wr.heap.size, i, none⟩ = ((wr.alloc (Obj.cells #[x0, x1, x2, x3] 39)).alloc o').cell? ⟨wr.heap.size, i, none⟩ := fun i => hg.cell_far _ (by simp; omega) (Ne.symm hne)
  refine ⟨(hc 0).trans (by simp), (hc 1).trans (by simp), (hc 2).trans (by simp), (hc 3).trans (by simp)⟩
theorem cells_new2 (w : World) (l : List Value) (N : Nat) (h : w.heap.size = N) : ∀ j u, l[j]? = some u → (w.alloc (Obj.cells l.toArray 5)).cell? ((⟨N, 0, none⟩ : Addr).add j) = some u := by
  subst h
  exact cells_new w l

set_option maxHeartbeats 4000000 in
set_option maxRecDepth 10000 in
theorem join_any (v : Value) (ts : List Tk) (C : Nat) (w : World) (hv : w.ownsRow C 39 4 v ts.length (rowCells ts)) (hl : ts.length ≤ 20000) (h6 : ∀ t ∈ ts, t.1 ≠ 6) (h7 : ∀ t ∈ ts, t.1 = 7 → t.2.2.1 < 256) (hsz : ∀ t ∈ ts, t.2.1.length ≤ 140737488351232) :
    Calls Tryz.prog 15 #[v] w fun e w' => e = .returned (joinVal (joinL true [] ts)) ∧ Below w.heap.size w w' := by
  obtain ⟨B, hB⟩ : ∃ B, B = w.heap.size := ⟨_, rfl⟩
  obtain ⟨i0, hi, hz0, hz1, hz2⟩ := info_parts Tryz.info5
  rw [← hB]
  have HB : Hid (B = w.heap.size) := hB
  have hlt0 := hv.lt
  generalize hR : joinL true [] ts = R
  rcases RowAt.of_own hv with ⟨rfl, rfl⟩ | ⟨g, cap, rfl, hcap, hg⟩
  · clear hB hv
    have HR : Hid (R = some []) := hR.symm
    clear hR
    have hrun := run_string_own (w := w) (B := B) (v := .slice none 0 0) [] (World.ownsRow_nil _ _ _ _)
    go_enter Tryz.func15, Tryz.ntmps15
    go_wp2
    refine wp_loop_rounds 1 ?_
    rw [rounds_succ]
    go_wp2
    go_ret2
    exact ⟨by rw [HR.out]; rfl, Below.refl _ _⟩
  · have hgB : g < B := by rw [hB]; exact (hlt0 g rfl).2
    have HR : Hid (joinL true [] ts = R) := hR
    clear hB hv hlt0 hR
    go_enter Tryz.func15, Tryz.ntmps15
    go_wp2
    go_loopw [4, 9] (fun u i wr => ∃ (j : Nat) (acc : List UInt8), j ≤ ts.length ∧ i = .int .i64 j ∧ acc.length ≤ 1000000 ∧ wr.ownsRow B 5 1 u acc.length (acc.map byteV) ∧ Below B w wr ∧ Hid (joinL (decide (j = 0)) acc (ts.drop j) = R)) (fun _ i _ => ts.length - (intOf i).toNat)
    case atStart => exact ⟨0, [], by omega, by go_num, by simp, World.ownsRow_nil _ _ _ _, Below.refl _ _, HR.out⟩
    case round =>
      obtain ⟨j, acc, hj, rfl, hacc, hown, hbel, HJ⟩ := hrel
      have hBr : B ≤ wr.heap.size := by have := hbel.size; have := HB.out; omega
      obtain ⟨ad, cp, hform⟩ : ∃ ad cp, u4 = .slice ad acc.length cp := by
        rcases hown.2 with ⟨h1, h2⟩ | ⟨g', cap', cur, h1, _⟩
        · exact ⟨none, 0, by rw [h1, h2]⟩
        · exact ⟨_, _, h1⟩
      subst hform
      by_cases hlt : j < ts.length
      · obtain ⟨a0, a1, a2, a3⟩ := hg j hlt
        rw [← hbel.cell (p := ⟨g, j * 4, none⟩) hgB] at a0
        rw [← hbel.cell (p := ⟨g, j * 4 + 1, none⟩) hgB] at a1
        rw [← hbel.cell (p := ⟨g, j * 4 + 2, none⟩) hgB] at a2
        rw [← hbel.cell (p := ⟨g, j * 4 + 3, none⟩) hgB] at a3
        have ng : ¬ g = wr.heap.size := by omega
        have hm := List.getElem_mem hlt
        have k6 := h6 _ hm
        have k7 := h7 _ hm
        have hsj := hsz _ hm
        have hd : ts.drop j = ts[j] :: ts.drop (j + 1) := List.drop_eq_getElem_cons hlt
        have HD : Hid (joinL (decide (j = 0)) acc (ts[j] :: ts.drop (j + 1)) = R) := by rw [← hd]; exact HJ
        have hus : (⟨ts[j].2.1.toArray⟩ : ByteArray).size = ts[j].2.1.length := by show ts[j].2.1.toArray.size = _; simp
        clear hg h6 h7 hsz hd HJ hm
        by_cases hbig : 65536 < acc.length ∨ 65536 < ts[j].2.1.length
        · have HF : Hid (R = none) := by
            show R = none
            rw [← HD.out, joinL, if_pos hbig]
          clear HD
          by_cases ha : 65536 < acc.length
          · have ha' : (65536 : Int) < (acc.length : Int) := by omega
            clear hbig
            go_wp2
            go_ret2
            exact ⟨by rw [HF.out]; rfl, hbel.alloc hBr _⟩
          · have ha' : ¬ (65536 : Int) < (acc.length : Int) := by omega
            have hb' : (65536 : Int) < (ts[j].2.1.length : Int) := by omega
            clear hbig
            go_wp2
            go_ret2
            exact ⟨by rw [HF.out]; rfl, hbel.alloc hBr _⟩
        · have HF : Hid (joinL false (acc ++ (if j = 0 then [] else [32]) ++ writeL ts[j].1 ts[j].2.2.1 ts[j].2.1) (ts.drop (j + 1)) = R) := by
            show joinL false _ _ = R
            rw [← HD.out, joinL, if_neg hbig]
            by_cases h0 : j = 0 <;> simp [h0]
          have ha' : ¬ (65536 : Int) < (acc.length : Int) := by omega
          have hb' : ¬ (65536 : Int) < (ts[j].2.1.length : Int) := by omega
          have hb2 : ts[j].2.1.length ≤ 65536 := by omega
          have hwl := writeL_len ts[j].1 ts[j].2.2.1 ts[j].2.1
          have ha2 : acc.length ≤ 65536 := by omega
          clear hbig HD
          by_cases h0 : j = 0
          · have HF2 : Hid (joinL (decide (j + 1 = 0)) (acc ++ writeL ts[j].1 ts[j].2.2.1 ts[j].2.1) (ts.drop (j + 1)) = R) := by
              show joinL (decide (j + 1 = 0)) _ _ = R
              have := HF.out
              rw [if_pos h0, List.append_nil] at this
              rw [show decide (j + 1 = 0) = false by simp]
              exact this
            have h0' : (j : Int) ≤ 0 := by omega
            have WR := fun W h1 h2 => write_any (.slice ad acc.length cp) acc ts[j].1 ts[j].2.2.1 (ts[j].2.2.2 : Int) ts[j].2.1 B W k6 k7 hb2 h1 (by omega) h2
            generalize writeL ts[j].1 ts[j].2.2.1 ts[j].2.1 = wl at HF2 WR hwl
            have hjl : j + 1 ≤ ts.length := by omega
            clear HF h0 k6 k7
            go_wp2_with (go_at_call 38; refine Calls.mono (WR _ ?_ ?_) ?_; (simp; omega); exact hown.alloc _; rintro e w1 ⟨v1, rfl, G⟩)
            have G' := G.under (hbel.alloc hBr _)
            clear G hown WR
            go_roundw
            case rel => exact ⟨j + 1, acc ++ wl, hjl, by go_num, by simp; omega, G'.own, G'.bel, HF2⟩
            case measure => simp [intOf]; omega
          · have HF2 : Hid (joinL (decide (j + 1 = 0)) ((acc ++ [32]) ++ writeL ts[j].1 ts[j].2.2.1 ts[j].2.1) (ts.drop (j + 1)) = R) := by
              show joinL (decide (j + 1 = 0)) _ _ = R
              have := HF.out
              rw [if_neg h0] at this
              rw [show decide (j + 1 = 0) = false by simp]
              exact this
            have h0' : (0 : Int) < (j : Int) := by omega
            have WR := fun v2 W h1 h2 => write_any v2 (acc ++ [32]) ts[j].1 ts[j].2.2.1 (ts[j].2.2.2 : Int) ts[j].2.1 B W k6 k7 hb2 h1 (by simp; omega) h2
            generalize writeL ts[j].1 ts[j].2.2.1 ts[j].2.1 = wl at HF2 WR hwl
            have hjl : j + 1 ≤ ts.length := by omega
            have ALN : ∀ o : Obj, B ≤ (wr.alloc o).heap.size := fun o => by simp; omega
            clear HF h0 k6 k7
            go_wp2_with (first
              | (at_builtin; refine wpList_append_own _ rfl _ _ 63 rfl B 5 i0 (.int .u8 0) 1 1 Tryz.underlying63 hi hz0 hz1 hz2 rfl (by decide) _ _ _ rfl ((hown.alloc _).alloc _) _ 1 1 [.int .u8 32] rfl rfl (cells_new2 _ _ _ (by simp)) (by intro u hu; simp at hu; subst hu; rfl) (by unfold maxLen; omega) (by omega) (by simp; omega) ?_; intro v2 w2 hown' hgrow hnil; have G2 := app_step [32] rfl rfl (ALN _) (hown.alloc _) hown' hgrow; have hw2 : wr.heap.size + 1 ≤ w2.heap.size := (by have := G2.bel.size; simp at this; omega); have tb0 := tok_kept wr w2 acc hown' hgrow hown; obtain ⟨d0, d1, d2, d3⟩ := tb0; clear hown' hgrow hnil hown)
              | (go_at_call 38; refine Calls.mono (WR _ _ ?_ ?_) ?_; omega; exact G2.own; rintro e w1 ⟨v1, rfl, G⟩))
            have G' := (G.under G2.bel).under (hbel.alloc hBr _)
            clear G G2 WR
            go_roundw
            case rel => exact ⟨j + 1, (acc ++ [32]) ++ wl, hjl, by go_num, by simp; omega, G'.own, G'.bel, HF2⟩
            case measure => simp [intOf]; omega
      · have HF : Hid (R = if 65536 < acc.length then none else some acc) := by
          show R = _
          rw [← HJ.out, List.drop_eq_nil_of_le (by omega)]
          rfl
        have hrun := run_string_own acc hown
        by_cases hb : 65536 < acc.length
        · have HF2 : Hid (R = none) := HF.out.trans (if_pos hb)
          have hb' : (65536 : Int) < (acc.length : Int) := by omega
          clear HF HJ
          go_wp2
          go_ret2
          exact ⟨by rw [HF2.out]; rfl, hbel⟩
        · have HF2 : Hid (R = some acc) := HF.out.trans (if_neg hb)
          have hb' : ¬ (65536 : Int) < (acc.length : Int) := by omega
          clear HF HJ
          go_wp2
          go_ret2
          exact ⟨by rw [HF2.out]; rfl, hbel⟩
end Go.Proofs.YtkfhdmkdkphmoaaGreatDoor
