/- The contract of join: tokens as a text, numbers too. -/
import Derived.Test.YtkfhdmkdkphmoaaDoorWa
import Derived.Test.YtkfhdmkdkphmoaaDoorJo
namespace Go.Proofs.YtkfhdmkdkphmoaaDoor
open Go.RowKit

set_option maxHeartbeats 4000000 in
set_option maxRecDepth 10000 in
theorem join_all (v : Value) (ts : List Tk) (C : Nat) (w : World) (hv : w.ownsRow C 28 4 v ts.length (rowCells ts)) (hl : ts.length ≤ 20000) (hT0 : Tb w.heap.size w) (h6 : ∀ t ∈ ts, t.1 = 6 → t.2.2.1 ≤ 4611686018427387903) (h7 : ∀ t ∈ ts, t.1 = 7 → t.2.2.1 < 256) (hsz : ∀ t ∈ ts, t.2.1.length ≤ 140737488351232) :
    Calls Tryd.prog 21 #[v] w fun e w' => e = .returned (joinVal (joinA true [] ts)) ∧ Below w.heap.size w w' := by
  obtain ⟨B, hB⟩ : ∃ B, B = w.heap.size := ⟨_, rfl⟩
  obtain ⟨i0, hi, hz0, hz1, hz2⟩ := info_parts Tryd.info5
  rw [← hB] at hT0 ⊢
  have HB : Hid (B = w.heap.size) := hB
  have hlt0 := hv.lt
  generalize hR : joinA true [] ts = R
  rcases RowAt.of_own hv with ⟨rfl, rfl⟩ | ⟨g, cap, rfl, hcap, hg⟩
  · clear hB hv
    have HR : Hid (R = some []) := hR.symm
    clear hR
    have hrun := run_string_own (w := w) (B := B) (v := .slice none 0 0) [] (World.ownsRow_nil _ _ _ _)
    go_enter Tryd.func21, Tryd.ntmps21
    go_wp2
    refine wp_loop_rounds 1 ?_
    rw [rounds_succ]
    go_wp2
    go_ret2
    exact ⟨by rw [HR.out]; rfl, Below.refl _ _⟩
  · have hgB : g < B := by rw [hB]; exact (hlt0 g rfl).2
    have HR : Hid (joinA true [] ts = R) := hR
    clear hB hv hlt0 hR
    go_enter Tryd.func21, Tryd.ntmps21
    go_wp2
    go_loopw [4, 9] (fun u i wr => ∃ (j : Nat) (acc : List UInt8), j ≤ ts.length ∧ i = .int .i64 j ∧ acc.length ≤ 1000000 ∧ wr.ownsRow B 5 1 u acc.length (acc.map byteV) ∧ Below B w wr ∧ Hid (joinA (decide (j = 0)) acc (ts.drop j) = R)) (fun _ i _ => ts.length - (intOf i).toNat)
    case atStart => exact ⟨0, [], by omega, by go_num, by simp, World.ownsRow_nil _ _ _ _, Below.refl _ _, HR.out⟩
    case round =>
      obtain ⟨j, acc, hj, rfl, hacc, hown, hbel, HJ⟩ := hrel
      have hBr : B ≤ wr.heap.size := by have := hbel.size; have := HB.out; omega
      obtain ⟨ad, cp, hform⟩ : ∃ ad cp, u4 = .slice ad acc.length cp := by
        rcases hown.2 with ⟨h1, h2⟩ | ⟨g', cap', cur, h1, _⟩
        · exact ⟨none, 0, by rw [h1, h2]⟩
        · exact ⟨_, _, h1⟩
      subst hform
      by_cases hlt : j < ts.length
      · obtain ⟨a0, a1, a2, a3⟩ := hg j hlt
        rw [← hbel.cell (p := ⟨g, j * 4, none⟩) hgB] at a0
        rw [← hbel.cell (p := ⟨g, j * 4 + 1, none⟩) hgB] at a1
        rw [← hbel.cell (p := ⟨g, j * 4 + 2, none⟩) hgB] at a2
        rw [← hbel.cell (p := ⟨g, j * 4 + 3, none⟩) hgB] at a3
        have ng : ¬ g = wr.heap.size := by omega
        have hm := List.getElem_mem hlt
        have k6 := h6 _ hm
        have k7 := h7 _ hm
        have hsj := hsz _ hm
        have hd : ts.drop j = ts[j] :: ts.drop (j + 1) := List.drop_eq_getElem_cons hlt
        have HD : Hid (joinA (decide (j = 0)) acc (ts[j] :: ts.drop (j + 1)) = R) := by rw [← hd]; exact HJ
        have hus : (⟨ts[j].2.1.toArray⟩ : ByteArray).size = ts[j].2.1.length := by show ts[j].2.1.toArray.size = _; simp
        clear hg h6 h7 hsz hd HJ hm
        by_cases hbig : 65536 < acc.length ∨ 65536 < ts[j].2.1.length
        · have HF : Hid (R = none) := by
            show R = none
            rw [← HD.out, joinA, if_pos hbig]
          clear HD
          by_cases ha : 65536 < acc.length
          · have ha' : (65536 : Int) < (acc.length : Int) := by omega
            clear hbig
            go_wp2
            go_ret2
            exact ⟨by rw [HF.out]; rfl, hbel.alloc hBr _⟩
          · have ha' : ¬ (65536 : Int) < (acc.length : Int) := by omega
            have hb' : (65536 : Int) < (ts[j].2.1.length : Int) := by omega
            clear hbig
            go_wp2
            go_ret2
            exact ⟨by rw [HF.out]; rfl, hbel.alloc hBr _⟩
        · have HF : Hid (joinA false (acc ++ (if j = 0 then [] else [32]) ++ writeA ts[j].1 ts[j].2.2.1 ts[j].2.1) (ts.drop (j + 1)) = R) := by
            show joinA false _ _ = R
            rw [← HD.out, joinA, if_neg hbig]
            by_cases h0 : j = 0 <;> simp [h0]
          have ha' : ¬ (65536 : Int) < (acc.length : Int) := by omega
          have hb' : ¬ (65536 : Int) < (ts[j].2.1.length : Int) := by omega
          have hb2 : ts[j].2.1.length ≤ 65536 := by omega
          have hwl := writeA_len ts[j].1 ts[j].2.2.1 ts[j].2.1 k6
          have ha2 : acc.length ≤ 65536 := by omega
          clear hbig HD
          by_cases h0 : j = 0
          · have HF2 : Hid (joinA (decide (j + 1 = 0)) (acc ++ writeA ts[j].1 ts[j].2.2.1 ts[j].2.1) (ts.drop (j + 1)) = R) := by
              show joinA (decide (j + 1 = 0)) _ _ = R
              have := HF.out
              rw [if_pos h0, List.append_nil] at this
              rw [show decide (j + 1 = 0) = false by simp]
              exact this
            have h0' : (j : Int) ≤ 0 := by omega
            have WR := fun W h1 h3 h2 => write_all (.slice ad acc.length cp) acc ts[j].1 ts[j].2.2.1 (ts[j].2.2.2 : Int) ts[j].2.1 B W k6 k7 hb2 h1 (by omega) (hT0.on (h3 : Below B w W)) h2
            generalize writeA ts[j].1 ts[j].2.2.1 ts[j].2.1 = wl at HF2 WR hwl
            have hjl : j + 1 ≤ ts.length := by omega
            clear HF h0 k6 k7
            go_wp2_with (go_at_call 28; refine Calls.mono (WR _ ?_ ?_ ?_) ?_; (simp; omega); exact hbel.alloc hBr _; exact hown.alloc _; rintro e w1 ⟨v1, rfl, G⟩)
            have G' := G.under (hbel.alloc hBr _)
            clear G hown WR
            go_roundw
            case rel => exact ⟨j + 1, acc ++ wl, hjl, by go_num, by simp; omega, G'.own, G'.bel, HF2⟩
            case measure => simp [intOf]; omega
          · have HF2 : Hid (joinA (decide (j + 1 = 0)) ((acc ++ [32]) ++ writeA ts[j].1 ts[j].2.2.1 ts[j].2.1) (ts.drop (j + 1)) = R) := by
              show joinA (decide (j + 1 = 0)) _ _ = R
              have := HF.out
              rw [if_neg h0] at this
              rw [show decide (j + 1 = 0) = false by simp]
              exact this
            have h0' : (0 : Int) < (j : Int) := by omega
            have WR := fun v2 W h1 h3 h2 => write_all v2 (acc ++ [32]) ts[j].1 ts[j].2.2.1 (ts[j].2.2.2 : Int) ts[j].2.1 B W k6 k7 hb2 h1 (by simp; omega) (hT0.on (h3 : Below B w W)) h2
            generalize writeA ts[j].1 ts[j].2.2.1 ts[j].2.1 = wl at HF2 WR hwl
            have hjl : j + 1 ≤ ts.length := by omega
            have ALN : ∀ o : Obj, B ≤ (wr.alloc o).heap.size := fun o => by simp; omega
            clear HF h0 k6 k7
            go_wp2_with (first
              | (at_builtin; refine wpList_append_own _ rfl _ _ 46 rfl B 5 i0 (.int .u8 0) 1 1 Tryd.underlying46 hi hz0 hz1 hz2 rfl (by decide) _ _ _ rfl ((hown.alloc _).alloc _) _ 1 1 [.int .u8 32] rfl rfl (cells_new2 _ _ _ (by simp)) (by intro u hu; simp at hu; subst hu; rfl) (by unfold maxLen; omega) (by omega) (by simp; omega) ?_; intro v2 w2 hown' hgrow hnil; have G2 := app_step [32] rfl rfl (ALN _) (hown.alloc _) hown' hgrow; have hw2 : wr.heap.size + 1 ≤ w2.heap.size := (by have := G2.bel.size; simp at this; omega); have tb0 := tok_kept wr w2 acc hown' hgrow hown; obtain ⟨d0, d1, d2, d3⟩ := tb0; clear hown' hgrow hnil hown)
              | (go_at_call 28; refine Calls.mono (WR _ _ ?_ ?_ ?_) ?_; omega; exact (hbel.alloc hBr _).trans G2.bel; exact G2.own; rintro e w1 ⟨v1, rfl, G⟩))
            have G' := (G.under G2.bel).under (hbel.alloc hBr _)
            clear G G2 WR
            go_roundw
            case rel => exact ⟨j + 1, (acc ++ [32]) ++ wl, hjl, by go_num, by simp; omega, G'.own, G'.bel, HF2⟩
            case measure => simp [intOf]; omega
      · have HF : Hid (R = if 65536 < acc.length then none else some acc) := by
          show R = _
          rw [← HJ.out, List.drop_eq_nil_of_le (by omega)]
          rfl
        have hrun := run_string_own acc hown
        by_cases hb : 65536 < acc.length
        · have HF2 : Hid (R = none) := HF.out.trans (if_pos hb)
          have hb' : (65536 : Int) < (acc.length : Int) := by omega
          clear HF HJ
          go_wp2
          go_ret2
          exact ⟨by rw [HF2.out]; rfl, hbel⟩
        · have HF2 : Hid (R = some acc) := HF.out.trans (if_neg hb)
          have hb' : ¬ (65536 : Int) < (acc.length : Int) := by omega
          clear HF HJ
          go_wp2
          go_ret2
          exact ⟨by rw [HF2.out]; rfl, hbel⟩
end Go.Proofs.YtkfhdmkdkphmoaaDoor
