/- LexWrites: rows of tokens that came in, what Print and alike answer of them, and that LexWrites answers true, whatever row it is handed. -/
import Derived.Test.YtkfhdmkdkphmoaaDoorWa
import Derived.Test.YtkfhdmkdkphmoaaDoorPa
import Derived.Test.YtkfhdmkdkphmoaaDoorLb
import Derived.Deep.Slices
import Derived.WideShapes
import Derived.ChangeArms
import Derived.Test.YtkfhdmkdkphmoaaDoorBw
namespace Go.Proofs.YtkfhdmkdkphmoaaDoor

theorem dash_of_kind {l : List UInt8} (h : runKindP l ≠ 0) : ¬ dashB l = true := by
  intro hd
  unfold runKindP at h
  split at h
  · rename_i hc
    simp only [Bool.or_eq_true, beq_iff_eq] at hc
    rcases hc with ((rfl | rfl) | rfl) | rfl
    all_goals exact absurd hd (by decide)
  · exact h rfl
theorem step_plainly {x : List UInt8} {kd : Nat} (h6 : clsHd x ≠ 6) (hp : ¬ [123, 45].isPrefixOf x = true) (hd : ¬ dashB (x.take (runLen x)) = true) (ht : tokL x = .ok (kd, x, 0, x.length)) : stepL x = .ok (some (kd, x, 0), x.length) := by
  unfold stepL
  rw [if_neg h6, if_neg hp, if_neg hd, ht]
theorem prefix_cls {x : List UInt8} (hc : clsHd x ≠ 9) : ¬ [123, 45].isPrefixOf x = true := by
  cases x with
  | nil => simp
  | cons c r =>
    intro h
    simp [List.isPrefixOf] at h
    apply hc
    show cls c.toNat = 9
    rw [← h.1]
    decide
theorem step_of_kind {s : ByteArray} (h0 : kindP s ≠ 0) : s.data.toList ≠ [] ∧ stepL s.data.toList = .ok (some (kindP s, s.data.toList, 0), s.data.toList.length) := by
  have hr : rest s 0 = s.data.toList := by simp [rest]
  have hsz : s.size = s.data.toList.length := by simp
  have htl : s.toList = s.data.toList := by rw [ByteArray.toList_eq]
  have e1 : nameEndP s 0 = nameLen s.data.toList := by
    have := endOf_span nsB s 0 rfl
    rw [hr, Nat.zero_add] at this
    exact this
  have e2 : runEndP s 0 = runLen s.data.toList := by
    have := endOf_span (· == 8) s 0 rfl
    rw [hr, Nat.zero_add] at this
    exact this
  have e3 : upperEndP s 0 = upperL s.data.toList := by
    rw [upperEnd_L _ _ (by omega), hr, Nat.zero_add]
  have ne : ∀ {k : Nat}, k ≠ 0 → clsHd s.data.toList = k → s.data.toList ≠ [] := by
    intro k hk hc e
    rw [e] at hc
    exact hk hc.symm
  unfold kindP at h0 ⊢
  rw [clsAt_rest, hr, e1, e2, e3, hsz, htl] at h0 ⊢
  generalize s.data.toList = x at *
  have z8 : clsHd x ≠ 8 → ¬ dashB (x.take (runLen x)) = true := by
    intro h
    rw [run_zero h]
    simp [dashB]
  split at h0
  · rename_i hc
    rw [if_pos hc]
    split at h0
    · rename_i hl
      rw [if_pos hl]
      refine ⟨ne (by decide) hc, step_plainly (by omega) (prefix_cls (by omega)) (z8 (by omega)) ?_⟩
      unfold tokL
      rw [if_pos hc, hl, List.take_length]
    · exact absurd rfl h0
  rename_i hc1
  rw [if_neg hc1]
  split at h0
  · rename_i hc
    rw [if_pos hc]
    split at h0
    · rename_i hl
      rw [if_pos hl]
      refine ⟨ne (by decide) hc, step_plainly (by omega) (prefix_cls (by omega)) (z8 (by omega)) ?_⟩
      unfold tokL
      rw [if_neg hc1, if_pos hc, hl, List.take_length]
    · exact absurd rfl h0
  rename_i hc2
  rw [if_neg hc2]
  split at h0
  · rename_i hc
    rw [if_pos hc]
    split at h0
    · rename_i hl
      rw [if_pos hl]
      refine ⟨ne (by decide) hc, step_plainly (by omega) (prefix_cls (by omega)) (by rw [hl, List.take_length]; exact dash_of_kind h0) ?_⟩
      unfold tokL
      rw [hc, if_neg (by decide), if_neg (by decide), if_neg (by decide), if_neg (by decide), if_neg (by decide), if_pos rfl, hl, List.take_length, if_neg h0]
    · exact absurd rfl h0
  rename_i hc8
  rw [if_neg hc8]
  split at h0
  · rename_i hc
    rw [if_pos hc]
    split at h0
    · rename_i hl
      rw [if_pos hl]
      obtain ⟨c, rfl⟩ : ∃ c, x = [c] := List.length_eq_one_iff.1 hl.symm
      refine ⟨by simp, step_plainly (by omega) (by simp [List.isPrefixOf]) (z8 (by omega)) ?_⟩
      unfold tokL
      rcases hc with hc | hc
      · rw [hc, if_neg (by decide), if_neg (by decide), if_neg (by decide), if_neg (by decide), if_neg (by decide), if_neg (by decide), if_pos rfl]
        rfl
      · rw [hc, if_neg (by decide), if_neg (by decide), if_neg (by decide), if_neg (by decide), if_neg (by decide), if_neg (by decide), if_neg (by decide), if_pos rfl]
        rfl
    · exact absurd rfl h0
  · exact absurd rfl h0
theorem good_of_tok {kd nm : Int} {s : ByteArray} (h : isTokA kd s nm = true) : kd = (kd.toNat : Int) ∧ nm = (nm.toNat : Int) ∧ GoodT kd.toNat s.data.toList nm.toNat := by
  unfold isTokA at h
  split at h
  · rename_i hk
    subst hk
    simp only [Bool.and_eq_true, decide_eq_true_eq, beq_iff_eq] at h
    obtain ⟨⟨h1, h2⟩, h3⟩ := h
    rw [ByteArray.toList_eq] at h1
    exact ⟨rfl, by omega, .inl ⟨rfl, h1, by omega⟩⟩
  · rename_i h6
    unfold isTokB at h
    split at h
    · cases h
    · rename_i hk0
      split at h
      · rename_i hk
        subst hk
        simp only [Bool.and_eq_true, decide_eq_true_eq, beq_iff_eq] at h
        obtain ⟨⟨h1, h2⟩, h3⟩ := h
        rw [ByteArray.toList_eq] at h1
        exact ⟨rfl, by omega, .inr (.inl ⟨rfl, h1, by omega⟩)⟩
      · rename_i h7
        split at h
        · rename_i hk
          subst hk
          simp only [decide_eq_true_eq] at h
          subst h
          exact ⟨rfl, rfl, .inr (.inr (.inl ⟨rfl, rfl⟩))⟩
        · rename_i h8
          simp only [Bool.and_eq_true, decide_eq_true_eq] at h
          obtain ⟨rfl, hk⟩ := h
          obtain ⟨n1, n2⟩ := step_of_kind (s := s) (by omega)
          have e : kd.toNat = kindP s := by omega
          refine ⟨by omega, rfl, .inr (.inr (.inr ⟨by omega, by omega, by omega, rfl, n1, ?_⟩))⟩
          rw [e]
          exact n2
end Go.Proofs.YtkfhdmkdkphmoaaDoor

namespace Go.Proofs.YtkfhdmkdkphmoaaDoor
open Go.RowKit

/-- A row of tokens that lies in memory wherever it may; the tokens' places are told by A. -/
def RowX (w : World) (v : Value) (ts : List Tk) (A : Nat → Int) : Prop :=
  (∃ ad cap, v = .slice ad 0 cap ∧ ts = []) ∨ ∃ g o cap, v = .slice (some ⟨g, o, none⟩) ts.length cap ∧ ts.length ≤ cap ∧ g < w.heap.size ∧
    ∀ j (h : j < ts.length), w.cell? ⟨g, o + j * 4, none⟩ = some (.int .i64 ts[j].1) ∧ w.cell? ⟨g, o + j * 4 + 1, none⟩ = some (.string ⟨ts[j].2.1.toArray⟩) ∧ w.cell? ⟨g, o + j * 4 + 2, none⟩ = some (.int .i64 ts[j].2.2.1) ∧ w.cell? ⟨g, o + j * 4 + 3, none⟩ = some (.int .i64 (A j))
theorem RowX.below {w w' : World} {v : Value} {ts : List Tk} {A : Nat → Int} (h : RowX w v ts A) (hb : Below w.heap.size w w') : RowX w' v ts A := by
  rcases h with h0 | ⟨g, o, cap, rfl, hcap, hg, hc⟩
  · exact .inl h0
  · refine .inr ⟨g, o, cap, rfl, hcap, Nat.lt_of_lt_of_le hg hb.size, fun j hj => ?_⟩
    obtain ⟨a0, a1, a2, a3⟩ := hc j hj
    exact ⟨(hb.cell (p := ⟨g, o + j * 4, none⟩) hg).trans a0, (hb.cell (p := ⟨g, o + j * 4 + 1, none⟩) hg).trans a1, (hb.cell (p := ⟨g, o + j * 4 + 2, none⟩) hg).trans a2, (hb.cell (p := ⟨g, o + j * 4 + 3, none⟩) hg).trans a3⟩

set_option maxHeartbeats 4000000 in
set_option maxRecDepth 10000 in
theorem join_x (v : Value) (ts : List Tk) (A : Nat → Int) (w : World) (hv : RowX w v ts A) (hl : ts.length ≤ 20000) (hT0 : Tb w.heap.size w) (h6 : ∀ t ∈ ts, t.1 = 6 → t.2.2.1 ≤ 4611686018427387903) (h7 : ∀ t ∈ ts, t.1 = 7 → t.2.2.1 < 256) (hsz : ∀ t ∈ ts, t.2.1.length ≤ 9223372036854775807) :
    Calls Tryd.prog 21 #[v] w fun e w' => e = .returned (joinVal (joinA true [] ts)) ∧ Below w.heap.size w w' := by
  obtain ⟨B, hB⟩ : ∃ B, B = w.heap.size := ⟨_, rfl⟩
  obtain ⟨i0, hi, hz0, hz1, hz2⟩ := info_parts Tryd.info5
  rw [← hB] at hT0 ⊢
  have HB : Hid (B = w.heap.size) := hB
  generalize hR : joinA true [] ts = R
  rcases hv with ⟨ad0, cap0, rfl, rfl⟩ | ⟨g, o, cap, rfl, hcap, hgw, hg⟩
  · clear hB
    have HR : Hid (R = some []) := hR.symm
    clear hR
    have hrun := run_string_own (w := w) (B := B) (v := .slice none 0 0) [] (World.ownsRow_nil _ _ _ _)
    go_enter Tryd.func21, Tryd.ntmps21
    go_wp2
    refine wp_loop_rounds 1 ?_
    rw [rounds_succ]
    go_wp2
    go_ret2
    exact ⟨by rw [HR.out]; rfl, Below.refl _ _⟩
  · have hgB : g < B := by rw [hB]; exact hgw
    have HR : Hid (joinA true [] ts = R) := hR
    clear hB hgw hR
    go_enter Tryd.func21, Tryd.ntmps21
    go_wp2
    go_loopw [4, 9] (fun u i wr => ∃ (j : Nat) (acc : List UInt8), j ≤ ts.length ∧ i = .int .i64 j ∧ acc.length ≤ 1000000 ∧ wr.ownsRow B 5 1 u acc.length (acc.map byteV) ∧ Below B w wr ∧ Hid (joinA (decide (j = 0)) acc (ts.drop j) = R)) (fun _ i _ => ts.length - (intOf i).toNat)
    case atStart => exact ⟨0, [], by omega, by go_num, by simp, World.ownsRow_nil _ _ _ _, Below.refl _ _, HR.out⟩
    case round =>
      obtain ⟨j, acc, hj, rfl, hacc, hown, hbel, HJ⟩ := hrel
      have hBr : B ≤ wr.heap.size := by have := hbel.size; have := HB.out; omega
      obtain ⟨ad, cp, hform⟩ : ∃ ad cp, u4 = .slice ad acc.length cp := by
        rcases hown.2 with ⟨h1, h2⟩ | ⟨g', cap', cur, h1, _⟩
        · exact ⟨none, 0, by rw [h1, h2]⟩
        · exact ⟨_, _, h1⟩
      subst hform
      by_cases hlt : j < ts.length
      · obtain ⟨a0, a1, a2, a3⟩ := hg j hlt
        rw [← hbel.cell (p := ⟨g, o + j * 4, none⟩) hgB] at a0
        rw [← hbel.cell (p := ⟨g, o + j * 4 + 1, none⟩) hgB] at a1
        rw [← hbel.cell (p := ⟨g, o + j * 4 + 2, none⟩) hgB] at a2
        rw [← hbel.cell (p := ⟨g, o + j * 4 + 3, none⟩) hgB] at a3
        have ng : ¬ g = wr.heap.size := by omega
        have hm := List.getElem_mem hlt
        have k6 := h6 _ hm
        have k7 := h7 _ hm
        have hsj := hsz _ hm
        have hd : ts.drop j = ts[j] :: ts.drop (j + 1) := List.drop_eq_getElem_cons hlt
        have HD : Hid (joinA (decide (j = 0)) acc (ts[j] :: ts.drop (j + 1)) = R) := by rw [← hd]; exact HJ
        have hus : (⟨ts[j].2.1.toArray⟩ : ByteArray).size = ts[j].2.1.length := by show ts[j].2.1.toArray.size = _; simp
        clear hg h6 h7 hsz hd HJ hm
        by_cases hbig : 65536 < acc.length ∨ 65536 < ts[j].2.1.length
        · have HF : Hid (R = none) := by
            show R = none
            rw [← HD.out, joinA, if_pos hbig]
          clear HD
          by_cases ha : 65536 < acc.length
          · have ha' : (65536 : Int) < (acc.length : Int) := by omega
            clear hbig
            go_wp2
            go_ret2
            exact ⟨by rw [HF.out]; rfl, hbel.alloc hBr _⟩
          · have ha' : ¬ (65536 : Int) < (acc.length : Int) := by omega
            have hb' : (65536 : Int) < (ts[j].2.1.length : Int) := by omega
            clear hbig
            go_wp2
            go_ret2
            exact ⟨by rw [HF.out]; rfl, hbel.alloc hBr _⟩
        · have HF : Hid (joinA false (acc ++ (if j = 0 then [] else [32]) ++ writeA ts[j].1 ts[j].2.2.1 ts[j].2.1) (ts.drop (j + 1)) = R) := by
            show joinA false _ _ = R
            rw [← HD.out, joinA, if_neg hbig]
            by_cases h0 : j = 0 <;> simp [h0]
          have ha' : ¬ (65536 : Int) < (acc.length : Int) := by omega
          have hb' : ¬ (65536 : Int) < (ts[j].2.1.length : Int) := by omega
          have hb2 : ts[j].2.1.length ≤ 65536 := by omega
          have hwl := writeA_len ts[j].1 ts[j].2.2.1 ts[j].2.1 k6
          have ha2 : acc.length ≤ 65536 := by omega
          clear hbig HD
          by_cases h0 : j = 0
          · have HF2 : Hid (joinA (decide (j + 1 = 0)) (acc ++ writeA ts[j].1 ts[j].2.2.1 ts[j].2.1) (ts.drop (j + 1)) = R) := by
              show joinA (decide (j + 1 = 0)) _ _ = R
              have := HF.out
              rw [if_pos h0, List.append_nil] at this
              rw [show decide (j + 1 = 0) = false by simp]
              exact this
            have h0' : (j : Int) ≤ 0 := by omega
            have WR := fun W h1 h3 h2 => write_all (.slice ad acc.length cp) acc ts[j].1 ts[j].2.2.1 (A j) ts[j].2.1 B W k6 k7 hb2 h1 (by omega) (hT0.on (h3 : Below B w W)) h2
            generalize writeA ts[j].1 ts[j].2.2.1 ts[j].2.1 = wl at HF2 WR hwl
            have hjl : j + 1 ≤ ts.length := by omega
            clear HF h0 k6 k7
            go_wp2_with (go_at_call 28; refine Calls.mono (WR _ ?_ ?_ ?_) ?_; (simp; omega); exact hbel.alloc hBr _; exact hown.alloc _; rintro e w1 ⟨v1, rfl, G⟩)
            have G' := G.under (hbel.alloc hBr _)
            clear G hown WR
            go_roundw
            case rel => exact ⟨j + 1, acc ++ wl, hjl, by go_num, by simp; omega, G'.own, G'.bel, HF2⟩
            case measure => simp [intOf]; omega
          · have HF2 : Hid (joinA (decide (j + 1 = 0)) ((acc ++ [32]) ++ writeA ts[j].1 ts[j].2.2.1 ts[j].2.1) (ts.drop (j + 1)) = R) := by
              show joinA (decide (j + 1 = 0)) _ _ = R
              have := HF.out
              rw [if_neg h0] at this
              rw [show decide (j + 1 = 0) = false by simp]
              exact this
            have h0' : (0 : Int) < (j : Int) := by omega
            have WR := fun v2 W h1 h3 h2 => write_all v2 (acc ++ [32]) ts[j].1 ts[j].2.2.1 (A j) ts[j].2.1 B W k6 k7 hb2 h1 (by simp; omega) (hT0.on (h3 : Below B w W)) h2
            generalize writeA ts[j].1 ts[j].2.2.1 ts[j].2.1 = wl at HF2 WR hwl
            have hjl : j + 1 ≤ ts.length := by omega
            have ALN : ∀ o : Obj, B ≤ (wr.alloc o).heap.size := fun o => by simp; omega
            clear HF h0 k6 k7
            go_wp2_with (first
              | (at_builtin; refine wpList_append_own _ rfl _ _ 46 rfl B 5 i0 (.int .u8 0) 1 1 Tryd.underlying46 hi hz0 hz1 hz2 rfl (by decide) _ _ _ rfl ((hown.alloc _).alloc _) _ 1 1 [.int .u8 32] rfl rfl (cells_new2 _ _ _ (by simp)) (by intro u hu; simp at hu; subst hu; rfl) (by unfold maxLen; omega) (by omega) (by simp; omega) ?_; intro v2 w2 hown' hgrow hnil; have G2 := app_step [32] rfl rfl (ALN _) (hown.alloc _) hown' hgrow; have hw2 : wr.heap.size + 1 ≤ w2.heap.size := (by have := G2.bel.size; simp at this; omega); have tb0 := tok_kept wr w2 acc hown' hgrow hown; obtain ⟨d0, d1, d2, d3⟩ := tb0; clear hown' hgrow hnil hown)
              | (go_at_call 28; refine Calls.mono (WR _ _ ?_ ?_ ?_) ?_; omega; exact (hbel.alloc hBr _).trans G2.bel; exact G2.own; rintro e w1 ⟨v1, rfl, G⟩))
            have G' := (G.under G2.bel).under (hbel.alloc hBr _)
            clear G G2 WR
            go_roundw
            case rel => exact ⟨j + 1, (acc ++ [32]) ++ wl, hjl, by go_num, by simp; omega, G'.own, G'.bel, HF2⟩
            case measure => simp [intOf]; omega
      · have HF : Hid (R = if 65536 < acc.length then none else some acc) := by
          show R = _
          rw [← HJ.out, List.drop_eq_nil_of_le (by omega)]
          rfl
        have hrun := run_string_own acc hown
        by_cases hb : 65536 < acc.length
        · have HF2 : Hid (R = none) := HF.out.trans (if_pos hb)
          have hb' : (65536 : Int) < (acc.length : Int) := by omega
          clear HF HJ
          go_wp2
          go_ret2
          exact ⟨by rw [HF2.out]; rfl, hbel⟩
        · have HF2 : Hid (R = some acc) := HF.out.trans (if_neg hb)
          have hb' : ¬ (65536 : Int) < (acc.length : Int) := by omega
          clear HF HJ
          go_wp2
          go_ret2
          exact ⟨by rw [HF2.out]; rfl, hbel⟩

set_option maxHeartbeats 4000000 in
set_option maxRecDepth 10000 in
theorem print_x (v : Value) (ts : List Tk) (A : Nat → Int) (w : World) (hC : Cl w) (hw : 1 < w.heap.size) (hv : RowX w v ts A) (hl : ts.length ≤ 20000) (hT : ∀ W, Below w.heap.size w W → Tb W.heap.size W) (h6 : ∀ t ∈ ts, t.1 = 6 → t.2.2.1 ≤ 4611686018427387903) (h7 : ∀ t ∈ ts, t.1 = 7 → t.2.2.1 < 256) (hsz : ∀ t ∈ ts, t.2.1.length ≤ 9223372036854775807)
    (hok : ∀ t ∈ ts, isTokA t.1 ⟨t.2.1.toArray⟩ t.2.2.1 = true) :
    Calls Tryd.prog 10 #[v] w fun e w' => e = .returned (joinVal (joinA true [] ts)) ∧ Below w.heap.size w w' := by
  obtain ⟨B, hB⟩ : ∃ B, B = w.heap.size := ⟨_, rfl⟩
  rw [← hB] at hT ⊢
  have HB : Hid (B = w.heap.size) := hB
  have JO : ∀ W, Below B w W → Calls Tryd.prog 21 #[v] W fun e w' => e = .returned (joinVal (joinA true [] ts)) ∧ Below W.heap.size W w' := by
    intro W hb
    refine join_x v ts A W (hv.below (by rw [← hB]; exact hb)) hl (hT W hb) h6 h7 hsz
  have JV : ∃ x y, joinVal (joinA true [] ts) = .tuple #[.string x, .int .i64 y] := by
    cases joinA true [] ts
    · exact ⟨_, _, rfl⟩
    · exact ⟨_, _, rfl⟩
  obtain ⟨jx, jy, hjv⟩ := JV
  rw [hjv] at JO ⊢
  clear hjv
  rcases hv with ⟨ad0, cap0, rfl, rfl⟩ | ⟨g, o, cap, rfl, hcap, hgw, hg⟩
  · have J := JO w (Below.refl _ _)
    clear hB JO hT
    go_enter Tryd.func10, Tryd.ntmps10
    go_wp2
    refine wp_loop_rounds 1 ?_
    rw [rounds_succ]
    go_wp2_with (go_at_call 21; refine Calls.mono J ?_; rintro e w1 ⟨rfl, hb⟩)
    go_ret2
    exact ⟨rfl, HB.out ▸ hb⟩
  · have hgB : g < B := by rw [hB]; exact hgw
    have hw' : 1 < B := by rw [hB]; exact hw
    clear hB hgw hw h7 hT
    go_enter Tryd.func10, Tryd.ntmps10
    go_wp2
    go_loopw [11] (fun i wr => ∃ j : Nat, j ≤ ts.length ∧ i = .int .i64 j ∧ Below B w wr) (fun i _ => ts.length - (intOf i).toNat)
    case atStart => exact ⟨0, by omega, by go_num, Below.refl _ _⟩
    case round =>
      obtain ⟨j, hj, rfl, hbel⟩ := hrel
      have hBr : B ≤ wr.heap.size := by have := hbel.size; have := HB.out; omega
      by_cases hlt : j < ts.length
      · obtain ⟨a0, a1, a2, a3⟩ := hg j hlt
        rw [← hbel.cell (p := ⟨g, o + j * 4, none⟩) hgB] at a0
        rw [← hbel.cell (p := ⟨g, o + j * 4 + 1, none⟩) hgB] at a1
        rw [← hbel.cell (p := ⟨g, o + j * 4 + 2, none⟩) hgB] at a2
        rw [← hbel.cell (p := ⟨g, o + j * 4 + 3, none⟩) hgB] at a3
        have ng : ¬ g = wr.heap.size := by omega
        have hm := List.getElem_mem hlt
        have hok' := hok _ hm
        have hsj := hsz _ hm
        have IT : ∀ W, Below B w W → 1 < W.heap.size → Calls Tryd.prog 20 #[.agg #[.int .i64 ts[j].1, .string ⟨ts[j].2.1.toArray⟩, .int .i64 ts[j].2.2.1, .int .i64 (A j)]] W fun e w' => e = .returned (.bool true) ∧ Below W.heap.size W w' := fun W hb hW1 => by
          have := isToken_all (ts[j].1 : Int) (ts[j].2.2.1 : Int) (A j) ⟨ts[j].2.1.toArray⟩ W (by show ts[j].2.1.toArray.size ≤ maxLen; unfold maxLen; simp; omega) (hC.below hb hw') hW1
          rw [hok'] at this
          exact this
        clear hg h6 hsz hok hm hok' hsj JO
        go_wp2_with (go_at_call 20; refine Calls.mono (IT _ ?_ ?_) ?_; exact hbel.alloc hBr _; (simp; omega); rintro e w2 ⟨rfl, hb⟩)
        go_roundw
        case rel => exact ⟨j + 1, by omega, by go_num, (hbel.alloc hBr _).trans (hb.mono (by simp; omega))⟩
        case measure => simp [intOf]; omega
      · have J := JO wr hbel
        clear JO
        go_wp2_with (go_at_call 21; refine Calls.mono J ?_; rintro e w1 ⟨rfl, hb⟩)
        go_ret2
        exact ⟨rfl, hbel.trans (hb.mono hBr)⟩

end Go.Proofs.YtkfhdmkdkphmoaaDoor

namespace Go.Proofs.YtkfhdmkdkphmoaaDoor
open Go.RowKit

/-- A row that lies in memory wherever it may: kinds, texts, numbers and places. -/
def RowI (w : World) (v : Value) (n : Nat) (K : Nat → Int) (S : Nat → ByteArray) (N A : Nat → Int) : Prop :=
  (∃ ad cap, v = .slice ad 0 cap ∧ n = 0) ∨ ∃ g o cap, v = .slice (some ⟨g, o, none⟩) n cap ∧ n ≤ cap ∧ g < w.heap.size ∧
    ∀ j, j < n → w.cell? ⟨g, o + j * 4, none⟩ = some (.int .i64 (K j)) ∧ w.cell? ⟨g, o + j * 4 + 1, none⟩ = some (.string (S j)) ∧ w.cell? ⟨g, o + j * 4 + 2, none⟩ = some (.int .i64 (N j)) ∧ w.cell? ⟨g, o + j * 4 + 3, none⟩ = some (.int .i64 (A j))
/-- The tokens that it holds, if it holds such alone. -/
def toksI (n : Nat) (K : Nat → Int) (S : Nat → ByteArray) (N : Nat → Int) : List Tk := (List.range n).map fun j => ((K j).toNat, (S j).data.toList, (N j).toNat, 0)
theorem RowI.below {w w' : World} {v : Value} {n : Nat} {K N A : Nat → Int} {S : Nat → ByteArray} (h : RowI w v n K S N A) (hb : Below w.heap.size w w') : RowI w' v n K S N A := by
  rcases h with h0 | ⟨g, o, cap, rfl, hcap, hg, hc⟩
  · exact .inl h0
  · refine .inr ⟨g, o, cap, rfl, hcap, Nat.lt_of_lt_of_le hg hb.size, fun j hj => ?_⟩
    obtain ⟨a0, a1, a2, a3⟩ := hc j hj
    exact ⟨(hb.cell (p := ⟨g, o + j * 4, none⟩) hg).trans a0, (hb.cell (p := ⟨g, o + j * 4 + 1, none⟩) hg).trans a1, (hb.cell (p := ⟨g, o + j * 4 + 2, none⟩) hg).trans a2, (hb.cell (p := ⟨g, o + j * 4 + 3, none⟩) hg).trans a3⟩
theorem RowI.toX {w : World} {v : Value} {n : Nat} {K N A : Nat → Int} {S : Nat → ByteArray} (h : RowI w v n K S N A) (hok : ∀ j, j < n → isTokA (K j) (S j) (N j) = true) : RowX w v (toksI n K S N) A := by
  have hlen : (toksI n K S N).length = n := by simp [toksI]
  rcases h with ⟨ad, cap, rfl, rfl⟩ | ⟨g, o, cap, rfl, hcap, hg, hc⟩
  · exact .inl ⟨ad, cap, rfl, rfl⟩
  · refine .inr ⟨g, o, cap, by rw [hlen], by rw [hlen]; exact hcap, hg, fun j hj => ?_⟩
    rw [hlen] at hj
    obtain ⟨a0, a1, a2, a3⟩ := hc j hj
    obtain ⟨k1, k2, _⟩ := good_of_tok (hok j hj)
    have e : (toksI n K S N)[j]'(by rw [hlen]; exact hj) = ((K j).toNat, (S j).data.toList, (N j).toNat, 0) := by simp [toksI]
    rw [e]
    refine ⟨?_, ?_, ?_, a3⟩
    · rw [a0]
      show some (Value.int .i64 (K j)) = some (.int .i64 ((K j).toNat : Int))
      rw [← k1]
    · rw [a1]
    · rw [a2]
      show some (Value.int .i64 (N j)) = some (.int .i64 ((N j).toNat : Int))
      rw [← k2]
theorem toksI_good {n : Nat} {K N : Nat → Int} {S : Nat → ByteArray} (hok : ∀ j, j < n → isTokA (K j) (S j) (N j) = true) : GoodTs (toksI n K S N) := by
  intro t ht
  simp only [toksI, List.mem_map, List.mem_range] at ht
  obtain ⟨j, hj, rfl⟩ := ht
  exact (good_of_tok (hok j hj)).2.2

set_option maxHeartbeats 4000000 in
set_option maxRecDepth 10000 in
theorem print_bad (v : Value) (n : Nat) (K N A : Nat → Int) (S : Nat → ByteArray) (w : World) (hC : Cl w) (hw : 1 < w.heap.size) (hv : RowI w v n K S N A) (hn : n ≤ 9223372036854775807) (hS : ∀ j, j < n → (S j).size ≤ maxLen)
    (hbad : 20000 < n ∨ ∃ j, j < n ∧ isTokA (K j) (S j) (N j) = false) :
    Calls Tryd.prog 10 #[v] w fun e w' => (∃ y : Int, (y == 0) = false ∧ e = .returned (.tuple #[.string ⟨#[]⟩, .int .i64 y])) ∧ Below w.heap.size w w' := by
  by_cases hbig : 20000 < n
  · have hbig' : (20000 : Int) < (n : Int) := by omega
    rcases hv with ⟨ad, cap, rfl, rfl⟩ | ⟨g, o, cap, rfl, hcap, hg, hc⟩
    · omega
    · clear hc hbad hS
      go_enter Tryd.func10, Tryd.ntmps10
      go_wp2
      go_ret2
      exact ⟨⟨2, rfl, rfl⟩, Below.refl _ _⟩
  · have hl : n ≤ 20000 := by omega
    have hex : ∃ j, j < n ∧ isTokA (K j) (S j) (N j) = false := hbad.resolve_left hbig
    have HX : Hid (∃ j, j < n ∧ isTokA (K j) (S j) (N j) = false) := hex
    obtain ⟨B, hB⟩ : ∃ B, B = w.heap.size := ⟨_, rfl⟩
    rw [← hB]
    have HB : Hid (B = w.heap.size) := hB
    rcases hv with ⟨ad, cap, rfl, rfl⟩ | ⟨g, o, cap, rfl, hcap, hgw, hg⟩
    · obtain ⟨j, h1, _⟩ := hex
      omega
    · have hgB : g < B := by rw [hB]; exact hgw
      have hw' : 1 < B := by rw [hB]; exact hw
      clear hB hgw hw hbad hbig hex hn
      go_enter Tryd.func10, Tryd.ntmps10
      go_wp2
      go_loopw [11] (fun i wr => ∃ j : Nat, j ≤ n ∧ i = .int .i64 j ∧ Below B w wr ∧ Hid (∀ i, i < j → isTokA (K i) (S i) (N i) = true)) (fun i _ => n - (intOf i).toNat)
      case atStart => exact ⟨0, by omega, by go_num, Below.refl _ _, fun i hi => by omega⟩
      case round =>
        obtain ⟨j, hj, rfl, hbel, HT⟩ := hrel
        have hBr : B ≤ wr.heap.size := by have := hbel.size; have := HB.out; omega
        by_cases hlt : j < n
        · obtain ⟨a0, a1, a2, a3⟩ := hg j hlt
          rw [← hbel.cell (p := ⟨g, o + j * 4, none⟩) hgB] at a0
          rw [← hbel.cell (p := ⟨g, o + j * 4 + 1, none⟩) hgB] at a1
          rw [← hbel.cell (p := ⟨g, o + j * 4 + 2, none⟩) hgB] at a2
          rw [← hbel.cell (p := ⟨g, o + j * 4 + 3, none⟩) hgB] at a3
          have ng : ¬ g = wr.heap.size := by omega
          have hsj := hS j hlt
          have IT : ∀ W, Below B w W → 1 < W.heap.size → Calls Tryd.prog 20 #[.agg #[.int .i64 (K j), .string (S j), .int .i64 (N j), .int .i64 (A j)]] W fun e w' => e = .returned (.bool (isTokA (K j) (S j) (N j))) ∧ Below W.heap.size W w' := fun W hb hW1 => isToken_all (K j) (N j) (A j) (S j) W hsj (hC.below hb hw') hW1
          clear hg hS hsj
          cases ht : isTokA (K j) (S j) (N j) with
          | true =>
            have HN : Hid (∀ i, i < j + 1 → isTokA (K i) (S i) (N i) = true) := fun i hi => by
              by_cases e : i = j
              · rw [e]; exact ht
              · exact HT.out i (by omega)
            rw [ht] at IT
            clear ht HT
            go_wp2_with (go_at_call 20; refine Calls.mono (IT _ ?_ ?_) ?_; exact hbel.alloc hBr _; (simp; omega); rintro e w2 ⟨rfl, hb⟩)
            go_roundw
            case rel => exact ⟨j + 1, by omega, by go_num, (hbel.alloc hBr _).trans (hb.mono (by simp; omega)), HN⟩
            case measure => simp [intOf]; omega
          | false =>
            rw [ht] at IT
            clear ht HT
            go_wp2_with (go_at_call 20; refine Calls.mono (IT _ ?_ ?_) ?_; exact hbel.alloc hBr _; (simp; omega); rintro e w2 ⟨rfl, hb⟩)
            go_ret2
            exact ⟨⟨1, rfl, rfl⟩, (hbel.alloc hBr _).trans (hb.mono (by simp; omega))⟩
        · exfalso
          obtain ⟨i, h1, h2⟩ := HX.out
          have := HT.out i (by omega)
          rw [this] at h2
          cases h2

set_option maxHeartbeats 2000000 in
set_option maxRecDepth 10000 in
theorem alike_x (v1 v2 : Value) (ts us : List Tk) (A : Nat → Int) (w : World) (h1 : RowX w v1 ts A) (h2 : RowAt w v2 us) (hb : ts.length ≤ 20000) (he : ts.map bareT = us.map bareT) :
    Calls Tryd.prog 13 #[v1, v2] w fun e w' => e = .returned (.bool true) ∧ ∃ n, w' = w.drewN n := by
  have hl := bare_len he
  rcases h1 with ⟨ad, cap, rfl, rfl⟩ | ⟨g, o, cap, rfl, hcap, _, hg⟩
  · obtain rfl : us = [] := List.length_eq_zero_iff.1 hl.symm
    rcases h2 with ⟨rfl, _⟩ | ⟨g, cap, rfl, hcap, hg⟩
    all_goals
      go_enter Tryd.func13, Tryd.ntmps13
      go_wp2
      refine wp_loop_rounds 1 ?_
      rw [rounds_succ]
      go_wp2
      go_ret
      exact ⟨rfl, 0, rfl⟩
  · rcases h2 with ⟨rfl, rfl⟩ | ⟨g2, cap2, rfl, hcap2, hg2⟩
    · obtain rfl : ts = [] := List.length_eq_zero_iff.1 hl
      go_enter Tryd.func13, Tryd.ntmps13
      go_wp2
      refine wp_loop_rounds 1 ?_
      rw [rounds_succ]
      go_wp2
      go_ret
      exact ⟨rfl, 0, rfl⟩
    · have HX : Hid (ts.length = us.length) := hl
      have HE : Hid (ts.map bareT = us.map bareT) := he
      have hl' : (us.length : Int) = (ts.length : Int) := by omega
      clear hl he
      go_enter Tryd.func13, Tryd.ntmps13
      go_wp2
      go_loopw [5] (fun i wr => ∃ j n : Nat, j ≤ ts.length ∧ i = .int .i64 j ∧ wr = w.drewN n) (fun i _ => ts.length - (intOf i).toNat)
      case atStart => exact ⟨0, 0, by omega, by go_num, rfl⟩
      case round =>
        obtain ⟨j, n, hj, rfl, rfl⟩ := hrel
        by_cases hlt : j < ts.length
        · have hj2 : j < us.length := by have := HX.out; omega
          obtain ⟨a0, a1, a2, a3⟩ := hg j hlt
          obtain ⟨b0, b1, b2, b3⟩ := hg2 j hj2
          have he : bareT ts[j] = bareT us[j] := by
            have := HE.out
            have h := congrArg (·[j]?) this
            simp [hlt, hj2] at h
            exact h
          simp [bareT] at he
          obtain ⟨e0, e1, e2⟩ := he
          rw [← e0] at b0
          rw [← e1] at b1
          rw [← e2] at b2
          clear hg hg2 e0 e1 e2 a3 b3
          go_wp2
          go_quiet (fail)
          go_wp2
          go_roundw
          case rel => exact ⟨j + 1, _, by omega, by go_num, by first | rfl | rw [World.drewN_drewN]⟩
          case measure => simp [intOf]; omega
        · go_wp2
          go_ret
          exact ⟨rfl, _, rfl⟩
end Go.Proofs.YtkfhdmkdkphmoaaDoor

namespace Go.Proofs.YtkfhdmkdkphmoaaDoor
open Go.ChangeShapes Go.WideShapes Go.RowKit

theorem Tryd.cells28 : Tryd.prog.cellsOf 28 = 4 := by kernel_rfl
theorem Tryd.cells3 : Tryd.prog.cellsOf 3 = 1 := by kernel_rfl
theorem Tryd.cells9 : Tryd.prog.cellsOf 9 = 1 := by kernel_rfl

theorem list4 {α : Type} {l : List α} (h : l.length = 4) : ∃ a b c d, l = [a, b, c, d] := by
  match l, h with
  | [a, b, c, d], _ => exact ⟨a, b, c, d, rfl⟩
theorem open_tok {H : Type} {enc : TypeId × Value → H} {W : World} {base : Nat} {sp : Nat → Bool} {held : Bool} {fuel : Nat} {cs : List Value} {x : DataW H × List MemPlace} (h : DataW.trod enc Tryd.prog W base sp held fuel 28 cs = some x) :
    ∃ (k : Int) (s : ByteArray) (n a : Int), cs = [.int .i64 k, .string s, .int .i64 n, .int .i64 a] ∧ s.size ≤ maxLen := by
  obtain ⟨xs, m, _, _, hlen, hxl, hf⟩ := DataW.trod_struct Tryd.underlying28 h
  rw [Tryd.cells28] at hlen
  obtain ⟨c0, c1, c2, c3, rfl⟩ := list4 hlen
  obtain ⟨y0, y1, y2, y3, rfl⟩ := list4 (show xs.length = 4 from hxl)
  have g0 : DataW.trod enc Tryd.prog W base sp held m 3 (([c0, c1, c2, c3].drop 0).take (Tryd.prog.cellsOf 3)) = some y0 := hf 0 _ rfl
  have g1 : DataW.trod enc Tryd.prog W base sp held m 9 (([c0, c1, c2, c3].drop 1).take (Tryd.prog.cellsOf 9)) = some y1 := hf 1 _ rfl
  have g2 : DataW.trod enc Tryd.prog W base sp held m 3 (([c0, c1, c2, c3].drop 2).take (Tryd.prog.cellsOf 3)) = some y2 := hf 2 _ rfl
  have g3 : DataW.trod enc Tryd.prog W base sp held m 3 (([c0, c1, c2, c3].drop 3).take (Tryd.prog.cellsOf 3)) = some y3 := hf 3 _ rfl
  rw [Tryd.cells3] at g0 g2 g3
  rw [Tryd.cells9] at g1
  obtain ⟨k, e0, _, _⟩ := DataW.trod_int Tryd.underlying3 g0
  obtain ⟨s, e1, _, hs⟩ := DataW.trod_string Tryd.underlying9 g1
  obtain ⟨n, e2, _, _⟩ := DataW.trod_int Tryd.underlying3 g2
  obtain ⟨a, e3, _, _⟩ := DataW.trod_int Tryd.underlying3 g3
  simp at e0 e1 e2 e3
  exact ⟨k, s, n, a, by rw [e0, e1, e2, e3], hs⟩

theorem add_at (g o k : Nat) : (⟨g, o, none⟩ : Addr).add k = ⟨g, o + k, none⟩ := by
  unfold Addr.add
  split
  · rename_i h; rw [h]; rfl
  · rfl
theorem cell_spot {w : World} {a : Addr} {v : Value} (h : w.cell? a = some v) : a = ⟨a.block, a.off, none⟩ := by
  obtain ⟨b, o, s⟩ := a
  cases s with
  | none => rfl
  | some s =>
    unfold World.cell? at h
    split at h
    · simp at h
    · cases h

set_option maxRecDepth 100000 in
theorem open_toks {H : Type} {enc : TypeId × Value → H} {W : World} {r : Reach} {b0 : Nat} {v : Value} {d : DataW H} {ps : List MemPlace} (hval : Value.okWide Tryd.prog W r b0 22 v) (h : DataW.Trod enc Tryd.prog W 0 (fun _ => true) true 22 v d ps) :
    ∃ (n : Nat) (K : Nat → Int) (S : Nat → ByteArray) (N A : Nat → Int), RowI W v n K S N A ∧ n ≤ maxLen ∧ ∀ j, j < n → (S j).size ≤ maxLen := by
  obtain ⟨ad, len0, cap0, rfl⟩ := okWide_slice Tryd.underlying22 hval
  obtain ⟨fuel, hf⟩ := h
  rcases Deep.open_slice Tryd.underlying22 hf with ⟨hcs, _⟩ | ⟨a, len, cap, m, n', D, Pl, hcs, _, hlc, hcm, hm, _, hx⟩
  · simp [Value.cells] at hcs
    obtain ⟨rfl, rfl, rfl⟩ := hcs
    exact ⟨0, fun _ => 0, fun _ => ⟨#[]⟩, fun _ => 0, fun _ => 0, .inl ⟨_, _, rfl, rfl⟩, by unfold maxLen; omega, fun j hj => by omega⟩
  · simp [Value.cells] at hcs
    obtain ⟨rfl, rfl, rfl⟩ := hcs
    simp at hm
    subst hm
    rw [Tryd.cells28] at hx
    by_cases h0 : len0 = 0
    · subst h0
      exact ⟨0, fun _ => 0, fun _ => ⟨#[]⟩, fun _ => 0, fun _ => 0, .inl ⟨_, _, rfl, rfl⟩, by unfold maxLen; omega, fun j hj => by omega⟩
    · have each : ∀ i, i < len0 → ∃ q : Int × ByteArray × Int × Int, W.cell? (a.add (i * 4)) = some (.int .i64 q.1) ∧ W.cell? (a.add (i * 4 + 1)) = some (.string q.2.1) ∧ W.cell? (a.add (i * 4 + 2)) = some (.int .i64 q.2.2.1) ∧ W.cell? (a.add (i * 4 + 3)) = some (.int .i64 q.2.2.2) ∧ q.2.1.size ≤ maxLen := by
        intro i hi
        obtain ⟨cs', c1, c2⟩ := hx i (by omega)
        obtain ⟨_, _, hcell⟩ := World.cells?_some c1
        obtain ⟨k, s, n, at', rfl, hs⟩ := open_tok c2
        have e0 := hcell 0 (by omega)
        have e1 := hcell 1 (by omega)
        have e2 := hcell 2 (by omega)
        have e3 := hcell 3 (by omega)
        rw [Deep.add_add] at e0 e1 e2 e3
        exact ⟨(k, s, n, at'), e0, e1, e2, e3, hs⟩
      obtain ⟨q, hq⟩ := Deep.choose_lt each
      have hsp := cell_spot (by have := (hq 0 (by omega)).1; rw [Nat.zero_mul] at this; exact this : W.cell? (a.add 0) = some _)
      have ha : a = ⟨a.block, a.off, none⟩ := hsp
      generalize a.block = g at ha
      generalize a.off = o at ha
      subst ha
      refine ⟨len0, fun i => (q i).1, fun i => (q i).2.1, fun i => (q i).2.2.1, fun i => (q i).2.2.2, .inr ⟨g, o, _, rfl, hlc, ?_, ?_⟩, by omega, fun j hj => (hq j hj).2.2.2.2⟩
      · have := (hq 0 (by omega)).1
        rw [add_at] at this
        exact World.block_lt_of_cell? W _ this
      · intro j hj
        obtain ⟨b1, b2, b3, b4, _⟩ := hq j hj
        rw [add_at] at b1 b2 b3 b4
        simp only [Nat.add_assoc] at b1 b2 b3 b4 ⊢
        exact ⟨b1, b2, b3, b4⟩
end Go.Proofs.YtkfhdmkdkphmoaaDoor

namespace Go.Proofs.YtkfhdmkdkphmoaaDoor
open Go.RowKit

set_option maxHeartbeats 4000000 in
set_option maxRecDepth 10000 in
theorem writes_any (v : Value) (n : Nat) (K N A : Nat → Int) (S : Nat → ByteArray) (w : World) (hCl : Cl w) (hP : Pt w) (h1 : 1 < w.heap.size) (hv : RowI w v n K S N A) (hn : n ≤ 9223372036854775807) (hS : ∀ j, j < n → (S j).size ≤ maxLen) :
    Calls Tryd.prog 5 #[v] w fun e w' => e = .returned (.bool true) ∧ Below w.heap.size w w' := by
  have AW := awake_any w hCl h1
  by_cases hgood : n ≤ 20000 ∧ ∀ j, j < n → isTokA (K j) (S j) (N j) = true
  · obtain ⟨hl, hok⟩ := hgood
    have hlen : (toksI n K S N).length = n := by simp [toksI]
    have hg := toksI_good hok
    have hsz : ∀ t ∈ toksI n K S N, t.2.1.length ≤ 9223372036854775807 := by
      intro t ht
      simp only [toksI, List.mem_map, List.mem_range] at ht
      obtain ⟨j, hj, rfl⟩ := ht
      have := hS j hj
      unfold maxLen at this
      simpa using this
    have hX := fun W (h : Below w.heap.size w W) => (hv.below h).toX hok
    have PR := fun W (h : Below w.heap.size w W) => print_x v (toksI n K S N) A W (hCl.below h h1) (Nat.lt_of_lt_of_le h1 h.size) (hX W h) (by omega) (fun W' hb => (hP.below h).tb hb) (good6 hg) (good7 hg) hsz (fun t ht => tok_of_good (hg t ht))
    generalize toksI n K S N = l at *
    cases hj : joinA true [] l with
    | none =>
      have PR2 : ∀ W, Below w.heap.size w W → Calls Tryd.prog 10 #[v] W fun e w' => e = .returned (.tuple #[.string ⟨#[]⟩, .int .i64 4]) ∧ Below W.heap.size W w' := fun W h => by
        have := PR W h
        rw [hj] at this
        exact this
      clear PR hCl hP h1 hv hS hok hg hsz hX hj
      go_enter Tryd.func5, Tryd.ntmps5
      go_wp2_with (first
        | (go_at_call 8; with_reducible refine Calls.mono AW ?_; rintro e w1 ⟨rfl, hb1⟩)
        | (go_at_call 10; with_reducible refine Calls.mono (PR2 w1 hb1) ?_; rintro e w4 ⟨rfl, hb4⟩))
      go_ret
      exact ⟨rfl, hb1.trans (hb4.mono hb1.size)⟩
    | some s =>
      obtain ⟨hs1, hs2⟩ := joinA_some _ _ _ _ hj
      rw [List.nil_append] at hs1
      have hbare := placeA_bare l 0 true
      have hlex : lexL 0 (rest ⟨s.toArray⟩ 0) 0 = .ok (placeA 0 true l) := by
        have e : rest ⟨s.toArray⟩ 0 = s := by simp [rest]
        rw [e, hs1]
        exact lexL_tail l 0 0 true hg (by omega)
      have hss : (⟨s.toArray⟩ : ByteArray).size ≤ 65536 := by show s.toArray.size ≤ 65536; simpa using hs2
      have LS := fun W (h : Below w.heap.size w W) => lex_fine ⟨s.toArray⟩ W hss (hCl.below h h1) (Nat.lt_of_lt_of_le h1 h.size) hlex
      have PR2 : ∀ W, Below w.heap.size w W → Calls Tryd.prog 10 #[v] W fun e w' => e = .returned (.tuple #[.string ⟨s.toArray⟩, .int .i64 0]) ∧ Below W.heap.size W w' := fun W h => by
        have := PR W h
        rw [hj] at this
        exact this
      have AL := fun W (h : Below w.heap.size w W) v2 h2' => alike_x v v2 l (placeA 0 true l) A W (hX W h) h2' (by omega) hbare.symm
      generalize placeA 0 true l = pl at *
      generalize (⟨s.toArray⟩ : ByteArray) = sb at *
      clear PR hCl hP h1 hv hS hok hg hsz hX hj hs1 hs2 hbare hlex
      go_enter Tryd.func5, Tryd.ntmps5
      go_wp2_with (first
        | (go_at_call 8; with_reducible refine Calls.mono AW ?_; rintro e w1 ⟨rfl, hb1⟩)
        | (go_at_call 10; with_reducible refine Calls.mono (PR2 w1 hb1) ?_; rintro e w4 ⟨rfl, hb4⟩; have B4 := hb1.trans (hb4.mono hb1.size))
        | (go_at_call 12; with_reducible refine Calls.mono (LS w4 B4) ?_; rintro e w5 ⟨⟨tm, rfl, OM⟩, hb5⟩; have B5 := B4.trans (hb5.mono B4.size))
        | (go_at_call 13; with_reducible refine Calls.mono (AL w5 B5 tm (RowAt.of_own OM)) ?_; rintro e w6 ⟨rfl, n1, rfl⟩))
      go_ret
      exact ⟨rfl, below_drewN B5 _⟩
  · have hbad : 20000 < n ∨ ∃ j, j < n ∧ isTokA (K j) (S j) (N j) = false := by
      by_cases hl : n ≤ 20000
      · right
        apply Classical.byContradiction
        intro hne
        apply hgood
        refine ⟨hl, fun j hj => ?_⟩
        cases ht : isTokA (K j) (S j) (N j) with
        | true => rfl
        | false => exact absurd ⟨j, hj, ht⟩ hne
      · left; omega
    have PB := fun W (h : Below w.heap.size w W) => print_bad v n K N A S W (hCl.below h h1) (Nat.lt_of_lt_of_le h1 h.size) (hv.below h) hn hS hbad
    clear hCl hP h1 hv hS hgood hbad
    go_enter Tryd.func5, Tryd.ntmps5
    go_wp2_with (first
      | (go_at_call 8; with_reducible refine Calls.mono AW ?_; rintro e w1 ⟨rfl, hb1⟩)
      | (go_at_call 10; with_reducible refine Calls.mono (PB w1 hb1) ?_; rintro e w4 ⟨⟨y, hy, rfl⟩, hb4⟩))
    all_goals first
      | (go_ret; exact ⟨rfl, hb1.trans (hb4.mono hb1.size)⟩)
      | (exfalso; simp_all; done)
end Go.Proofs.YtkfhdmkdkphmoaaDoor
