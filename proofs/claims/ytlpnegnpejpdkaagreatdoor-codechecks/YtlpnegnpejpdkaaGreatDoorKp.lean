/- Check, whole: what is wrong with a table. -/
import Derived.Test.YtlpnegnpejpdkaaGreatDoorKo
namespace Go.Proofs.YtlpnegnpejpdkaaGreatDoor
open Go.RowKit

theorem code_eq (t : Tab) (g : Glb) : codeP t g = (if numsP t.1.length t.2.length g.2.2.length 0 g.2.2 = 0 then flowR (t.1.map fun s => s.2) g.2.1 g.2.2 else numsP t.1.length t.2.length g.2.2.length 0 g.2.2) := rfl
/-- What Check asks of memory: the table, and the package's own lists. -/
structure CkIn (w : World) (sv gv : Value) (t : Tab) : Prop where
  tab : TabV w (fun y => y < w.heap.size) sv gv t
  first : FirstAt w
  rows : ∃ rd rcap, RowsAt w rd rcap
  small : Small t
theorem CkIn.below {w w' : World} {sv gv : Value} {t : Tab} (h : CkIn w sv gv t) (hb : Below w.heap.size w w') : CkIn w' sv gv t := by
  obtain ⟨rd, rcap, hr⟩ := h.rows
  exact ⟨⟨row_below h.tab.shp hb, row_below h.tab.glb hb, h.tab.ls, h.tab.lg⟩, h.first.below hb, ⟨rd, rcap, hr.below hb⟩, h.small⟩
set_option maxHeartbeats 16000000 in
set_option maxRecDepth 10000 in
theorem check_any {w : World} {sv gv : Value} {t : Tab} (h : CkIn w sv gv t) : Calls Tryz.prog 11 #[.agg #[sv, gv]] w fun r w' => r = .returned (.int .i64 (checkP t)) ∧ Hid (Below w.heap.size w w') := by
  obtain ⟨sa, scap, rfl⟩ := RowK.len h.tab.shp
  obtain ⟨bd, bcap, rfl⟩ := RowK.len h.tab.glb
  obtain ⟨B, hB⟩ : ∃ B, B = w.heap.size := ⟨_, rfl⟩
  obtain ⟨X, hX⟩ : ∃ X, X = w.heap.size := ⟨_, rfl⟩
  obtain ⟨W, hW⟩ : ∃ W, W = w.alloc (.cells #[.slice sa t.1.length scap, .slice bd t.2.length bcap] 25) := ⟨_, rfl⟩
  have hBW : Below w.heap.size w W := by rw [hW]; exact (Below.refl _ _).alloc (Nat.le_refl _) _
  have hXW : W.heap[X]? = some (.cells #[.slice sa t.1.length scap, .slice bd t.2.length bcap] 25 (0, 0)) := by rw [hW, hX]; exact new_blk _ _
  have HALL : Hid (∀ w2 : World, Below W.heap.size W w2 → w2.cell? ⟨X, 0, none⟩ = some (.slice sa t.1.length scap) ∧ w2.cell? ⟨X, 1, none⟩ = some (.slice bd t.2.length bcap) ∧ Below B w w2 ∧ B ≤ w2.heap.size ∧ CkIn w2 (.slice sa t.1.length scap) (.slice bd t.2.length bcap) t) := fun w2 hb => by
    have hb2 := hBW.trans (hb.mono hBW.size)
    exact ⟨heap_cl ((hb.block X (lt_heap hXW)).trans hXW) rfl, heap_cl ((hb.block X (lt_heap hXW)).trans hXW) rfl, by rw [hB]; exact hb2, by rw [hB]; exact hb2.size, h.below hb2⟩
  have HS : Hid (RowE EShp w (fun y => y < B) (fun y => y < B) (.slice sa t.1.length scap) t.1) := by rw [hB]; exact h.tab.shp
  have HG : Hid (RowE EGlb w (fun y => y < B) (fun y => y < B) (.slice bd t.2.length bcap) t.2) := by rw [hB]; exact h.tab.glb
  obtain ⟨rd, rcap, hrw⟩ := h.rows
  have HRW : Hid (∀ w2, Below B w w2 → RowsAt w2 rd rcap) := fun w2 hb => hrw.below (by rw [← hB]; exact hb)
  have HSM : Hid (Small t) := h.small
  have HXE : Hid (X = w.heap.size) := hX
  have HBE : Hid (B = w.heap.size) := hB
  have hls := h.tab.ls
  have hlg := h.tab.lg
  obtain ⟨R, hRe⟩ : ∃ R, R = checkP t := ⟨_, rfl⟩
  have HR : Hid (R = if bigP t then 4 else if (shapesP t.1 && headsP t.2) = false then 172 else codesP t t.2) := hRe
  rw [← hRe, ← hB]
  obtain ⟨z0, z1, z2, z3, z4⟩ := HALL.out W (Below.refl _ _)
  replace z2 : Hid (Below B w W) := z2
  have CB := isBig_any (fun _ h => h) z4.tab
  clear hRe hB hX hBW hXW h hrw z3 z4
  go_enter Tryz.func11, Tryz.ntmps11
  go_upto_region 1 with fail
  rw [← hW, ← HXE.out]
  clear hW
  cases hbig : bigP t with
  | true =>
    rw [hbig] at CB
    have HE : Hid (R = 4) := by show R = 4; rw [HR.out, hbig]; rfl
    go_wp2_with (first | (go_at_call 27; (with_reducible refine Calls.mono CB ?_); rintro e2 w2 ⟨rfl, HB2⟩))
    go_ret
    exact ⟨by rw [HE.out]; rfl, (HALL.out w2 HB2.out).2.2.1⟩
  | false =>
    rw [hbig] at CB
    have HR2 : Hid (R = if (shapesP t.1 && headsP t.2) = false then 172 else codesP t t.2) := by show R = _; rw [HR.out, hbig]; rfl
    have hfew : t.1.length ≤ 2000 ∧ t.2.length ≤ 2000 ∧ ∀ g ∈ t.2, g.2.2.length ≤ 8000 := by
      have hb := hbig
      unfold bigP at hb
      simp only [Bool.or_eq_false_iff, decide_eq_false_iff_not, List.any_eq_false, decide_eq_true_eq] at hb
      exact ⟨by omega, by omega, fun g hg => by have := hb.1.2 g hg; omega⟩
    obtain ⟨hf1, hf2, hf3⟩ := hfew
    replace hf3 : Hid (∀ g ∈ t.2, g.2.2.length ≤ 8000) := hf3
    clear HR hbig
    go_upto_region 3 with (first | (go_at_call 27; (with_reducible refine Calls.mono CB ?_); rintro e2 w2 ⟨rfl, HB2⟩))
    clear z0 z1 CB
    obtain ⟨z0, z1, z5, z3, z4⟩ := HALL.out w2 HB2.out
    have CS := hasShapes_any z4.tab.shp hf1 z4.first
    have CG : Hid (∀ w3, Below W.heap.size W w3 → Calls Tryz.prog 29 #[.slice bd t.2.length bcap] w3 fun r w' => r = .returned (.bool (headsP t.2)) ∧ Hid (Below w3.heap.size w3 w')) := fun w3 hb => hasGlobals_any (HALL.out w3 hb).2.2.2.2.tab.glb hf2
    clear z5 z3 z4
    cases hsh : shapesP t.1 with
    | false =>
      have HE : Hid (R = 172) := by show R = 172; rw [HR2.out, hsh]; rfl
      rw [hsh] at CS
      go_wp2_with (first | (go_at_call 28; (with_reducible refine Calls.mono CS ?_); rintro e3 w3 ⟨rfl, HB3⟩))
      go_ret
      exact ⟨by rw [HE.out]; rfl, (HALL.out w3 (HB2.out.trans (HB3.out.mono HB2.out.size))).2.2.1⟩
    | true =>
      rw [hsh] at CS
      have HY : Hid (∀ w3, Below w2.heap.size w2 w3 → Below W.heap.size W w3 ∧ w3.cell? ⟨X, 1, none⟩ = some (.slice bd t.2.length bcap)) := fun w3 hb => by
        have hb' := HB2.out.trans (hb.mono HB2.out.size)
        exact ⟨hb', (HALL.out w3 hb').2.1⟩
      cases hhd : headsP t.2 with
      | false =>
        have HE : Hid (R = 172) := by show R = 172; rw [HR2.out, hsh, hhd]; rfl
        rw [hhd] at CG
        go_wp2_with (first | (go_at_call 28; (with_reducible refine Calls.mono CS ?_); rintro e3 w3 ⟨rfl, HB3⟩; obtain ⟨hb3, y1⟩ := HY.out w3 HB3.out; have CG3 := CG.out w3 hb3; replace hb3 : Hid (Below W.heap.size W w3) := hb3) | (go_at_call 29; (with_reducible refine Calls.mono CG3 ?_); rintro e4 w4 ⟨rfl, HB4⟩))
        go_ret
        exact ⟨by rw [HE.out]; rfl, (HALL.out w4 (hb3.out.trans (HB4.out.mono hb3.out.size))).2.2.1⟩
      | true =>
        rw [hhd] at CG
        have HR3 : Hid (R = codesP t (t.2.drop 0)) := by show R = _; rw [HR2.out, hsh, hhd]; rfl
        have HF8 : Hid (∀ k (h : k < t.1.length), 0 ≤ t.1[k].2 ∧ t.1[k].2 ≤ 8) := fun k hk => by
          have hs := hsh
          unfold shapesP at hs
          simp only [Bool.and_eq_true] at hs
          exact (things_all _ _ hs.1.1 _ (List.getElem_mem hk)).2
        have HA24 : Hid (∀ k (h : k < t.2.length), 0 ≤ t.2[k].2.1 ∧ t.2[k].2.1 ≤ 24) := fun k hk => by
          have hs := hhd
          unfold headsP at hs
          exact (things_all _ _ hs (t.2[k].1, t.2[k].2.1) (List.mem_map.2 ⟨t.2[k], List.getElem_mem hk, rfl⟩)).2
        clear HR2 hsh hhd
        go_upto_region 5 with (first | (go_at_call 28; (with_reducible refine Calls.mono CS ?_); rintro e3 w3 ⟨rfl, HB3⟩; obtain ⟨hb3, y1⟩ := HY.out w3 HB3.out; have CG3 := CG.out w3 hb3; replace hb3 : Hid (Below W.heap.size W w3) := hb3) | (go_at_call 29; (with_reducible refine Calls.mono CG3 ?_); rintro e4 w4 ⟨rfl, HB4⟩))
        have HB5 : Hid (Below W.heap.size W w4) := hb3.out.trans (HB4.out.mono hb3.out.size)
        have x1 := (HALL.out w4 HB5.out).2.1
        clear z0 z1 y1 HY CS CG CG3 HB4 HB3 HB2
        go_upto_region 6 with fail
        clear x1
        go_loopw [20] (fun iv wr => ∃ i : Nat, i ≤ t.2.length ∧ iv = .int .i64 i ∧ Hid (Below W.heap.size W wr) ∧ Hid (R = codesP t (t.2.drop i))) (fun iv _ => t.2.length - (intOf iv).toNat)
        case atStart => exact ⟨0, by omega, by go_num, HB5.out, HR3.out⟩
        case round =>
          clear HB5 HR3
          obtain ⟨i, hi, rfl, HB, HR⟩ := hrel
          by_cases hil : i < t.2.length
          · obtain ⟨z0, z1, z5, z3, z4⟩ := HALL.out wr.drew HB.out.drew
            obtain ⟨bd', bcap', e1, hgg⟩ := glb_at (row_low HG.out z5)
            obtain ⟨rfl, -, rfl⟩ := Value.slice.inj e1
            obtain ⟨gg, go, cv, rfl, hgB, hgc, c0, c1, c2, hnm, hcl, hcr⟩ := hgg i hil
            have hcr2 : RowE EIns wr.drew (fun y => y < wr.drew.heap.size) (fun y => y < wr.drew.heap.size) cv t.2[i].2.2 := hcr.on (Keeps.refl _ _) (Keeps.refl _ _) (fun _ h => Nat.lt_of_lt_of_le h z3) fun _ h => h.elim
            have CW := wrongCode_any (w := wr.drew) (gg := gg) (go := go + i * 3) (ng := t.2.length) (bcap := bcap) (bd := some ⟨gg, go, none⟩) (Nat.le_refl _) (Nat.lt_of_lt_of_le hgB z3) (row_up (row_low HS.out z5) z3) rfl hcr2 c1 c2 (fun w2 hb => HRW.out w2 (z5.trans (hb.mono z3))) HF8.out hls (hf3.out _ (List.getElem_mem hil)) (HA24.out i hil).1 (HA24.out i hil).2 (fun j hj => (HSM.out _ (List.getElem_mem hil) _ (List.getElem_mem hj)).1)
            rw [← code_eq] at CW
            have HST : Hid (codesP t (t.2.drop i) = if codeP t t.2[i] = 0 then codesP t (t.2.drop (i + 1)) else codeP t t.2[i]) := by
              show _ = _
              rw [List.drop_eq_getElem_cons hil]
              rfl
            have i1 : (0 : Int) ≤ (i : Int) := by omega
            have i2 : (i : Int) < (t.2.length : Int) := by omega
            have hS0 : (fun w' : World => w'.cell? ⟨X, 0, none⟩ = some (.slice sa t.1.length scap) ∧ w'.cell? ⟨X, 1, none⟩ = some (.slice (some ⟨gg, go, none⟩) t.2.length bcap)) wr.drew := ⟨z0, z1⟩
            clear z0 z1 z4 hcr hcr2 c0 c1 c2 hnm hcl hgg e1
            generalize codeP t t.2[i] = e0 at *
            have hgc2 := hgc
            go_upto_region 8 with fail
            refine wp_region_M (S := (fun w' : World => w'.cell? ⟨X, 0, none⟩ = some (.slice sa t.1.length scap) ∧ w'.cell? ⟨X, 1, none⟩ = some (.slice (some ⟨gg, go, none⟩) t.2.length bcap))) (L := 7) (n := 7) (by kernel_rfl) rfl (by kernel_rfl) ?_
            refine wpAnyK_go (i := 0) (m' := 1) (some 23) (v := .agg #[.slice sa t.1.length scap, .slice (some ⟨gg, go, none⟩) t.2.length bcap]) rfl rfl (by kernel_rfl) (by kernel_rfl) (by kernel_rfl) (by kernel_rfl) (by kernel_rfl) (fun _ _ _ h => h) (Or.inl ⟨by rfl, ?_⟩) hS0 ?_
            · intro w' hSw
              obtain ⟨s1, s2⟩ := hSw
              go_simp
            simp only [Act.put, List.setIfInBounds_toArray, List.set_cons_zero, List.set_cons_succ]
            refine wpAnyK_go (i := 1) (m' := 3) (some 24) (v := .pointer (some ⟨X, 1, none⟩)) rfl rfl (by kernel_rfl) (by kernel_rfl) (by kernel_rfl) (by kernel_rfl) (by kernel_rfl) (fun _ _ _ h => h) (Or.inl ⟨by rfl, ?_⟩) hS0 ?_
            · intro w' hSw
              go_simp
            simp only [Act.put, List.setIfInBounds_toArray, List.set_cons_zero, List.set_cons_succ]
            refine wpAnyK_go (i := 2) (m' := 7) (some 25) (v := .slice (some ⟨gg, go, none⟩) t.2.length bcap) rfl rfl (by kernel_rfl) (by kernel_rfl) (by kernel_rfl) (by kernel_rfl) (by kernel_rfl) (fun _ _ _ h => h) (Or.inl ⟨by rfl, ?_⟩) hS0 ?_
            · intro w' hSw
              obtain ⟨s1, s2⟩ := hSw
              go_simp
            simp only [Act.put, List.setIfInBounds_toArray, List.set_cons_zero, List.set_cons_succ]
            refine wpAnyK_go (i := 3) (m' := 15) (some 26) (v := .int .i64 (i : Int)) rfl rfl (by kernel_rfl) (by kernel_rfl) (by kernel_rfl) (by kernel_rfl) (by kernel_rfl) (fun _ _ _ h => h) (Or.inl ⟨by rfl, ?_⟩) hS0 ?_
            · intro w' hSw
              go_simp
            simp only [Act.put, List.setIfInBounds_toArray, List.set_cons_zero, List.set_cons_succ]
            refine wpAnyK_go (i := 4) (m' := 31) (some 27) (v := .pointer (some ⟨gg, go + i * 3, none⟩)) rfl rfl (by kernel_rfl) (by kernel_rfl) (by kernel_rfl) (by kernel_rfl) (by kernel_rfl) (fun _ _ _ h => h) (Or.inl ⟨by rfl, ?_⟩) hS0 ?_
            · intro w' hSw
              go_simp
            simp only [Act.put, List.setIfInBounds_toArray, List.set_cons_zero, List.set_cons_succ]
            refine wpAnyK_only (i := 5) (m' := 63) (by kernel_rfl) rfl (by kernel_rfl) fun K hK => ?_
            go_simp
            (with_reducible refine Calls.mono CW ?_)
            rintro e9 w9 ⟨rfl, HB9⟩
            have hS9 : (fun w' : World => w'.cell? ⟨X, 0, none⟩ = some (.slice sa t.1.length scap) ∧ w'.cell? ⟨X, 1, none⟩ = some (.slice (some ⟨gg, go, none⟩) t.2.length bcap)) w9 := ⟨cell_keep hS0.1 HB9.out, cell_keep hS0.2 HB9.out⟩
            go_simp
            refine hK.out _ _ (fun _ => hS9) ?_
            clear hK K
            refine wpAnyK_only (i := 6) (m' := 127) (by kernel_rfl) rfl (by kernel_rfl) fun K hK => ?_
            go_simp
            refine hK.out _ _ (fun _ => hS9) ?_
            clear hK K hS0 hS9 CW
            refine wpAnyK_done (by kernel_rfl) ?_ _
            have HBW9 : Hid (Below W.heap.size W w9) := (HB.out.drew).trans (HB9.out.mono (HB.out.drew).size)
            by_cases h0 : e0 = 0
            · have e5 : (e0 != 0) = false := by simp [h0]
              have HR9 : Hid (R = codesP t (t.2.drop (i + 1))) := by show R = _; rw [HR.out, HST.out, if_pos h0]
              clear HR HST
              go_wp2
              go_roundw
              case rel => exact ⟨i + 1, hil, by go_num, HBW9.out, HR9.out⟩
              case measure => simp [intOf]; omega
            · have e5 : (e0 != 0) = true := by simp [h0]
              have HE : Hid (R = e0) := by show R = _; rw [HR.out, HST.out, if_neg h0]
              clear HR HST
              go_wp2
              go_ret
              exact ⟨by rw [HE.out]; rfl, (HALL.out w9 HBW9.out).2.2.1⟩
          · have HE : Hid (R = 0) := by
              show R = 0
              rw [HR.out, List.drop_eq_nil_of_le (by omega)]
              rfl
            have e3 : ¬ ((i : Int) < (t.2.length : Int)) := by omega
            go_wp2
            go_ret
            exact ⟨by rw [HE.out]; rfl, (HALL.out wr HB.out).2.2.1⟩
end Go.Proofs.YtlpnegnpejpdkaaGreatDoor
