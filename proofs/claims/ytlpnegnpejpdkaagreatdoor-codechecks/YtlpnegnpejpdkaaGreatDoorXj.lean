/- The document's Check: what it answers, for every table in memory. -/
import Derived.Test.YtlpnegnpejpdkaaGreatDoorMex
import Derived.Test.YtlpnegnpejpdkaaGreatDoorMrx
import Derived.Test.YtlpnegnpejpdkaaGreatDoorXg
namespace Go.Proofs.YtlpnegnpejpdkaaGreatDoor
open Go.RowKit

set_option maxHeartbeats 16000000 in
set_option maxRecDepth 10000 in
theorem check_ref {w : World} {sv gv : Value} {t : Tab} (h : TabV w (fun y => y < w.heap.size) sv gv t) (hsm : Small t) : Calls Tryz.prog 12 #[.agg #[sv, gv]] w fun r w' => r = .returned (.int .i64 (checkP t)) ∧ Hid (Below w.heap.size w w') := by
  obtain ⟨sa, scap, rfl⟩ := RowK.len h.shp
  obtain ⟨bd, bcap, rfl⟩ := RowK.len h.glb
  obtain ⟨X, hX⟩ : ∃ X, X = w.heap.size := ⟨_, rfl⟩
  obtain ⟨W, hW⟩ : ∃ W, W = w.alloc (.cells #[.slice sa t.1.length scap, .slice bd t.2.length bcap] 25) := ⟨_, rfl⟩
  have hBW : Below w.heap.size w W := by rw [hW]; exact (Below.refl _ _).alloc (Nat.le_refl _) _
  have hXW : W.heap[X]? = some (.cells #[.slice sa t.1.length scap, .slice bd t.2.length bcap] 25 (0, 0)) := by rw [hW, hX]; exact new_blk _ _
  have HALL : Hid (∀ w2 : World, Below W.heap.size W w2 → w2.cell? ⟨X, 0, none⟩ = some (.slice sa t.1.length scap) ∧ w2.cell? ⟨X, 1, none⟩ = some (.slice bd t.2.length bcap) ∧ Below w.heap.size w w2 ∧ TabV w2 (fun y => y < w2.heap.size) (.slice sa t.1.length scap) (.slice bd t.2.length bcap) t) := fun w2 hb => by
    have hb2 := hBW.trans (hb.mono hBW.size)
    exact ⟨heap_cl ((hb.block X (lt_heap hXW)).trans hXW) rfl, heap_cl ((hb.block X (lt_heap hXW)).trans hXW) rfl, hb2, ⟨row_below h.shp hb2, row_below h.glb hb2, h.ls, h.lg⟩⟩
  have HSM : Hid (Small t) := hsm
  have HXE : Hid (X = w.heap.size) := hX
  have hls := h.ls
  have hlg := h.lg
  obtain ⟨R, hRe⟩ : ∃ R, R = checkP t := ⟨_, rfl⟩
  have HR : Hid (R = if bigP t then 4 else if (shapesP t.1 && headsP t.2) = false then 172 else codesP t t.2) := hRe
  rw [← hRe]
  obtain ⟨z0, z1, z2, z4⟩ := HALL.out W (Below.refl _ _)
  replace z2 : Hid (Below w.heap.size w W) := z2
  have CB := big_ref (fun _ h => h) z4
  clear hRe hX hBW hXW h z4
  go_enter Tryz.func12, Tryz.ntmps12
  go_upto_region 1 with fail
  rw [← hW, ← HXE.out]
  clear hW
  cases hbig : bigP t with
  | true =>
    rw [hbig] at CB
    have HE : Hid (R = 4) := by show R = 4; rw [HR.out, hbig]; rfl
    go_wp2_with (first | (go_at_call 31; (with_reducible refine Calls.mono CB ?_); rintro e2 w2 ⟨rfl, HB2⟩))
    go_ret
    exact ⟨by rw [HE.out]; rfl, (HALL.out w2 HB2.out).2.2.1⟩
  | false =>
    rw [hbig] at CB
    have HR2 : Hid (R = if (shapesP t.1 && headsP t.2) = false then 172 else codesP t t.2) := by show R = _; rw [HR.out, hbig]; rfl
    have hf3 : Hid (∀ g ∈ t.2, g.2.2.length ≤ 8000) := by
      have hb := hbig
      unfold bigP at hb
      simp only [Bool.or_eq_false_iff, decide_eq_false_iff_not, List.any_eq_false, decide_eq_true_eq] at hb
      exact fun g hg => by have := hb.1.2 g hg; omega
    clear HR hbig
    go_upto_region 4 with (first | (go_at_call 31; (with_reducible refine Calls.mono CB ?_); rintro e2 w2 ⟨rfl, HB2⟩))
    clear z0 z1 CB
    obtain ⟨z0, z1, z5, z4⟩ := HALL.out w2 HB2.out
    replace z5 : Hid (Below w.heap.size w w2) := z5
    have CS := shapes_ref z4.shp hls
    have CG : Hid (∀ w3, Below W.heap.size W w3 → Calls Tryz.prog 33 #[.slice bd t.2.length bcap] w3 fun r w' => r = .returned (.int .i64 (if headsP t.2 then 0 else 172)) ∧ Hid (Below w3.heap.size w3 w')) := fun w3 hb => heads_ref (HALL.out w3 hb).2.2.2.glb hlg
    clear z4
    cases hsh : shapesP t.1 with
    | false =>
      have HE : Hid (R = 172) := by show R = 172; rw [HR2.out, hsh]; rfl
      rw [hsh, if_neg (by decide)] at CS
      go_wp2_with (first | (go_at_call 32; (with_reducible refine Calls.mono CS ?_); rintro e3 w3 ⟨rfl, HB3⟩))
      go_ret
      exact ⟨by rw [HE.out]; rfl, (HALL.out w3 (HB2.out.trans (HB3.out.mono HB2.out.size))).2.2.1⟩
    | true =>
      rw [hsh, if_pos rfl] at CS
      go_upto_region 7 with (first | (go_at_call 32; (with_reducible refine Calls.mono CS ?_); rintro e3 w3 ⟨rfl, HB3⟩))
      have hb3 : Hid (Below W.heap.size W w3) := HB2.out.trans (HB3.out.mono HB2.out.size)
      have y1 := (HALL.out w3 hb3.out).2.1
      have CG3 := CG.out w3 hb3.out
      clear z0 z1 z5 HB3 HB2 CS CG
      cases hhd : headsP t.2 with
      | false =>
        have HE : Hid (R = 172) := by show R = 172; rw [HR2.out, hsh, hhd]; rfl
        rw [hhd, if_neg (by decide)] at CG3
        go_wp2_with (first | (go_at_call 33; (with_reducible refine Calls.mono CG3 ?_); rintro e4 w4 ⟨rfl, HB4⟩))
        go_ret
        exact ⟨by rw [HE.out]; rfl, (HALL.out w4 (hb3.out.trans (HB4.out.mono hb3.out.size))).2.2.1⟩
      | true =>
        rw [hhd, if_pos rfl] at CG3
        have HR3 : Hid (R = codesP t (t.2.drop 0)) := by show R = _; rw [HR2.out, hsh, hhd]; rfl
        have HF8 : Hid (∀ k (h : k < t.1.length), 0 ≤ t.1[k].2 ∧ t.1[k].2 ≤ 8) := fun k hk => by
          have hs := hsh
          unfold shapesP at hs
          simp only [Bool.and_eq_true] at hs
          exact (things_all _ _ hs.1.1 _ (List.getElem_mem hk)).2
        have HA24 : Hid (∀ k (h : k < t.2.length), 0 ≤ t.2[k].2.1 ∧ t.2[k].2.1 ≤ 24) := fun k hk => by
          have hs := hhd
          unfold headsP at hs
          exact (things_all _ _ hs (t.2[k].1, t.2[k].2.1) (List.mem_map.2 ⟨t.2[k], List.getElem_mem hk, rfl⟩)).2
        clear HR2 hsh hhd
        go_upto_region 10 with (first | (go_at_call 33; (with_reducible refine Calls.mono CG3 ?_); rintro e4 w4 ⟨rfl, HB4⟩))
        have HB5 : Hid (Below W.heap.size W w4) := hb3.out.trans (HB4.out.mono hb3.out.size)
        clear y1 CG3 HB4 hb3
        go_upto_region 11 with fail
        go_loopw [5] (fun iv wr => ∃ i : Nat, i ≤ t.2.length ∧ iv = .int .i64 i ∧ Hid (Below W.heap.size W wr) ∧ Hid (R = codesP t (t.2.drop i))) (fun iv _ => t.2.length - (intOf iv).toNat)
        case atStart => exact ⟨0, by omega, by go_num, HB5.out, HR3.out⟩
        case round =>
          clear HB5 HR3
          obtain ⟨i, hi, rfl, HB, HR⟩ := hrel
          by_cases hil : i < t.2.length
          · obtain ⟨D, hD⟩ : ∃ D : World, D = wr.drew := ⟨_, rfl⟩
            have HBD : Hid (Below W.heap.size W D) := by rw [hD]; exact HB.out.drew
            obtain ⟨z0, z1, z5, z4⟩ := HALL.out D HBD.out
            have zw := (HALL.out wr HB.out).2.1
            obtain ⟨bd', bcap', e1, hgg⟩ := glb_at z4.glb
            obtain ⟨rfl, -, rfl⟩ := Value.slice.inj e1
            obtain ⟨gg, go, cv, rfl, hgB, hgc, c0, c1, c2, hnm, hcl, hcr⟩ := hgg i hil
            obtain ⟨ca, cc, ecv⟩ := RowK.len hcr
            obtain ⟨n, hn⟩ : ∃ n, n = t.2[i].2.2.length := ⟨_, rfl⟩
            obtain ⟨code, hcode⟩ : ∃ code, code = t.2[i].2.2 := ⟨_, rfl⟩
            obtain ⟨nm, hnme⟩ : ∃ nm, nm = t.2[i].1 := ⟨_, rfl⟩
            obtain ⟨ar, har⟩ : ∃ ar, ar = t.2[i].2.1 := ⟨_, rfl⟩
            have h8 : n ≤ 8000 := by rw [hn]; exact hf3.out _ (List.getElem_mem hil)
            obtain ⟨a0, a24⟩ := HA24.out i hil
            rw [← har] at a0 a24 c1
            rw [← hnme] at c0
            rw [ecv, ← hn] at c2
            rw [ecv, ← hn, ← hcode] at hcr
            rw [← hcode] at hn
            have HCR : Hid (∀ w2, Below D.heap.size D w2 → RowE EIns w2 (fun y => y < w2.heap.size) (fun _ => False) (.slice ca n cc) code) := fun w2 hb => hcr.on (Keeps.of hb fun _ h => h) (fun _ h => h.elim) (fun _ h => Nat.lt_of_lt_of_le h hb.size) fun _ h => h
            have HXA : Hid (∀ j (h : j < code.length), code[j].2.1 < 9223372036854775808) := fun j hj => by
              subst hcode
              exact (HSM.out _ (List.getElem_mem hil) _ (List.getElem_mem hj)).1
            have HST : Hid (codesP t (t.2.drop i) = if (if numsP t.1.length t.2.length n 0 code = 0 then flowR (t.1.map fun s => s.2) ar code else numsP t.1.length t.2.length n 0 code) = 0 then codesP t (t.2.drop (i + 1)) else (if numsP t.1.length t.2.length n 0 code = 0 then flowR (t.1.map fun s => s.2) ar code else numsP t.1.length t.2.length n 0 code)) := by
              show _ = _
              have hn' : n = t.2[i].2.2.length := by rw [hn, hcode]
              rw [List.drop_eq_getElem_cons hil, hn', hcode, har]
              rfl
            have HNE : Hid (numbersR t.1.length t.2.length code = if code = [] then 174 else numsP t.1.length t.2.length n 0 code) := by
              show _ = _
              rw [hn]
              rfl
            have HFE : Hid (code = [] → flowR (t.1.map fun s => s.2) ar code = 174 ∧ numsP t.1.length t.2.length n 0 code = 0) := fun e => by
              subst e
              exact ⟨rfl, rfl⟩
            have HNL : Hid (n = code.length) := hn
            have CN := numbers_ref (w := D) (sa := sa) (ga := some ⟨gg, go, none⟩) (ns := t.1.length) (sc := scap) (ng := t.2.length) (gc := bcap) hn (by omega) (HCR.out D (Below.refl _ _))
            have i1 : (0 : Int) ≤ (i : Int) := by omega
            have i2 : (i : Int) < (t.2.length : Int) := by omega
            have hS0 : (fun w' : World => w'.cell? ⟨X, 0, none⟩ = some (.slice sa t.1.length scap) ∧ w'.cell? ⟨X, 1, none⟩ = some (.slice (some ⟨gg, go, none⟩) t.2.length bcap) ∧ w'.cell? ⟨gg, go + i * 3, none⟩ = some (.string ⟨nm.toArray⟩) ∧ w'.cell? ⟨gg, go + i * 3 + 1, none⟩ = some (.int .i64 ar) ∧ w'.cell? ⟨gg, go + i * 3 + 2, none⟩ = some (.slice ca n cc)) D := ⟨z0, z1, c0, c1, c2⟩
            have HKP : Hid (∀ w2, Below D.heap.size D w2 → (fun w' : World => w'.cell? ⟨X, 0, none⟩ = some (.slice sa t.1.length scap) ∧ w'.cell? ⟨X, 1, none⟩ = some (.slice (some ⟨gg, go, none⟩) t.2.length bcap) ∧ w'.cell? ⟨gg, go + i * 3, none⟩ = some (.string ⟨nm.toArray⟩) ∧ w'.cell? ⟨gg, go + i * 3 + 1, none⟩ = some (.int .i64 ar) ∧ w'.cell? ⟨gg, go + i * 3 + 2, none⟩ = some (.slice ca n cc)) w2) := fun w2 hb => ⟨cell_keep z0 hb, cell_keep z1 hb, cell_keep c0 hb, cell_keep c1 hb, cell_keep c2 hb⟩
            clear z0 z1 z4 z5 hcr c0 c1 c2 hcl hgg e1 hn hcode hnme har ecv hnm hgB
            generalize numbersR t.1.length t.2.length code = e0 at *
            have hgc2 := hgc
            go_upto_region 13 with fail
            refine wp_region_M (S := (fun w' : World => w'.cell? ⟨X, 0, none⟩ = some (.slice sa t.1.length scap) ∧ w'.cell? ⟨X, 1, none⟩ = some (.slice (some ⟨gg, go, none⟩) t.2.length bcap) ∧ w'.cell? ⟨gg, go + i * 3, none⟩ = some (.string ⟨nm.toArray⟩) ∧ w'.cell? ⟨gg, go + i * 3 + 1, none⟩ = some (.int .i64 ar) ∧ w'.cell? ⟨gg, go + i * 3 + 2, none⟩ = some (.slice ca n cc))) (L := 100) (n := 9) (by kernel_rfl) rfl (by kernel_rfl) ?_
            rw [← hD]
            clear hD zw
            refine wpAnyK_go (i := 0) (m' := 1) (some 30) (v := .agg #[.slice sa t.1.length scap, .slice (some ⟨gg, go, none⟩) t.2.length bcap]) rfl rfl (by kernel_rfl) (by kernel_rfl) (by kernel_rfl) (by kernel_rfl) (by kernel_rfl) (fun _ _ _ h => h) (Or.inl ⟨by rfl, ?_⟩) hS0 ?_
            · intro w' hSw
              obtain ⟨p1, p2, p3, p4, p5⟩ := hSw
              go_simp
            simp only [Act.put, List.setIfInBounds_toArray, List.set_cons_zero, List.set_cons_succ]
            refine wpAnyK_go (i := 1) (m' := 3) (some 31) (v := .pointer (some ⟨X, 1, none⟩)) rfl rfl (by kernel_rfl) (by kernel_rfl) (by kernel_rfl) (by kernel_rfl) (by kernel_rfl) (fun _ _ _ h => h) (Or.inl ⟨by rfl, ?_⟩) hS0 ?_
            · intro w' hSw
              go_simp
            simp only [Act.put, List.setIfInBounds_toArray, List.set_cons_zero, List.set_cons_succ]
            refine wpAnyK_go (i := 2) (m' := 7) (some 32) (v := .slice (some ⟨gg, go, none⟩) t.2.length bcap) rfl rfl (by kernel_rfl) (by kernel_rfl) (by kernel_rfl) (by kernel_rfl) (by kernel_rfl) (fun _ _ _ h => h) (Or.inl ⟨by rfl, ?_⟩) hS0 ?_
            · intro w' hSw
              obtain ⟨p1, p2, p3, p4, p5⟩ := hSw
              go_simp
            simp only [Act.put, List.setIfInBounds_toArray, List.set_cons_zero, List.set_cons_succ]
            refine wpAnyK_go (i := 3) (m' := 15) (some 33) (v := .int .i64 (i : Int)) rfl rfl (by kernel_rfl) (by kernel_rfl) (by kernel_rfl) (by kernel_rfl) (by kernel_rfl) (fun _ _ _ h => h) (Or.inl ⟨by rfl, ?_⟩) hS0 ?_
            · intro w' hSw
              go_simp
            simp only [Act.put, List.setIfInBounds_toArray, List.set_cons_zero, List.set_cons_succ]
            refine wpAnyK_go (i := 4) (m' := 31) (some 34) (v := .pointer (some ⟨gg, go + i * 3, none⟩)) rfl rfl (by kernel_rfl) (by kernel_rfl) (by kernel_rfl) (by kernel_rfl) (by kernel_rfl) (fun _ _ _ h => h) (Or.inl ⟨by rfl, ?_⟩) hS0 ?_
            · intro w' hSw
              go_simp
            simp only [Act.put, List.setIfInBounds_toArray, List.set_cons_zero, List.set_cons_succ]
            refine wpAnyK_go (i := 5) (m' := 63) (some 35) (v := .pointer (some ⟨gg, go + i * 3 + 2, none⟩)) rfl rfl (by kernel_rfl) (by kernel_rfl) (by kernel_rfl) (by kernel_rfl) (by kernel_rfl) (fun _ _ _ h => h) (Or.inl ⟨by rfl, ?_⟩) hS0 ?_
            · intro w' hSw
              go_simp
            simp only [Act.put, List.setIfInBounds_toArray, List.set_cons_zero, List.set_cons_succ]
            refine wpAnyK_go (i := 6) (m' := 127) (some 36) (v := .slice ca n cc) rfl rfl (by kernel_rfl) (by kernel_rfl) (by kernel_rfl) (by kernel_rfl) (by kernel_rfl) (fun _ _ _ h => h) (Or.inl ⟨by rfl, ?_⟩) hS0 ?_
            · intro w' hSw
              obtain ⟨p1, p2, p3, p4, p5⟩ := hSw
              go_simp
            simp only [Act.put, List.setIfInBounds_toArray, List.set_cons_zero, List.set_cons_succ]
            refine wpAnyK_only (i := 7) (m' := 255) (by kernel_rfl) rfl (by kernel_rfl) fun K hK => ?_
            go_simp
            (with_reducible refine Calls.mono CN ?_)
            rintro e9 w9 ⟨rfl, HB9⟩
            go_simp
            have hS9 := HKP.out w9 HB9.out
            refine hK.out _ _ (fun _ => hS9) ?_
            clear hK K CN hS0
            try simp only [Act.put, List.setIfInBounds_toArray, List.set_cons_zero, List.set_cons_succ]
            refine wpAnyK_only (i := 8) (m' := 511) (by kernel_rfl) rfl (by kernel_rfl) fun K hK => ?_
            go_simp
            refine hK.out _ _ (fun _ => hS9) ?_
            clear hK K
            try simp only [Act.put, List.setIfInBounds_toArray, List.set_cons_zero, List.set_cons_succ]
            refine wpAnyK_done (by kernel_rfl) ?_ _
            rename_i K6 a6
            refine a6 _ _ ?_
            clear a6 K6
            have HBW9 : Hid (Below W.heap.size W w9) := HBD.out.trans (HB9.out.mono HBD.out.size)
            by_cases h0 : e0 = 0
            case neg =>
              have e5 : (e0 != 0) = true := by simp [h0]
              have HE : Hid (R = e0) := by
                show R = _
                rw [HR.out, HST.out]
                by_cases hc0 : code = []
                · obtain ⟨f1, f2⟩ := HFE.out hc0
                  have h3 := HNE.out
                  rw [if_pos hc0] at h3
                  rw [f2, if_pos rfl, f1, h3, if_neg (by decide)]
                · have h3 := HNE.out
                  rw [if_neg hc0] at h3
                  rw [← h3, if_neg h0, if_neg h0]
              clear HR HST HNE HFE hS9
              go_wp2
              go_ret
              exact ⟨by rw [HE.out]; rfl, (HALL.out w9 HBW9.out).2.2.1⟩
            have e5 : (e0 != 0) = false := by simp [h0]
            have hc0 : ¬ code = [] := fun e => by
              have h3 := HNE.out
              rw [if_pos e, h0] at h3
              exact absurd h3 (by decide)
            have hnz : numsP t.1.length t.2.length n 0 code = 0 := by
              have h3 := HNE.out
              rw [if_neg hc0, h0] at h3
              exact h3.symm
            obtain ⟨f, hf⟩ : ∃ f, f = flowR (t.1.map fun s => s.2) ar code := ⟨_, rfl⟩
            have HST2 : Hid (R = if f = 0 then codesP t (t.2.drop (i + 1)) else f) := by
              show R = _
              rw [HR.out, HST.out, if_pos hnz, ← hf]
            obtain ⟨E, hE⟩ : ∃ E : World, E = w9.drew := ⟨_, rfl⟩
            have HBE : Hid (Below D.heap.size D E) := by rw [hE]; exact HB9.out.drew
            have HBWE : Hid (Below W.heap.size W E) := HBD.out.trans (HBE.out.mono HBD.out.size)
            have CD := depths_ref (w := E) (ga := some ⟨gg, go, none⟩) (ng := t.2.length) (gc := bcap) (nm := nm) (HALL.out E HBWE.out).2.2.2.shp HF8.out (HCR.out E HBE.out) HNL.out (by
              have := HNL.out
              have h7 : code.length ≠ 0 := fun e => hc0 (List.length_eq_zero_iff.1 e)
              omega) h8 a0 a24 (fun j hj => by
              have h7 := nums_all code 0 hnz j hj
              rwa [Nat.zero_add] at h7) HXA.out
            rw [← hf] at CD
            have hSE := HKP.out E HBE.out
            clear HR HST HNE HFE hc0 hnz h0 hf
            go_upto_region 16 with fail
            clear hS9
            refine wp_region_M (S := (fun w' : World => w'.cell? ⟨X, 0, none⟩ = some (.slice sa t.1.length scap) ∧ w'.cell? ⟨X, 1, none⟩ = some (.slice (some ⟨gg, go, none⟩) t.2.length bcap) ∧ w'.cell? ⟨gg, go + i * 3, none⟩ = some (.string ⟨nm.toArray⟩) ∧ w'.cell? ⟨gg, go + i * 3 + 1, none⟩ = some (.int .i64 ar) ∧ w'.cell? ⟨gg, go + i * 3 + 2, none⟩ = some (.slice ca n cc))) (L := 100) (n := 12) (by kernel_rfl) rfl (by kernel_rfl) ?_
            rw [← hE]
            clear hE
            refine wpAnyK_go (i := 0) (m' := 1) (some 42) (v := .agg #[.slice sa t.1.length scap, .slice (some ⟨gg, go, none⟩) t.2.length bcap]) rfl rfl (by kernel_rfl) (by kernel_rfl) (by kernel_rfl) (by kernel_rfl) (by kernel_rfl) (fun _ _ _ h => h) (Or.inl ⟨by rfl, ?_⟩) hSE ?_
            · intro w' hSw
              obtain ⟨p1, p2, p3, p4, p5⟩ := hSw
              go_simp
            simp only [Act.put, List.setIfInBounds_toArray, List.set_cons_zero, List.set_cons_succ]
            refine wpAnyK_go (i := 1) (m' := 3) (some 43) (v := .pointer (some ⟨X, 1, none⟩)) rfl rfl (by kernel_rfl) (by kernel_rfl) (by kernel_rfl) (by kernel_rfl) (by kernel_rfl) (fun _ _ _ h => h) (Or.inl ⟨by rfl, ?_⟩) hSE ?_
            · intro w' hSw
              go_simp
            simp only [Act.put, List.setIfInBounds_toArray, List.set_cons_zero, List.set_cons_succ]
            refine wpAnyK_go (i := 2) (m' := 7) (some 44) (v := .slice (some ⟨gg, go, none⟩) t.2.length bcap) rfl rfl (by kernel_rfl) (by kernel_rfl) (by kernel_rfl) (by kernel_rfl) (by kernel_rfl) (fun _ _ _ h => h) (Or.inl ⟨by rfl, ?_⟩) hSE ?_
            · intro w' hSw
              obtain ⟨p1, p2, p3, p4, p5⟩ := hSw
              go_simp
            simp only [Act.put, List.setIfInBounds_toArray, List.set_cons_zero, List.set_cons_succ]
            refine wpAnyK_go (i := 3) (m' := 15) (some 45) (v := .int .i64 (i : Int)) rfl rfl (by kernel_rfl) (by kernel_rfl) (by kernel_rfl) (by kernel_rfl) (by kernel_rfl) (fun _ _ _ h => h) (Or.inl ⟨by rfl, ?_⟩) hSE ?_
            · intro w' hSw
              go_simp
            simp only [Act.put, List.setIfInBounds_toArray, List.set_cons_zero, List.set_cons_succ]
            refine wpAnyK_go (i := 4) (m' := 31) (some 46) (v := .pointer (some ⟨gg, go + i * 3, none⟩)) rfl rfl (by kernel_rfl) (by kernel_rfl) (by kernel_rfl) (by kernel_rfl) (by kernel_rfl) (fun _ _ _ h => h) (Or.inl ⟨by rfl, ?_⟩) hSE ?_
            · intro w' hSw
              go_simp
            simp only [Act.put, List.setIfInBounds_toArray, List.set_cons_zero, List.set_cons_succ]
            refine wpAnyK_go (i := 5) (m' := 63) (some 47) (v := .agg #[.string ⟨nm.toArray⟩, .int .i64 ar, .slice ca n cc]) rfl rfl (by kernel_rfl) (by kernel_rfl) (by kernel_rfl) (by kernel_rfl) (by kernel_rfl) (fun _ _ _ h => h) (Or.inl ⟨by rfl, ?_⟩) hSE ?_
            · intro w' hSw
              obtain ⟨p1, p2, p3, p4, p5⟩ := hSw
              go_simp
            simp only [Act.put, List.setIfInBounds_toArray, List.set_cons_zero, List.set_cons_succ]
            refine wpAnyK_only (i := 6) (m' := 127) (by kernel_rfl) rfl (by kernel_rfl) fun K hK => ?_
            go_simp
            (with_reducible refine Calls.mono CD ?_)
            rintro e8 w8 ⟨v8, rfl, HB8⟩
            go_simp
            have HB8D : Hid (Below D.heap.size D w8) := HBE.out.trans (HB8.out.mono HBE.out.size)
            have hS8 := HKP.out w8 HB8D.out
            refine hK.out _ _ (fun _ => hS8) ?_
            clear hK K CD hSE
            try simp only [Act.put, List.setIfInBounds_toArray, List.set_cons_zero, List.set_cons_succ]
            refine wpAnyK_only (i := 7) (m' := 255) (by kernel_rfl) rfl (by kernel_rfl) fun K hK => ?_
            go_simp
            refine hK.out _ _ (fun _ => hS8) ?_
            clear hK K
            try simp only [Act.put, List.setIfInBounds_toArray, List.set_cons_zero, List.set_cons_succ]
            refine wpAnyK_go (i := 8) (m' := 511) (some 49) (v := v8) rfl rfl (by kernel_rfl) (by kernel_rfl) (by kernel_rfl) (by kernel_rfl) (by kernel_rfl) (fun _ _ _ h => h) (Or.inl ⟨by rfl, ?_⟩) hS8 ?_
            · intro w' hSw
              go_simp
            simp only [Act.put, List.setIfInBounds_toArray, List.set_cons_zero, List.set_cons_succ]
            refine wpAnyK_go (i := 9) (m' := 1023) (some 50) (v := .int .i64 f) rfl rfl (by kernel_rfl) (by kernel_rfl) (by kernel_rfl) (by kernel_rfl) (by kernel_rfl) (fun _ _ _ h => h) (Or.inl ⟨by rfl, ?_⟩) hS8 ?_
            · intro w' hSw
              go_simp
            simp only [Act.put, List.setIfInBounds_toArray, List.set_cons_zero, List.set_cons_succ]
            refine wpAnyK_only (i := 10) (m' := 2047) (by kernel_rfl) rfl (by kernel_rfl) fun K hK => ?_
            go_simp
            refine hK.out _ _ (fun _ => hS8) ?_
            clear hK K
            try simp only [Act.put, List.setIfInBounds_toArray, List.set_cons_zero, List.set_cons_succ]
            refine wpAnyK_only (i := 11) (m' := 4095) (by kernel_rfl) rfl (by kernel_rfl) fun K hK => ?_
            go_simp
            refine hK.out _ _ (fun _ => hS8) ?_
            clear hK K
            try simp only [Act.put, List.setIfInBounds_toArray, List.set_cons_zero, List.set_cons_succ]
            refine wpAnyK_done (by kernel_rfl) ?_ _
            rename_i K7 a7
            refine a7 _ _ ?_
            clear a7 K7 hS8
            have HBW8 : Hid (Below W.heap.size W w8) := HBD.out.trans (HB8D.out.mono HBD.out.size)
            by_cases h0 : f = 0
            · have e6 : (f != 0) = false := by simp [h0]
              have HR9 : Hid (R = codesP t (t.2.drop (i + 1))) := by show R = _; rw [HST2.out, if_pos h0]
              clear HST2
              go_wp2
              go_roundw
              case rel => exact ⟨i + 1, hil, by go_num, HBW8.out, HR9.out⟩
              case measure => simp [intOf]; omega
            · have e6 : (f != 0) = true := by simp [h0]
              have HE : Hid (R = f) := by show R = _; rw [HST2.out, if_neg h0]
              clear HST2
              go_wp2
              go_ret
              exact ⟨by rw [HE.out]; rfl, (HALL.out w8 HBW8.out).2.2.1⟩
          · have HE : Hid (R = 0) := by
              show R = 0
              rw [HR.out, List.drop_eq_nil_of_le (by omega)]
              rfl
            have hw := (HALL.out wr HB.out).2.1
            have e3 : ¬ ((i : Int) < (t.2.length : Int)) := by omega
            go_wp2
            go_ret
            exact ⟨by rw [HE.out]; rfl, (HALL.out wr HB.out).2.2.1⟩
end Go.Proofs.YtlpnegnpejpdkaaGreatDoor
