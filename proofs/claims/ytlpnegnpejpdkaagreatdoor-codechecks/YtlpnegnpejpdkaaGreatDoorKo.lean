/- wrongCode: what is wrong with the code of a global. -/
import Derived.Test.YtlpnegnpejpdkaaGreatDoorKn
namespace Go.Proofs.YtlpnegnpejpdkaaGreatDoor
open Go.RowKit

theorem cell_keep {w w' : World} {a : Addr} {v : Value} (h : w.cell? a = some v) (hb : Below w.heap.size w w') : w'.cell? a = some v := (hb.cell (World.block_lt_of_cell? w _ h)).trans h
theorem num_bad {ns ng len i : Nat} {x : Ins} (h : (isOpP x.1 && fitsP ns ng (kindA x.1) x.2.1 && fitsP ns ng (kindB x.1) x.2.2) = false) : numP ns ng len i x = 172 := by
  unfold numP
  rw [if_pos h]
theorem num_good {ns ng len i : Nat} {x : Ins} (h : (isOpP x.1 && fitsP ns ng (kindA x.1) x.2.1 && fitsP ns ng (kindB x.1) x.2.2) = true) : numP ns ng len i x = match targetP x with
    | some to => if to ≤ (i : Int) ∨ (len : Int) ≤ to then 174 else 0
    | none => 0 := by
  unfold numP
  rw [if_neg (by rw [h]; decide)]
  cases targetP x <;> rfl
set_option maxHeartbeats 16000000 in
set_option maxRecDepth 10000 in
theorem wrongCode_any {w : World} {B gg go ns ng scap bcap : Nat} {sa bd : Option Addr} {cv : Value} {l : List Shp} {code : List Ins} {ar : Int} {rd : Option Addr} {rcap : Nat} (hB : B ≤ w.heap.size) (hgg : gg < B) (hs : RowE EShp w (fun y => y < B) (fun y => y < B) (.slice sa ns scap) l) (hns : ns = l.length) (hc : RowE EIns w (fun y => y < B) (fun y => y < B) cv code) (ha : w.cell? ⟨gg, go + 1, none⟩ = some (.int .i64 ar)) (hcv : w.cell? ⟨gg, go + 2, none⟩ = some cv) (hR : ∀ w2, Below B w w2 → RowsAt w2 rd rcap)
    (hfs : ∀ k (h : k < l.length), 0 ≤ l[k].2 ∧ l[k].2 ≤ 8) (hll : l.length < 140737488355328) (hn8 : code.length ≤ 8000) (h0 : 0 ≤ ar) (h24 : ar ≤ 24) (hxa : ∀ i (h : i < code.length), code[i].2.1 < 9223372036854775808) :
    Calls Tryz.prog 30 #[.agg #[.slice sa ns scap, .slice bd ng bcap], .pointer (some ⟨gg, go, none⟩)] w fun r w' => r = .returned (.int .i64 (if numsP ns ng code.length 0 code = 0 then flowR (l.map fun s => s.2) ar code else numsP ns ng code.length 0 code)) ∧ Hid (Below B w w') := by
  obtain ⟨ca, ccap, hcve, _⟩ := ins_at hc
  obtain ⟨n, hn⟩ : ∃ n, n = code.length := ⟨_, rfl⟩
  have HN : Hid (n = code.length) := hn
  rw [← hn] at hcve
  have HCV : Hid (cv = .slice ca n ccap) := hcve
  have hn8' : n ≤ 8000 := by omega
  obtain ⟨X, hX⟩ : ∃ X, X = w.heap.size := ⟨_, rfl⟩
  obtain ⟨W, hW⟩ : ∃ W, W = w.alloc (.cells #[.slice sa ns scap, .slice bd ng bcap] 25) := ⟨_, rfl⟩
  have hBW : Below w.heap.size w W := by rw [hW]; exact (Below.refl _ _).alloc (Nat.le_refl _) _
  have hXW : W.heap[X]? = some (.cells #[.slice sa ns scap, .slice bd ng bcap] 25 (0, 0)) := by rw [hW, hX]; exact new_blk _ _
  have HBW : Hid (Below B w W) := hBW.mono hB
  have HXE : Hid (X = w.heap.size) := hX
  have HXW : Hid (∀ w2 : World, Below W.heap.size W w2 → w2.cell? ⟨X, 0, none⟩ = some (.slice sa ns scap) ∧ w2.cell? ⟨X, 1, none⟩ = some (.slice bd ng bcap) ∧ Below B w w2 ∧ w2.cell? ⟨gg, go + 1, none⟩ = some (.int .i64 ar) ∧ w2.cell? ⟨gg, go + 2, none⟩ = some (.slice ca n ccap)) := fun w2 hb => by
    have hb2 := (hBW.trans (hb.mono hBW.size)).mono hB
    exact ⟨heap_cl ((hb.block X (lt_heap hXW)).trans hXW) rfl, heap_cl ((hb.block X (lt_heap hXW)).trans hXW) rfl, hb2, (hb2.cell (p := ⟨gg, go + 1, none⟩) hgg).trans ha, by rw [← HCV.out]; exact (hb2.cell (p := ⟨gg, go + 2, none⟩) hgg).trans hcv⟩
  have HC : Hid (RowE EIns w (fun y => y < B) (fun y => y < B) cv code) := hc
  have HS : Hid (RowE EShp w (fun y => y < B) (fun y => y < B) (.slice sa ns scap) l) := hs
  have HXA : Hid (∀ i (h : i < code.length), code[i].2.1 < 9223372036854775808) := hxa
  have HFS : Hid (∀ k (h : k < l.length), 0 ≤ l[k].2 ∧ l[k].2 ≤ 8) := hfs
  have HRW : Hid (∀ w2, Below B w w2 → RowsAt w2 rd rcap) := hR
  have HNS : Hid (ns = l.length) := hns
  obtain ⟨R, hRe⟩ : ∃ R, R = (if numsP ns ng code.length 0 code = 0 then flowR (l.map fun s => s.2) ar code else numsP ns ng code.length 0 code) := ⟨_, rfl⟩
  have HR : Hid (R = (if numsP ns ng n 0 (code.drop 0) = 0 then flowR (l.map fun s => s.2) ar code else numsP ns ng n 0 (code.drop 0))) := by rw [hn]; exact hRe
  rw [← hRe]
  clear hRe hn hcve hc hs hxa hfs hR hns hX hBW hXW ha hcv hn8
  have HB0 : Hid (Below W.heap.size W W) := Below.refl _ _
  have HM0 : Hid (∀ j (h : j < code.length), j < 0 → numP ns ng n j code[j] = 0) := fun j _ h => by omega
  go_enter Tryz.func30, Tryz.ntmps30
  go_upto_region 1 with fail
  rw [← hW, ← HXE.out]
  clear hW
  obtain ⟨_, _, _, g1, g2⟩ := HXW.out W (Below.refl _ _)
  go_upto_region 2 with fail
  clear g1 g2
  go_loopw [14] (fun iv wr => ∃ i : Nat, i ≤ n ∧ iv = .int .i64 i ∧ Hid (Below W.heap.size W wr) ∧ Hid (R = (if numsP ns ng n i (code.drop i) = 0 then flowR (l.map fun s => s.2) ar code else numsP ns ng n i (code.drop i))) ∧ Hid (∀ j (h : j < code.length), j < i → numP ns ng n j code[j] = 0)) (fun iv _ => n - (intOf iv).toNat)
  case atStart => exact ⟨0, by omega, by go_num, HB0.out, HR.out, HM0.out⟩
  case round =>
    clear HB0 HR HM0
    obtain ⟨i, hi, rfl, HB, HR, HM⟩ := hrel
    obtain ⟨p0, p1, p2, p3, p4⟩ := HXW.out wr HB.out
    replace p2 : Hid (Below B w wr) := p2
    by_cases hin : i < n
    · have hic : i < code.length := by have := HN.out; omega
      obtain ⟨ca', ccap', e1, hcc⟩ := ins_at (row_low HC.out p2.out)
      rw [HCV.out, HN.out] at e1
      obtain ⟨rfl, -, rfl⟩ := Value.slice.inj e1
      obtain ⟨cg, co, rfl, hgl, hcl, c0, c1, c2⟩ := hcc i hic
      rw [← HN.out] at hcl
      have i1 : (0 : Int) ≤ (i : Int) := by omega
      have i2 : (i : Int) < (n : Int) := by omega
      have HSTEP : Hid (numsP ns ng n i (code.drop i) = if numP ns ng n i code[i] = 0 then numsP ns ng n (i + 1) (code.drop (i + 1)) else numP ns ng n i code[i]) := by
        show _ = _
        rw [List.drop_eq_getElem_cons hic]
        rfl
      have HMM : Hid (numP ns ng n i code[i] = 0 → ∀ j (h : j < code.length), j < i + 1 → numP ns ng n j code[j] = 0) := fun h0 j hj hji => by
        rcases Nat.lt_succ_iff_lt_or_eq.1 hji with h1 | rfl
        · exact HM.out j hj h1
        · exact h0
      clear HM hcc
      obtain ⟨x, hxe⟩ : ∃ x, x = code[i] := ⟨_, rfl⟩
      rw [← hxe] at c0 c1 c2 HSTEP HMM
      obtain ⟨op, a, b⟩ := x
      simp only at c0 c1 c2
      obtain ⟨Y, hYe⟩ : ∃ Y, Y = wr.heap.size := ⟨_, rfl⟩
      obtain ⟨W2, hW2⟩ : ∃ W2, W2 = wr.alloc (.cells #[.int .i64 op, .int .i64 a, .int .i64 b] 53) := ⟨_, rfl⟩
      have hbw : Below wr.heap.size wr W2 := by rw [hW2]; exact (Below.refl _ _).alloc (Nat.le_refl _) _
      have HB2 : Hid (Below W.heap.size W W2) := HB.out.trans (hbw.mono HB.out.size)
      have HY2 : Hid (W2.heap[Y]? = some (.cells #[.int .i64 op, .int .i64 a, .int .i64 b] 53 (0, 0))) := by rw [hW2, hYe]; exact new_blk _ _
      have HYE : Hid (Y = wr.heap.size) := hYe
      clear hYe hbw hxe
      go_upto_region 4 with fail
      rw [← hW2, ← HYE.out]
      clear hW2 c0 c1 c2 p0 p1 p3 p4
      obtain ⟨p0, p1, p5, p3, p4⟩ := HXW.out W2.drew (HB2.out.drew)
      replace p5 : Hid (Below B w W2.drew) := p5
      have hRd := HRW.out W2.drew p5.out
      have HS2 : Hid (∀ w2 : World, Below W2.drew.heap.size W2.drew w2 → Below W.heap.size W w2 ∧ w2.heap[Y]? = some (.cells #[.int .i64 op, .int .i64 a, .int .i64 b] 53 (0, 0))) := fun w2 hb => ⟨(HB2.out.drew).trans (hb.mono (HB2.out.drew).size), (hb.block Y (lt_heap HY2.out)).trans HY2.out⟩
      have CO := fun W => isOp_any op W
      have CF := fun (W : World) (k : Nat) (hk : k ≤ 8) (n : Int) => fits_any (w := W) sa bd ns ng scap bcap k hk n
      have HRET : Hid (∀ e : Int, e ≠ 0 → numP ns ng n i (op, a, b) = e → R = e) := fun e he h => by rw [HR.out, HSTEP.out, h, if_neg he, if_neg he]
      by_cases hop : isOpP op = true
      · have hor : 1 ≤ op ∧ op ≤ 17 := op_range hop
        obtain ⟨k, rfl⟩ : ∃ k : Nat, op = (k : Int) := ⟨op.toNat, by omega⟩
        obtain ⟨rg, ro, rfl, hrc, hrg, q1, q2, q3⟩ := hRd.row k (by omega)
        have k1 : (0 : Int) ≤ (k : Int) := by omega
        have k2 : (k : Int) < 18 := by omega
        obtain ⟨e1, e2⟩ := kinds_at (i := k) rfl
        obtain ⟨hka, hkb⟩ := kinds_le (k : Int)
        rw [← e1] at q2
        rw [← e2] at q3
        have HNB : Hid (fitsP ns ng (kindA (k : Int)) a = false → numP ns ng n i ((k : Int), a, b) = 172) := fun h => num_bad (by simp only; rw [h, Bool.and_false, Bool.false_and])
        have HNB2 : Hid (fitsP ns ng (kindB (k : Int)) b = false → numP ns ng n i ((k : Int), a, b) = 172) := fun h => num_bad (by simp only; rw [h, Bool.and_false])
        have HNG : Hid (fitsP ns ng (kindA (k : Int)) a = true → fitsP ns ng (kindB (k : Int)) b = true → numP ns ng n i ((k : Int), a, b) = match targetP ((k : Int), a, b) with
          | some to => if to ≤ (i : Int) ∨ (n : Int) ≤ to then 174 else 0
          | none => 0) := fun h1 h2 => num_good (by simp only; rw [hop, h1, h2]; rfl)
        have HT := fun (W : World) (h : RowsAt W (some ⟨rg, ro, none⟩) rcap) => target_any h ((k : Int), a, b) hop
        clear e1 e2
        generalize kindA (k : Int) = ka at *
        generalize kindB (k : Int) = kb at *
        rw [hop] at CO
        have hS0 : (fun w' : World => w'.cell? ⟨Y, 0, none⟩ = some (.int .i64 (k : Int)) ∧ w'.cell? ⟨Y, 1, none⟩ = some (.int .i64 a) ∧ w'.cell? ⟨Y, 2, none⟩ = some (.int .i64 b) ∧ w'.cell? ⟨X, 0, none⟩ = some (.slice sa ns scap) ∧ w'.cell? ⟨X, 1, none⟩ = some (.slice bd ng bcap) ∧ w'.cell? ⟨1, 0, none⟩ = some (.slice (some ⟨rg, ro, none⟩) 18 rcap) ∧ w'.cell? ⟨rg, ro + k * 3 + 1, none⟩ = some (.int .i64 (ka : Int)) ∧ w'.cell? ⟨rg, ro + k * 3 + 2, none⟩ = some (.int .i64 (kb : Int))) W2.drew := ⟨heap_cl (w := W2.drew) HY2.out rfl, heap_cl (w := W2.drew) HY2.out rfl, heap_cl (w := W2.drew) HY2.out rfl, p0, p1, hRd.cell, q2, q3⟩
        have HKS : Hid (∀ w2 w3 : World, (fun w' : World => w'.cell? ⟨Y, 0, none⟩ = some (.int .i64 (k : Int)) ∧ w'.cell? ⟨Y, 1, none⟩ = some (.int .i64 a) ∧ w'.cell? ⟨Y, 2, none⟩ = some (.int .i64 b) ∧ w'.cell? ⟨X, 0, none⟩ = some (.slice sa ns scap) ∧ w'.cell? ⟨X, 1, none⟩ = some (.slice bd ng bcap) ∧ w'.cell? ⟨1, 0, none⟩ = some (.slice (some ⟨rg, ro, none⟩) 18 rcap) ∧ w'.cell? ⟨rg, ro + k * 3 + 1, none⟩ = some (.int .i64 (ka : Int)) ∧ w'.cell? ⟨rg, ro + k * 3 + 2, none⟩ = some (.int .i64 (kb : Int))) w2 → Below w2.heap.size w2 w3 → (fun w' : World => w'.cell? ⟨Y, 0, none⟩ = some (.int .i64 (k : Int)) ∧ w'.cell? ⟨Y, 1, none⟩ = some (.int .i64 a) ∧ w'.cell? ⟨Y, 2, none⟩ = some (.int .i64 b) ∧ w'.cell? ⟨X, 0, none⟩ = some (.slice sa ns scap) ∧ w'.cell? ⟨X, 1, none⟩ = some (.slice bd ng bcap) ∧ w'.cell? ⟨1, 0, none⟩ = some (.slice (some ⟨rg, ro, none⟩) 18 rcap) ∧ w'.cell? ⟨rg, ro + k * 3 + 1, none⟩ = some (.int .i64 (ka : Int)) ∧ w'.cell? ⟨rg, ro + k * 3 + 2, none⟩ = some (.int .i64 (kb : Int))) w3) := fun w2 w3 ⟨a1, a2, a3, a4, a5, a6, a7, a8⟩ hb => ⟨cell_keep a1 hb, cell_keep a2 hb, cell_keep a3 hb, cell_keep a4 hb, cell_keep a5 hb, cell_keep a6 hb, cell_keep a7 hb, cell_keep a8 hb⟩
        clear p0 p1 p3 p4 q1 q2 q3 hRd hor
        cases hfa : fitsP ns ng ka a with
        | false =>
          have HE : Hid (R = 172) := HRET.out 172 (by decide) (HNB.out hfa)
          replace CF : ∀ (W : World) (k : Nat) (hk : k ≤ 8) (n : Int), Calls Tryz.prog 68 #[.agg #[.slice sa ns scap, .slice bd ng bcap], .int .i64 k, .int .i64 n] W fun r w' => r = .returned (.bool (fitsP ns ng k n)) ∧ Hid (Below W.heap.size W w') := CF
          have CFa := fun W => CF W ka hka a
          rw [hfa] at CFa
          refine wp_region_M (S := (fun w' : World => w'.cell? ⟨Y, 0, none⟩ = some (.int .i64 (k : Int)) ∧ w'.cell? ⟨Y, 1, none⟩ = some (.int .i64 a) ∧ w'.cell? ⟨Y, 2, none⟩ = some (.int .i64 b) ∧ w'.cell? ⟨X, 0, none⟩ = some (.slice sa ns scap) ∧ w'.cell? ⟨X, 1, none⟩ = some (.slice bd ng bcap) ∧ w'.cell? ⟨1, 0, none⟩ = some (.slice (some ⟨rg, ro, none⟩) 18 rcap) ∧ w'.cell? ⟨rg, ro + k * 3 + 1, none⟩ = some (.int .i64 (ka : Int)) ∧ w'.cell? ⟨rg, ro + k * 3 + 2, none⟩ = some (.int .i64 (kb : Int)))) (L := 30) (n := 30) (by kernel_rfl) rfl (by kernel_rfl) ?_
          refine wpAnyK_go (i := 0) (m' := 1) (some 19) (v := .pointer (some ⟨Y, 0, none⟩)) rfl rfl (by kernel_rfl) (by kernel_rfl) (by kernel_rfl) (by kernel_rfl) (by kernel_rfl) (fun _ _ _ h => h) (Or.inl ⟨by rfl, ?_⟩) hS0 ?_
          · intro w' hSw
            go_simp
          simp only [Act.put, List.setIfInBounds_toArray, List.set_cons_zero, List.set_cons_succ]
          refine wpAnyK_go (i := 1) (m' := 3) (some 20) (v := .int .i64 (k : Int)) rfl rfl (by kernel_rfl) (by kernel_rfl) (by kernel_rfl) (by kernel_rfl) (by kernel_rfl) (fun _ _ _ h => h) (Or.inl ⟨by rfl, ?_⟩) hS0 ?_
          · intro w' hSw
            obtain ⟨s1, s2, s3, s4, s5, s6, s7, s8⟩ := hSw
            go_simp
          simp only [Act.put, List.setIfInBounds_toArray, List.set_cons_zero, List.set_cons_succ]
          refine wpAnyK_only (i := 2) (m' := 7) (by kernel_rfl) rfl (by kernel_rfl) fun K hK => ?_
          go_simp
          (with_reducible refine Calls.mono (CO _) ?_)
          rintro e2 w2 ⟨rfl, hw2⟩
          obtain rfl := hw2.symm
          clear hw2
          go_simp
          refine hK.out _ _ (fun _ => hS0) ?_
          clear hK K
          refine wpAnyK_go (i := 3) (m' := 15) (some 22) (v := .bool false) rfl rfl (by kernel_rfl) (by kernel_rfl) (by kernel_rfl) (by kernel_rfl) (by kernel_rfl) (fun _ _ _ h => h) (Or.inl ⟨by rfl, ?_⟩) hS0 ?_
          · intro w' hSw
            go_simp
          simp only [Act.put, List.setIfInBounds_toArray, List.set_cons_zero, List.set_cons_succ]
          refine wpAnyK_go (i := 4) (m' := 31) (some 23) (v := .bool false) rfl rfl (by kernel_rfl) (by kernel_rfl) (by kernel_rfl) (by kernel_rfl) (by kernel_rfl) (fun _ _ _ h => h) (Or.inl ⟨by rfl, ?_⟩) hS0 ?_
          · intro w' hSw
            go_simp
          simp only [Act.put, List.setIfInBounds_toArray, List.set_cons_zero, List.set_cons_succ]
          refine wpAnyK_go (i := 5) (m' := 63) (some 24) (v := .agg #[.slice sa ns scap, .slice bd ng bcap]) rfl rfl (by kernel_rfl) (by kernel_rfl) (by kernel_rfl) (by kernel_rfl) (by kernel_rfl) (fun _ _ _ h => h) (Or.inl ⟨by rfl, ?_⟩) hS0 ?_
          · intro w' hSw
            obtain ⟨s1, s2, s3, s4, s5, s6, s7, s8⟩ := hSw
            go_simp
          simp only [Act.put, List.setIfInBounds_toArray, List.set_cons_zero, List.set_cons_succ]
          refine wpAnyK_go (i := 6) (m' := 127) (some 25) (v := .slice (some ⟨rg, ro, none⟩) 18 rcap) rfl rfl (by kernel_rfl) (by kernel_rfl) (by kernel_rfl) (by kernel_rfl) (by kernel_rfl) (fun _ _ _ h => h) (Or.inl ⟨by rfl, ?_⟩) hS0 ?_
          · intro w' hSw
            obtain ⟨s1, s2, s3, s4, s5, s6, s7, s8⟩ := hSw
            go_simp
          simp only [Act.put, List.setIfInBounds_toArray, List.set_cons_zero, List.set_cons_succ]
          refine wpAnyK_go (i := 7) (m' := 255) (some 26) (v := .pointer (some ⟨Y, 0, none⟩)) rfl rfl (by kernel_rfl) (by kernel_rfl) (by kernel_rfl) (by kernel_rfl) (by kernel_rfl) (fun _ _ _ h => h) (Or.inl ⟨by rfl, ?_⟩) hS0 ?_
          · intro w' hSw
            go_simp
          simp only [Act.put, List.setIfInBounds_toArray, List.set_cons_zero, List.set_cons_succ]
          refine wpAnyK_go (i := 8) (m' := 511) (some 27) (v := .int .i64 (k : Int)) rfl rfl (by kernel_rfl) (by kernel_rfl) (by kernel_rfl) (by kernel_rfl) (by kernel_rfl) (fun _ _ _ h => h) (Or.inl ⟨by rfl, ?_⟩) hS0 ?_
          · intro w' hSw
            obtain ⟨s1, s2, s3, s4, s5, s6, s7, s8⟩ := hSw
            go_simp
          simp only [Act.put, List.setIfInBounds_toArray, List.set_cons_zero, List.set_cons_succ]
          refine wpAnyK_go (i := 9) (m' := 1023) (some 28) (v := .pointer (some ⟨rg, ro + k * 3, none⟩)) rfl rfl (by kernel_rfl) (by kernel_rfl) (by kernel_rfl) (by kernel_rfl) (by kernel_rfl) (fun _ _ _ h => h) (Or.inl ⟨by rfl, ?_⟩) hS0 ?_
          · intro w' hSw
            go_simp
          simp only [Act.put, List.setIfInBounds_toArray, List.set_cons_zero, List.set_cons_succ]
          refine wpAnyK_go (i := 10) (m' := 2047) (some 29) (v := .pointer (some ⟨rg, ro + k * 3 + 1, none⟩)) rfl rfl (by kernel_rfl) (by kernel_rfl) (by kernel_rfl) (by kernel_rfl) (by kernel_rfl) (fun _ _ _ h => h) (Or.inl ⟨by rfl, ?_⟩) hS0 ?_
          · intro w' hSw
            go_simp
          simp only [Act.put, List.setIfInBounds_toArray, List.set_cons_zero, List.set_cons_succ]
          refine wpAnyK_go (i := 11) (m' := 4095) (some 30) (v := .int .i64 (ka : Int)) rfl rfl (by kernel_rfl) (by kernel_rfl) (by kernel_rfl) (by kernel_rfl) (by kernel_rfl) (fun _ _ _ h => h) (Or.inl ⟨by rfl, ?_⟩) hS0 ?_
          · intro w' hSw
            obtain ⟨s1, s2, s3, s4, s5, s6, s7, s8⟩ := hSw
            go_simp
          simp only [Act.put, List.setIfInBounds_toArray, List.set_cons_zero, List.set_cons_succ]
          refine wpAnyK_go (i := 12) (m' := 8191) (some 31) (v := .pointer (some ⟨Y, 1, none⟩)) rfl rfl (by kernel_rfl) (by kernel_rfl) (by kernel_rfl) (by kernel_rfl) (by kernel_rfl) (fun _ _ _ h => h) (Or.inl ⟨by rfl, ?_⟩) hS0 ?_
          · intro w' hSw
            go_simp
          simp only [Act.put, List.setIfInBounds_toArray, List.set_cons_zero, List.set_cons_succ]
          refine wpAnyK_go (i := 13) (m' := 16383) (some 32) (v := .int .i64 a) rfl rfl (by kernel_rfl) (by kernel_rfl) (by kernel_rfl) (by kernel_rfl) (by kernel_rfl) (fun _ _ _ h => h) (Or.inl ⟨by rfl, ?_⟩) hS0 ?_
          · intro w' hSw
            obtain ⟨s1, s2, s3, s4, s5, s6, s7, s8⟩ := hSw
            go_simp
          simp only [Act.put, List.setIfInBounds_toArray, List.set_cons_zero, List.set_cons_succ]
          refine wpAnyK_only (i := 14) (m' := 32767) (by kernel_rfl) rfl (by kernel_rfl) fun K hK => ?_
          go_simp
          (with_reducible refine Calls.mono (CFa _) ?_)
          rintro e3 w3 ⟨rfl, HB3⟩
          have hS3 := HKS.out _ w3 hS0 HB3.out
          go_simp
          refine hK.out _ _ (fun _ => hS3) ?_
          clear hK K
          refine wpAnyK_go (i := 15) (m' := 65535) (some 34) (v := .bool true) rfl rfl (by kernel_rfl) (by kernel_rfl) (by kernel_rfl) (by kernel_rfl) (by kernel_rfl) (fun _ _ _ h => h) (Or.inl ⟨by rfl, ?_⟩) hS3 ?_
          · intro w' hSw
            go_simp
          simp only [Act.put, List.setIfInBounds_toArray, List.set_cons_zero, List.set_cons_succ]
          refine wpAnyK_go (i := 16) (m' := 131071) (some 35) (v := .bool true) rfl rfl (by kernel_rfl) (by kernel_rfl) (by kernel_rfl) (by kernel_rfl) (by kernel_rfl) (fun _ _ _ h => h) (Or.inl ⟨by rfl, ?_⟩) hS3 ?_
          · intro w' hSw
            go_simp
          simp only [Act.put, List.setIfInBounds_toArray, List.set_cons_zero, List.set_cons_succ]
          refine wpAnyK_go (i := 17) (m' := 262143) (some 36) (v := .bool true) rfl rfl (by kernel_rfl) (by kernel_rfl) (by kernel_rfl) (by kernel_rfl) (by kernel_rfl) (fun _ _ _ h => h) (Or.inl ⟨by rfl, ?_⟩) hS3 ?_
          · intro w' hSw
            go_simp
          simp only [Act.put, List.setIfInBounds_toArray, List.set_cons_zero, List.set_cons_succ]
          refine wpAnyK_go (i := 18) (m' := 524287) (some 37) (v := undef) rfl rfl (by kernel_rfl) (by kernel_rfl) (by kernel_rfl) (by kernel_rfl) (by kernel_rfl) (fun _ _ _ h => h) (Or.inr ⟨by rfl, rfl⟩) hS3 ?_
          simp only [Act.put, List.setIfInBounds_toArray, List.set_cons_zero, List.set_cons_succ]
          refine wpAnyK_go (i := 19) (m' := 1048575) (some 38) (v := undef) rfl rfl (by kernel_rfl) (by kernel_rfl) (by kernel_rfl) (by kernel_rfl) (by kernel_rfl) (fun _ _ _ h => h) (Or.inr ⟨by rfl, rfl⟩) hS3 ?_
          simp only [Act.put, List.setIfInBounds_toArray, List.set_cons_zero, List.set_cons_succ]
          refine wpAnyK_go (i := 20) (m' := 2097151) (some 39) (v := undef) rfl rfl (by kernel_rfl) (by kernel_rfl) (by kernel_rfl) (by kernel_rfl) (by kernel_rfl) (fun _ _ _ h => h) (Or.inr ⟨by rfl, rfl⟩) hS3 ?_
          simp only [Act.put, List.setIfInBounds_toArray, List.set_cons_zero, List.set_cons_succ]
          refine wpAnyK_go (i := 21) (m' := 4194303) (some 40) (v := undef) rfl rfl (by kernel_rfl) (by kernel_rfl) (by kernel_rfl) (by kernel_rfl) (by kernel_rfl) (fun _ _ _ h => h) (Or.inr ⟨by rfl, rfl⟩) hS3 ?_
          simp only [Act.put, List.setIfInBounds_toArray, List.set_cons_zero, List.set_cons_succ]
          refine wpAnyK_go (i := 22) (m' := 8388607) (some 41) (v := undef) rfl rfl (by kernel_rfl) (by kernel_rfl) (by kernel_rfl) (by kernel_rfl) (by kernel_rfl) (fun _ _ _ h => h) (Or.inr ⟨by rfl, rfl⟩) hS3 ?_
          simp only [Act.put, List.setIfInBounds_toArray, List.set_cons_zero, List.set_cons_succ]
          refine wpAnyK_go (i := 23) (m' := 16777215) (some 42) (v := undef) rfl rfl (by kernel_rfl) (by kernel_rfl) (by kernel_rfl) (by kernel_rfl) (by kernel_rfl) (fun _ _ _ h => h) (Or.inr ⟨by rfl, rfl⟩) hS3 ?_
          simp only [Act.put, List.setIfInBounds_toArray, List.set_cons_zero, List.set_cons_succ]
          refine wpAnyK_go (i := 24) (m' := 33554431) (some 43) (v := undef) rfl rfl (by kernel_rfl) (by kernel_rfl) (by kernel_rfl) (by kernel_rfl) (by kernel_rfl) (fun _ _ _ h => h) (Or.inr ⟨by rfl, rfl⟩) hS3 ?_
          simp only [Act.put, List.setIfInBounds_toArray, List.set_cons_zero, List.set_cons_succ]
          refine wpAnyK_go (i := 25) (m' := 67108863) (some 44) (v := undef) rfl rfl (by kernel_rfl) (by kernel_rfl) (by kernel_rfl) (by kernel_rfl) (by kernel_rfl) (fun _ _ _ h => h) (Or.inr ⟨by rfl, rfl⟩) hS3 ?_
          simp only [Act.put, List.setIfInBounds_toArray, List.set_cons_zero, List.set_cons_succ]
          refine wpAnyK_go (i := 26) (m' := 134217727) (some 45) (v := undef) rfl rfl (by kernel_rfl) (by kernel_rfl) (by kernel_rfl) (by kernel_rfl) (by kernel_rfl) (fun _ _ _ h => h) (Or.inr ⟨by rfl, rfl⟩) hS3 ?_
          simp only [Act.put, List.setIfInBounds_toArray, List.set_cons_zero, List.set_cons_succ]
          refine wpAnyK_go (i := 27) (m' := 268435455) (some 46) (v := undef) rfl rfl (by kernel_rfl) (by kernel_rfl) (by kernel_rfl) (by kernel_rfl) (by kernel_rfl) (fun _ _ _ h => h) (Or.inr ⟨by rfl, rfl⟩) hS3 ?_
          simp only [Act.put, List.setIfInBounds_toArray, List.set_cons_zero, List.set_cons_succ]
          refine wpAnyK_go (i := 28) (m' := 536870911) (some 47) (v := undef) rfl rfl (by kernel_rfl) (by kernel_rfl) (by kernel_rfl) (by kernel_rfl) (by kernel_rfl) (fun _ _ _ h => h) (Or.inr ⟨by rfl, rfl⟩) hS3 ?_
          simp only [Act.put, List.setIfInBounds_toArray, List.set_cons_zero, List.set_cons_succ]
          refine wpAnyK_go (i := 29) (m' := 1073741823) (some 48) (v := .bool true) rfl rfl (by kernel_rfl) (by kernel_rfl) (by kernel_rfl) (by kernel_rfl) (by kernel_rfl) (fun _ _ _ h => h) (Or.inl ⟨by rfl, ?_⟩) hS3 ?_
          · intro w' hSw
            go_simp
          simp only [Act.put, List.setIfInBounds_toArray, List.set_cons_zero, List.set_cons_succ]
          refine wpAnyK_done (by kernel_rfl) ?_ _
          go_wp2
          go_ret
          exact ⟨by rw [HE.out]; rfl, p5.out.trans (HB3.out.mono (Nat.le_trans hB p5.out.size))⟩
        | true =>
          have CFa := fun W => CF W ka hka a
          rw [hfa] at CFa
          cases hfb : fitsP ns ng kb b with
          | false =>
            have HE : Hid (R = 172) := HRET.out 172 (by decide) (HNB2.out hfb)
            have CFb := fun W => CF W kb hkb b
            rw [hfb] at CFb
            refine wp_region_M (S := (fun w' : World => w'.cell? ⟨Y, 0, none⟩ = some (.int .i64 (k : Int)) ∧ w'.cell? ⟨Y, 1, none⟩ = some (.int .i64 a) ∧ w'.cell? ⟨Y, 2, none⟩ = some (.int .i64 b) ∧ w'.cell? ⟨X, 0, none⟩ = some (.slice sa ns scap) ∧ w'.cell? ⟨X, 1, none⟩ = some (.slice bd ng bcap) ∧ w'.cell? ⟨1, 0, none⟩ = some (.slice (some ⟨rg, ro, none⟩) 18 rcap) ∧ w'.cell? ⟨rg, ro + k * 3 + 1, none⟩ = some (.int .i64 (ka : Int)) ∧ w'.cell? ⟨rg, ro + k * 3 + 2, none⟩ = some (.int .i64 (kb : Int)))) (L := 30) (n := 30) (by kernel_rfl) rfl (by kernel_rfl) ?_
            refine wpAnyK_go (i := 0) (m' := 1) (some 19) (v := .pointer (some ⟨Y, 0, none⟩)) rfl rfl (by kernel_rfl) (by kernel_rfl) (by kernel_rfl) (by kernel_rfl) (by kernel_rfl) (fun _ _ _ h => h) (Or.inl ⟨by rfl, ?_⟩) hS0 ?_
            · intro w' hSw
              go_simp
            simp only [Act.put, List.setIfInBounds_toArray, List.set_cons_zero, List.set_cons_succ]
            refine wpAnyK_go (i := 1) (m' := 3) (some 20) (v := .int .i64 (k : Int)) rfl rfl (by kernel_rfl) (by kernel_rfl) (by kernel_rfl) (by kernel_rfl) (by kernel_rfl) (fun _ _ _ h => h) (Or.inl ⟨by rfl, ?_⟩) hS0 ?_
            · intro w' hSw
              obtain ⟨s1, s2, s3, s4, s5, s6, s7, s8⟩ := hSw
              go_simp
            simp only [Act.put, List.setIfInBounds_toArray, List.set_cons_zero, List.set_cons_succ]
            refine wpAnyK_only (i := 2) (m' := 7) (by kernel_rfl) rfl (by kernel_rfl) fun K hK => ?_
            go_simp
            (with_reducible refine Calls.mono (CO _) ?_)
            rintro e2 w2 ⟨rfl, hw2⟩
            obtain rfl := hw2.symm
            clear hw2
            go_simp
            refine hK.out _ _ (fun _ => hS0) ?_
            clear hK K
            refine wpAnyK_go (i := 3) (m' := 15) (some 22) (v := .bool false) rfl rfl (by kernel_rfl) (by kernel_rfl) (by kernel_rfl) (by kernel_rfl) (by kernel_rfl) (fun _ _ _ h => h) (Or.inl ⟨by rfl, ?_⟩) hS0 ?_
            · intro w' hSw
              go_simp
            simp only [Act.put, List.setIfInBounds_toArray, List.set_cons_zero, List.set_cons_succ]
            refine wpAnyK_go (i := 4) (m' := 31) (some 23) (v := .bool false) rfl rfl (by kernel_rfl) (by kernel_rfl) (by kernel_rfl) (by kernel_rfl) (by kernel_rfl) (fun _ _ _ h => h) (Or.inl ⟨by rfl, ?_⟩) hS0 ?_
            · intro w' hSw
              go_simp
            simp only [Act.put, List.setIfInBounds_toArray, List.set_cons_zero, List.set_cons_succ]
            refine wpAnyK_go (i := 5) (m' := 63) (some 24) (v := .agg #[.slice sa ns scap, .slice bd ng bcap]) rfl rfl (by kernel_rfl) (by kernel_rfl) (by kernel_rfl) (by kernel_rfl) (by kernel_rfl) (fun _ _ _ h => h) (Or.inl ⟨by rfl, ?_⟩) hS0 ?_
            · intro w' hSw
              obtain ⟨s1, s2, s3, s4, s5, s6, s7, s8⟩ := hSw
              go_simp
            simp only [Act.put, List.setIfInBounds_toArray, List.set_cons_zero, List.set_cons_succ]
            refine wpAnyK_go (i := 6) (m' := 127) (some 25) (v := .slice (some ⟨rg, ro, none⟩) 18 rcap) rfl rfl (by kernel_rfl) (by kernel_rfl) (by kernel_rfl) (by kernel_rfl) (by kernel_rfl) (fun _ _ _ h => h) (Or.inl ⟨by rfl, ?_⟩) hS0 ?_
            · intro w' hSw
              obtain ⟨s1, s2, s3, s4, s5, s6, s7, s8⟩ := hSw
              go_simp
            simp only [Act.put, List.setIfInBounds_toArray, List.set_cons_zero, List.set_cons_succ]
            refine wpAnyK_go (i := 7) (m' := 255) (some 26) (v := .pointer (some ⟨Y, 0, none⟩)) rfl rfl (by kernel_rfl) (by kernel_rfl) (by kernel_rfl) (by kernel_rfl) (by kernel_rfl) (fun _ _ _ h => h) (Or.inl ⟨by rfl, ?_⟩) hS0 ?_
            · intro w' hSw
              go_simp
            simp only [Act.put, List.setIfInBounds_toArray, List.set_cons_zero, List.set_cons_succ]
            refine wpAnyK_go (i := 8) (m' := 511) (some 27) (v := .int .i64 (k : Int)) rfl rfl (by kernel_rfl) (by kernel_rfl) (by kernel_rfl) (by kernel_rfl) (by kernel_rfl) (fun _ _ _ h => h) (Or.inl ⟨by rfl, ?_⟩) hS0 ?_
            · intro w' hSw
              obtain ⟨s1, s2, s3, s4, s5, s6, s7, s8⟩ := hSw
              go_simp
            simp only [Act.put, List.setIfInBounds_toArray, List.set_cons_zero, List.set_cons_succ]
            refine wpAnyK_go (i := 9) (m' := 1023) (some 28) (v := .pointer (some ⟨rg, ro + k * 3, none⟩)) rfl rfl (by kernel_rfl) (by kernel_rfl) (by kernel_rfl) (by kernel_rfl) (by kernel_rfl) (fun _ _ _ h => h) (Or.inl ⟨by rfl, ?_⟩) hS0 ?_
            · intro w' hSw
              go_simp
            simp only [Act.put, List.setIfInBounds_toArray, List.set_cons_zero, List.set_cons_succ]
            refine wpAnyK_go (i := 10) (m' := 2047) (some 29) (v := .pointer (some ⟨rg, ro + k * 3 + 1, none⟩)) rfl rfl (by kernel_rfl) (by kernel_rfl) (by kernel_rfl) (by kernel_rfl) (by kernel_rfl) (fun _ _ _ h => h) (Or.inl ⟨by rfl, ?_⟩) hS0 ?_
            · intro w' hSw
              go_simp
            simp only [Act.put, List.setIfInBounds_toArray, List.set_cons_zero, List.set_cons_succ]
            refine wpAnyK_go (i := 11) (m' := 4095) (some 30) (v := .int .i64 (ka : Int)) rfl rfl (by kernel_rfl) (by kernel_rfl) (by kernel_rfl) (by kernel_rfl) (by kernel_rfl) (fun _ _ _ h => h) (Or.inl ⟨by rfl, ?_⟩) hS0 ?_
            · intro w' hSw
              obtain ⟨s1, s2, s3, s4, s5, s6, s7, s8⟩ := hSw
              go_simp
            simp only [Act.put, List.setIfInBounds_toArray, List.set_cons_zero, List.set_cons_succ]
            refine wpAnyK_go (i := 12) (m' := 8191) (some 31) (v := .pointer (some ⟨Y, 1, none⟩)) rfl rfl (by kernel_rfl) (by kernel_rfl) (by kernel_rfl) (by kernel_rfl) (by kernel_rfl) (fun _ _ _ h => h) (Or.inl ⟨by rfl, ?_⟩) hS0 ?_
            · intro w' hSw
              go_simp
            simp only [Act.put, List.setIfInBounds_toArray, List.set_cons_zero, List.set_cons_succ]
            refine wpAnyK_go (i := 13) (m' := 16383) (some 32) (v := .int .i64 a) rfl rfl (by kernel_rfl) (by kernel_rfl) (by kernel_rfl) (by kernel_rfl) (by kernel_rfl) (fun _ _ _ h => h) (Or.inl ⟨by rfl, ?_⟩) hS0 ?_
            · intro w' hSw
              obtain ⟨s1, s2, s3, s4, s5, s6, s7, s8⟩ := hSw
              go_simp
            simp only [Act.put, List.setIfInBounds_toArray, List.set_cons_zero, List.set_cons_succ]
            refine wpAnyK_only (i := 14) (m' := 32767) (by kernel_rfl) rfl (by kernel_rfl) fun K hK => ?_
            go_simp
            (with_reducible refine Calls.mono (CFa _) ?_)
            rintro e3 w3 ⟨rfl, HB3⟩
            have hS3 := HKS.out _ w3 hS0 HB3.out
            go_simp
            refine hK.out _ _ (fun _ => hS3) ?_
            clear hK K
            refine wpAnyK_go (i := 15) (m' := 65535) (some 34) (v := .bool false) rfl rfl (by kernel_rfl) (by kernel_rfl) (by kernel_rfl) (by kernel_rfl) (by kernel_rfl) (fun _ _ _ h => h) (Or.inl ⟨by rfl, ?_⟩) hS3 ?_
            · intro w' hSw
              go_simp
            simp only [Act.put, List.setIfInBounds_toArray, List.set_cons_zero, List.set_cons_succ]
            refine wpAnyK_go (i := 16) (m' := 131071) (some 35) (v := .bool false) rfl rfl (by kernel_rfl) (by kernel_rfl) (by kernel_rfl) (by kernel_rfl) (by kernel_rfl) (fun _ _ _ h => h) (Or.inl ⟨by rfl, ?_⟩) hS3 ?_
            · intro w' hSw
              go_simp
            simp only [Act.put, List.setIfInBounds_toArray, List.set_cons_zero, List.set_cons_succ]
            refine wpAnyK_go (i := 17) (m' := 262143) (some 36) (v := .bool false) rfl rfl (by kernel_rfl) (by kernel_rfl) (by kernel_rfl) (by kernel_rfl) (by kernel_rfl) (fun _ _ _ h => h) (Or.inl ⟨by rfl, ?_⟩) hS3 ?_
            · intro w' hSw
              go_simp
            simp only [Act.put, List.setIfInBounds_toArray, List.set_cons_zero, List.set_cons_succ]
            refine wpAnyK_go (i := 18) (m' := 524287) (some 37) (v := .agg #[.slice sa ns scap, .slice bd ng bcap]) rfl rfl (by kernel_rfl) (by kernel_rfl) (by kernel_rfl) (by kernel_rfl) (by kernel_rfl) (fun _ _ _ h => h) (Or.inl ⟨by rfl, ?_⟩) hS3 ?_
            · intro w' hSw
              obtain ⟨s1, s2, s3, s4, s5, s6, s7, s8⟩ := hSw
              go_simp
            simp only [Act.put, List.setIfInBounds_toArray, List.set_cons_zero, List.set_cons_succ]
            refine wpAnyK_go (i := 19) (m' := 1048575) (some 38) (v := .slice (some ⟨rg, ro, none⟩) 18 rcap) rfl rfl (by kernel_rfl) (by kernel_rfl) (by kernel_rfl) (by kernel_rfl) (by kernel_rfl) (fun _ _ _ h => h) (Or.inl ⟨by rfl, ?_⟩) hS3 ?_
            · intro w' hSw
              obtain ⟨s1, s2, s3, s4, s5, s6, s7, s8⟩ := hSw
              go_simp
            simp only [Act.put, List.setIfInBounds_toArray, List.set_cons_zero, List.set_cons_succ]
            refine wpAnyK_go (i := 20) (m' := 2097151) (some 39) (v := .pointer (some ⟨Y, 0, none⟩)) rfl rfl (by kernel_rfl) (by kernel_rfl) (by kernel_rfl) (by kernel_rfl) (by kernel_rfl) (fun _ _ _ h => h) (Or.inl ⟨by rfl, ?_⟩) hS3 ?_
            · intro w' hSw
              go_simp
            simp only [Act.put, List.setIfInBounds_toArray, List.set_cons_zero, List.set_cons_succ]
            refine wpAnyK_go (i := 21) (m' := 4194303) (some 40) (v := .int .i64 (k : Int)) rfl rfl (by kernel_rfl) (by kernel_rfl) (by kernel_rfl) (by kernel_rfl) (by kernel_rfl) (fun _ _ _ h => h) (Or.inl ⟨by rfl, ?_⟩) hS3 ?_
            · intro w' hSw
              obtain ⟨s1, s2, s3, s4, s5, s6, s7, s8⟩ := hSw
              go_simp
            simp only [Act.put, List.setIfInBounds_toArray, List.set_cons_zero, List.set_cons_succ]
            refine wpAnyK_go (i := 22) (m' := 8388607) (some 41) (v := .pointer (some ⟨rg, ro + k * 3, none⟩)) rfl rfl (by kernel_rfl) (by kernel_rfl) (by kernel_rfl) (by kernel_rfl) (by kernel_rfl) (fun _ _ _ h => h) (Or.inl ⟨by rfl, ?_⟩) hS3 ?_
            · intro w' hSw
              go_simp
            simp only [Act.put, List.setIfInBounds_toArray, List.set_cons_zero, List.set_cons_succ]
            refine wpAnyK_go (i := 23) (m' := 16777215) (some 42) (v := .pointer (some ⟨rg, ro + k * 3 + 2, none⟩)) rfl rfl (by kernel_rfl) (by kernel_rfl) (by kernel_rfl) (by kernel_rfl) (by kernel_rfl) (fun _ _ _ h => h) (Or.inl ⟨by rfl, ?_⟩) hS3 ?_
            · intro w' hSw
              go_simp
            simp only [Act.put, List.setIfInBounds_toArray, List.set_cons_zero, List.set_cons_succ]
            refine wpAnyK_go (i := 24) (m' := 33554431) (some 43) (v := .int .i64 (kb : Int)) rfl rfl (by kernel_rfl) (by kernel_rfl) (by kernel_rfl) (by kernel_rfl) (by kernel_rfl) (fun _ _ _ h => h) (Or.inl ⟨by rfl, ?_⟩) hS3 ?_
            · intro w' hSw
              obtain ⟨s1, s2, s3, s4, s5, s6, s7, s8⟩ := hSw
              go_simp
            simp only [Act.put, List.setIfInBounds_toArray, List.set_cons_zero, List.set_cons_succ]
            refine wpAnyK_go (i := 25) (m' := 67108863) (some 44) (v := .pointer (some ⟨Y, 2, none⟩)) rfl rfl (by kernel_rfl) (by kernel_rfl) (by kernel_rfl) (by kernel_rfl) (by kernel_rfl) (fun _ _ _ h => h) (Or.inl ⟨by rfl, ?_⟩) hS3 ?_
            · intro w' hSw
              go_simp
            simp only [Act.put, List.setIfInBounds_toArray, List.set_cons_zero, List.set_cons_succ]
            refine wpAnyK_go (i := 26) (m' := 134217727) (some 45) (v := .int .i64 b) rfl rfl (by kernel_rfl) (by kernel_rfl) (by kernel_rfl) (by kernel_rfl) (by kernel_rfl) (fun _ _ _ h => h) (Or.inl ⟨by rfl, ?_⟩) hS3 ?_
            · intro w' hSw
              obtain ⟨s1, s2, s3, s4, s5, s6, s7, s8⟩ := hSw
              go_simp
            simp only [Act.put, List.setIfInBounds_toArray, List.set_cons_zero, List.set_cons_succ]
            refine wpAnyK_only (i := 27) (m' := 268435455) (by kernel_rfl) rfl (by kernel_rfl) fun K hK => ?_
            go_simp
            (with_reducible refine Calls.mono (CFb _) ?_)
            rintro e4 w4 ⟨rfl, HB4⟩
            have hS4 := HKS.out _ w4 hS3 HB4.out
            go_simp
            refine hK.out _ _ (fun _ => hS4) ?_
            clear hK K
            refine wpAnyK_go (i := 28) (m' := 536870911) (some 47) (v := .bool true) rfl rfl (by kernel_rfl) (by kernel_rfl) (by kernel_rfl) (by kernel_rfl) (by kernel_rfl) (fun _ _ _ h => h) (Or.inl ⟨by rfl, ?_⟩) hS4 ?_
            · intro w' hSw
              go_simp
            simp only [Act.put, List.setIfInBounds_toArray, List.set_cons_zero, List.set_cons_succ]
            refine wpAnyK_go (i := 29) (m' := 1073741823) (some 48) (v := .bool true) rfl rfl (by kernel_rfl) (by kernel_rfl) (by kernel_rfl) (by kernel_rfl) (by kernel_rfl) (fun _ _ _ h => h) (Or.inl ⟨by rfl, ?_⟩) hS4 ?_
            · intro w' hSw
              go_simp
            simp only [Act.put, List.setIfInBounds_toArray, List.set_cons_zero, List.set_cons_succ]
            refine wpAnyK_done (by kernel_rfl) ?_ _
            have HB34 := HB3.out.trans (HB4.out.mono HB3.out.size)
            go_wp2
            go_ret
            exact ⟨by rw [HE.out]; rfl, p5.out.trans (HB34.mono (Nat.le_trans hB p5.out.size))⟩
          | true =>
            have HNG2 := HNG.out hfa hfb
            replace HNG2 : Hid (numP ns ng n i ((k : Int), a, b) = match targetP ((k : Int), a, b) with
              | some to => if to ≤ (i : Int) ∨ (n : Int) ≤ to then 174 else 0
              | none => 0) := HNG2
            have CFb := fun W => CF W kb hkb b
            rw [hfb] at CFb
            clear HNG HNB HNB2 CF hfa hfb
            refine wp_region_M (S := (fun w' : World => w'.cell? ⟨Y, 0, none⟩ = some (.int .i64 (k : Int)) ∧ w'.cell? ⟨Y, 1, none⟩ = some (.int .i64 a) ∧ w'.cell? ⟨Y, 2, none⟩ = some (.int .i64 b) ∧ w'.cell? ⟨X, 0, none⟩ = some (.slice sa ns scap) ∧ w'.cell? ⟨X, 1, none⟩ = some (.slice bd ng bcap) ∧ w'.cell? ⟨1, 0, none⟩ = some (.slice (some ⟨rg, ro, none⟩) 18 rcap) ∧ w'.cell? ⟨rg, ro + k * 3 + 1, none⟩ = some (.int .i64 (ka : Int)) ∧ w'.cell? ⟨rg, ro + k * 3 + 2, none⟩ = some (.int .i64 (kb : Int)))) (L := 30) (n := 30) (by kernel_rfl) rfl (by kernel_rfl) ?_
            refine wpAnyK_go (i := 0) (m' := 1) (some 19) (v := .pointer (some ⟨Y, 0, none⟩)) rfl rfl (by kernel_rfl) (by kernel_rfl) (by kernel_rfl) (by kernel_rfl) (by kernel_rfl) (fun _ _ _ h => h) (Or.inl ⟨by rfl, ?_⟩) hS0 ?_
            · intro w' hSw
              go_simp
            simp only [Act.put, List.setIfInBounds_toArray, List.set_cons_zero, List.set_cons_succ]
            refine wpAnyK_go (i := 1) (m' := 3) (some 20) (v := .int .i64 (k : Int)) rfl rfl (by kernel_rfl) (by kernel_rfl) (by kernel_rfl) (by kernel_rfl) (by kernel_rfl) (fun _ _ _ h => h) (Or.inl ⟨by rfl, ?_⟩) hS0 ?_
            · intro w' hSw
              obtain ⟨s1, s2, s3, s4, s5, s6, s7, s8⟩ := hSw
              go_simp
            simp only [Act.put, List.setIfInBounds_toArray, List.set_cons_zero, List.set_cons_succ]
            refine wpAnyK_only (i := 2) (m' := 7) (by kernel_rfl) rfl (by kernel_rfl) fun K hK => ?_
            go_simp
            (with_reducible refine Calls.mono (CO _) ?_)
            rintro e2 w2 ⟨rfl, hw2⟩
            obtain rfl := hw2.symm
            clear hw2
            go_simp
            refine hK.out _ _ (fun _ => hS0) ?_
            clear hK K
            refine wpAnyK_go (i := 3) (m' := 15) (some 22) (v := .bool false) rfl rfl (by kernel_rfl) (by kernel_rfl) (by kernel_rfl) (by kernel_rfl) (by kernel_rfl) (fun _ _ _ h => h) (Or.inl ⟨by rfl, ?_⟩) hS0 ?_
            · intro w' hSw
              go_simp
            simp only [Act.put, List.setIfInBounds_toArray, List.set_cons_zero, List.set_cons_succ]
            refine wpAnyK_go (i := 4) (m' := 31) (some 23) (v := .bool false) rfl rfl (by kernel_rfl) (by kernel_rfl) (by kernel_rfl) (by kernel_rfl) (by kernel_rfl) (fun _ _ _ h => h) (Or.inl ⟨by rfl, ?_⟩) hS0 ?_
            · intro w' hSw
              go_simp
            simp only [Act.put, List.setIfInBounds_toArray, List.set_cons_zero, List.set_cons_succ]
            refine wpAnyK_go (i := 5) (m' := 63) (some 24) (v := .agg #[.slice sa ns scap, .slice bd ng bcap]) rfl rfl (by kernel_rfl) (by kernel_rfl) (by kernel_rfl) (by kernel_rfl) (by kernel_rfl) (fun _ _ _ h => h) (Or.inl ⟨by rfl, ?_⟩) hS0 ?_
            · intro w' hSw
              obtain ⟨s1, s2, s3, s4, s5, s6, s7, s8⟩ := hSw
              go_simp
            simp only [Act.put, List.setIfInBounds_toArray, List.set_cons_zero, List.set_cons_succ]
            refine wpAnyK_go (i := 6) (m' := 127) (some 25) (v := .slice (some ⟨rg, ro, none⟩) 18 rcap) rfl rfl (by kernel_rfl) (by kernel_rfl) (by kernel_rfl) (by kernel_rfl) (by kernel_rfl) (fun _ _ _ h => h) (Or.inl ⟨by rfl, ?_⟩) hS0 ?_
            · intro w' hSw
              obtain ⟨s1, s2, s3, s4, s5, s6, s7, s8⟩ := hSw
              go_simp
            simp only [Act.put, List.setIfInBounds_toArray, List.set_cons_zero, List.set_cons_succ]
            refine wpAnyK_go (i := 7) (m' := 255) (some 26) (v := .pointer (some ⟨Y, 0, none⟩)) rfl rfl (by kernel_rfl) (by kernel_rfl) (by kernel_rfl) (by kernel_rfl) (by kernel_rfl) (fun _ _ _ h => h) (Or.inl ⟨by rfl, ?_⟩) hS0 ?_
            · intro w' hSw
              go_simp
            simp only [Act.put, List.setIfInBounds_toArray, List.set_cons_zero, List.set_cons_succ]
            refine wpAnyK_go (i := 8) (m' := 511) (some 27) (v := .int .i64 (k : Int)) rfl rfl (by kernel_rfl) (by kernel_rfl) (by kernel_rfl) (by kernel_rfl) (by kernel_rfl) (fun _ _ _ h => h) (Or.inl ⟨by rfl, ?_⟩) hS0 ?_
            · intro w' hSw
              obtain ⟨s1, s2, s3, s4, s5, s6, s7, s8⟩ := hSw
              go_simp
            simp only [Act.put, List.setIfInBounds_toArray, List.set_cons_zero, List.set_cons_succ]
            refine wpAnyK_go (i := 9) (m' := 1023) (some 28) (v := .pointer (some ⟨rg, ro + k * 3, none⟩)) rfl rfl (by kernel_rfl) (by kernel_rfl) (by kernel_rfl) (by kernel_rfl) (by kernel_rfl) (fun _ _ _ h => h) (Or.inl ⟨by rfl, ?_⟩) hS0 ?_
            · intro w' hSw
              go_simp
            simp only [Act.put, List.setIfInBounds_toArray, List.set_cons_zero, List.set_cons_succ]
            refine wpAnyK_go (i := 10) (m' := 2047) (some 29) (v := .pointer (some ⟨rg, ro + k * 3 + 1, none⟩)) rfl rfl (by kernel_rfl) (by kernel_rfl) (by kernel_rfl) (by kernel_rfl) (by kernel_rfl) (fun _ _ _ h => h) (Or.inl ⟨by rfl, ?_⟩) hS0 ?_
            · intro w' hSw
              go_simp
            simp only [Act.put, List.setIfInBounds_toArray, List.set_cons_zero, List.set_cons_succ]
            refine wpAnyK_go (i := 11) (m' := 4095) (some 30) (v := .int .i64 (ka : Int)) rfl rfl (by kernel_rfl) (by kernel_rfl) (by kernel_rfl) (by kernel_rfl) (by kernel_rfl) (fun _ _ _ h => h) (Or.inl ⟨by rfl, ?_⟩) hS0 ?_
            · intro w' hSw
              obtain ⟨s1, s2, s3, s4, s5, s6, s7, s8⟩ := hSw
              go_simp
            simp only [Act.put, List.setIfInBounds_toArray, List.set_cons_zero, List.set_cons_succ]
            refine wpAnyK_go (i := 12) (m' := 8191) (some 31) (v := .pointer (some ⟨Y, 1, none⟩)) rfl rfl (by kernel_rfl) (by kernel_rfl) (by kernel_rfl) (by kernel_rfl) (by kernel_rfl) (fun _ _ _ h => h) (Or.inl ⟨by rfl, ?_⟩) hS0 ?_
            · intro w' hSw
              go_simp
            simp only [Act.put, List.setIfInBounds_toArray, List.set_cons_zero, List.set_cons_succ]
            refine wpAnyK_go (i := 13) (m' := 16383) (some 32) (v := .int .i64 a) rfl rfl (by kernel_rfl) (by kernel_rfl) (by kernel_rfl) (by kernel_rfl) (by kernel_rfl) (fun _ _ _ h => h) (Or.inl ⟨by rfl, ?_⟩) hS0 ?_
            · intro w' hSw
              obtain ⟨s1, s2, s3, s4, s5, s6, s7, s8⟩ := hSw
              go_simp
            simp only [Act.put, List.setIfInBounds_toArray, List.set_cons_zero, List.set_cons_succ]
            refine wpAnyK_only (i := 14) (m' := 32767) (by kernel_rfl) rfl (by kernel_rfl) fun K hK => ?_
            go_simp
            (with_reducible refine Calls.mono (CFa _) ?_)
            rintro e3 w3 ⟨rfl, HB3⟩
            have hS3 := HKS.out _ w3 hS0 HB3.out
            go_simp
            refine hK.out _ _ (fun _ => hS3) ?_
            clear hK K
            refine wpAnyK_go (i := 15) (m' := 65535) (some 34) (v := .bool false) rfl rfl (by kernel_rfl) (by kernel_rfl) (by kernel_rfl) (by kernel_rfl) (by kernel_rfl) (fun _ _ _ h => h) (Or.inl ⟨by rfl, ?_⟩) hS3 ?_
            · intro w' hSw
              go_simp
            simp only [Act.put, List.setIfInBounds_toArray, List.set_cons_zero, List.set_cons_succ]
            refine wpAnyK_go (i := 16) (m' := 131071) (some 35) (v := .bool false) rfl rfl (by kernel_rfl) (by kernel_rfl) (by kernel_rfl) (by kernel_rfl) (by kernel_rfl) (fun _ _ _ h => h) (Or.inl ⟨by rfl, ?_⟩) hS3 ?_
            · intro w' hSw
              go_simp
            simp only [Act.put, List.setIfInBounds_toArray, List.set_cons_zero, List.set_cons_succ]
            refine wpAnyK_go (i := 17) (m' := 262143) (some 36) (v := .bool false) rfl rfl (by kernel_rfl) (by kernel_rfl) (by kernel_rfl) (by kernel_rfl) (by kernel_rfl) (fun _ _ _ h => h) (Or.inl ⟨by rfl, ?_⟩) hS3 ?_
            · intro w' hSw
              go_simp
            simp only [Act.put, List.setIfInBounds_toArray, List.set_cons_zero, List.set_cons_succ]
            refine wpAnyK_go (i := 18) (m' := 524287) (some 37) (v := .agg #[.slice sa ns scap, .slice bd ng bcap]) rfl rfl (by kernel_rfl) (by kernel_rfl) (by kernel_rfl) (by kernel_rfl) (by kernel_rfl) (fun _ _ _ h => h) (Or.inl ⟨by rfl, ?_⟩) hS3 ?_
            · intro w' hSw
              obtain ⟨s1, s2, s3, s4, s5, s6, s7, s8⟩ := hSw
              go_simp
            simp only [Act.put, List.setIfInBounds_toArray, List.set_cons_zero, List.set_cons_succ]
            refine wpAnyK_go (i := 19) (m' := 1048575) (some 38) (v := .slice (some ⟨rg, ro, none⟩) 18 rcap) rfl rfl (by kernel_rfl) (by kernel_rfl) (by kernel_rfl) (by kernel_rfl) (by kernel_rfl) (fun _ _ _ h => h) (Or.inl ⟨by rfl, ?_⟩) hS3 ?_
            · intro w' hSw
              obtain ⟨s1, s2, s3, s4, s5, s6, s7, s8⟩ := hSw
              go_simp
            simp only [Act.put, List.setIfInBounds_toArray, List.set_cons_zero, List.set_cons_succ]
            refine wpAnyK_go (i := 20) (m' := 2097151) (some 39) (v := .pointer (some ⟨Y, 0, none⟩)) rfl rfl (by kernel_rfl) (by kernel_rfl) (by kernel_rfl) (by kernel_rfl) (by kernel_rfl) (fun _ _ _ h => h) (Or.inl ⟨by rfl, ?_⟩) hS3 ?_
            · intro w' hSw
              go_simp
            simp only [Act.put, List.setIfInBounds_toArray, List.set_cons_zero, List.set_cons_succ]
            refine wpAnyK_go (i := 21) (m' := 4194303) (some 40) (v := .int .i64 (k : Int)) rfl rfl (by kernel_rfl) (by kernel_rfl) (by kernel_rfl) (by kernel_rfl) (by kernel_rfl) (fun _ _ _ h => h) (Or.inl ⟨by rfl, ?_⟩) hS3 ?_
            · intro w' hSw
              obtain ⟨s1, s2, s3, s4, s5, s6, s7, s8⟩ := hSw
              go_simp
            simp only [Act.put, List.setIfInBounds_toArray, List.set_cons_zero, List.set_cons_succ]
            refine wpAnyK_go (i := 22) (m' := 8388607) (some 41) (v := .pointer (some ⟨rg, ro + k * 3, none⟩)) rfl rfl (by kernel_rfl) (by kernel_rfl) (by kernel_rfl) (by kernel_rfl) (by kernel_rfl) (fun _ _ _ h => h) (Or.inl ⟨by rfl, ?_⟩) hS3 ?_
            · intro w' hSw
              go_simp
            simp only [Act.put, List.setIfInBounds_toArray, List.set_cons_zero, List.set_cons_succ]
            refine wpAnyK_go (i := 23) (m' := 16777215) (some 42) (v := .pointer (some ⟨rg, ro + k * 3 + 2, none⟩)) rfl rfl (by kernel_rfl) (by kernel_rfl) (by kernel_rfl) (by kernel_rfl) (by kernel_rfl) (fun _ _ _ h => h) (Or.inl ⟨by rfl, ?_⟩) hS3 ?_
            · intro w' hSw
              go_simp
            simp only [Act.put, List.setIfInBounds_toArray, List.set_cons_zero, List.set_cons_succ]
            refine wpAnyK_go (i := 24) (m' := 33554431) (some 43) (v := .int .i64 (kb : Int)) rfl rfl (by kernel_rfl) (by kernel_rfl) (by kernel_rfl) (by kernel_rfl) (by kernel_rfl) (fun _ _ _ h => h) (Or.inl ⟨by rfl, ?_⟩) hS3 ?_
            · intro w' hSw
              obtain ⟨s1, s2, s3, s4, s5, s6, s7, s8⟩ := hSw
              go_simp
            simp only [Act.put, List.setIfInBounds_toArray, List.set_cons_zero, List.set_cons_succ]
            refine wpAnyK_go (i := 25) (m' := 67108863) (some 44) (v := .pointer (some ⟨Y, 2, none⟩)) rfl rfl (by kernel_rfl) (by kernel_rfl) (by kernel_rfl) (by kernel_rfl) (by kernel_rfl) (fun _ _ _ h => h) (Or.inl ⟨by rfl, ?_⟩) hS3 ?_
            · intro w' hSw
              go_simp
            simp only [Act.put, List.setIfInBounds_toArray, List.set_cons_zero, List.set_cons_succ]
            refine wpAnyK_go (i := 26) (m' := 134217727) (some 45) (v := .int .i64 b) rfl rfl (by kernel_rfl) (by kernel_rfl) (by kernel_rfl) (by kernel_rfl) (by kernel_rfl) (fun _ _ _ h => h) (Or.inl ⟨by rfl, ?_⟩) hS3 ?_
            · intro w' hSw
              obtain ⟨s1, s2, s3, s4, s5, s6, s7, s8⟩ := hSw
              go_simp
            simp only [Act.put, List.setIfInBounds_toArray, List.set_cons_zero, List.set_cons_succ]
            refine wpAnyK_only (i := 27) (m' := 268435455) (by kernel_rfl) rfl (by kernel_rfl) fun K hK => ?_
            go_simp
            (with_reducible refine Calls.mono (CFb _) ?_)
            rintro e4 w4 ⟨rfl, HB4⟩
            have hS4 := HKS.out _ w4 hS3 HB4.out
            go_simp
            refine hK.out _ _ (fun _ => hS4) ?_
            clear hK K
            refine wpAnyK_go (i := 28) (m' := 536870911) (some 47) (v := .bool false) rfl rfl (by kernel_rfl) (by kernel_rfl) (by kernel_rfl) (by kernel_rfl) (by kernel_rfl) (fun _ _ _ h => h) (Or.inl ⟨by rfl, ?_⟩) hS4 ?_
            · intro w' hSw
              go_simp
            simp only [Act.put, List.setIfInBounds_toArray, List.set_cons_zero, List.set_cons_succ]
            refine wpAnyK_go (i := 29) (m' := 1073741823) (some 48) (v := .bool false) rfl rfl (by kernel_rfl) (by kernel_rfl) (by kernel_rfl) (by kernel_rfl) (by kernel_rfl) (fun _ _ _ h => h) (Or.inl ⟨by rfl, ?_⟩) hS4 ?_
            · intro w' hSw
              go_simp
            simp only [Act.put, List.setIfInBounds_toArray, List.set_cons_zero, List.set_cons_succ]
            refine wpAnyK_done (by kernel_rfl) ?_ _
            have HB34 : Hid (Below W2.drew.heap.size W2.drew w4) := HB3.out.trans (HB4.out.mono HB3.out.size)
            obtain ⟨hbW4, hY4⟩ := HS2.out w4 HB34.out
            have HBW4 : Hid (Below W.heap.size W w4) := hbW4
            have y0 : w4.cell? ⟨Y, 0, none⟩ = some (.int .i64 (k : Int)) := heap_cl hY4 rfl
            have y1 : w4.cell? ⟨Y, 1, none⟩ = some (.int .i64 a) := heap_cl hY4 rfl
            have y2 : w4.cell? ⟨Y, 2, none⟩ = some (.int .i64 b) := heap_cl hY4 rfl
            have CT := HT w4 (HRW.out w4 (HXW.out w4 hbW4).2.2.1)
            clear hS0 hS3 hS4 HKS CFa CFb HB3 HB4 HB34 hbW4 hY4 HT CO HY2 HB2 HS2 p5
            have HNX : Hid (numP ns ng n i ((k : Int), a, b) = 0 → R = (if numsP ns ng n (i + 1) (code.drop (i + 1)) = 0 then flowR (l.map fun s => s.2) ar code else numsP ns ng n (i + 1) (code.drop (i + 1)))) := fun h => by rw [HR.out, HSTEP.out, if_pos h]
            cases ht : targetP ((k : Int), a, b) with
            | none =>
              have e : tgtV ((k : Int), a, b) = .tuple #[.int .i64 0, .bool false] := by unfold tgtV; rw [ht]
              have hz : numP ns ng n i ((k : Int), a, b) = 0 := by rw [HNG2.out, ht]
              have HR3 := HNX.out hz
              have HM3 := HMM.out hz
              replace HR3 : Hid (R = (if numsP ns ng n (i + 1) (code.drop (i + 1)) = 0 then flowR (l.map fun s => s.2) ar code else numsP ns ng n (i + 1) (code.drop (i + 1)))) := HR3
              replace HM3 : Hid (∀ j (h : j < code.length), j < i + 1 → numP ns ng n j code[j] = 0) := HM3
              rw [e] at CT
              clear e ht hz HNX HNG2 HSTEP HMM HRET HR
              go_wp2_with (first | (go_at_call 69; (with_reducible refine Calls.mono CT ?_); rintro e9 w9 ⟨rfl, HB9⟩))
              have HBW9 : Hid (Below W.heap.size W w9) := HBW4.out.trans (HB9.out.mono HBW4.out.size)
              go_roundw
              case rel => exact ⟨i + 1, hin, by go_num, HBW9.out, HR3.out, HM3.out⟩
              case measure => simp [intOf]; omega
            | some to =>
              have e : tgtV ((k : Int), a, b) = .tuple #[.int .i64 to, .bool true] := by unfold tgtV; rw [ht]
              have hz : numP ns ng n i ((k : Int), a, b) = if to ≤ (i : Int) ∨ (n : Int) ≤ to then 174 else 0 := by rw [HNG2.out, ht]
              replace hz : Hid (numP ns ng n i ((k : Int), a, b) = if to ≤ (i : Int) ∨ (n : Int) ≤ to then 174 else 0) := hz
              rw [e] at CT
              clear e ht HNG2
              go_upto_region 7 with (first | (go_at_call 69; (with_reducible refine Calls.mono CT ?_); rintro e9 w9 ⟨rfl, HB9⟩))
              have HBW9 : Hid (Below W.heap.size W w9) := HBW4.out.trans (HB9.out.mono HBW4.out.size)
              obtain ⟨_, _, p9, _, g9⟩ := HXW.out w9 HBW9.out
              replace p9 : Hid (Below B w w9) := p9
              clear y0 y1 y2 CT HB9
              by_cases h1 : to ≤ (i : Int)
              · have HE : Hid (R = 174) := HRET.out 174 (by decide) (by rw [hz.out, if_pos (.inl h1)])
                clear hz HNX HSTEP HMM HRET HR
                go_wp2
                go_ret
                exact ⟨by rw [HE.out]; rfl, p9.out⟩
              · by_cases h2 : (n : Int) ≤ to
                · have HE : Hid (R = 174) := HRET.out 174 (by decide) (by rw [hz.out, if_pos (.inr h2)])
                  clear hz HNX HSTEP HMM HRET HR
                  go_wp2
                  go_ret
                  exact ⟨by rw [HE.out]; rfl, p9.out⟩
                · have hz0 : numP ns ng n i ((k : Int), a, b) = 0 := by rw [hz.out, if_neg (by rintro (h | h); exact h1 h; exact h2 h)]
                  have HR3 : Hid (R = (if numsP ns ng n (i + 1) (code.drop (i + 1)) = 0 then flowR (l.map fun s => s.2) ar code else numsP ns ng n (i + 1) (code.drop (i + 1)))) := HNX.out hz0
                  have HM3 : Hid (∀ j (h : j < code.length), j < i + 1 → numP ns ng n j code[j] = 0) := HMM.out hz0
                  clear hz hz0 HNX HSTEP HMM HRET HR
                  go_wp2
                  go_roundw
                  case rel => exact ⟨i + 1, hin, by go_num, HBW9.out, HR3.out, HM3.out⟩
                  case measure => simp [intOf]; omega
      · have hopf : isOpP op = false := by simpa using hop
        have HE : Hid (R = 172) := HRET.out 172 (by decide) (num_bad (by simp only; rw [hopf]; rfl))
        rw [hopf] at CO
        have hS0 : (fun w' : World => w'.cell? ⟨Y, 0, none⟩ = some (.int .i64 op) ∧ w'.cell? ⟨Y, 1, none⟩ = some (.int .i64 a) ∧ w'.cell? ⟨Y, 2, none⟩ = some (.int .i64 b)) W2.drew := ⟨heap_cl (w := W2.drew) HY2.out rfl, heap_cl (w := W2.drew) HY2.out rfl, heap_cl (w := W2.drew) HY2.out rfl⟩
        clear p0 p1 p3 p4 hRd
        refine wp_region_M (S := (fun w' : World => w'.cell? ⟨Y, 0, none⟩ = some (.int .i64 op) ∧ w'.cell? ⟨Y, 1, none⟩ = some (.int .i64 a) ∧ w'.cell? ⟨Y, 2, none⟩ = some (.int .i64 b))) (L := 30) (n := 30) (by kernel_rfl) rfl (by kernel_rfl) ?_
        refine wpAnyK_go (i := 0) (m' := 1) (some 19) (v := .pointer (some ⟨Y, 0, none⟩)) rfl rfl (by kernel_rfl) (by kernel_rfl) (by kernel_rfl) (by kernel_rfl) (by kernel_rfl) (fun _ _ _ h => h) (Or.inl ⟨by rfl, ?_⟩) hS0 ?_
        · intro w' hSw
          go_simp
        simp only [Act.put, List.setIfInBounds_toArray, List.set_cons_zero, List.set_cons_succ]
        refine wpAnyK_go (i := 1) (m' := 3) (some 20) (v := .int .i64 op) rfl rfl (by kernel_rfl) (by kernel_rfl) (by kernel_rfl) (by kernel_rfl) (by kernel_rfl) (fun _ _ _ h => h) (Or.inl ⟨by rfl, ?_⟩) hS0 ?_
        · intro w' hSw
          obtain ⟨s1, s2, s3⟩ := hSw
          go_simp
        simp only [Act.put, List.setIfInBounds_toArray, List.set_cons_zero, List.set_cons_succ]
        refine wpAnyK_only (i := 2) (m' := 7) (by kernel_rfl) rfl (by kernel_rfl) fun K hK => ?_
        go_simp
        (with_reducible refine Calls.mono (CO _) ?_)
        rintro e2 w2 ⟨rfl, hw2⟩
        obtain rfl := hw2.symm
        clear hw2
        go_simp
        refine hK.out _ _ (fun _ => hS0) ?_
        clear hK K
        refine wpAnyK_go (i := 3) (m' := 15) (some 22) (v := .bool true) rfl rfl (by kernel_rfl) (by kernel_rfl) (by kernel_rfl) (by kernel_rfl) (by kernel_rfl) (fun _ _ _ h => h) (Or.inl ⟨by rfl, ?_⟩) hS0 ?_
        · intro w' hSw
          go_simp
        simp only [Act.put, List.setIfInBounds_toArray, List.set_cons_zero, List.set_cons_succ]
        refine wpAnyK_go (i := 4) (m' := 31) (some 23) (v := .bool true) rfl rfl (by kernel_rfl) (by kernel_rfl) (by kernel_rfl) (by kernel_rfl) (by kernel_rfl) (fun _ _ _ h => h) (Or.inl ⟨by rfl, ?_⟩) hS0 ?_
        · intro w' hSw
          go_simp
        simp only [Act.put, List.setIfInBounds_toArray, List.set_cons_zero, List.set_cons_succ]
        refine wpAnyK_go (i := 5) (m' := 63) (some 24) (v := undef) rfl rfl (by kernel_rfl) (by kernel_rfl) (by kernel_rfl) (by kernel_rfl) (by kernel_rfl) (fun _ _ _ h => h) (Or.inr ⟨by rfl, rfl⟩) hS0 ?_
        simp only [Act.put, List.setIfInBounds_toArray, List.set_cons_zero, List.set_cons_succ]
        refine wpAnyK_go (i := 6) (m' := 127) (some 25) (v := undef) rfl rfl (by kernel_rfl) (by kernel_rfl) (by kernel_rfl) (by kernel_rfl) (by kernel_rfl) (fun _ _ _ h => h) (Or.inr ⟨by rfl, rfl⟩) hS0 ?_
        simp only [Act.put, List.setIfInBounds_toArray, List.set_cons_zero, List.set_cons_succ]
        refine wpAnyK_go (i := 7) (m' := 255) (some 26) (v := undef) rfl rfl (by kernel_rfl) (by kernel_rfl) (by kernel_rfl) (by kernel_rfl) (by kernel_rfl) (fun _ _ _ h => h) (Or.inr ⟨by rfl, rfl⟩) hS0 ?_
        simp only [Act.put, List.setIfInBounds_toArray, List.set_cons_zero, List.set_cons_succ]
        refine wpAnyK_go (i := 8) (m' := 511) (some 27) (v := undef) rfl rfl (by kernel_rfl) (by kernel_rfl) (by kernel_rfl) (by kernel_rfl) (by kernel_rfl) (fun _ _ _ h => h) (Or.inr ⟨by rfl, rfl⟩) hS0 ?_
        simp only [Act.put, List.setIfInBounds_toArray, List.set_cons_zero, List.set_cons_succ]
        refine wpAnyK_go (i := 9) (m' := 1023) (some 28) (v := undef) rfl rfl (by kernel_rfl) (by kernel_rfl) (by kernel_rfl) (by kernel_rfl) (by kernel_rfl) (fun _ _ _ h => h) (Or.inr ⟨by rfl, rfl⟩) hS0 ?_
        simp only [Act.put, List.setIfInBounds_toArray, List.set_cons_zero, List.set_cons_succ]
        refine wpAnyK_go (i := 10) (m' := 2047) (some 29) (v := undef) rfl rfl (by kernel_rfl) (by kernel_rfl) (by kernel_rfl) (by kernel_rfl) (by kernel_rfl) (fun _ _ _ h => h) (Or.inr ⟨by rfl, rfl⟩) hS0 ?_
        simp only [Act.put, List.setIfInBounds_toArray, List.set_cons_zero, List.set_cons_succ]
        refine wpAnyK_go (i := 11) (m' := 4095) (some 30) (v := undef) rfl rfl (by kernel_rfl) (by kernel_rfl) (by kernel_rfl) (by kernel_rfl) (by kernel_rfl) (fun _ _ _ h => h) (Or.inr ⟨by rfl, rfl⟩) hS0 ?_
        simp only [Act.put, List.setIfInBounds_toArray, List.set_cons_zero, List.set_cons_succ]
        refine wpAnyK_go (i := 12) (m' := 8191) (some 31) (v := undef) rfl rfl (by kernel_rfl) (by kernel_rfl) (by kernel_rfl) (by kernel_rfl) (by kernel_rfl) (fun _ _ _ h => h) (Or.inr ⟨by rfl, rfl⟩) hS0 ?_
        simp only [Act.put, List.setIfInBounds_toArray, List.set_cons_zero, List.set_cons_succ]
        refine wpAnyK_go (i := 13) (m' := 16383) (some 32) (v := undef) rfl rfl (by kernel_rfl) (by kernel_rfl) (by kernel_rfl) (by kernel_rfl) (by kernel_rfl) (fun _ _ _ h => h) (Or.inr ⟨by rfl, rfl⟩) hS0 ?_
        simp only [Act.put, List.setIfInBounds_toArray, List.set_cons_zero, List.set_cons_succ]
        refine wpAnyK_go (i := 14) (m' := 32767) (some 33) (v := undef) rfl rfl (by kernel_rfl) (by kernel_rfl) (by kernel_rfl) (by kernel_rfl) (by kernel_rfl) (fun _ _ _ h => h) (Or.inr ⟨by rfl, rfl⟩) hS0 ?_
        simp only [Act.put, List.setIfInBounds_toArray, List.set_cons_zero, List.set_cons_succ]
        refine wpAnyK_go (i := 15) (m' := 65535) (some 34) (v := undef) rfl rfl (by kernel_rfl) (by kernel_rfl) (by kernel_rfl) (by kernel_rfl) (by kernel_rfl) (fun _ _ _ h => h) (Or.inr ⟨by rfl, rfl⟩) hS0 ?_
        simp only [Act.put, List.setIfInBounds_toArray, List.set_cons_zero, List.set_cons_succ]
        refine wpAnyK_go (i := 16) (m' := 131071) (some 35) (v := .bool true) rfl rfl (by kernel_rfl) (by kernel_rfl) (by kernel_rfl) (by kernel_rfl) (by kernel_rfl) (fun _ _ _ h => h) (Or.inl ⟨by rfl, ?_⟩) hS0 ?_
        · intro w' hSw
          go_simp
        simp only [Act.put, List.setIfInBounds_toArray, List.set_cons_zero, List.set_cons_succ]
        refine wpAnyK_go (i := 17) (m' := 262143) (some 36) (v := .bool true) rfl rfl (by kernel_rfl) (by kernel_rfl) (by kernel_rfl) (by kernel_rfl) (by kernel_rfl) (fun _ _ _ h => h) (Or.inl ⟨by rfl, ?_⟩) hS0 ?_
        · intro w' hSw
          go_simp
        simp only [Act.put, List.setIfInBounds_toArray, List.set_cons_zero, List.set_cons_succ]
        refine wpAnyK_go (i := 18) (m' := 524287) (some 37) (v := undef) rfl rfl (by kernel_rfl) (by kernel_rfl) (by kernel_rfl) (by kernel_rfl) (by kernel_rfl) (fun _ _ _ h => h) (Or.inr ⟨by rfl, rfl⟩) hS0 ?_
        simp only [Act.put, List.setIfInBounds_toArray, List.set_cons_zero, List.set_cons_succ]
        refine wpAnyK_go (i := 19) (m' := 1048575) (some 38) (v := undef) rfl rfl (by kernel_rfl) (by kernel_rfl) (by kernel_rfl) (by kernel_rfl) (by kernel_rfl) (fun _ _ _ h => h) (Or.inr ⟨by rfl, rfl⟩) hS0 ?_
        simp only [Act.put, List.setIfInBounds_toArray, List.set_cons_zero, List.set_cons_succ]
        refine wpAnyK_go (i := 20) (m' := 2097151) (some 39) (v := undef) rfl rfl (by kernel_rfl) (by kernel_rfl) (by kernel_rfl) (by kernel_rfl) (by kernel_rfl) (fun _ _ _ h => h) (Or.inr ⟨by rfl, rfl⟩) hS0 ?_
        simp only [Act.put, List.setIfInBounds_toArray, List.set_cons_zero, List.set_cons_succ]
        refine wpAnyK_go (i := 21) (m' := 4194303) (some 40) (v := undef) rfl rfl (by kernel_rfl) (by kernel_rfl) (by kernel_rfl) (by kernel_rfl) (by kernel_rfl) (fun _ _ _ h => h) (Or.inr ⟨by rfl, rfl⟩) hS0 ?_
        simp only [Act.put, List.setIfInBounds_toArray, List.set_cons_zero, List.set_cons_succ]
        refine wpAnyK_go (i := 22) (m' := 8388607) (some 41) (v := undef) rfl rfl (by kernel_rfl) (by kernel_rfl) (by kernel_rfl) (by kernel_rfl) (by kernel_rfl) (fun _ _ _ h => h) (Or.inr ⟨by rfl, rfl⟩) hS0 ?_
        simp only [Act.put, List.setIfInBounds_toArray, List.set_cons_zero, List.set_cons_succ]
        refine wpAnyK_go (i := 23) (m' := 16777215) (some 42) (v := undef) rfl rfl (by kernel_rfl) (by kernel_rfl) (by kernel_rfl) (by kernel_rfl) (by kernel_rfl) (fun _ _ _ h => h) (Or.inr ⟨by rfl, rfl⟩) hS0 ?_
        simp only [Act.put, List.setIfInBounds_toArray, List.set_cons_zero, List.set_cons_succ]
        refine wpAnyK_go (i := 24) (m' := 33554431) (some 43) (v := undef) rfl rfl (by kernel_rfl) (by kernel_rfl) (by kernel_rfl) (by kernel_rfl) (by kernel_rfl) (fun _ _ _ h => h) (Or.inr ⟨by rfl, rfl⟩) hS0 ?_
        simp only [Act.put, List.setIfInBounds_toArray, List.set_cons_zero, List.set_cons_succ]
        refine wpAnyK_go (i := 25) (m' := 67108863) (some 44) (v := undef) rfl rfl (by kernel_rfl) (by kernel_rfl) (by kernel_rfl) (by kernel_rfl) (by kernel_rfl) (fun _ _ _ h => h) (Or.inr ⟨by rfl, rfl⟩) hS0 ?_
        simp only [Act.put, List.setIfInBounds_toArray, List.set_cons_zero, List.set_cons_succ]
        refine wpAnyK_go (i := 26) (m' := 134217727) (some 45) (v := undef) rfl rfl (by kernel_rfl) (by kernel_rfl) (by kernel_rfl) (by kernel_rfl) (by kernel_rfl) (fun _ _ _ h => h) (Or.inr ⟨by rfl, rfl⟩) hS0 ?_
        simp only [Act.put, List.setIfInBounds_toArray, List.set_cons_zero, List.set_cons_succ]
        refine wpAnyK_go (i := 27) (m' := 268435455) (some 46) (v := undef) rfl rfl (by kernel_rfl) (by kernel_rfl) (by kernel_rfl) (by kernel_rfl) (by kernel_rfl) (fun _ _ _ h => h) (Or.inr ⟨by rfl, rfl⟩) hS0 ?_
        simp only [Act.put, List.setIfInBounds_toArray, List.set_cons_zero, List.set_cons_succ]
        refine wpAnyK_go (i := 28) (m' := 536870911) (some 47) (v := undef) rfl rfl (by kernel_rfl) (by kernel_rfl) (by kernel_rfl) (by kernel_rfl) (by kernel_rfl) (fun _ _ _ h => h) (Or.inr ⟨by rfl, rfl⟩) hS0 ?_
        simp only [Act.put, List.setIfInBounds_toArray, List.set_cons_zero, List.set_cons_succ]
        refine wpAnyK_go (i := 29) (m' := 1073741823) (some 48) (v := .bool true) rfl rfl (by kernel_rfl) (by kernel_rfl) (by kernel_rfl) (by kernel_rfl) (by kernel_rfl) (fun _ _ _ h => h) (Or.inl ⟨by rfl, ?_⟩) hS0 ?_
        · intro w' hSw
          go_simp
        simp only [Act.put, List.setIfInBounds_toArray, List.set_cons_zero, List.set_cons_succ]
        refine wpAnyK_done (by kernel_rfl) ?_ _
        go_wp2
        go_ret
        exact ⟨by rw [HE.out]; rfl, p5.out⟩
    · have hie : i = n := by omega
      have HE : Hid (R = flowR (l.map fun s => s.2) ar code) := by
        show R = _
        rw [HR.out, hie, List.drop_eq_nil_of_le (by have := HN.out; omega)]
        rfl
      have e3 : ¬ ((i : Int) < (n : Int)) := by omega
      have CW := wrongFlow_any (ng := ng) (Nat.le_trans hB p2.out.size) hgg (row_low HS.out p2.out) (row_low HC.out p2.out) p3 (by rw [HCV.out]; exact p4) (fun w2 hb => HRW.out w2 (p2.out.trans hb)) HFS.out hll (by have := HN.out; omega) h0 h24 (fun j hj => by have := HM.out j hj (by have := HN.out; omega); rw [HNS.out, HN.out] at this; exact this) HXA.out
      clear HR HM hie
      go_wp2_with (first | (go_at_call 70; (with_reducible refine Calls.mono CW ?_); rintro e9 w9 ⟨rfl, HB9⟩))
      go_ret
      exact ⟨by rw [HE.out]; rfl, p2.out.trans HB9.out⟩
end Go.Proofs.YtlpnegnpejpdkaaGreatDoor
