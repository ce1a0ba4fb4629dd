/- The reference's fits: may a result come next? -/
import Derived.Test.YtgdflaapgfpdeaaDoorMwx
namespace Go.Proofs.YtgdflaapgfpdeaaDoor
open Go.RowKit

set_option maxHeartbeats 16000000 in
set_option maxRecDepth 10000 in
theorem fits_ref {w : World} {xa xb : Value} {fa ta row : List Nat} {rsa rsb : List (List Nat)} {ar : Option Addr} {cr : Nat} (hxa : LatA w (fun y => y < w.heap.size) xa fa rsa) (hxb : LatA w (fun y => y < w.heap.size) xb ta rsb) (hla : Lat fa) (hlb : Lat ta) (hr : Nts w (fun y => y < w.heap.size) (.slice ar row.length cr) row) (hlt : row.length < fa.length) (hv : ∀ x ∈ row, x < ta.length) (v : Nat) (hvt : v < ta.length) :
    Calls Tryd.prog 58 #[xa, xb, .slice ar row.length cr, .int .i64 v] w fun r w' => r = .returned (.bool ((nextP fa ta row).testBit v)) ∧ Hid (Below w.heap.size w w') := by
  obtain ⟨bva, rva, rfl, hba, hra, h0a⟩ := hxa
  obtain ⟨bvb, rvb, rfl, hbb, hrb, h0b⟩ := hxb
  obtain ⟨ga, oa, ca, rfl, hca, hrowa⟩ := lat_row hba h0a
  obtain ⟨gb, ob, cb, rfl, hcb, hrowb⟩ := lat_row hbb h0b
  obtain ⟨ada, cpa, hrva, _⟩ := RowK.open hra
  subst hrva
  obtain ⟨adb, cpb, hrvb, _⟩ := RowK.open hrb
  subst hrvb
  obtain ⟨X, hX⟩ : ∃ X, X = w.heap.size := ⟨_, rfl⟩
  obtain ⟨Y, hY⟩ : ∃ Y, Y = w.heap.size + 1 := ⟨_, rfl⟩
  obtain ⟨W, hW⟩ : ∃ W, W = (w.alloc (.cells #[.int .i64 (fa.length : Int), .slice (some ⟨ga, oa, none⟩) fa.length ca, .slice ada rsa.length cpa] 47)).alloc (.cells #[.int .i64 (ta.length : Int), .slice (some ⟨gb, ob, none⟩) ta.length cb, .slice adb rsb.length cpb] 47) := ⟨_, rfl⟩
  have hBW : Below w.heap.size w W := by rw [hW]; exact ((Below.refl _ _).alloc (Nat.le_refl _) _).alloc (by rw [World.size_alloc]; omega) _
  have hXW : W.heap[X]? = some (.cells #[.int .i64 (fa.length : Int), .slice (some ⟨ga, oa, none⟩) fa.length ca, .slice ada rsa.length cpa] 47 (0, 0)) := by rw [hW, hX]; exact (Below.heap_alloc _ _ _ (by rw [World.size_alloc]; omega)).trans (new_blk _ _)
  have hYW : W.heap[Y]? = some (.cells #[.int .i64 (ta.length : Int), .slice (some ⟨gb, ob, none⟩) ta.length cb, .slice adb rsb.length cpb] 47 (0, 0)) := by rw [hW, hY]; exact al1 _ _ _
  have hfew := hla.few
  have hfewb := hlb.few
  have HS : Hid (∀ wr : World, Below W.heap.size W wr → ∀ i (h : i < row.length), ∃ ga1 oa1 ca1 rb ro g1 o1 c1, ar = some ⟨rb, ro, none⟩ ∧ row.length ≤ cr ∧ fa.length ≤ ca1 ∧ ta.length ≤ c1 ∧ wr.cell? ⟨X, 1, none⟩ = some (.slice (some ⟨ga, oa, none⟩) fa.length ca) ∧ wr.cell? ⟨ga, oa + i, none⟩ = some (.slice (some ⟨ga1, oa1, none⟩) fa.length ca1) ∧ wr.cell? ⟨ga1, oa1 + row.length, none⟩ = some (.bool ((fa.getD i 0).testBit row.length)) ∧ wr.cell? ⟨Y, 1, none⟩ = some (.slice (some ⟨gb, ob, none⟩) ta.length cb) ∧ wr.cell? ⟨rb, ro + i, none⟩ = some (.int .i64 (row[i] : Int)) ∧ wr.cell? ⟨gb, ob + row[i], none⟩ = some (.slice (some ⟨g1, o1, none⟩) ta.length c1) ∧ wr.cell? ⟨g1, o1 + v, none⟩ = some (.bool ((ta.getD (row.getD i 0) 0).testBit v))) := fun wr hwr i h => by
    have hbb : Below w.heap.size w wr := hBW.trans (hwr.mono hBW.size)
    have h1 := hv _ (List.getElem_mem h)
    have hif : i < fa.length := by omega
    obtain ⟨rb, ro, b1, b2, b3, b4⟩ := hr.at h
    obtain ⟨z1, ga1, oa1, ca1, e1, e2, e3, e4⟩ := hrowa i hif
    obtain ⟨z, g1, o1, c1, d1, d2, d3, d4⟩ := hrowb row[i] h1
    refine ⟨ga1, oa1, ca1, rb, ro, g1, o1, c1, b1, b2, e2, d2, heap_cl ((hwr.block X (lt_heap hXW)).trans hXW) rfl, (hbb.cell (p := ⟨ga, oa + i, none⟩) z1).trans e1, ?_, heap_cl ((hwr.block Y (lt_heap hYW)).trans hYW) rfl, (hbb.cell (p := ⟨rb, ro + i, none⟩) b3).trans b4, (hbb.cell (p := ⟨gb, ob + row[i], none⟩) z).trans d1, ?_⟩
    · rw [show fa.getD i 0 = fa[i] by simp [hif]]
      exact (hbb.cell (p := ⟨ga1, oa1 + row.length, none⟩) e3).trans (e4 _ hlt)
    · rw [show ta.getD (row.getD i 0) 0 = ta[row[i]] by simp [h, h1]]
      exact (hbb.cell (p := ⟨g1, o1 + v, none⟩) d3).trans (d4 _ hvt)
  have HVB : Hid (∀ i (h : i < row.length), row[i] < ta.length) := fun i h => hv _ (List.getElem_mem h)
  have HBIT : Hid ((nextP fa ta row).testBit v = true ↔ v < ta.length ∧ ∀ x, x < row.length → Le fa x row.length → Le ta (row.getD x 0) v) := nextQ_bit fa ta row v _
  have HVT : Hid (v < ta.length) := hvt
  have HBW : Hid (Below w.heap.size w W) := hBW
  have HXE : Hid (X = w.heap.size) := hX
  have HYE : Hid (Y = w.heap.size + 1) := hY
  clear hba hbb hra hrb hrowa hrowb hr hv hla hlb hX hY hXW hYW hBW
  generalize (nextP fa ta row).testBit v = bit at *
  go_enter Tryd.func58, Tryd.ntmps58
  go_upto_region 1 with fail
  rw [← hW, ← HYE.out, ← HXE.out]
  clear hW
  go_upto_region 3 with fail
  go_loopw [10] (fun iv wr => ∃ i : Nat, i ≤ row.length ∧ iv = .int .i64 i ∧ Hid (Below W.heap.size W wr) ∧ Hid (∀ x, x < i → Le fa x row.length → Le ta (row.getD x 0) v)) (fun iv _ => row.length - (intOf iv).toNat)
  case atStart => exact ⟨0, by omega, by go_num, Below.refl _ _, fun x h => by omega⟩
  case round =>
    obtain ⟨i, hi, rfl, HB, HI⟩ := hrel
    by_cases hil : i < row.length
    · replace HB : Hid (Below W.heap.size W wr.drew) := HB.out.drew
      obtain ⟨ga1, oa1, ca1, rb, ro, g1, o1, c1, rfl, hrc, hca1, hc1, q1, q2, q3, q4, q5, q6, q7⟩ := HS.out wr.drew HB.out i hil
      have v1 := HVB.out i hil
      have HLA : Hid ((fa.getD i 0).testBit row.length = true ↔ Le fa i row.length) := Iff.rfl
      have HLB : Hid ((ta.getD (row.getD i 0) 0).testBit v = true ↔ Le ta (row.getD i 0) v) := Iff.rfl
      have i1 : (0 : Int) ≤ (i : Int) := by omega
      have i2 : (i : Int) < (row.length : Int) := by omega
      have i3 : (i : Int) < (fa.length : Int) := by omega
      have i4 : (0 : Int) ≤ (row[i] : Int) := by omega
      have i5 : (row[i] : Int) < (ta.length : Int) := by omega
      have i6 : (0 : Int) ≤ (v : Int) := by omega
      have i7 : (v : Int) < (ta.length : Int) := by omega
      have i8 : (row.length : Int) < (fa.length : Int) := by omega
      have i9 : (0 : Int) ≤ (row.length : Int) := by omega
      generalize row[i] = rv at *
      generalize (fa.getD i 0).testBit row.length = ba at *
      generalize (ta.getD (row.getD i 0) 0).testBit v = bb at *
      go_upto_region 5 with fail
      cases ba with
      | true =>
        have hS0 : (fun w' : World => w'.cell? ⟨X, 1, none⟩ = some (.slice (some ⟨ga, oa, none⟩) fa.length ca) ∧ w'.cell? ⟨ga, oa + i, none⟩ = some (.slice (some ⟨ga1, oa1, none⟩) fa.length ca1) ∧ w'.cell? ⟨ga1, oa1 + row.length, none⟩ = some (.bool true) ∧ w'.cell? ⟨Y, 1, none⟩ = some (.slice (some ⟨gb, ob, none⟩) ta.length cb) ∧ w'.cell? ⟨rb, ro + i, none⟩ = some (.int .i64 (rv : Int)) ∧ w'.cell? ⟨gb, ob + rv, none⟩ = some (.slice (some ⟨g1, o1, none⟩) ta.length c1) ∧ w'.cell? ⟨g1, o1 + v, none⟩ = some (.bool bb)) wr.drew := ⟨q1, q2, q3, q4, q5, q6, q7⟩
        clear q1 q2 q3 q4 q5 q6 q7
        refine wp_region_M (S := (fun w' : World => w'.cell? ⟨X, 1, none⟩ = some (.slice (some ⟨ga, oa, none⟩) fa.length ca) ∧ w'.cell? ⟨ga, oa + i, none⟩ = some (.slice (some ⟨ga1, oa1, none⟩) fa.length ca1) ∧ w'.cell? ⟨ga1, oa1 + row.length, none⟩ = some (.bool true) ∧ w'.cell? ⟨Y, 1, none⟩ = some (.slice (some ⟨gb, ob, none⟩) ta.length cb) ∧ w'.cell? ⟨rb, ro + i, none⟩ = some (.int .i64 (rv : Int)) ∧ w'.cell? ⟨gb, ob + rv, none⟩ = some (.slice (some ⟨g1, o1, none⟩) ta.length c1) ∧ w'.cell? ⟨g1, o1 + v, none⟩ = some (.bool bb))) (L := 22) (n := 22) (by kernel_rfl) rfl (by kernel_rfl) ?_
        refine wpAnyK_go (i := 0) (m' := 1) (some 18) (v := .pointer (some ⟨X, 1, none⟩)) rfl rfl (by kernel_rfl) (by kernel_rfl) (by kernel_rfl) (by kernel_rfl) (by kernel_rfl) (fun _ _ _ h => h) (Or.inl ⟨by rfl, ?_⟩) hS0 ?_
        · intro w' hSw
          go_simp
        simp only [Act.put, List.setIfInBounds_toArray, List.set_cons_zero, List.set_cons_succ]
        refine wpAnyK_go (i := 1) (m' := 3) (some 19) (v := .slice (some ⟨ga, oa, none⟩) fa.length ca) rfl rfl (by kernel_rfl) (by kernel_rfl) (by kernel_rfl) (by kernel_rfl) (by kernel_rfl) (fun _ _ _ h => h) (Or.inl ⟨by rfl, ?_⟩) hS0 ?_
        · intro w' hSw
          obtain ⟨s1, s2, s3, s4, s5, s6, s7⟩ := hSw
          go_simp
        simp only [Act.put, List.setIfInBounds_toArray, List.set_cons_zero, List.set_cons_succ]
        refine wpAnyK_go (i := 2) (m' := 7) (some 20) (v := .int .i64 (i : Int)) rfl rfl (by kernel_rfl) (by kernel_rfl) (by kernel_rfl) (by kernel_rfl) (by kernel_rfl) (fun _ _ _ h => h) (Or.inl ⟨by rfl, ?_⟩) hS0 ?_
        · intro w' hSw
          go_simp
        simp only [Act.put, List.setIfInBounds_toArray, List.set_cons_zero, List.set_cons_succ]
        refine wpAnyK_go (i := 3) (m' := 15) (some 21) (v := .pointer (some ⟨ga, oa + i, none⟩)) rfl rfl (by kernel_rfl) (by kernel_rfl) (by kernel_rfl) (by kernel_rfl) (by kernel_rfl) (fun _ _ _ h => h) (Or.inl ⟨by rfl, ?_⟩) hS0 ?_
        · intro w' hSw
          go_simp
        simp only [Act.put, List.setIfInBounds_toArray, List.set_cons_zero, List.set_cons_succ]
        refine wpAnyK_go (i := 4) (m' := 31) (some 22) (v := .slice (some ⟨ga1, oa1, none⟩) fa.length ca1) rfl rfl (by kernel_rfl) (by kernel_rfl) (by kernel_rfl) (by kernel_rfl) (by kernel_rfl) (fun _ _ _ h => h) (Or.inl ⟨by rfl, ?_⟩) hS0 ?_
        · intro w' hSw
          obtain ⟨s1, s2, s3, s4, s5, s6, s7⟩ := hSw
          go_simp
        simp only [Act.put, List.setIfInBounds_toArray, List.set_cons_zero, List.set_cons_succ]
        refine wpAnyK_go (i := 5) (m' := 63) (some 23) (v := .int .i64 (row.length : Int)) rfl rfl (by kernel_rfl) (by kernel_rfl) (by kernel_rfl) (by kernel_rfl) (by kernel_rfl) (fun _ _ _ h => h) (Or.inl ⟨by rfl, ?_⟩) hS0 ?_
        · intro w' hSw
          go_simp
        simp only [Act.put, List.setIfInBounds_toArray, List.set_cons_zero, List.set_cons_succ]
        refine wpAnyK_go (i := 6) (m' := 127) (some 24) (v := .pointer (some ⟨ga1, oa1 + row.length, none⟩)) rfl rfl (by kernel_rfl) (by kernel_rfl) (by kernel_rfl) (by kernel_rfl) (by kernel_rfl) (fun _ _ _ h => h) (Or.inl ⟨by rfl, ?_⟩) hS0 ?_
        · intro w' hSw
          go_simp
        simp only [Act.put, List.setIfInBounds_toArray, List.set_cons_zero, List.set_cons_succ]
        refine wpAnyK_go (i := 7) (m' := 255) (some 25) (v := .bool true) rfl rfl (by kernel_rfl) (by kernel_rfl) (by kernel_rfl) (by kernel_rfl) (by kernel_rfl) (fun _ _ _ h => h) (Or.inl ⟨by rfl, ?_⟩) hS0 ?_
        · intro w' hSw
          obtain ⟨s1, s2, s3, s4, s5, s6, s7⟩ := hSw
          go_simp
        simp only [Act.put, List.setIfInBounds_toArray, List.set_cons_zero, List.set_cons_succ]
        refine wpAnyK_go (i := 8) (m' := 511) (some 26) (v := .bool true) rfl rfl (by kernel_rfl) (by kernel_rfl) (by kernel_rfl) (by kernel_rfl) (by kernel_rfl) (fun _ _ _ h => h) (Or.inl ⟨by rfl, ?_⟩) hS0 ?_
        · intro w' hSw
          go_simp
        simp only [Act.put, List.setIfInBounds_toArray, List.set_cons_zero, List.set_cons_succ]
        refine wpAnyK_go (i := 9) (m' := 1023) (some 27) (v := .pointer (some ⟨Y, 1, none⟩)) rfl rfl (by kernel_rfl) (by kernel_rfl) (by kernel_rfl) (by kernel_rfl) (by kernel_rfl) (fun _ _ _ h => h) (Or.inl ⟨by rfl, ?_⟩) hS0 ?_
        · intro w' hSw
          go_simp
        simp only [Act.put, List.setIfInBounds_toArray, List.set_cons_zero, List.set_cons_succ]
        refine wpAnyK_go (i := 10) (m' := 2047) (some 28) (v := .slice (some ⟨gb, ob, none⟩) ta.length cb) rfl rfl (by kernel_rfl) (by kernel_rfl) (by kernel_rfl) (by kernel_rfl) (by kernel_rfl) (fun _ _ _ h => h) (Or.inl ⟨by rfl, ?_⟩) hS0 ?_
        · intro w' hSw
          obtain ⟨s1, s2, s3, s4, s5, s6, s7⟩ := hSw
          go_simp
        simp only [Act.put, List.setIfInBounds_toArray, List.set_cons_zero, List.set_cons_succ]
        refine wpAnyK_go (i := 11) (m' := 4095) (some 29) (v := .slice (some ⟨rb, ro, none⟩) row.length cr) rfl rfl (by kernel_rfl) (by kernel_rfl) (by kernel_rfl) (by kernel_rfl) (by kernel_rfl) (fun _ _ _ h => h) (Or.inl ⟨by rfl, ?_⟩) hS0 ?_
        · intro w' hSw
          go_simp
        simp only [Act.put, List.setIfInBounds_toArray, List.set_cons_zero, List.set_cons_succ]
        refine wpAnyK_go (i := 12) (m' := 8191) (some 30) (v := .int .i64 (i : Int)) rfl rfl (by kernel_rfl) (by kernel_rfl) (by kernel_rfl) (by kernel_rfl) (by kernel_rfl) (fun _ _ _ h => h) (Or.inl ⟨by rfl, ?_⟩) hS0 ?_
        · intro w' hSw
          go_simp
        simp only [Act.put, List.setIfInBounds_toArray, List.set_cons_zero, List.set_cons_succ]
        refine wpAnyK_go (i := 13) (m' := 16383) (some 31) (v := .pointer (some ⟨rb, ro + i, none⟩)) rfl rfl (by kernel_rfl) (by kernel_rfl) (by kernel_rfl) (by kernel_rfl) (by kernel_rfl) (fun _ _ _ h => h) (Or.inl ⟨by rfl, ?_⟩) hS0 ?_
        · intro w' hSw
          go_simp
        simp only [Act.put, List.setIfInBounds_toArray, List.set_cons_zero, List.set_cons_succ]
        refine wpAnyK_go (i := 14) (m' := 32767) (some 32) (v := .int .i64 (rv : Int)) rfl rfl (by kernel_rfl) (by kernel_rfl) (by kernel_rfl) (by kernel_rfl) (by kernel_rfl) (fun _ _ _ h => h) (Or.inl ⟨by rfl, ?_⟩) hS0 ?_
        · intro w' hSw
          obtain ⟨s1, s2, s3, s4, s5, s6, s7⟩ := hSw
          go_simp
        simp only [Act.put, List.setIfInBounds_toArray, List.set_cons_zero, List.set_cons_succ]
        refine wpAnyK_go (i := 15) (m' := 65535) (some 33) (v := .pointer (some ⟨gb, ob + rv, none⟩)) rfl rfl (by kernel_rfl) (by kernel_rfl) (by kernel_rfl) (by kernel_rfl) (by kernel_rfl) (fun _ _ _ h => h) (Or.inl ⟨by rfl, ?_⟩) hS0 ?_
        · intro w' hSw
          go_simp
        simp only [Act.put, List.setIfInBounds_toArray, List.set_cons_zero, List.set_cons_succ]
        refine wpAnyK_go (i := 16) (m' := 131071) (some 34) (v := .slice (some ⟨g1, o1, none⟩) ta.length c1) rfl rfl (by kernel_rfl) (by kernel_rfl) (by kernel_rfl) (by kernel_rfl) (by kernel_rfl) (fun _ _ _ h => h) (Or.inl ⟨by rfl, ?_⟩) hS0 ?_
        · intro w' hSw
          obtain ⟨s1, s2, s3, s4, s5, s6, s7⟩ := hSw
          go_simp
        simp only [Act.put, List.setIfInBounds_toArray, List.set_cons_zero, List.set_cons_succ]
        refine wpAnyK_go (i := 17) (m' := 262143) (some 35) (v := .int .i64 (v : Int)) rfl rfl (by kernel_rfl) (by kernel_rfl) (by kernel_rfl) (by kernel_rfl) (by kernel_rfl) (fun _ _ _ h => h) (Or.inl ⟨by rfl, ?_⟩) hS0 ?_
        · intro w' hSw
          go_simp
        simp only [Act.put, List.setIfInBounds_toArray, List.set_cons_zero, List.set_cons_succ]
        refine wpAnyK_go (i := 18) (m' := 524287) (some 36) (v := .pointer (some ⟨g1, o1 + v, none⟩)) rfl rfl (by kernel_rfl) (by kernel_rfl) (by kernel_rfl) (by kernel_rfl) (by kernel_rfl) (fun _ _ _ h => h) (Or.inl ⟨by rfl, ?_⟩) hS0 ?_
        · intro w' hSw
          go_simp
        simp only [Act.put, List.setIfInBounds_toArray, List.set_cons_zero, List.set_cons_succ]
        refine wpAnyK_go (i := 19) (m' := 1048575) (some 37) (v := .bool bb) rfl rfl (by kernel_rfl) (by kernel_rfl) (by kernel_rfl) (by kernel_rfl) (by kernel_rfl) (fun _ _ _ h => h) (Or.inl ⟨by rfl, ?_⟩) hS0 ?_
        · intro w' hSw
          obtain ⟨s1, s2, s3, s4, s5, s6, s7⟩ := hSw
          go_simp
        simp only [Act.put, List.setIfInBounds_toArray, List.set_cons_zero, List.set_cons_succ]
        refine wpAnyK_go (i := 20) (m' := 2097151) (some 38) (v := .bool (!bb)) rfl rfl (by kernel_rfl) (by kernel_rfl) (by kernel_rfl) (by kernel_rfl) (by kernel_rfl) (fun _ _ _ h => h) (Or.inl ⟨by rfl, ?_⟩) hS0 ?_
        · intro w' hSw
          go_simp
        simp only [Act.put, List.setIfInBounds_toArray, List.set_cons_zero, List.set_cons_succ]
        refine wpAnyK_go (i := 21) (m' := 4194303) (some 39) (v := .bool (!bb)) rfl rfl (by kernel_rfl) (by kernel_rfl) (by kernel_rfl) (by kernel_rfl) (by kernel_rfl) (fun _ _ _ h => h) (Or.inl ⟨by rfl, ?_⟩) hS0 ?_
        · intro w' hSw
          go_simp
        simp only [Act.put, List.setIfInBounds_toArray, List.set_cons_zero, List.set_cons_succ]
        refine wpAnyK_done (by kernel_rfl) ?_ _
        clear hS0
        cases bb with
        | true =>
          have HI2 : Hid (∀ x, x < i + 1 → Le fa x row.length → Le ta (row.getD x 0) v) := fun x hx hle => by
            by_cases e : x = i
            · subst e; exact HLB.out.1 rfl
            · exact HI.out x (by omega) hle
          clear HLA HLB
          go_wp2
          go_roundw
          case rel => exact ⟨i + 1, hil, by go_num, HB.out, HI2.out⟩
          case measure => simp [intOf]; omega
        | false =>
          have HE : Hid (bit = false) := by
            show bit = false
            cases hbt : bit with
            | false => rfl
            | true =>
              have h2 := HLB.out.2 ((HBIT.out.1 hbt).2 i hil (HLA.out.1 rfl))
              cases h2
          go_wp2
          go_ret
          exact ⟨by rw [HE.out]; rfl, HBW.out.trans (HB.out.mono HBW.out.size)⟩
      | false =>
        have hS0 : (fun w' : World => w'.cell? ⟨X, 1, none⟩ = some (.slice (some ⟨ga, oa, none⟩) fa.length ca) ∧ w'.cell? ⟨ga, oa + i, none⟩ = some (.slice (some ⟨ga1, oa1, none⟩) fa.length ca1) ∧ w'.cell? ⟨ga1, oa1 + row.length, none⟩ = some (.bool false) ∧ w'.cell? ⟨Y, 1, none⟩ = some (.slice (some ⟨gb, ob, none⟩) ta.length cb) ∧ w'.cell? ⟨rb, ro + i, none⟩ = some (.int .i64 (rv : Int)) ∧ w'.cell? ⟨gb, ob + rv, none⟩ = some (.slice (some ⟨g1, o1, none⟩) ta.length c1) ∧ w'.cell? ⟨g1, o1 + v, none⟩ = some (.bool bb)) wr.drew := ⟨q1, q2, q3, q4, q5, q6, q7⟩
        clear q1 q2 q3 q4 q5 q6 q7
        refine wp_region_M (S := (fun w' : World => w'.cell? ⟨X, 1, none⟩ = some (.slice (some ⟨ga, oa, none⟩) fa.length ca) ∧ w'.cell? ⟨ga, oa + i, none⟩ = some (.slice (some ⟨ga1, oa1, none⟩) fa.length ca1) ∧ w'.cell? ⟨ga1, oa1 + row.length, none⟩ = some (.bool false) ∧ w'.cell? ⟨Y, 1, none⟩ = some (.slice (some ⟨gb, ob, none⟩) ta.length cb) ∧ w'.cell? ⟨rb, ro + i, none⟩ = some (.int .i64 (rv : Int)) ∧ w'.cell? ⟨gb, ob + rv, none⟩ = some (.slice (some ⟨g1, o1, none⟩) ta.length c1) ∧ w'.cell? ⟨g1, o1 + v, none⟩ = some (.bool bb))) (L := 22) (n := 22) (by kernel_rfl) rfl (by kernel_rfl) ?_
        refine wpAnyK_go (i := 0) (m' := 1) (some 18) (v := .pointer (some ⟨X, 1, none⟩)) rfl rfl (by kernel_rfl) (by kernel_rfl) (by kernel_rfl) (by kernel_rfl) (by kernel_rfl) (fun _ _ _ h => h) (Or.inl ⟨by rfl, ?_⟩) hS0 ?_
        · intro w' hSw
          go_simp
        simp only [Act.put, List.setIfInBounds_toArray, List.set_cons_zero, List.set_cons_succ]
        refine wpAnyK_go (i := 1) (m' := 3) (some 19) (v := .slice (some ⟨ga, oa, none⟩) fa.length ca) rfl rfl (by kernel_rfl) (by kernel_rfl) (by kernel_rfl) (by kernel_rfl) (by kernel_rfl) (fun _ _ _ h => h) (Or.inl ⟨by rfl, ?_⟩) hS0 ?_
        · intro w' hSw
          obtain ⟨s1, s2, s3, s4, s5, s6, s7⟩ := hSw
          go_simp
        simp only [Act.put, List.setIfInBounds_toArray, List.set_cons_zero, List.set_cons_succ]
        refine wpAnyK_go (i := 2) (m' := 7) (some 20) (v := .int .i64 (i : Int)) rfl rfl (by kernel_rfl) (by kernel_rfl) (by kernel_rfl) (by kernel_rfl) (by kernel_rfl) (fun _ _ _ h => h) (Or.inl ⟨by rfl, ?_⟩) hS0 ?_
        · intro w' hSw
          go_simp
        simp only [Act.put, List.setIfInBounds_toArray, List.set_cons_zero, List.set_cons_succ]
        refine wpAnyK_go (i := 3) (m' := 15) (some 21) (v := .pointer (some ⟨ga, oa + i, none⟩)) rfl rfl (by kernel_rfl) (by kernel_rfl) (by kernel_rfl) (by kernel_rfl) (by kernel_rfl) (fun _ _ _ h => h) (Or.inl ⟨by rfl, ?_⟩) hS0 ?_
        · intro w' hSw
          go_simp
        simp only [Act.put, List.setIfInBounds_toArray, List.set_cons_zero, List.set_cons_succ]
        refine wpAnyK_go (i := 4) (m' := 31) (some 22) (v := .slice (some ⟨ga1, oa1, none⟩) fa.length ca1) rfl rfl (by kernel_rfl) (by kernel_rfl) (by kernel_rfl) (by kernel_rfl) (by kernel_rfl) (fun _ _ _ h => h) (Or.inl ⟨by rfl, ?_⟩) hS0 ?_
        · intro w' hSw
          obtain ⟨s1, s2, s3, s4, s5, s6, s7⟩ := hSw
          go_simp
        simp only [Act.put, List.setIfInBounds_toArray, List.set_cons_zero, List.set_cons_succ]
        refine wpAnyK_go (i := 5) (m' := 63) (some 23) (v := .int .i64 (row.length : Int)) rfl rfl (by kernel_rfl) (by kernel_rfl) (by kernel_rfl) (by kernel_rfl) (by kernel_rfl) (fun _ _ _ h => h) (Or.inl ⟨by rfl, ?_⟩) hS0 ?_
        · intro w' hSw
          go_simp
        simp only [Act.put, List.setIfInBounds_toArray, List.set_cons_zero, List.set_cons_succ]
        refine wpAnyK_go (i := 6) (m' := 127) (some 24) (v := .pointer (some ⟨ga1, oa1 + row.length, none⟩)) rfl rfl (by kernel_rfl) (by kernel_rfl) (by kernel_rfl) (by kernel_rfl) (by kernel_rfl) (fun _ _ _ h => h) (Or.inl ⟨by rfl, ?_⟩) hS0 ?_
        · intro w' hSw
          go_simp
        simp only [Act.put, List.setIfInBounds_toArray, List.set_cons_zero, List.set_cons_succ]
        refine wpAnyK_go (i := 7) (m' := 255) (some 25) (v := .bool false) rfl rfl (by kernel_rfl) (by kernel_rfl) (by kernel_rfl) (by kernel_rfl) (by kernel_rfl) (fun _ _ _ h => h) (Or.inl ⟨by rfl, ?_⟩) hS0 ?_
        · intro w' hSw
          obtain ⟨s1, s2, s3, s4, s5, s6, s7⟩ := hSw
          go_simp
        simp only [Act.put, List.setIfInBounds_toArray, List.set_cons_zero, List.set_cons_succ]
        refine wpAnyK_go (i := 8) (m' := 511) (some 26) (v := .bool false) rfl rfl (by kernel_rfl) (by kernel_rfl) (by kernel_rfl) (by kernel_rfl) (by kernel_rfl) (fun _ _ _ h => h) (Or.inl ⟨by rfl, ?_⟩) hS0 ?_
        · intro w' hSw
          go_simp
        simp only [Act.put, List.setIfInBounds_toArray, List.set_cons_zero, List.set_cons_succ]
        refine wpAnyK_go (i := 9) (m' := 1023) (some 27) (v := undef) rfl rfl (by kernel_rfl) (by kernel_rfl) (by kernel_rfl) (by kernel_rfl) (by kernel_rfl) (fun _ _ _ h => h) (Or.inr ⟨by rfl, rfl⟩) hS0 ?_
        simp only [Act.put, List.setIfInBounds_toArray, List.set_cons_zero, List.set_cons_succ]
        refine wpAnyK_go (i := 10) (m' := 2047) (some 28) (v := undef) rfl rfl (by kernel_rfl) (by kernel_rfl) (by kernel_rfl) (by kernel_rfl) (by kernel_rfl) (fun _ _ _ h => h) (Or.inr ⟨by rfl, rfl⟩) hS0 ?_
        simp only [Act.put, List.setIfInBounds_toArray, List.set_cons_zero, List.set_cons_succ]
        refine wpAnyK_go (i := 11) (m' := 4095) (some 29) (v := undef) rfl rfl (by kernel_rfl) (by kernel_rfl) (by kernel_rfl) (by kernel_rfl) (by kernel_rfl) (fun _ _ _ h => h) (Or.inr ⟨by rfl, rfl⟩) hS0 ?_
        simp only [Act.put, List.setIfInBounds_toArray, List.set_cons_zero, List.set_cons_succ]
        refine wpAnyK_go (i := 12) (m' := 8191) (some 30) (v := undef) rfl rfl (by kernel_rfl) (by kernel_rfl) (by kernel_rfl) (by kernel_rfl) (by kernel_rfl) (fun _ _ _ h => h) (Or.inr ⟨by rfl, rfl⟩) hS0 ?_
        simp only [Act.put, List.setIfInBounds_toArray, List.set_cons_zero, List.set_cons_succ]
        refine wpAnyK_go (i := 13) (m' := 16383) (some 31) (v := undef) rfl rfl (by kernel_rfl) (by kernel_rfl) (by kernel_rfl) (by kernel_rfl) (by kernel_rfl) (fun _ _ _ h => h) (Or.inr ⟨by rfl, rfl⟩) hS0 ?_
        simp only [Act.put, List.setIfInBounds_toArray, List.set_cons_zero, List.set_cons_succ]
        refine wpAnyK_go (i := 14) (m' := 32767) (some 32) (v := undef) rfl rfl (by kernel_rfl) (by kernel_rfl) (by kernel_rfl) (by kernel_rfl) (by kernel_rfl) (fun _ _ _ h => h) (Or.inr ⟨by rfl, rfl⟩) hS0 ?_
        simp only [Act.put, List.setIfInBounds_toArray, List.set_cons_zero, List.set_cons_succ]
        refine wpAnyK_go (i := 15) (m' := 65535) (some 33) (v := undef) rfl rfl (by kernel_rfl) (by kernel_rfl) (by kernel_rfl) (by kernel_rfl) (by kernel_rfl) (fun _ _ _ h => h) (Or.inr ⟨by rfl, rfl⟩) hS0 ?_
        simp only [Act.put, List.setIfInBounds_toArray, List.set_cons_zero, List.set_cons_succ]
        refine wpAnyK_go (i := 16) (m' := 131071) (some 34) (v := undef) rfl rfl (by kernel_rfl) (by kernel_rfl) (by kernel_rfl) (by kernel_rfl) (by kernel_rfl) (fun _ _ _ h => h) (Or.inr ⟨by rfl, rfl⟩) hS0 ?_
        simp only [Act.put, List.setIfInBounds_toArray, List.set_cons_zero, List.set_cons_succ]
        refine wpAnyK_go (i := 17) (m' := 262143) (some 35) (v := undef) rfl rfl (by kernel_rfl) (by kernel_rfl) (by kernel_rfl) (by kernel_rfl) (by kernel_rfl) (fun _ _ _ h => h) (Or.inr ⟨by rfl, rfl⟩) hS0 ?_
        simp only [Act.put, List.setIfInBounds_toArray, List.set_cons_zero, List.set_cons_succ]
        refine wpAnyK_go (i := 18) (m' := 524287) (some 36) (v := undef) rfl rfl (by kernel_rfl) (by kernel_rfl) (by kernel_rfl) (by kernel_rfl) (by kernel_rfl) (fun _ _ _ h => h) (Or.inr ⟨by rfl, rfl⟩) hS0 ?_
        simp only [Act.put, List.setIfInBounds_toArray, List.set_cons_zero, List.set_cons_succ]
        refine wpAnyK_go (i := 19) (m' := 1048575) (some 37) (v := undef) rfl rfl (by kernel_rfl) (by kernel_rfl) (by kernel_rfl) (by kernel_rfl) (by kernel_rfl) (fun _ _ _ h => h) (Or.inr ⟨by rfl, rfl⟩) hS0 ?_
        simp only [Act.put, List.setIfInBounds_toArray, List.set_cons_zero, List.set_cons_succ]
        refine wpAnyK_go (i := 20) (m' := 2097151) (some 38) (v := undef) rfl rfl (by kernel_rfl) (by kernel_rfl) (by kernel_rfl) (by kernel_rfl) (by kernel_rfl) (fun _ _ _ h => h) (Or.inr ⟨by rfl, rfl⟩) hS0 ?_
        simp only [Act.put, List.setIfInBounds_toArray, List.set_cons_zero, List.set_cons_succ]
        refine wpAnyK_go (i := 21) (m' := 4194303) (some 39) (v := .bool false) rfl rfl (by kernel_rfl) (by kernel_rfl) (by kernel_rfl) (by kernel_rfl) (by kernel_rfl) (fun _ _ _ h => h) (Or.inl ⟨by rfl, ?_⟩) hS0 ?_
        · intro w' hSw
          go_simp
        simp only [Act.put, List.setIfInBounds_toArray, List.set_cons_zero, List.set_cons_succ]
        refine wpAnyK_done (by kernel_rfl) ?_ _
        clear hS0
        have HI2 : Hid (∀ x, x < i + 1 → Le fa x row.length → Le ta (row.getD x 0) v) := fun x hx hle => by
          by_cases e : x = i
          · subst e; have h2 := HLA.out.2 hle; cases h2
          · exact HI.out x (by omega) hle
        clear HLA HLB
        go_wp2
        go_roundw
        case rel => exact ⟨i + 1, hil, by go_num, HB.out, HI2.out⟩
        case measure => simp [intOf]; omega
    · obtain rfl : i = row.length := by omega
      have HE : Hid (bit = true) := HBIT.out.2 ⟨HVT.out, HI.out⟩
      go_wp2
      go_ret
      exact ⟨by rw [HE.out]; rfl, HBW.out.trans (HB.out.mono HBW.out.size)⟩
end Go.Proofs.YtgdflaapgfpdeaaDoor
