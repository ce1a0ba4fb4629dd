/- LatticeSizes answers true. -/
import Derived.Test.YtgdflaapgfpdeaaDoorMvx
namespace Go.Proofs.YtgdflaapgfpdeaaDoor
open Go.RowKit

def sizesT : List (Tn 4) := [up 3 (up 2 (up 1 (intT))), up 3 (up 2 (lstT intT)), up 3 (up 2 (funT intT intT)), up 3 (funT (d := 2) (up 1 (intT)) (funT intT intT)), up 3 (funT (d := 2) (funT intT intT) (up 1 (intT))), funT (d := 3) (up 2 (up 1 (intT))) (funT (d := 2) (up 1 (intT)) (funT intT intT)), up 3 (funT (d := 2) (lstT intT) (up 1 (intT))), up 3 (funT (d := 2) (up 1 (intT)) (lstT intT)), up 3 (funT (d := 2) (lstT intT) (lstT intT)), funT (d := 3) (up 2 (up 1 (intT))) (funT (d := 2) (lstT intT) (lstT intT)), up 3 (lstT (d := 2) (funT intT intT))]
def wantsL : List Nat := [2, 4, 3, 6, 4, 20, 5, 10, 35, 0, 4]
theorem sizes_len : sizesT.length = 11 := rfl
theorem sizes_small : ∀ t ∈ sizesT, (flat 4 t).length ≤ 4194304 := by
  have h : (sizesT.all fun t => decide ((flat 4 t).length ≤ 4194304)) = true := by kernel_rfl
  intro t ht
  simpa using List.all_eq_true.1 h t ht
theorem sizes_map : sizesT.map (sizeD 4) = wantsL.map (fun x => (x, if 0 < x then (0 : Int) else 140)) := by kernel_rfl
theorem sizes_eq : ∀ j (h : j < 11), sizeD 4 (sizesT[j]'h) = (wantsL.getD j 0, if 0 < wantsL.getD j 0 then 0 else 140) := by
  intro j hj
  have h := congrArg (fun l => l[j]?) sizes_map
  simp only [List.getElem?_map] at h
  rw [List.getElem?_eq_getElem (show j < sizesT.length from hj), List.getElem?_eq_getElem (show j < wantsL.length from hj)] at h
  have e : wantsL.getD j 0 = wantsL[j]'hj := by
    rw [List.getD_eq_getElem?_getD, List.getElem?_eq_getElem (show j < wantsL.length from hj)]
    rfl
  rw [e]
  exact Option.some.inj h
theorem sizes_ok (j : Nat) (h : j < 11) : sizeD 4 (sizesT[j]'h) = (wantsL.getD j 0, if 0 < wantsL.getD j 0 then 0 else 140) ∧ (flat 4 (sizesT[j]'h)).length ≤ 4194304 := ⟨sizes_eq j h, sizes_small _ (List.getElem_mem _)⟩
set_option maxHeartbeats 16000000 in
set_option maxRecDepth 10000 in
theorem sizes_law {w : World} : Calls Tryd.prog 3 #[] w fun r w' => r = .returned (.bool true) ∧ Hid (Below w.heap.size w w') := by
  go_enter Tryd.func3, Tryd.ntmps3
  go_upto_region 2 with (first | (go_at_call 5; (with_reducible refine Calls.mono int_any ?_); rintro e' w1 ⟨x, rfl, HB1, HT1⟩; obtain ⟨k1, n1, a1, l1, c1, rfl, -⟩ := HT1.out))
  obtain ⟨X1, hX1⟩ : ∃ X1, X1 = w1.heap.size := ⟨_, rfl⟩
  obtain ⟨W1, hW1⟩ : ∃ W1, W1 = w1.alloc (.cells #[.int .i64 k1, .string n1, .slice a1 l1 c1] 24) := ⟨_, rfl⟩
  have HD1 : Hid (Below w1.heap.size w1 W1) := by rw [hW1]; exact (Below.refl _ _).alloc (Nat.le_refl _) _
  have HC1 : Hid (W1.heap[X1]? = some (.cells #[.int .i64 k1, .string n1, .slice a1 l1 c1] 24 (0, 0))) := by rw [hW1, hX1]; exact new_blk _ _
  replace HT1 : Hid (Tv W1 1 (.agg #[.int .i64 k1, .string n1, .slice a1 l1 c1]) intT) := HT1.out.on HD1.out
  replace HB1 : Hid (Below w.heap.size w W1) := HB1.out.trans (HD1.out.mono HB1.out.size)
  rw [← hW1, ← hX1]
  clear hW1 hX1 HD1
  have e0 : W1.cell? ⟨X1, 0, none⟩ = some (.int .i64 k1) := heap_cl HC1.out rfl
  have e1 : W1.cell? ⟨X1, 1, none⟩ = some (.string n1) := heap_cl HC1.out rfl
  have e2 : W1.cell? ⟨X1, 2, none⟩ = some (.slice a1 l1 c1) := heap_cl HC1.out rfl
  have C2 := list_mk HT1.out
  go_upto_region 3 with (first | (go_at_call 6; (with_reducible refine Calls.mono C2 ?_); rintro e' w2 ⟨x, rfl, HB2, HT2⟩; obtain ⟨k2, n2, a2, l2, c2, rfl, -⟩ := HT2.out))
  obtain ⟨X2, hX2⟩ : ∃ X2, X2 = w2.heap.size := ⟨_, rfl⟩
  obtain ⟨W2, hW2⟩ : ∃ W2, W2 = w2.alloc (.cells #[.int .i64 k2, .string n2, .slice a2 l2 c2] 24) := ⟨_, rfl⟩
  have HD2 : Hid (Below w2.heap.size w2 W2) := by rw [hW2]; exact (Below.refl _ _).alloc (Nat.le_refl _) _
  have HC2 : Hid (W2.heap[X2]? = some (.cells #[.int .i64 k2, .string n2, .slice a2 l2 c2] 24 (0, 0))) := by rw [hW2, hX2]; exact new_blk _ _
  have HE2 : Hid (Below W1.heap.size W1 W2) := HB2.out.trans (HD2.out.mono HB2.out.size)
  replace HT2 : Hid (Tv W2 2 (.agg #[.int .i64 k2, .string n2, .slice a2 l2 c2]) (lstT intT)) := HT2.out.on HD2.out
  replace HT1 : Hid (Tv W2 1 (.agg #[.int .i64 k1, .string n1, .slice a1 l1 c1]) intT) := HT1.out.on HE2.out
  replace HC1 : Hid (W2.heap[X1]? = some (.cells #[.int .i64 k1, .string n1, .slice a1 l1 c1] 24 (0, 0))) := (HE2.out.block X1 (lt_heap HC1.out)).trans HC1.out
  replace HB1 : Hid (Below w.heap.size w W2) := HB1.out.trans (HE2.out.mono HB1.out.size)
  rw [← hW2, ← hX2]
  clear hW2 hX2 HD2 HB2 HE2 C2 e0 e1 e2
  have e0 : W2.cell? ⟨X1, 0, none⟩ = some (.int .i64 k1) := heap_cl HC1.out rfl
  have e1 : W2.cell? ⟨X1, 1, none⟩ = some (.string n1) := heap_cl HC1.out rfl
  have e2 : W2.cell? ⟨X1, 2, none⟩ = some (.slice a1 l1 c1) := heap_cl HC1.out rfl
  have C3 := fun_mk HT1.out HT1.out
  go_upto_region 4 with (first | (go_at_call 7; (with_reducible refine Calls.mono C3 ?_); rintro e' w3 ⟨x, rfl, HB3, HT3⟩; obtain ⟨k3, n3, a3, l3, c3, rfl, -⟩ := HT3.out))
  obtain ⟨X3, hX3⟩ : ∃ X3, X3 = w3.heap.size := ⟨_, rfl⟩
  obtain ⟨W3, hW3⟩ : ∃ W3, W3 = w3.alloc (.cells #[.int .i64 k3, .string n3, .slice a3 l3 c3] 24) := ⟨_, rfl⟩
  have HD3 : Hid (Below w3.heap.size w3 W3) := by rw [hW3]; exact (Below.refl _ _).alloc (Nat.le_refl _) _
  have HC3 : Hid (W3.heap[X3]? = some (.cells #[.int .i64 k3, .string n3, .slice a3 l3 c3] 24 (0, 0))) := by rw [hW3, hX3]; exact new_blk _ _
  have HE3 : Hid (Below W2.heap.size W2 W3.drew) := (HB3.out.trans (HD3.out.mono HB3.out.size)).drew
  replace HT3 : Hid (Tv W3.drew 2 (.agg #[.int .i64 k3, .string n3, .slice a3 l3 c3]) (funT intT intT)) := HT3.out.on HD3.out.drew
  replace HT1 : Hid (Tv W3.drew 1 (.agg #[.int .i64 k1, .string n1, .slice a1 l1 c1]) intT) := HT1.out.on HE3.out
  replace HT2 : Hid (Tv W3.drew 2 (.agg #[.int .i64 k2, .string n2, .slice a2 l2 c2]) (lstT intT)) := HT2.out.on HE3.out
  replace HC1 : Hid (W3.heap[X1]? = some (.cells #[.int .i64 k1, .string n1, .slice a1 l1 c1] 24 (0, 0))) := (HE3.out.block X1 (lt_heap HC1.out)).trans HC1.out
  replace HC2 : Hid (W3.heap[X2]? = some (.cells #[.int .i64 k2, .string n2, .slice a2 l2 c2] 24 (0, 0))) := (HE3.out.block X2 (lt_heap HC2.out)).trans HC2.out
  replace HB1 : Hid (Below w.heap.size w W3.drew) := HB1.out.trans (HE3.out.mono HB1.out.size)
  rw [← hW3, ← hX3]
  clear hW3 hX3 HD3 HB3 HE3 C3 e0 e1 e2
  have HSS : Hid (∀ v : World, Below W3.drew.heap.size W3.drew v → (fun w' : World => w'.cell? ⟨X1, 0, none⟩ = some (.int .i64 k1) ∧ w'.cell? ⟨X1, 1, none⟩ = some (.string n1) ∧ w'.cell? ⟨X1, 2, none⟩ = some (.slice a1 l1 c1) ∧ w'.cell? ⟨X2, 0, none⟩ = some (.int .i64 k2) ∧ w'.cell? ⟨X2, 1, none⟩ = some (.string n2) ∧ w'.cell? ⟨X2, 2, none⟩ = some (.slice a2 l2 c2) ∧ w'.cell? ⟨X3, 0, none⟩ = some (.int .i64 k3) ∧ w'.cell? ⟨X3, 1, none⟩ = some (.string n3) ∧ w'.cell? ⟨X3, 2, none⟩ = some (.slice a3 l3 c3)) v) := fun v hv => by
    have f1 : v.heap[X1]? = _ := (hv.block X1 (lt_heap HC1.out)).trans HC1.out
    have f2 : v.heap[X2]? = _ := (hv.block X2 (lt_heap HC2.out)).trans HC2.out
    have f3 : v.heap[X3]? = _ := (hv.block X3 (lt_heap HC3.out)).trans HC3.out
    exact ⟨heap_cl f1 rfl, heap_cl f1 rfl, heap_cl f1 rfl, heap_cl f2 rfl, heap_cl f2 rfl, heap_cl f2 rfl, heap_cl f3 rfl, heap_cl f3 rfl, heap_cl f3 rfl⟩
  have hS0 := HSS.out W3.drew (Below.refl _ _)
  have HBc : Hid (Below W3.drew.heap.size W3.drew W3.drew) := Below.refl _ _
  clear HC1 HC2 HC3
  refine wp_region_M (S := (fun w' : World => w'.cell? ⟨X1, 0, none⟩ = some (.int .i64 k1) ∧ w'.cell? ⟨X1, 1, none⟩ = some (.string n1) ∧ w'.cell? ⟨X1, 2, none⟩ = some (.slice a1 l1 c1) ∧ w'.cell? ⟨X2, 0, none⟩ = some (.int .i64 k2) ∧ w'.cell? ⟨X2, 1, none⟩ = some (.string n2) ∧ w'.cell? ⟨X2, 2, none⟩ = some (.slice a2 l2 c2) ∧ w'.cell? ⟨X3, 0, none⟩ = some (.int .i64 k3) ∧ w'.cell? ⟨X3, 1, none⟩ = some (.string n3) ∧ w'.cell? ⟨X3, 2, none⟩ = some (.slice a3 l3 c3))) (L := 32) (n := 32) (by kernel_rfl) rfl (by kernel_rfl) ?_
  refine wpAnyK_go (i := 0) (m' := 1) (some 15) (v := .agg #[.int .i64 k1, .string n1, .slice a1 l1 c1]) rfl rfl (by kernel_rfl) (by kernel_rfl) (by kernel_rfl) (by kernel_rfl) (by kernel_rfl) (fun _ _ _ h => h) (Or.inl ⟨by rfl, ?_⟩) hS0 ?_
  · intro w' hSw
    obtain ⟨s1, s2, s3, s4, s5, s6, s7, s8, s9⟩ := hSw
    go_simp
  simp only [Act.put, List.setIfInBounds_toArray, List.set_cons_zero, List.set_cons_succ]
  refine wpAnyK_go (i := 1) (m' := 3) (some 16) (v := .agg #[.int .i64 k2, .string n2, .slice a2 l2 c2]) rfl rfl (by kernel_rfl) (by kernel_rfl) (by kernel_rfl) (by kernel_rfl) (by kernel_rfl) (fun _ _ _ h => h) (Or.inl ⟨by rfl, ?_⟩) hS0 ?_
  · intro w' hSw
    obtain ⟨s1, s2, s3, s4, s5, s6, s7, s8, s9⟩ := hSw
    go_simp
  simp only [Act.put, List.setIfInBounds_toArray, List.set_cons_zero, List.set_cons_succ]
  refine wpAnyK_go (i := 2) (m' := 7) (some 17) (v := .agg #[.int .i64 k3, .string n3, .slice a3 l3 c3]) rfl rfl (by kernel_rfl) (by kernel_rfl) (by kernel_rfl) (by kernel_rfl) (by kernel_rfl) (fun _ _ _ h => h) (Or.inl ⟨by rfl, ?_⟩) hS0 ?_
  · intro w' hSw
    obtain ⟨s1, s2, s3, s4, s5, s6, s7, s8, s9⟩ := hSw
    go_simp
  simp only [Act.put, List.setIfInBounds_toArray, List.set_cons_zero, List.set_cons_succ]
  refine wpAnyK_go (i := 3) (m' := 15) (some 18) (v := .agg #[.int .i64 k1, .string n1, .slice a1 l1 c1]) rfl rfl (by kernel_rfl) (by kernel_rfl) (by kernel_rfl) (by kernel_rfl) (by kernel_rfl) (fun _ _ _ h => h) (Or.inl ⟨by rfl, ?_⟩) hS0 ?_
  · intro w' hSw
    obtain ⟨s1, s2, s3, s4, s5, s6, s7, s8, s9⟩ := hSw
    go_simp
  simp only [Act.put, List.setIfInBounds_toArray, List.set_cons_zero, List.set_cons_succ]
  refine wpAnyK_go (i := 4) (m' := 31) (some 19) (v := .agg #[.int .i64 k3, .string n3, .slice a3 l3 c3]) rfl rfl (by kernel_rfl) (by kernel_rfl) (by kernel_rfl) (by kernel_rfl) (by kernel_rfl) (fun _ _ _ h => h) (Or.inl ⟨by rfl, ?_⟩) hS0 ?_
  · intro w' hSw
    obtain ⟨s1, s2, s3, s4, s5, s6, s7, s8, s9⟩ := hSw
    go_simp
  simp only [Act.put, List.setIfInBounds_toArray, List.set_cons_zero, List.set_cons_succ]
  refine wpAnyK_go (i := 6) (m' := 95) (some 21) (v := .agg #[.int .i64 k3, .string n3, .slice a3 l3 c3]) rfl rfl (by kernel_rfl) (by kernel_rfl) (by kernel_rfl) (by kernel_rfl) (by kernel_rfl) (fun _ _ _ h => h) (Or.inl ⟨by rfl, ?_⟩) hS0 ?_
  · intro w' hSw
    obtain ⟨s1, s2, s3, s4, s5, s6, s7, s8, s9⟩ := hSw
    go_simp
  simp only [Act.put, List.setIfInBounds_toArray, List.set_cons_zero, List.set_cons_succ]
  refine wpAnyK_go (i := 7) (m' := 223) (some 22) (v := .agg #[.int .i64 k1, .string n1, .slice a1 l1 c1]) rfl rfl (by kernel_rfl) (by kernel_rfl) (by kernel_rfl) (by kernel_rfl) (by kernel_rfl) (fun _ _ _ h => h) (Or.inl ⟨by rfl, ?_⟩) hS0 ?_
  · intro w' hSw
    obtain ⟨s1, s2, s3, s4, s5, s6, s7, s8, s9⟩ := hSw
    go_simp
  simp only [Act.put, List.setIfInBounds_toArray, List.set_cons_zero, List.set_cons_succ]
  refine wpAnyK_go (i := 9) (m' := 735) (some 24) (v := .agg #[.int .i64 k1, .string n1, .slice a1 l1 c1]) rfl rfl (by kernel_rfl) (by kernel_rfl) (by kernel_rfl) (by kernel_rfl) (by kernel_rfl) (fun _ _ _ h => h) (Or.inl ⟨by rfl, ?_⟩) hS0 ?_
  · intro w' hSw
    obtain ⟨s1, s2, s3, s4, s5, s6, s7, s8, s9⟩ := hSw
    go_simp
  simp only [Act.put, List.setIfInBounds_toArray, List.set_cons_zero, List.set_cons_succ]
  refine wpAnyK_go (i := 10) (m' := 1759) (some 25) (v := .agg #[.int .i64 k1, .string n1, .slice a1 l1 c1]) rfl rfl (by kernel_rfl) (by kernel_rfl) (by kernel_rfl) (by kernel_rfl) (by kernel_rfl) (fun _ _ _ h => h) (Or.inl ⟨by rfl, ?_⟩) hS0 ?_
  · intro w' hSw
    obtain ⟨s1, s2, s3, s4, s5, s6, s7, s8, s9⟩ := hSw
    go_simp
  simp only [Act.put, List.setIfInBounds_toArray, List.set_cons_zero, List.set_cons_succ]
  refine wpAnyK_go (i := 11) (m' := 3807) (some 26) (v := .agg #[.int .i64 k3, .string n3, .slice a3 l3 c3]) rfl rfl (by kernel_rfl) (by kernel_rfl) (by kernel_rfl) (by kernel_rfl) (by kernel_rfl) (fun _ _ _ h => h) (Or.inl ⟨by rfl, ?_⟩) hS0 ?_
  · intro w' hSw
    obtain ⟨s1, s2, s3, s4, s5, s6, s7, s8, s9⟩ := hSw
    go_simp
  simp only [Act.put, List.setIfInBounds_toArray, List.set_cons_zero, List.set_cons_succ]
  refine wpAnyK_go (i := 14) (m' := 20191) (some 29) (v := .agg #[.int .i64 k2, .string n2, .slice a2 l2 c2]) rfl rfl (by kernel_rfl) (by kernel_rfl) (by kernel_rfl) (by kernel_rfl) (by kernel_rfl) (fun _ _ _ h => h) (Or.inl ⟨by rfl, ?_⟩) hS0 ?_
  · intro w' hSw
    obtain ⟨s1, s2, s3, s4, s5, s6, s7, s8, s9⟩ := hSw
    go_simp
  simp only [Act.put, List.setIfInBounds_toArray, List.set_cons_zero, List.set_cons_succ]
  refine wpAnyK_go (i := 15) (m' := 52959) (some 30) (v := .agg #[.int .i64 k1, .string n1, .slice a1 l1 c1]) rfl rfl (by kernel_rfl) (by kernel_rfl) (by kernel_rfl) (by kernel_rfl) (by kernel_rfl) (fun _ _ _ h => h) (Or.inl ⟨by rfl, ?_⟩) hS0 ?_
  · intro w' hSw
    obtain ⟨s1, s2, s3, s4, s5, s6, s7, s8, s9⟩ := hSw
    go_simp
  simp only [Act.put, List.setIfInBounds_toArray, List.set_cons_zero, List.set_cons_succ]
  refine wpAnyK_go (i := 17) (m' := 184031) (some 32) (v := .agg #[.int .i64 k1, .string n1, .slice a1 l1 c1]) rfl rfl (by kernel_rfl) (by kernel_rfl) (by kernel_rfl) (by kernel_rfl) (by kernel_rfl) (fun _ _ _ h => h) (Or.inl ⟨by rfl, ?_⟩) hS0 ?_
  · intro w' hSw
    obtain ⟨s1, s2, s3, s4, s5, s6, s7, s8, s9⟩ := hSw
    go_simp
  simp only [Act.put, List.setIfInBounds_toArray, List.set_cons_zero, List.set_cons_succ]
  refine wpAnyK_go (i := 18) (m' := 446175) (some 33) (v := .agg #[.int .i64 k2, .string n2, .slice a2 l2 c2]) rfl rfl (by kernel_rfl) (by kernel_rfl) (by kernel_rfl) (by kernel_rfl) (by kernel_rfl) (fun _ _ _ h => h) (Or.inl ⟨by rfl, ?_⟩) hS0 ?_
  · intro w' hSw
    obtain ⟨s1, s2, s3, s4, s5, s6, s7, s8, s9⟩ := hSw
    go_simp
  simp only [Act.put, List.setIfInBounds_toArray, List.set_cons_zero, List.set_cons_succ]
  refine wpAnyK_go (i := 20) (m' := 1494751) (some 35) (v := .agg #[.int .i64 k2, .string n2, .slice a2 l2 c2]) rfl rfl (by kernel_rfl) (by kernel_rfl) (by kernel_rfl) (by kernel_rfl) (by kernel_rfl) (fun _ _ _ h => h) (Or.inl ⟨by rfl, ?_⟩) hS0 ?_
  · intro w' hSw
    obtain ⟨s1, s2, s3, s4, s5, s6, s7, s8, s9⟩ := hSw
    go_simp
  simp only [Act.put, List.setIfInBounds_toArray, List.set_cons_zero, List.set_cons_succ]
  refine wpAnyK_go (i := 21) (m' := 3591903) (some 36) (v := .agg #[.int .i64 k2, .string n2, .slice a2 l2 c2]) rfl rfl (by kernel_rfl) (by kernel_rfl) (by kernel_rfl) (by kernel_rfl) (by kernel_rfl) (fun _ _ _ h => h) (Or.inl ⟨by rfl, ?_⟩) hS0 ?_
  · intro w' hSw
    obtain ⟨s1, s2, s3, s4, s5, s6, s7, s8, s9⟩ := hSw
    go_simp
  simp only [Act.put, List.setIfInBounds_toArray, List.set_cons_zero, List.set_cons_succ]
  refine wpAnyK_go (i := 23) (m' := 11980511) (some 38) (v := .agg #[.int .i64 k1, .string n1, .slice a1 l1 c1]) rfl rfl (by kernel_rfl) (by kernel_rfl) (by kernel_rfl) (by kernel_rfl) (by kernel_rfl) (fun _ _ _ h => h) (Or.inl ⟨by rfl, ?_⟩) hS0 ?_
  · intro w' hSw
    obtain ⟨s1, s2, s3, s4, s5, s6, s7, s8, s9⟩ := hSw
    go_simp
  simp only [Act.put, List.setIfInBounds_toArray, List.set_cons_zero, List.set_cons_succ]
  refine wpAnyK_go (i := 24) (m' := 28757727) (some 39) (v := .agg #[.int .i64 k2, .string n2, .slice a2 l2 c2]) rfl rfl (by kernel_rfl) (by kernel_rfl) (by kernel_rfl) (by kernel_rfl) (by kernel_rfl) (fun _ _ _ h => h) (Or.inl ⟨by rfl, ?_⟩) hS0 ?_
  · intro w' hSw
    obtain ⟨s1, s2, s3, s4, s5, s6, s7, s8, s9⟩ := hSw
    go_simp
  simp only [Act.put, List.setIfInBounds_toArray, List.set_cons_zero, List.set_cons_succ]
  refine wpAnyK_go (i := 25) (m' := 62312159) (some 40) (v := .agg #[.int .i64 k2, .string n2, .slice a2 l2 c2]) rfl rfl (by kernel_rfl) (by kernel_rfl) (by kernel_rfl) (by kernel_rfl) (by kernel_rfl) (fun _ _ _ h => h) (Or.inl ⟨by rfl, ?_⟩) hS0 ?_
  · intro w' hSw
    obtain ⟨s1, s2, s3, s4, s5, s6, s7, s8, s9⟩ := hSw
    go_simp
  simp only [Act.put, List.setIfInBounds_toArray, List.set_cons_zero, List.set_cons_succ]
  refine wpAnyK_go (i := 28) (m' := 330747615) (some 43) (v := .agg #[.int .i64 k3, .string n3, .slice a3 l3 c3]) rfl rfl (by kernel_rfl) (by kernel_rfl) (by kernel_rfl) (by kernel_rfl) (by kernel_rfl) (fun _ _ _ h => h) (Or.inl ⟨by rfl, ?_⟩) hS0 ?_
  · intro w' hSw
    obtain ⟨s1, s2, s3, s4, s5, s6, s7, s8, s9⟩ := hSw
    go_simp
  simp only [Act.put, List.setIfInBounds_toArray, List.set_cons_zero, List.set_cons_succ]
  refine wpAnyK_only (i := 5) (m' := 330747647) (by kernel_rfl) rfl (by kernel_rfl) fun K hK => ?_
  have CA := fun_mk (HT1.out.up) (HT3.out)
  go_simp
  (with_reducible refine Calls.mono CA ?_)
  rintro e' v4 ⟨x, rfl, HBn, HT4⟩
  obtain ⟨k4, n4, a4, l4, c4, rfl, -⟩ := HT4.out
  replace HT4 : Hid (Tv v4 3 (.agg #[.int .i64 k4, .string n4, .slice a4 l4 c4]) (funT (d := 2) (up 1 (intT)) (funT intT intT))) := HT4
  replace HT1 : Hid (Tv v4 1 (.agg #[.int .i64 k1, .string n1, .slice a1 l1 c1]) (intT)) := HT1.out.on HBn.out
  replace HT2 : Hid (Tv v4 2 (.agg #[.int .i64 k2, .string n2, .slice a2 l2 c2]) (lstT intT)) := HT2.out.on HBn.out
  replace HT3 : Hid (Tv v4 2 (.agg #[.int .i64 k3, .string n3, .slice a3 l3 c3]) (funT intT intT)) := HT3.out.on HBn.out
  replace HBc : Hid (Below W3.drew.heap.size W3.drew v4) := HBc.out.trans (HBn.out.mono HBc.out.size)
  have hS4 := HSS.out v4 HBc.out
  go_simp
  refine hK.out _ _ (fun _ => hS4) ?_
  clear hK K CA HBn hS0
  refine wpAnyK_only (i := 8) (m' := 330747903) (by kernel_rfl) rfl (by kernel_rfl) fun K hK => ?_
  have CA := fun_mk (HT3.out) (HT1.out.up)
  go_simp
  (with_reducible refine Calls.mono CA ?_)
  rintro e' v5 ⟨x, rfl, HBn, HT5⟩
  obtain ⟨k5, n5, a5, l5, c5, rfl, -⟩ := HT5.out
  replace HT5 : Hid (Tv v5 3 (.agg #[.int .i64 k5, .string n5, .slice a5 l5 c5]) (funT (d := 2) (funT intT intT) (up 1 (intT)))) := HT5
  replace HT1 : Hid (Tv v5 1 (.agg #[.int .i64 k1, .string n1, .slice a1 l1 c1]) (intT)) := HT1.out.on HBn.out
  replace HT2 : Hid (Tv v5 2 (.agg #[.int .i64 k2, .string n2, .slice a2 l2 c2]) (lstT intT)) := HT2.out.on HBn.out
  replace HT3 : Hid (Tv v5 2 (.agg #[.int .i64 k3, .string n3, .slice a3 l3 c3]) (funT intT intT)) := HT3.out.on HBn.out
  replace HT4 : Hid (Tv v5 3 (.agg #[.int .i64 k4, .string n4, .slice a4 l4 c4]) (funT (d := 2) (up 1 (intT)) (funT intT intT))) := HT4.out.on HBn.out
  replace HBc : Hid (Below W3.drew.heap.size W3.drew v5) := HBc.out.trans (HBn.out.mono HBc.out.size)
  have hS5 := HSS.out v5 HBc.out
  go_simp
  refine hK.out _ _ (fun _ => hS5) ?_
  clear hK K CA HBn hS4
  refine wpAnyK_only (i := 12) (m' := 330751999) (by kernel_rfl) rfl (by kernel_rfl) fun K hK => ?_
  have CA := fun_mk (HT1.out.up) (HT3.out)
  go_simp
  (with_reducible refine Calls.mono CA ?_)
  rintro e' v6 ⟨x, rfl, HBn, HT6⟩
  obtain ⟨k6, n6, a6, l6, c6, rfl, -⟩ := HT6.out
  replace HT6 : Hid (Tv v6 3 (.agg #[.int .i64 k6, .string n6, .slice a6 l6 c6]) (funT (d := 2) (up 1 (intT)) (funT intT intT))) := HT6
  replace HT1 : Hid (Tv v6 1 (.agg #[.int .i64 k1, .string n1, .slice a1 l1 c1]) (intT)) := HT1.out.on HBn.out
  replace HT2 : Hid (Tv v6 2 (.agg #[.int .i64 k2, .string n2, .slice a2 l2 c2]) (lstT intT)) := HT2.out.on HBn.out
  replace HT3 : Hid (Tv v6 2 (.agg #[.int .i64 k3, .string n3, .slice a3 l3 c3]) (funT intT intT)) := HT3.out.on HBn.out
  replace HT4 : Hid (Tv v6 3 (.agg #[.int .i64 k4, .string n4, .slice a4 l4 c4]) (funT (d := 2) (up 1 (intT)) (funT intT intT))) := HT4.out.on HBn.out
  replace HT5 : Hid (Tv v6 3 (.agg #[.int .i64 k5, .string n5, .slice a5 l5 c5]) (funT (d := 2) (funT intT intT) (up 1 (intT)))) := HT5.out.on HBn.out
  replace HBc : Hid (Below W3.drew.heap.size W3.drew v6) := HBc.out.trans (HBn.out.mono HBc.out.size)
  have hS6 := HSS.out v6 HBc.out
  go_simp
  refine hK.out _ _ (fun _ => hS6) ?_
  clear hK K CA HBn hS5
  refine wpAnyK_only (i := 13) (m' := 330760191) (by kernel_rfl) rfl (by kernel_rfl) fun K hK => ?_
  have CA := fun_mk (HT1.out.up.up) (HT6.out)
  go_simp
  (with_reducible refine Calls.mono CA ?_)
  rintro e' v7 ⟨x, rfl, HBn, HT7⟩
  obtain ⟨k7, n7, a7, l7, c7, rfl, -⟩ := HT7.out
  replace HT7 : Hid (Tv v7 4 (.agg #[.int .i64 k7, .string n7, .slice a7 l7 c7]) (funT (d := 3) (up 2 (up 1 (intT))) (funT (d := 2) (up 1 (intT)) (funT intT intT)))) := HT7
  replace HT1 : Hid (Tv v7 1 (.agg #[.int .i64 k1, .string n1, .slice a1 l1 c1]) (intT)) := HT1.out.on HBn.out
  replace HT2 : Hid (Tv v7 2 (.agg #[.int .i64 k2, .string n2, .slice a2 l2 c2]) (lstT intT)) := HT2.out.on HBn.out
  replace HT3 : Hid (Tv v7 2 (.agg #[.int .i64 k3, .string n3, .slice a3 l3 c3]) (funT intT intT)) := HT3.out.on HBn.out
  replace HT4 : Hid (Tv v7 3 (.agg #[.int .i64 k4, .string n4, .slice a4 l4 c4]) (funT (d := 2) (up 1 (intT)) (funT intT intT))) := HT4.out.on HBn.out
  replace HT5 : Hid (Tv v7 3 (.agg #[.int .i64 k5, .string n5, .slice a5 l5 c5]) (funT (d := 2) (funT intT intT) (up 1 (intT)))) := HT5.out.on HBn.out
  replace HT6 : Hid (Tv v7 3 (.agg #[.int .i64 k6, .string n6, .slice a6 l6 c6]) (funT (d := 2) (up 1 (intT)) (funT intT intT))) := HT6.out.on HBn.out
  replace HBc : Hid (Below W3.drew.heap.size W3.drew v7) := HBc.out.trans (HBn.out.mono HBc.out.size)
  have hS7 := HSS.out v7 HBc.out
  go_simp
  refine hK.out _ _ (fun _ => hS7) ?_
  clear hK K CA HBn hS6
  refine wpAnyK_only (i := 16) (m' := 330825727) (by kernel_rfl) rfl (by kernel_rfl) fun K hK => ?_
  have CA := fun_mk (HT2.out) (HT1.out.up)
  go_simp
  (with_reducible refine Calls.mono CA ?_)
  rintro e' v8 ⟨x, rfl, HBn, HT8⟩
  obtain ⟨k8, n8, a8, l8, c8, rfl, -⟩ := HT8.out
  replace HT8 : Hid (Tv v8 3 (.agg #[.int .i64 k8, .string n8, .slice a8 l8 c8]) (funT (d := 2) (lstT intT) (up 1 (intT)))) := HT8
  replace HT1 : Hid (Tv v8 1 (.agg #[.int .i64 k1, .string n1, .slice a1 l1 c1]) (intT)) := HT1.out.on HBn.out
  replace HT2 : Hid (Tv v8 2 (.agg #[.int .i64 k2, .string n2, .slice a2 l2 c2]) (lstT intT)) := HT2.out.on HBn.out
  replace HT3 : Hid (Tv v8 2 (.agg #[.int .i64 k3, .string n3, .slice a3 l3 c3]) (funT intT intT)) := HT3.out.on HBn.out
  replace HT4 : Hid (Tv v8 3 (.agg #[.int .i64 k4, .string n4, .slice a4 l4 c4]) (funT (d := 2) (up 1 (intT)) (funT intT intT))) := HT4.out.on HBn.out
  replace HT5 : Hid (Tv v8 3 (.agg #[.int .i64 k5, .string n5, .slice a5 l5 c5]) (funT (d := 2) (funT intT intT) (up 1 (intT)))) := HT5.out.on HBn.out
  replace HT6 : Hid (Tv v8 3 (.agg #[.int .i64 k6, .string n6, .slice a6 l6 c6]) (funT (d := 2) (up 1 (intT)) (funT intT intT))) := HT6.out.on HBn.out
  replace HT7 : Hid (Tv v8 4 (.agg #[.int .i64 k7, .string n7, .slice a7 l7 c7]) (funT (d := 3) (up 2 (up 1 (intT))) (funT (d := 2) (up 1 (intT)) (funT intT intT)))) := HT7.out.on HBn.out
  replace HBc : Hid (Below W3.drew.heap.size W3.drew v8) := HBc.out.trans (HBn.out.mono HBc.out.size)
  have hS8 := HSS.out v8 HBc.out
  go_simp
  refine hK.out _ _ (fun _ => hS8) ?_
  clear hK K CA HBn hS7
  refine wpAnyK_only (i := 19) (m' := 331350015) (by kernel_rfl) rfl (by kernel_rfl) fun K hK => ?_
  have CA := fun_mk (HT1.out.up) (HT2.out)
  go_simp
  (with_reducible refine Calls.mono CA ?_)
  rintro e' v9 ⟨x, rfl, HBn, HT9⟩
  obtain ⟨k9, n9, a9, l9, c9, rfl, -⟩ := HT9.out
  replace HT9 : Hid (Tv v9 3 (.agg #[.int .i64 k9, .string n9, .slice a9 l9 c9]) (funT (d := 2) (up 1 (intT)) (lstT intT))) := HT9
  replace HT1 : Hid (Tv v9 1 (.agg #[.int .i64 k1, .string n1, .slice a1 l1 c1]) (intT)) := HT1.out.on HBn.out
  replace HT2 : Hid (Tv v9 2 (.agg #[.int .i64 k2, .string n2, .slice a2 l2 c2]) (lstT intT)) := HT2.out.on HBn.out
  replace HT3 : Hid (Tv v9 2 (.agg #[.int .i64 k3, .string n3, .slice a3 l3 c3]) (funT intT intT)) := HT3.out.on HBn.out
  replace HT4 : Hid (Tv v9 3 (.agg #[.int .i64 k4, .string n4, .slice a4 l4 c4]) (funT (d := 2) (up 1 (intT)) (funT intT intT))) := HT4.out.on HBn.out
  replace HT5 : Hid (Tv v9 3 (.agg #[.int .i64 k5, .string n5, .slice a5 l5 c5]) (funT (d := 2) (funT intT intT) (up 1 (intT)))) := HT5.out.on HBn.out
  replace HT6 : Hid (Tv v9 3 (.agg #[.int .i64 k6, .string n6, .slice a6 l6 c6]) (funT (d := 2) (up 1 (intT)) (funT intT intT))) := HT6.out.on HBn.out
  replace HT7 : Hid (Tv v9 4 (.agg #[.int .i64 k7, .string n7, .slice a7 l7 c7]) (funT (d := 3) (up 2 (up 1 (intT))) (funT (d := 2) (up 1 (intT)) (funT intT intT)))) := HT7.out.on HBn.out
  replace HT8 : Hid (Tv v9 3 (.agg #[.int .i64 k8, .string n8, .slice a8 l8 c8]) (funT (d := 2) (lstT intT) (up 1 (intT)))) := HT8.out.on HBn.out
  replace HBc : Hid (Below W3.drew.heap.size W3.drew v9) := HBc.out.trans (HBn.out.mono HBc.out.size)
  have hS9 := HSS.out v9 HBc.out
  go_simp
  refine hK.out _ _ (fun _ => hS9) ?_
  clear hK K CA HBn hS8
  refine wpAnyK_only (i := 22) (m' := 335544319) (by kernel_rfl) rfl (by kernel_rfl) fun K hK => ?_
  have CA := fun_mk (HT2.out) (HT2.out)
  go_simp
  (with_reducible refine Calls.mono CA ?_)
  rintro e' v10 ⟨x, rfl, HBn, HT10⟩
  obtain ⟨k10, n10, a10, l10, c10, rfl, -⟩ := HT10.out
  replace HT10 : Hid (Tv v10 3 (.agg #[.int .i64 k10, .string n10, .slice a10 l10 c10]) (funT (d := 2) (lstT intT) (lstT intT))) := HT10
  replace HT1 : Hid (Tv v10 1 (.agg #[.int .i64 k1, .string n1, .slice a1 l1 c1]) (intT)) := HT1.out.on HBn.out
  replace HT2 : Hid (Tv v10 2 (.agg #[.int .i64 k2, .string n2, .slice a2 l2 c2]) (lstT intT)) := HT2.out.on HBn.out
  replace HT3 : Hid (Tv v10 2 (.agg #[.int .i64 k3, .string n3, .slice a3 l3 c3]) (funT intT intT)) := HT3.out.on HBn.out
  replace HT4 : Hid (Tv v10 3 (.agg #[.int .i64 k4, .string n4, .slice a4 l4 c4]) (funT (d := 2) (up 1 (intT)) (funT intT intT))) := HT4.out.on HBn.out
  replace HT5 : Hid (Tv v10 3 (.agg #[.int .i64 k5, .string n5, .slice a5 l5 c5]) (funT (d := 2) (funT intT intT) (up 1 (intT)))) := HT5.out.on HBn.out
  replace HT6 : Hid (Tv v10 3 (.agg #[.int .i64 k6, .string n6, .slice a6 l6 c6]) (funT (d := 2) (up 1 (intT)) (funT intT intT))) := HT6.out.on HBn.out
  replace HT7 : Hid (Tv v10 4 (.agg #[.int .i64 k7, .string n7, .slice a7 l7 c7]) (funT (d := 3) (up 2 (up 1 (intT))) (funT (d := 2) (up 1 (intT)) (funT intT intT)))) := HT7.out.on HBn.out
  replace HT8 : Hid (Tv v10 3 (.agg #[.int .i64 k8, .string n8, .slice a8 l8 c8]) (funT (d := 2) (lstT intT) (up 1 (intT)))) := HT8.out.on HBn.out
  replace HT9 : Hid (Tv v10 3 (.agg #[.int .i64 k9, .string n9, .slice a9 l9 c9]) (funT (d := 2) (up 1 (intT)) (lstT intT))) := HT9.out.on HBn.out
  replace HBc : Hid (Below W3.drew.heap.size W3.drew v10) := HBc.out.trans (HBn.out.mono HBc.out.size)
  have hS10 := HSS.out v10 HBc.out
  go_simp
  refine hK.out _ _ (fun _ => hS10) ?_
  clear hK K CA HBn hS9
  refine wpAnyK_only (i := 26) (m' := 402653183) (by kernel_rfl) rfl (by kernel_rfl) fun K hK => ?_
  have CA := fun_mk (HT2.out) (HT2.out)
  go_simp
  (with_reducible refine Calls.mono CA ?_)
  rintro e' v11 ⟨x, rfl, HBn, HT11⟩
  obtain ⟨k11, n11, a11, l11, c11, rfl, -⟩ := HT11.out
  replace HT11 : Hid (Tv v11 3 (.agg #[.int .i64 k11, .string n11, .slice a11 l11 c11]) (funT (d := 2) (lstT intT) (lstT intT))) := HT11
  replace HT1 : Hid (Tv v11 1 (.agg #[.int .i64 k1, .string n1, .slice a1 l1 c1]) (intT)) := HT1.out.on HBn.out
  replace HT2 : Hid (Tv v11 2 (.agg #[.int .i64 k2, .string n2, .slice a2 l2 c2]) (lstT intT)) := HT2.out.on HBn.out
  replace HT3 : Hid (Tv v11 2 (.agg #[.int .i64 k3, .string n3, .slice a3 l3 c3]) (funT intT intT)) := HT3.out.on HBn.out
  replace HT4 : Hid (Tv v11 3 (.agg #[.int .i64 k4, .string n4, .slice a4 l4 c4]) (funT (d := 2) (up 1 (intT)) (funT intT intT))) := HT4.out.on HBn.out
  replace HT5 : Hid (Tv v11 3 (.agg #[.int .i64 k5, .string n5, .slice a5 l5 c5]) (funT (d := 2) (funT intT intT) (up 1 (intT)))) := HT5.out.on HBn.out
  replace HT6 : Hid (Tv v11 3 (.agg #[.int .i64 k6, .string n6, .slice a6 l6 c6]) (funT (d := 2) (up 1 (intT)) (funT intT intT))) := HT6.out.on HBn.out
  replace HT7 : Hid (Tv v11 4 (.agg #[.int .i64 k7, .string n7, .slice a7 l7 c7]) (funT (d := 3) (up 2 (up 1 (intT))) (funT (d := 2) (up 1 (intT)) (funT intT intT)))) := HT7.out.on HBn.out
  replace HT8 : Hid (Tv v11 3 (.agg #[.int .i64 k8, .string n8, .slice a8 l8 c8]) (funT (d := 2) (lstT intT) (up 1 (intT)))) := HT8.out.on HBn.out
  replace HT9 : Hid (Tv v11 3 (.agg #[.int .i64 k9, .string n9, .slice a9 l9 c9]) (funT (d := 2) (up 1 (intT)) (lstT intT))) := HT9.out.on HBn.out
  replace HT10 : Hid (Tv v11 3 (.agg #[.int .i64 k10, .string n10, .slice a10 l10 c10]) (funT (d := 2) (lstT intT) (lstT intT))) := HT10.out.on HBn.out
  replace HBc : Hid (Below W3.drew.heap.size W3.drew v11) := HBc.out.trans (HBn.out.mono HBc.out.size)
  have hS11 := HSS.out v11 HBc.out
  go_simp
  refine hK.out _ _ (fun _ => hS11) ?_
  clear hK K CA HBn hS10
  refine wpAnyK_only (i := 27) (m' := 536870911) (by kernel_rfl) rfl (by kernel_rfl) fun K hK => ?_
  have CA := fun_mk (HT1.out.up.up) (HT11.out)
  go_simp
  (with_reducible refine Calls.mono CA ?_)
  rintro e' v12 ⟨x, rfl, HBn, HT12⟩
  obtain ⟨k12, n12, a12, l12, c12, rfl, -⟩ := HT12.out
  replace HT12 : Hid (Tv v12 4 (.agg #[.int .i64 k12, .string n12, .slice a12 l12 c12]) (funT (d := 3) (up 2 (up 1 (intT))) (funT (d := 2) (lstT intT) (lstT intT)))) := HT12
  replace HT1 : Hid (Tv v12 1 (.agg #[.int .i64 k1, .string n1, .slice a1 l1 c1]) (intT)) := HT1.out.on HBn.out
  replace HT2 : Hid (Tv v12 2 (.agg #[.int .i64 k2, .string n2, .slice a2 l2 c2]) (lstT intT)) := HT2.out.on HBn.out
  replace HT3 : Hid (Tv v12 2 (.agg #[.int .i64 k3, .string n3, .slice a3 l3 c3]) (funT intT intT)) := HT3.out.on HBn.out
  replace HT4 : Hid (Tv v12 3 (.agg #[.int .i64 k4, .string n4, .slice a4 l4 c4]) (funT (d := 2) (up 1 (intT)) (funT intT intT))) := HT4.out.on HBn.out
  replace HT5 : Hid (Tv v12 3 (.agg #[.int .i64 k5, .string n5, .slice a5 l5 c5]) (funT (d := 2) (funT intT intT) (up 1 (intT)))) := HT5.out.on HBn.out
  replace HT6 : Hid (Tv v12 3 (.agg #[.int .i64 k6, .string n6, .slice a6 l6 c6]) (funT (d := 2) (up 1 (intT)) (funT intT intT))) := HT6.out.on HBn.out
  replace HT7 : Hid (Tv v12 4 (.agg #[.int .i64 k7, .string n7, .slice a7 l7 c7]) (funT (d := 3) (up 2 (up 1 (intT))) (funT (d := 2) (up 1 (intT)) (funT intT intT)))) := HT7.out.on HBn.out
  replace HT8 : Hid (Tv v12 3 (.agg #[.int .i64 k8, .string n8, .slice a8 l8 c8]) (funT (d := 2) (lstT intT) (up 1 (intT)))) := HT8.out.on HBn.out
  replace HT9 : Hid (Tv v12 3 (.agg #[.int .i64 k9, .string n9, .slice a9 l9 c9]) (funT (d := 2) (up 1 (intT)) (lstT intT))) := HT9.out.on HBn.out
  replace HT10 : Hid (Tv v12 3 (.agg #[.int .i64 k10, .string n10, .slice a10 l10 c10]) (funT (d := 2) (lstT intT) (lstT intT))) := HT10.out.on HBn.out
  replace HT11 : Hid (Tv v12 3 (.agg #[.int .i64 k11, .string n11, .slice a11 l11 c11]) (funT (d := 2) (lstT intT) (lstT intT))) := HT11.out.on HBn.out
  replace HBc : Hid (Below W3.drew.heap.size W3.drew v12) := HBc.out.trans (HBn.out.mono HBc.out.size)
  have hS12 := HSS.out v12 HBc.out
  go_simp
  refine hK.out _ _ (fun _ => hS12) ?_
  clear hK K CA HBn hS11
  refine wpAnyK_only (i := 29) (m' := 1073741823) (by kernel_rfl) rfl (by kernel_rfl) fun K hK => ?_
  have CA := list_mk (HT3.out)
  go_simp
  (with_reducible refine Calls.mono CA ?_)
  rintro e' v13 ⟨x, rfl, HBn, HT13⟩
  obtain ⟨k13, n13, a13, l13, c13, rfl, -⟩ := HT13.out
  replace HT13 : Hid (Tv v13 3 (.agg #[.int .i64 k13, .string n13, .slice a13 l13 c13]) (lstT (d := 2) (funT intT intT))) := HT13
  replace HT1 : Hid (Tv v13 1 (.agg #[.int .i64 k1, .string n1, .slice a1 l1 c1]) (intT)) := HT1.out.on HBn.out
  replace HT2 : Hid (Tv v13 2 (.agg #[.int .i64 k2, .string n2, .slice a2 l2 c2]) (lstT intT)) := HT2.out.on HBn.out
  replace HT3 : Hid (Tv v13 2 (.agg #[.int .i64 k3, .string n3, .slice a3 l3 c3]) (funT intT intT)) := HT3.out.on HBn.out
  replace HT4 : Hid (Tv v13 3 (.agg #[.int .i64 k4, .string n4, .slice a4 l4 c4]) (funT (d := 2) (up 1 (intT)) (funT intT intT))) := HT4.out.on HBn.out
  replace HT5 : Hid (Tv v13 3 (.agg #[.int .i64 k5, .string n5, .slice a5 l5 c5]) (funT (d := 2) (funT intT intT) (up 1 (intT)))) := HT5.out.on HBn.out
  replace HT6 : Hid (Tv v13 3 (.agg #[.int .i64 k6, .string n6, .slice a6 l6 c6]) (funT (d := 2) (up 1 (intT)) (funT intT intT))) := HT6.out.on HBn.out
  replace HT7 : Hid (Tv v13 4 (.agg #[.int .i64 k7, .string n7, .slice a7 l7 c7]) (funT (d := 3) (up 2 (up 1 (intT))) (funT (d := 2) (up 1 (intT)) (funT intT intT)))) := HT7.out.on HBn.out
  replace HT8 : Hid (Tv v13 3 (.agg #[.int .i64 k8, .string n8, .slice a8 l8 c8]) (funT (d := 2) (lstT intT) (up 1 (intT)))) := HT8.out.on HBn.out
  replace HT9 : Hid (Tv v13 3 (.agg #[.int .i64 k9, .string n9, .slice a9 l9 c9]) (funT (d := 2) (up 1 (intT)) (lstT intT))) := HT9.out.on HBn.out
  replace HT10 : Hid (Tv v13 3 (.agg #[.int .i64 k10, .string n10, .slice a10 l10 c10]) (funT (d := 2) (lstT intT) (lstT intT))) := HT10.out.on HBn.out
  replace HT11 : Hid (Tv v13 3 (.agg #[.int .i64 k11, .string n11, .slice a11 l11 c11]) (funT (d := 2) (lstT intT) (lstT intT))) := HT11.out.on HBn.out
  replace HT12 : Hid (Tv v13 4 (.agg #[.int .i64 k12, .string n12, .slice a12 l12 c12]) (funT (d := 3) (up 2 (up 1 (intT))) (funT (d := 2) (lstT intT) (lstT intT)))) := HT12.out.on HBn.out
  replace HBc : Hid (Below W3.drew.heap.size W3.drew v13) := HBc.out.trans (HBn.out.mono HBc.out.size)
  have hS13 := HSS.out v13 HBc.out
  go_simp
  refine hK.out _ _ (fun _ => hS13) ?_
  clear hK K CA HBn hS12

  refine wpAnyK_only (i := 30) (m' := 2147483647) (by kernel_rfl) rfl (by kernel_rfl) fun K hK => ?_
  go_simp
  have hBr : Below v13.heap.size v13 (v13.alloc (.cells #[.int .i64 k1, .string n1, .slice a1 l1 c1, .int .i64 k2, .string n2, .slice a2 l2 c2, .int .i64 k3, .string n3, .slice a3 l3 c3, .int .i64 k4, .string n4, .slice a4 l4 c4, .int .i64 k5, .string n5, .slice a5 l5 c5, .int .i64 k7, .string n7, .slice a7 l7 c7, .int .i64 k8, .string n8, .slice a8 l8 c8, .int .i64 k9, .string n9, .slice a9 l9 c9, .int .i64 k10, .string n10, .slice a10 l10 c10, .int .i64 k12, .string n12, .slice a12 l12 c12, .int .i64 k13, .string n13, .slice a13 l13 c13] 24)) := (Below.refl _ _).alloc (Nat.le_refl _) _
  have hSr := HSS.out (v13.alloc (.cells #[.int .i64 k1, .string n1, .slice a1 l1 c1, .int .i64 k2, .string n2, .slice a2 l2 c2, .int .i64 k3, .string n3, .slice a3 l3 c3, .int .i64 k4, .string n4, .slice a4 l4 c4, .int .i64 k5, .string n5, .slice a5 l5 c5, .int .i64 k7, .string n7, .slice a7 l7 c7, .int .i64 k8, .string n8, .slice a8 l8 c8, .int .i64 k9, .string n9, .slice a9 l9 c9, .int .i64 k10, .string n10, .slice a10 l10 c10, .int .i64 k12, .string n12, .slice a12 l12 c12, .int .i64 k13, .string n13, .slice a13 l13 c13] 24)) (HBc.out.trans (hBr.mono HBc.out.size))
  refine hK.out _ _ (fun _ => hSr) ?_
  clear hK K
  refine wpAnyK_only (i := 31) (m' := 4294967295) (by kernel_rfl) rfl (by kernel_rfl) fun K hK => ?_
  go_simp
  refine hK.out _ _ (fun _ => hSr) ?_
  clear hK K
  refine wpAnyK_done (by kernel_rfl) ?_ _
  have hrow : RowP (v13.alloc (.cells #[.int .i64 k1, .string n1, .slice a1 l1 c1, .int .i64 k2, .string n2, .slice a2 l2 c2, .int .i64 k3, .string n3, .slice a3 l3 c3, .int .i64 k4, .string n4, .slice a4 l4 c4, .int .i64 k5, .string n5, .slice a5 l5 c5, .int .i64 k7, .string n7, .slice a7 l7 c7, .int .i64 k8, .string n8, .slice a8 l8 c8, .int .i64 k9, .string n9, .slice a9 l9 c9, .int .i64 k10, .string n10, .slice a10 l10 c10, .int .i64 k12, .string n12, .slice a12 l12 c12, .int .i64 k13, .string n13, .slice a13 l13 c13] 24)) (v13.alloc (.cells #[.int .i64 k1, .string n1, .slice a1 l1 c1, .int .i64 k2, .string n2, .slice a2 l2 c2, .int .i64 k3, .string n3, .slice a3 l3 c3, .int .i64 k4, .string n4, .slice a4 l4 c4, .int .i64 k5, .string n5, .slice a5 l5 c5, .int .i64 k7, .string n7, .slice a7 l7 c7, .int .i64 k8, .string n8, .slice a8 l8 c8, .int .i64 k9, .string n9, .slice a9 l9 c9, .int .i64 k10, .string n10, .slice a10 l10 c10, .int .i64 k12, .string n12, .slice a12 l12 c12, .int .i64 k13, .string n13, .slice a13 l13 c13] 24)).heap.size (TyAt (v13.alloc (.cells #[.int .i64 k1, .string n1, .slice a1 l1 c1, .int .i64 k2, .string n2, .slice a2 l2 c2, .int .i64 k3, .string n3, .slice a3 l3 c3, .int .i64 k4, .string n4, .slice a4 l4 c4, .int .i64 k5, .string n5, .slice a5 l5 c5, .int .i64 k7, .string n7, .slice a7 l7 c7, .int .i64 k8, .string n8, .slice a8 l8 c8, .int .i64 k9, .string n9, .slice a9 l9 c9, .int .i64 k10, .string n10, .slice a10 l10 c10, .int .i64 k12, .string n12, .slice a12 l12 c12, .int .i64 k13, .string n13, .slice a13 l13 c13] 24)) (v13.alloc (.cells #[.int .i64 k1, .string n1, .slice a1 l1 c1, .int .i64 k2, .string n2, .slice a2 l2 c2, .int .i64 k3, .string n3, .slice a3 l3 c3, .int .i64 k4, .string n4, .slice a4 l4 c4, .int .i64 k5, .string n5, .slice a5 l5 c5, .int .i64 k7, .string n7, .slice a7 l7 c7, .int .i64 k8, .string n8, .slice a8 l8 c8, .int .i64 k9, .string n9, .slice a9 l9 c9, .int .i64 k10, .string n10, .slice a10 l10 c10, .int .i64 k12, .string n12, .slice a12 l12 c12, .int .i64 k13, .string n13, .slice a13 l13 c13] 24)).heap.size 4) (.slice (some ⟨v13.heap.size, 0, none⟩) sizesT.length sizesT.length) sizesT := by
    refine row_of (cs := [.int .i64 k1, .string n1, .slice a1 l1 c1, .int .i64 k2, .string n2, .slice a2 l2 c2, .int .i64 k3, .string n3, .slice a3 l3 c3, .int .i64 k4, .string n4, .slice a4 l4 c4, .int .i64 k5, .string n5, .slice a5 l5 c5, .int .i64 k7, .string n7, .slice a7 l7 c7, .int .i64 k8, .string n8, .slice a8 l8 c8, .int .i64 k9, .string n9, .slice a9 l9 c9, .int .i64 k10, .string n10, .slice a10 l10 c10, .int .i64 k12, .string n12, .slice a12 l12 c12, .int .i64 k13, .string n13, .slice a13 l13 c13]) (new_blk _ _) (fun j hj => ?_) (by unfold sizesT; simp)
    have hj' : j < 11 := hj
    match j, hj' with
    | 0, _ => exact ⟨k1, n1, .slice a1 l1 c1, rfl, rfl, rfl, (by obtain ⟨_, _, _, _, _, _, q⟩ := (HT1.out.up.up.up.on hBr); exact q)⟩
    | 1, _ => exact ⟨k2, n2, .slice a2 l2 c2, rfl, rfl, rfl, (by obtain ⟨_, _, _, _, _, _, q⟩ := (HT2.out.up.up.on hBr); exact q)⟩
    | 2, _ => exact ⟨k3, n3, .slice a3 l3 c3, rfl, rfl, rfl, (by obtain ⟨_, _, _, _, _, _, q⟩ := (HT3.out.up.up.on hBr); exact q)⟩
    | 3, _ => exact ⟨k4, n4, .slice a4 l4 c4, rfl, rfl, rfl, (by obtain ⟨_, _, _, _, _, _, q⟩ := (HT4.out.up.on hBr); exact q)⟩
    | 4, _ => exact ⟨k5, n5, .slice a5 l5 c5, rfl, rfl, rfl, (by obtain ⟨_, _, _, _, _, _, q⟩ := (HT5.out.up.on hBr); exact q)⟩
    | 5, _ => exact ⟨k7, n7, .slice a7 l7 c7, rfl, rfl, rfl, (by obtain ⟨_, _, _, _, _, _, q⟩ := (HT7.out.on hBr); exact q)⟩
    | 6, _ => exact ⟨k8, n8, .slice a8 l8 c8, rfl, rfl, rfl, (by obtain ⟨_, _, _, _, _, _, q⟩ := (HT8.out.up.on hBr); exact q)⟩
    | 7, _ => exact ⟨k9, n9, .slice a9 l9 c9, rfl, rfl, rfl, (by obtain ⟨_, _, _, _, _, _, q⟩ := (HT9.out.up.on hBr); exact q)⟩
    | 8, _ => exact ⟨k10, n10, .slice a10 l10 c10, rfl, rfl, rfl, (by obtain ⟨_, _, _, _, _, _, q⟩ := (HT10.out.up.on hBr); exact q)⟩
    | 9, _ => exact ⟨k12, n12, .slice a12 l12 c12, rfl, rfl, rfl, (by obtain ⟨_, _, _, _, _, _, q⟩ := (HT12.out.on hBr); exact q)⟩
    | 10, _ => exact ⟨k13, n13, .slice a13 l13 c13, rfl, rfl, rfl, (by obtain ⟨_, _, _, _, _, _, q⟩ := (HT13.out.up.on hBr); exact q)⟩
  obtain ⟨G, hG⟩ : ∃ G, G = v13.heap.size := ⟨_, rfl⟩
  obtain ⟨Wr, hWr⟩ : ∃ Wr, Wr = v13.alloc (.cells #[.int .i64 k1, .string n1, .slice a1 l1 c1, .int .i64 k2, .string n2, .slice a2 l2 c2, .int .i64 k3, .string n3, .slice a3 l3 c3, .int .i64 k4, .string n4, .slice a4 l4 c4, .int .i64 k5, .string n5, .slice a5 l5 c5, .int .i64 k7, .string n7, .slice a7 l7 c7, .int .i64 k8, .string n8, .slice a8 l8 c8, .int .i64 k9, .string n9, .slice a9 l9 c9, .int .i64 k10, .string n10, .slice a10 l10 c10, .int .i64 k12, .string n12, .slice a12 l12 c12, .int .i64 k13, .string n13, .slice a13 l13 c13] 24) := ⟨_, rfl⟩
  rw [← hWr, ← hG] at hrow
  have HBr : Hid (Below w.heap.size w Wr) := by
    rw [hWr]
    exact (HB1.out.trans (HBc.out.mono HB1.out.size)).trans (hBr.mono (Nat.le_trans HB1.out.size HBc.out.size))
  obtain ⟨ad0, cap0, hsl, hcs⟩ := RowP.cells hrow
  obtain ⟨g0, o0, rfl, _, _, hel⟩ := hcs (by unfold sizesT; simp)
  simp only [Value.slice.injEq, Option.some.injEq, Addr.mk.injEq, and_true] at hsl
  obtain ⟨⟨rfl, rfl⟩, -, -⟩ := hsl
  have HEL : Hid (∀ wr : World, Below Wr.heap.size Wr wr → ∀ j (hj : j < 11), ∃ k n ad len cap, wr.cell? ⟨G, j * 3, none⟩ = some (.int .i64 k) ∧ wr.cell? ⟨G, j * 3 + 1, none⟩ = some (.string n) ∧ wr.cell? ⟨G, j * 3 + 2, none⟩ = some (.slice ad len cap) ∧ Calls Tryd.prog 8 #[.agg #[.int .i64 k, .string n, .slice ad len cap]] wr fun r w' => r = .returned (.tuple #[.int .i64 ((wantsL.getD j 0 : Nat) : Int), .int .i64 (if 0 < wantsL.getD j 0 then 0 else 140)]) ∧ Hid (Below wr.heap.size wr w')) := fun wr hwr j hj => by
    obtain ⟨k, n, ad, len, cap, h1, h2⟩ := hel j hj
    obtain ⟨q0, q1, q2⟩ := h1 wr hwr
    rw [Nat.zero_add] at q0 q1 q2
    obtain ⟨s1, s2⟩ := sizes_ok j hj
    have := size_all 3 _ _ wr (TyAt.below hwr hwr.size _ _ _ h2) s2
    rw [s1] at this
    exact ⟨k, n, ad, len, cap, q0, q1, q2, this⟩
  have HWL : Hid (∀ j, j < 11 → wantsL.getD j 0 ≤ 35) := fun j hj => by
    have h : (wantsL.all fun x => decide (x ≤ 35)) = true := by decide
    have hl : wantsL.length = 11 := rfl
    have := List.all_eq_true.1 h (wantsL.getD j 0) (by rw [List.getD_eq_getElem?_getD, List.getElem?_eq_getElem (by omega)]; exact List.getElem_mem _)
    simpa using this
  rw [← hWr, ← hG]
  clear hWr hG hrow hel hcs hSr hBr HSS HBc HB1 HT1 HT2 HT3 HT4 HT5 HT6 HT7 HT8 HT9 HT10 HT11 HT12 HT13
  generalize hgen : (0 : Nat) = zz at *
  subst hgen
  obtain ⟨Wq, hWq⟩ : ∃ Wq, Wq = Wr.alloc (.cells #[.int .i64 2, .int .i64 4, .int .i64 3, .int .i64 6, .int .i64 4, .int .i64 20, .int .i64 5, .int .i64 10, .int .i64 35, .int .i64 0, .int .i64 4] 3) := ⟨_, rfl⟩
  obtain ⟨H, hH⟩ : ∃ H, H = Wr.heap.size := ⟨_, rfl⟩
  have hBq : Below Wr.heap.size Wr Wq := by rw [hWq]; exact (Below.refl _ _).alloc (Nat.le_refl _) _
  have hHq : Wq.heap[H]? = some (.cells #[.int .i64 2, .int .i64 4, .int .i64 3, .int .i64 6, .int .i64 4, .int .i64 20, .int .i64 5, .int .i64 10, .int .i64 35, .int .i64 0, .int .i64 4] 3 (0, 0)) := by rw [hWq, hH]; exact new_blk _ _
  have HBq : Hid (Below Wr.heap.size Wr Wq) := hBq
  have HWC : Hid (∀ wr : World, Below Wq.heap.size Wq wr → ∀ j, j < 11 → wr.cell? ⟨H, j, none⟩ = some (.int .i64 ((wantsL.getD j 0 : Nat) : Int))) := fun wr hwr j hj => by
    have h := (hwr.block H (lt_heap hHq)).trans hHq
    match j, hj with
    | 0, _ => exact heap_cl h rfl
    | 1, _ => exact heap_cl h rfl
    | 2, _ => exact heap_cl h rfl
    | 3, _ => exact heap_cl h rfl
    | 4, _ => exact heap_cl h rfl
    | 5, _ => exact heap_cl h rfl
    | 6, _ => exact heap_cl h rfl
    | 7, _ => exact heap_cl h rfl
    | 8, _ => exact heap_cl h rfl
    | 9, _ => exact heap_cl h rfl
    | 10, _ => exact heap_cl h rfl
  clear hBq hHq
  go_upto_region 6 with fail
  rw [← hWq, ← hH]
  clear hWq hH
  go_upto_region 7 with fail
  go_loopw [6] (fun iv wr => ∃ j : Nat, j ≤ 11 ∧ iv = .int .i64 j ∧ Hid (Below Wq.heap.size Wq wr)) (fun iv _ => 11 - (intOf iv).toNat)
  case atStart => exact ⟨0, by omega, by go_num, Below.refl _ _⟩
  case round =>
    obtain ⟨j, hj, rfl, HB⟩ := hrel
    by_cases hjl : j < 11
    · obtain ⟨k, n, ad, len, cap, q0, q1, q2, CS⟩ := HEL.out wr (HBq.out.trans (HB.out.mono HBq.out.size)) j hjl
      have HQ3 : Hid (∀ w2 : World, Below Wq.heap.size Wq w2 → w2.cell? ⟨H, j, none⟩ = some (.int .i64 ((wantsL.getD j 0 : Nat) : Int))) := fun w2 h2 => HWC.out w2 h2 j hjl
      have hsz := HWL.out j hjl
      have i1 : (0 : Int) ≤ (j : Int) := by omega
      have i2 : (j : Int) < 11 := by omega
      clear HEL HWC HWL
      generalize wantsL.getD j 0 = sz at *
      by_cases hz : 0 < sz
      · rw [if_pos hz] at CS
        have i3 : (sz : Int) > 0 := by omega
        clear hz
        go_upto_region 10 with (first | (go_at_call 8; (with_reducible refine Calls.mono CS ?_); rintro e' w2 ⟨rfl, HB2⟩))
        have HB3 : Hid (Below Wq.heap.size Wq w2) := HB.out.trans (HB2.out.mono HB.out.size)
        have q3 := HQ3.out w2 HB3.out
        clear q0 q1 q2 CS HB HB2 HQ3
        go_wp2
        go_roundw
        case rel => exact ⟨j + 1, hjl, by go_num, HB3.out⟩
        case measure => simp [intOf]; omega
      · rw [if_neg hz] at CS
        obtain rfl : sz = 0 := by omega
        clear hz
        go_upto_region 10 with (first | (go_at_call 8; (with_reducible refine Calls.mono CS ?_); rintro e' w2 ⟨rfl, HB2⟩))
        have HB3 : Hid (Below Wq.heap.size Wq w2) := HB.out.trans (HB2.out.mono HB.out.size)
        have q3 : w2.cell? ⟨H, j, none⟩ = some (.int .i64 0) := HQ3.out w2 HB3.out
        clear q0 q1 q2 CS HB HB2 HQ3
        go_wp2
        go_roundw
        case rel => exact ⟨j + 1, hjl, by go_num, HB3.out⟩
        case measure => simp [intOf]; omega
    · obtain rfl : j = 11 := by omega
      go_wp2
      go_ret
      exact ⟨rfl, HBr.out.trans ((HBq.out.trans (HB.out.mono HBq.out.size)).mono HBr.out.size)⟩
end Go.Proofs.YtgdflaapgfpdeaaDoor
