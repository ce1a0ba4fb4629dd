/- The document's numbers: what is wrong with the numbers of a code. -/
import Derived.Test.YtlpnegnpejpdkaaGreatDoorMdx
import Derived.Test.YtlpnegnpejpdkaaGreatDoorKz
namespace Go.Proofs.YtlpnegnpejpdkaaGreatDoor
open Go.RowKit

theorem numP_gen (ns ng len i : Nat) (op a b : Int) : numP ns ng len i (op, a, b) = if numbersP ns ng op a b = false then 172 else if jumpsR op = true ∧ (targetR op a b ≤ (i : Int) ∨ (len : Int) ≤ targetR op a b) then 174 else 0 := by
  unfold numP
  by_cases hn : numbersP ns ng op a b = false
  · rw [if_pos hn, if_pos (by unfold numbersP at hn; exact hn)]
  · rw [if_neg hn, if_neg (by unfold numbersP at hn; exact hn)]
    have ho : isOpP op = true := by
      unfold numbersP at hn
      simp only [Bool.not_eq_false, Bool.and_eq_true] at hn
      exact hn.1.1
    obtain ⟨o1, o2⟩ := op_range ho
    clear hn ho
    have hop : op = 1 ∨ op = 2 ∨ op = 3 ∨ op = 4 ∨ op = 5 ∨ op = 6 ∨ op = 7 ∨ op = 8 ∨ op = 9 ∨ op = 10 ∨ op = 11 ∨ op = 12 ∨ op = 13 ∨ op = 14 ∨ op = 15 ∨ op = 16 ∨ op = 17 := by omega
    clear o1 o2
    rcases hop with rfl | rfl | rfl | rfl | rfl | rfl | rfl | rfl | rfl | rfl | rfl | rfl | rfl | rfl | rfl | rfl | rfl <;> simp [targetP, kindA, kindB, kindsP, jumpsR, targetR]
/-- What numbers answers. -/
def numbersR (ns ng : Nat) (code : List Ins) : Int := if code = [] then 174 else numsP ns ng code.length 0 code
set_option maxHeartbeats 16000000 in
set_option maxRecDepth 10000 in
theorem numbers_ref {w : World} {sa ga ca : Option Addr} {ns sc ng gc n cc : Nat} {code : List Ins} (hn : n = code.length) (hn2 : n < 140737488355328) (hc : RowE EIns w (fun y => y < w.heap.size) (fun _ => False) (.slice ca n cc) code) :
    Calls Tryz.prog 34 #[.agg #[.slice sa ns sc, .slice ga ng gc], .slice ca n cc] w fun r w' => r = .returned (.int .i64 (numbersR ns ng code)) ∧ Hid (Below w.heap.size w w') := by
  have HN : Hid (n = code.length) := hn
  obtain ⟨X, hX⟩ : ∃ X, X = w.heap.size := ⟨_, rfl⟩
  obtain ⟨W, hW⟩ : ∃ W, W = w.alloc (.cells #[.slice sa ns sc, .slice ga ng gc] 25) := ⟨_, rfl⟩
  have hBW : Below w.heap.size w W := by rw [hW]; exact (Below.refl _ _).alloc (Nat.le_refl _) _
  have hXW : W.heap[X]? = some (.cells #[.slice sa ns sc, .slice ga ng gc] 25 (0, 0)) := by rw [hW, hX]; exact new_blk _ _
  have HC : Hid (∀ w2, Below W.heap.size W w2 → (w2.cell? ⟨X, 0, none⟩ = some (.slice sa ns sc) ∧ w2.cell? ⟨X, 1, none⟩ = some (.slice ga ng gc)) ∧ Below w.heap.size w w2 ∧ ∀ i (hi : i < code.length), ∃ g o, ca = some ⟨g, o, none⟩ ∧ n ≤ cc ∧ w2.cell? ⟨g, o + i * 3, none⟩ = some (.int .i64 code[i].1) ∧ w2.cell? ⟨g, o + i * 3 + 1, none⟩ = some (.int .i64 code[i].2.1) ∧ w2.cell? ⟨g, o + i * 3 + 2, none⟩ = some (.int .i64 code[i].2.2)) := fun w2 hb => by
    have hb0 := hBW.trans (hb.mono hBW.size)
    refine ⟨⟨heap_cl ((hb.block X (lt_heap hXW)).trans hXW) rfl, heap_cl ((hb.block X (lt_heap hXW)).trans hXW) rfl⟩, hb0, fun i hi => ?_⟩
    obtain ⟨ad, cap, e, hh⟩ := ins_at (hc.on (Keeps.of hb0 fun _ h => h) (fun _ h => h.elim) (fun _ h => h) fun _ h => h)
    obtain ⟨rfl, -, rfl⟩ := Value.slice.inj e
    obtain ⟨g, o, q1, _, q2, q3, q4, q5⟩ := hh i hi
    exact ⟨g, o, q1, by omega, q3, q4, q5⟩
  have HXE : Hid (X = w.heap.size) := hX
  obtain ⟨R, hR⟩ : ∃ R, R = numbersR ns ng code := ⟨_, rfl⟩
  rw [← hR]
  have HR0 : Hid (n = 0 → R = 174) := fun h => by
    rw [hR]
    unfold numbersR
    rw [if_pos (List.length_eq_zero_iff.1 (by omega))]
  have HR1 : Hid (¬ n = 0 → R = numsP ns ng n 0 (code.drop 0)) := fun h => by
    rw [hR]
    unfold numbersR
    rw [if_neg (fun e => h (by rw [hn, e]; rfl)), hn]
    rfl
  obtain ⟨R1, hR1⟩ : ∃ R, R = numsP ns ng n 0 (code.drop 0) := ⟨_, rfl⟩
  rw [← hR1] at HR1
  have HT0 : Hid (numsP ns ng n 0 (code.drop 0) = R1) := hR1.symm
  clear hX hXW hBW hR hR1 hc hn
  go_enter Tryz.func34, Tryz.ntmps34
  go_upto_region 1 with fail
  rw [← hW, ← HXE.out]
  clear hW
  go_upto_region 2 with fail
  go_loopw [5] (fun iv wr => ∃ i : Nat, i ≤ n ∧ iv = .int .i64 i ∧ Hid (Below W.heap.size W wr) ∧ Hid (numsP ns ng n i (code.drop i) = R1)) (fun iv _ => n - (intOf iv).toNat)
  case atStart => exact ⟨0, by omega, by go_num, Below.refl _ _, HT0.out⟩
  case round =>
    clear HT0
    obtain ⟨i, hi, rfl, HB, HT⟩ := hrel
    by_cases hin : i < n
    · have hic : i < code.length := by have := HN.out; omega
      have hn0 : ¬ n = 0 := by omega
      have HRR : Hid (R = R1) := HR1.out hn0
      have i1 : (0 : Int) ≤ (i : Int) := by omega
      have i2 : (i : Int) < (n : Int) := by omega
      obtain ⟨⟨op, a, b⟩, hx⟩ : ∃ x, x = code[i] := ⟨_, rfl⟩
      have HST : Hid ((if numP ns ng n i (op, a, b) = 0 then numsP ns ng n (i + 1) (code.drop (i + 1)) else numP ns ng n i (op, a, b)) = R1) := by
        show _ = _
        rw [← HT.out, List.drop_eq_getElem_cons hic, hx]
        rfl
      have HNP : Hid (numP ns ng n i (op, a, b) = if numbersP ns ng op a b = false then 172 else if jumpsR op = true ∧ (targetR op a b ≤ (i : Int) ∨ (n : Int) ≤ targetR op a b) then 174 else 0) := numP_gen _ _ _ _ _ _ _
      obtain ⟨D, hD⟩ : ∃ D : World, D = wr.drew := ⟨_, rfl⟩
      have HBD : Hid (Below W.heap.size W D) := by rw [hD]; exact HB.out.drew
      obtain ⟨⟨x0, x1⟩, hw1, hrow⟩ := HC.out D HBD.out
      obtain ⟨g, o, rfl, hcc, c0, c1, c2⟩ := hrow i hic
      rw [← hx] at c0 c1 c2
      simp only at c0 c1 c2
      have HX : Hid ((op, a, b) = code[i]) := hx
      clear HT hrow hw1 hx HR0 HR1
      go_upto_region 4 with fail
      have hS0 : (fun w' : World => w'.cell? ⟨X, 0, none⟩ = some (.slice sa ns sc) ∧ w'.cell? ⟨X, 1, none⟩ = some (.slice ga ng gc) ∧ w'.cell? ⟨g, o + i * 3, none⟩ = some (.int .i64 op) ∧ w'.cell? ⟨g, o + i * 3 + 1, none⟩ = some (.int .i64 a) ∧ w'.cell? ⟨g, o + i * 3 + 2, none⟩ = some (.int .i64 b)) D := ⟨x0, x1, c0, c1, c2⟩
      refine wp_region_M (S := (fun w' : World => w'.cell? ⟨X, 0, none⟩ = some (.slice sa ns sc) ∧ w'.cell? ⟨X, 1, none⟩ = some (.slice ga ng gc) ∧ w'.cell? ⟨g, o + i * 3, none⟩ = some (.int .i64 op) ∧ w'.cell? ⟨g, o + i * 3 + 1, none⟩ = some (.int .i64 a) ∧ w'.cell? ⟨g, o + i * 3 + 2, none⟩ = some (.int .i64 b))) (L := 100) (n := 7) (by kernel_rfl) rfl (by kernel_rfl) ?_
      rw [← hD]
      clear hD x0 x1 c0 c1 c2
      refine wpAnyK_go (i := 0) (m' := 1) (some 15) (v := .agg #[.slice sa ns sc, .slice ga ng gc]) rfl rfl (by kernel_rfl) (by kernel_rfl) (by kernel_rfl) (by kernel_rfl) (by kernel_rfl) (fun _ _ _ h => h) (Or.inl ⟨by rfl, ?_⟩) hS0 ?_
      · intro w' hSw
        obtain ⟨p1, p2, p3, p4, p5⟩ := hSw
        go_simp
      simp only [Act.put, List.setIfInBounds_toArray, List.set_cons_zero, List.set_cons_succ]
      refine wpAnyK_go (i := 1) (m' := 3) (some 16) (v := .slice (some ⟨g, o, none⟩) n cc) rfl rfl (by kernel_rfl) (by kernel_rfl) (by kernel_rfl) (by kernel_rfl) (by kernel_rfl) (fun _ _ _ h => h) (Or.inl ⟨by rfl, ?_⟩) hS0 ?_
      · intro w' hSw
        go_simp
      simp only [Act.put, List.setIfInBounds_toArray, List.set_cons_zero, List.set_cons_succ]
      refine wpAnyK_go (i := 2) (m' := 7) (some 17) (v := .int .i64 (i : Int)) rfl rfl (by kernel_rfl) (by kernel_rfl) (by kernel_rfl) (by kernel_rfl) (by kernel_rfl) (fun _ _ _ h => h) (Or.inl ⟨by rfl, ?_⟩) hS0 ?_
      · intro w' hSw
        go_simp
      simp only [Act.put, List.setIfInBounds_toArray, List.set_cons_zero, List.set_cons_succ]
      refine wpAnyK_go (i := 3) (m' := 15) (some 18) (v := .pointer (some ⟨g, o + i * 3, none⟩)) rfl rfl (by kernel_rfl) (by kernel_rfl) (by kernel_rfl) (by kernel_rfl) (by kernel_rfl) (fun _ _ _ h => h) (Or.inl ⟨by rfl, ?_⟩) hS0 ?_
      · intro w' hSw
        go_simp
      simp only [Act.put, List.setIfInBounds_toArray, List.set_cons_zero, List.set_cons_succ]
      refine wpAnyK_go (i := 4) (m' := 31) (some 19) (v := .agg #[.int .i64 op, .int .i64 a, .int .i64 b]) rfl rfl (by kernel_rfl) (by kernel_rfl) (by kernel_rfl) (by kernel_rfl) (by kernel_rfl) (fun _ _ _ h => h) (Or.inl ⟨by rfl, ?_⟩) hS0 ?_
      · intro w' hSw
        obtain ⟨p1, p2, p3, p4, p5⟩ := hSw
        go_simp
      simp only [Act.put, List.setIfInBounds_toArray, List.set_cons_zero, List.set_cons_succ]
      refine wpAnyK_only (i := 5) (m' := 63) (by kernel_rfl) rfl (by kernel_rfl) fun K hK => ?_
      have CN := fun W => numbers_gen (w := W) (sa := sa) (ga := ga) (ns := ns) (sc := sc) (ng := ng) (gc := gc) (op := op) (a := a) (b := b)
      go_simp
      (with_reducible refine Calls.mono (CN _) ?_)
      rintro e5 w5 ⟨rfl, H5⟩
      go_simp
      have HB5 : Hid (Below W.heap.size W w5) := HBD.out.trans (H5.out.mono HBD.out.size)
      have hS5 : (fun w' : World => w'.cell? ⟨X, 0, none⟩ = some (.slice sa ns sc) ∧ w'.cell? ⟨X, 1, none⟩ = some (.slice ga ng gc) ∧ w'.cell? ⟨g, o + i * 3, none⟩ = some (.int .i64 op) ∧ w'.cell? ⟨g, o + i * 3 + 1, none⟩ = some (.int .i64 a) ∧ w'.cell? ⟨g, o + i * 3 + 2, none⟩ = some (.int .i64 b)) w5 := by
        obtain ⟨p1, p2, p3, p4, p5⟩ := hS0
        exact ⟨(H5.out.cell (World.block_lt_of_cell? _ _ p1)).trans p1, (H5.out.cell (World.block_lt_of_cell? _ _ p2)).trans p2, (H5.out.cell (World.block_lt_of_cell? _ _ p3)).trans p3, (H5.out.cell (World.block_lt_of_cell? _ _ p4)).trans p4, (H5.out.cell (World.block_lt_of_cell? _ _ p5)).trans p5⟩
      refine hK.out _ _ (fun _ => hS5) ?_
      clear hK K CN hS0 HBD H5
      try simp only [Act.put, List.setIfInBounds_toArray, List.set_cons_zero, List.set_cons_succ]
      refine wpAnyK_only (i := 6) (m' := 127) (by kernel_rfl) rfl (by kernel_rfl) fun K hK => ?_
      go_simp
      refine hK.out _ _ (fun _ => hS5) ?_
      clear hK K
      try simp only [Act.put, List.setIfInBounds_toArray, List.set_cons_zero, List.set_cons_succ]
      refine wpAnyK_done (by kernel_rfl) ?_ _
      rename_i K6 a6
      refine a6 _ _ ?_
      clear a6 K6
      obtain ⟨_, _, c0, c1, c2⟩ := hS5
      have HBW5 : Hid (Below w.heap.size w w5) := (HC.out w5 HB5.out).2.1
      by_cases hok : numbersP ns ng op a b = true
      case neg =>
        have hok' : numbersP ns ng op a b = false := by simpa using hok
        have HE : Hid (R = 172) := by
          have h1 := HNP.out
          rw [if_pos hok'] at h1
          have h2 := HST.out
          rw [h1, if_neg (by decide)] at h2
          show R = 172
          rw [HRR.out, ← h2]
        clear HST HNP HRR hok
        rw [hok']
        go_wp2
        go_ret
        exact ⟨by rw [HE.out]; rfl, HBW5.out⟩
      have HNP2 : Hid (numP ns ng n i (op, a, b) = if jumpsR op = true ∧ (targetR op a b ≤ (i : Int) ∨ (n : Int) ≤ targetR op a b) then 174 else 0) := by
        have h1 := HNP.out
        rw [if_neg (by rw [hok]; decide)] at h1
        exact h1
      rw [hok]
      clear HNP hok
      have CJ := jumps_gen (w := w5) (op := op) (a := a) (b := b)
      go_upto_region 8 with (go_at_call 73; (with_reducible refine Calls.mono CJ ?_); rintro e7 w7 ⟨rfl, H7⟩)
      have HB7 : Hid (Below W.heap.size W w7) := HB5.out.trans (H7.out.mono HB5.out.size)
      clear CJ H7 c0 c1 c2 HBW5 HB5
      obtain ⟨_, HW7, hrow⟩ := HC.out w7 HB7.out
      obtain ⟨g', o', eg, _, c0, c1, c2⟩ := hrow i hic
      simp only [Option.some.injEq, Addr.mk.injEq, and_true] at eg
      obtain ⟨rfl, rfl⟩ := eg
      rw [← HX.out] at c0 c1 c2
      simp only at c0 c1 c2
      have CT := target_gen (w := w7) (op := op) (a := a) (b := b)
      clear hrow HW7
      go_upto_region 9 with (go_at_call 74; (with_reducible refine Calls.mono CT ?_); rintro e8 w8 ⟨rfl, H8⟩)
      have HB8 : Hid (Below W.heap.size W w8) := HB7.out.trans (H8.out.mono HB7.out.size)
      have HW8 : Hid (Below w.heap.size w w8) := (HC.out w8 HB8.out).2.1
      clear CT H8 c0 c1 c2 HB7
      generalize targetR op a b = to at *
      generalize jumpsR op = jb at *
      by_cases hbad : jb = true ∧ (to ≤ (i : Int) ∨ (n : Int) ≤ to)
      · have HE : Hid (R = 174) := by
          have h1 := HNP2.out
          rw [if_pos hbad] at h1
          have h2 := HST.out
          rw [h1, if_neg (by decide)] at h2
          show R = 174
          rw [HRR.out, ← h2]
        obtain ⟨rfl, hb2⟩ := hbad
        clear HST HNP2 HRR
        rcases hb2 with h3 | h3
        · go_wp2
          go_ret
          exact ⟨by rw [HE.out]; rfl, HW8.out⟩
        · have h4 : to ≥ (n : Int) := h3
          have h5 : ¬ to ≤ (i : Int) := by omega
          go_wp2
          go_ret
          exact ⟨by rw [HE.out]; rfl, HW8.out⟩
      · have HT2 : Hid (numsP ns ng n (i + 1) (code.drop (i + 1)) = R1) := by
          have h1 := HNP2.out
          rw [if_neg hbad] at h1
          have h2 := HST.out
          rw [h1, if_pos rfl] at h2
          exact h2
        have hjb : jb = false ∨ (jb = true ∧ ¬ to ≤ (i : Int) ∧ ¬ to ≥ (n : Int)) := by
          cases jb with
          | false => exact Or.inl rfl
          | true =>
            refine Or.inr ⟨rfl, fun h => hbad ⟨rfl, Or.inl h⟩, fun h => hbad ⟨rfl, Or.inr h⟩⟩
        clear HST HNP2 hbad
        rcases hjb with rfl | ⟨rfl, h3, h4⟩
        all_goals
          go_wp2
          go_roundw
          case rel => exact ⟨i + 1, hin, by go_num, HB8.out, HT2.out⟩
          case measure => simp [intOf]; omega
    · have hie : i = n := by omega
      have hw := (HC.out wr HB.out).2.1
      have HBW : Hid (Below w.heap.size w wr) := hw
      have e3 : ¬ ((i : Int) < (n : Int)) := by omega
      by_cases hn0 : n = 0
      · have HE : Hid (R = 174) := HR0.out hn0
        have e4 : ((n : Int) == 0) = true := by simp [hn0]
        clear HT HR0 HR1 hw
        go_wp2
        go_ret
        exact ⟨by rw [HE.out]; rfl, HBW.out⟩
      · have HE : Hid (R = 0) := by
          show R = 0
          rw [HR1.out hn0, ← HT.out, List.drop_eq_nil_of_le (by have := HN.out; omega)]
          rfl
        have e4 : ((n : Int) == 0) = false := by simpa using hn0
        clear HT HR0 HR1 hw
        go_wp2
        go_ret
        exact ⟨by rw [HE.out]; rfl, HBW.out⟩
end Go.Proofs.YtlpnegnpejpdkaaGreatDoor
