/- The law's same and asked. Rows of numbers of whatever sign that are made, grown and written over. append of rows of numbers that came in, however long. LatticeAnswers answers true, as far as the row of results is made. Rows of slices as they are, and families of rows of numbers in blocks of their own. append of one slice to a row of slices. edged's two rows of rows. edged: what holds between the rounds of its first loop. -/
import Derived.Test.YtgdflaapgfpdeaaGreatDoorDe
namespace Go.Proofs.YtgdflaapgfpdeaaGreatDoor
open Go.RowKit

theorem zts_get {l : List Int} {i : Nat} (h : i < l.length) : l[i] = l.getD i 0 := by simp [List.getD, h]
theorem ints_eq {l m : List Int} (h : l.length = m.length) : (∀ p, p < l.length → l.getD p 0 = m.getD p 0) ↔ l = m := by
  constructor
  · intro h2
    refine List.ext_getElem h fun p h3 h4 => ?_
    rw [zts_get h3, zts_get h4]
    exact h2 p h3
  · rintro rfl p _
    rfl
set_option maxHeartbeats 16000000 in
set_option maxRecDepth 10000 in
theorem same_rows {w : World} {u v : Value} {l m : List Int} (hu : Zts w u l) (hv : Zts w v m) (hl : l.length ≤ 1000000000000000) :
    Calls Tryz.prog 10 #[u, v] w fun r w' => r = .returned (.bool (decide (l = m))) ∧ Hid (Below w.heap.size w w') := by
  obtain ⟨au, ca, rfl, HU⟩ := hu
  obtain ⟨av, cb, rfl, HV⟩ := hv
  have HUU : Hid (∀ i (h : i < l.length), ∃ g o, au = some ⟨g, o, none⟩ ∧ l.length ≤ ca ∧ ∀ wr, Below w.heap.size w wr → wr.cell? ⟨g, o + i, none⟩ = some (.int .i64 (l.getD i 0))) := fun i h => by
    obtain ⟨g, o, a1, a2, a3, a4⟩ := HU i h
    exact ⟨g, o, a1, a2, fun wr hb => by rw [hb.cell (p := ⟨g, o + i, none⟩) a3, a4, zts_get h]⟩
  have HVV : Hid (∀ i (h : i < m.length), ∃ g o, av = some ⟨g, o, none⟩ ∧ m.length ≤ cb ∧ ∀ wr, Below w.heap.size w wr → wr.cell? ⟨g, o + i, none⟩ = some (.int .i64 (m.getD i 0))) := fun i h => by
    obtain ⟨g, o, a1, a2, a3, a4⟩ := HV i h
    exact ⟨g, o, a1, a2, fun wr hb => by rw [hb.cell (p := ⟨g, o + i, none⟩) a3, a4, zts_get h]⟩
  clear HU HV
  go_enter Tryz.func10, Tryz.ntmps10
  by_cases hlm : l.length = m.length
  · have i0 : ((l.length : Int) != (m.length : Int)) = false := by simp [hlm]
    have HQ := ints_eq hlm
    replace HQ : Hid ((∀ p, p < l.length → l.getD p 0 = m.getD p 0) ↔ l = m) := HQ
    go_upto_region 4 with fail
    go_loopw [5] (fun iv wr => ∃ i : Nat, i ≤ l.length ∧ iv = .int .i64 i ∧ Hid (Below w.heap.size w wr) ∧ Hid (∀ p, p < i → l.getD p 0 = m.getD p 0)) (fun iv _ => l.length - (intOf iv).toNat)
    case atStart => exact ⟨0, by omega, by go_num, Below.refl _ _, fun p h => by omega⟩
    case round =>
      obtain ⟨i, hi, rfl, HB, HI⟩ := hrel
      by_cases hil : i < l.length
      · have i1 : (0 : Int) ≤ (i : Int) := by omega
        have i2 : (i : Int) < (l.length : Int) := by omega
        have i3 : (i : Int) < (m.length : Int) := by omega
        obtain ⟨g1, o1, rfl, hc1, r1⟩ := HUU.out i hil
        obtain ⟨g2, o2, rfl, hc2, r2⟩ := HVV.out i (by omega)
        have s1 := r1 wr.drew HB.out.drew
        have s2 := r2 wr.drew HB.out.drew
        have HST : Hid (∀ bq, (l.getD i 0 != m.getD i 0) = bq → (bq = false → ∀ p, p < i + 1 → l.getD p 0 = m.getD p 0) ∧ (bq = true → l ≠ m)) := fun bq hb => ⟨fun hq p hp => by
          rcases Nat.lt_succ_iff_lt_or_eq.1 hp with h3 | rfl
          · exact HI.out p h3
          · rw [hq] at hb
            simpa using hb, fun hq e => by
          rw [hq] at hb
          have := HQ.out.2 e i hil
          rw [this] at hb
          simp at hb⟩
        obtain ⟨xa, hxa⟩ : ∃ xa, xa = l.getD i 0 := ⟨_, rfl⟩
        obtain ⟨xb, hxb⟩ : ∃ xb, xb = m.getD i 0 := ⟨_, rfl⟩
        rw [← hxa] at s1 HST
        rw [← hxb] at s2 HST
        obtain ⟨bq, hbq⟩ : ∃ bq, (xa != xb) = bq := ⟨_, rfl⟩
        have HS2 := HST.out bq hbq
        replace HS2 : Hid ((bq = false → ∀ p, p < i + 1 → l.getD p 0 = m.getD p 0) ∧ (bq = true → l ≠ m)) := HS2
        have hS0 : (fun w' : World => w'.cell? ⟨g1, o1 + i, none⟩ = some (.int .i64 xa) ∧ w'.cell? ⟨g2, o2 + i, none⟩ = some (.int .i64 xb)) wr.drew := ⟨s1, s2⟩
        clear s1 s2 r1 r2 hxa hxb HST
        go_upto_region 6 with fail
        refine wp_region_M (S := (fun w' : World => w'.cell? ⟨g1, o1 + i, none⟩ = some (.int .i64 xa) ∧ w'.cell? ⟨g2, o2 + i, none⟩ = some (.int .i64 xb))) (L := 9) (n := 9) (by kernel_rfl) rfl (by kernel_rfl) ?_
        replace HB : Hid (Below w.heap.size w wr.drew) := HB.out.drew
        generalize wr.drew = w8 at *
        refine wpAnyK_go (i := 0) (m' := 1) (some 17) (v := .slice (some ⟨g1, o1, none⟩) l.length ca) rfl rfl (by kernel_rfl) (by kernel_rfl) (by kernel_rfl) (by kernel_rfl) (by kernel_rfl) (fun _ _ _ h => h) (Or.inl ⟨by rfl, ?_⟩) hS0 ?_
        · intro w' hSw
          go_simp
        simp only [Act.put, List.setIfInBounds_toArray, List.set_cons_zero, List.set_cons_succ]
        refine wpAnyK_go (i := 1) (m' := 3) (some 18) (v := .int .i64 (i : Int)) rfl rfl (by kernel_rfl) (by kernel_rfl) (by kernel_rfl) (by kernel_rfl) (by kernel_rfl) (fun _ _ _ h => h) (Or.inl ⟨by rfl, ?_⟩) hS0 ?_
        · intro w' hSw
          go_simp
        simp only [Act.put, List.setIfInBounds_toArray, List.set_cons_zero, List.set_cons_succ]
        refine wpAnyK_go (i := 2) (m' := 7) (some 19) (v := .pointer (some ⟨g1, o1 + i, none⟩)) rfl rfl (by kernel_rfl) (by kernel_rfl) (by kernel_rfl) (by kernel_rfl) (by kernel_rfl) (fun _ _ _ h => h) (Or.inl ⟨by rfl, ?_⟩) hS0 ?_
        · intro w' hSw
          go_simp
        simp only [Act.put, List.setIfInBounds_toArray, List.set_cons_zero, List.set_cons_succ]
        refine wpAnyK_go (i := 3) (m' := 15) (some 20) (v := .int .i64 xa) rfl rfl (by kernel_rfl) (by kernel_rfl) (by kernel_rfl) (by kernel_rfl) (by kernel_rfl) (fun _ _ _ h => h) (Or.inl ⟨by rfl, ?_⟩) hS0 ?_
        · intro w' hSw
          obtain ⟨s1, s2⟩ := hSw
          go_simp
        simp only [Act.put, List.setIfInBounds_toArray, List.set_cons_zero, List.set_cons_succ]
        refine wpAnyK_go (i := 4) (m' := 31) (some 21) (v := .slice (some ⟨g2, o2, none⟩) m.length cb) rfl rfl (by kernel_rfl) (by kernel_rfl) (by kernel_rfl) (by kernel_rfl) (by kernel_rfl) (fun _ _ _ h => h) (Or.inl ⟨by rfl, ?_⟩) hS0 ?_
        · intro w' hSw
          go_simp
        simp only [Act.put, List.setIfInBounds_toArray, List.set_cons_zero, List.set_cons_succ]
        refine wpAnyK_go (i := 5) (m' := 63) (some 22) (v := .int .i64 (i : Int)) rfl rfl (by kernel_rfl) (by kernel_rfl) (by kernel_rfl) (by kernel_rfl) (by kernel_rfl) (fun _ _ _ h => h) (Or.inl ⟨by rfl, ?_⟩) hS0 ?_
        · intro w' hSw
          go_simp
        simp only [Act.put, List.setIfInBounds_toArray, List.set_cons_zero, List.set_cons_succ]
        refine wpAnyK_go (i := 6) (m' := 127) (some 23) (v := .pointer (some ⟨g2, o2 + i, none⟩)) rfl rfl (by kernel_rfl) (by kernel_rfl) (by kernel_rfl) (by kernel_rfl) (by kernel_rfl) (fun _ _ _ h => h) (Or.inl ⟨by rfl, ?_⟩) hS0 ?_
        · intro w' hSw
          go_simp
        simp only [Act.put, List.setIfInBounds_toArray, List.set_cons_zero, List.set_cons_succ]
        refine wpAnyK_go (i := 7) (m' := 255) (some 24) (v := .int .i64 xb) rfl rfl (by kernel_rfl) (by kernel_rfl) (by kernel_rfl) (by kernel_rfl) (by kernel_rfl) (fun _ _ _ h => h) (Or.inl ⟨by rfl, ?_⟩) hS0 ?_
        · intro w' hSw
          obtain ⟨s1, s2⟩ := hSw
          go_simp
        simp only [Act.put, List.setIfInBounds_toArray, List.set_cons_zero, List.set_cons_succ]
        refine wpAnyK_go (i := 8) (m' := 511) (some 25) (v := .bool bq) rfl rfl (by kernel_rfl) (by kernel_rfl) (by kernel_rfl) (by kernel_rfl) (by kernel_rfl) (fun _ _ _ h => h) (Or.inl ⟨by rfl, ?_⟩) hS0 ?_
        · intro w' hSw
          go_simp
        simp only [Act.put, List.setIfInBounds_toArray, List.set_cons_zero, List.set_cons_succ]
        refine wpAnyK_done (by kernel_rfl) ?_ _
        clear hS0
        cases bq with
        | true =>
          have HE : Hid (l ≠ m) := HS2.out.2 rfl
          go_wp2
          refine bodyPost_ret (v := .bool false) (by simp [results, Tryz.results10, go_sem]) rfl ?_
          exact ⟨by rw [decide_eq_false HE.out], HB.out⟩
        | false =>
          have HF : Hid (∀ p, p < i + 1 → l.getD p 0 = m.getD p 0) := HS2.out.1 rfl
          go_wp2
          go_roundw
          case rel => exact ⟨i + 1, hil, by go_num, HB.out, HF.out⟩
          case measure => simp [intOf]; omega
      · obtain rfl : i = l.length := by omega
        have e3 : ¬ ((l.length : Int) < (l.length : Int)) := by omega
        have HE : Hid (l = m) := HQ.out.1 HI.out
        clear i0
        go_wp2
        refine bodyPost_ret (v := .bool true) (by simp [results, Tryz.results10, go_sem]) rfl ?_
        exact ⟨by rw [decide_eq_true HE.out], HB.out⟩
  · have i0 : ((l.length : Int) != (m.length : Int)) = true := by simp; omega
    have HE : Hid (l ≠ m) := fun e => hlm (by rw [e])
    go_wp2
    refine bodyPost_ret (v := .bool false) (by simp [results, Tryz.results10, go_sem]) rfl ?_
    exact ⟨by rw [decide_eq_false HE.out], Below.refl _ _⟩
set_option maxHeartbeats 16000000 in
set_option maxRecDepth 10000 in
theorem asked_any (d : Nat) (x : Value) (t : Tn (d + 1)) (w : World) (hx : TyAt w w.heap.size (d + 1) x t) (hN : (flat (d + 1) t).length ≤ 4194304) (hT : ∀ w', Below w.heap.size w w' → TabAt 0 Lib.deBruijn64tab w') (a b : Int) :
    Calls Tryz.prog 7 #[x, .int .i64 a, .int .i64 b] w fun r w' => r = .returned (.bool true) ∧ Hid (Below w.heap.size w w') := by
  have HX : Hid (TyAt w w.heap.size (d + 1) x t) := hx
  obtain ⟨u, rfl, hn1, hn2, hrow⟩ := hx
  obtain ⟨ad, cap, rfl⟩ := hrow.len
  obtain ⟨X, hX⟩ : ∃ X, X = w.heap.size := ⟨_, rfl⟩
  obtain ⟨W, hW⟩ : ∃ W, W = w.alloc (.cells #[.int .i64 t.1.1, .string ⟨t.1.2.toArray⟩, .slice ad t.2.length cap] 24) := ⟨_, rfl⟩
  have hBW : Below w.heap.size w W := by rw [hW]; exact (Below.refl _ _).alloc (Nat.le_refl _) _
  have hXW : W.heap[X]? = some (.cells #[.int .i64 t.1.1, .string ⟨t.1.2.toArray⟩, .slice ad t.2.length cap] 24 (0, 0)) := by rw [hW, hX]; exact new_blk _ _
  have HALL : Hid (∀ w2 : World, Below W.heap.size W w2 → Below w.heap.size w w2 ∧ (w2.cell? ⟨X, 0, none⟩ = some (.int .i64 t.1.1) ∧ w2.cell? ⟨X, 1, none⟩ = some (.string ⟨t.1.2.toArray⟩) ∧ w2.cell? ⟨X, 2, none⟩ = some (.slice ad t.2.length cap)) ∧ (Calls Tryz.prog 12 #[.agg #[.int .i64 t.1.1, .string ⟨t.1.2.toArray⟩, .slice ad t.2.length cap]] w2 fun r w' => r = .returned (.tuple #[.int .i64 ((sizeD (d + 1) t).1 : Int), .int .i64 (sizeD (d + 1) t).2]) ∧ Hid (Below w2.heap.size w2 w')) ∧ (Calls Tryz.prog 13 #[.agg #[.int .i64 t.1.1, .string ⟨t.1.2.toArray⟩, .slice ad t.2.length cap]] w2 fun r w' => r = .returned (.tuple #[.int .i64 ((sizeD (d + 1) t).1 : Int), .int .i64 (sizeD (d + 1) t).2]) ∧ Hid (Below w2.heap.size w2 w')) ∧ (Calls Tryz.prog 21 #[.agg #[.int .i64 t.1.1, .string ⟨t.1.2.toArray⟩, .slice ad t.2.length cap], .int .i64 a, .int .i64 b] w2 fun r w' => r = .returned (.tuple #[.bool (belowD (orderD (d + 1) t) a b).1, .int .i64 (belowD (orderD (d + 1) t) a b).2]) ∧ Hid (Below w2.heap.size w2 w')) ∧ (Calls Tryz.prog 22 #[.agg #[.int .i64 t.1.1, .string ⟨t.1.2.toArray⟩, .slice ad t.2.length cap], .int .i64 a, .int .i64 b] w2 fun r w' => r = .returned (.tuple #[.bool (belowD (orderD (d + 1) t) a b).1, .int .i64 (belowD (orderD (d + 1) t) a b).2]) ∧ Hid (Below w2.heap.size w2 w')) ∧ (Calls Tryz.prog 23 #[.agg #[.int .i64 t.1.1, .string ⟨t.1.2.toArray⟩, .slice ad t.2.length cap], .int .i64 a, .int .i64 b] w2 fun r w' => r = .returned (.tuple #[.int .i64 ((joinD (orderD (d + 1) t) a b).1 : Int), .int .i64 (joinD (orderD (d + 1) t) a b).2]) ∧ Hid (Below w2.heap.size w2 w')) ∧ (Calls Tryz.prog 24 #[.agg #[.int .i64 t.1.1, .string ⟨t.1.2.toArray⟩, .slice ad t.2.length cap], .int .i64 a, .int .i64 b] w2 fun r w' => r = .returned (.tuple #[.int .i64 ((joinD (orderD (d + 1) t) a b).1 : Int), .int .i64 (joinD (orderD (d + 1) t) a b).2]) ∧ Hid (Below w2.heap.size w2 w')) ∧ (Calls Tryz.prog 14 #[.agg #[.int .i64 t.1.1, .string ⟨t.1.2.toArray⟩, .slice ad t.2.length cap], .int .i64 a, .int .i64 b] w2 fun r w' => r = .returned (.tuple #[.int .i64 ((applyD (funD d t) a b).1 : Int), .int .i64 (applyD (funD d t) a b).2]) ∧ Hid (Below w2.heap.size w2 w')) ∧ (Calls Tryz.prog 25 #[.agg #[.int .i64 t.1.1, .string ⟨t.1.2.toArray⟩, .slice ad t.2.length cap], .int .i64 a, .int .i64 b] w2 fun r w' => r = .returned (.tuple #[.int .i64 ((applyD (funD d t) a b).1 : Int), .int .i64 (applyD (funD d t) a b).2]) ∧ Hid (Below w2.heap.size w2 w'))) := fun w2 h2 => by
    have h3 : Below w.heap.size w w2 := hBW.trans (h2.mono hBW.size)
    have h4 := (h2.block X (lt_heap hXW)).trans hXW
    have hxx := TyAt.below h3 h3.size _ _ _ HX.out
    exact ⟨h3, ⟨heap_cl h4 rfl, heap_cl h4 rfl, heap_cl h4 rfl⟩, size_all d _ t w2 hxx hN, size_ref d _ t w2 hxx hN, below_all d _ t w2 hxx hN a b, below_ref d _ t w2 hxx hN a b, join_all d _ t w2 hxx hN (fun w' hb => hT w' (h3.trans (hb.mono h3.size))) a b, join_ref d _ t w2 hxx hN a b, apply_all d _ t w2 hxx hN a b, apply_ref d _ t w2 hxx hN a b⟩
  have HXE : Hid (X = w.heap.size) := hX
  have HB0 : Hid (Below W.heap.size W W) := Below.refl _ _
  clear hn1 hn2 hrow hX hBW hXW hN HX hT
  generalize sizeD (d + 1) t = sz at *
  generalize belowD (orderD (d + 1) t) a b = bz at *
  generalize joinD (orderD (d + 1) t) a b = jz at *
  generalize applyD (funD d t) a b = az at *
  obtain ⟨sn, se⟩ := sz
  obtain ⟨bn, be⟩ := bz
  obtain ⟨jn, je⟩ := jz
  obtain ⟨an, ae⟩ := az
  generalize t.1.1 = k at *
  generalize t.1.2 = n at *
  generalize t.2.length = m at *
  clear t
  go_enter Tryz.func7, Tryz.ntmps7
  go_upto_region 1 with fail
  rw [← hW, ← HXE.out]
  clear hW
  obtain ⟨-, ⟨c0, c1, c2⟩, CC, -, -, -, -, -, -, -⟩ := HALL.out W HB0.out
  go_upto_region 2 with (first | (go_at_call 12; (with_reducible refine Calls.mono CC ?_); rintro e' v1 ⟨rfl, HN1⟩))
  have HB1 : Hid (Below W.heap.size W v1) := HB0.out.trans (HN1.out.mono HB0.out.size)
  clear c0 c1 c2 CC HN1 HB0
  obtain ⟨-, ⟨c0, c1, c2⟩, -, CC, -, -, -, -, -, -⟩ := HALL.out v1 HB1.out
  go_upto_region 3 with (first | (go_at_call 13; (with_reducible refine Calls.mono CC ?_); rintro e' v2 ⟨rfl, HN2⟩))
  have HB2 : Hid (Below W.heap.size W v2) := HB1.out.trans (HN2.out.mono HB1.out.size)
  clear c0 c1 c2 CC HN2 HB1
  obtain ⟨-, ⟨c0, c1, c2⟩, -, -, CC, -, -, -, -, -⟩ := HALL.out v2 HB2.out
  go_upto_region 4 with (first | (go_at_call 21; (with_reducible refine Calls.mono CC ?_); rintro e' v3 ⟨rfl, HN3⟩))
  have HB3 : Hid (Below W.heap.size W v3) := HB2.out.trans (HN3.out.mono HB2.out.size)
  clear c0 c1 c2 CC HN3 HB2
  obtain ⟨-, ⟨c0, c1, c2⟩, -, -, -, CC, -, -, -, -⟩ := HALL.out v3 HB3.out
  go_upto_region 5 with (first | (go_at_call 22; (with_reducible refine Calls.mono CC ?_); rintro e' v4 ⟨rfl, HN4⟩))
  have HB4 : Hid (Below W.heap.size W v4) := HB3.out.trans (HN4.out.mono HB3.out.size)
  clear c0 c1 c2 CC HN4 HB3
  obtain ⟨-, ⟨c0, c1, c2⟩, -, -, -, -, CC, -, -, -⟩ := HALL.out v4 HB4.out
  go_upto_region 6 with (first | (go_at_call 23; (with_reducible refine Calls.mono CC ?_); rintro e' v5 ⟨rfl, HN5⟩))
  have HB5 : Hid (Below W.heap.size W v5) := HB4.out.trans (HN5.out.mono HB4.out.size)
  clear c0 c1 c2 CC HN5 HB4
  obtain ⟨-, ⟨c0, c1, c2⟩, -, -, -, -, -, CC, -, -⟩ := HALL.out v5 HB5.out
  go_upto_region 7 with (first | (go_at_call 24; (with_reducible refine Calls.mono CC ?_); rintro e' v6 ⟨rfl, HN6⟩))
  have HB6 : Hid (Below W.heap.size W v6) := HB5.out.trans (HN6.out.mono HB5.out.size)
  clear c0 c1 c2 CC HN6 HB5
  obtain ⟨-, ⟨c0, c1, c2⟩, -, -, -, -, -, -, CC, -⟩ := HALL.out v6 HB6.out
  go_upto_region 8 with (first | (go_at_call 14; (with_reducible refine Calls.mono CC ?_); rintro e' v7 ⟨rfl, HN7⟩))
  have HB7 : Hid (Below W.heap.size W v7) := HB6.out.trans (HN7.out.mono HB6.out.size)
  clear c0 c1 c2 CC HN7 HB6
  obtain ⟨-, ⟨c0, c1, c2⟩, -, -, -, -, -, -, -, CC⟩ := HALL.out v7 HB7.out
  go_upto_region 9 with (first | (go_at_call 25; (with_reducible refine Calls.mono CC ?_); rintro e' v8 ⟨rfl, HN8⟩))
  have HB8 : Hid (Below W.heap.size W v8) := HB7.out.trans (HN8.out.mono HB7.out.size)
  clear c0 c1 c2 CC HN8 HB7
  obtain ⟨hbe, -⟩ := HALL.out v8 HB8.out
  have HBE : Hid (Below w.heap.size w v8) := hbe
  clear HALL HB8 hbe
  go_wp2
  refine bodyPost_ret (v := .bool true) (by simp [results, Tryz.results7, go_sem]) rfl ?_
  exact ⟨rfl, HBE.out⟩
end Go.Proofs.YtgdflaapgfpdeaaGreatDoor

namespace Go.Proofs.YtgdflaapgfpdeaaGreatDoor
open Go.RowKit

def EInt : Elt Int where
  k := 1
  C _ _ cs x := cs = [.int .i64 x]
  len := by rintro _ _ _ _ rfl; rfl
  one := by rintro _ _ _ _ rfl u hu; rw [List.mem_singleton.1 hu]; rfl
  on := fun _ _ h => h
theorem Tryz.tyInt : Ty 25 3 EInt.k 8 := Tryz.ty28
/-- A made row of numbers, in its own block. -/
def Ir (B : Nat) (w : World) (v : Value) (l : List Int) : Prop := w.ownsRow B 3 1 v l.length (l.map (Value.int .i64))
theorem flat_ones (l : List Int) : (l.map fun x => [Value.int .i64 x]).flatten = l.map (Value.int .i64) := by
  induction l with
  | nil => rfl
  | cons a r ih => simp [ih]
theorem ir_own {B : Nat} {S : Nat → Prop} {w : World} {v : Value} {l : List Int} (h : Ir B w v l) (hS : ∀ y, S y → y < B) : OwnN EInt 3 B S w v l := by
  refine ⟨⟨l.map fun x => [Value.int .i64 x], ⟨by simp, fun i a b => by simp [EInt]⟩, ?_⟩, fun y hy e => ?_⟩
  · rw [flat_ones]
    exact h
  · rcases hy with hy | hy
    · have := (World.ownsRow.lt h y e).1
      have := hS y hy
      omega
    · exact hy.2.2 e
theorem own_ir {B : Nat} {S : Nat → Prop} {w : World} {v : Value} {l : List Int} (h : OwnN EInt 3 B S w v l) : Ir B w v l := by
  obtain ⟨css, h1, h2⟩ := h.row
  have e : css = l.map fun x => [Value.int .i64 x] := by
    refine List.ext_getElem (by simp [h1.1]) fun i a b => ?_
    rw [List.getElem_map]
    exact h1.2 i a (by simpa using b)
  rw [e, flat_ones] at h2
  exact h2
theorem Ir.lt {B : Nat} {w : World} {v : Value} {l : List Int} (h : Ir B w v l) : ∀ g, v.ownBlock = some g → B ≤ g ∧ g < w.heap.size := World.ownsRow.lt h
theorem Ir.keep {B : Nat} {w w' : World} {v : Value} {l : List Int} (h : Ir B w v l) (hk : ∀ g, v.ownBlock = some g → w'.heap[g]? = w.heap[g]?) : Ir B w' v l := owns_on h hk
theorem Ir.len {B : Nat} {w : World} {v : Value} {l : List Int} (h : Ir B w v l) : (l = [] ∧ v = .slice none 0 0) ∨ ∃ g cap, v = .slice (some ⟨g, 0, none⟩) l.length cap ∧ l.length ≤ cap ∧ B ≤ g ∧ g < w.heap.size := by
  rcases id h.2 with ⟨h1, h2⟩ | ⟨g, cap, cur, h1, h2, h3, h4, _⟩
  · exact .inl ⟨List.length_eq_zero_iff.1 h2, h1⟩
  · exact .inr ⟨g, cap, h1, h4, h2, lt_heap h3⟩
theorem Ir.cell {B : Nat} {w : World} {g n cap : Nat} {l : List Int} (h : Ir B w (.slice (some ⟨g, 0, none⟩) n cap) l) {i : Nat} (hi : i < l.length) : w.cell? ⟨g, i, none⟩ = some (.int .i64 (l.getD i 0)) := by
  rcases id h.2 with ⟨h1, h2⟩ | ⟨g', cap', cur, h1, h2, h3, h4, h5, h6, h7⟩
  · cases h1
  · obtain ⟨e1, -, -⟩ := Value.slice.inj h1
    simp only [Option.some.injEq, Addr.mk.injEq, and_true] at e1
    subst e1
    have h8 : (l.map (Value.int .i64))[i]? = some (.int .i64 (l.getD i 0)) := by
      simp [List.getD, hi]
    rw [← h7, Nat.mul_one, List.getElem?_take_of_lt hi] at h8
    refine (heap_cl h3 ?_)
    simpa using h8
/-- A beginning of such a row is a row to be read. -/
theorem Ir.zts {B : Nat} {w : World} {g cap : Nat} {l : List Int} (h : Ir B w (.slice (some ⟨g, 0, none⟩) l.length cap) l) (hc : l.length ≤ cap) {k : Nat} (hk : k ≤ l.length) : Zts w (.slice (some ⟨g, 0, none⟩) k cap) (l.take k) := by
  have hkl : (l.take k).length = k := by rw [List.length_take]; omega
  refine ⟨some ⟨g, 0, none⟩, cap, by rw [hkl], fun i hi => ⟨g, 0, rfl, by omega, (h.lt g rfl).2, ?_⟩⟩
  rw [Nat.zero_add, h.cell (show i < l.length by omega), List.getElem_take]
  simp [List.getD, show i < l.length by omega]
/-- One number is written over. -/
theorem Ir.put {B : Nat} {w : World} {g n cap : Nat} {l : List Int} (h : Ir B w (.slice (some ⟨g, 0, none⟩) n cap) l) (i : Nat) (x : Int) : Ir B (w.setCell ⟨g, i, none⟩ (.int .i64 x)) (.slice (some ⟨g, 0, none⟩) n cap) (l.set i x) := by
  unfold Ir
  rw [List.length_set, List.map_set]
  refine ⟨by simp, ?_⟩
  rcases id h.2 with ⟨h1, h2⟩ | ⟨g', cap', cur, h1, h2, h3, h4, h5, h6, h7⟩
  · cases h1
  · obtain ⟨e1, -, -⟩ := Value.slice.inj h1
    simp only [Option.some.injEq, Addr.mk.injEq, and_true] at e1
    subst e1
    refine .inr ⟨g, cap', cur.setIfInBounds i (.int .i64 x), h1, h2, setCell_block h3, h4, h5, by simpa using h6, ?_⟩
    rw [Array.toList_setIfInBounds, List.take_set, h7]
theorem Ir.frozen {B : Nat} {w : World} {g n cap i : Nat} {l : List Int} (h : Ir B w (.slice (some ⟨g, 0, none⟩) n cap) l) : w.frozen? ⟨g, i, none⟩ = false := by
  rcases id h.2 with ⟨h1, h2⟩ | ⟨g', cap', cur, h1, h2, h3, h4, h5, h6, h7⟩
  · cases h1
  · obtain ⟨e1, -, -⟩ := Value.slice.inj h1
    simp only [Option.some.injEq, Addr.mk.injEq, and_true] at e1
    subst e1
    exact heap_frozen h3
theorem zts_row {w : World} {S : Nat → Prop} {v : Value} {l : List Int} (h : Zts w v l) : RowE EInt w (fun y => y < w.heap.size) S v l := by
  obtain ⟨ad, cap, rfl, h2⟩ := h
  by_cases h0 : l = []
  · subst h0
    exact .inl ⟨rfl, ad, cap, rfl⟩
  · have hp : 0 < l.length := List.length_pos_iff.2 h0
    obtain ⟨g, o, rfl, hc, hg, _⟩ := h2 0 hp
    refine .inr ⟨g, o, cap, rfl, h0, hc, fun j hj => ⟨hg, [.int .i64 l[j]], rfl, fun c hc' => ?_⟩⟩
    obtain ⟨g', o', e, _, _, q⟩ := h2 j hj
    simp only [Option.some.injEq, Addr.mk.injEq, and_true] at e
    obtain ⟨rfl, rfl⟩ := e
    obtain rfl : c = 0 := by
      have : c < 1 := hc'
      omega
    simpa [EInt] using q
/-- Two numbers in a new block. -/
theorem two_row {w : World} {S : Nat → Prop} {T : Nat} {a b : Int} (hT : w.heap[T]? = some (.cells #[.int .i64 a, .int .i64 b] 3 (0, 0))) : RowE EInt w (fun y => y = T) S (.slice (some ⟨T, 0, none⟩) 2 2) [a, b] := by
  refine .inr ⟨T, 0, 2, rfl, by simp, Nat.le_refl _, fun j hj => ⟨rfl, [.int .i64 [a, b][j]], rfl, fun c hc' => ?_⟩⟩
  obtain rfl : c = 0 := by
    have : c < 1 := hc'
    omega
  rcases j with _ | _ | j
  · exact heap_cl hT rfl
  · exact heap_cl hT rfl
  · simp at hj
    omega
end Go.Proofs.YtgdflaapgfpdeaaGreatDoor

namespace Go.Proofs.YtgdflaapgfpdeaaGreatDoor
open Go.RowKit

/-- append(x, y...): a row of numbers that was made, and one that can be read; their bytes are bounded, not their number. -/
theorem ir_append {ops : Array Oper} {rest : List Oper} {o : Oper} {a : Act} {Q : Exit → Act → World → Prop} {w : World} {B : Nat} (hgd : o.guard = none) (s x : Operand)
    (ho : o.op = .call { callee := .builtin .append, args := #[s, x], argTypes := #[25, 25] }) {v u : Value} {l m : List Int} (hs : a.eval s = v) (h : Ir B w v l) (hx : a.eval x = u) (hm : Zts w u m) (hl : (l.length + m.length) * 8 ≤ 140737488355328) (hB : B ≤ w.heap.size)
    (K : ∀ v' w', Ir B w' v' (l ++ m) → Below B w w' → w.heap.size ≤ w'.heap.size → (∀ y, y < w.heap.size → v.ownBlock ≠ some y → w'.heap[y]? = w.heap[y]?) → (v'.ownBlock = v.ownBlock ∨ ∃ g, v'.ownBlock = some g ∧ w.heap.size ≤ g) → wpList Tryz.prog ops Q rest (a.put o.dst v') w') : wpList Tryz.prog ops Q (o :: rest) a w := by
  obtain ⟨i, z, hi, hz, hk, hby, hzs⟩ := Tryz.tyInt.info
  obtain ⟨ad, cap, rfl, h2⟩ := hm
  by_cases h0 : m = []
  · subst h0
    have hr := append_empty' (t := 25) (ty := o.type) Tryz.tyInt.slice hi h ad cap
    refine Lib.wpList_append_run w hgd s x 25 25 ho _ _ hs hx _ _ hr ?_
    exact K v w (by rw [List.append_nil]; exact h) (Below.refl _ _) (Nat.le_refl _) (fun _ _ _ => rfl) (.inl rfl)
  · have hp : 0 < m.length := List.length_pos_iff.2 h0
    obtain ⟨g, o', rfl, _, _, _⟩ := h2 0 hp
    refine wpList_append_lies w hgd s x 25 ho B 3 i z 1 8 Tryz.tyInt.slice hi hz hk hby hzs (by decide) v l.length (l.map (Value.int .i64)) hs h ⟨g, o', none⟩ m.length cap (m.map (Value.int .i64)) hx (by simp) (fun j u hu => ?_) (fun u hu => ?_) hp (by unfold maxLen; omega) hl hB _ rfl ?_
    · have hj : j < m.length := by
        have := (List.getElem?_eq_some_iff.1 hu).1
        simpa using this
      obtain ⟨g1, o1, e, _, _, q⟩ := h2 j hj
      simp only [Option.some.injEq, Addr.mk.injEq, and_true] at e
      obtain ⟨rfl, rfl⟩ := e
      have hu2 : u = .int .i64 m[j] := by
        rw [List.getElem?_map, List.getElem?_eq_getElem hj] at hu
        exact (Option.some.inj hu).symm
      rw [hu2]
      by_cases e : j = 0
      · subst e
        simpa [Addr.add] using q
      · simpa [Addr.add, e] using q
    · obtain ⟨y, _, rfl⟩ := List.mem_map.1 hu
      rfl
    · intro g' cap' w' h1 h2' h3 h4
      refine K _ w' ?_ ((Below.refl B w).grown h2' hB fun k hk => (h.lt k hk).1) h2'.size (fun y hy hne => h2'.block y hy fun e => hne e.symm) ?_
      · unfold Ir
        rw [List.length_append, List.map_append]
        exact h1
      · rcases h3 with h3 | h3
        · exact .inl (by rw [h3]; rfl)
        · exact .inr ⟨g', rfl, by omega⟩
theorem two_zts {w : World} {T : Nat} {a b : Int} (hT : w.heap[T]? = some (.cells #[.int .i64 a, .int .i64 b] 3 (0, 0))) : Zts w (.slice (some ⟨T, 0, none⟩) 2 2) [a, b] := by
  refine ⟨some ⟨T, 0, none⟩, 2, rfl, fun j hj => ⟨T, 0, rfl, Nat.le_refl _, lt_heap hT, ?_⟩⟩
  rcases j with _ | _ | j
  · exact heap_cl hT rfl
  · exact heap_cl hT rfl
  · simp at hj
    omega
/-- A row that was just made, without elements. -/
theorem ir_made {B g m : Nat} {w : World} (h : ∃ cur, w.heap[g]? = some (.cells cur 3 (0, 0)) ∧ cur.size = m * 1) (hB : B ≤ g) (hm : m ≤ maxLen) : Ir B w (.slice (some ⟨g, 0, none⟩) 0 m) [] := by
  obtain ⟨cur, h1, h2⟩ := h
  exact ⟨rfl, .inr ⟨g, m, cur, rfl, hB, h1, Nat.zero_le _, hm, h2, by simp⟩⟩
end Go.Proofs.YtgdflaapgfpdeaaGreatDoor

namespace Go.Proofs.YtgdflaapgfpdeaaGreatDoor
open Go.RowKit

theorem take_set2 {l m : List Int} {i : Nat} {e : Int} (h : l.take i = m.take i) (hl : i < l.length) (hm : i < m.length) : (l.set i e).take (i + 1) = (m.set i e).take (i + 1) := by
  rw [List.take_succ_eq_append_getElem (by simpa using hl), List.take_succ_eq_append_getElem (by simpa using hm), List.take_set_of_le (Nat.le_refl _), List.take_set_of_le (Nat.le_refl _), h, List.getElem_set_self, List.getElem_set_self]
set_option maxHeartbeats 16000000 in
set_option maxRecDepth 10000 in
theorem answers_law (d c : Nat) (x y : Value) (t : Tn (d + 1)) (u : Tn (c + 1)) (w : World) (hx : TyAt w w.heap.size (d + 1) x t) (hy : TyAt w w.heap.size (c + 1) y u) (hT : ∀ w', Below w.heap.size w w' → TabAt 0 Lib.deBruijn64tab w') (a b : Int) {rv : Value} {tl : List Int} (hr : Zts w rv tl) (hl : tl.length * 8 ≤ 140737488351232)
    (HED : ∀ w2, Below w.heap.size w w2 → (flat (d + 1) t).length ≤ 4194304 → Calls Tryz.prog 11 #[x, .int .i64 a, .int .i64 b] w2 fun r w' => r = .returned (.bool true) ∧ Hid (Below w2.heap.size w2 w')) :
    Calls Tryz.prog 3 #[x, y, .int .i64 a, .int .i64 b, rv] w fun e w' => e = .returned (.bool true) ∧ Hid (Below w.heap.size w w') := by
  have HX : Hid (TyAt w w.heap.size (d + 1) x t) := hx
  have HY : Hid (TyAt w w.heap.size (c + 1) y u) := hy
  obtain ⟨u1, rfl, -, -, hrow⟩ := hx
  obtain ⟨ad, cap, rfl⟩ := hrow.len
  obtain ⟨u2, rfl, -, -, hrow2⟩ := hy
  obtain ⟨bd, bcap, rfl⟩ := hrow2.len
  obtain ⟨X, hX⟩ : ∃ X, X = w.heap.size := ⟨_, rfl⟩
  obtain ⟨Y, hY⟩ : ∃ Y, Y = w.heap.size + 1 := ⟨_, rfl⟩
  obtain ⟨W, hW⟩ : ∃ W, W = (w.alloc (.cells #[.int .i64 t.1.1, .string ⟨t.1.2.toArray⟩, .slice ad t.2.length cap] 24)).alloc (.cells #[.int .i64 u.1.1, .string ⟨u.1.2.toArray⟩, .slice bd u.2.length bcap] 24) := ⟨_, rfl⟩
  have s1 : (w.alloc (.cells #[.int .i64 t.1.1, .string ⟨t.1.2.toArray⟩, .slice ad t.2.length cap] 24)).heap.size = w.heap.size + 1 := World.size_alloc _ _
  have hBW : Below w.heap.size w W := by rw [hW]; exact ((Below.refl _ _).alloc (Nat.le_refl _) _).alloc (by omega) _
  have hXW : W.heap[X]? = some (.cells #[.int .i64 t.1.1, .string ⟨t.1.2.toArray⟩, .slice ad t.2.length cap] 24 (0, 0)) := by rw [hW, hX]; exact (Below.heap_alloc _ _ _ (by omega)).trans (new_blk _ _)
  have hYW : W.heap[Y]? = some (.cells #[.int .i64 u.1.1, .string ⟨u.1.2.toArray⟩, .slice bd u.2.length bcap] 24 (0, 0)) := by rw [hW, hY, ← s1]; exact new_blk _ _
  have HXE : Hid (X = w.heap.size ∧ Y = w.heap.size + 1) := ⟨hX, hY⟩
  have HALL : Hid (∀ w2 : World, Below W.heap.size W w2 → Below w.heap.size w w2 ∧ (w2.cell? ⟨X, 0, none⟩ = some (.int .i64 t.1.1) ∧ w2.cell? ⟨X, 1, none⟩ = some (.string ⟨t.1.2.toArray⟩) ∧ w2.cell? ⟨X, 2, none⟩ = some (.slice ad t.2.length cap)) ∧ (w2.cell? ⟨Y, 0, none⟩ = some (.int .i64 u.1.1) ∧ w2.cell? ⟨Y, 1, none⟩ = some (.string ⟨u.1.2.toArray⟩) ∧ w2.cell? ⟨Y, 2, none⟩ = some (.slice bd u.2.length bcap)) ∧ TyAt w2 w2.heap.size (d + 1) (.agg #[.int .i64 t.1.1, .string ⟨t.1.2.toArray⟩, .slice ad t.2.length cap]) t ∧ TyAt w2 w2.heap.size (c + 1) (.agg #[.int .i64 u.1.1, .string ⟨u.1.2.toArray⟩, .slice bd u.2.length bcap]) u ∧ Zts w2 rv tl ∧ (∀ w', Below w2.heap.size w2 w' → TabAt 0 Lib.deBruijn64tab w')) := fun w2 h2 => by
    have h3 : Below w.heap.size w w2 := hBW.trans (h2.mono hBW.size)
    have h4 := (h2.block X (lt_heap hXW)).trans hXW
    have h5 := (h2.block Y (lt_heap hYW)).trans hYW
    exact ⟨h3, ⟨heap_cl h4 rfl, heap_cl h4 rfl, heap_cl h4 rfl⟩, ⟨heap_cl h5 rfl, heap_cl h5 rfl, heap_cl h5 rfl⟩, TyAt.below h3 h3.size _ _ _ HX.out, TyAt.below h3 h3.size _ _ _ HY.out, hr.on h3, fun w' hb => hT w' (h3.trans (hb.mono h3.size))⟩
  have HB0 : Hid (Below W.heap.size W W) := Below.refl _ _
  have HLT : Hid (tl.length * 8 ≤ 140737488351232) := hl
  replace HED : Hid (∀ w2, Below w.heap.size w w2 → (flat (d + 1) t).length ≤ 4194304 → Calls Tryz.prog 11 #[.agg #[.int .i64 t.1.1, .string ⟨t.1.2.toArray⟩, .slice ad t.2.length cap], .int .i64 a, .int .i64 b] w2 fun r w' => r = .returned (.bool true) ∧ Hid (Below w2.heap.size w2 w')) := HED
  obtain ⟨tad, tcap, rfl, -⟩ := hr
  clear hrow hrow2 hX hY hBW hXW hYW HX HY hT hl s1
  go_enter Tryz.func3, Tryz.ntmps3
  go_upto_region 1 with fail
  rw [← hW, ← HXE.out.2, ← HXE.out.1]
  clear hW
  obtain ⟨-, ⟨c0, c1, c2⟩, -, hxx, -, -, -⟩ := HALL.out W HB0.out
  have CG := great_any (d + 1) _ t W hxx
  clear hxx
  generalize hgt : greatT (d + 1) t = gt at *
  replace hgt : Hid (greatT (d + 1) t = gt) := hgt
  go_upto_region 2 with (first | (go_at_call 5; (with_reducible refine Calls.mono CG ?_); rintro e' v1 ⟨rfl, hn1⟩))
  have HB1 : Hid (Below W.heap.size W v1) := hn1
  clear c0 c1 c2 CG hn1 HB0
  obtain ⟨-, -, ⟨c0, c1, c2⟩, -, hyy, -, -⟩ := HALL.out v1 HB1.out
  have CG := great_any (c + 1) _ u v1 hyy
  clear hyy
  generalize hgu : greatT (c + 1) u = gu at *
  replace hgu : Hid (greatT (c + 1) u = gu) := hgu
  go_upto_region 3 with (first | (go_at_call 5; (with_reducible refine Calls.mono CG ?_); rintro e' v2 ⟨rfl, hn2⟩))
  have HB2 : Hid (Below W.heap.size W v2) := HB1.out.trans (hn2.mono HB1.out.size)
  clear c0 c1 c2 CG hn2 HB1
  cases gt with
  | true =>
    obtain ⟨hb2, -⟩ := HALL.out v2 HB2.out
    have HBE : Hid (Below w.heap.size w v2) := hb2
    clear hb2
    go_wp2
    refine bodyPost_ret (v := .bool true) (by simp [results, Tryz.results3, go_sem]) rfl ?_
    exact ⟨rfl, HBE.out⟩
  | false =>
    cases gu with
    | true =>
      obtain ⟨hb2, -⟩ := HALL.out v2 HB2.out
      have HBE : Hid (Below w.heap.size w v2) := hb2
      clear hb2
      go_wp2
      refine bodyPost_ret (v := .bool true) (by simp [results, Tryz.results3, go_sem]) rfl ?_
      exact ⟨rfl, HBE.out⟩
    | false =>
      have HNT : Hid ((flat (d + 1) t).length ≤ 4194304) := great_nodes hgt.out
      have HNU : Hid ((flat (c + 1) u).length ≤ 4194304) := great_nodes hgu.out
      clear hgt hgu
      have CA := awake_any (w := v2)
      go_upto_region 6 with (first | (go_at_call 6; (with_reducible refine Calls.mono CA ?_); rintro e' v3 ⟨rfl, HN3⟩))
      have HB3 : Hid (Below W.heap.size W v3) := HB2.out.trans (HN3.out.mono HB2.out.size)
      clear CA HN3 HB2
      obtain ⟨-, ⟨c0, c1, c2⟩, -, hxx, -, -, hTT⟩ := HALL.out v3 HB3.out
      have CQ := asked_any d _ t v3 hxx HNT.out hTT a b
      clear hxx hTT
      go_upto_region 7 with (first | (go_at_call 7; (with_reducible refine Calls.mono CQ ?_); rintro e' v4 ⟨rfl, HN4⟩))
      have HB4 : Hid (Below W.heap.size W v4) := HB3.out.trans (HN4.out.mono HB3.out.size)
      clear c0 c1 c2 CQ HN4 HB3
      obtain ⟨-, -, ⟨c0, c1, c2⟩, -, hyy, -, hTT⟩ := HALL.out v4 HB4.out
      have CQ := asked_any c _ u v4 hyy HNU.out hTT a b
      clear hyy hTT
      go_upto_region 8 with (first | (go_at_call 7; (with_reducible refine Calls.mono CQ ?_); rintro e' v5 ⟨rfl, HN5⟩))
      have HB5 : Hid (Below W.heap.size W v5) := HB4.out.trans (HN5.out.mono HB4.out.size)
      clear c0 c1 c2 CQ HN5 HB4
      obtain ⟨-, ⟨c0, c1, c2⟩, -, hxx, -, -, hTT⟩ := HALL.out v5 HB5.out
      have CQ := asked_any d _ t v5 hxx HNT.out hTT a b
      clear hxx hTT
      go_upto_region 9 with (first | (go_at_call 7; (with_reducible refine Calls.mono CQ ?_); rintro e' v6 ⟨rfl, HN6⟩))
      have HB6 : Hid (Below W.heap.size W v6) := HB5.out.trans (HN6.out.mono HB5.out.size)
      clear c0 c1 c2 CQ HN6 HB5
      go_upto_region 11 with fail
      obtain ⟨-, ⟨c0, c1, c2⟩, -, hxx, -, hzz, -⟩ := HALL.out v6 HB6.out
      have CO := of_ref d _ t v6 hxx HNT.out hzz
      clear hxx hzz
      obtain ⟨oz, hoz⟩ : ∃ oz, oz = ofD (funD d t) tl := ⟨_, rfl⟩
      rw [← hoz] at CO
      replace hoz : Hid (oz = ofD (funD d t) tl) := hoz
      go_upto_region 12 with (first | (go_at_call 8; (with_reducible refine Calls.mono CO ?_); rintro e' v7 ⟨rfl, HN7⟩))
      have HB7 : Hid (Below W.heap.size W v7) := HB6.out.trans (HN7.out.mono HB6.out.size)
      clear c0 c1 c2 CO HN7 HB6
      obtain ⟨ti, zi, hi0, hz0, hk0, hby0, hzs0⟩ := Tryz.tyInt.info
      have hlt := HLT.out
      have hzz7 : Hid (∀ w2, Below v7.heap.size v7 w2 → Zts w2 (.slice tad tl.length tcap) tl) := fun w2 hb => (HALL.out w2 (HB7.out.trans (hb.mono HB7.out.size))).2.2.2.2.2.1
      go_upto_region 13 with (first
        | (at_make; refine wpList_make_room _ rfl _ _ 25 rfl 3 ti zi 1 Tryz.tyInt.slice hi0 hz0 hk0 .i64 .i64 _ _ 0 (tl.length + 2) rfl rfl (by simp) (by simp) (by omega) (by rw [hby0]; omega) (by unfold maxLen; omega) ?_; intro v8 G hG hs8 hb8 hc8; have HI8 : Hid (Ir G v8 (.slice (some ⟨G, 0, none⟩) 0 (tl.length + 2)) []) := ir_made hc8 (Nat.le_refl _) (by unfold maxLen; omega); have HZ8 : Hid (Zts v8 (.slice tad tl.length tcap) tl) := hzz7.out v8 hb8; have HG8 : Hid (G ≤ v8.heap.size ∧ v7.heap.size = G ∧ Below G v7 v8) := ⟨by omega, hG.symm, by rw [hG]; exact hb8⟩; have hGe : Hid (v7.heap.size = G) := hG.symm; clear hc8 hs8 hb8 hG)
        | (at_builtin; refine ir_append rfl _ _ rfl rfl HI8.out rfl HZ8.out (by simp only [List.length_nil]; omega) HG8.out.1 ?_; intro x9 v9 I9 B9 S9 K9 R9; have HI9 : Hid (Ir G v9 x9 ([] ++ tl)) := I9; have HB9 : Hid (Below G v7 v9) := HG8.out.2.2.trans B9; have HS9 : Hid (G ≤ v9.heap.size) := Nat.le_trans HG8.out.1 S9; clear I9 B9 S9 K9 R9 HI8 HZ8)
        | (at_builtin; refine ir_append (m := [77, 78]) rfl _ _ rfl rfl (HI9.out.keep (w' := v9.alloc (.cells #[.int .i64 77, .int .i64 78] 3)) fun g hg => Below.heap_alloc _ _ _ (by have := (HI9.out.lt g hg).2; omega)) rfl (two_zts (new_blk _ _)) (by simp only [List.length_append, List.length_nil, List.length_cons]; omega) (by rw [World.size_alloc]; have := HS9.out; omega) ?_; intro x10 v10 I10 B10 S10 K10 R10))
      have HB10 : Hid (Below G v7 v10) := HB9.out.trans (((Below.refl G v9).alloc (by have := HS9.out; omega) _).trans B10)
      rw [List.nil_append] at I10
      have hGW : W.heap.size ≤ G := by rw [← hGe.out]; exact HB7.out.size
      have HBv10 : Hid (Below W.heap.size W v10) := HB7.out.trans (HB10.out.mono hGW)
      obtain ⟨gr, capr, rfl, hcr, hgr⟩ : ∃ gr capr, x10 = .slice (some ⟨gr, 0, none⟩) (tl.length + 2) capr ∧ tl.length + 2 ≤ capr ∧ G ≤ gr := by
        rcases I10.len with ⟨h1, _⟩ | ⟨gr, capr, h1, h2, h3, h4⟩
        · simp at h1
        · rw [List.length_append] at h1 h2
          exact ⟨gr, capr, h1, h2, h3⟩
      obtain ⟨rn, hrn⟩ : ∃ rn, rn = tl.length + 2 := ⟨_, rfl⟩
      rw [← hrn] at I10 hcr ⊢
      have HIv10 : Hid (Ir G v10 (.slice (some ⟨gr, 0, none⟩) rn capr) (tl ++ [77, 78])) := I10
      have HRN : Hid (rn = tl.length + 2 ∧ rn ≤ capr ∧ (tl ++ [77, 78]).length = rn ∧ (tl ++ [77, 78]).take tl.length = tl ∧ W.heap.size ≤ G) := ⟨hrn, hcr, by simp [hrn], by simp, hGW⟩
      have i3 : (0 : Int) ≤ (tl.length : Int) := by omega
      have i4 : (tl.length : Int) ≤ (capr : Int) := by omega
      have HZTS : Hid (∀ wr, Ir G wr (.slice (some ⟨gr, 0, none⟩) rn capr) (tl ++ [77, 78]) → Zts wr (.slice (some ⟨gr, 0, none⟩) tl.length capr) tl) := fun wr h => by
        have h2 := Ir.zts (k := tl.length) (by rw [HRN.out.2.2.1]; exact h) (by rw [HRN.out.2.2.1]; exact HRN.out.2.1) (by rw [HRN.out.2.2.1, HRN.out.1]; omega)
        rw [HRN.out.2.2.2.1] at h2
        exact h2
      clear I10 B10 S10 K10 R10 HI9 HB9 HS9 HG8 hcr hrn hGW hlt hzz7
      obtain ⟨-, ⟨c0, c1, c2⟩, -, hxx, -, -, -⟩ := HALL.out v10.drew HBv10.out.drew
      have hrz := HZTS.out v10.drew (HIv10.out.keep fun _ _ => rfl)
      have CC := of_all d _ t v10.drew hxx HNT.out hrz
      rw [← hoz.out] at CC
      have hS0 : (fun w' : World => w'.cell? ⟨X, 0, none⟩ = some (.int .i64 t.1.1) ∧ w'.cell? ⟨X, 1, none⟩ = some (.string ⟨t.1.2.toArray⟩) ∧ w'.cell? ⟨X, 2, none⟩ = some (.slice ad t.2.length cap)) v10.drew := ⟨c0, c1, c2⟩
      clear c0 c1 c2
      refine wp_region_M (S := (fun w' : World => w'.cell? ⟨X, 0, none⟩ = some (.int .i64 t.1.1) ∧ w'.cell? ⟨X, 1, none⟩ = some (.string ⟨t.1.2.toArray⟩) ∧ w'.cell? ⟨X, 2, none⟩ = some (.slice ad t.2.length cap))) (L := 11) (n := 11) (by kernel_rfl) rfl (by kernel_rfl) ?_
      generalize hdr : v10.drew = wd at *
      refine wpAnyK_go (i := 0) (m' := 1) (some 82) (v := .agg #[.int .i64 t.1.1, .string ⟨t.1.2.toArray⟩, .slice ad t.2.length cap]) rfl rfl (by kernel_rfl) (by kernel_rfl) (by kernel_rfl) (by kernel_rfl) (by kernel_rfl) (fun _ _ _ h => h) (Or.inl ⟨by rfl, ?_⟩) hS0 ?_
      · intro w' hSw
        obtain ⟨s1, s2, s3⟩ := hSw
        go_simp
      simp only [Act.put, List.setIfInBounds_toArray, List.set_cons_zero, List.set_cons_succ]
      refine wpAnyK_go (i := 1) (m' := 3) (some 83) (v := .slice (some ⟨gr, 0, none⟩) rn capr) rfl rfl (by kernel_rfl) (by kernel_rfl) (by kernel_rfl) (by kernel_rfl) (by kernel_rfl) (fun _ _ _ h => h) (Or.inl ⟨by rfl, ?_⟩) hS0 ?_
      · intro w' hSw
        go_simp
      simp only [Act.put, List.setIfInBounds_toArray, List.set_cons_zero, List.set_cons_succ]
      refine wpAnyK_go (i := 2) (m' := 7) (some 84) (v := .slice tad tl.length tcap) rfl rfl (by kernel_rfl) (by kernel_rfl) (by kernel_rfl) (by kernel_rfl) (by kernel_rfl) (fun _ _ _ h => h) (Or.inl ⟨by rfl, ?_⟩) hS0 ?_
      · intro w' hSw
        go_simp
      simp only [Act.put, List.setIfInBounds_toArray, List.set_cons_zero, List.set_cons_succ]
      refine wpAnyK_go (i := 3) (m' := 15) (some 85) (v := .int .i64 (tl.length : Int)) rfl rfl (by kernel_rfl) (by kernel_rfl) (by kernel_rfl) (by kernel_rfl) (by kernel_rfl) (fun _ _ _ h => h) (Or.inl ⟨by rfl, ?_⟩) hS0 ?_
      · intro w' hSw
        go_simp
      simp only [Act.put, List.setIfInBounds_toArray, List.set_cons_zero, List.set_cons_succ]
      refine wpAnyK_go (i := 4) (m' := 31) (some 86) (v := .slice (some ⟨gr, 0, none⟩) tl.length capr) rfl rfl (by kernel_rfl) (by kernel_rfl) (by kernel_rfl) (by kernel_rfl) (by kernel_rfl) (fun _ _ _ h => h) (Or.inl ⟨by rfl, ?_⟩) hS0 ?_
      · intro w' hSw
        go_simp
      simp only [Act.put, List.setIfInBounds_toArray, List.set_cons_zero, List.set_cons_succ]
      refine wpAnyK_only (i := 5) (m' := 63) (by kernel_rfl) rfl (by kernel_rfl) fun K hK => ?_
      go_simp
      (with_reducible refine Calls.mono CC ?_)
      rintro e' v11 ⟨rfl, HN⟩
      have HBv11 : Hid (Below W.heap.size W v11) := by rw [← hdr] at HN; exact HBv10.out.drew.trans (HN.out.mono HBv10.out.size)
      have HLv11 : Hid (Below v10.heap.size v10 v11) := by rw [← hdr] at HN; exact (Below.refl _ _).drew.trans HN.out
      obtain ⟨-, hS1, -, -, -, -, -⟩ := HALL.out v11 HBv11.out
      go_simp
      refine hK.out _ _ (fun _ => hS1) ?_
      clear hK K CC hS0 HN hdr
      refine wpAnyK_go (i := 6) (m' := 127) (some 81) (v := .tuple #[.int .i64 (oz.1 : Int), .int .i64 oz.2]) rfl rfl (by kernel_rfl) (by kernel_rfl) (by kernel_rfl) (by kernel_rfl) (by kernel_rfl) (fun _ _ _ h => h) (Or.inl ⟨by rfl, ?_⟩) hS1 ?_
      · intro w' hSw
        go_simp
      simp only [Act.put, List.setIfInBounds_toArray, List.set_cons_zero, List.set_cons_succ]
      refine wpAnyK_go (i := 7) (m' := 255) (some 88) (v := .int .i64 (oz.1 : Int)) rfl rfl (by kernel_rfl) (by kernel_rfl) (by kernel_rfl) (by kernel_rfl) (by kernel_rfl) (fun _ _ _ h => h) (Or.inl ⟨by rfl, ?_⟩) hS1 ?_
      · intro w' hSw
        go_simp
      simp only [Act.put, List.setIfInBounds_toArray, List.set_cons_zero, List.set_cons_succ]
      refine wpAnyK_go (i := 8) (m' := 511) (some 89) (v := .int .i64 oz.2) rfl rfl (by kernel_rfl) (by kernel_rfl) (by kernel_rfl) (by kernel_rfl) (by kernel_rfl) (fun _ _ _ h => h) (Or.inl ⟨by rfl, ?_⟩) hS1 ?_
      · intro w' hSw
        go_simp
      simp only [Act.put, List.setIfInBounds_toArray, List.set_cons_zero, List.set_cons_succ]
      refine wpAnyK_go (i := 9) (m' := 1023) (some 20) (v := .int .i64 (oz.1 : Int)) rfl rfl (by kernel_rfl) (by kernel_rfl) (by kernel_rfl) (by kernel_rfl) (by kernel_rfl) (fun _ _ _ h => h) (Or.inl ⟨by rfl, ?_⟩) hS1 ?_
      · intro w' hSw
        go_simp
      simp only [Act.put, List.setIfInBounds_toArray, List.set_cons_zero, List.set_cons_succ]
      refine wpAnyK_go (i := 10) (m' := 2047) (some 21) (v := .int .i64 oz.2) rfl rfl (by kernel_rfl) (by kernel_rfl) (by kernel_rfl) (by kernel_rfl) (by kernel_rfl) (fun _ _ _ h => h) (Or.inl ⟨by rfl, ?_⟩) hS1 ?_
      · intro w' hSw
        go_simp
      simp only [Act.put, List.setIfInBounds_toArray, List.set_cons_zero, List.set_cons_succ]
      refine wpAnyK_done (by kernel_rfl) ?_ _
      clear hS1
      have HIv11 : Hid (Ir G v11 (.slice (some ⟨gr, 0, none⟩) rn capr) (tl ++ [77, 78])) := HIv10.out.keep fun g hg => HLv11.out.block g (HIv10.out.lt g hg).2
      clear HIv10 HLv11 HBv10 hxx hrz
      go_upto_region 14 with fail
      obtain ⟨-, ⟨c0, c1, c2⟩, -, hxx, -, -, -⟩ := HALL.out v11.drew HBv11.out.drew
      have hrz := HZTS.out v11.drew (HIv11.out.keep fun _ _ => rfl)
      have CC := of_all d _ t v11.drew hxx HNT.out hrz
      rw [← hoz.out] at CC
      have hS0 : (fun w' : World => w'.cell? ⟨X, 0, none⟩ = some (.int .i64 t.1.1) ∧ w'.cell? ⟨X, 1, none⟩ = some (.string ⟨t.1.2.toArray⟩) ∧ w'.cell? ⟨X, 2, none⟩ = some (.slice ad t.2.length cap)) v11.drew := ⟨c0, c1, c2⟩
      clear c0 c1 c2
      refine wp_region_M (S := (fun w' : World => w'.cell? ⟨X, 0, none⟩ = some (.int .i64 t.1.1) ∧ w'.cell? ⟨X, 1, none⟩ = some (.string ⟨t.1.2.toArray⟩) ∧ w'.cell? ⟨X, 2, none⟩ = some (.slice ad t.2.length cap))) (L := 11) (n := 11) (by kernel_rfl) rfl (by kernel_rfl) ?_
      generalize hdr : v11.drew = wd at *
      refine wpAnyK_go (i := 0) (m' := 1) (some 91) (v := .agg #[.int .i64 t.1.1, .string ⟨t.1.2.toArray⟩, .slice ad t.2.length cap]) rfl rfl (by kernel_rfl) (by kernel_rfl) (by kernel_rfl) (by kernel_rfl) (by kernel_rfl) (fun _ _ _ h => h) (Or.inl ⟨by rfl, ?_⟩) hS0 ?_
      · intro w' hSw
        obtain ⟨s1, s2, s3⟩ := hSw
        go_simp
      simp only [Act.put, List.setIfInBounds_toArray, List.set_cons_zero, List.set_cons_succ]
      refine wpAnyK_go (i := 1) (m' := 3) (some 92) (v := .slice (some ⟨gr, 0, none⟩) rn capr) rfl rfl (by kernel_rfl) (by kernel_rfl) (by kernel_rfl) (by kernel_rfl) (by kernel_rfl) (fun _ _ _ h => h) (Or.inl ⟨by rfl, ?_⟩) hS0 ?_
      · intro w' hSw
        go_simp
      simp only [Act.put, List.setIfInBounds_toArray, List.set_cons_zero, List.set_cons_succ]
      refine wpAnyK_go (i := 2) (m' := 7) (some 93) (v := .slice tad tl.length tcap) rfl rfl (by kernel_rfl) (by kernel_rfl) (by kernel_rfl) (by kernel_rfl) (by kernel_rfl) (fun _ _ _ h => h) (Or.inl ⟨by rfl, ?_⟩) hS0 ?_
      · intro w' hSw
        go_simp
      simp only [Act.put, List.setIfInBounds_toArray, List.set_cons_zero, List.set_cons_succ]
      refine wpAnyK_go (i := 3) (m' := 15) (some 94) (v := .int .i64 (tl.length : Int)) rfl rfl (by kernel_rfl) (by kernel_rfl) (by kernel_rfl) (by kernel_rfl) (by kernel_rfl) (fun _ _ _ h => h) (Or.inl ⟨by rfl, ?_⟩) hS0 ?_
      · intro w' hSw
        go_simp
      simp only [Act.put, List.setIfInBounds_toArray, List.set_cons_zero, List.set_cons_succ]
      refine wpAnyK_go (i := 4) (m' := 31) (some 95) (v := .slice (some ⟨gr, 0, none⟩) tl.length capr) rfl rfl (by kernel_rfl) (by kernel_rfl) (by kernel_rfl) (by kernel_rfl) (by kernel_rfl) (fun _ _ _ h => h) (Or.inl ⟨by rfl, ?_⟩) hS0 ?_
      · intro w' hSw
        go_simp
      simp only [Act.put, List.setIfInBounds_toArray, List.set_cons_zero, List.set_cons_succ]
      refine wpAnyK_only (i := 5) (m' := 63) (by kernel_rfl) rfl (by kernel_rfl) fun K hK => ?_
      go_simp
      (with_reducible refine Calls.mono CC ?_)
      rintro e' v12 ⟨rfl, HN⟩
      have HBv12 : Hid (Below W.heap.size W v12) := by rw [← hdr] at HN; exact HBv11.out.drew.trans (HN.out.mono HBv11.out.size)
      have HLv12 : Hid (Below v11.heap.size v11 v12) := by rw [← hdr] at HN; exact (Below.refl _ _).drew.trans HN.out
      obtain ⟨-, hS1, -, -, -, -, -⟩ := HALL.out v12 HBv12.out
      go_simp
      refine hK.out _ _ (fun _ => hS1) ?_
      clear hK K CC hS0 HN hdr
      refine wpAnyK_go (i := 6) (m' := 127) (some 90) (v := .tuple #[.int .i64 (oz.1 : Int), .int .i64 oz.2]) rfl rfl (by kernel_rfl) (by kernel_rfl) (by kernel_rfl) (by kernel_rfl) (by kernel_rfl) (fun _ _ _ h => h) (Or.inl ⟨by rfl, ?_⟩) hS1 ?_
      · intro w' hSw
        go_simp
      simp only [Act.put, List.setIfInBounds_toArray, List.set_cons_zero, List.set_cons_succ]
      refine wpAnyK_go (i := 7) (m' := 255) (some 97) (v := .int .i64 (oz.1 : Int)) rfl rfl (by kernel_rfl) (by kernel_rfl) (by kernel_rfl) (by kernel_rfl) (by kernel_rfl) (fun _ _ _ h => h) (Or.inl ⟨by rfl, ?_⟩) hS1 ?_
      · intro w' hSw
        go_simp
      simp only [Act.put, List.setIfInBounds_toArray, List.set_cons_zero, List.set_cons_succ]
      refine wpAnyK_go (i := 8) (m' := 511) (some 98) (v := .int .i64 oz.2) rfl rfl (by kernel_rfl) (by kernel_rfl) (by kernel_rfl) (by kernel_rfl) (by kernel_rfl) (fun _ _ _ h => h) (Or.inl ⟨by rfl, ?_⟩) hS1 ?_
      · intro w' hSw
        go_simp
      simp only [Act.put, List.setIfInBounds_toArray, List.set_cons_zero, List.set_cons_succ]
      refine wpAnyK_go (i := 9) (m' := 1023) (some 22) (v := .int .i64 (oz.1 : Int)) rfl rfl (by kernel_rfl) (by kernel_rfl) (by kernel_rfl) (by kernel_rfl) (by kernel_rfl) (fun _ _ _ h => h) (Or.inl ⟨by rfl, ?_⟩) hS1 ?_
      · intro w' hSw
        go_simp
      simp only [Act.put, List.setIfInBounds_toArray, List.set_cons_zero, List.set_cons_succ]
      refine wpAnyK_go (i := 10) (m' := 2047) (some 23) (v := .int .i64 oz.2) rfl rfl (by kernel_rfl) (by kernel_rfl) (by kernel_rfl) (by kernel_rfl) (by kernel_rfl) (fun _ _ _ h => h) (Or.inl ⟨by rfl, ?_⟩) hS1 ?_
      · intro w' hSw
        go_simp
      simp only [Act.put, List.setIfInBounds_toArray, List.set_cons_zero, List.set_cons_succ]
      refine wpAnyK_done (by kernel_rfl) ?_ _
      clear hS1
      have HIv12 : Hid (Ir G v12 (.slice (some ⟨gr, 0, none⟩) rn capr) (tl ++ [77, 78])) := HIv11.out.keep fun g hg => HLv12.out.block g (HIv11.out.lt g hg).2
      clear HIv11 HLv12 HBv11 hxx hrz
      have CS := same_rows (HZTS.out v12 HIv12.out) (HALL.out v12 HBv12.out).2.2.2.2.2.1 (by have := HLT.out; omega)
      rw [decide_eq_true (rfl : tl = tl)] at CS
      go_upto_region 16 with (first | (go_at_call 10; (with_reducible refine Calls.mono CS ?_); rintro e' v13 ⟨rfl, HN13⟩))
      have HBv13 : Hid (Below W.heap.size W v13) := HBv12.out.trans (HN13.out.mono HBv12.out.size)
      have HIv13 : Hid (Ir G v13 (.slice (some ⟨gr, 0, none⟩) rn capr) (tl ++ [77, 78])) := HIv12.out.keep fun g hg => HN13.out.block g (HIv12.out.lt g hg).2
      clear HBv12 HIv12 HN13 CS
      have k1 : v13.cell? ⟨gr, tl.length, none⟩ = some (.int .i64 77) := by
        rw [HIv13.out.cell (i := tl.length) (by simp)]
        simp [List.getD]
      have k2 : v13.cell? ⟨gr, tl.length + 1, none⟩ = some (.int .i64 78) := by
        rw [HIv13.out.cell (i := tl.length + 1) (by simp)]
        simp [List.getD]
      have i5 : (tl.length : Int) < (rn : Int) := by have := HRN.out.1; omega
      have i6 : (tl.length : Int) + 1 < (rn : Int) := by have := HRN.out.1; omega
      have i7 : (0 : Int) ≤ (tl.length : Int) + 1 := by omega
      have hlt := HLT.out
      go_upto_region 18 with fail
      clear k1 k2 i5 i6 i7
      have hrz : Hid (∀ wr, Below v13.heap.size v13 wr → Zts wr (.slice (some ⟨gr, 0, none⟩) rn capr) (tl ++ [77, 78])) := fun wr hb => by
        have h2 := Ir.zts (w := wr) (k := rn) (B := G) (g := gr) (cap := capr) (l := tl ++ [77, 78]) (by rw [HRN.out.2.2.1]; exact HIv13.out.keep fun g hg => hb.block g (HIv13.out.lt g hg).2) (by rw [HRN.out.2.2.1]; exact HRN.out.2.1) (Nat.le_of_eq HRN.out.2.2.1.symm)
        rw [List.take_of_length_le (Nat.le_of_eq HRN.out.2.2.1)] at h2
        exact h2
      go_upto_region 19 with (first
        | (at_make; go_loud (refine wpList_make_room _ rfl _ _ 25 rfl 3 ti zi 1 Tryz.tyInt.slice hi0 hz0 hk0 .i64 .i64 _ _ 0 rn rfl rfl rfl rfl (by omega) (by have := HRN.out.1; rw [hby0]; omega) (by have := HRN.out.1; unfold maxLen; omega) ?_); intro v14 T hT hs14 hb14 hc14; have HI14 : Hid (Ir T v14 (.slice (some ⟨T, 0, none⟩) 0 rn) []) := ir_made hc14 (Nat.le_refl _) (by have := HRN.out.1; unfold maxLen; omega); have HZ14 : Hid (Zts v14 (.slice (some ⟨gr, 0, none⟩) rn capr) (tl ++ [77, 78])) := hrz.out v14 hb14; have HT14 : Hid (T ≤ v14.heap.size ∧ v13.heap.size = T ∧ Below T v13 v14) := ⟨by omega, hT.symm, by rw [hT]; exact hb14⟩; clear hc14 hs14 hb14 hT)
        | (at_builtin; refine ir_append rfl _ _ rfl rfl HI14.out rfl HZ14.out (by rw [HRN.out.2.2.1]; have := HRN.out.1; simp only [List.length_nil]; omega) HT14.out.1 ?_; intro x15 v15 I15 B15 S15 K15 R15; have HI15 : Hid (Ir T v15 x15 ([] ++ (tl ++ [77, 78]))) := I15; have HB15 : Hid (Below T v13 v15) := HT14.out.2.2.trans B15; clear I15 B15 S15 K15 R15 HI14 HZ14))
      have hI15 := HI15.out
      rw [List.nil_append] at hI15
      obtain ⟨gt, capt, rfl, hct, hgt, hgt2⟩ : ∃ gt capt, x15 = .slice (some ⟨gt, 0, none⟩) rn capt ∧ rn ≤ capt ∧ T ≤ gt ∧ gt < v15.heap.size := by
        rcases hI15.len with ⟨h1, _⟩ | ⟨gt, capt, h1, h2, h3, h4⟩
        · simp at h1
        · rw [HRN.out.2.2.1] at h1 h2
          exact ⟨gt, capt, h1, h2, h3, h4⟩
      have HTT : Hid (v13.heap.size = T ∧ gr < T ∧ T ≤ gt ∧ gr ≠ gt ∧ W.heap.size ≤ gr ∧ W.heap.size ≤ gt ∧ rn ≤ capt) := by
        have h1 := HT14.out.2.1
        have h2 := (HIv13.out.lt gr rfl).2
        have h3 := HBv13.out.size
        have h4 := HRN.out.2.2.2.2
        exact ⟨h1, by omega, hgt, by omega, by omega, by omega, hct⟩
      have HB16 : Hid (Below W.heap.size W v15) := HBv13.out.trans (HB15.out.mono (by have := HTT.out; have := HBv13.out.size; omega))
      have HR16 : Hid (Ir G v15 (.slice (some ⟨gr, 0, none⟩) rn capr) (tl ++ [77, 78])) := HIv13.out.keep fun g hg => by
        have e : gr = g := Option.some.inj hg
        rw [← e]
        exact HB15.out.block gr HTT.out.2.1
      have HS16 : Hid (Ir T v15 (.slice (some ⟨gt, 0, none⟩) rn capt) (tl ++ [77, 78])) := hI15
      clear hI15 HI15 hct hgt hgt2 HT14 HB15 HIv13 HBv13 hrz
      go_upto_region 20 with fail
      go_loopw [26] (fun iv wr => ∃ (i : Nat) (l m : List Int), i ≤ tl.length ∧ iv = .int .i64 i ∧ Hid (Below W.heap.size W wr) ∧ Hid (l.length = rn ∧ m.length = rn ∧ l.take i = m.take i) ∧ Hid (Ir G wr (.slice (some ⟨gr, 0, none⟩) rn capr) l) ∧ Hid (Ir T wr (.slice (some ⟨gt, 0, none⟩) rn capt) m)) (fun iv _ => tl.length - (intOf iv).toNat)
      case atStart => exact ⟨0, _, _, Nat.zero_le _, by go_num, HB16.out, ⟨HRN.out.2.2.1, HRN.out.2.2.1, rfl⟩, HR16.out, HS16.out⟩
      case round =>
        clear HB16 HR16 HS16
        obtain ⟨i, l, m, hi, rfl, HB, HLM, HR, HS⟩ := hrel
        by_cases hil : i < tl.length
        · have i1 : (0 : Int) ≤ (i : Int) := by omega
          have i2 : (i : Int) < (tl.length : Int) := by omega
          have i5 : (i : Int) < (rn : Int) := by have := HRN.out.1; omega
          have k1 := HR.out.cell (i := i) (by have := HLM.out.1; have := HRN.out.1; omega)
          have k2 : wr.frozen? ⟨gr, i, none⟩ = false := HR.out.frozen
          obtain ⟨z, hz⟩ : ∃ z, z = l.getD i 0 := ⟨_, rfl⟩
          rw [← hz] at k1
          clear hz
          go_upto_region 23 with fail
          generalize wrap64 (1 - bits BinOp.and IntKind.i64 z 1) = ez at *
          have HR1 : Hid (Ir G (wr.setCell ⟨gr, i, none⟩ (.int .i64 ez)) (.slice (some ⟨gr, 0, none⟩) rn capr) (l.set i ez)) := HR.out.put i ez
          have HS1 : Hid (Ir T (wr.setCell ⟨gr, i, none⟩ (.int .i64 ez)) (.slice (some ⟨gt, 0, none⟩) rn capt) m) := HS.out.keep fun g hg => by
            have e : gt = g := Option.some.inj hg
            rw [← e]
            exact Below.heap_setCell _ _ _ _ (fun e => HTT.out.2.2.2.1 e.symm)
          have HB1 : Hid (Below W.heap.size W (wr.setCell ⟨gr, i, none⟩ (.int .i64 ez))) := HB.out.setCell (show W.heap.size ≤ gr from HTT.out.2.2.2.2.1) _
          clear HR HS HB k1 k2
          generalize wr.setCell ⟨gr, i, none⟩ (.int .i64 ez) = w17 at *
          have hln : i < l.length ∧ i < m.length := by have := HLM.out.1; have := HLM.out.2.1; have := HRN.out.1; omega
          have k1 : w17.cell? ⟨gr, i, none⟩ = some (.int .i64 ez) := by
            rw [HR1.out.cell (i := i) (by rw [List.length_set]; exact hln.1)]
            simp [List.getD, hln.1]
          have k2 : w17.cell? ⟨gt, i, none⟩ = some (.int .i64 (m.getD i 0)) := HS1.out.cell hln.2
          have k3 : w17.frozen? ⟨gt, i, none⟩ = false := HS1.out.frozen
          have HLM2 : Hid ((l.set i ez).length = rn ∧ (m.set i ez).length = rn ∧ (l.set i ez).take (i + 1) = (m.set i ez).take (i + 1)) := ⟨by rw [List.length_set]; exact HLM.out.1, by rw [List.length_set]; exact HLM.out.2.1, take_set2 HLM.out.2.2 hln.1 hln.2⟩
          have HR2 : Hid (Ir G (w17.setCell ⟨gt, i, none⟩ (.int .i64 ez)) (.slice (some ⟨gr, 0, none⟩) rn capr) (l.set i ez)) := HR1.out.keep fun g hg => by
            have e : gr = g := Option.some.inj hg
            rw [← e]
            exact Below.heap_setCell _ _ _ _ HTT.out.2.2.2.1
          have HS2 : Hid (Ir T (w17.setCell ⟨gt, i, none⟩ (.int .i64 ez)) (.slice (some ⟨gt, 0, none⟩) rn capt) (m.set i ez)) := HS1.out.put i ez
          have HB2 : Hid (Below W.heap.size W (w17.setCell ⟨gt, i, none⟩ (.int .i64 ez))) := HB1.out.setCell (show W.heap.size ≤ gt from HTT.out.2.2.2.2.2.1) _
          clear HR1 HS1 HB1 HLM hln
          go_wp2
          go_roundw
          case rel => exact ⟨i + 1, _, _, hil, by go_num, HB2.out, HLM2.out, HR2.out, HS2.out⟩
          case measure => simp [intOf]; omega
        · obtain rfl : i = tl.length := by omega
          have e3 : ¬ ((tl.length : Int) < (tl.length : Int)) := by omega
          have HQ : Hid (m.take tl.length = l.take tl.length) := HLM.out.2.2.symm
          have HZR : Hid (∀ w2, Ir G w2 (.slice (some ⟨gr, 0, none⟩) rn capr) l → Zts w2 (.slice (some ⟨gr, 0, none⟩) tl.length capr) (l.take tl.length)) := fun w2 h => Ir.zts (k := tl.length) (by rw [HLM.out.1]; exact h) (by rw [HLM.out.1]; exact HRN.out.2.1) (by rw [HLM.out.1]; have := HRN.out.1; omega)
          have HZS : Hid (∀ w2, Ir T w2 (.slice (some ⟨gt, 0, none⟩) rn capt) m → Zts w2 (.slice (some ⟨gt, 0, none⟩) tl.length capt) (l.take tl.length)) := fun w2 h => by
            rw [← HQ.out]
            exact Ir.zts (k := tl.length) (by rw [HLM.out.2.1]; exact h) (by rw [HLM.out.2.1]; exact HTT.out.2.2.2.2.2.2) (by rw [HLM.out.2.1]; have := HRN.out.1; omega)
          obtain ⟨oq, hoq⟩ : ∃ oq, oq = ofD (funD d t) (l.take tl.length) := ⟨_, rfl⟩
          replace hoq : Hid (oq = ofD (funD d t) (l.take tl.length)) := hoq
          have i5 : (tl.length : Int) ≤ (capt : Int) := by have := HTT.out.2.2.2.2.2.2; have := HRN.out.1; omega
          have HBwr : Hid (Below W.heap.size W wr) := HB.out
          clear HB hi
          go_upto_region 24 with fail
          obtain ⟨-, ⟨c0, c1, c2⟩, -, hxx, -, -, -⟩ := HALL.out wr.drew HBwr.out.drew
          have hrz := HZS.out wr.drew (HS.out.keep fun _ _ => rfl)
          have CC := of_ref d _ t wr.drew hxx HNT.out hrz
          rw [← hoq.out] at CC
          have hS0 : (fun w' : World => w'.cell? ⟨X, 0, none⟩ = some (.int .i64 t.1.1) ∧ w'.cell? ⟨X, 1, none⟩ = some (.string ⟨t.1.2.toArray⟩) ∧ w'.cell? ⟨X, 2, none⟩ = some (.slice ad t.2.length cap)) wr.drew := ⟨c0, c1, c2⟩
          clear c0 c1 c2
          refine wp_region_M (S := (fun w' : World => w'.cell? ⟨X, 0, none⟩ = some (.int .i64 t.1.1) ∧ w'.cell? ⟨X, 1, none⟩ = some (.string ⟨t.1.2.toArray⟩) ∧ w'.cell? ⟨X, 2, none⟩ = some (.slice ad t.2.length cap))) (L := 11) (n := 11) (by kernel_rfl) rfl (by kernel_rfl) ?_
          generalize hdr : wr.drew = wd at *
          refine wpAnyK_go (i := 0) (m' := 1) (some 172) (v := .agg #[.int .i64 t.1.1, .string ⟨t.1.2.toArray⟩, .slice ad t.2.length cap]) rfl rfl (by kernel_rfl) (by kernel_rfl) (by kernel_rfl) (by kernel_rfl) (by kernel_rfl) (fun _ _ _ h => h) (Or.inl ⟨by rfl, ?_⟩) hS0 ?_
          · intro w' hSw
            obtain ⟨s1, s2, s3⟩ := hSw
            go_simp
          simp only [Act.put, List.setIfInBounds_toArray, List.set_cons_zero, List.set_cons_succ]
          refine wpAnyK_go (i := 1) (m' := 3) (some 173) (v := .slice (some ⟨gt, 0, none⟩) rn capt) rfl rfl (by kernel_rfl) (by kernel_rfl) (by kernel_rfl) (by kernel_rfl) (by kernel_rfl) (fun _ _ _ h => h) (Or.inl ⟨by rfl, ?_⟩) hS0 ?_
          · intro w' hSw
            go_simp
          simp only [Act.put, List.setIfInBounds_toArray, List.set_cons_zero, List.set_cons_succ]
          refine wpAnyK_go (i := 2) (m' := 7) (some 174) (v := .slice tad tl.length tcap) rfl rfl (by kernel_rfl) (by kernel_rfl) (by kernel_rfl) (by kernel_rfl) (by kernel_rfl) (fun _ _ _ h => h) (Or.inl ⟨by rfl, ?_⟩) hS0 ?_
          · intro w' hSw
            go_simp
          simp only [Act.put, List.setIfInBounds_toArray, List.set_cons_zero, List.set_cons_succ]
          refine wpAnyK_go (i := 3) (m' := 15) (some 175) (v := .int .i64 (tl.length : Int)) rfl rfl (by kernel_rfl) (by kernel_rfl) (by kernel_rfl) (by kernel_rfl) (by kernel_rfl) (fun _ _ _ h => h) (Or.inl ⟨by rfl, ?_⟩) hS0 ?_
          · intro w' hSw
            go_simp
          simp only [Act.put, List.setIfInBounds_toArray, List.set_cons_zero, List.set_cons_succ]
          refine wpAnyK_go (i := 4) (m' := 31) (some 176) (v := .slice (some ⟨gt, 0, none⟩) tl.length capt) rfl rfl (by kernel_rfl) (by kernel_rfl) (by kernel_rfl) (by kernel_rfl) (by kernel_rfl) (fun _ _ _ h => h) (Or.inl ⟨by rfl, ?_⟩) hS0 ?_
          · intro w' hSw
            go_simp
          simp only [Act.put, List.setIfInBounds_toArray, List.set_cons_zero, List.set_cons_succ]
          refine wpAnyK_only (i := 5) (m' := 63) (by kernel_rfl) rfl (by kernel_rfl) fun K hK => ?_
          go_simp
          (with_reducible refine Calls.mono CC ?_)
          rintro e' v18 ⟨rfl, HN⟩
          have HBv18 : Hid (Below W.heap.size W v18) := by rw [← hdr] at HN; exact HBwr.out.drew.trans (HN.out.mono HBwr.out.size)
          have HLv18 : Hid (Below wr.heap.size wr v18) := by rw [← hdr] at HN; exact (Below.refl _ _).drew.trans HN.out
          obtain ⟨-, hS1, -, -, -, -, -⟩ := HALL.out v18 HBv18.out
          go_simp
          refine hK.out _ _ (fun _ => hS1) ?_
          clear hK K CC hS0 HN hdr
          refine wpAnyK_go (i := 6) (m' := 127) (some 171) (v := .tuple #[.int .i64 (oq.1 : Int), .int .i64 oq.2]) rfl rfl (by kernel_rfl) (by kernel_rfl) (by kernel_rfl) (by kernel_rfl) (by kernel_rfl) (fun _ _ _ h => h) (Or.inl ⟨by rfl, ?_⟩) hS1 ?_
          · intro w' hSw
            go_simp
          simp only [Act.put, List.setIfInBounds_toArray, List.set_cons_zero, List.set_cons_succ]
          refine wpAnyK_go (i := 7) (m' := 255) (some 178) (v := .int .i64 (oq.1 : Int)) rfl rfl (by kernel_rfl) (by kernel_rfl) (by kernel_rfl) (by kernel_rfl) (by kernel_rfl) (fun _ _ _ h => h) (Or.inl ⟨by rfl, ?_⟩) hS1 ?_
          · intro w' hSw
            go_simp
          simp only [Act.put, List.setIfInBounds_toArray, List.set_cons_zero, List.set_cons_succ]
          refine wpAnyK_go (i := 8) (m' := 511) (some 179) (v := .int .i64 oq.2) rfl rfl (by kernel_rfl) (by kernel_rfl) (by kernel_rfl) (by kernel_rfl) (by kernel_rfl) (fun _ _ _ h => h) (Or.inl ⟨by rfl, ?_⟩) hS1 ?_
          · intro w' hSw
            go_simp
          simp only [Act.put, List.setIfInBounds_toArray, List.set_cons_zero, List.set_cons_succ]
          refine wpAnyK_go (i := 9) (m' := 1023) (some 27) (v := .int .i64 (oq.1 : Int)) rfl rfl (by kernel_rfl) (by kernel_rfl) (by kernel_rfl) (by kernel_rfl) (by kernel_rfl) (fun _ _ _ h => h) (Or.inl ⟨by rfl, ?_⟩) hS1 ?_
          · intro w' hSw
            go_simp
          simp only [Act.put, List.setIfInBounds_toArray, List.set_cons_zero, List.set_cons_succ]
          refine wpAnyK_go (i := 10) (m' := 2047) (some 28) (v := .int .i64 oq.2) rfl rfl (by kernel_rfl) (by kernel_rfl) (by kernel_rfl) (by kernel_rfl) (by kernel_rfl) (fun _ _ _ h => h) (Or.inl ⟨by rfl, ?_⟩) hS1 ?_
          · intro w' hSw
            go_simp
          simp only [Act.put, List.setIfInBounds_toArray, List.set_cons_zero, List.set_cons_succ]
          refine wpAnyK_done (by kernel_rfl) ?_ _
          clear hS1
          have HR18 : Hid (Ir G v18 (.slice (some ⟨gr, 0, none⟩) rn capr) l) := HR.out.keep fun g hg => HLv18.out.block g (HR.out.lt g hg).2
          clear HR HS HLv18 HBwr hxx hrz
          go_upto_region 25 with fail
          obtain ⟨-, ⟨c0, c1, c2⟩, -, hxx, -, -, -⟩ := HALL.out v18.drew HBv18.out.drew
          have hrz := HZR.out v18.drew (HR18.out.keep fun _ _ => rfl)
          have CC := of_all d _ t v18.drew hxx HNT.out hrz
          rw [← hoq.out] at CC
          have hS0 : (fun w' : World => w'.cell? ⟨X, 0, none⟩ = some (.int .i64 t.1.1) ∧ w'.cell? ⟨X, 1, none⟩ = some (.string ⟨t.1.2.toArray⟩) ∧ w'.cell? ⟨X, 2, none⟩ = some (.slice ad t.2.length cap)) v18.drew := ⟨c0, c1, c2⟩
          clear c0 c1 c2
          refine wp_region_M (S := (fun w' : World => w'.cell? ⟨X, 0, none⟩ = some (.int .i64 t.1.1) ∧ w'.cell? ⟨X, 1, none⟩ = some (.string ⟨t.1.2.toArray⟩) ∧ w'.cell? ⟨X, 2, none⟩ = some (.slice ad t.2.length cap))) (L := 11) (n := 11) (by kernel_rfl) rfl (by kernel_rfl) ?_
          generalize hdr : v18.drew = wd at *
          refine wpAnyK_go (i := 0) (m' := 1) (some 181) (v := .agg #[.int .i64 t.1.1, .string ⟨t.1.2.toArray⟩, .slice ad t.2.length cap]) rfl rfl (by kernel_rfl) (by kernel_rfl) (by kernel_rfl) (by kernel_rfl) (by kernel_rfl) (fun _ _ _ h => h) (Or.inl ⟨by rfl, ?_⟩) hS0 ?_
          · intro w' hSw
            obtain ⟨s1, s2, s3⟩ := hSw
            go_simp
          simp only [Act.put, List.setIfInBounds_toArray, List.set_cons_zero, List.set_cons_succ]
          refine wpAnyK_go (i := 1) (m' := 3) (some 182) (v := .slice (some ⟨gr, 0, none⟩) rn capr) rfl rfl (by kernel_rfl) (by kernel_rfl) (by kernel_rfl) (by kernel_rfl) (by kernel_rfl) (fun _ _ _ h => h) (Or.inl ⟨by rfl, ?_⟩) hS0 ?_
          · intro w' hSw
            go_simp
          simp only [Act.put, List.setIfInBounds_toArray, List.set_cons_zero, List.set_cons_succ]
          refine wpAnyK_go (i := 2) (m' := 7) (some 183) (v := .slice tad tl.length tcap) rfl rfl (by kernel_rfl) (by kernel_rfl) (by kernel_rfl) (by kernel_rfl) (by kernel_rfl) (fun _ _ _ h => h) (Or.inl ⟨by rfl, ?_⟩) hS0 ?_
          · intro w' hSw
            go_simp
          simp only [Act.put, List.setIfInBounds_toArray, List.set_cons_zero, List.set_cons_succ]
          refine wpAnyK_go (i := 3) (m' := 15) (some 184) (v := .int .i64 (tl.length : Int)) rfl rfl (by kernel_rfl) (by kernel_rfl) (by kernel_rfl) (by kernel_rfl) (by kernel_rfl) (fun _ _ _ h => h) (Or.inl ⟨by rfl, ?_⟩) hS0 ?_
          · intro w' hSw
            go_simp
          simp only [Act.put, List.setIfInBounds_toArray, List.set_cons_zero, List.set_cons_succ]
          refine wpAnyK_go (i := 4) (m' := 31) (some 185) (v := .slice (some ⟨gr, 0, none⟩) tl.length capr) rfl rfl (by kernel_rfl) (by kernel_rfl) (by kernel_rfl) (by kernel_rfl) (by kernel_rfl) (fun _ _ _ h => h) (Or.inl ⟨by rfl, ?_⟩) hS0 ?_
          · intro w' hSw
            go_simp
          simp only [Act.put, List.setIfInBounds_toArray, List.set_cons_zero, List.set_cons_succ]
          refine wpAnyK_only (i := 5) (m' := 63) (by kernel_rfl) rfl (by kernel_rfl) fun K hK => ?_
          go_simp
          (with_reducible refine Calls.mono CC ?_)
          rintro e' v19 ⟨rfl, HN⟩
          have HBv19 : Hid (Below W.heap.size W v19) := by rw [← hdr] at HN; exact HBv18.out.drew.trans (HN.out.mono HBv18.out.size)
          have HLv19 : Hid (Below v18.heap.size v18 v19) := by rw [← hdr] at HN; exact (Below.refl _ _).drew.trans HN.out
          obtain ⟨-, hS1, -, -, -, -, -⟩ := HALL.out v19 HBv19.out
          go_simp
          refine hK.out _ _ (fun _ => hS1) ?_
          clear hK K CC hS0 HN hdr
          refine wpAnyK_go (i := 6) (m' := 127) (some 180) (v := .tuple #[.int .i64 (oq.1 : Int), .int .i64 oq.2]) rfl rfl (by kernel_rfl) (by kernel_rfl) (by kernel_rfl) (by kernel_rfl) (by kernel_rfl) (fun _ _ _ h => h) (Or.inl ⟨by rfl, ?_⟩) hS1 ?_
          · intro w' hSw
            go_simp
          simp only [Act.put, List.setIfInBounds_toArray, List.set_cons_zero, List.set_cons_succ]
          refine wpAnyK_go (i := 7) (m' := 255) (some 187) (v := .int .i64 (oq.1 : Int)) rfl rfl (by kernel_rfl) (by kernel_rfl) (by kernel_rfl) (by kernel_rfl) (by kernel_rfl) (fun _ _ _ h => h) (Or.inl ⟨by rfl, ?_⟩) hS1 ?_
          · intro w' hSw
            go_simp
          simp only [Act.put, List.setIfInBounds_toArray, List.set_cons_zero, List.set_cons_succ]
          refine wpAnyK_go (i := 8) (m' := 511) (some 188) (v := .int .i64 oq.2) rfl rfl (by kernel_rfl) (by kernel_rfl) (by kernel_rfl) (by kernel_rfl) (by kernel_rfl) (fun _ _ _ h => h) (Or.inl ⟨by rfl, ?_⟩) hS1 ?_
          · intro w' hSw
            go_simp
          simp only [Act.put, List.setIfInBounds_toArray, List.set_cons_zero, List.set_cons_succ]
          refine wpAnyK_go (i := 9) (m' := 1023) (some 29) (v := .int .i64 (oq.1 : Int)) rfl rfl (by kernel_rfl) (by kernel_rfl) (by kernel_rfl) (by kernel_rfl) (by kernel_rfl) (fun _ _ _ h => h) (Or.inl ⟨by rfl, ?_⟩) hS1 ?_
          · intro w' hSw
            go_simp
          simp only [Act.put, List.setIfInBounds_toArray, List.set_cons_zero, List.set_cons_succ]
          refine wpAnyK_go (i := 10) (m' := 2047) (some 30) (v := .int .i64 oq.2) rfl rfl (by kernel_rfl) (by kernel_rfl) (by kernel_rfl) (by kernel_rfl) (by kernel_rfl) (fun _ _ _ h => h) (Or.inl ⟨by rfl, ?_⟩) hS1 ?_
          · intro w' hSw
            go_simp
          simp only [Act.put, List.setIfInBounds_toArray, List.set_cons_zero, List.set_cons_succ]
          refine wpAnyK_done (by kernel_rfl) ?_ _
          clear hS1
          clear HR18 HLv19 HBv18 hxx hrz
          go_upto_region 26 with fail
          obtain ⟨hbw, ⟨c0, c1, c2⟩, -, -, -, -, -⟩ := HALL.out v19 HBv19.out
          have CE := HED.out v19 hbw HNT.out
          clear hbw
          go_upto_region 27 with (first | (go_at_call 11; (with_reducible refine Calls.mono CE ?_); rintro e' v20 ⟨rfl, HN20⟩))
          have HB20 : Hid (Below W.heap.size W v20) := HBv19.out.trans (HN20.out.mono HBv19.out.size)
          obtain ⟨hbe, -⟩ := HALL.out v20 HB20.out
          have HBE : Hid (Below w.heap.size w v20) := hbe
          clear hbe c0 c1 c2 CE HN20
          go_wp2
          refine bodyPost_ret (v := .bool true) (by simp [results, Tryz.results3, go_sem]) rfl ?_
          exact ⟨rfl, HBE.out⟩
end Go.Proofs.YtgdflaapgfpdeaaGreatDoor

namespace Go.Proofs.YtgdflaapgfpdeaaGreatDoor
open Go.RowKit

/-- A slice as it is: nothing is said of what it leads to. -/
def ERaw : Elt Value where
  k := 1
  C _ _ cs x := cs = [x] ∧ x.oneCell' = true
  len := by rintro _ _ _ _ ⟨rfl, _⟩; rfl
  one := by rintro _ _ _ _ ⟨rfl, h⟩ u hu; rw [List.mem_singleton.1 hu]; exact h
  on := fun _ _ h => h
/-- A made row of numbers that are not negative is a made row of numbers. -/
theorem ownN_ir {B : Nat} {S : Nat → Prop} {w : World} {v : Value} {l : List Nat} (h : OwnN ENat 3 B S w v l) : Ir B w v (ofN l) := by
  obtain ⟨css, h1, h2⟩ := h.row
  have e : css = (ofN l).map fun x => [Value.int .i64 x] := by
    refine List.ext_getElem (by simp [h1.1, ofN]) fun i a b => ?_
    rw [List.getElem_map]
    have := h1.2 i a (by simpa [ofN] using b)
    rw [show css[i] = [Value.int .i64 (l[i]'(by simpa [ofN] using b) : Nat)] from this]
    simp [ofN]
  rw [e, flat_ones] at h2
  unfold Ir
  rw [ofN_len]
  exact h2
/-- A made row, whether it has a block or not, is a row to be read. -/
theorem Ir.read {B : Nat} {w : World} {v : Value} {l : List Int} (h : Ir B w v l) : Zts w v l := by
  rcases h.len with ⟨rfl, rfl⟩ | ⟨g, cap, rfl, hc, _, _⟩
  · exact ⟨none, 0, rfl, fun i hi => by simp at hi⟩
  · have := h.zts hc (Nat.le_refl _)
    rwa [List.take_length] at this
/-- Rows of numbers that were made, each in a block that no other has. -/
structure Fam (B : Nat) (w : World) (vs : List Value) (ls : List (List Int)) : Prop where
  len : vs.length = ls.length
  row : ∀ i, i < vs.length → Ir B w (vs.getD i undef) (ls.getD i [])
  apart : ∀ i j g, i < vs.length → j < vs.length → i ≠ j → (vs.getD i undef).ownBlock = some g → (vs.getD j undef).ownBlock ≠ some g
theorem Fam.nil (B : Nat) (w : World) : Fam B w [] [] := ⟨rfl, fun i h => by simp at h, fun i j g h => by simp at h⟩
theorem Fam.keep {B : Nat} {w w' : World} {vs : List Value} {ls : List (List Int)} (h : Fam B w vs ls) (hk : ∀ i g, i < vs.length → (vs.getD i undef).ownBlock = some g → w'.heap[g]? = w.heap[g]?) : Fam B w' vs ls := ⟨h.len, fun i hi => (h.row i hi).keep fun g e => hk i g hi e, h.apart⟩
theorem Fam.below {B : Nat} {w w' : World} {vs : List Value} {ls : List (List Int)} (h : Fam B w vs ls) (hb : Below w.heap.size w w') : Fam B w' vs ls := h.keep fun i g hi e => hb.block g ((h.row i hi).lt g e).2
/-- One row more, in a block that is new to all. -/
theorem Fam.more {B : Nat} {w : World} {vs : List Value} {ls : List (List Int)} {v : Value} {l : List Int} (h : Fam B w vs ls) (hv : Ir B w v l) (ha : ∀ i g, i < vs.length → (vs.getD i undef).ownBlock = some g → v.ownBlock ≠ some g) : Fam B w (vs ++ [v]) (ls ++ [l]) := by
  have e1 : ∀ i, i < vs.length → (vs ++ [v]).getD i undef = vs.getD i undef := fun i hi => by simp [List.getD, List.getElem?_append_left hi]
  have e2 : (vs ++ [v]).getD vs.length undef = v := by simp [List.getD]
  have f1 : ∀ i, i < ls.length → (ls ++ [l]).getD i [] = ls.getD i [] := fun i hi => by simp [List.getD, List.getElem?_append_left hi]
  have f2 : (ls ++ [l]).getD ls.length [] = l := by simp [List.getD]
  have hl := h.len
  refine ⟨by simp [hl], fun i hi => ?_, fun i j g hi hj hij e => ?_⟩
  · rw [List.length_append, List.length_singleton] at hi
    rcases Nat.lt_succ_iff_lt_or_eq.1 hi with h1 | rfl
    · rw [e1 i h1, f1 i (by omega)]
      exact h.row i h1
    · rw [e2, hl, f2]
      exact hv
  · rw [List.length_append, List.length_singleton] at hi hj
    rcases Nat.lt_succ_iff_lt_or_eq.1 hi with h1 | rfl
    · rw [e1 i h1] at e
      rcases Nat.lt_succ_iff_lt_or_eq.1 hj with h2 | rfl
      · rw [e1 j h2]
        exact h.apart i j g h1 h2 hij e
      · rw [e2]
        exact ha i g h1 e
    · rw [e2] at e
      rcases Nat.lt_succ_iff_lt_or_eq.1 hj with h2 | rfl
      · rw [e1 j h2]
        exact fun e3 => ha j g h2 e3 e
      · exact absurd rfl hij
/-- A number is written into one of the rows. -/
theorem Fam.put {B : Nat} {w : World} {vs : List Value} {ls : List (List Int)} (h : Fam B w vs ls) {k : Nat} (hk : k < vs.length) {g n cap : Nat} (e : vs.getD k undef = .slice (some ⟨g, 0, none⟩) n cap) (i : Nat) (x : Int) : Fam B (w.setCell ⟨g, i, none⟩ (.int .i64 x)) vs (ls.set k ((ls.getD k []).set i x)) := by
  have hl := h.len
  refine ⟨by rw [List.length_set]; exact hl, fun j hj => ?_, h.apart⟩
  by_cases hjk : j = k
  · subst hjk
    have e1 : (ls.set j ((ls.getD j []).set i x)).getD j [] = (ls.getD j []).set i x := by simp [List.getD, show j < ls.length by omega]
    rw [e1, e]
    have := h.row j hk
    rw [e] at this
    exact this.put i x
  · have e1 : (ls.set k ((ls.getD k []).set i x)).getD j [] = ls.getD j [] := by
      simp only [List.getD, List.getElem?_set_ne (fun e => hjk e.symm)]
    rw [e1]
    refine (h.row j hj).keep fun g2 e2 => Below.heap_setCell _ _ _ _ fun e3 => ?_
    subst e3
    exact h.apart j k _ hj hk hjk e2 (by rw [e]; rfl)
end Go.Proofs.YtgdflaapgfpdeaaGreatDoor

namespace Go.Proofs.YtgdflaapgfpdeaaGreatDoor
open Go.RowKit

theorem Tryz.ty45r : Ty 45 25 ERaw.k 24 := by
  obtain ⟨i, hi, h0, h1, h2⟩ := info_parts (show (Tryz.prog.info? 25).map (fun i => (i.zero, i.size, i.bytes)) = some (some (.slice none 0 0), 1, 24) by kernel_rfl)
  exact ⟨Tryz.underlying45, ⟨i, _, hi, h0, h1, h2, rfl⟩, by decide, by decide⟩
/-- append(x, y), x being a row of slices, y a slice that was just laid in a block of its own. -/
theorem raw_append {ops : Array Oper} {rest : List Oper} {o : Oper} {a : Act} {Q : Exit → Act → World → Prop} {w2 : World} {B : Nat} (hgd : o.guard = none) (s x : Operand)
    (ho : o.op = .call { callee := .builtin .append, args := #[s, x], argTypes := #[45, 45] }) {v p : Value} {l : List Value} {cap : Nat} (hs : a.eval s = v) (hown : OwnN ERaw 25 B (fun _ => False) w2 v l) (hB : B ≤ w2.heap.size) (hx : a.eval x = .slice (some ⟨w2.heap.size, 0, none⟩) 1 cap) (hp : p.oneCell' = true) (hcap : 1 ≤ cap) (hl : l.length + 1 ≤ 10000000)
    (h : ∀ v' w', OwnN ERaw 25 B (fun _ => False) w' v' (l ++ [p]) → Below B w2 w' → w2.heap.size ≤ w'.heap.size → (∀ y, y < w2.heap.size → v.ownBlock ≠ some y → w'.heap[y]? = w2.heap[y]?) → (v'.ownBlock = v.ownBlock ∨ ∃ g, v'.ownBlock = some g ∧ w2.heap.size ≤ g) → wpList Tryz.prog ops Q rest (a.put o.dst v') w') : wpList Tryz.prog ops Q (o :: rest) a (w2.alloc (.cells #[p] 25)) := by
  have hb2 : Below w2.heap.size w2 (w2.alloc (.cells #[p] 25)) := (Below.refl _ _).alloc (Nat.le_refl _) _
  have hs2 : (w2.alloc (.cells #[p] 25)).heap.size = w2.heap.size + 1 := World.size_alloc _ _
  have O2 : OwnN ERaw 25 B (fun _ => False) (w2.alloc (.cells #[p] 25)) v l := hown.on (fun _ h => h.elim) hB hb2
  refine wpList_append_E (Z := fun y => y = w2.heap.size) Tryz.ty45r hgd s x ho hs O2 hx (RowE.new (cs := [p]) ⟨rfl, hp⟩ (new_blk _ _) hcap) hl (by omega) (Nwr.lt (fun _ h => h.elim) (by omega)) ?_
  intro v' w' O K1 K2 G
  have hsz : w2.heap.size ≤ w'.heap.size := by have := K1.size; omega
  refine h v' w' ?_ ((hb2.mono hB).trans K1) hsz (fun y hy hne => (K2 y (by omega) hne).trans (hb2.block y hy)) (G.imp id fun ⟨g, e, hg⟩ => ⟨g, e, by omega⟩)
  refine O.up (fun y hy => hy.imp id fun h => ⟨h.1, Nat.lt_of_lt_of_le h.2.1 K1.size, ?_⟩) fun y hy e => ?_
  · rcases G with G | ⟨g, G, hg⟩
    · rw [G]; exact h.2.2
    · rw [G]; intro e; injection e with e; have := h.2.1; omega
  · rcases hy with hy | hy
    · exact hy.elim
    · exact hy.2.2 e
end Go.Proofs.YtgdflaapgfpdeaaGreatDoor

namespace Go.Proofs.YtgdflaapgfpdeaaGreatDoor
open Go.RowKit

/-- A made row of slices as they are. -/
def Rr (B : Nat) (w : World) (v : Value) (l : List Value) : Prop := w.ownsRow B 25 1 v l.length l ∧ ∀ u ∈ l, u.oneCell' = true
theorem raw_ones (l : List Value) : (l.map fun x => [x]).flatten = l := by
  induction l with
  | nil => rfl
  | cons a r ih => simp [ih]
theorem own_rr {B : Nat} {S : Nat → Prop} {w : World} {v : Value} {l : List Value} (h : OwnN ERaw 25 B S w v l) : Rr B w v l := by
  obtain ⟨css, h1, h2⟩ := h.row
  have e : css = l.map fun x => [x] := by
    refine List.ext_getElem (by simp [h1.1]) fun i a b => ?_
    rw [List.getElem_map]
    exact (h1.2 i a (by simpa using b)).1
  rw [e, raw_ones] at h2
  refine ⟨h2, fun u hu => ?_⟩
  obtain ⟨i, hi, rfl⟩ := List.getElem_of_mem hu
  exact (h1.2 i (by rw [h1.1]; exact hi) hi).2
theorem rr_own {B : Nat} {w : World} {v : Value} {l : List Value} (h : Rr B w v l) : OwnN ERaw 25 B (fun _ => False) w v l := by
  refine ⟨⟨l.map fun x => [x], ⟨by simp, fun i a b => ?_⟩, ?_⟩, fun y hy e => ?_⟩
  · rw [List.getElem_map]
    exact ⟨rfl, h.2 _ (List.getElem_mem _)⟩
  · rw [raw_ones]
    exact h.1
  · rcases hy with hy | hy
    · exact hy.elim
    · exact hy.2.2 e
theorem Rr.lt {B : Nat} {w : World} {v : Value} {l : List Value} (h : Rr B w v l) : ∀ g, v.ownBlock = some g → B ≤ g ∧ g < w.heap.size := World.ownsRow.lt h.1
theorem Rr.keep {B : Nat} {w w' : World} {v : Value} {l : List Value} (h : Rr B w v l) (hk : ∀ g, v.ownBlock = some g → w'.heap[g]? = w.heap[g]?) : Rr B w' v l := ⟨owns_on h.1 hk, h.2⟩
theorem Rr.cell {B : Nat} {w : World} {g n cap : Nat} {l : List Value} (h : Rr B w (.slice (some ⟨g, 0, none⟩) n cap) l) {i : Nat} (hi : i < l.length) : w.cell? ⟨g, i, none⟩ = some (l.getD i undef) := by
  rcases id h.1.2 with ⟨h1, h2⟩ | ⟨g', cap', cur, h1, h2, h3, h4, h5, h6, h7⟩
  · cases h1
  · obtain ⟨e1, -, -⟩ := Value.slice.inj h1
    simp only [Option.some.injEq, Addr.mk.injEq, and_true] at e1
    subst e1
    have h8 : l[i]? = some (l.getD i undef) := by simp [List.getD, hi]
    rw [← h7, Nat.mul_one, List.getElem?_take_of_lt hi] at h8
    refine heap_cl h3 ?_
    rw [← h7, Nat.mul_one]
    simpa using h8
/-- Two rows of slices, and the rows that these lead to, all in blocks of their own. -/
structure Ed2 (B : Nat) (w : World) (ov wv : Value) (ys xs zs : List Value) (ls : List (List Int)) : Prop where
  out : Rr B w ov ys
  want : Rr B w wv xs
  fam : Fam B w zs ls
  apart : ∀ i g, i < zs.length → (zs.getD i undef).ownBlock = some g → ov.ownBlock ≠ some g ∧ wv.ownBlock ≠ some g
  two : ∀ g, ov.ownBlock = some g → wv.ownBlock ≠ some g
theorem Ed2.swap {B : Nat} {w : World} {ov wv : Value} {ys xs zs : List Value} {ls : List (List Int)} (h : Ed2 B w ov wv ys xs zs ls) : Ed2 B w wv ov xs ys zs ls := ⟨h.want, h.out, h.fam, fun i g hi e => (h.apart i g hi e).symm, fun g e1 e2 => h.two g e2 e1⟩
theorem Ed2.below {B : Nat} {w w' : World} {ov wv : Value} {ys xs zs : List Value} {ls : List (List Int)} (h : Ed2 B w ov wv ys xs zs ls) (hb : Below w.heap.size w w') : Ed2 B w' ov wv ys xs zs ls := ⟨h.out.keep fun g e => hb.block g (h.out.lt g e).2, h.want.keep fun g e => hb.block g (h.want.lt g e).2, h.fam.below hb, h.apart, h.two⟩
/-- One row more, which out leads to. -/
theorem Ed2.add {B : Nat} {w w' : World} {ov ov' wv : Value} {ys xs zs : List Value} {ls : List (List Int)} (h : Ed2 B w ov wv ys xs zs ls) {p : Value} {l : List Int} (hp : Ir B w p l) (hnew : ∀ g, p.ownBlock = some g → (∀ i, i < zs.length → (zs.getD i undef).ownBlock ≠ some g) ∧ ov.ownBlock ≠ some g ∧ wv.ownBlock ≠ some g) (O : Rr B w' ov' (ys ++ [p])) (K : ∀ y, y < w.heap.size → ov.ownBlock ≠ some y → w'.heap[y]? = w.heap[y]?) (G : ov'.ownBlock = ov.ownBlock ∨ ∃ g, ov'.ownBlock = some g ∧ w.heap.size ≤ g) : Ed2 B w' ov' wv (ys ++ [p]) xs (zs ++ [p]) (ls ++ [l]) := by
  have hkz : ∀ i g, i < zs.length → (zs.getD i undef).ownBlock = some g → w'.heap[g]? = w.heap[g]? := fun i g hi e => K g ((h.fam.row i hi).lt g e).2 (h.apart i g hi e).1
  have hov : ∀ g, g < w.heap.size → ov.ownBlock ≠ some g → ov'.ownBlock ≠ some g := fun g hg hne e => by
    rcases G with G | ⟨g2, G, hg2⟩
    · exact hne (by rw [← G]; exact e)
    · rw [G] at e
      injection e with e
      omega
  have e1 : ∀ i, i < zs.length → (zs ++ [p]).getD i undef = zs.getD i undef := fun i hi => by simp [List.getD, List.getElem?_append_left hi]
  have e2 : (zs ++ [p]).getD zs.length undef = p := by simp [List.getD]
  refine ⟨O, h.want.keep fun g e => K g (h.want.lt g e).2 fun e3 => h.two g e3 e, (h.fam.keep hkz).more (hp.keep fun g e => K g (hp.lt g e).2 (hnew g e).2.1) fun i g hi e1 e2 => (hnew g e2).1 i hi e1, fun i g hi e => ?_, fun g e3 e4 => ?_⟩
  · rw [List.length_append, List.length_singleton] at hi
    rcases Nat.lt_succ_iff_lt_or_eq.1 hi with h1 | rfl
    · rw [e1 i h1] at e
      exact ⟨hov g ((h.fam.row i h1).lt g e).2 (h.apart i g h1 e).1, (h.apart i g h1 e).2⟩
    · rw [e2] at e
      exact ⟨hov g (hp.lt g e).2 (hnew g e).2.1, (hnew g e).2.2⟩
  · rcases G with G | ⟨g2, G, hg2⟩
    · exact h.two g (by rw [← G]; exact e3) e4
    · rw [G] at e3
      injection e3 with e3
      have := (h.want.lt g e4).2
      omega
end Go.Proofs.YtgdflaapgfpdeaaGreatDoor

namespace Go.Proofs.YtgdflaapgfpdeaaGreatDoor
open Go.RowKit

theorem edgeD_len {d : Nat} {t : Tn (d + 1)} (f v : Int) : (edgeD (funD d t) f v).1.length ≤ 40 := by
  cases h : funD d t with
  | none => exact Nat.zero_le _
  | some D =>
    obtain ⟨_, _, A, C, _, _, _, _, rfl, h6, _, _⟩ := fun_parts h
    show (if _ then _ else _ : List Nat × Int).1.length ≤ 40
    split
    · exact Nat.le_trans (edge_len _ _ _ _ _) h6.few
    · exact Nat.zero_le _
theorem getD_left {α : Type} {l m : List α} {i : Nat} {e : α} (h : i < l.length) : (l ++ m).getD i e = l.getD i e := by simp [List.getD, List.getElem?_append_left h]
theorem getD_right {α : Type} {l m : List α} {i j : Nat} {e : α} (h : i = l.length + j) : (l ++ m).getD i e = m.getD j e := by
  subst h
  simp only [List.getD]
  rw [List.getElem?_append_right (by omega), Nat.add_sub_cancel_left]
def EdS (k : Nat) (ys xs zs : List Value) (ls : List (List Int)) : Prop := ys.length = k ∧ xs.length = k ∧ zs.length = 2 * k ∧ (∀ i, i < k → zs.getD (2 * i) undef = ys.getD i undef ∧ zs.getD (2 * i + 1) undef = xs.getD i undef ∧ ls.getD (2 * i) [] = ls.getD (2 * i + 1) []) ∧ ∀ l ∈ ls, l.length ≤ 40
theorem EdS.more {k : Nat} {ys xs zs : List Value} {ls : List (List Int)} {y x : Value} {l : List Int} (h : EdS k ys xs zs ls) (hl : l.length ≤ 40) (hz : zs.length = ls.length) : EdS (k + 1) (ys ++ [y]) (xs ++ [x]) ((zs ++ [y]) ++ [x]) ((ls ++ [l]) ++ [l]) := by
  obtain ⟨h1, h2, h3, h4, h5⟩ := h
  refine ⟨by simp [h1], by simp [h2], by simp [h3]; omega, fun i hi => ?_, fun m hm => ?_⟩
  · rw [List.append_assoc, List.append_assoc]
    rcases Nat.lt_succ_iff_lt_or_eq.1 hi with h6 | rfl
    · obtain ⟨e1, e2, e3⟩ := h4 i h6
      rw [getD_left (by omega), getD_left (by omega), getD_left (by omega), getD_left (by omega), getD_left (by omega), getD_left (by omega)]
      exact ⟨e1, e2, e3⟩
    · exact ⟨(getD_right (l := zs) (m := [y] ++ [x]) (j := 0) (by omega)).trans (getD_right (l := ys) (m := [y]) (j := 0) (by omega)).symm, (getD_right (l := zs) (m := [y] ++ [x]) (j := 1) (by omega)).trans (getD_right (l := xs) (m := [x]) (j := 0) (by omega)).symm, (getD_right (l := ls) (m := [l] ++ [l]) (j := 0) (by omega)).trans (getD_right (l := ls) (m := [l] ++ [l]) (j := 1) (by omega)).symm⟩
  · simp only [List.mem_append, List.mem_singleton] at hm
    rcases hm with (hm | rfl) | rfl
    · exact h5 m hm
    · exact hl
    · exact hl
end Go.Proofs.YtgdflaapgfpdeaaGreatDoor
