/- LatticeMaps answers true. The reference's is, Below, Join. -/
import Derived.Test.YtgdflaapgfpdeaaGreatDoorMyx
namespace Go.Proofs.YtgdflaapgfpdeaaGreatDoor
open Go.RowKit

theorem size_some {d : Nat} {x : Value} {t : Tn (d + 1)} {w : World} {D : OrdD} (hx : TyAt w w.heap.size (d + 1) x t) (hN : (flat (d + 1) t).length ≤ 4194304) (hD : orderD (d + 1) t = some D) : Calls Tryz.prog 12 #[x] w fun r w' => r = .returned (.tuple #[.int .i64 (D.1.length : Int), .int .i64 0]) ∧ Hid (Below w.heap.size w w') := by
  have := size_all d x t w hx hN
  rw [show sizeD (d + 1) t = (D.1.length, 0) by
    unfold sizeD
    rw [hD]] at this
  exact this
theorem apply_none {d : Nat} {x : Value} {t : Tn (d + 1)} {w : World} (hx : TyAt w w.heap.size (d + 1) x t) (hN : (flat (d + 1) t).length ≤ 4194304) (hD : funD d t = none) : Calls Tryz.prog 14 #[x, .int .i64 0, .int .i64 0] w fun r w' => r = .returned (.tuple #[.int .i64 0, .int .i64 140]) ∧ Hid (Below w.heap.size w w') := by
  have := apply_all d x t w hx hN 0 0
  rw [hD] at this
  exact this
set_option maxHeartbeats 16000000 in
set_option maxRecDepth 10000 in
theorem maps_fun (d : Nat) (x : Value) (n : List UInt8) (ta ua : Tn (d + 1)) (A C : OrdD) (w : World) (hx : TyAt w w.heap.size (d + 2) x ((3, n), [ta, ua])) (hg : greatT (d + 2) ((3, n), [ta, ua]) = false) (hT : ∀ w', Below w.heap.size w w' → TabAt 0 Lib.deBruijn64tab w') (hNa : (flat (d + 1) ta).length ≤ 500) (hNu : (flat (d + 1) ua).length ≤ 500) (hfd : funD (d + 1) ((3, n), [ta, ua]) = some (fnsP C.1 (resP A.1 C.1), some (A.1, C.1))) (hod : orderD (d + 2) ((3, n), [ta, ua]) = some (fnsP C.1 (resP A.1 C.1), some (A.1, C.1))) (hA : orderD (d + 1) ta = some A) (hC : orderD (d + 1) ua = some C) (hla : Lat A.1) (hlb : Lat C.1) (hfew : (resP A.1 C.1).length ≤ 40) (p q r : Int) :
    Calls Tryz.prog 4 #[x, .int .i64 p, .int .i64 q, .int .i64 r] w fun e w' => e = .returned (.bool true) ∧ Hid (Below w.heap.size w w') := by
  have hN : (flat (d + 2) ((3, n), [ta, ua])).length ≤ 4194304 := great_nodes hg
  have HX : Hid (TyAt w w.heap.size (d + 2) x ((3, n), [ta, ua])) := hx
  obtain ⟨u, rfl, hn1, hn2, hrow⟩ := hx
  obtain ⟨ad, cap, rfl, hc⟩ := RowP.cells hrow
  obtain ⟨g, o, rfl, hcap, hgB, hel⟩ := hc (by simp)
  obtain ⟨k0, n0, ad0, len0, cap0, hc0, ht0⟩ := hel 0 (by simp)
  obtain ⟨k1, n1, ad1, len1, cap1, hc1, ht1⟩ := hel 1 (by simp)
  replace ht0 : TyAt w w.heap.size (d + 1) (.agg #[.int .i64 k0, .string n0, .slice ad0 len0 cap0]) ta := ht0
  replace ht1 : TyAt w w.heap.size (d + 1) (.agg #[.int .i64 k1, .string n1, .slice ad1 len1 cap1]) ua := ht1
  replace hcap : 2 ≤ cap := hcap
  obtain ⟨X, hX⟩ : ∃ X, X = w.heap.size := ⟨_, rfl⟩
  obtain ⟨W, hW⟩ : ∃ W, W = w.alloc (.cells #[.int .i64 3, .string ⟨n.toArray⟩, .slice (some ⟨g, o, none⟩) 2 cap] 24) := ⟨_, rfl⟩
  have hBW : Below w.heap.size w W := by rw [hW]; exact (Below.refl _ _).alloc (Nat.le_refl _) _
  have hXW : W.heap[X]? = some (.cells #[.int .i64 3, .string ⟨n.toArray⟩, .slice (some ⟨g, o, none⟩) 2 cap] 24 (0, 0)) := by rw [hW, hX]; exact new_blk _ _
  have hpos : 0 < (fnsP C.1 (resP A.1 C.1)).length := (fns_lat hlb hfew).pos
  obtain ⟨N, hNN⟩ : ∃ N, N = (resP A.1 C.1).length := ⟨_, rfl⟩
  obtain ⟨M1, hM1⟩ : ∃ M1, M1 = A.1.length := ⟨_, rfl⟩
  obtain ⟨M2, hM2⟩ : ∃ M2, M2 = C.1.length := ⟨_, rfl⟩
  have hd1 : 1 ≤ N ∧ N ≤ 40 := ⟨by rw [fns_len] at hpos; omega, by omega⟩
  have hd2 : 1 ≤ M1 ∧ M1 ≤ 40 := ⟨by have := hla.pos; omega, by have := hla.few; omega⟩
  have hd3 : 1 ≤ M2 ∧ M2 ≤ 40 := ⟨by have := hlb.pos; omega, by have := hlb.few; omega⟩
  have HALL : Hid (∀ w2 : World, Below W.heap.size W w2 → Below w.heap.size w w2 ∧ (w2.cell? ⟨X, 0, none⟩ = some (.int .i64 3) ∧ w2.cell? ⟨X, 1, none⟩ = some (.string ⟨n.toArray⟩) ∧ w2.cell? ⟨X, 2, none⟩ = some (.slice (some ⟨g, o, none⟩) 2 cap)) ∧ (w2.cell? ⟨g, o, none⟩ = some (.int .i64 k0) ∧ w2.cell? ⟨g, o + 1, none⟩ = some (.string n0) ∧ w2.cell? ⟨g, o + 2, none⟩ = some (.slice ad0 len0 cap0)) ∧ (w2.cell? ⟨g, o + 3, none⟩ = some (.int .i64 k1) ∧ w2.cell? ⟨g, o + 4, none⟩ = some (.string n1) ∧ w2.cell? ⟨g, o + 5, none⟩ = some (.slice ad1 len1 cap1)) ∧ Calls Tryz.prog 12 #[.agg #[.int .i64 3, .string ⟨n.toArray⟩, .slice (some ⟨g, o, none⟩) 2 cap]] w2 (fun r w' => r = .returned (.tuple #[.int .i64 (N : Int), .int .i64 0]) ∧ Hid (Below w2.heap.size w2 w')) ∧ Calls Tryz.prog 13 #[.agg #[.int .i64 3, .string ⟨n.toArray⟩, .slice (some ⟨g, o, none⟩) 2 cap]] w2 (fun r w' => r = .returned (.tuple #[.int .i64 (N : Int), .int .i64 0]) ∧ Hid (Below w2.heap.size w2 w')) ∧ Calls Tryz.prog 15 #[.agg #[.int .i64 3, .string ⟨n.toArray⟩, .slice (some ⟨g, o, none⟩) 2 cap]] w2 (fun r w' => r = .returned (.bool (decide (40 < (flat (d + 2) ((3, n), [ta, ua])).length))) ∧ Hid (Below w2.heap.size w2 w')) ∧ Calls Tryz.prog 12 #[.agg #[.int .i64 k0, .string n0, .slice ad0 len0 cap0]] w2 (fun r w' => r = .returned (.tuple #[.int .i64 (M1 : Int), .int .i64 0]) ∧ Hid (Below w2.heap.size w2 w')) ∧ Calls Tryz.prog 12 #[.agg #[.int .i64 k1, .string n1, .slice ad1 len1 cap1]] w2 (fun r w' => r = .returned (.tuple #[.int .i64 (M2 : Int), .int .i64 0]) ∧ Hid (Below w2.heap.size w2 w')) ∧ ∀ f h v : Nat, f < N → h < N → v < M2 → Calls Tryz.prog 16 #[.agg #[.int .i64 3, .string ⟨n.toArray⟩, .slice (some ⟨g, o, none⟩) 2 cap], .int .i64 (f : Int), .int .i64 (h : Int), .int .i64 (v : Int), .int .i64 (M1 : Int)] w2 (fun e w' => e = .returned (.bool true) ∧ Hid (Below w2.heap.size w2 w'))) := fun w2 h2 => by
    have h3 : Below w.heap.size w w2 := hBW.trans (h2.mono hBW.size)
    have h4 := (h2.block X (lt_heap hXW)).trans hXW
    obtain ⟨e0, e1, e2⟩ := hc0 w2 h3
    obtain ⟨e3, e4, e5⟩ := hc1 w2 h3
    rw [show o + 0 * 3 = o by omega] at e0 e1 e2
    have hxx := TyAt.below h3 h3.size _ _ _ HX.out
    have hta := TyAt.below h3 h3.size _ _ _ ht0
    have hua := TyAt.below h3 h3.size _ _ _ ht1
    refine ⟨h3, ⟨heap_cl h4 rfl, heap_cl h4 rfl, heap_cl h4 rfl⟩, ⟨e0, e1, e2⟩, ⟨by simpa using e3, by simpa using e4, by simpa using e5⟩, ?_, ?_, great40_any (d + 1) _ _ w2 hxx hN, ?_, ?_, fun f h v hf hh hv => ?_⟩
    · have := size_some hxx hN hod
      rw [show (fnsP C.1 (resP A.1 C.1), some (A.1, C.1)).1.length = N by rw [hNN]; exact fns_len _ _] at this
      exact this
    · have := size_ref (d + 1) _ _ w2 hxx hN
      rw [show sizeD (d + 2) ((3, n), [ta, ua]) = (N, 0) by
        unfold sizeD
        rw [hod, hNN, ← fns_len C.1 (resP A.1 C.1)]] at this
      exact this
    · rw [hM1]
      exact size_some hta (by omega) hA
    · rw [hM2]
      exact size_some hua (by omega) hC
    · rw [hM1]
      exact all_any w2 hxx hN hNa hNu (fun w' h' => hT w' (h3.trans (h'.mono h3.size))) hfd hod hA hC hla hlb hfew f h v (by omega) (by omega) (by omega)
  have CG := great_any (d + 2) (.agg #[.int .i64 3, .string ⟨n.toArray⟩, .slice (some ⟨g, o, none⟩) 2 cap]) ((3, n), [ta, ua]) W (TyAt.below hBW hBW.size _ _ _ HX.out)
  rw [hg] at CG
  have HXE : Hid (X = w.heap.size) := hX
  have HBc : Hid (Below W.heap.size W W) := Below.refl _ _
  obtain ⟨-, ⟨c0, c1, c2⟩, -⟩ := HALL.out W HBc.out
  generalize decide (40 < (flat (d + 2) ((3, n), [ta, ua])).length) = b40 at *
  clear hel hc hc0 hc1 ht0 ht1 hrow hn1 hn2 HX hN hNa hNu hT hfd hod hA hC hX hXW hBW hgB hla hlb hfew hNN hM1 hM2 hpos hg
  obtain ⟨hd1, hd4⟩ := hd1
  obtain ⟨hd2, hd5⟩ := hd2
  obtain ⟨hd3, hd6⟩ := hd3
  go_enter Tryz.func4, Tryz.ntmps4
  go_upto_region 1 with fail
  rw [← hW, ← HXE.out]
  clear hW
  go_upto_region 4 with (first | (go_at_call 5; (with_reducible refine Calls.mono CG ?_); rintro e' w2 ⟨rfl, hb2⟩))
  replace HBc : Hid (Below W.heap.size W w2) := hb2
  clear hb2 c0 c1 c2 CG
  have CA := awake_any (w := w2)
  go_upto_region 5 with (first | (go_at_call 6; (with_reducible refine Calls.mono CA ?_); rintro e' w3 ⟨rfl, HBn⟩))
  replace HBc : Hid (Below W.heap.size W w3) := HBc.out.trans (HBn.out.mono HBc.out.size)
  clear CA HBn
  obtain ⟨-, ⟨c0, c1, c2⟩, -, -, C1, -⟩ := HALL.out w3 HBc.out
  go_upto_region 6 with (first | (go_at_call 12; (with_reducible refine Calls.mono C1 ?_); rintro e' w4 ⟨rfl, HBn⟩))
  replace HBc : Hid (Below W.heap.size W w4) := HBc.out.trans (HBn.out.mono HBc.out.size)
  clear C1 HBn c0 c1 c2
  obtain ⟨-, ⟨c0, c1, c2⟩, -, -, -, C2, -⟩ := HALL.out w4 HBc.out
  go_upto_region 7 with (first | (go_at_call 13; (with_reducible refine Calls.mono C2 ?_); rintro e' w5 ⟨rfl, HBn⟩))
  replace HBc : Hid (Below W.heap.size W w5) := HBc.out.trans (HBn.out.mono HBc.out.size)
  clear C2 HBn c0 c1 c2
  obtain ⟨-, ⟨c0, c1, c2⟩, -, -, -, -, C3, -⟩ := HALL.out w5 HBc.out
  have g1 : ((N : Int) != (N : Int)) = false := by simp
  have g2 : ¬ ((N : Int) < 1) := by omega
  go_upto_region 12 with fail
  clear g1 g2
  cases b40 with
  | true =>
    go_wp2_with (first | (go_at_call 15; (with_reducible refine Calls.mono C3 ?_); rintro e' w6 ⟨rfl, HBn⟩))
    refine bodyPost_ret (v := .bool true) (by simp [results, Tryz.results4, go_sem]) rfl ?_
    exact ⟨rfl, (HALL.out w6 (HBc.out.trans (HBn.out.mono HBc.out.size))).1⟩
  | false =>
    go_upto_region 15 with (first | (go_at_call 15; (with_reducible refine Calls.mono C3 ?_); rintro e' w6 ⟨rfl, HBn⟩))
    replace HBc : Hid (Below W.heap.size W w6) := HBc.out.trans (HBn.out.mono HBc.out.size)
    clear C3 HBn c0 c1 c2
    obtain ⟨-, ⟨c0, c1, c2⟩, ⟨a0, a1, a2⟩, -, -, -, -, C4, -⟩ := HALL.out w6 HBc.out
    go_upto_region 16 with (first | (go_at_call 12; (with_reducible refine Calls.mono C4 ?_); rintro e' w7 ⟨rfl, HBn⟩))
    replace HBc : Hid (Below W.heap.size W w7) := HBc.out.trans (HBn.out.mono HBc.out.size)
    clear C4 HBn c0 c1 c2 a0 a1 a2
    obtain ⟨-, ⟨c0, c1, c2⟩, -, ⟨a0, a1, a2⟩, -, -, -, -, C5, -⟩ := HALL.out w7 HBc.out
    go_upto_region 17 with (first | (go_at_call 12; (with_reducible refine Calls.mono C5 ?_); rintro e' w8 ⟨rfl, HBn⟩))
    replace HBc : Hid (Below W.heap.size W w8) := HBc.out.trans (HBn.out.mono HBc.out.size)
    clear C5 HBn c0 c1 c2 a0 a1 a2
    have g3 : ¬ ((M1 : Int) < 1) := by omega
    have g4 : ¬ ((M2 : Int) < 1) := by omega
    go_upto_region 19 with fail
    clear g3 g4
    have HBd : Hid (Below W.heap.size W w8.drew) := HBc.out.drew
    obtain ⟨hbw, ⟨c0, c1, c2⟩, -, -, -, -, -, -, -, C6⟩ := HALL.out w8.drew HBd.out
    obtain ⟨f, hf, CW1⟩ := within_any (w := w8.drew) p N hd1 (by omega)
    obtain ⟨h, hh, CW2⟩ := within_any (w := w8.drew) q N hd1 (by omega)
    obtain ⟨v, hv, CW3⟩ := within_any (w := w8.drew) r M2 hd3 (by omega)
    have CALL := C6 f h v hf hh hv
    have hS0 : (fun w' : World => w'.cell? ⟨X, 0, none⟩ = some (.int .i64 3) ∧ w'.cell? ⟨X, 1, none⟩ = some (.string ⟨n.toArray⟩) ∧ w'.cell? ⟨X, 2, none⟩ = some (.slice (some ⟨g, o, none⟩) 2 cap)) w8.drew := ⟨c0, c1, c2⟩
    have HKS : Hid (∀ w2 : World, Below w8.drew.heap.size w8.drew w2 → (fun w' : World => w'.cell? ⟨X, 0, none⟩ = some (.int .i64 3) ∧ w'.cell? ⟨X, 1, none⟩ = some (.string ⟨n.toArray⟩) ∧ w'.cell? ⟨X, 2, none⟩ = some (.slice (some ⟨g, o, none⟩) 2 cap)) w2) := fun w2 h2 => (HALL.out w2 (HBd.out.trans (h2.mono HBd.out.size))).2.1
    have HEND : Hid (∀ w2 : World, Below w8.drew.heap.size w8.drew w2 → Below w.heap.size w w2) := fun w2 h2 => (HALL.out w2 (HBd.out.trans (h2.mono HBd.out.size))).1
    clear C6 hbw c0 c1 c2
    refine wp_region_M (S := (fun w' : World => w'.cell? ⟨X, 0, none⟩ = some (.int .i64 3) ∧ w'.cell? ⟨X, 1, none⟩ = some (.string ⟨n.toArray⟩) ∧ w'.cell? ⟨X, 2, none⟩ = some (.slice (some ⟨g, o, none⟩) 2 cap))) (L := 13) (n := 13) (by kernel_rfl) rfl (by kernel_rfl) ?_
    refine wpAnyK_go (i := 0) (m' := 1) (some 99) (v := .agg #[.int .i64 3, .string ⟨n.toArray⟩, .slice (some ⟨g, o, none⟩) 2 cap]) rfl rfl (by kernel_rfl) (by kernel_rfl) (by kernel_rfl) (by kernel_rfl) (by kernel_rfl) (fun _ _ _ h => h) (Or.inl ⟨by rfl, ?_⟩) hS0 ?_
    · intro w' hSw
      obtain ⟨s1, s2, s3⟩ := hSw
      go_simp
    simp only [Act.put, List.setIfInBounds_toArray, List.set_cons_zero, List.set_cons_succ]
    refine wpAnyK_go (i := 1) (m' := 3) (some 100) (v := .int .i64 p) rfl rfl (by kernel_rfl) (by kernel_rfl) (by kernel_rfl) (by kernel_rfl) (by kernel_rfl) (fun _ _ _ h => h) (Or.inl ⟨by rfl, ?_⟩) hS0 ?_
    · intro w' hSw
      go_simp
    simp only [Act.put, List.setIfInBounds_toArray, List.set_cons_zero, List.set_cons_succ]
    refine wpAnyK_go (i := 2) (m' := 7) (some 101) (v := .int .i64 (N : Int)) rfl rfl (by kernel_rfl) (by kernel_rfl) (by kernel_rfl) (by kernel_rfl) (by kernel_rfl) (fun _ _ _ h => h) (Or.inl ⟨by rfl, ?_⟩) hS0 ?_
    · intro w' hSw
      go_simp
    simp only [Act.put, List.setIfInBounds_toArray, List.set_cons_zero, List.set_cons_succ]
    refine wpAnyK_go (i := 4) (m' := 23) (some 103) (v := .int .i64 q) rfl rfl (by kernel_rfl) (by kernel_rfl) (by kernel_rfl) (by kernel_rfl) (by kernel_rfl) (fun _ _ _ h => h) (Or.inl ⟨by rfl, ?_⟩) hS0 ?_
    · intro w' hSw
      go_simp
    simp only [Act.put, List.setIfInBounds_toArray, List.set_cons_zero, List.set_cons_succ]
    refine wpAnyK_go (i := 5) (m' := 55) (some 104) (v := .int .i64 (N : Int)) rfl rfl (by kernel_rfl) (by kernel_rfl) (by kernel_rfl) (by kernel_rfl) (by kernel_rfl) (fun _ _ _ h => h) (Or.inl ⟨by rfl, ?_⟩) hS0 ?_
    · intro w' hSw
      go_simp
    simp only [Act.put, List.setIfInBounds_toArray, List.set_cons_zero, List.set_cons_succ]
    refine wpAnyK_go (i := 7) (m' := 183) (some 106) (v := .int .i64 r) rfl rfl (by kernel_rfl) (by kernel_rfl) (by kernel_rfl) (by kernel_rfl) (by kernel_rfl) (fun _ _ _ h => h) (Or.inl ⟨by rfl, ?_⟩) hS0 ?_
    · intro w' hSw
      go_simp
    simp only [Act.put, List.setIfInBounds_toArray, List.set_cons_zero, List.set_cons_succ]
    refine wpAnyK_go (i := 8) (m' := 439) (some 107) (v := .int .i64 (M2 : Int)) rfl rfl (by kernel_rfl) (by kernel_rfl) (by kernel_rfl) (by kernel_rfl) (by kernel_rfl) (fun _ _ _ h => h) (Or.inl ⟨by rfl, ?_⟩) hS0 ?_
    · intro w' hSw
      go_simp
    simp only [Act.put, List.setIfInBounds_toArray, List.set_cons_zero, List.set_cons_succ]
    refine wpAnyK_go (i := 10) (m' := 1463) (some 109) (v := .int .i64 (M1 : Int)) rfl rfl (by kernel_rfl) (by kernel_rfl) (by kernel_rfl) (by kernel_rfl) (by kernel_rfl) (fun _ _ _ h => h) (Or.inl ⟨by rfl, ?_⟩) hS0 ?_
    · intro w' hSw
      go_simp
    simp only [Act.put, List.setIfInBounds_toArray, List.set_cons_zero, List.set_cons_succ]
    refine wpAnyK_only (i := 3) (m' := 1471) (by kernel_rfl) rfl (by kernel_rfl) fun K hK => ?_
    go_simp
    (with_reducible refine Calls.mono CW1 ?_)
    rintro e' w9 ⟨rfl, hw9⟩
    obtain rfl := hw9.symm
    clear hw9
    go_simp
    refine hK.out _ _ (fun _ => hS0) ?_
    clear hK K CW1
    refine wpAnyK_only (i := 6) (m' := 1535) (by kernel_rfl) rfl (by kernel_rfl) fun K hK => ?_
    go_simp
    (with_reducible refine Calls.mono CW2 ?_)
    rintro e' w9 ⟨rfl, hw9⟩
    obtain rfl := hw9.symm
    clear hw9
    go_simp
    refine hK.out _ _ (fun _ => hS0) ?_
    clear hK K CW2
    refine wpAnyK_only (i := 9) (m' := 2047) (by kernel_rfl) rfl (by kernel_rfl) fun K hK => ?_
    go_simp
    (with_reducible refine Calls.mono CW3 ?_)
    rintro e' w9 ⟨rfl, hw9⟩
    obtain rfl := hw9.symm
    clear hw9
    go_simp
    refine hK.out _ _ (fun _ => hS0) ?_
    clear hK K CW3
    refine wpAnyK_only (i := 11) (m' := 4095) (by kernel_rfl) rfl (by kernel_rfl) fun K hK => ?_
    go_simp
    (with_reducible refine Calls.mono CALL ?_)
    rintro e' w9 ⟨rfl, HB9⟩
    have hS9 := HKS.out w9 HB9.out
    go_simp
    refine hK.out _ _ (fun _ => hS9) ?_
    clear hK K CALL hS0
    refine wpAnyK_only (i := 12) (m' := 8191) (by kernel_rfl) rfl (by kernel_rfl) fun K hK => ?_
    go_simp
    refine hK.out _ _ (fun _ => hS9) ?_
    clear hK K hS9
    refine wpAnyK_done (by kernel_rfl) ?_ _
    go_wp2
    refine bodyPost_ret (v := .bool true) (by simp [results, Tryz.results4, go_sem]) rfl ?_
    exact ⟨rfl, HEND.out w9 HB9.out⟩
set_option maxHeartbeats 16000000 in
set_option maxRecDepth 10000 in
theorem maps_none (d : Nat) (x : Value) (t : Tn (d + 1)) (w : World) (hx : TyAt w w.heap.size (d + 1) x t) (hfd : funD d t = none) (p q r : Int) :
    Calls Tryz.prog 4 #[x, .int .i64 p, .int .i64 q, .int .i64 r] w fun e w' => e = .returned (.bool true) ∧ Hid (Below w.heap.size w w') := by
  have HX : Hid (TyAt w w.heap.size (d + 1) x t) := hx
  obtain ⟨u, rfl, hn1, hn2, hrow⟩ := hx
  obtain ⟨ad, cap, rfl⟩ := hrow.len
  obtain ⟨X, hX⟩ : ∃ X, X = w.heap.size := ⟨_, rfl⟩
  obtain ⟨W, hW⟩ : ∃ W, W = w.alloc (.cells #[.int .i64 t.1.1, .string ⟨t.1.2.toArray⟩, .slice ad t.2.length cap] 24) := ⟨_, rfl⟩
  have hBW : Below w.heap.size w W := by rw [hW]; exact (Below.refl _ _).alloc (Nat.le_refl _) _
  have hXW : W.heap[X]? = some (.cells #[.int .i64 t.1.1, .string ⟨t.1.2.toArray⟩, .slice ad t.2.length cap] 24 (0, 0)) := by rw [hW, hX]; exact new_blk _ _
  have HTY : Hid (∀ w2 : World, Below W.heap.size W w2 → Below w.heap.size w w2 ∧ (w2.cell? ⟨X, 0, none⟩ = some (.int .i64 t.1.1) ∧ w2.cell? ⟨X, 1, none⟩ = some (.string ⟨t.1.2.toArray⟩) ∧ w2.cell? ⟨X, 2, none⟩ = some (.slice ad t.2.length cap)) ∧ TyAt w2 w2.heap.size (d + 1) (.agg #[.int .i64 t.1.1, .string ⟨t.1.2.toArray⟩, .slice ad t.2.length cap]) t) := fun w2 h2 => by
    have h3 : Below w.heap.size w w2 := hBW.trans (h2.mono hBW.size)
    have h4 := (h2.block X (lt_heap hXW)).trans hXW
    exact ⟨h3, ⟨heap_cl h4 rfl, heap_cl h4 rfl, heap_cl h4 rfl⟩, TyAt.below h3 h3.size _ _ _ HX.out⟩
  have CG := great_any (d + 1) (.agg #[.int .i64 t.1.1, .string ⟨t.1.2.toArray⟩, .slice ad t.2.length cap]) t W (TyAt.below hBW hBW.size _ _ _ HX.out)
  have HXE : Hid (X = w.heap.size) := hX
  have HBc : Hid (Below W.heap.size W W) := Below.refl _ _
  obtain ⟨-, ⟨c0, c1, c2⟩, -⟩ := HTY.out W HBc.out
  have HFD : Hid (funD d t = none) := hfd
  clear hn1 hn2 hrow hX hBW hXW HX hfd
  have HK : Hid (orderD (d + 1) t = none ∨ t.1.1 ≠ 3) := by
    show _ ∨ _
    by_cases e : t.1.1 = 3
    · left
      have h := HFD.out
      unfold funD at h
      rw [if_pos e] at h
      exact h
    · exact .inr e
  go_enter Tryz.func4, Tryz.ntmps4
  go_upto_region 1 with fail
  rw [← hW, ← HXE.out]
  clear hW
  cases hgr : greatT (d + 1) t with
  | true =>
    rw [hgr] at CG
    go_wp2_with (first | (go_at_call 5; (with_reducible refine Calls.mono CG ?_); rintro e' w2 ⟨rfl, hb2⟩))
    refine bodyPost_ret (v := .bool true) (by simp [results, Tryz.results4, go_sem]) rfl ?_
    exact ⟨rfl, (HTY.out w2 hb2).1⟩
  | false =>
    rw [hgr] at CG
    have HN : Hid ((flat (d + 1) t).length ≤ 4194304) := great_nodes hgr
    clear hgr
    go_upto_region 4 with (first | (go_at_call 5; (with_reducible refine Calls.mono CG ?_); rintro e' w2 ⟨rfl, hb2⟩))
    replace HBc : Hid (Below W.heap.size W w2) := hb2
    clear hb2 c0 c1 c2 CG
    have CA := awake_any (w := w2)
    go_upto_region 5 with (first | (go_at_call 6; (with_reducible refine Calls.mono CA ?_); rintro e' w3 ⟨rfl, HBn⟩))
    replace HBc : Hid (Below W.heap.size W w3) := HBc.out.trans (HBn.out.mono HBc.out.size)
    clear CA HBn
    obtain ⟨-, ⟨c0, c1, c2⟩, hty⟩ := HTY.out w3 HBc.out
    have CS := size_all d _ t w3 hty HN.out
    clear hty
    have HSZ : Hid (orderD (d + 1) t = none → sizeD (d + 1) t = (0, 140)) := fun h => by
      unfold sizeD
      rw [h]
    have HS0 : Hid (∀ D, orderD (d + 1) t = some D → (sizeD (d + 1) t).2 = 0) := fun D h => by
      unfold sizeD
      rw [h]
    obtain ⟨sz, hsz⟩ : ∃ sz, sz = sizeD (d + 1) t := ⟨_, rfl⟩
    rw [← hsz] at CS HSZ HS0
    have HSE : Hid (sz = sizeD (d + 1) t) := hsz
    clear hsz
    obtain ⟨s1, s2⟩ := sz
    go_upto_region 6 with (first | (go_at_call 12; (with_reducible refine Calls.mono CS ?_); rintro e' w4 ⟨rfl, HBn⟩))
    replace HBc : Hid (Below W.heap.size W w4) := HBc.out.trans (HBn.out.mono HBc.out.size)
    clear CS HBn c0 c1 c2
    obtain ⟨-, ⟨c0, c1, c2⟩, hty⟩ := HTY.out w4 HBc.out
    have CR := size_ref d _ t w4 hty HN.out
    rw [← HSE.out] at CR
    clear hty
    go_upto_region 7 with (first | (go_at_call 13; (with_reducible refine Calls.mono CR ?_); rintro e' w5 ⟨rfl, HBn⟩))
    replace HBc : Hid (Below W.heap.size W w5) := HBc.out.trans (HBn.out.mono HBc.out.size)
    clear CR HBn c0 c1 c2
    obtain ⟨-, ⟨c0, c1, c2⟩, hty⟩ := HTY.out w5 HBc.out
    have CP := apply_none hty HN.out HFD.out
    clear hty
    have g1 : ((s1 : Int) != (s1 : Int)) = false := by simp
    have g2 : (s2 != s2) = false := by simp
    go_upto_region 9 with fail
    clear g1 g2
    by_cases hs2 : s2 = 0
    · have hk3 : t.1.1 ≠ 3 := by
        rcases HK.out with h | h
        · have := HSZ.out h
          rw [Prod.mk.injEq] at this
          omega
        · exact h
      have g3 : (s2 != 0) = false := by simp [hs2]
      have g4 : (t.1.1 != 3) = true := by simp [hk3]
      clear hs2 hk3 HK HSZ HS0 HSE HFD
      generalize t.1.1 = kk at *
      generalize t.1.2 = nn at *
      generalize t.2.length = mm at *
      go_wp2_with (first | (go_at_call 14; (with_reducible refine Calls.mono CP ?_); rintro e' w6 ⟨rfl, HBn⟩))
      refine bodyPost_ret (v := .bool true) (by simp [results, Tryz.results4, go_sem]) rfl ?_
      exact ⟨rfl, (HTY.out w6 (HBc.out.trans (HBn.out.mono HBc.out.size))).1⟩
    · have g3 : (s2 != 0) = true := by simp [hs2]
      clear hs2 HK HSZ HS0 HSE HFD
      generalize t.1.1 = kk at *
      generalize t.1.2 = nn at *
      generalize t.2.length = mm at *
      go_wp2_with (first | (go_at_call 14; (with_reducible refine Calls.mono CP ?_); rintro e' w6 ⟨rfl, HBn⟩))
      refine bodyPost_ret (v := .bool true) (by simp [results, Tryz.results4, go_sem]) rfl ?_
      exact ⟨rfl, (HTY.out w6 (HBc.out.trans (HBn.out.mono HBc.out.size))).1⟩
theorem maps_great (d : Nat) (x : Value) (t : Tn (d + 1)) (w : World) (hx : TyAt w w.heap.size (d + 1) x t) (hg : greatT (d + 1) t = true) (p q r : Int) :
    Calls Tryz.prog 4 #[x, .int .i64 p, .int .i64 q, .int .i64 r] w fun e w' => e = .returned (.bool true) ∧ Hid (Below w.heap.size w w') := by
  have HX : Hid (TyAt w w.heap.size (d + 1) x t) := hx
  obtain ⟨u, rfl, hn1, hn2, hrow⟩ := hx
  obtain ⟨ad, cap, rfl⟩ := hrow.len
  obtain ⟨X, hX⟩ : ∃ X, X = w.heap.size := ⟨_, rfl⟩
  obtain ⟨W, hW⟩ : ∃ W, W = w.alloc (.cells #[.int .i64 t.1.1, .string ⟨t.1.2.toArray⟩, .slice ad t.2.length cap] 24) := ⟨_, rfl⟩
  have hBW : Below w.heap.size w W := by rw [hW]; exact (Below.refl _ _).alloc (Nat.le_refl _) _
  have hXW : W.heap[X]? = some (.cells #[.int .i64 t.1.1, .string ⟨t.1.2.toArray⟩, .slice ad t.2.length cap] 24 (0, 0)) := by rw [hW, hX]; exact new_blk _ _
  have CG := great_any (d + 1) (.agg #[.int .i64 t.1.1, .string ⟨t.1.2.toArray⟩, .slice ad t.2.length cap]) t W (TyAt.below hBW hBW.size _ _ _ HX.out)
  rw [hg] at CG
  have HXE : Hid (X = w.heap.size) := hX
  have HBW : Hid (Below w.heap.size w W) := hBW
  have c0 : W.cell? ⟨X, 0, none⟩ = some (.int .i64 t.1.1) := heap_cl hXW rfl
  have c1 : W.cell? ⟨X, 1, none⟩ = some (.string ⟨t.1.2.toArray⟩) := heap_cl hXW rfl
  have c2 : W.cell? ⟨X, 2, none⟩ = some (.slice ad t.2.length cap) := heap_cl hXW rfl
  clear hn1 hn2 hrow hX hBW hXW HX hg
  generalize t.1.1 = kk at *
  generalize t.1.2 = nn at *
  generalize t.2.length = mm at *
  go_enter Tryz.func4, Tryz.ntmps4
  go_upto_region 1 with fail
  rw [← hW, ← HXE.out]
  clear hW
  go_wp2_with (first | (go_at_call 5; (with_reducible refine Calls.mono CG ?_); rintro e' w2 ⟨rfl, hb2⟩))
  refine bodyPost_ret (v := .bool true) (by simp [results, Tryz.results4, go_sem]) rfl ?_
  exact ⟨rfl, HBW.out.trans (hb2.mono HBW.out.size)⟩
theorem maps_law (d : Nat) (x : Value) (t : Tn (d + 1)) (w : World) (hx : TyAt w w.heap.size (d + 1) x t) (hT : ∀ w', Below w.heap.size w w' → TabAt 0 Lib.deBruijn64tab w') (p q r : Int) :
    Calls Tryz.prog 4 #[x, .int .i64 p, .int .i64 q, .int .i64 r] w fun e w' => e = .returned (.bool true) ∧ Hid (Below w.heap.size w w') := by
  cases hfd : funD d t with
  | none => exact maps_none d x t w hx hfd p q r
  | some D =>
    cases hg : greatT (d + 1) t with
    | true => exact maps_great d x t w hx hg p q r
    | false =>
      obtain ⟨a, b, A, C, h1, h2, h3, h4, h5, h6, h7, h8, h9, h10, h11⟩ := part_order hfd
      obtain ⟨⟨k, n⟩, ts⟩ := t
      have h1 : ts = [a, b] := h1
      have h2 : k = 3 := h2
      subst h1 h2 h5
      cases d with
      | zero =>
        have h3 : (if wrongT 0 a = 0 ∧ noVarB (flat 0 a) = true then ordD 0 a else none) = some A := h3
        split at h3
        · cases h3
        · cases h3
      | succ d => exact maps_fun d x n a b A C w hx hg hT h10 h11 hfd h9 h3 h4 h6 h7 h8 p q r
end Go.Proofs.YtgdflaapgfpdeaaGreatDoor

namespace Go.Proofs.YtgdflaapgfpdeaaGreatDoor
open Go.RowKit

set_option maxHeartbeats 4000000 in
set_option maxRecDepth 10000 in
theorem is_any {w : World} (n : Nat) (a1 : Option Addr) (l1 c1 : Nat) (a2 : Option Addr) (l2 c2 : Nat) (a : Int) : Calls Tryz.prog 38 #[.agg #[.int .i64 (n : Int), .slice a1 l1 c1, .slice a2 l2 c2], .int .i64 a] w fun r w' => r = .returned (.bool (decide (0 ≤ a ∧ a < (n : Int)))) ∧ Hid (Below w.heap.size w w') := by
  obtain ⟨X, hX⟩ : ∃ X, X = w.heap.size := ⟨_, rfl⟩
  obtain ⟨W, hW⟩ : ∃ W, W = w.alloc (.cells #[.int .i64 (n : Int), .slice a1 l1 c1, .slice a2 l2 c2] 47) := ⟨_, rfl⟩
  have hBW : Below w.heap.size w W := by rw [hW]; exact (Below.refl _ _).alloc (Nat.le_refl _) _
  have hXW : W.heap[X]? = some (.cells #[.int .i64 (n : Int), .slice a1 l1 c1, .slice a2 l2 c2] 47 (0, 0)) := by rw [hW, hX]; exact new_blk _ _
  have c0 : W.cell? ⟨X, 0, none⟩ = some (.int .i64 (n : Int)) := heap_cl hXW rfl
  have HXE : Hid (X = w.heap.size) := hX
  have HBW : Hid (Below w.heap.size w W) := hBW
  clear hX hBW hXW
  by_cases h1 : 0 ≤ a
  · by_cases h2 : a < (n : Int)
    · rw [decide_eq_true ⟨h1, h2⟩]
      have e1 : a ≥ 0 := h1
      go_enter Tryz.func38, Tryz.ntmps38
      go_upto_region 1 with fail
      rw [← hW, ← HXE.out]
      clear hW
      go_wp2
      go_ret
      exact ⟨rfl, HBW.out⟩
    · rw [decide_eq_false (fun h => h2 h.2)]
      have e1 : a ≥ 0 := h1
      go_enter Tryz.func38, Tryz.ntmps38
      go_upto_region 1 with fail
      rw [← hW, ← HXE.out]
      clear hW
      go_wp2
      go_ret
      exact ⟨rfl, HBW.out⟩
  · rw [decide_eq_false (fun h => h1 h.1)]
    have e1 : ¬ a ≥ 0 := h1
    go_enter Tryz.func38, Tryz.ntmps38
    go_upto_region 1 with fail
    rw [← hW, ← HXE.out]
    clear hW
    go_wp2
    go_ret
    exact ⟨rfl, HBW.out⟩
/-- An element of the order's row, of the reference. -/
theorem lat_at {w : World} {S : Nat → Prop} {n : Int} {a1 : Option Addr} {l1 c1 : Nat} {a2 : Option Addr} {l2 c2 : Nat} {ab : List Nat} {rs : List (List Nat)} (h : LatA w S (.agg #[.int .i64 n, .slice a1 l1 c1, .slice a2 l2 c2]) ab rs) : n = (ab.length : Int) ∧ l1 = ab.length ∧ ∃ gb ob, a1 = some ⟨gb, ob, none⟩ ∧ ab.length ≤ c1 ∧ ∀ i, i < ab.length → S gb ∧ ∃ g1 o1 c, w.cell? ⟨gb, ob + i, none⟩ = some (.slice (some ⟨g1, o1, none⟩) ab.length c) ∧ ab.length ≤ c ∧ S g1 ∧ ∀ j, j < ab.length → w.cell? ⟨g1, o1 + j, none⟩ = some (.bool ((ab.getD i 0).testBit j)) := by
  obtain ⟨bv, rv, h1, h2, h3, h4⟩ := h
  simp only [Value.agg.injEq, Array.mk.injEq, List.cons.injEq, Value.int.injEq, true_and, and_true] at h1
  obtain ⟨e1, e2, -⟩ := h1
  subst e1 e2
  obtain ⟨gb, ob, cb, e, hc, hrow⟩ := lat_row h2 h4
  obtain ⟨rfl, rfl, rfl⟩ := Value.slice.inj e
  refine ⟨rfl, rfl, gb, ob, rfl, hc, fun i hi => ?_⟩
  obtain ⟨z, g1, o1, c, q1, q2, q3, q4⟩ := hrow i hi
  exact ⟨z, g1, o1, c, q1, q2, q3, fun j hj => by rw [q4 j hj, getD_at hi]⟩
set_option maxHeartbeats 16000000 in
set_option maxRecDepth 10000 in
theorem below_ref (d : Nat) (x : Value) (t : Tn (d + 1)) (w : World) (hx : TyAt w w.heap.size (d + 1) x t) (hN : (flat (d + 1) t).length ≤ 4194304) (a b : Int) :
    Calls Tryz.prog 22 #[x, .int .i64 a, .int .i64 b] w fun r w' => r = .returned (.tuple #[.bool (belowD (orderD (d + 1) t) a b).1, .int .i64 (belowD (orderD (d + 1) t) a b).2]) ∧ Hid (Below w.heap.size w w') := by
  have HX : Hid (TyAt w w.heap.size (d + 1) x t) := hx
  obtain ⟨u, rfl, hn1, hn2, hrow⟩ := hx
  obtain ⟨ad, cap, rfl⟩ := hrow.len
  generalize hk : t.1.1 = k at *
  generalize hn : t.1.2 = n at *
  generalize hm : t.2.length = m at *
  obtain ⟨X, hX⟩ : ∃ X, X = w.heap.size := ⟨_, rfl⟩
  obtain ⟨W, hW⟩ : ∃ W, W = w.alloc (.cells #[.int .i64 k, .string ⟨n.toArray⟩, .slice ad m cap] 24) := ⟨_, rfl⟩
  have hBW : Below w.heap.size w W := by rw [hW]; exact (Below.refl _ _).alloc (Nat.le_refl _) _
  have hXW : W.heap[X]? = some (.cells #[.int .i64 k, .string ⟨n.toArray⟩, .slice ad m cap] 24 (0, 0)) := by rw [hW, hX]; exact new_blk _ _
  have CO := open_ref d (.agg #[.int .i64 k, .string ⟨n.toArray⟩, .slice ad m cap]) t W (TyAt.below hBW hBW.size _ _ _ HX.out) hN
  have c0 : W.cell? ⟨X, 0, none⟩ = some (.int .i64 k) := heap_cl hXW rfl
  have c1 : W.cell? ⟨X, 1, none⟩ = some (.string ⟨n.toArray⟩) := heap_cl hXW rfl
  have c2 : W.cell? ⟨X, 2, none⟩ = some (.slice ad m cap) := heap_cl hXW rfl
  have HXE : Hid (X = w.heap.size) := hX
  have HBW : Hid (Below w.heap.size w W) := hBW
  clear hn1 hn2 hrow hX hBW hXW hk hn hm hN HX
  generalize orderD (d + 1) t = od at *
  go_enter Tryz.func22, Tryz.ntmps22
  go_upto_region 1 with fail
  rw [← hW, ← HXE.out]
  clear hW
  go_upto_region 2 with (first | (go_at_call 34; (with_reducible refine Calls.mono CO ?_); rintro e' w2 ⟨m1, b1, q1, r1, b2, q2, r2, ok, rfl, HB2, HT2⟩))
  clear c0 c1 c2 CO
  obtain ⟨L, hL⟩ : ∃ L, L = w2.heap.size := ⟨_, rfl⟩
  obtain ⟨w3, hw3⟩ : ∃ w3, w3 = w2.alloc (.cells #[.int .i64 m1, .slice b1 q1 r1, .slice b2 q2 r2] 47) := ⟨_, rfl⟩
  have hL3 : w3.heap[L]? = some (.cells #[.int .i64 m1, .slice b1 q1 r1, .slice b2 q2 r2] 47 (0, 0)) := by rw [hw3, hL]; exact new_blk _ _
  have hB3 : Below w2.heap.size w2 w3 := by rw [hw3]; exact (Below.refl _ _).alloc (Nat.le_refl _) _
  rw [← hw3, ← hL]
  have hWs := HBW.out.size
  have h2s := HB2.out.size
  have HB3 : Hid (Below w.heap.size w w3) := (HBW.out.trans (HB2.out.mono hWs)).trans (hB3.mono (by omega))
  have HL3 : Hid (w3.heap[L]? = some (.cells #[.int .i64 m1, .slice b1 q1 r1, .slice b2 q2 r2] 47 (0, 0))) := hL3
  have HT3 : Hid (LtP W w3 (.agg #[.int .i64 m1, .slice b1 q1 r1, .slice b2 q2 r2]) ok od) := ⟨fun h => by
    obtain ⟨D, h1, h2, h3⟩ := HT2.out.1 h
    exact ⟨D, h1, h2.on (fun y hy => hB3.block y hy.2) (fun y hy => ⟨hy.1, Nat.lt_of_lt_of_le hy.2 hB3.size⟩), h3⟩, HT2.out.2⟩
  clear hw3 hL hB3 hL3 HB2 HT2 hWs h2s
  cases ok with
  | false =>
    have hod := HT3.out.2 rfl
    subst hod
    go_wp2
    refine bodyPost_ret (v := .tuple #[.bool false, .int .i64 140]) (by simp [results, Tryz.results22, go_sem]) rfl ?_
    exact ⟨rfl, HB3.out⟩
  | true =>
    obtain ⟨D, hD⟩ := HT3.out.is
    subst hD
    obtain ⟨hlat, hld⟩ := HT3.out.lat
    obtain ⟨rfl, rfl, gb, ob, rfl, hcb, hrow⟩ := lat_at hlat
    have HLAT : Hid (Lat D.1) := hld
    have HROW : Hid (∀ wr, Below w3.heap.size w3 wr → wr.heap[L]? = some (.cells #[.int .i64 (D.1.length : Int), .slice (some ⟨gb, ob, none⟩) D.1.length r1, .slice b2 q2 r2] 47 (0, 0)) ∧ ∀ i, i < D.1.length → ∃ g1 o1 c, wr.cell? ⟨gb, ob + i, none⟩ = some (.slice (some ⟨g1, o1, none⟩) D.1.length c) ∧ D.1.length ≤ c ∧ ∀ j, j < D.1.length → wr.cell? ⟨g1, o1 + j, none⟩ = some (.bool ((D.1.getD i 0).testBit j))) := fun wr hb => by
      refine ⟨(hb.block L (lt_heap HL3.out)).trans HL3.out, fun i hi => ?_⟩
      obtain ⟨z, g1, o1, c, p1, p2, p3, p4⟩ := hrow i hi
      exact ⟨g1, o1, c, (hb.cell (p := ⟨gb, ob + i, none⟩) z.2).trans p1, p2, fun j hj => (hb.cell (p := ⟨g1, o1 + j, none⟩) p3.2).trans (p4 j hj)⟩
    clear hlat hld hrow HT3
    have HDE : Hid (belowD (some D) a b = if 0 ≤ a ∧ a < (D.1.length : Int) ∧ 0 ≤ b ∧ b < (D.1.length : Int) then ((D.1.getD a.toNat 0).testBit b.toNat, 0) else (false, 141)) := rfl
    have CA := is_any (w := w3) D.1.length (some ⟨gb, ob, none⟩) D.1.length r1 b2 q2 r2 a
    have y0 : w3.cell? ⟨L, 0, none⟩ = some (.int .i64 (D.1.length : Int)) := heap_cl HL3.out rfl
    have y1 : w3.cell? ⟨L, 1, none⟩ = some (.slice (some ⟨gb, ob, none⟩) D.1.length r1) := heap_cl HL3.out rfl
    have y2 : w3.cell? ⟨L, 2, none⟩ = some (.slice b2 q2 r2) := heap_cl HL3.out rfl
    by_cases ha : 0 ≤ a ∧ a < (D.1.length : Int)
    · rw [decide_eq_true ha] at CA
      have CB : Hid (∀ wr : World, Calls Tryz.prog 38 #[.agg #[.int .i64 (D.1.length : Int), .slice (some ⟨gb, ob, none⟩) D.1.length r1, .slice b2 q2 r2], .int .i64 b] wr fun r w' => r = .returned (.bool (decide (0 ≤ b ∧ b < (D.1.length : Int)))) ∧ Hid (Below wr.heap.size wr w')) := fun wr => is_any (w := wr) D.1.length (some ⟨gb, ob, none⟩) D.1.length r1 b2 q2 r2 b
      by_cases hb : 0 ≤ b ∧ b < (D.1.length : Int)
      · rw [decide_eq_true hb] at CB
        rw [if_pos ⟨ha.1, ha.2, hb.1, hb.2⟩] at HDE
        obtain ⟨an, rfl⟩ : ∃ an : Nat, a = an := ⟨a.toNat, by omega⟩
        obtain ⟨bn, rfl⟩ : ∃ bn : Nat, b = bn := ⟨b.toNat, by omega⟩
        rw [Int.toNat_natCast, Int.toNat_natCast] at HDE
        go_upto_region 6 with (first | (go_at_call 38; have ZZ := HB4; (with_reducible refine Calls.mono (CB.out w4) ?_); rintro e' w5 ⟨rfl, HB5⟩) | (go_at_call 38; (with_reducible refine Calls.mono CA ?_); rintro e' w4 ⟨rfl, HB4⟩; have hL4 := (HROW.out w4 HB4.out).1; have y3 : w4.cell? ⟨L, 0, none⟩ = some (.int .i64 (D.1.length : Int)) := heap_cl hL4 rfl; have y4 : w4.cell? ⟨L, 1, none⟩ = some (.slice (some ⟨gb, ob, none⟩) D.1.length r1) := heap_cl hL4 rfl; have y5 : w4.cell? ⟨L, 2, none⟩ = some (.slice b2 q2 r2) := heap_cl hL4 rfl; clear hL4))
        clear y0 y1 y2 y3 y4 y5 CA CB
        have HB5w : Hid (Below w3.heap.size w3 w5) := HB4.out.trans (HB5.out.mono HB4.out.size)
        have han : an < D.1.length := by omega
        have hbn : bn < D.1.length := by omega
        obtain ⟨hL5, hr5⟩ := HROW.out w5 HB5w.out
        obtain ⟨g1, o1, c, p1, p2, p3⟩ := hr5 an han
        have p4 := p3 bn hbn
        have z1 : w5.cell? ⟨L, 1, none⟩ = some (.slice (some ⟨gb, ob, none⟩) D.1.length r1) := heap_cl hL5 rfl
        have i1 : (0 : Int) ≤ (an : Int) := by omega
        have i2 : (an : Int) < (D.1.length : Int) := by omega
        have i3 : (0 : Int) ≤ (bn : Int) := by omega
        have i4 : (bn : Int) < (D.1.length : Int) := by omega
        clear ha hb hr5 p3 hL5
        generalize (D.1.getD an 0).testBit bn = bb at *
        go_wp2
        refine bodyPost_ret (v := .tuple #[.bool bb, .int .i64 0]) (by simp [results, Tryz.results22, go_sem]) rfl ?_
        rw [HDE.out]
        exact ⟨rfl, HB3.out.trans (HB5w.out.mono HB3.out.size)⟩
      · rw [decide_eq_false hb] at CB
        rw [if_neg (fun q => hb q.2.2)] at HDE
        clear ha hb
        go_wp2_with (first | (go_at_call 38; have ZZ := HB4; (with_reducible refine Calls.mono (CB.out w4) ?_); rintro e' w5 ⟨rfl, HB5⟩) | (go_at_call 38; (with_reducible refine Calls.mono CA ?_); rintro e' w4 ⟨rfl, HB4⟩; have hL4 := (HROW.out w4 HB4.out).1; have y3 : w4.cell? ⟨L, 0, none⟩ = some (.int .i64 (D.1.length : Int)) := heap_cl hL4 rfl; have y4 : w4.cell? ⟨L, 1, none⟩ = some (.slice (some ⟨gb, ob, none⟩) D.1.length r1) := heap_cl hL4 rfl; have y5 : w4.cell? ⟨L, 2, none⟩ = some (.slice b2 q2 r2) := heap_cl hL4 rfl; clear hL4))
        refine bodyPost_ret (v := .tuple #[.bool false, .int .i64 141]) (by simp [results, Tryz.results22, go_sem]) rfl ?_
        rw [HDE.out]
        exact ⟨rfl, (HB3.out.trans (HB4.out.mono HB3.out.size)).trans (HB5.out.mono (Nat.le_trans HB3.out.size HB4.out.size))⟩
    · rw [decide_eq_false ha] at CA
      rw [if_neg (fun q => ha ⟨q.1, q.2.1⟩)] at HDE
      clear ha
      go_wp2_with (first | (go_at_call 38; (with_reducible refine Calls.mono CA ?_); rintro e' w4 ⟨rfl, HB4⟩))
      refine bodyPost_ret (v := .tuple #[.bool false, .int .i64 141]) (by simp [results, Tryz.results22, go_sem]) rfl ?_
      rw [HDE.out]
      exact ⟨rfl, HB3.out.trans (HB4.out.mono HB3.out.size)⟩
set_option maxHeartbeats 16000000 in
set_option maxRecDepth 10000 in
theorem join_ref (d : Nat) (x : Value) (t : Tn (d + 1)) (w : World) (hx : TyAt w w.heap.size (d + 1) x t) (hN : (flat (d + 1) t).length ≤ 4194304) (a b : Int) :
    Calls Tryz.prog 24 #[x, .int .i64 a, .int .i64 b] w fun r w' => r = .returned (.tuple #[.int .i64 ((joinD (orderD (d + 1) t) a b).1 : Int), .int .i64 (joinD (orderD (d + 1) t) a b).2]) ∧ Hid (Below w.heap.size w w') := by
  have HX : Hid (TyAt w w.heap.size (d + 1) x t) := hx
  obtain ⟨u, rfl, hn1, hn2, hrow⟩ := hx
  obtain ⟨ad, cap, rfl⟩ := hrow.len
  generalize hk : t.1.1 = k at *
  generalize hn : t.1.2 = n at *
  generalize hm : t.2.length = m at *
  obtain ⟨X, hX⟩ : ∃ X, X = w.heap.size := ⟨_, rfl⟩
  obtain ⟨W, hW⟩ : ∃ W, W = w.alloc (.cells #[.int .i64 k, .string ⟨n.toArray⟩, .slice ad m cap] 24) := ⟨_, rfl⟩
  have hBW : Below w.heap.size w W := by rw [hW]; exact (Below.refl _ _).alloc (Nat.le_refl _) _
  have hXW : W.heap[X]? = some (.cells #[.int .i64 k, .string ⟨n.toArray⟩, .slice ad m cap] 24 (0, 0)) := by rw [hW, hX]; exact new_blk _ _
  have CO := open_ref d (.agg #[.int .i64 k, .string ⟨n.toArray⟩, .slice ad m cap]) t W (TyAt.below hBW hBW.size _ _ _ HX.out) hN
  have c0 : W.cell? ⟨X, 0, none⟩ = some (.int .i64 k) := heap_cl hXW rfl
  have c1 : W.cell? ⟨X, 1, none⟩ = some (.string ⟨n.toArray⟩) := heap_cl hXW rfl
  have c2 : W.cell? ⟨X, 2, none⟩ = some (.slice ad m cap) := heap_cl hXW rfl
  have HXE : Hid (X = w.heap.size) := hX
  have HBW : Hid (Below w.heap.size w W) := hBW
  clear hn1 hn2 hrow hX hBW hXW hk hn hm hN HX
  generalize orderD (d + 1) t = od at *
  go_enter Tryz.func24, Tryz.ntmps24
  go_upto_region 1 with fail
  rw [← hW, ← HXE.out]
  clear hW
  go_upto_region 2 with (first | (go_at_call 34; (with_reducible refine Calls.mono CO ?_); rintro e' w2 ⟨m1, b1, q1, r1, b2, q2, r2, ok, rfl, HB2, HT2⟩))
  clear c0 c1 c2 CO
  obtain ⟨L, hL⟩ : ∃ L, L = w2.heap.size := ⟨_, rfl⟩
  obtain ⟨w3, hw3⟩ : ∃ w3, w3 = w2.alloc (.cells #[.int .i64 m1, .slice b1 q1 r1, .slice b2 q2 r2] 47) := ⟨_, rfl⟩
  have hL3 : w3.heap[L]? = some (.cells #[.int .i64 m1, .slice b1 q1 r1, .slice b2 q2 r2] 47 (0, 0)) := by rw [hw3, hL]; exact new_blk _ _
  have hB3 : Below w2.heap.size w2 w3 := by rw [hw3]; exact (Below.refl _ _).alloc (Nat.le_refl _) _
  rw [← hw3, ← hL]
  have hWs := HBW.out.size
  have h2s := HB2.out.size
  have HB3 : Hid (Below w.heap.size w w3) := (HBW.out.trans (HB2.out.mono hWs)).trans (hB3.mono (by omega))
  have HL3 : Hid (w3.heap[L]? = some (.cells #[.int .i64 m1, .slice b1 q1 r1, .slice b2 q2 r2] 47 (0, 0))) := hL3
  have HT3 : Hid (LtP W w3 (.agg #[.int .i64 m1, .slice b1 q1 r1, .slice b2 q2 r2]) ok od) := ⟨fun h => by
    obtain ⟨D, h1, h2, h3⟩ := HT2.out.1 h
    exact ⟨D, h1, h2.on (fun y hy => hB3.block y hy.2) (fun y hy => ⟨hy.1, Nat.lt_of_lt_of_le hy.2 hB3.size⟩), h3⟩, HT2.out.2⟩
  clear hw3 hL hB3 hL3 HB2 HT2 hWs h2s
  cases ok with
  | false =>
    have hod := HT3.out.2 rfl
    subst hod
    go_wp2
    refine bodyPost_ret (v := .tuple #[.int .i64 0, .int .i64 140]) (by simp [results, Tryz.results24, go_sem]) rfl ?_
    exact ⟨rfl, HB3.out⟩
  | true =>
    obtain ⟨D, hD⟩ := HT3.out.is
    subst hD
    obtain ⟨hlat, hld⟩ := HT3.out.lat
    obtain ⟨rfl, rfl, gb, ob, rfl, hcb, hrow⟩ := lat_at hlat
    have HLAT : Hid (Lat D.1) := hld
    have HROW : Hid (∀ wr, Below w3.heap.size w3 wr → wr.heap[L]? = some (.cells #[.int .i64 (D.1.length : Int), .slice (some ⟨gb, ob, none⟩) D.1.length r1, .slice b2 q2 r2] 47 (0, 0)) ∧ ∀ i, i < D.1.length → ∃ g1 o1 c, wr.cell? ⟨gb, ob + i, none⟩ = some (.slice (some ⟨g1, o1, none⟩) D.1.length c) ∧ D.1.length ≤ c ∧ ∀ j, j < D.1.length → wr.cell? ⟨g1, o1 + j, none⟩ = some (.bool ((D.1.getD i 0).testBit j))) := fun wr hb => by
      refine ⟨(hb.block L (lt_heap HL3.out)).trans HL3.out, fun i hi => ?_⟩
      obtain ⟨z, g1, o1, c, p1, p2, p3, p4⟩ := hrow i hi
      exact ⟨g1, o1, c, (hb.cell (p := ⟨gb, ob + i, none⟩) z.2).trans p1, p2, fun j hj => (hb.cell (p := ⟨g1, o1 + j, none⟩) p3.2).trans (p4 j hj)⟩
    clear hlat hld hrow HT3
    have HDE : Hid (joinD (some D) a b = if 0 ≤ a ∧ a < (D.1.length : Int) ∧ 0 ≤ b ∧ b < (D.1.length : Int) then (joinP D.1 a.toNat b.toNat, 0) else (0, 141)) := rfl
    have CA := is_any (w := w3) D.1.length (some ⟨gb, ob, none⟩) D.1.length r1 b2 q2 r2 a
    have y0 : w3.cell? ⟨L, 0, none⟩ = some (.int .i64 (D.1.length : Int)) := heap_cl HL3.out rfl
    have y1 : w3.cell? ⟨L, 1, none⟩ = some (.slice (some ⟨gb, ob, none⟩) D.1.length r1) := heap_cl HL3.out rfl
    have y2 : w3.cell? ⟨L, 2, none⟩ = some (.slice b2 q2 r2) := heap_cl HL3.out rfl
    by_cases ha : 0 ≤ a ∧ a < (D.1.length : Int)
    · rw [decide_eq_true ha] at CA
      have CB : Hid (∀ wr : World, Calls Tryz.prog 38 #[.agg #[.int .i64 (D.1.length : Int), .slice (some ⟨gb, ob, none⟩) D.1.length r1, .slice b2 q2 r2], .int .i64 b] wr fun r w' => r = .returned (.bool (decide (0 ≤ b ∧ b < (D.1.length : Int)))) ∧ Hid (Below wr.heap.size wr w')) := fun wr => is_any (w := wr) D.1.length (some ⟨gb, ob, none⟩) D.1.length r1 b2 q2 r2 b
      by_cases hb : 0 ≤ b ∧ b < (D.1.length : Int)
      · rw [decide_eq_true hb] at CB
        rw [if_pos ⟨ha.1, ha.2, hb.1, hb.2⟩] at HDE
        obtain ⟨an, rfl⟩ : ∃ an : Nat, a = an := ⟨a.toNat, by omega⟩
        obtain ⟨bn, rfl⟩ : ∃ bn : Nat, b = bn := ⟨b.toNat, by omega⟩
        rw [Int.toNat_natCast, Int.toNat_natCast] at HDE
        go_upto_region 6 with (first | (go_at_call 38; have ZZ := HB4; (with_reducible refine Calls.mono (CB.out w4) ?_); rintro e' w5 ⟨rfl, HB5⟩) | (go_at_call 38; (with_reducible refine Calls.mono CA ?_); rintro e' w4 ⟨rfl, HB4⟩; have hL4 := (HROW.out w4 HB4.out).1; have y3 : w4.cell? ⟨L, 0, none⟩ = some (.int .i64 (D.1.length : Int)) := heap_cl hL4 rfl; have y4 : w4.cell? ⟨L, 1, none⟩ = some (.slice (some ⟨gb, ob, none⟩) D.1.length r1) := heap_cl hL4 rfl; have y5 : w4.cell? ⟨L, 2, none⟩ = some (.slice b2 q2 r2) := heap_cl hL4 rfl; clear hL4))
        clear y0 y1 y2 y3 y4 y5 CA CB
        have HB5w : Hid (Below w3.heap.size w3 w5) := HB4.out.trans (HB5.out.mono HB4.out.size)
        have han : an < D.1.length := by omega
        have hbn : bn < D.1.length := by omega
        obtain ⟨-, -, k1, k2, k3⟩ := join_lat HLAT.out han hbn
        have HJ1 : Hid ((D.1.getD an 0).testBit (joinP D.1 an bn) = true ∧ (D.1.getD bn 0).testBit (joinP D.1 an bn) = true ∧ joinP D.1 an bn < D.1.length) := ⟨k1, k2, join_lt HLAT.out han hbn⟩
        have HJ2 : Hid (∀ c, (D.1.getD an 0).testBit c = true → (D.1.getD bn 0).testBit c = true → joinP D.1 an bn ≤ c) := fun c h1 h2 => HLAT.out.rise _ _ (k3 c h1 h2)
        clear k1 k2 k3 ha hb
        generalize joinP D.1 an bn = jn at *
        go_upto_region 7 with fail
        go_loopw [10] (fun iv wr => ∃ i : Nat, i ≤ D.1.length ∧ iv = .int .i64 i ∧ Hid (Below w3.heap.size w3 wr) ∧ Hid (i ≤ jn)) (fun iv _ => D.1.length - (intOf iv).toNat)
        case atStart => exact ⟨0, by omega, by go_num, HB5w.out, Nat.zero_le _⟩
        case round =>
          clear HB5w HB4 HB5
          obtain ⟨i, hi, rfl, HB, HI⟩ := hrel
          obtain ⟨hL5, hr5⟩ := HROW.out wr HB.out
          have hfew := HLAT.out.few
          have hij := HI.out
          have hjl := HJ1.out.2.2
          have hil : i < D.1.length := by omega
          obtain ⟨g1, o1, c, p1, p2, p3⟩ := hr5 an han
          obtain ⟨g2, o2, c', p5, p6, p7⟩ := hr5 bn hbn
          have p4 := p3 i hil
          have p8 := p7 i hil
          have z0 : wr.cell? ⟨L, 0, none⟩ = some (.int .i64 (D.1.length : Int)) := heap_cl hL5 rfl
          have z1 : wr.cell? ⟨L, 1, none⟩ = some (.slice (some ⟨gb, ob, none⟩) D.1.length r1) := heap_cl hL5 rfl
          have i1 : (0 : Int) ≤ (an : Int) := by omega
          have i2 : (an : Int) < (D.1.length : Int) := by omega
          have i3 : (0 : Int) ≤ (bn : Int) := by omega
          have i4 : (bn : Int) < (D.1.length : Int) := by omega
          have i5 : (0 : Int) ≤ (i : Int) := by omega
          have i6 : (i : Int) < (D.1.length : Int) := by omega
          have HYE : Hid ((D.1.getD an 0).testBit i = true → (D.1.getD bn 0).testBit i = true → i = jn) := fun h1 h2 => Nat.le_antisymm HI.out (HJ2.out i h1 h2)
          have HNO : Hid (¬ ((D.1.getD an 0).testBit i = true ∧ (D.1.getD bn 0).testBit i = true) → i + 1 ≤ jn) := fun h => by
            rcases Nat.eq_or_lt_of_le HI.out with e | e
            · exact absurd (by rw [e]; exact ⟨HJ1.out.1, HJ1.out.2.1⟩) h
            · exact e
          clear hr5 p3 p7 hL5 hij hjl
          generalize (D.1.getD an 0).testBit i = ba at *
          generalize (D.1.getD bn 0).testBit i = bb at *
          cases ba with
          | false =>
            have HN2 : Hid (i + 1 ≤ jn) := HNO.out (fun h => by cases h.1)
            go_wp2
            go_roundw
            case rel => exact ⟨i + 1, hil, by go_num, HB.out, HN2.out⟩
            case measure => simp [intOf]; omega
          | true =>
            cases bb with
            | false =>
              have HN2 : Hid (i + 1 ≤ jn) := HNO.out (fun h => by cases h.2)
              go_wp2
              go_roundw
              case rel => exact ⟨i + 1, hil, by go_num, HB.out, HN2.out⟩
              case measure => simp [intOf]; omega
            | true =>
              have HE : Hid (i = jn) := HYE.out rfl rfl
              go_wp2
              refine bodyPost_ret (v := .tuple #[.int .i64 (i : Int), .int .i64 0]) (by simp [results, Tryz.results24, go_sem]) rfl ?_
              rw [HDE.out, ← HE.out]
              exact ⟨rfl, HB3.out.trans (HB.out.mono HB3.out.size)⟩
      · rw [decide_eq_false hb] at CB
        rw [if_neg (fun q => hb q.2.2)] at HDE
        clear ha hb
        go_wp2_with (first | (go_at_call 38; have ZZ := HB4; (with_reducible refine Calls.mono (CB.out w4) ?_); rintro e' w5 ⟨rfl, HB5⟩) | (go_at_call 38; (with_reducible refine Calls.mono CA ?_); rintro e' w4 ⟨rfl, HB4⟩; have hL4 := (HROW.out w4 HB4.out).1; have y3 : w4.cell? ⟨L, 0, none⟩ = some (.int .i64 (D.1.length : Int)) := heap_cl hL4 rfl; have y4 : w4.cell? ⟨L, 1, none⟩ = some (.slice (some ⟨gb, ob, none⟩) D.1.length r1) := heap_cl hL4 rfl; have y5 : w4.cell? ⟨L, 2, none⟩ = some (.slice b2 q2 r2) := heap_cl hL4 rfl; clear hL4))
        refine bodyPost_ret (v := .tuple #[.int .i64 0, .int .i64 141]) (by simp [results, Tryz.results24, go_sem]) rfl ?_
        rw [HDE.out]
        exact ⟨rfl, (HB3.out.trans (HB4.out.mono HB3.out.size)).trans (HB5.out.mono (Nat.le_trans HB3.out.size HB4.out.size))⟩
    · rw [decide_eq_false ha] at CA
      rw [if_neg (fun q => ha ⟨q.1, q.2.1⟩)] at HDE
      clear ha
      go_wp2_with (first | (go_at_call 38; (with_reducible refine Calls.mono CA ?_); rintro e' w4 ⟨rfl, HB4⟩))
      refine bodyPost_ret (v := .tuple #[.int .i64 0, .int .i64 141]) (by simp [results, Tryz.results24, go_sem]) rfl ?_
      rw [HDE.out]
      exact ⟨rfl, HB3.out.trans (HB4.out.mono HB3.out.size)⟩
end Go.Proofs.YtgdflaapgfpdeaaGreatDoor
