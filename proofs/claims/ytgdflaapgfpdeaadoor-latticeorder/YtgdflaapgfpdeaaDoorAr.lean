/- LatticeOrder answers true. -/
import Derived.Test.YtgdflaapgfpdeaaDoorMyx
namespace Go.Proofs.YtgdflaapgfpdeaaDoor
open Go.RowKit

theorem ord_lat : ∀ (d : Nat) (t : Tn d) (D : OrdD), ordD d t = some D → Lat D.1
  | 0, _, _, h => by cases h
  | d + 1, ((k, n), ts), D, h => by
    have h : (if k = 3 then (match ts with
      | a :: b :: _ => (ordD d a).bind fun x => (ordD d b).bind fun y => fnD x.1 y.1
      | _ => none)
    else if k = 4 ∧ n = [76, 105, 115, 116] then (if ts.length = 1 then some (chainP 4, none) else none) else some (chainP 2, none)) = some D := h
    by_cases hk : k = 3
    · rw [if_pos hk] at h
      match ts, h with
      | a :: b :: _, h =>
        have h : ((ordD d a).bind fun x => (ordD d b).bind fun y => fnD x.1 y.1) = some D := h
        cases ha : ordD d a with
        | none =>
          rw [ha] at h
          cases h
        | some A =>
          cases hb : ordD d b with
          | none =>
            rw [ha, hb] at h
            cases h
          | some C =>
            rw [ha, hb] at h
            have h : fnD A.1 C.1 = some D := h
            unfold fnD fnP at h
            split at h
            · next hl =>
              rw [← Option.some.inj h]
              exact fns_lat (ord_lat d b C hb) hl
            · cases h
      | [], h => cases h
      | [_], h => cases h
    · rw [if_neg hk] at h
      split at h
      · split at h
        · rw [← Option.some.inj h]
          exact chain_lat (by decide) (by decide)
        · cases h
      · rw [← Option.some.inj h]
        exact chain_lat (by decide) (by decide)
theorem order_lat {d : Nat} {t : Tn d} {D : OrdD} (h : orderD d t = some D) : Lat D.1 := by
  unfold orderD at h
  split at h
  · exact ord_lat _ _ _ h
  · cases h
theorem Lat.anti {ab : List Nat} (h : Lat ab) {a b : Nat} (h1 : Le ab a b) (h2 : Le ab b a) : a = b := Nat.le_antisymm (h.rise _ _ h1) (h.rise _ _ h2)
theorem join_lt {ab : List Nat} (h : Lat ab) {a b : Nat} (ha : a < ab.length) (hb : b < ab.length) : joinP ab a b < ab.length := h.small _ _ (join_lat h ha hb).2.2.1
theorem join_comm (ab : List Nat) (a b : Nat) : joinP ab a b = joinP ab b a := by
  unfold joinP
  rw [Nat.and_comm]
theorem join_le {ab : List Nat} (h : Lat ab) {a b : Nat} (hl : Le ab a b) (ha : a < ab.length) (hb : b < ab.length) : joinP ab a b = b := by
  obtain ⟨_, _, h1, h2, h3⟩ := join_lat h ha hb
  exact h.anti (h3 b hl (h.refl b hb)) h2
theorem join_assoc {ab : List Nat} (h : Lat ab) {a b c : Nat} (ha : a < ab.length) (hb : b < ab.length) (hc : c < ab.length) : joinP ab (joinP ab a b) c = joinP ab a (joinP ab b c) := by
  have hj := join_lt h ha hb
  have hq := join_lt h hb hc
  obtain ⟨_, _, j1, j2, j3⟩ := join_lat h ha hb
  obtain ⟨_, _, q1, q2, q3⟩ := join_lat h hb hc
  obtain ⟨_, _, p1, p2, p3⟩ := join_lat h hj hc
  obtain ⟨_, _, r1, r2, r3⟩ := join_lat h ha hq
  refine h.anti (p3 _ (j3 _ r1 (h.trans _ _ _ q1 r2)) (h.trans _ _ _ q2 r2)) (r3 _ (h.trans _ _ _ j1 p1) (q3 _ (h.trans _ _ _ j2 p1) p2))
set_option maxHeartbeats 16000000 in
set_option maxRecDepth 10000 in
theorem order_law (d : Nat) (x : Value) (t : Tn (d + 1)) (w : World) (hx : TyAt w w.heap.size (d + 1) x t) (hT : ∀ w', Below w.heap.size w w' → TabAt 0 Lib.deBruijn64tab w') (p q r : Int) :
    Calls Tryd.prog 4 #[x, .int .i64 p, .int .i64 q, .int .i64 r] w fun e w' => e = .returned (.bool true) ∧ Hid (Below w.heap.size w w') := by
  have HX : Hid (TyAt w w.heap.size (d + 1) x t) := hx
  obtain ⟨u, rfl, hn1, hn2, hrow⟩ := hx
  obtain ⟨ad, cap, rfl⟩ := hrow.len
  generalize hk : t.1.1 = k at *
  generalize hn : t.1.2 = n at *
  generalize hm : t.2.length = m at *
  obtain ⟨X, hX⟩ : ∃ X, X = w.heap.size := ⟨_, rfl⟩
  obtain ⟨W, hW⟩ : ∃ W, W = w.alloc (.cells #[.int .i64 k, .string ⟨n.toArray⟩, .slice ad m cap] 24) := ⟨_, rfl⟩
  have hBW : Below w.heap.size w W := by rw [hW]; exact (Below.refl _ _).alloc (Nat.le_refl _) _
  have hXW : W.heap[X]? = some (.cells #[.int .i64 k, .string ⟨n.toArray⟩, .slice ad m cap] 24 (0, 0)) := by rw [hW, hX]; exact new_blk _ _
  have HXX : Hid (∀ w2 : World, Below W.heap.size W w2 → w2.cell? ⟨X, 0, none⟩ = some (.int .i64 k) ∧ w2.cell? ⟨X, 1, none⟩ = some (.string ⟨n.toArray⟩) ∧ w2.cell? ⟨X, 2, none⟩ = some (.slice ad m cap)) := fun w2 h2 => by
    have h3 := (h2.block X (lt_heap hXW)).trans hXW
    exact ⟨heap_cl h3 rfl, heap_cl h3 rfl, heap_cl h3 rfl⟩
  have HBW : Hid (∀ w2 : World, Below W.heap.size W w2 → Below w.heap.size w w2) := fun w2 h2 => hBW.trans (h2.mono hBW.size)
  have HTY : Hid (∀ w2 : World, Below W.heap.size W w2 → TyAt w2 w2.heap.size (d + 1) (.agg #[.int .i64 k, .string ⟨n.toArray⟩, .slice ad m cap]) t) := fun w2 h2 => TyAt.below (HBW.out w2 h2) (HBW.out w2 h2).size _ _ _ HX.out
  have HT : Hid (∀ w', Below w.heap.size w w' → TabAt 0 Lib.deBruijn64tab w') := hT
  have HXE : Hid (X = w.heap.size) := hX
  have CG := great_any (d + 1) (.agg #[.int .i64 k, .string ⟨n.toArray⟩, .slice ad m cap]) t W (HTY.out W (Below.refl _ _))
  have HBc : Hid (Below W.heap.size W W) := Below.refl _ _
  obtain ⟨c0, c1, c2⟩ := HXX.out W HBc.out
  clear hn1 hn2 hrow hX hBW hXW hk hn hm HX hT
  go_enter Tryd.func4, Tryd.ntmps4
  go_upto_region 1 with fail
  rw [← hW, ← HXE.out]
  clear hW
  cases hgr : greatT (d + 1) t with
  | true =>
    rw [hgr] at CG
    go_wp2_with (first | (go_at_call 9; (with_reducible refine Calls.mono CG ?_); rintro e' w2 ⟨rfl, hb2⟩))
    refine bodyPost_ret (v := .bool true) (by simp [results, Tryd.results4, go_sem]) rfl ?_
    exact ⟨rfl, HBW.out w2 hb2⟩
  | false =>
    rw [hgr] at CG
    have HN : Hid ((flat (d + 1) t).length ≤ 4194304) := great_nodes hgr
    clear hgr
    go_upto_region 4 with (first | (go_at_call 9; (with_reducible refine Calls.mono CG ?_); rintro e' w2 ⟨rfl, hb2⟩))
    replace HBc : Hid (Below W.heap.size W w2) := hb2
    clear hb2 c0 c1 c2 CG
    have CA := awake_any (w := w2)
    go_upto_region 5 with (first | (go_at_call 10; (with_reducible refine Calls.mono CA ?_); rintro e' w3 ⟨rfl, HBn⟩))
    replace HBc : Hid (Below W.heap.size W w3) := HBc.out.trans (HBn.out.mono HBc.out.size)
    clear CA HBn
    obtain ⟨c0, c1, c2⟩ := HXX.out w3 HBc.out
    have CS := size_all d _ t w3 (HTY.out w3 HBc.out) HN.out
    have HSZ : Hid (sizeD (d + 1) t = match orderD (d + 1) t with
      | some D => (D.1.length, 0)
      | none => (0, 140)) := rfl
    cases hod : orderD (d + 1) t with
    | none =>
      rw [hod] at HSZ
      have HS1 : Hid (sizeD (d + 1) t = (0, 140)) := HSZ
      rw [HS1.out] at CS
      clear hod HSZ
      go_upto_region 9 with (first | (go_at_call 8; (with_reducible refine Calls.mono CS ?_); rintro e' w4 ⟨rfl, HBn⟩))
      replace HBc : Hid (Below W.heap.size W w4) := HBc.out.trans (HBn.out.mono HBc.out.size)
      clear CS HBn c0 c1 c2
      obtain ⟨c0, c1, c2⟩ := HXX.out w4 HBc.out
      have CR := size_ref d _ t w4 (HTY.out w4 HBc.out) HN.out
      rw [HS1.out] at CR
      go_wp2_with (first | (go_at_call 11; (with_reducible refine Calls.mono CR ?_); rintro e' w5 ⟨rfl, HBn⟩))
      replace HBc : Hid (Below W.heap.size W w5) := HBc.out.trans (HBn.out.mono HBc.out.size)
      refine bodyPost_ret (v := .bool true) (by simp [results, Tryd.results4, go_sem]) rfl ?_
      exact ⟨rfl, HBW.out w5 HBc.out⟩
    | some D =>
      rw [hod] at HSZ
      have HS1 : Hid (sizeD (d + 1) t = (D.1.length, 0)) := HSZ
      rw [HS1.out] at CS
      have HLAT : Hid (Lat D.1) := order_lat hod
      have HLE : Hid (∀ (w2 : World) (a b : Nat), Below W.heap.size W w2 → a < D.1.length → b < D.1.length → Calls Tryd.prog 13 #[.agg #[.int .i64 k, .string ⟨n.toArray⟩, .slice ad m cap], .int .i64 (a : Int), .int .i64 (b : Int)] w2 fun r w' => r = .returned (.tuple #[.bool ((D.1.getD a 0).testBit b), .int .i64 0]) ∧ Hid (Below w2.heap.size w2 w')) := fun w2 a b h2 ha hb => by
        have := below_all d _ t w2 (HTY.out w2 h2) HN.out a b
        rw [hod, show belowD (some D) (a : Int) (b : Int) = ((D.1.getD a 0).testBit b, 0) by
          show (if _ then _ else _) = _
          rw [if_pos ⟨by omega, by omega, by omega, by omega⟩]
          rfl] at this
        exact this
      have HJO : Hid (∀ (w2 : World) (a b : Nat), Below W.heap.size W w2 → a < D.1.length → b < D.1.length → Calls Tryd.prog 14 #[.agg #[.int .i64 k, .string ⟨n.toArray⟩, .slice ad m cap], .int .i64 (a : Int), .int .i64 (b : Int)] w2 fun r w' => r = .returned (.tuple #[.int .i64 (joinP D.1 a b : Int), .int .i64 0]) ∧ Hid (Below w2.heap.size w2 w')) := fun w2 a b h2 ha hb => by
        have := join_all d _ t w2 (HTY.out w2 h2) HN.out (fun w' h' => HT.out w' ((HBW.out w2 h2).trans (h'.mono (HBW.out w2 h2).size))) a b
        rw [hod, show joinD (some D) (a : Int) (b : Int) = (joinP D.1 a b, 0) by
          show (if _ then _ else _) = _
          rw [if_pos ⟨by omega, by omega, by omega, by omega⟩]
          rfl] at this
        exact this
      clear hod HSZ HS1 HTY HN HT
      obtain ⟨ab, hab⟩ : ∃ ab, ab = D.1 := ⟨_, rfl⟩
      rw [← hab] at CS HLAT HLE HJO
      clear hab D
      have hs1 : 1 ≤ ab.length := HLAT.out.pos
      have hs2 : ab.length ≤ 40 := HLAT.out.few
      obtain ⟨N, hN⟩ : ∃ N, N = ab.length := ⟨_, rfl⟩
      rw [← hN] at CS HLE HJO hs1 hs2
      have HNE : Hid (N = ab.length) := hN
      clear hN
      go_upto_region 11 with (first | (go_at_call 8; (with_reducible refine Calls.mono CS ?_); rintro e' w4 ⟨rfl, HBn⟩))
      replace HBc : Hid (Below W.heap.size W w4) := HBc.out.trans (HBn.out.mono HBc.out.size)
      clear CS HBn c0 c1 c2
      obtain ⟨c0, c1, c2⟩ := HXX.out w4 HBc.out
      obtain ⟨a, ha, CW⟩ := within_any (w := w4) p N hs1 (by omega)
      go_upto_region 12 with (first | (go_at_call 12; (with_reducible refine Calls.mono CW ?_); rintro e' w5 ⟨rfl, hw5⟩; subst hw5))
      clear CW
      obtain ⟨b, hb, CW⟩ := within_any (w := w5) q N hs1 (by omega)
      go_upto_region 13 with (first | (go_at_call 12; (with_reducible refine Calls.mono CW ?_); rintro e' w6 ⟨rfl, hw6⟩; subst hw6))
      clear CW
      obtain ⟨c, hc, CW⟩ := within_any (w := w6) r N hs1 (by omega)
      go_upto_region 14 with (first | (go_at_call 12; (with_reducible refine Calls.mono CW ?_); rintro e' w7 ⟨rfl, hw7⟩; subst hw7))
      clear CW
      -- what is known of the order
      obtain ⟨j, hj⟩ : ∃ j, j = joinP ab a b := ⟨_, rfl⟩
      obtain ⟨qq, hq⟩ : ∃ qq, qq = joinP ab b c := ⟨_, rfl⟩
      obtain ⟨pp, hp⟩ : ∃ pp, pp = joinP ab j c := ⟨_, rfl⟩
      obtain ⟨bab, hbab⟩ : ∃ v, v = (ab.getD a 0).testBit b := ⟨_, rfl⟩
      obtain ⟨bba, hbba⟩ : ∃ v, v = (ab.getD b 0).testBit a := ⟨_, rfl⟩
      obtain ⟨bbc, hbbc⟩ : ∃ v, v = (ab.getD b 0).testBit c := ⟨_, rfl⟩
      obtain ⟨bac, hbac⟩ : ∃ v, v = (ab.getD a 0).testBit c := ⟨_, rfl⟩
      obtain ⟨bjc, hbjc⟩ : ∃ v, v = (ab.getD j 0).testBit c := ⟨_, rfl⟩
      have ha' : a < ab.length := by rw [← HNE.out]; exact ha
      have hb' : b < ab.length := by rw [← HNE.out]; exact hb
      have hc' : c < ab.length := by rw [← HNE.out]; exact hc
      have hjl := join_lt HLAT.out ha' hb'
      have hql := join_lt HLAT.out hb' hc'
      obtain ⟨-, -, k1, k2, k3⟩ := join_lat HLAT.out ha' hb'
      have HJN : Hid (j < N ∧ qq < N) := by rw [hj, hq, HNE.out]; exact ⟨hjl, hql⟩
      have HF1 : Hid (bab = true → a ≤ b) := fun h => HLAT.out.rise _ _ (show Le ab a b from hbab.symm.trans h)
      have HF2 : Hid (bab = true → bba = true → a = b) := fun h h2 => HLAT.out.anti (show Le ab a b from hbab.symm.trans h) (show Le ab b a from hbba.symm.trans h2)
      have HF3 : Hid (bab = true → bbc = true → bac = true) := fun h h2 => hbac.trans (HLAT.out.trans _ _ _ (show Le ab a b from hbab.symm.trans h) (show Le ab b c from hbbc.symm.trans h2))
      have HF4 : Hid (bac = true → bbc = true → bjc = true) := fun h h2 => by
        rw [hbjc, hj]
        exact k3 c (show Le ab a c from hbac.symm.trans h) (show Le ab b c from hbbc.symm.trans h2)
      have HF5 : Hid (bab = true → j = b) := fun h => by
        rw [hj]
        exact join_le HLAT.out (show Le ab a b from hbab.symm.trans h) ha' hb'
      have HT1 : Hid ((ab.getD 0 0).testBit a = true ∧ (ab.getD a 0).testBit (N - 1) = true ∧ (ab.getD a 0).testBit a = true ∧ (ab.getD a 0).testBit j = true ∧ (ab.getD b 0).testBit j = true) := by
        rw [hj]
        exact ⟨HLAT.out.bot a ha', by rw [HNE.out]; exact HLAT.out.top a ha', HLAT.out.refl a ha', k1, k2⟩
      have HJ2 : Hid (joinP ab b a = j ∧ joinP ab a b = j ∧ joinP ab j c = pp ∧ joinP ab b c = qq ∧ joinP ab a qq = pp) := ⟨by rw [hj, join_comm], hj.symm, hp.symm, hq.symm, by rw [hp, hq, hj]; exact (join_assoc HLAT.out ha' hb' hc').symm⟩
      replace hbab : Hid (bab = (ab.getD a 0).testBit b) := hbab
      replace hbba : Hid (bba = (ab.getD b 0).testBit a) := hbba
      replace hbbc : Hid (bbc = (ab.getD b 0).testBit c) := hbbc
      replace hbac : Hid (bac = (ab.getD a 0).testBit c) := hbac
      replace hbjc : Hid (bjc = (ab.getD j 0).testBit c) := hbjc
      clear hj hq hp k1 k2 k3 hjl hql ha' hb' hc'
      have CC : Calls Tryd.prog 13 #[.agg #[.int .i64 k, .string ⟨n.toArray⟩, .slice ad m cap], .int .i64 (a : Int), .int .i64 (b : Int)] w7 fun r w' => r = .returned (.tuple #[.bool bab, .int .i64 0]) ∧ Hid (Below w7.heap.size w7 w') := by
        have h := HLE.out w7 a b HBc.out ha hb
        rw [← hbab.out] at h
        exact h
      go_upto_region 15 with (first | (go_at_call 13; (with_reducible refine Calls.mono CC ?_); rintro e' v1 ⟨rfl, HBn⟩))
      replace HBc : Hid (Below W.heap.size W v1) := HBc.out.trans (HBn.out.mono HBc.out.size)
      clear CC HBn c0 c1 c2
      obtain ⟨c0, c1, c2⟩ := HXX.out v1 HBc.out
      have CC : Calls Tryd.prog 13 #[.agg #[.int .i64 k, .string ⟨n.toArray⟩, .slice ad m cap], .int .i64 (b : Int), .int .i64 (a : Int)] v1 fun r w' => r = .returned (.tuple #[.bool bba, .int .i64 0]) ∧ Hid (Below v1.heap.size v1 w') := by
        have h := HLE.out v1 b a HBc.out hb ha
        rw [← hbba.out] at h
        exact h
      go_upto_region 16 with (first | (go_at_call 13; (with_reducible refine Calls.mono CC ?_); rintro e' v2 ⟨rfl, HBn⟩))
      replace HBc : Hid (Below W.heap.size W v2) := HBc.out.trans (HBn.out.mono HBc.out.size)
      clear CC HBn c0 c1 c2
      obtain ⟨c0, c1, c2⟩ := HXX.out v2 HBc.out
      have CC : Calls Tryd.prog 13 #[.agg #[.int .i64 k, .string ⟨n.toArray⟩, .slice ad m cap], .int .i64 (b : Int), .int .i64 (c : Int)] v2 fun r w' => r = .returned (.tuple #[.bool bbc, .int .i64 0]) ∧ Hid (Below v2.heap.size v2 w') := by
        have h := HLE.out v2 b c HBc.out hb hc
        rw [← hbbc.out] at h
        exact h
      go_upto_region 17 with (first | (go_at_call 13; (with_reducible refine Calls.mono CC ?_); rintro e' v3 ⟨rfl, HBn⟩))
      replace HBc : Hid (Below W.heap.size W v3) := HBc.out.trans (HBn.out.mono HBc.out.size)
      clear CC HBn c0 c1 c2
      obtain ⟨c0, c1, c2⟩ := HXX.out v3 HBc.out
      have CC : Calls Tryd.prog 13 #[.agg #[.int .i64 k, .string ⟨n.toArray⟩, .slice ad m cap], .int .i64 (a : Int), .int .i64 (c : Int)] v3 fun r w' => r = .returned (.tuple #[.bool bac, .int .i64 0]) ∧ Hid (Below v3.heap.size v3 w') := by
        have h := HLE.out v3 a c HBc.out ha hc
        rw [← hbac.out] at h
        exact h
      go_upto_region 18 with (first | (go_at_call 13; (with_reducible refine Calls.mono CC ?_); rintro e' v4 ⟨rfl, HBn⟩))
      replace HBc : Hid (Below W.heap.size W v4) := HBc.out.trans (HBn.out.mono HBc.out.size)
      clear CC HBn c0 c1 c2
      obtain ⟨c0, c1, c2⟩ := HXX.out v4 HBc.out
      have CC : Calls Tryd.prog 13 #[.agg #[.int .i64 k, .string ⟨n.toArray⟩, .slice ad m cap], .int .i64 0, .int .i64 (a : Int)] v4 fun r w' => r = .returned (.tuple #[.bool true, .int .i64 0]) ∧ Hid (Below v4.heap.size v4 w') := by
        have h := HLE.out v4 0 a HBc.out (by omega) ha
        rw [HT1.out.1] at h
        exact h
      go_upto_region 19 with (first | (go_at_call 13; (with_reducible refine Calls.mono CC ?_); rintro e' v5 ⟨rfl, HBn⟩))
      replace HBc : Hid (Below W.heap.size W v5) := HBc.out.trans (HBn.out.mono HBc.out.size)
      clear CC HBn c0 c1 c2
      obtain ⟨c0, c1, c2⟩ := HXX.out v5 HBc.out
      have CC : Calls Tryd.prog 13 #[.agg #[.int .i64 k, .string ⟨n.toArray⟩, .slice ad m cap], .int .i64 (a : Int), .int .i64 ((N : Int) - 1)] v5 fun r w' => r = .returned (.tuple #[.bool true, .int .i64 0]) ∧ Hid (Below v5.heap.size v5 w') := by
        have h := HLE.out v5 a (N - 1) HBc.out ha (by omega)
        rw [HT1.out.2.1, show ((N - 1 : Nat) : Int) = (N : Int) - 1 by omega] at h
        exact h
      go_upto_region 20 with (first | (go_at_call 13; (with_reducible refine Calls.mono CC ?_); rintro e' v6 ⟨rfl, HBn⟩))
      replace HBc : Hid (Below W.heap.size W v6) := HBc.out.trans (HBn.out.mono HBc.out.size)
      clear CC HBn c0 c1 c2
      obtain ⟨c0, c1, c2⟩ := HXX.out v6 HBc.out
      have CC : Calls Tryd.prog 13 #[.agg #[.int .i64 k, .string ⟨n.toArray⟩, .slice ad m cap], .int .i64 (a : Int), .int .i64 (a : Int)] v6 fun r w' => r = .returned (.tuple #[.bool true, .int .i64 0]) ∧ Hid (Below v6.heap.size v6 w') := by
        have h := HLE.out v6 a a HBc.out ha ha
        rw [HT1.out.2.2.1] at h
        exact h
      go_upto_region 21 with (first | (go_at_call 13; (with_reducible refine Calls.mono CC ?_); rintro e' v7 ⟨rfl, HBn⟩))
      replace HBc : Hid (Below W.heap.size W v7) := HBc.out.trans (HBn.out.mono HBc.out.size)
      clear CC HBn c0 c1 c2
      obtain ⟨c0, c1, c2⟩ := HXX.out v7 HBc.out
      go_upto_region 23 with fail
      go_cut [200] from 162 to 200 (fun s wx => s = .bool false ∧ wx = v7)
      case first =>
        cases bab with
        | false =>
          go_wp2_with fail
          go_meet
          exact ⟨rfl, rfl⟩
        | true =>
          have g1 : ¬ ((a : Int) > (b : Int)) := by have := HF1.out rfl; omega
          cases bba with
          | false =>
            cases bbc with
            | false =>
              go_wp2_with fail
              go_meet
              exact ⟨rfl, rfl⟩
            | true =>
              obtain rfl : bac = true := HF3.out rfl rfl
              go_wp2_with fail
              go_meet
              exact ⟨rfl, rfl⟩
          | true =>
            have g2 : ((a : Int) != (b : Int)) = false := by have := HF2.out rfl rfl; simp [this]
            cases bbc with
            | false =>
              go_wp2_with fail
              go_meet
              exact ⟨rfl, rfl⟩
            | true =>
              obtain rfl : bac = true := HF3.out rfl rfl
              go_wp2_with fail
              go_meet
              exact ⟨rfl, rfl⟩
      case rest =>
        obtain ⟨rfl, hwc⟩ := hcut
        obtain rfl := hwc.symm
        clear hwc
        obtain ⟨c0, c1, c2⟩ := HXX.out _ HBc.out
        have CC : Calls Tryd.prog 14 #[.agg #[.int .i64 k, .string ⟨n.toArray⟩, .slice ad m cap], .int .i64 (a : Int), .int .i64 (b : Int)] v7 fun r w' => r = .returned (.tuple #[.int .i64 (j : Int), .int .i64 0]) ∧ Hid (Below v7.heap.size v7 w') := by
          have h := HJO.out v7 a b HBc.out ha hb
          rw [HJ2.out.2.1] at h
          exact h
        go_upto_region 26 with (first | (go_at_call 14; (with_reducible refine Calls.mono CC ?_); rintro e' v8 ⟨rfl, HBn⟩))
        replace HBc : Hid (Below W.heap.size W v8) := HBc.out.trans (HBn.out.mono HBc.out.size)
        clear CC HBn c0 c1 c2
        obtain ⟨c0, c1, c2⟩ := HXX.out v8 HBc.out
        have CC : Calls Tryd.prog 14 #[.agg #[.int .i64 k, .string ⟨n.toArray⟩, .slice ad m cap], .int .i64 (b : Int), .int .i64 (a : Int)] v8 fun r w' => r = .returned (.tuple #[.int .i64 (j : Int), .int .i64 0]) ∧ Hid (Below v8.heap.size v8 w') := by
          have h := HJO.out v8 b a HBc.out hb ha
          rw [HJ2.out.1] at h
          exact h
        go_upto_region 27 with (first | (go_at_call 14; (with_reducible refine Calls.mono CC ?_); rintro e' v9 ⟨rfl, HBn⟩))
        replace HBc : Hid (Below W.heap.size W v9) := HBc.out.trans (HBn.out.mono HBc.out.size)
        clear CC HBn c0 c1 c2
        obtain ⟨c0, c1, c2⟩ := HXX.out v9 HBc.out
        have CC : Calls Tryd.prog 13 #[.agg #[.int .i64 k, .string ⟨n.toArray⟩, .slice ad m cap], .int .i64 (a : Int), .int .i64 (j : Int)] v9 fun r w' => r = .returned (.tuple #[.bool true, .int .i64 0]) ∧ Hid (Below v9.heap.size v9 w') := by
          have h := HLE.out v9 a j HBc.out ha HJN.out.1
          rw [HT1.out.2.2.2.1] at h
          exact h
        go_upto_region 28 with (first | (go_at_call 13; (with_reducible refine Calls.mono CC ?_); rintro e' v10 ⟨rfl, HBn⟩))
        replace HBc : Hid (Below W.heap.size W v10) := HBc.out.trans (HBn.out.mono HBc.out.size)
        clear CC HBn c0 c1 c2
        obtain ⟨c0, c1, c2⟩ := HXX.out v10 HBc.out
        have CC : Calls Tryd.prog 13 #[.agg #[.int .i64 k, .string ⟨n.toArray⟩, .slice ad m cap], .int .i64 (b : Int), .int .i64 (j : Int)] v10 fun r w' => r = .returned (.tuple #[.bool true, .int .i64 0]) ∧ Hid (Below v10.heap.size v10 w') := by
          have h := HLE.out v10 b j HBc.out hb HJN.out.1
          rw [HT1.out.2.2.2.2] at h
          exact h
        go_upto_region 29 with (first | (go_at_call 13; (with_reducible refine Calls.mono CC ?_); rintro e' v11 ⟨rfl, HBn⟩))
        replace HBc : Hid (Below W.heap.size W v11) := HBc.out.trans (HBn.out.mono HBc.out.size)
        clear CC HBn c0 c1 c2
        obtain ⟨c0, c1, c2⟩ := HXX.out v11 HBc.out
        have CC : Calls Tryd.prog 13 #[.agg #[.int .i64 k, .string ⟨n.toArray⟩, .slice ad m cap], .int .i64 (j : Int), .int .i64 (c : Int)] v11 fun r w' => r = .returned (.tuple #[.bool bjc, .int .i64 0]) ∧ Hid (Below v11.heap.size v11 w') := by
          have h := HLE.out v11 j c HBc.out HJN.out.1 hc
          rw [← hbjc.out] at h
          exact h
        go_upto_region 30 with (first | (go_at_call 13; (with_reducible refine Calls.mono CC ?_); rintro e' v12 ⟨rfl, HBn⟩))
        replace HBc : Hid (Below W.heap.size W v12) := HBc.out.trans (HBn.out.mono HBc.out.size)
        clear CC HBn c0 c1 c2
        obtain ⟨c0, c1, c2⟩ := HXX.out v12 HBc.out
        go_upto_region 32 with fail
        go_cut [282] from 254 to 282 (fun s wx => s = .bool false ∧ wx = v12)
        case first =>
          have g4 : ((j : Int) != (j : Int)) = false := by simp
          cases bac with
          | false =>
            cases bab with
            | false =>
              go_wp2_with fail
              go_meet
              exact ⟨rfl, rfl⟩
            | true =>
              have g5 : ((j : Int) != (b : Int)) = false := by have := HF5.out rfl; simp [this]
              go_wp2_with fail
              go_meet
              exact ⟨rfl, rfl⟩
          | true =>
            cases bbc with
            | false =>
              cases bab with
              | false =>
                go_wp2_with fail
                go_meet
                exact ⟨rfl, rfl⟩
              | true =>
                have g5 : ((j : Int) != (b : Int)) = false := by have := HF5.out rfl; simp [this]
                go_wp2_with fail
                go_meet
                exact ⟨rfl, rfl⟩
            | true =>
              obtain rfl : bjc = true := HF4.out rfl rfl
              cases bab with
              | false =>
                go_wp2_with fail
                go_meet
                exact ⟨rfl, rfl⟩
              | true =>
                have g5 : ((j : Int) != (b : Int)) = false := by have := HF5.out rfl; simp [this]
                go_wp2_with fail
                go_meet
                exact ⟨rfl, rfl⟩
        case rest =>
          obtain ⟨rfl, hwc⟩ := hcut
          obtain rfl := hwc.symm
          clear hwc
          obtain ⟨c0, c1, c2⟩ := HXX.out _ HBc.out
          have CC : Calls Tryd.prog 14 #[.agg #[.int .i64 k, .string ⟨n.toArray⟩, .slice ad m cap], .int .i64 (j : Int), .int .i64 (c : Int)] v12 fun r w' => r = .returned (.tuple #[.int .i64 (pp : Int), .int .i64 0]) ∧ Hid (Below v12.heap.size v12 w') := by
            have h := HJO.out v12 j c HBc.out HJN.out.1 hc
            rw [HJ2.out.2.2.1] at h
            exact h
          go_upto_region 35 with (first | (go_at_call 14; (with_reducible refine Calls.mono CC ?_); rintro e' v13 ⟨rfl, HBn⟩))
          replace HBc : Hid (Below W.heap.size W v13) := HBc.out.trans (HBn.out.mono HBc.out.size)
          clear CC HBn c0 c1 c2
          obtain ⟨c0, c1, c2⟩ := HXX.out v13 HBc.out
          have CC : Calls Tryd.prog 14 #[.agg #[.int .i64 k, .string ⟨n.toArray⟩, .slice ad m cap], .int .i64 (b : Int), .int .i64 (c : Int)] v13 fun r w' => r = .returned (.tuple #[.int .i64 (qq : Int), .int .i64 0]) ∧ Hid (Below v13.heap.size v13 w') := by
            have h := HJO.out v13 b c HBc.out hb hc
            rw [HJ2.out.2.2.2.1] at h
            exact h
          go_upto_region 36 with (first | (go_at_call 14; (with_reducible refine Calls.mono CC ?_); rintro e' v14 ⟨rfl, HBn⟩))
          replace HBc : Hid (Below W.heap.size W v14) := HBc.out.trans (HBn.out.mono HBc.out.size)
          clear CC HBn c0 c1 c2
          obtain ⟨c0, c1, c2⟩ := HXX.out v14 HBc.out
          have CC : Calls Tryd.prog 14 #[.agg #[.int .i64 k, .string ⟨n.toArray⟩, .slice ad m cap], .int .i64 (a : Int), .int .i64 (qq : Int)] v14 fun r w' => r = .returned (.tuple #[.int .i64 (pp : Int), .int .i64 0]) ∧ Hid (Below v14.heap.size v14 w') := by
            have h := HJO.out v14 a qq HBc.out ha HJN.out.2
            rw [HJ2.out.2.2.2.2] at h
            exact h
          go_upto_region 37 with (first | (go_at_call 14; (with_reducible refine Calls.mono CC ?_); rintro e' v15 ⟨rfl, HBn⟩))
          replace HBc : Hid (Below W.heap.size W v15) := HBc.out.trans (HBn.out.mono HBc.out.size)
          clear CC HBn c0 c1 c2
          obtain ⟨c0, c1, c2⟩ := HXX.out v15 HBc.out
          go_wp2
          refine bodyPost_ret (v := .bool true) (by simp [results, Tryd.results4, go_sem]) rfl ?_
          exact ⟨rfl, HBW.out v15 HBc.out⟩
end Go.Proofs.YtgdflaapgfpdeaaDoor
