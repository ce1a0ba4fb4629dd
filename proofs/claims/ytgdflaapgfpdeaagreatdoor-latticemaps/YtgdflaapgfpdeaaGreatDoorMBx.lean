/- LatticeMaps: all. LatticeMaps answers true. -/
import Derived.Test.YtgdflaapgfpdeaaGreatDoorMAx
namespace Go.Proofs.YtgdflaapgfpdeaaGreatDoor
open Go.RowKit

/-- What the law asks of a function type's order, as contracts. -/
structure Calls6 (fa ta : List Nat) (x u a : Value) (w : World) : Prop where
  below : ∀ f g : Nat, f < (resP fa ta).length → g < (resP fa ta).length → Calls Tryz.prog 21 #[x, .int .i64 (f : Int), .int .i64 (g : Int)] w fun r w' => r = .returned (.tuple #[.bool (((fnsP ta (resP fa ta)).getD f 0).testBit g), .int .i64 0]) ∧ Hid (Below w.heap.size w w')
  join : ∀ f g : Nat, f < (resP fa ta).length → g < (resP fa ta).length → Calls Tryz.prog 23 #[x, .int .i64 (f : Int), .int .i64 (g : Int)] w fun r w' => r = .returned (.tuple #[.int .i64 (joinP (fnsP ta (resP fa ta)) f g : Int), .int .i64 0]) ∧ Hid (Below w.heap.size w w')
  edge : ∀ f v : Nat, f < (resP fa ta).length → v < ta.length → Calls Tryz.prog 31 #[x, .int .i64 (f : Int), .int .i64 (v : Int)] w fun r w' => EdPost (edgeP fa ta ((resP fa ta).getD f []) v fa.length, 0) w r w'
  apply : ∀ f y : Nat, f < (resP fa ta).length → y < fa.length → Calls Tryz.prog 14 #[x, .int .i64 (f : Int), .int .i64 (y : Int)] w fun r w' => r = .returned (.tuple #[.int .i64 (((resP fa ta).getD f []).getD y 0 : Int), .int .i64 0]) ∧ Hid (Below w.heap.size w w')
  of : ∀ (f : Nat) (tv : Value), f < (resP fa ta).length → Zts w tv (ofN ((resP fa ta).getD f [])) → Calls Tryz.prog 9 #[x, tv] w fun r w' => r = .returned (.tuple #[.int .i64 (f : Int), .int .i64 0]) ∧ Hid (Below w.heap.size w w')
  joinU : ∀ p q : Nat, p < ta.length → q < ta.length → Calls Tryz.prog 23 #[u, .int .i64 (p : Int), .int .i64 (q : Int)] w fun r w' => r = .returned (.tuple #[.int .i64 (joinP ta p q : Int), .int .i64 0]) ∧ Hid (Below w.heap.size w w')
  belowU : ∀ p q : Nat, p < ta.length → q < ta.length → Calls Tryz.prog 21 #[u, .int .i64 (p : Int), .int .i64 (q : Int)] w fun r w' => r = .returned (.tuple #[.bool ((ta.getD p 0).testBit q), .int .i64 0]) ∧ Hid (Below w.heap.size w w')
  belowA : ∀ p q : Nat, p < fa.length → q < fa.length → Calls Tryz.prog 21 #[a, .int .i64 (p : Int), .int .i64 (q : Int)] w fun r w' => r = .returned (.tuple #[.bool ((fa.getD p 0).testBit q), .int .i64 0]) ∧ Hid (Below w.heap.size w w')
theorem below_some {d : Nat} {x : Value} {t : Tn (d + 1)} {w : World} {D : OrdD} (hx : TyAt w w.heap.size (d + 1) x t) (hN : (flat (d + 1) t).length ≤ 4194304) (hD : orderD (d + 1) t = some D) (a b : Nat) (ha : a < D.1.length) (hb : b < D.1.length) : Calls Tryz.prog 21 #[x, .int .i64 (a : Int), .int .i64 (b : Int)] w fun r w' => r = .returned (.tuple #[.bool ((D.1.getD a 0).testBit b), .int .i64 0]) ∧ Hid (Below w.heap.size w w') := by
  have := below_all d x t w hx hN a b
  rw [hD, show belowD (some D) (a : Int) (b : Int) = ((D.1.getD a 0).testBit b, 0) by
    show (if _ then _ else _) = _
    rw [if_pos ⟨by omega, by omega, by omega, by omega⟩]
    rfl] at this
  exact this
theorem join_some {d : Nat} {x : Value} {t : Tn (d + 1)} {w : World} {D : OrdD} (hx : TyAt w w.heap.size (d + 1) x t) (hN : (flat (d + 1) t).length ≤ 4194304) (hT : ∀ w', Below w.heap.size w w' → TabAt 0 Lib.deBruijn64tab w') (hD : orderD (d + 1) t = some D) (a b : Nat) (ha : a < D.1.length) (hb : b < D.1.length) : Calls Tryz.prog 23 #[x, .int .i64 (a : Int), .int .i64 (b : Int)] w fun r w' => r = .returned (.tuple #[.int .i64 (joinP D.1 a b : Int), .int .i64 0]) ∧ Hid (Below w.heap.size w w') := by
  have := join_all d x t w hx hN hT a b
  rw [hD, show joinD (some D) (a : Int) (b : Int) = (joinP D.1 a b, 0) by
    show (if _ then _ else _) = _
    rw [if_pos ⟨by omega, by omega, by omega, by omega⟩]
    rfl] at this
  exact this
/-- The contracts at a function type that has an order. -/
theorem calls6 {d : Nat} {x u a : Value} {t : Tn (d + 2)} {ta ua : Tn (d + 1)} {A C : OrdD} {w : World} (hx : TyAt w w.heap.size (d + 2) x t) (ha : TyAt w w.heap.size (d + 1) a ta) (hu : TyAt w w.heap.size (d + 1) u ua) (hN : (flat (d + 2) t).length ≤ 4194304) (hNa : (flat (d + 1) ta).length ≤ 500) (hNu : (flat (d + 1) ua).length ≤ 500) (hT : ∀ w', Below w.heap.size w w' → TabAt 0 Lib.deBruijn64tab w') (hf : funD (d + 1) t = some (fnsP C.1 (resP A.1 C.1), some (A.1, C.1))) (ho : orderD (d + 2) t = some (fnsP C.1 (resP A.1 C.1), some (A.1, C.1))) (hA : orderD (d + 1) ta = some A) (hC : orderD (d + 1) ua = some C) : Calls6 A.1 C.1 x u a w := by
  have hl : (fnsP C.1 (resP A.1 C.1), some (A.1, C.1)).1.length = (resP A.1 C.1).length := fns_len _ _
  refine ⟨fun f g h1 h2 => below_some hx hN ho f g (by rw [hl]; exact h1) (by rw [hl]; exact h2), fun f g h1 h2 => join_some hx hN hT ho f g (by rw [hl]; exact h1) (by rw [hl]; exact h2), fun f v h1 h2 => ?_, fun f y h1 h2 => ?_, fun f tv h1 h2 => ?_, fun p q h1 h2 => join_some hu (by omega) hT hC p q h1 h2, fun p q h1 h2 => below_some hu (by omega) hC p q h1 h2, fun p q h1 h2 => below_some ha (by omega) hA p q h1 h2⟩
  · have := edge_all (d + 1) x t w hx hN f v
    rw [hf, show edgeD (some (fnsP C.1 (resP A.1 C.1), some (A.1, C.1))) (f : Int) (v : Int) = (edgeP A.1 C.1 ((resP A.1 C.1).getD f []) v A.1.length, 0) by
      show (if _ then _ else _) = _
      rw [if_pos ⟨by omega, by (show (f : Int) < ((fnsP C.1 (resP A.1 C.1)).length : Int)); rw [fns_len]; omega, by omega, by (show (v : Int) < (C.1.length : Int)); omega⟩]
      rfl] at this
    exact this
  · have := apply_all (d + 1) x t w hx hN f y
    rw [hf, show applyD (some (fnsP C.1 (resP A.1 C.1), some (A.1, C.1))) (f : Int) (y : Int) = (((resP A.1 C.1).getD f []).getD y 0, 0) by
      show (if _ then _ else _) = _
      rw [if_pos ⟨by omega, by (show (f : Int) < ((fnsP C.1 (resP A.1 C.1)).length : Int)); rw [fns_len]; omega, by omega, by (show (y : Int) < (A.1.length : Int)); omega⟩]
      rfl] at this
    exact this
  · have := of_all (d + 1) x t w hx hN h2
    rw [hf, of_found h1 rfl] at this
    exact this
set_option maxHeartbeats 16000000 in
set_option maxRecDepth 10000 in
theorem all_any {d : Nat} {n : List UInt8} {ta ua : Tn (d + 1)} {A C : OrdD} {x : Value} (w : World) (hx : TyAt w w.heap.size (d + 2) x ((3, n), [ta, ua])) (hN : (flat (d + 2) ((3, n), [ta, ua])).length ≤ 4194304) (hNa : (flat (d + 1) ta).length ≤ 500) (hNu : (flat (d + 1) ua).length ≤ 500) (hT : ∀ w', Below w.heap.size w w' → TabAt 0 Lib.deBruijn64tab w') (hfd : funD (d + 1) ((3, n), [ta, ua]) = some (fnsP C.1 (resP A.1 C.1), some (A.1, C.1))) (hod : orderD (d + 2) ((3, n), [ta, ua]) = some (fnsP C.1 (resP A.1 C.1), some (A.1, C.1))) (hA : orderD (d + 1) ta = some A) (hC : orderD (d + 1) ua = some C) (hla : Lat A.1) (hlb : Lat C.1) (hfew : (resP A.1 C.1).length ≤ 40) (f h v : Nat) (hf : f < (resP A.1 C.1).length) (hh : h < (resP A.1 C.1).length) (hv : v < C.1.length) :
    Calls Tryz.prog 16 #[x, .int .i64 (f : Int), .int .i64 (h : Int), .int .i64 (v : Int), .int .i64 (A.1.length : Int)] w fun e w' => e = .returned (.bool true) ∧ Hid (Below w.heap.size w w') := by
  have HX : Hid (TyAt w w.heap.size (d + 2) x ((3, n), [ta, ua])) := hx
  obtain ⟨u, rfl, hn1, hn2, hrow⟩ := hx
  obtain ⟨ad, cap, rfl, hc⟩ := RowP.cells hrow
  obtain ⟨g, o, rfl, hcap, hgB, hel⟩ := hc (by simp)
  obtain ⟨k0, n0, ad0, len0, cap0, hc0, ht0⟩ := hel 0 (by simp)
  obtain ⟨k1, n1, ad1, len1, cap1, hc1, ht1⟩ := hel 1 (by simp)
  replace ht0 : TyAt w w.heap.size (d + 1) (.agg #[.int .i64 k0, .string n0, .slice ad0 len0 cap0]) ta := ht0
  replace ht1 : TyAt w w.heap.size (d + 1) (.agg #[.int .i64 k1, .string n1, .slice ad1 len1 cap1]) ua := ht1
  replace hcap : 2 ≤ cap := hcap
  obtain ⟨X, hX⟩ : ∃ X, X = w.heap.size := ⟨_, rfl⟩
  obtain ⟨W, hW⟩ : ∃ W, W = w.alloc (.cells #[.int .i64 3, .string ⟨n.toArray⟩, .slice (some ⟨g, o, none⟩) 2 cap] 24) := ⟨_, rfl⟩
  have hBW : Below w.heap.size w W := by rw [hW]; exact (Below.refl _ _).alloc (Nat.le_refl _) _
  have hXW : W.heap[X]? = some (.cells #[.int .i64 3, .string ⟨n.toArray⟩, .slice (some ⟨g, o, none⟩) 2 cap] 24 (0, 0)) := by rw [hW, hX]; exact new_blk _ _
  obtain ⟨fa, hfa⟩ : ∃ fa, fa = A.1 := ⟨_, rfl⟩
  obtain ⟨tb, htb⟩ : ∃ tb, tb = C.1 := ⟨_, rfl⟩
  have HALL : Hid (∀ w2 : World, Below W.heap.size W w2 → Calls6 fa tb (.agg #[.int .i64 3, .string ⟨n.toArray⟩, .slice (some ⟨g, o, none⟩) 2 cap]) (.agg #[.int .i64 k1, .string n1, .slice ad1 len1 cap1]) (.agg #[.int .i64 k0, .string n0, .slice ad0 len0 cap0]) w2 ∧ (w2.cell? ⟨X, 0, none⟩ = some (.int .i64 3) ∧ w2.cell? ⟨X, 1, none⟩ = some (.string ⟨n.toArray⟩) ∧ w2.cell? ⟨X, 2, none⟩ = some (.slice (some ⟨g, o, none⟩) 2 cap)) ∧ (w2.cell? ⟨g, o, none⟩ = some (.int .i64 k0) ∧ w2.cell? ⟨g, o + 1, none⟩ = some (.string n0) ∧ w2.cell? ⟨g, o + 2, none⟩ = some (.slice ad0 len0 cap0)) ∧ w2.cell? ⟨g, o + 3, none⟩ = some (.int .i64 k1) ∧ w2.cell? ⟨g, o + 4, none⟩ = some (.string n1) ∧ w2.cell? ⟨g, o + 5, none⟩ = some (.slice ad1 len1 cap1)) := fun w2 h2 => by
    have h3 : Below w.heap.size w w2 := hBW.trans (h2.mono hBW.size)
    have h4 := (h2.block X (lt_heap hXW)).trans hXW
    obtain ⟨e0, e1, e2⟩ := hc0 w2 h3
    obtain ⟨e3, e4, e5⟩ := hc1 w2 h3
    rw [show o + 0 * 3 = o by omega] at e0 e1 e2
    refine ⟨?_, ⟨heap_cl h4 rfl, heap_cl h4 rfl, heap_cl h4 rfl⟩, ⟨e0, e1, e2⟩, by simpa using e3, by simpa using e4, by simpa using e5⟩
    rw [hfa, htb]
    exact calls6 (TyAt.below h3 h3.size _ _ _ HX.out) (TyAt.below h3 h3.size _ _ _ ht0) (TyAt.below h3 h3.size _ _ _ ht1) hN hNa hNu (fun w' h' => hT w' (h3.trans (h'.mono h3.size))) hfd hod hA hC
  have HBW : Hid (∀ w2 : World, Below W.heap.size W w2 → Below w.heap.size w w2) := fun w2 h2 => hBW.trans (h2.mono hBW.size)
  have HXE : Hid (X = w.heap.size) := hX
  rw [← hfa] at hla hf hh ⊢
  rw [← htb] at hlb hf hh hv
  rw [← hfa, ← htb] at hfew
  clear hel hc hc0 hc1 ht0 ht1 hrow hn1 hn2 HX hN hNa hNu hT hfd hod hA hC hX hXW hBW hgB hfa htb
  -- what is known of the functions
  obtain ⟨rf, hrf⟩ : ∃ rf, rf = (resP fa tb).getD f [] := ⟨_, rfl⟩
  obtain ⟨rg, hrg⟩ : ∃ rg, rg = (resP fa tb).getD h [] := ⟨_, rfl⟩
  obtain ⟨j, hj⟩ : ∃ j, j = joinP (fnsP tb (resP fa tb)) f h := ⟨_, rfl⟩
  obtain ⟨el, hel⟩ : ∃ el, el = edgeP fa tb rf v fa.length := ⟨_, rfl⟩
  obtain ⟨fg, hfg⟩ : ∃ fg, fg = ((fnsP tb (resP fa tb)).getD f 0).testBit h := ⟨_, rfl⟩
  obtain ⟨hj1, hj2⟩ := join_point hlb hfew hf hh
  obtain ⟨f1, f2, f3⟩ := res_ok hf
  obtain ⟨g1, g2, g3⟩ := res_ok hh
  rw [← hj] at hj1 hj2
  rw [← hrf] at hj2 f1 f2
  rw [← hrg] at hj2 g1 g2
  have HFL : Hid (rf.length = fa.length) := f1
  have HF2 : Hid (∀ y, y < fa.length → rf.getD y 0 < tb.length ∧ rg.getD y 0 < tb.length) := fun y hy => ⟨f2 y hy, g2 y hy⟩
  have HJ2 : Hid (∀ y, y < fa.length → ((resP fa tb).getD j []).getD y 0 = joinP tb (rf.getD y 0) (rg.getD y 0)) := hj2
  have HMET : Hid (∀ y, y < fa.length → el.any (fun z => (fa.getD z 0).testBit y) = (tb.getD v 0).testBit (rf.getD y 0)) := fun y hy => by
    rw [hel, hrf]
    exact edge_met hla hlb hf hy
  have HUND : Hid (fg = true ↔ ∀ y, y < fa.length → (tb.getD (rf.getD y 0) 0).testBit (rg.getD y 0) = true) := by
    show _ ↔ _
    rw [hfg, hrf, hrg]
    exact under_point hlb hf hh
  have HEL : Hid (el.length ≤ 40 ∧ ∀ z ∈ el, z < fa.length) := by
    have hl := hla.few
    rw [hel]
    exact ⟨Nat.le_trans (edge_len _ _ _ _ _) hl, edge_lt _ _ _ _ _⟩
  have hfl40 : fa.length ≤ 40 := hla.few
  have HNUM : Hid (f < (resP fa tb).length ∧ h < (resP fa tb).length ∧ v < tb.length ∧ j < (resP fa tb).length) := ⟨hf, hh, hv, hj1⟩
  have HE1 : Hid (fg = ((fnsP tb (resP fa tb)).getD f 0).testBit h) := hfg
  have HE2 : Hid (j = joinP (fnsP tb (resP fa tb)) f h) := hj
  have HE3 : Hid (el = edgeP fa tb ((resP fa tb).getD f []) v fa.length) := by
    show _ = _
    rw [hel, hrf]
  have HE4 : Hid (rf = (resP fa tb).getD f []) := hrf
  have HE5 : Hid (rg = (resP fa tb).getD h []) := hrg
  clear hfg hj hel hrf hrg hj1 hj2 f1 f2 f3 g1 g2 g3 hlb hla hfew hf hh hv
  have HBc : Hid (Below W.heap.size W W) := Below.refl _ _
  obtain ⟨K6, ⟨c0, c1, c2⟩, ⟨a0, a1, a2⟩, b0, b1, b2⟩ := HALL.out W HBc.out
  clear a0 a1 a2 b0 b1 b2
  go_enter Tryz.func16, Tryz.ntmps16
  go_upto_region 1 with fail
  rw [← hW, ← HXE.out]
  clear hW
  have CC : Calls Tryz.prog 21 #[.agg #[.int .i64 3, .string ⟨n.toArray⟩, .slice (some ⟨g, o, none⟩) 2 cap], .int .i64 (f : Int), .int .i64 (h : Int)] W fun r w' => r = .returned (.tuple #[.bool fg, .int .i64 0]) ∧ Hid (Below W.heap.size W w') := by
    have q := K6.below f h HNUM.out.1 HNUM.out.2.1
    rw [← HE1.out] at q
    exact q
  clear K6
  go_upto_region 2 with (first | (go_at_call 21; (with_reducible refine Calls.mono CC ?_); rintro e' w2 ⟨rfl, HBn⟩))
  replace HBc : Hid (Below W.heap.size W w2) := HBc.out.trans (HBn.out.mono HBc.out.size)
  clear CC HBn c0 c1 c2
  obtain ⟨K6, ⟨c0, c1, c2⟩, ⟨a0, a1, a2⟩, b0, b1, b2⟩ := HALL.out w2 HBc.out
  clear a0 a1 a2 b0 b1 b2
  have CC : Calls Tryz.prog 23 #[.agg #[.int .i64 3, .string ⟨n.toArray⟩, .slice (some ⟨g, o, none⟩) 2 cap], .int .i64 (f : Int), .int .i64 (h : Int)] w2 fun r w' => r = .returned (.tuple #[.int .i64 (j : Int), .int .i64 0]) ∧ Hid (Below w2.heap.size w2 w') := by
    have q := K6.join f h HNUM.out.1 HNUM.out.2.1
    rw [← HE2.out] at q
    exact q
  clear K6
  go_upto_region 3 with (first | (go_at_call 23; (with_reducible refine Calls.mono CC ?_); rintro e' w3 ⟨rfl, HBn⟩))
  replace HBc : Hid (Below W.heap.size W w3) := HBc.out.trans (HBn.out.mono HBc.out.size)
  clear CC HBn c0 c1 c2
  obtain ⟨K6, ⟨c0, c1, c2⟩, ⟨a0, a1, a2⟩, b0, b1, b2⟩ := HALL.out w3 HBc.out
  clear a0 a1 a2 b0 b1 b2
  have CC : Calls Tryz.prog 31 #[.agg #[.int .i64 3, .string ⟨n.toArray⟩, .slice (some ⟨g, o, none⟩) 2 cap], .int .i64 (f : Int), .int .i64 (v : Int)] w3 fun r w' => EdPost (el, 0) w3 r w' := by
    have q := K6.edge f v HNUM.out.1 HNUM.out.2.2.1
    rw [← HE3.out] at q
    exact q
  clear K6
  go_upto_region 4 with (first | (go_at_call 31; (with_reducible refine Calls.mono CC ?_); rintro e' w4 ⟨ade, cape, rfl, HBn, HOe⟩))
  have hw34 := HBn.out.size
  replace HBc : Hid (Below W.heap.size W w4) := HBc.out.trans (HBn.out.mono HBc.out.size)
  clear CC HBn c0 c1 c2
  obtain ⟨K6, ⟨c0, c1, c2⟩, -, b0, b1, b2⟩ := HALL.out w4 HBc.out
  clear K6
  go_upto_region 5 with fail
  obtain ⟨U, hU⟩ : ∃ U, U = w4.heap.size := ⟨_, rfl⟩
  obtain ⟨w5, hw5⟩ : ∃ w5, w5 = w4.alloc (.cells #[.int .i64 k1, .string n1, .slice ad1 len1 cap1] 24) := ⟨_, rfl⟩
  have hU5 : w5.heap[U]? = some (.cells #[.int .i64 k1, .string n1, .slice ad1 len1 cap1] 24 (0, 0)) := by rw [hw5, hU]; exact new_blk _ _
  have hB5 : Below w4.heap.size w4 w5 := by rw [hw5]; exact (Below.refl _ _).alloc (Nat.le_refl _) _
  rw [← hw5, ← hU]
  have HBc5 : Hid (Below W.heap.size W w5) := HBc.out.trans (hB5.mono HBc.out.size)
  have HED : Hid (∀ w2 : World, Below w5.heap.size w5 w2 → Below W.heap.size W w2 ∧ w2.cell? ⟨U, 0, none⟩ = some (.int .i64 k1) ∧ w2.cell? ⟨U, 1, none⟩ = some (.string n1) ∧ w2.cell? ⟨U, 2, none⟩ = some (.slice ad1 len1 cap1) ∧ ∀ i (hi : i < el.length), ∃ ge oe, ade = some ⟨ge, oe, none⟩ ∧ el.length ≤ cape ∧ ge < w5.heap.size ∧ w2.cell? ⟨ge, oe + i, none⟩ = some (.int .i64 (el[i] : Int))) := fun w2 h2 => by
    have h4 := (h2.block U (lt_heap hU5)).trans hU5
    refine ⟨HBc5.out.trans (h2.mono HBc5.out.size), heap_cl h4 rfl, heap_cl h4 rfl, heap_cl h4 rfl, fun i hi => ?_⟩
    obtain ⟨ge, oe, q1, q2, q3, q4⟩ := (RowE.toNts (OwnN.rowE HOe.out)).at hi
    have hge : ge < w5.heap.size := Nat.lt_of_lt_of_le q3.2 hB5.size
    exact ⟨ge, oe, q1, q2, hge, (h2.cell (p := ⟨ge, oe + i, none⟩) hge).trans ((hB5.cell (p := ⟨ge, oe + i, none⟩) q3.2).trans q4)⟩
  clear HBc HOe hw34 c0 c1 c2 b0 b1 b2 hU hw5 hU5 hB5
  go_upto_region 8 with fail
  go_loopw [18, 19, 20] (fun uv rv iv wr => ∃ (y : Nat) (ub : Bool), y ≤ fa.length ∧ iv = .int .i64 y ∧ uv = .bool ub ∧ Hid (ub = true ↔ ∀ z, z < y → (tb.getD (rf.getD z 0) 0).testBit (rg.getD z 0) = true) ∧ Hid (Below w5.heap.size w5 wr) ∧ ∃ ad cap, rv = .slice ad y cap ∧ Hid (OwnN ENat 3 w5.heap.size (fun _ => False) wr (.slice ad y cap) (rf.take y))) (fun _ _ iv _ => fa.length - (intOf iv).toNat)
  case atStart => exact ⟨0, true, by omega, by go_num, rfl, ⟨fun _ z hz => by omega, fun _ => rfl⟩, Below.refl _ _, none, 0, rfl, OwnN.nil _ _ _ _ _⟩
  case round =>
    obtain ⟨y, ub, hy, rfl, rfl, HU, HB, adr, capr, rfl, HO⟩ := hrel
    by_cases hyl : y < fa.length
    · have i1 : (0 : Int) ≤ (y : Int) := by omega
      have i2 : (y : Int) < (fa.length : Int) := by omega
      obtain ⟨p, hp⟩ : ∃ p, p = rf.getD y 0 := ⟨_, rfl⟩
      obtain ⟨q, hq⟩ : ∃ q, q = rg.getD y 0 := ⟨_, rfl⟩
      obtain ⟨jx, hjx⟩ : ∃ jx, jx = joinP tb p q := ⟨_, rfl⟩
      obtain ⟨bpq, hbpq⟩ : ∃ b, b = (tb.getD p 0).testBit q := ⟨_, rfl⟩
      obtain ⟨bre, hbre⟩ : ∃ b, b = (tb.getD v 0).testBit p := ⟨_, rfl⟩
      have HPQ : Hid (p < tb.length ∧ q < tb.length) := by rw [hp, hq]; exact HF2.out y hyl
      have G1 : Hid (p = rf.getD y 0) := hp
      have G2 : Hid (q = rg.getD y 0) := hq
      have G3 : Hid (jx = ((resP fa tb).getD j []).getD y 0) := by
        show _ = _
        rw [HJ2.out y hyl, ← hp, ← hq, hjx]
      have G4 : Hid (jx = joinP tb p q) := hjx
      have G5 : Hid (bpq = (tb.getD p 0).testBit q) := hbpq
      have G6 : Hid (bre = (tb.getD v 0).testBit p) := hbre
      have G7 : Hid (el.any (fun z => (fa.getD z 0).testBit y) = bre) := by
        show _ = _
        rw [HMET.out y hyl, hbre, hp]
      have GL : Hid (y < rf.length) := by
        show _ < _
        rw [HFL.out]
        exact hyl
      have GT : Hid (rf.take y ++ [p] = rf.take (y + 1)) := by
        show _ = _
        have hgl := GL.out
        rw [List.take_succ_eq_append_getElem hgl, hp]
        simp [hgl]
      clear hp hq hjx hbpq hbre
      obtain ⟨HBW5, u0, u1, u2, -⟩ := HED.out wr HB.out
      obtain ⟨K6, ⟨c0, c1, c2⟩, ⟨a0, a1, a2⟩, b0, b1, b2⟩ := HALL.out wr HBW5
      clear a0 a1 a2 b0 b1 b2 HBW5
      have CC : Calls Tryz.prog 14 #[.agg #[.int .i64 3, .string ⟨n.toArray⟩, .slice (some ⟨g, o, none⟩) 2 cap], .int .i64 (f : Int), .int .i64 (y : Int)] wr fun r w' => r = .returned (.tuple #[.int .i64 (p : Int), .int .i64 0]) ∧ Hid (Below wr.heap.size wr w') := by
        have s := K6.apply f y HNUM.out.1 hyl
        rw [← HE4.out, ← G1.out] at s
        exact s
      clear K6
      go_upto_region 11 with (first | (go_at_call 14; (with_reducible refine Calls.mono CC ?_); rintro e' w10 ⟨rfl, HBn⟩))
      replace HO : Hid (OwnN ENat 3 w5.heap.size (fun _ => False) w10 (.slice adr y capr) (rf.take y)) := HO.out.on (fun _ h => h.elim) HB.out.size HBn.out
      replace HB : Hid (Below w5.heap.size w5 w10) := HB.out.trans (HBn.out.mono HB.out.size)
      clear CC HBn c0 c1 c2 u0 u1 u2
      obtain ⟨HBW5, u0, u1, u2, -⟩ := HED.out w10 HB.out
      obtain ⟨K6, ⟨c0, c1, c2⟩, ⟨a0, a1, a2⟩, b0, b1, b2⟩ := HALL.out w10 HBW5
      clear a0 a1 a2 b0 b1 b2 HBW5
      have CC : Calls Tryz.prog 14 #[.agg #[.int .i64 3, .string ⟨n.toArray⟩, .slice (some ⟨g, o, none⟩) 2 cap], .int .i64 (h : Int), .int .i64 (y : Int)] w10 fun r w' => r = .returned (.tuple #[.int .i64 (q : Int), .int .i64 0]) ∧ Hid (Below w10.heap.size w10 w') := by
        have s := K6.apply h y HNUM.out.2.1 hyl
        rw [← HE5.out, ← G2.out] at s
        exact s
      clear K6
      go_upto_region 12 with (first | (go_at_call 14; (with_reducible refine Calls.mono CC ?_); rintro e' w11 ⟨rfl, HBn⟩))
      replace HO : Hid (OwnN ENat 3 w5.heap.size (fun _ => False) w11 (.slice adr y capr) (rf.take y)) := HO.out.on (fun _ h => h.elim) HB.out.size HBn.out
      replace HB : Hid (Below w5.heap.size w5 w11) := HB.out.trans (HBn.out.mono HB.out.size)
      clear CC HBn c0 c1 c2 u0 u1 u2
      obtain ⟨HBW5, u0, u1, u2, -⟩ := HED.out w11 HB.out
      obtain ⟨K6, ⟨c0, c1, c2⟩, ⟨a0, a1, a2⟩, b0, b1, b2⟩ := HALL.out w11 HBW5
      clear a0 a1 a2 b0 b1 b2 HBW5
      have CC : Calls Tryz.prog 14 #[.agg #[.int .i64 3, .string ⟨n.toArray⟩, .slice (some ⟨g, o, none⟩) 2 cap], .int .i64 (j : Int), .int .i64 (y : Int)] w11 fun r w' => r = .returned (.tuple #[.int .i64 (jx : Int), .int .i64 0]) ∧ Hid (Below w11.heap.size w11 w') := by
        have s := K6.apply j y HNUM.out.2.2.2 hyl
        rw [← G3.out] at s
        exact s
      clear K6
      go_upto_region 13 with (first | (go_at_call 14; (with_reducible refine Calls.mono CC ?_); rintro e' w12 ⟨rfl, HBn⟩))
      replace HO : Hid (OwnN ENat 3 w5.heap.size (fun _ => False) w12 (.slice adr y capr) (rf.take y)) := HO.out.on (fun _ h => h.elim) HB.out.size HBn.out
      replace HB : Hid (Below w5.heap.size w5 w12) := HB.out.trans (HBn.out.mono HB.out.size)
      clear CC HBn c0 c1 c2 u0 u1 u2
      obtain ⟨HBW5, u0, u1, u2, -⟩ := HED.out w12 HB.out
      obtain ⟨K6, ⟨c0, c1, c2⟩, ⟨a0, a1, a2⟩, b0, b1, b2⟩ := HALL.out w12 HBW5
      clear a0 a1 a2 b0 b1 b2 HBW5
      have CC : Calls Tryz.prog 23 #[.agg #[.int .i64 k1, .string n1, .slice ad1 len1 cap1], .int .i64 (p : Int), .int .i64 (q : Int)] w12 fun r w' => r = .returned (.tuple #[.int .i64 (jx : Int), .int .i64 0]) ∧ Hid (Below w12.heap.size w12 w') := by
        have s := K6.joinU p q HPQ.out.1 HPQ.out.2
        rw [← G4.out] at s
        exact s
      clear K6
      go_upto_region 14 with (first | (go_at_call 23; (with_reducible refine Calls.mono CC ?_); rintro e' w13 ⟨rfl, HBn⟩))
      replace HO : Hid (OwnN ENat 3 w5.heap.size (fun _ => False) w13 (.slice adr y capr) (rf.take y)) := HO.out.on (fun _ h => h.elim) HB.out.size HBn.out
      replace HB : Hid (Below w5.heap.size w5 w13) := HB.out.trans (HBn.out.mono HB.out.size)
      clear CC HBn c0 c1 c2 u0 u1 u2
      obtain ⟨HBW5, u0, u1, u2, -⟩ := HED.out w13 HB.out
      obtain ⟨K6, ⟨c0, c1, c2⟩, ⟨a0, a1, a2⟩, b0, b1, b2⟩ := HALL.out w13 HBW5
      clear a0 a1 a2 b0 b1 b2 HBW5
      have CC : Calls Tryz.prog 21 #[.agg #[.int .i64 k1, .string n1, .slice ad1 len1 cap1], .int .i64 (p : Int), .int .i64 (q : Int)] w13 fun r w' => r = .returned (.tuple #[.bool bpq, .int .i64 0]) ∧ Hid (Below w13.heap.size w13 w') := by
        have s := K6.belowU p q HPQ.out.1 HPQ.out.2
        rw [← G5.out] at s
        exact s
      clear K6
      go_upto_region 15 with (first | (go_at_call 21; (with_reducible refine Calls.mono CC ?_); rintro e' w14 ⟨rfl, HBn⟩))
      replace HO : Hid (OwnN ENat 3 w5.heap.size (fun _ => False) w14 (.slice adr y capr) (rf.take y)) := HO.out.on (fun _ h => h.elim) HB.out.size HBn.out
      replace HB : Hid (Below w5.heap.size w5 w14) := HB.out.trans (HBn.out.mono HB.out.size)
      clear CC HBn c0 c1 c2 u0 u1 u2
      obtain ⟨HBW5, u0, u1, u2, -⟩ := HED.out w14 HB.out
      obtain ⟨K6, ⟨c0, c1, c2⟩, ⟨a0, a1, a2⟩, b0, b1, b2⟩ := HALL.out w14 HBW5
      clear a0 a1 a2 b0 b1 b2 HBW5
      have CC : Calls Tryz.prog 21 #[.agg #[.int .i64 k1, .string n1, .slice ad1 len1 cap1], .int .i64 (v : Int), .int .i64 (p : Int)] w14 fun r w' => r = .returned (.tuple #[.bool bre, .int .i64 0]) ∧ Hid (Below w14.heap.size w14 w') := by
        have s := K6.belowU v p HNUM.out.2.2.1 HPQ.out.1
        rw [← G6.out] at s
        exact s
      clear K6
      go_upto_region 16 with (first | (go_at_call 21; (with_reducible refine Calls.mono CC ?_); rintro e' w15 ⟨rfl, HBn⟩))
      replace HO : Hid (OwnN ENat 3 w5.heap.size (fun _ => False) w15 (.slice adr y capr) (rf.take y)) := HO.out.on (fun _ h => h.elim) HB.out.size HBn.out
      replace HB : Hid (Below w5.heap.size w5 w15) := HB.out.trans (HBn.out.mono HB.out.size)
      clear CC HBn c0 c1 c2 u0 u1 u2
      obtain ⟨HBW5, u0, u1, u2, -⟩ := HED.out w15 HB.out
      obtain ⟨K6, ⟨c0, c1, c2⟩, ⟨a0, a1, a2⟩, b0, b1, b2⟩ := HALL.out w15 HBW5
      clear a0 a1 a2 b0 b1 b2 HBW5
      have g1 : ((jx : Int) != (jx : Int)) = false := by simp
      go_upto_if 139 with fail
      clear g1 K6
      go_cut [18] from 138 to 139 (fun s wx => s = .bool (ub && bpq) ∧ wx = w15)
      case first =>
        cases bpq with
        | true =>
          go_wp2_with fail
          go_meet
          exact ⟨by rw [Bool.and_true], rfl⟩
        | false =>
          go_wp2_with fail
          go_meet
          exact ⟨by rw [Bool.and_false], rfl⟩
      case rest =>
        obtain ⟨rfl, hwc⟩ := hcut
        obtain rfl := hwc.symm
        clear hwc
        clear c0 c1 c2 u0 u1 u2
        have HU2 : Hid ((ub && bpq) = true ↔ ∀ z, z < y + 1 → (tb.getD (rf.getD z 0) 0).testBit (rg.getD z 0) = true) := by
          show _ ↔ _
          rw [Bool.and_eq_true, HU.out, G5.out, G1.out, G2.out]
          constructor
          · rintro ⟨h1, h2⟩ z hz
            rcases Nat.lt_or_ge z y with e | e
            · exact h1 z e
            · rw [show z = y by omega]; exact h2
          · exact fun h1 => ⟨fun z hz => h1 z (by omega), h1 y (by omega)⟩
        generalize (ub && bpq) = ub2 at *
        go_upto_region 22 with fail
        go_loopw [33, 34] (fun mv iv wi => ∃ (i : Nat) (mb : Bool), i ≤ el.length ∧ iv = .int .i64 i ∧ mv = .bool mb ∧ Hid (mb = (el.take i).any (fun z => (fa.getD z 0).testBit y)) ∧ Hid (Below w15.heap.size w15 wi)) (fun _ iv _ => el.length - (intOf iv).toNat)
        case atStart => exact ⟨0, false, by omega, by go_num, rfl, by rw [List.take_zero]; rfl, Below.refl _ _⟩
        case round =>
          obtain ⟨i, mb, hi, rfl, rfl, HM, HBi⟩ := hrel
          have HBr : Hid (Below w5.heap.size w5 wr.drew) := HB.out.trans (HBi.out.drew.mono HB.out.size)
          have HELl := HEL.out.1
          by_cases hil : i < el.length
          · obtain ⟨HBW6, u0, u1, u2, hed⟩ := HED.out wr.drew HBr.out
            obtain ⟨ge, oe, rfl, hce, hgl, q1⟩ := hed i hil
            obtain ⟨K6, ⟨c0, c1, c2⟩, ⟨a0, a1, a2⟩, b0, b1, b2⟩ := HALL.out wr.drew HBW6
            have i3 : (0 : Int) ≤ (i : Int) := by omega
            have i4 : (i : Int) < (el.length : Int) := by omega
            have HZL : Hid (el[i] < fa.length) := HEL.out.2 _ (List.getElem_mem hil)
            have HMn : Hid ((mb || (fa.getD el[i] 0).testBit y) = (el.take (i + 1)).any (fun z => (fa.getD z 0).testBit y)) := by
              show _ = _
              rw [List.take_succ_eq_append_getElem hil, List.any_append, ← HM.out]
              simp
            have CB := K6.belowA el[i] y HZL.out hyl
            obtain ⟨z, hz⟩ : ∃ z, z = el[i] := ⟨_, rfl⟩
            rw [← hz] at q1 CB HMn
            obtain ⟨le, hle⟩ : ∃ le, le = (fa.getD z 0).testBit y := ⟨_, rfl⟩
            rw [← hle] at CB HMn
            have hS0 : (fun w' : World => w'.cell? ⟨X, 2, none⟩ = some (.slice (some ⟨g, o, none⟩) 2 cap) ∧ w'.cell? ⟨g, o, none⟩ = some (.int .i64 k0) ∧ w'.cell? ⟨g, o + 1, none⟩ = some (.string n0) ∧ w'.cell? ⟨g, o + 2, none⟩ = some (.slice ad0 len0 cap0) ∧ w'.cell? ⟨ge, oe + i, none⟩ = some (.int .i64 (z : Int))) wr.drew := ⟨c2, a0, a1, a2, q1⟩
            have HKS : Hid (∀ w2 : World, Below wr.drew.heap.size wr.drew w2 → (fun w' : World => w'.cell? ⟨X, 2, none⟩ = some (.slice (some ⟨g, o, none⟩) 2 cap) ∧ w'.cell? ⟨g, o, none⟩ = some (.int .i64 k0) ∧ w'.cell? ⟨g, o + 1, none⟩ = some (.string n0) ∧ w'.cell? ⟨g, o + 2, none⟩ = some (.slice ad0 len0 cap0) ∧ w'.cell? ⟨ge, oe + i, none⟩ = some (.int .i64 (z : Int))) w2) := fun w2 h2 => by
              have hb2 := HBr.out.trans (h2.mono HBr.out.size)
              obtain ⟨-, ⟨-, -, e2⟩, ⟨e3, e4, e5⟩, -⟩ := HALL.out w2 (HED.out w2 hb2).1
              exact ⟨e2, e3, e4, e5, (h2.cell (p := ⟨ge, oe + i, none⟩) (Nat.lt_of_lt_of_le hgl HBr.out.size)).trans q1⟩
            clear c0 c1 c2 a0 a1 a2 b0 b1 b2 u0 u1 u2 hed q1 K6 HBW6 hz hle HM
            go_upto_region 24 with fail
            refine wp_region_M (S := (fun w' : World => w'.cell? ⟨X, 2, none⟩ = some (.slice (some ⟨g, o, none⟩) 2 cap) ∧ w'.cell? ⟨g, o, none⟩ = some (.int .i64 k0) ∧ w'.cell? ⟨g, o + 1, none⟩ = some (.string n0) ∧ w'.cell? ⟨g, o + 2, none⟩ = some (.slice ad0 len0 cap0) ∧ w'.cell? ⟨ge, oe + i, none⟩ = some (.int .i64 (z : Int)))) (L := 15) (n := 15) (by kernel_rfl) rfl (by kernel_rfl) ?_
            refine wpAnyK_go (i := 0) (m' := 1) (some 147) (v := .pointer (some ⟨X, 2, none⟩)) rfl rfl (by kernel_rfl) (by kernel_rfl) (by kernel_rfl) (by kernel_rfl) (by kernel_rfl) (fun _ _ _ h => h) (Or.inl ⟨by rfl, ?_⟩) hS0 ?_
            · intro w' hSw
              go_simp
            simp only [Act.put, List.setIfInBounds_toArray, List.set_cons_zero, List.set_cons_succ]
            refine wpAnyK_go (i := 1) (m' := 3) (some 148) (v := .slice (some ⟨g, o, none⟩) 2 cap) rfl rfl (by kernel_rfl) (by kernel_rfl) (by kernel_rfl) (by kernel_rfl) (by kernel_rfl) (fun _ _ _ h => h) (Or.inl ⟨by rfl, ?_⟩) hS0 ?_
            · intro w' hSw
              obtain ⟨s1, s2, s3, s4, s5⟩ := hSw
              go_simp
            simp only [Act.put, List.setIfInBounds_toArray, List.set_cons_zero, List.set_cons_succ]
            refine wpAnyK_go (i := 2) (m' := 7) (some 149) (v := .pointer (some ⟨g, o, none⟩)) rfl rfl (by kernel_rfl) (by kernel_rfl) (by kernel_rfl) (by kernel_rfl) (by kernel_rfl) (fun _ _ _ h => h) (Or.inl ⟨by rfl, ?_⟩) hS0 ?_
            · intro w' hSw
              go_simp
            simp only [Act.put, List.setIfInBounds_toArray, List.set_cons_zero, List.set_cons_succ]
            refine wpAnyK_go (i := 3) (m' := 15) (some 150) (v := .agg #[.int .i64 k0, .string n0, .slice ad0 len0 cap0]) rfl rfl (by kernel_rfl) (by kernel_rfl) (by kernel_rfl) (by kernel_rfl) (by kernel_rfl) (fun _ _ _ h => h) (Or.inl ⟨by rfl, ?_⟩) hS0 ?_
            · intro w' hSw
              obtain ⟨s1, s2, s3, s4, s5⟩ := hSw
              go_simp
            simp only [Act.put, List.setIfInBounds_toArray, List.set_cons_zero, List.set_cons_succ]
            refine wpAnyK_go (i := 4) (m' := 31) (some 151) (v := .slice (some ⟨ge, oe, none⟩) el.length cape) rfl rfl (by kernel_rfl) (by kernel_rfl) (by kernel_rfl) (by kernel_rfl) (by kernel_rfl) (fun _ _ _ h => h) (Or.inl ⟨by rfl, ?_⟩) hS0 ?_
            · intro w' hSw
              go_simp
            simp only [Act.put, List.setIfInBounds_toArray, List.set_cons_zero, List.set_cons_succ]
            refine wpAnyK_go (i := 5) (m' := 63) (some 152) (v := .int .i64 (i : Int)) rfl rfl (by kernel_rfl) (by kernel_rfl) (by kernel_rfl) (by kernel_rfl) (by kernel_rfl) (fun _ _ _ h => h) (Or.inl ⟨by rfl, ?_⟩) hS0 ?_
            · intro w' hSw
              go_simp
            simp only [Act.put, List.setIfInBounds_toArray, List.set_cons_zero, List.set_cons_succ]
            refine wpAnyK_go (i := 6) (m' := 127) (some 153) (v := .pointer (some ⟨ge, oe + i, none⟩)) rfl rfl (by kernel_rfl) (by kernel_rfl) (by kernel_rfl) (by kernel_rfl) (by kernel_rfl) (fun _ _ _ h => h) (Or.inl ⟨by rfl, ?_⟩) hS0 ?_
            · intro w' hSw
              go_simp
            simp only [Act.put, List.setIfInBounds_toArray, List.set_cons_zero, List.set_cons_succ]
            refine wpAnyK_go (i := 7) (m' := 255) (some 154) (v := .int .i64 (z : Int)) rfl rfl (by kernel_rfl) (by kernel_rfl) (by kernel_rfl) (by kernel_rfl) (by kernel_rfl) (fun _ _ _ h => h) (Or.inl ⟨by rfl, ?_⟩) hS0 ?_
            · intro w' hSw
              obtain ⟨s1, s2, s3, s4, s5⟩ := hSw
              go_simp
            simp only [Act.put, List.setIfInBounds_toArray, List.set_cons_zero, List.set_cons_succ]
            refine wpAnyK_go (i := 8) (m' := 511) (some 155) (v := .int .i64 (y : Int)) rfl rfl (by kernel_rfl) (by kernel_rfl) (by kernel_rfl) (by kernel_rfl) (by kernel_rfl) (fun _ _ _ h => h) (Or.inl ⟨by rfl, ?_⟩) hS0 ?_
            · intro w' hSw
              go_simp
            simp only [Act.put, List.setIfInBounds_toArray, List.set_cons_zero, List.set_cons_succ]
            refine wpAnyK_only (i := 9) (m' := 1023) (by kernel_rfl) rfl (by kernel_rfl) fun K hK => ?_
            go_simp
            (with_reducible refine Calls.mono CB ?_)
            rintro e' w8 ⟨rfl, HB8⟩
            have hS8 := HKS.out w8 HB8.out
            go_simp
            refine hK.out _ _ (fun _ => hS8) ?_
            clear hK K CB hS0 HKS
            refine wpAnyK_go (i := 10) (m' := 2047) (some 146) (v := .tuple #[.bool le, .int .i64 0]) rfl rfl (by kernel_rfl) (by kernel_rfl) (by kernel_rfl) (by kernel_rfl) (by kernel_rfl) (fun _ _ _ h => h) (Or.inl ⟨by rfl, ?_⟩) hS8 ?_
            · intro w' hSw
              go_simp
            simp only [Act.put, List.setIfInBounds_toArray, List.set_cons_zero, List.set_cons_succ]
            refine wpAnyK_go (i := 11) (m' := 4095) (some 157) (v := .bool le) rfl rfl (by kernel_rfl) (by kernel_rfl) (by kernel_rfl) (by kernel_rfl) (by kernel_rfl) (fun _ _ _ h => h) (Or.inl ⟨by rfl, ?_⟩) hS8 ?_
            · intro w' hSw
              go_simp
            simp only [Act.put, List.setIfInBounds_toArray, List.set_cons_zero, List.set_cons_succ]
            refine wpAnyK_go (i := 12) (m' := 8191) (some 158) (v := .int .i64 0) rfl rfl (by kernel_rfl) (by kernel_rfl) (by kernel_rfl) (by kernel_rfl) (by kernel_rfl) (fun _ _ _ h => h) (Or.inl ⟨by rfl, ?_⟩) hS8 ?_
            · intro w' hSw
              go_simp
            simp only [Act.put, List.setIfInBounds_toArray, List.set_cons_zero, List.set_cons_succ]
            refine wpAnyK_go (i := 13) (m' := 16383) (some 35) (v := .bool le) rfl rfl (by kernel_rfl) (by kernel_rfl) (by kernel_rfl) (by kernel_rfl) (by kernel_rfl) (fun _ _ _ h => h) (Or.inl ⟨by rfl, ?_⟩) hS8 ?_
            · intro w' hSw
              go_simp
            simp only [Act.put, List.setIfInBounds_toArray, List.set_cons_zero, List.set_cons_succ]
            refine wpAnyK_go (i := 14) (m' := 32767) (some 36) (v := .int .i64 0) rfl rfl (by kernel_rfl) (by kernel_rfl) (by kernel_rfl) (by kernel_rfl) (by kernel_rfl) (fun _ _ _ h => h) (Or.inl ⟨by rfl, ?_⟩) hS8 ?_
            · intro w' hSw
              go_simp
            simp only [Act.put, List.setIfInBounds_toArray, List.set_cons_zero, List.set_cons_succ]
            refine wpAnyK_done (by kernel_rfl) ?_ _
            clear hS8
            have HBi8 : Hid (Below w15.heap.size w15 w8) := HBi.out.drew.trans (HB8.out.mono HBi.out.size)
            cases le with
            | true =>
              rw [Bool.or_true] at HMn
              go_wp2
              go_roundw
              case rel => exact ⟨i + 1, true, hil, by go_num, rfl, HMn.out, HBi8.out⟩
              case measure => simp [intOf]; omega
            | false =>
              rw [Bool.or_false] at HMn
              go_wp2
              go_roundw
              case rel => exact ⟨i + 1, mb, hil, by go_num, rfl, HMn.out, HBi8.out⟩
              case measure => simp [intOf]; omega
          · obtain rfl : i = el.length := by omega
            have hmb : mb = bre := by
              rw [HM.out, List.take_length, G7.out]
            subst hmb
            have g2 : (mb != mb) = false := by simp
            have HBr2 : Hid (Below w5.heap.size w5 wr) := HB.out.trans (HBi.out.mono HB.out.size)
            have HO2 : Hid (OwnN ENat 3 w5.heap.size (fun _ => False) wr (.slice adr y capr) (rf.take y)) := HO.out.on (fun _ h => h.elim) HB.out.size HBi.out
            have HLN : Hid ((rf.take y).length + 1 ≤ 10000000) := by
              show _ ≤ _
              rw [List.length_take]
              omega
            have HS5 : Hid (w5.heap.size ≤ wr.heap.size) := HBr2.out.size
            go_upto_region 29 with fail
            clear g2
            go_wp2_with (at_builtin; refine wpList_append_N1 (E := ENat) (cs := [.int .i64 (p : Int)]) (p := p) Tryz.ty28 rfl _ _ rfl rfl HO2.out (fun _ h => h.elim) HS5.out (Below.refl _ _) rfl rfl (Nat.le_refl _) HLN.out ?_; intro v9 w9 O9 B9 N9; rw [GT.out] at O9; obtain ⟨a9, c9, rfl⟩ := O9.len; have HLT : (rf.take (y + 1)).length = y + 1 := (by have := GL.out; rw [List.length_take]; omega); rw [HLT] at O9 ⊢; have HO9 : Hid (OwnN ENat 3 w5.heap.size (fun _ => False) w9 (.slice a9 (y + 1) c9) (rf.take (y + 1))) := O9; clear HLT; have HB9 : Hid (Below w5.heap.size w5 w9) := HBr2.out.trans B9; clear O9 B9 N9)
            refine ⟨⟨y + 1, ub2, hyl, by go_num, rfl, HU2.out, HB9.out, a9, c9, rfl, HO9.out⟩, by simp [intOf]; omega⟩
    · obtain rfl : y = fa.length := by omega
      rw [List.take_of_length_le (by rw [HFL.out]; exact Nat.le_refl _)] at HO
      have hub : ub = fg := by
        rw [Bool.eq_iff_iff, HU.out, HUND.out]
      subst hub
      obtain ⟨HBW5, u0, u1, u2, -⟩ := HED.out wr HB.out
      obtain ⟨K6, ⟨c0, c1, c2⟩, ⟨a0, a1, a2⟩, b0, b1, b2⟩ := HALL.out wr HBW5
      have HO3 := HO.out
      rw [show fa.length = rf.length from HFL.out.symm] at HO3
      have CO := K6.of f (.slice adr rf.length capr) HNUM.out.1 (by
        rw [← HE4.out]
        exact nts_zts (RowE.toNts (OwnN.rowE HO3)) (fun y hy => hy.2))
      rw [show rf.length = fa.length from HFL.out] at CO
      clear HO3
      have HBE : Hid (Below w.heap.size w wr) := HBW.out wr HBW5
      clear a0 a1 a2 b0 b1 b2 u0 u1 u2 K6 HBW5
      have g3 : (ub == ub) = true := by simp
      have g4 : ((f : Int) == (f : Int)) = true := by simp
      go_wp2_with (first | (go_at_call 9; (with_reducible refine Calls.mono CO ?_); rintro e' w9 ⟨rfl, HBn⟩))
      refine bodyPost_ret (v := .bool true) (by simp [results, Tryz.results16, go_sem]) rfl ?_
      exact ⟨rfl, HBE.out.trans (HBn.out.mono HBE.out.size)⟩
end Go.Proofs.YtgdflaapgfpdeaaGreatDoor

namespace Go.Proofs.YtgdflaapgfpdeaaGreatDoor
open Go.RowKit

theorem size_some {d : Nat} {x : Value} {t : Tn (d + 1)} {w : World} {D : OrdD} (hx : TyAt w w.heap.size (d + 1) x t) (hN : (flat (d + 1) t).length ≤ 4194304) (hD : orderD (d + 1) t = some D) : Calls Tryz.prog 12 #[x] w fun r w' => r = .returned (.tuple #[.int .i64 (D.1.length : Int), .int .i64 0]) ∧ Hid (Below w.heap.size w w') := by
  have := size_all d x t w hx hN
  rw [show sizeD (d + 1) t = (D.1.length, 0) by
    unfold sizeD
    rw [hD]] at this
  exact this
theorem apply_none {d : Nat} {x : Value} {t : Tn (d + 1)} {w : World} (hx : TyAt w w.heap.size (d + 1) x t) (hN : (flat (d + 1) t).length ≤ 4194304) (hD : funD d t = none) : Calls Tryz.prog 14 #[x, .int .i64 0, .int .i64 0] w fun r w' => r = .returned (.tuple #[.int .i64 0, .int .i64 140]) ∧ Hid (Below w.heap.size w w') := by
  have := apply_all d x t w hx hN 0 0
  rw [hD] at this
  exact this
set_option maxHeartbeats 16000000 in
set_option maxRecDepth 10000 in
theorem maps_fun (d : Nat) (x : Value) (n : List UInt8) (ta ua : Tn (d + 1)) (A C : OrdD) (w : World) (hx : TyAt w w.heap.size (d + 2) x ((3, n), [ta, ua])) (hg : greatT (d + 2) ((3, n), [ta, ua]) = false) (hT : ∀ w', Below w.heap.size w w' → TabAt 0 Lib.deBruijn64tab w') (hNa : (flat (d + 1) ta).length ≤ 500) (hNu : (flat (d + 1) ua).length ≤ 500) (hfd : funD (d + 1) ((3, n), [ta, ua]) = some (fnsP C.1 (resP A.1 C.1), some (A.1, C.1))) (hod : orderD (d + 2) ((3, n), [ta, ua]) = some (fnsP C.1 (resP A.1 C.1), some (A.1, C.1))) (hA : orderD (d + 1) ta = some A) (hC : orderD (d + 1) ua = some C) (hla : Lat A.1) (hlb : Lat C.1) (hfew : (resP A.1 C.1).length ≤ 40) (p q r : Int) :
    Calls Tryz.prog 4 #[x, .int .i64 p, .int .i64 q, .int .i64 r] w fun e w' => e = .returned (.bool true) ∧ Hid (Below w.heap.size w w') := by
  have hN : (flat (d + 2) ((3, n), [ta, ua])).length ≤ 4194304 := great_nodes hg
  have HX : Hid (TyAt w w.heap.size (d + 2) x ((3, n), [ta, ua])) := hx
  obtain ⟨u, rfl, hn1, hn2, hrow⟩ := hx
  obtain ⟨ad, cap, rfl, hc⟩ := RowP.cells hrow
  obtain ⟨g, o, rfl, hcap, hgB, hel⟩ := hc (by simp)
  obtain ⟨k0, n0, ad0, len0, cap0, hc0, ht0⟩ := hel 0 (by simp)
  obtain ⟨k1, n1, ad1, len1, cap1, hc1, ht1⟩ := hel 1 (by simp)
  replace ht0 : TyAt w w.heap.size (d + 1) (.agg #[.int .i64 k0, .string n0, .slice ad0 len0 cap0]) ta := ht0
  replace ht1 : TyAt w w.heap.size (d + 1) (.agg #[.int .i64 k1, .string n1, .slice ad1 len1 cap1]) ua := ht1
  replace hcap : 2 ≤ cap := hcap
  obtain ⟨X, hX⟩ : ∃ X, X = w.heap.size := ⟨_, rfl⟩
  obtain ⟨W, hW⟩ : ∃ W, W = w.alloc (.cells #[.int .i64 3, .string ⟨n.toArray⟩, .slice (some ⟨g, o, none⟩) 2 cap] 24) := ⟨_, rfl⟩
  have hBW : Below w.heap.size w W := by rw [hW]; exact (Below.refl _ _).alloc (Nat.le_refl _) _
  have hXW : W.heap[X]? = some (.cells #[.int .i64 3, .string ⟨n.toArray⟩, .slice (some ⟨g, o, none⟩) 2 cap] 24 (0, 0)) := by rw [hW, hX]; exact new_blk _ _
  have hpos : 0 < (fnsP C.1 (resP A.1 C.1)).length := (fns_lat hlb hfew).pos
  obtain ⟨N, hNN⟩ : ∃ N, N = (resP A.1 C.1).length := ⟨_, rfl⟩
  obtain ⟨M1, hM1⟩ : ∃ M1, M1 = A.1.length := ⟨_, rfl⟩
  obtain ⟨M2, hM2⟩ : ∃ M2, M2 = C.1.length := ⟨_, rfl⟩
  have hd1 : 1 ≤ N ∧ N ≤ 40 := ⟨by rw [fns_len] at hpos; omega, by omega⟩
  have hd2 : 1 ≤ M1 ∧ M1 ≤ 40 := ⟨by have := hla.pos; omega, by have := hla.few; omega⟩
  have hd3 : 1 ≤ M2 ∧ M2 ≤ 40 := ⟨by have := hlb.pos; omega, by have := hlb.few; omega⟩
  have HALL : Hid (∀ w2 : World, Below W.heap.size W w2 → Below w.heap.size w w2 ∧ (w2.cell? ⟨X, 0, none⟩ = some (.int .i64 3) ∧ w2.cell? ⟨X, 1, none⟩ = some (.string ⟨n.toArray⟩) ∧ w2.cell? ⟨X, 2, none⟩ = some (.slice (some ⟨g, o, none⟩) 2 cap)) ∧ (w2.cell? ⟨g, o, none⟩ = some (.int .i64 k0) ∧ w2.cell? ⟨g, o + 1, none⟩ = some (.string n0) ∧ w2.cell? ⟨g, o + 2, none⟩ = some (.slice ad0 len0 cap0)) ∧ (w2.cell? ⟨g, o + 3, none⟩ = some (.int .i64 k1) ∧ w2.cell? ⟨g, o + 4, none⟩ = some (.string n1) ∧ w2.cell? ⟨g, o + 5, none⟩ = some (.slice ad1 len1 cap1)) ∧ Calls Tryz.prog 12 #[.agg #[.int .i64 3, .string ⟨n.toArray⟩, .slice (some ⟨g, o, none⟩) 2 cap]] w2 (fun r w' => r = .returned (.tuple #[.int .i64 (N : Int), .int .i64 0]) ∧ Hid (Below w2.heap.size w2 w')) ∧ Calls Tryz.prog 13 #[.agg #[.int .i64 3, .string ⟨n.toArray⟩, .slice (some ⟨g, o, none⟩) 2 cap]] w2 (fun r w' => r = .returned (.tuple #[.int .i64 (N : Int), .int .i64 0]) ∧ Hid (Below w2.heap.size w2 w')) ∧ Calls Tryz.prog 15 #[.agg #[.int .i64 3, .string ⟨n.toArray⟩, .slice (some ⟨g, o, none⟩) 2 cap]] w2 (fun r w' => r = .returned (.bool (decide (40 < (flat (d + 2) ((3, n), [ta, ua])).length))) ∧ Hid (Below w2.heap.size w2 w')) ∧ Calls Tryz.prog 12 #[.agg #[.int .i64 k0, .string n0, .slice ad0 len0 cap0]] w2 (fun r w' => r = .returned (.tuple #[.int .i64 (M1 : Int), .int .i64 0]) ∧ Hid (Below w2.heap.size w2 w')) ∧ Calls Tryz.prog 12 #[.agg #[.int .i64 k1, .string n1, .slice ad1 len1 cap1]] w2 (fun r w' => r = .returned (.tuple #[.int .i64 (M2 : Int), .int .i64 0]) ∧ Hid (Below w2.heap.size w2 w')) ∧ ∀ f h v : Nat, f < N → h < N → v < M2 → Calls Tryz.prog 16 #[.agg #[.int .i64 3, .string ⟨n.toArray⟩, .slice (some ⟨g, o, none⟩) 2 cap], .int .i64 (f : Int), .int .i64 (h : Int), .int .i64 (v : Int), .int .i64 (M1 : Int)] w2 (fun e w' => e = .returned (.bool true) ∧ Hid (Below w2.heap.size w2 w'))) := fun w2 h2 => by
    have h3 : Below w.heap.size w w2 := hBW.trans (h2.mono hBW.size)
    have h4 := (h2.block X (lt_heap hXW)).trans hXW
    obtain ⟨e0, e1, e2⟩ := hc0 w2 h3
    obtain ⟨e3, e4, e5⟩ := hc1 w2 h3
    rw [show o + 0 * 3 = o by omega] at e0 e1 e2
    have hxx := TyAt.below h3 h3.size _ _ _ HX.out
    have hta := TyAt.below h3 h3.size _ _ _ ht0
    have hua := TyAt.below h3 h3.size _ _ _ ht1
    refine ⟨h3, ⟨heap_cl h4 rfl, heap_cl h4 rfl, heap_cl h4 rfl⟩, ⟨e0, e1, e2⟩, ⟨by simpa using e3, by simpa using e4, by simpa using e5⟩, ?_, ?_, great40_any (d + 1) _ _ w2 hxx hN, ?_, ?_, fun f h v hf hh hv => ?_⟩
    · have := size_some hxx hN hod
      rw [show (fnsP C.1 (resP A.1 C.1), some (A.1, C.1)).1.length = N by rw [hNN]; exact fns_len _ _] at this
      exact this
    · have := size_ref (d + 1) _ _ w2 hxx hN
      rw [show sizeD (d + 2) ((3, n), [ta, ua]) = (N, 0) by
        unfold sizeD
        rw [hod, hNN, ← fns_len C.1 (resP A.1 C.1)]] at this
      exact this
    · rw [hM1]
      exact size_some hta (by omega) hA
    · rw [hM2]
      exact size_some hua (by omega) hC
    · rw [hM1]
      exact all_any w2 hxx hN hNa hNu (fun w' h' => hT w' (h3.trans (h'.mono h3.size))) hfd hod hA hC hla hlb hfew f h v (by omega) (by omega) (by omega)
  have CG := great_any (d + 2) (.agg #[.int .i64 3, .string ⟨n.toArray⟩, .slice (some ⟨g, o, none⟩) 2 cap]) ((3, n), [ta, ua]) W (TyAt.below hBW hBW.size _ _ _ HX.out)
  rw [hg] at CG
  have HXE : Hid (X = w.heap.size) := hX
  have HBc : Hid (Below W.heap.size W W) := Below.refl _ _
  obtain ⟨-, ⟨c0, c1, c2⟩, -⟩ := HALL.out W HBc.out
  generalize decide (40 < (flat (d + 2) ((3, n), [ta, ua])).length) = b40 at *
  clear hel hc hc0 hc1 ht0 ht1 hrow hn1 hn2 HX hN hNa hNu hT hfd hod hA hC hX hXW hBW hgB hla hlb hfew hNN hM1 hM2 hpos hg
  obtain ⟨hd1, hd4⟩ := hd1
  obtain ⟨hd2, hd5⟩ := hd2
  obtain ⟨hd3, hd6⟩ := hd3
  go_enter Tryz.func4, Tryz.ntmps4
  go_upto_region 1 with fail
  rw [← hW, ← HXE.out]
  clear hW
  go_upto_region 4 with (first | (go_at_call 5; (with_reducible refine Calls.mono CG ?_); rintro e' w2 ⟨rfl, hb2⟩))
  replace HBc : Hid (Below W.heap.size W w2) := hb2
  clear hb2 c0 c1 c2 CG
  have CA := awake_any (w := w2)
  go_upto_region 5 with (first | (go_at_call 6; (with_reducible refine Calls.mono CA ?_); rintro e' w3 ⟨rfl, HBn⟩))
  replace HBc : Hid (Below W.heap.size W w3) := HBc.out.trans (HBn.out.mono HBc.out.size)
  clear CA HBn
  obtain ⟨-, ⟨c0, c1, c2⟩, -, -, C1, -⟩ := HALL.out w3 HBc.out
  go_upto_region 6 with (first | (go_at_call 12; (with_reducible refine Calls.mono C1 ?_); rintro e' w4 ⟨rfl, HBn⟩))
  replace HBc : Hid (Below W.heap.size W w4) := HBc.out.trans (HBn.out.mono HBc.out.size)
  clear C1 HBn c0 c1 c2
  obtain ⟨-, ⟨c0, c1, c2⟩, -, -, -, C2, -⟩ := HALL.out w4 HBc.out
  go_upto_region 7 with (first | (go_at_call 13; (with_reducible refine Calls.mono C2 ?_); rintro e' w5 ⟨rfl, HBn⟩))
  replace HBc : Hid (Below W.heap.size W w5) := HBc.out.trans (HBn.out.mono HBc.out.size)
  clear C2 HBn c0 c1 c2
  obtain ⟨-, ⟨c0, c1, c2⟩, -, -, -, -, C3, -⟩ := HALL.out w5 HBc.out
  have g1 : ((N : Int) != (N : Int)) = false := by simp
  have g2 : ¬ ((N : Int) < 1) := by omega
  go_upto_region 12 with fail
  clear g1 g2
  cases b40 with
  | true =>
    go_wp2_with (first | (go_at_call 15; (with_reducible refine Calls.mono C3 ?_); rintro e' w6 ⟨rfl, HBn⟩))
    refine bodyPost_ret (v := .bool true) (by simp [results, Tryz.results4, go_sem]) rfl ?_
    exact ⟨rfl, (HALL.out w6 (HBc.out.trans (HBn.out.mono HBc.out.size))).1⟩
  | false =>
    go_upto_region 15 with (first | (go_at_call 15; (with_reducible refine Calls.mono C3 ?_); rintro e' w6 ⟨rfl, HBn⟩))
    replace HBc : Hid (Below W.heap.size W w6) := HBc.out.trans (HBn.out.mono HBc.out.size)
    clear C3 HBn c0 c1 c2
    obtain ⟨-, ⟨c0, c1, c2⟩, ⟨a0, a1, a2⟩, -, -, -, -, C4, -⟩ := HALL.out w6 HBc.out
    go_upto_region 16 with (first | (go_at_call 12; (with_reducible refine Calls.mono C4 ?_); rintro e' w7 ⟨rfl, HBn⟩))
    replace HBc : Hid (Below W.heap.size W w7) := HBc.out.trans (HBn.out.mono HBc.out.size)
    clear C4 HBn c0 c1 c2 a0 a1 a2
    obtain ⟨-, ⟨c0, c1, c2⟩, -, ⟨a0, a1, a2⟩, -, -, -, -, C5, -⟩ := HALL.out w7 HBc.out
    go_upto_region 17 with (first | (go_at_call 12; (with_reducible refine Calls.mono C5 ?_); rintro e' w8 ⟨rfl, HBn⟩))
    replace HBc : Hid (Below W.heap.size W w8) := HBc.out.trans (HBn.out.mono HBc.out.size)
    clear C5 HBn c0 c1 c2 a0 a1 a2
    have g3 : ¬ ((M1 : Int) < 1) := by omega
    have g4 : ¬ ((M2 : Int) < 1) := by omega
    go_upto_region 19 with fail
    clear g3 g4
    have HBd : Hid (Below W.heap.size W w8.drew) := HBc.out.drew
    obtain ⟨hbw, ⟨c0, c1, c2⟩, -, -, -, -, -, -, -, C6⟩ := HALL.out w8.drew HBd.out
    obtain ⟨f, hf, CW1⟩ := within_any (w := w8.drew) p N hd1 (by omega)
    obtain ⟨h, hh, CW2⟩ := within_any (w := w8.drew) q N hd1 (by omega)
    obtain ⟨v, hv, CW3⟩ := within_any (w := w8.drew) r M2 hd3 (by omega)
    have CALL := C6 f h v hf hh hv
    have hS0 : (fun w' : World => w'.cell? ⟨X, 0, none⟩ = some (.int .i64 3) ∧ w'.cell? ⟨X, 1, none⟩ = some (.string ⟨n.toArray⟩) ∧ w'.cell? ⟨X, 2, none⟩ = some (.slice (some ⟨g, o, none⟩) 2 cap)) w8.drew := ⟨c0, c1, c2⟩
    have HKS : Hid (∀ w2 : World, Below w8.drew.heap.size w8.drew w2 → (fun w' : World => w'.cell? ⟨X, 0, none⟩ = some (.int .i64 3) ∧ w'.cell? ⟨X, 1, none⟩ = some (.string ⟨n.toArray⟩) ∧ w'.cell? ⟨X, 2, none⟩ = some (.slice (some ⟨g, o, none⟩) 2 cap)) w2) := fun w2 h2 => (HALL.out w2 (HBd.out.trans (h2.mono HBd.out.size))).2.1
    have HEND : Hid (∀ w2 : World, Below w8.drew.heap.size w8.drew w2 → Below w.heap.size w w2) := fun w2 h2 => (HALL.out w2 (HBd.out.trans (h2.mono HBd.out.size))).1
    clear C6 hbw c0 c1 c2
    refine wp_region_M (S := (fun w' : World => w'.cell? ⟨X, 0, none⟩ = some (.int .i64 3) ∧ w'.cell? ⟨X, 1, none⟩ = some (.string ⟨n.toArray⟩) ∧ w'.cell? ⟨X, 2, none⟩ = some (.slice (some ⟨g, o, none⟩) 2 cap))) (L := 13) (n := 13) (by kernel_rfl) rfl (by kernel_rfl) ?_
    refine wpAnyK_go (i := 0) (m' := 1) (some 99) (v := .agg #[.int .i64 3, .string ⟨n.toArray⟩, .slice (some ⟨g, o, none⟩) 2 cap]) rfl rfl (by kernel_rfl) (by kernel_rfl) (by kernel_rfl) (by kernel_rfl) (by kernel_rfl) (fun _ _ _ h => h) (Or.inl ⟨by rfl, ?_⟩) hS0 ?_
    · intro w' hSw
      obtain ⟨s1, s2, s3⟩ := hSw
      go_simp
    simp only [Act.put, List.setIfInBounds_toArray, List.set_cons_zero, List.set_cons_succ]
    refine wpAnyK_go (i := 1) (m' := 3) (some 100) (v := .int .i64 p) rfl rfl (by kernel_rfl) (by kernel_rfl) (by kernel_rfl) (by kernel_rfl) (by kernel_rfl) (fun _ _ _ h => h) (Or.inl ⟨by rfl, ?_⟩) hS0 ?_
    · intro w' hSw
      go_simp
    simp only [Act.put, List.setIfInBounds_toArray, List.set_cons_zero, List.set_cons_succ]
    refine wpAnyK_go (i := 2) (m' := 7) (some 101) (v := .int .i64 (N : Int)) rfl rfl (by kernel_rfl) (by kernel_rfl) (by kernel_rfl) (by kernel_rfl) (by kernel_rfl) (fun _ _ _ h => h) (Or.inl ⟨by rfl, ?_⟩) hS0 ?_
    · intro w' hSw
      go_simp
    simp only [Act.put, List.setIfInBounds_toArray, List.set_cons_zero, List.set_cons_succ]
    refine wpAnyK_go (i := 4) (m' := 23) (some 103) (v := .int .i64 q) rfl rfl (by kernel_rfl) (by kernel_rfl) (by kernel_rfl) (by kernel_rfl) (by kernel_rfl) (fun _ _ _ h => h) (Or.inl ⟨by rfl, ?_⟩) hS0 ?_
    · intro w' hSw
      go_simp
    simp only [Act.put, List.setIfInBounds_toArray, List.set_cons_zero, List.set_cons_succ]
    refine wpAnyK_go (i := 5) (m' := 55) (some 104) (v := .int .i64 (N : Int)) rfl rfl (by kernel_rfl) (by kernel_rfl) (by kernel_rfl) (by kernel_rfl) (by kernel_rfl) (fun _ _ _ h => h) (Or.inl ⟨by rfl, ?_⟩) hS0 ?_
    · intro w' hSw
      go_simp
    simp only [Act.put, List.setIfInBounds_toArray, List.set_cons_zero, List.set_cons_succ]
    refine wpAnyK_go (i := 7) (m' := 183) (some 106) (v := .int .i64 r) rfl rfl (by kernel_rfl) (by kernel_rfl) (by kernel_rfl) (by kernel_rfl) (by kernel_rfl) (fun _ _ _ h => h) (Or.inl ⟨by rfl, ?_⟩) hS0 ?_
    · intro w' hSw
      go_simp
    simp only [Act.put, List.setIfInBounds_toArray, List.set_cons_zero, List.set_cons_succ]
    refine wpAnyK_go (i := 8) (m' := 439) (some 107) (v := .int .i64 (M2 : Int)) rfl rfl (by kernel_rfl) (by kernel_rfl) (by kernel_rfl) (by kernel_rfl) (by kernel_rfl) (fun _ _ _ h => h) (Or.inl ⟨by rfl, ?_⟩) hS0 ?_
    · intro w' hSw
      go_simp
    simp only [Act.put, List.setIfInBounds_toArray, List.set_cons_zero, List.set_cons_succ]
    refine wpAnyK_go (i := 10) (m' := 1463) (some 109) (v := .int .i64 (M1 : Int)) rfl rfl (by kernel_rfl) (by kernel_rfl) (by kernel_rfl) (by kernel_rfl) (by kernel_rfl) (fun _ _ _ h => h) (Or.inl ⟨by rfl, ?_⟩) hS0 ?_
    · intro w' hSw
      go_simp
    simp only [Act.put, List.setIfInBounds_toArray, List.set_cons_zero, List.set_cons_succ]
    refine wpAnyK_only (i := 3) (m' := 1471) (by kernel_rfl) rfl (by kernel_rfl) fun K hK => ?_
    go_simp
    (with_reducible refine Calls.mono CW1 ?_)
    rintro e' w9 ⟨rfl, hw9⟩
    obtain rfl := hw9.symm
    clear hw9
    go_simp
    refine hK.out _ _ (fun _ => hS0) ?_
    clear hK K CW1
    refine wpAnyK_only (i := 6) (m' := 1535) (by kernel_rfl) rfl (by kernel_rfl) fun K hK => ?_
    go_simp
    (with_reducible refine Calls.mono CW2 ?_)
    rintro e' w9 ⟨rfl, hw9⟩
    obtain rfl := hw9.symm
    clear hw9
    go_simp
    refine hK.out _ _ (fun _ => hS0) ?_
    clear hK K CW2
    refine wpAnyK_only (i := 9) (m' := 2047) (by kernel_rfl) rfl (by kernel_rfl) fun K hK => ?_
    go_simp
    (with_reducible refine Calls.mono CW3 ?_)
    rintro e' w9 ⟨rfl, hw9⟩
    obtain rfl := hw9.symm
    clear hw9
    go_simp
    refine hK.out _ _ (fun _ => hS0) ?_
    clear hK K CW3
    refine wpAnyK_only (i := 11) (m' := 4095) (by kernel_rfl) rfl (by kernel_rfl) fun K hK => ?_
    go_simp
    (with_reducible refine Calls.mono CALL ?_)
    rintro e' w9 ⟨rfl, HB9⟩
    have hS9 := HKS.out w9 HB9.out
    go_simp
    refine hK.out _ _ (fun _ => hS9) ?_
    clear hK K CALL hS0
    refine wpAnyK_only (i := 12) (m' := 8191) (by kernel_rfl) rfl (by kernel_rfl) fun K hK => ?_
    go_simp
    refine hK.out _ _ (fun _ => hS9) ?_
    clear hK K hS9
    refine wpAnyK_done (by kernel_rfl) ?_ _
    go_wp2
    refine bodyPost_ret (v := .bool true) (by simp [results, Tryz.results4, go_sem]) rfl ?_
    exact ⟨rfl, HEND.out w9 HB9.out⟩
set_option maxHeartbeats 16000000 in
set_option maxRecDepth 10000 in
theorem maps_none (d : Nat) (x : Value) (t : Tn (d + 1)) (w : World) (hx : TyAt w w.heap.size (d + 1) x t) (hfd : funD d t = none) (p q r : Int) :
    Calls Tryz.prog 4 #[x, .int .i64 p, .int .i64 q, .int .i64 r] w fun e w' => e = .returned (.bool true) ∧ Hid (Below w.heap.size w w') := by
  have HX : Hid (TyAt w w.heap.size (d + 1) x t) := hx
  obtain ⟨u, rfl, hn1, hn2, hrow⟩ := hx
  obtain ⟨ad, cap, rfl⟩ := hrow.len
  obtain ⟨X, hX⟩ : ∃ X, X = w.heap.size := ⟨_, rfl⟩
  obtain ⟨W, hW⟩ : ∃ W, W = w.alloc (.cells #[.int .i64 t.1.1, .string ⟨t.1.2.toArray⟩, .slice ad t.2.length cap] 24) := ⟨_, rfl⟩
  have hBW : Below w.heap.size w W := by rw [hW]; exact (Below.refl _ _).alloc (Nat.le_refl _) _
  have hXW : W.heap[X]? = some (.cells #[.int .i64 t.1.1, .string ⟨t.1.2.toArray⟩, .slice ad t.2.length cap] 24 (0, 0)) := by rw [hW, hX]; exact new_blk _ _
  have HTY : Hid (∀ w2 : World, Below W.heap.size W w2 → Below w.heap.size w w2 ∧ (w2.cell? ⟨X, 0, none⟩ = some (.int .i64 t.1.1) ∧ w2.cell? ⟨X, 1, none⟩ = some (.string ⟨t.1.2.toArray⟩) ∧ w2.cell? ⟨X, 2, none⟩ = some (.slice ad t.2.length cap)) ∧ TyAt w2 w2.heap.size (d + 1) (.agg #[.int .i64 t.1.1, .string ⟨t.1.2.toArray⟩, .slice ad t.2.length cap]) t) := fun w2 h2 => by
    have h3 : Below w.heap.size w w2 := hBW.trans (h2.mono hBW.size)
    have h4 := (h2.block X (lt_heap hXW)).trans hXW
    exact ⟨h3, ⟨heap_cl h4 rfl, heap_cl h4 rfl, heap_cl h4 rfl⟩, TyAt.below h3 h3.size _ _ _ HX.out⟩
  have CG := great_any (d + 1) (.agg #[.int .i64 t.1.1, .string ⟨t.1.2.toArray⟩, .slice ad t.2.length cap]) t W (TyAt.below hBW hBW.size _ _ _ HX.out)
  have HXE : Hid (X = w.heap.size) := hX
  have HBc : Hid (Below W.heap.size W W) := Below.refl _ _
  obtain ⟨-, ⟨c0, c1, c2⟩, -⟩ := HTY.out W HBc.out
  have HFD : Hid (funD d t = none) := hfd
  clear hn1 hn2 hrow hX hBW hXW HX hfd
  have HK : Hid (orderD (d + 1) t = none ∨ t.1.1 ≠ 3) := by
    show _ ∨ _
    by_cases e : t.1.1 = 3
    · left
      have h := HFD.out
      unfold funD at h
      rw [if_pos e] at h
      exact h
    · exact .inr e
  go_enter Tryz.func4, Tryz.ntmps4
  go_upto_region 1 with fail
  rw [← hW, ← HXE.out]
  clear hW
  cases hgr : greatT (d + 1) t with
  | true =>
    rw [hgr] at CG
    go_wp2_with (first | (go_at_call 5; (with_reducible refine Calls.mono CG ?_); rintro e' w2 ⟨rfl, hb2⟩))
    refine bodyPost_ret (v := .bool true) (by simp [results, Tryz.results4, go_sem]) rfl ?_
    exact ⟨rfl, (HTY.out w2 hb2).1⟩
  | false =>
    rw [hgr] at CG
    have HN : Hid ((flat (d + 1) t).length ≤ 4194304) := great_nodes hgr
    clear hgr
    go_upto_region 4 with (first | (go_at_call 5; (with_reducible refine Calls.mono CG ?_); rintro e' w2 ⟨rfl, hb2⟩))
    replace HBc : Hid (Below W.heap.size W w2) := hb2
    clear hb2 c0 c1 c2 CG
    have CA := awake_any (w := w2)
    go_upto_region 5 with (first | (go_at_call 6; (with_reducible refine Calls.mono CA ?_); rintro e' w3 ⟨rfl, HBn⟩))
    replace HBc : Hid (Below W.heap.size W w3) := HBc.out.trans (HBn.out.mono HBc.out.size)
    clear CA HBn
    obtain ⟨-, ⟨c0, c1, c2⟩, hty⟩ := HTY.out w3 HBc.out
    have CS := size_all d _ t w3 hty HN.out
    clear hty
    have HSZ : Hid (orderD (d + 1) t = none → sizeD (d + 1) t = (0, 140)) := fun h => by
      unfold sizeD
      rw [h]
    have HS0 : Hid (∀ D, orderD (d + 1) t = some D → (sizeD (d + 1) t).2 = 0) := fun D h => by
      unfold sizeD
      rw [h]
    obtain ⟨sz, hsz⟩ : ∃ sz, sz = sizeD (d + 1) t := ⟨_, rfl⟩
    rw [← hsz] at CS HSZ HS0
    have HSE : Hid (sz = sizeD (d + 1) t) := hsz
    clear hsz
    obtain ⟨s1, s2⟩ := sz
    go_upto_region 6 with (first | (go_at_call 12; (with_reducible refine Calls.mono CS ?_); rintro e' w4 ⟨rfl, HBn⟩))
    replace HBc : Hid (Below W.heap.size W w4) := HBc.out.trans (HBn.out.mono HBc.out.size)
    clear CS HBn c0 c1 c2
    obtain ⟨-, ⟨c0, c1, c2⟩, hty⟩ := HTY.out w4 HBc.out
    have CR := size_ref d _ t w4 hty HN.out
    rw [← HSE.out] at CR
    clear hty
    go_upto_region 7 with (first | (go_at_call 13; (with_reducible refine Calls.mono CR ?_); rintro e' w5 ⟨rfl, HBn⟩))
    replace HBc : Hid (Below W.heap.size W w5) := HBc.out.trans (HBn.out.mono HBc.out.size)
    clear CR HBn c0 c1 c2
    obtain ⟨-, ⟨c0, c1, c2⟩, hty⟩ := HTY.out w5 HBc.out
    have CP := apply_none hty HN.out HFD.out
    clear hty
    have g1 : ((s1 : Int) != (s1 : Int)) = false := by simp
    have g2 : (s2 != s2) = false := by simp
    go_upto_region 9 with fail
    clear g1 g2
    by_cases hs2 : s2 = 0
    · have hk3 : t.1.1 ≠ 3 := by
        rcases HK.out with h | h
        · have := HSZ.out h
          rw [Prod.mk.injEq] at this
          omega
        · exact h
      have g3 : (s2 != 0) = false := by simp [hs2]
      have g4 : (t.1.1 != 3) = true := by simp [hk3]
      clear hs2 hk3 HK HSZ HS0 HSE HFD
      generalize t.1.1 = kk at *
      generalize t.1.2 = nn at *
      generalize t.2.length = mm at *
      go_wp2_with (first | (go_at_call 14; (with_reducible refine Calls.mono CP ?_); rintro e' w6 ⟨rfl, HBn⟩))
      refine bodyPost_ret (v := .bool true) (by simp [results, Tryz.results4, go_sem]) rfl ?_
      exact ⟨rfl, (HTY.out w6 (HBc.out.trans (HBn.out.mono HBc.out.size))).1⟩
    · have g3 : (s2 != 0) = true := by simp [hs2]
      clear hs2 HK HSZ HS0 HSE HFD
      generalize t.1.1 = kk at *
      generalize t.1.2 = nn at *
      generalize t.2.length = mm at *
      go_wp2_with (first | (go_at_call 14; (with_reducible refine Calls.mono CP ?_); rintro e' w6 ⟨rfl, HBn⟩))
      refine bodyPost_ret (v := .bool true) (by simp [results, Tryz.results4, go_sem]) rfl ?_
      exact ⟨rfl, (HTY.out w6 (HBc.out.trans (HBn.out.mono HBc.out.size))).1⟩
theorem maps_great (d : Nat) (x : Value) (t : Tn (d + 1)) (w : World) (hx : TyAt w w.heap.size (d + 1) x t) (hg : greatT (d + 1) t = true) (p q r : Int) :
    Calls Tryz.prog 4 #[x, .int .i64 p, .int .i64 q, .int .i64 r] w fun e w' => e = .returned (.bool true) ∧ Hid (Below w.heap.size w w') := by
  have HX : Hid (TyAt w w.heap.size (d + 1) x t) := hx
  obtain ⟨u, rfl, hn1, hn2, hrow⟩ := hx
  obtain ⟨ad, cap, rfl⟩ := hrow.len
  obtain ⟨X, hX⟩ : ∃ X, X = w.heap.size := ⟨_, rfl⟩
  obtain ⟨W, hW⟩ : ∃ W, W = w.alloc (.cells #[.int .i64 t.1.1, .string ⟨t.1.2.toArray⟩, .slice ad t.2.length cap] 24) := ⟨_, rfl⟩
  have hBW : Below w.heap.size w W := by rw [hW]; exact (Below.refl _ _).alloc (Nat.le_refl _) _
  have hXW : W.heap[X]? = some (.cells #[.int .i64 t.1.1, .string ⟨t.1.2.toArray⟩, .slice ad t.2.length cap] 24 (0, 0)) := by rw [hW, hX]; exact new_blk _ _
  have CG := great_any (d + 1) (.agg #[.int .i64 t.1.1, .string ⟨t.1.2.toArray⟩, .slice ad t.2.length cap]) t W (TyAt.below hBW hBW.size _ _ _ HX.out)
  rw [hg] at CG
  have HXE : Hid (X = w.heap.size) := hX
  have HBW : Hid (Below w.heap.size w W) := hBW
  have c0 : W.cell? ⟨X, 0, none⟩ = some (.int .i64 t.1.1) := heap_cl hXW rfl
  have c1 : W.cell? ⟨X, 1, none⟩ = some (.string ⟨t.1.2.toArray⟩) := heap_cl hXW rfl
  have c2 : W.cell? ⟨X, 2, none⟩ = some (.slice ad t.2.length cap) := heap_cl hXW rfl
  clear hn1 hn2 hrow hX hBW hXW HX hg
  generalize t.1.1 = kk at *
  generalize t.1.2 = nn at *
  generalize t.2.length = mm at *
  go_enter Tryz.func4, Tryz.ntmps4
  go_upto_region 1 with fail
  rw [← hW, ← HXE.out]
  clear hW
  go_wp2_with (first | (go_at_call 5; (with_reducible refine Calls.mono CG ?_); rintro e' w2 ⟨rfl, hb2⟩))
  refine bodyPost_ret (v := .bool true) (by simp [results, Tryz.results4, go_sem]) rfl ?_
  exact ⟨rfl, HBW.out.trans (hb2.mono HBW.out.size)⟩
theorem maps_law (d : Nat) (x : Value) (t : Tn (d + 1)) (w : World) (hx : TyAt w w.heap.size (d + 1) x t) (hT : ∀ w', Below w.heap.size w w' → TabAt 0 Lib.deBruijn64tab w') (p q r : Int) :
    Calls Tryz.prog 4 #[x, .int .i64 p, .int .i64 q, .int .i64 r] w fun e w' => e = .returned (.bool true) ∧ Hid (Below w.heap.size w w') := by
  cases hfd : funD d t with
  | none => exact maps_none d x t w hx hfd p q r
  | some D =>
    cases hg : greatT (d + 1) t with
    | true => exact maps_great d x t w hx hg p q r
    | false =>
      obtain ⟨a, b, A, C, h1, h2, h3, h4, h5, h6, h7, h8, h9, h10, h11⟩ := part_order hfd
      obtain ⟨⟨k, n⟩, ts⟩ := t
      have h1 : ts = [a, b] := h1
      have h2 : k = 3 := h2
      subst h1 h2 h5
      cases d with
      | zero =>
        have h3 : (if wrongT 0 a = 0 ∧ noVarB (flat 0 a) = true then ordD 0 a else none) = some A := h3
        split at h3
        · cases h3
        · cases h3
      | succ d => exact maps_fun d x n a b A C w hx hg hT h10 h11 hfd h9 h3 h4 h6 h7 h8 p q r
end Go.Proofs.YtgdflaapgfpdeaaGreatDoor
