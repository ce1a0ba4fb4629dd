/- The reference's Edge. -/
import Derived.Test.YtgdflaapgfpdeaaGreatDoorMAx
namespace Go.Proofs.YtgdflaapgfpdeaaGreatDoor
open Go.RowKit

theorem least_step {A : Nat → Bool} {y : Nat} {lb bx : Bool} (h : lb = true ↔ bx = true ∧ ∀ p, p < y → A p = false) : (lb && !A y) = true ↔ bx = true ∧ ∀ p, p < y + 1 → A p = false := by
  rw [Bool.and_eq_true, h]
  constructor
  · rintro ⟨⟨h0, h1⟩, h2⟩
    refine ⟨h0, fun p hp => ?_⟩
    rcases Nat.lt_succ_iff_lt_or_eq.1 hp with h3 | rfl
    · exact h1 p h3
    · simpa using h2
  · rintro ⟨h0, h1⟩
    exact ⟨⟨h0, fun p hp => h1 p (by omega)⟩, by simpa using h1 y (by omega)⟩
/-- Least is asked of the arguments that are, not of those that were found: the same. -/
theorem edge_next {fa ta r : List Nat} {v x : Nat} {lb : Bool} (hla : Lat fa) (h : lb = true ↔ (ta.getD v 0).testBit (r.getD x 0) = true ∧ ∀ p, p < x → ((fa.getD p 0).testBit x && (ta.getD v 0).testBit (r.getD p 0)) = false) : edgeP fa ta r v (x + 1) = if lb then edgeP fa ta r v x ++ [x] else edgeP fa ta r v x := by
  have e : ((ta.getD v 0).testBit (r.getD x 0) && !((edgeP fa ta r v x).any fun y => (fa.getD y 0).testBit x)) = lb := by
    rw [Bool.eq_iff_iff, h, Bool.and_eq_true]
    refine and_congr_right fun _ => ?_
    rw [Bool.not_eq_true', Bool.eq_false_iff, ne_eq, List.any_eq_true]
    constructor
    · intro h1 p hp
      rw [Bool.eq_false_iff, ne_eq, Bool.and_eq_true]
      rintro ⟨h2, h3⟩
      refine h1 ?_
      by_cases he : (edgeP fa ta r v p).any (fun y => (fa.getD y 0).testBit p) = true
      · obtain ⟨z, h4, h5⟩ := List.any_eq_true.1 he
        exact ⟨z, edge_sub _ _ _ _ p x (by omega) z h4, hla.trans z p x h5 h2⟩
      · refine ⟨p, edge_sub _ _ _ _ (p + 1) x hp p ?_, h2⟩
        have e : edgeP fa ta r v (p + 1) = edgeP fa ta r v p ++ [p] := by
          rw [edgeP, if_pos]
          rw [h3, Bool.eq_false_iff.2 he]
          rfl
        rw [e]
        simp
    · rintro h1 ⟨y, h2, h3⟩
      have := h1 y (edge_lt _ _ _ _ _ y h2)
      rw [h3, edge_mem _ _ _ _ _ y h2] at this
      cases this
  rw [edgeP, e]
set_option maxHeartbeats 16000000 in
set_option maxRecDepth 10000 in
theorem edge_ref (d : Nat) (x : Value) (t : Tn (d + 1)) (w : World) (hx : TyAt w w.heap.size (d + 1) x t) (hN : (flat (d + 1) t).length ≤ 4194304) (f v : Int) :
    Calls Tryz.prog 30 #[x, .int .i64 f, .int .i64 v] w fun r w' => EdPost (edgeD (funD d t) f v) w r w' := by
  have HX : Hid (TyAt w w.heap.size (d + 1) x t) := hx
  obtain ⟨u, rfl, hn1, hn2, hrow⟩ := hx
  obtain ⟨ad, cap, rfl⟩ := hrow.len
  obtain ⟨X, hX⟩ : ∃ X, X = w.heap.size := ⟨_, rfl⟩
  obtain ⟨W, hW⟩ : ∃ W, W = w.alloc (.cells #[.int .i64 t.1.1, .string ⟨t.1.2.toArray⟩, .slice ad t.2.length cap] 24) := ⟨_, rfl⟩
  have hBW : Below w.heap.size w W := by rw [hW]; exact (Below.refl _ _).alloc (Nat.le_refl _) _
  have hXW : W.heap[X]? = some (.cells #[.int .i64 t.1.1, .string ⟨t.1.2.toArray⟩, .slice ad t.2.length cap] 24 (0, 0)) := by rw [hW, hX]; exact new_blk _ _
  have CO := parts_ref d (.agg #[.int .i64 t.1.1, .string ⟨t.1.2.toArray⟩, .slice ad t.2.length cap]) t W (TyAt.below hBW hBW.size _ _ _ HX.out) hN
  have c0 : W.cell? ⟨X, 0, none⟩ = some (.int .i64 t.1.1) := heap_cl hXW rfl
  have c1 : W.cell? ⟨X, 1, none⟩ = some (.string ⟨t.1.2.toArray⟩) := heap_cl hXW rfl
  have c2 : W.cell? ⟨X, 2, none⟩ = some (.slice ad t.2.length cap) := heap_cl hXW rfl
  have HXE : Hid (X = w.heap.size) := hX
  have HBW : Hid (Below w.heap.size w W) := hBW
  clear hn1 hn2 hrow hX hBW hXW hN HX
  generalize funD d t = od at *
  generalize t.1.1 = k at *
  generalize t.1.2 = n at *
  generalize t.2.length = m at *
  clear t
  go_enter Tryz.func30, Tryz.ntmps30
  go_upto_region 1 with fail
  rw [← hW, ← HXE.out]
  clear hW
  go_upto_region 2 with (first | (go_at_call 26; (with_reducible refine Calls.mono CO ?_); rintro e' w2 ⟨n1, a1, l1, k1, b1, m1, j1, n2, a2, l2, k2, b2, m2, j2, n3, a3, l3, k3, b3, m3, j3, ok, rfl, HB2, HT2⟩))
  clear c0 c1 c2 CO
  obtain ⟨w3, P1, P2, P3, hw3, hP1, hP2, hP3, hB3, q1, q2, q3⟩ := boxes47 w2 #[.int .i64 n1, .slice a1 l1 k1, .slice b1 m1 j1] #[.int .i64 n2, .slice a2 l2 k2, .slice b2 m2 j2] #[.int .i64 n3, .slice a3 l3 k3, .slice b3 m3 j3]
  rw [← hw3, ← hP3, ← hP2, ← hP1]
  have HBB : Hid (Below w.heap.size w w3) := (HBW.out.trans (HB2.out.mono HBW.out.size)).trans (hB3.mono (Nat.le_trans HBW.out.size HB2.out.size))
  have HT3 : Hid (PaP od w3 (fun y => y < w3.heap.size) (.agg #[.int .i64 n1, .slice a1 l1 k1, .slice b1 m1 j1]) (.agg #[.int .i64 n2, .slice a2 l2 k2, .slice b2 m2 j2]) (.agg #[.int .i64 n3, .slice a3 l3 k3, .slice b3 m3 j3]) ok) := HT2.out.on (fun y hy => hB3.block y hy.2) fun y hy => Nat.lt_of_lt_of_le hy.2 hB3.size
  have HP1 : Hid (w3.heap[P1]? = some (.cells #[.int .i64 n1, .slice a1 l1 k1, .slice b1 m1 j1] 47 (0, 0))) := q1
  have HP2 : Hid (w3.heap[P2]? = some (.cells #[.int .i64 n2, .slice a2 l2 k2, .slice b2 m2 j2] 47 (0, 0))) := q2
  have HP3 : Hid (w3.heap[P3]? = some (.cells #[.int .i64 n3, .slice a3 l3 k3, .slice b3 m3 j3] 47 (0, 0))) := q3
  clear hw3 hP1 hP2 hP3 hB3 q1 q2 q3 HB2 HT2 HBW HXE
  cases ok with
  | false =>
    have hod := HT3.out.2 rfl
    subst hod
    go_wp2
    refine bodyPost_ret (v := .tuple #[.slice none 0 0, .int .i64 140]) (by simp [results, Tryz.results30, go_sem]) rfl ?_
    exact EdPost.no HBB.out
  | true =>
    obtain ⟨fa, ta, ra, rb, rfl, hla, hlb, hfew, hx1, hx2, hx3⟩ := HT3.out.1 rfl
    obtain ⟨rfl, rfl, gb, ob, rfl, -, -⟩ := lat_at hx1
    obtain ⟨rfl, hrs⟩ := lat_rs hx1
    obtain ⟨rfl, rfl, gc, oc, rfl, hck2, hfr⟩ := lat_at hx2
    obtain ⟨rfl, rfl, gd, od, rfl, hck3, htr⟩ := lat_at hx3
    have hfl : (fnsP ta (resP fa ta)).length = (resP fa ta).length := fns_len _ _
    have HDE : Hid (edgeD (some (fnsP ta (resP fa ta), some (fa, ta))) f v = if 0 ≤ f ∧ f < ((fnsP ta (resP fa ta)).length : Int) ∧ 0 ≤ v ∧ v < (ta.length : Int) then (edgeP fa ta ((resP fa ta).getD f.toNat []) v.toNat fa.length, 0) else ([], 141)) := rfl
    rw [hfl] at HP1 HDE
    have CF := is_any (w := w3) (resP fa ta).length (some ⟨gb, ob, none⟩) (resP fa ta).length k1 b1 (resP fa ta).length j1 f
    have CX : Hid (∀ wr : World, Calls Tryz.prog 38 #[.agg #[.int .i64 (ta.length : Int), .slice (some ⟨gd, od, none⟩) ta.length k3, .slice b3 m3 j3], .int .i64 v] wr fun r w' => r = .returned (.bool (decide (0 ≤ v ∧ v < (ta.length : Int)))) ∧ Hid (Below wr.heap.size wr w')) := fun wr => is_any (w := wr) ta.length (some ⟨gd, od, none⟩) ta.length k3 b3 m3 j3 v
    have HPP : Hid (∀ wr, Below w3.heap.size w3 wr → wr.heap[P3]? = some (.cells #[.int .i64 (ta.length : Int), .slice (some ⟨gd, od, none⟩) ta.length k3, .slice b3 m3 j3] 47 (0, 0))) := fun wr hb => (hb.block P3 (lt_heap HP3.out)).trans HP3.out
    have y0 : w3.cell? ⟨P1, 0, none⟩ = some (.int .i64 ((resP fa ta).length : Int)) := heap_cl HP1.out rfl
    have y1 : w3.cell? ⟨P1, 1, none⟩ = some (.slice (some ⟨gb, ob, none⟩) (resP fa ta).length k1) := heap_cl HP1.out rfl
    have y2 : w3.cell? ⟨P1, 2, none⟩ = some (.slice b1 (resP fa ta).length j1) := heap_cl HP1.out rfl
    by_cases hf : 0 ≤ f ∧ f < ((resP fa ta).length : Int)
    · rw [decide_eq_true hf] at CF
      by_cases hv : 0 ≤ v ∧ v < (ta.length : Int)
      · rw [decide_eq_true hv] at CX
        rw [if_pos ⟨hf.1, hf.2, hv.1, hv.2⟩] at HDE
        obtain ⟨fn, rfl⟩ : ∃ fn : Nat, f = fn := ⟨f.toNat, by omega⟩
        obtain ⟨vn, rfl⟩ : ∃ vn : Nat, v = vn := ⟨v.toNat, by omega⟩
        rw [Int.toNat_natCast, Int.toNat_natCast] at HDE
        have hfn : fn < (resP fa ta).length := by omega
        have hvn : vn < ta.length := by omega
        go_upto_region 6 with (first | (go_at_call 38; have ZZ := HB4; (with_reducible refine Calls.mono (CX.out w4) ?_); rintro e' w5 ⟨rfl, HB5⟩) | (go_at_call 38; (with_reducible refine Calls.mono CF ?_); rintro e' w4 ⟨rfl, HB4⟩; have hL4 := HPP.out w4 HB4.out; have y3 : w4.cell? ⟨P3, 0, none⟩ = some (.int .i64 (ta.length : Int)) := heap_cl hL4 rfl; have y4 : w4.cell? ⟨P3, 1, none⟩ = some (.slice (some ⟨gd, od, none⟩) ta.length k3) := heap_cl hL4 rfl; have y5 : w4.cell? ⟨P3, 2, none⟩ = some (.slice b3 m3 j3) := heap_cl hL4 rfl; clear hL4))
        clear y0 y1 y2 y3 y4 y5 CF CX
        obtain ⟨g, o, rfl, hsg, hcf, ai, ci, q1, n1⟩ := row_nts hrs fn hfn
        have hrl : ((resP fa ta).getD fn []).length = fa.length := ((res_mem fa ta _).1 (res_in hfn)).1
        have HRT : Hid (∀ x, x < fa.length → ((resP fa ta).getD fn []).getD x 0 < ta.length) := fun x hx => by
          have h1 := ((res_mem fa ta _).1 (res_in hfn)).2.1
          exact h1 x hx
        obtain ⟨g2, o2, rfl, hci, hs2, -⟩ := n1.at (show 0 < ((resP fa ta).getD fn []).length by rw [hrl]; exact hla.pos)
        have hn1 : ∀ x, x < fa.length → w3.cell? ⟨g2, o2 + x, none⟩ = some (.int .i64 ((((resP fa ta).getD fn []).getD x 0 : Nat) : Int)) := fun x hx => by
          have hx2 : x < ((resP fa ta).getD fn []).length := by rw [hrl]; exact hx
          obtain ⟨g', o', e, -, -, q⟩ := n1.at hx2
          simp only [Option.some.injEq, Addr.mk.injEq, and_true] at e
          obtain ⟨rfl, rfl⟩ := e
          rw [q, getD_at hx2]
        rw [hrl] at q1 hci
        obtain ⟨hsd, g1, o1, cv, t1, t2, t3, t4⟩ := htr vn hvn
        have HQQ : Hid (∀ wr, Below w3.heap.size w3 wr → wr.cell? ⟨P1, 2, none⟩ = some (.slice (some ⟨g, o, none⟩) (resP fa ta).length j1) ∧ wr.cell? ⟨P2, 0, none⟩ = some (.int .i64 (fa.length : Int)) ∧ wr.cell? ⟨P2, 1, none⟩ = some (.slice (some ⟨gc, oc, none⟩) fa.length k2) ∧ wr.cell? ⟨P3, 1, none⟩ = some (.slice (some ⟨gd, od, none⟩) ta.length k3) ∧ wr.cell? ⟨g, o + fn, none⟩ = some (.slice (some ⟨g2, o2, none⟩) fa.length ci) ∧ (∀ x, x < fa.length → wr.cell? ⟨g2, o2 + x, none⟩ = some (.int .i64 ((((resP fa ta).getD fn []).getD x 0 : Nat) : Int))) ∧ wr.cell? ⟨gd, od + vn, none⟩ = some (.slice (some ⟨g1, o1, none⟩) ta.length cv) ∧ (∀ j, j < ta.length → wr.cell? ⟨g1, o1 + j, none⟩ = some (.bool ((ta.getD vn 0).testBit j))) ∧ ∀ i, i < fa.length → ∃ h1 p1 c, wr.cell? ⟨gc, oc + i, none⟩ = some (.slice (some ⟨h1, p1, none⟩) fa.length c) ∧ fa.length ≤ c ∧ ∀ j, j < fa.length → wr.cell? ⟨h1, p1 + j, none⟩ = some (.bool ((fa.getD i 0).testBit j))) := fun wr hb => by
          have q01 := (hb.block P1 (lt_heap HP1.out)).trans HP1.out
          have q02 := (hb.block P2 (lt_heap HP2.out)).trans HP2.out
          refine ⟨heap_cl q01 rfl, heap_cl q02 rfl, heap_cl q02 rfl, heap_cl (HPP.out wr hb) rfl, (hb.cell (p := ⟨g, o + fn, none⟩) hsg).trans q1, fun x hx => (hb.cell (p := ⟨g2, o2 + x, none⟩) hs2).trans (hn1 x hx), (hb.cell (p := ⟨gd, od + vn, none⟩) hsd).trans t1, fun j hj => (hb.cell (p := ⟨g1, o1 + j, none⟩) t3).trans (t4 j hj), fun i hi => ?_⟩
          obtain ⟨z, h1, p1, c, a1, a2, a3, a4⟩ := hfr i hi
          exact ⟨h1, p1, c, (hb.cell (p := ⟨gc, oc + i, none⟩) z).trans a1, a2, fun j hj => (hb.cell (p := ⟨h1, p1 + j, none⟩) a3).trans (a4 j hj)⟩
        have HBE : Hid (Below w3.heap.size w3 w5) := HB4.out.trans (HB5.out.mono HB4.out.size)
        have HLA : Hid (Lat fa ∧ fa.length ≤ 40 ∧ w3.heap.size ≤ w3.heap.size ∧ w.heap.size ≤ w3.heap.size) := ⟨hla, hla.few, Nat.le_refl _, HBB.out.size⟩
        obtain ⟨row, hrow⟩ : ∃ row, row = (resP fa ta).getD fn [] := ⟨_, rfl⟩
        rw [← hrow] at HQQ HRT HDE
        obtain ⟨rl, hrle⟩ : ∃ rl, rl = (resP fa ta).length := ⟨_, rfl⟩
        rw [← hrle] at HQQ hfn
        have i3 : (0 : Int) ≤ (fn : Int) := by omega
        have i4 : (fn : Int) < (rl : Int) := by omega
        have i5 : (0 : Int) ≤ (vn : Int) := by omega
        have i6 : (vn : Int) < (ta.length : Int) := hv.2
        clear hf hv hx1 hx2 hx3 hrs hfr htr hla hlb hfew HT3 HP1 HP2 HP3 HPP q1 n1 hn1 t1 t3 t4 hsd hs2 hsg hrl hfl HB4 HB5 hrow hrle hck2 hck3 hfn hvn
        go_upto_region 8 with fail
        go_loopw [12, 13] (fun uv xv wr => ∃ (x : Nat) (a : Option Addr) (c : Nat), x ≤ fa.length ∧ xv = .int .i64 x ∧ uv = .slice a (edgeP fa ta row vn x).length c ∧ Hid (Below w3.heap.size w3 wr) ∧ Hid (OwnN ENat 3 w3.heap.size (fun _ => False) wr (.slice a (edgeP fa ta row vn x).length c) (edgeP fa ta row vn x))) (fun _ xv _ => fa.length - (intOf xv).toNat)
        case atStart => exact ⟨0, none, 0, by omega, by go_num, rfl, HBE.out, OwnN.nil _ _ _ _ _⟩
        case round =>
          clear HBE
          obtain ⟨x, ad0, cap0, hx, rfl, rfl, HB, HO⟩ := hrel
          by_cases hxl : x < fa.length
          · have i1 : (0 : Int) ≤ (x : Int) := by omega
            have i2 : (x : Int) < (fa.length : Int) := by omega
            obtain ⟨-, z0, -, -, -, -, -, -, -⟩ := HQQ.out wr HB.out
            obtain ⟨s6, -, -, s4, s7, r8, s5, r9, -⟩ := HQQ.out wr.drew HB.out.drew
            have hrt := HRT.out x hxl
            have s8 := r8 x hxl
            have s9 := r9 _ hrt
            obtain ⟨vv, hvv⟩ : ∃ vv, vv = Value.slice ad0 (edgeP fa ta row vn x).length cap0 := ⟨_, rfl⟩
            have HLB0 : Hid (∀ bx, bx = (ta.getD vn 0).testBit (row.getD x 0) → (bx = true ↔ bx = true ∧ ∀ p, p < 0 → ((fa.getD p 0).testBit x && (ta.getD vn 0).testBit (row.getD p 0)) = false)) := fun bx _ => ⟨fun h => ⟨h, fun p hp => by omega⟩, fun h => h.1⟩
            rw [← hvv]
            obtain ⟨rv, hrv⟩ : ∃ rv, rv = row.getD x 0 := ⟨_, rfl⟩
            rw [← hrv] at s8 s9 hrt
            obtain ⟨bx, hbx⟩ : ∃ bx, bx = (ta.getD vn 0).testBit rv := ⟨_, rfl⟩
            rw [← hbx] at s9
            have HBX : Hid (bx = (ta.getD vn 0).testBit (row.getD x 0)) := by rw [← hrv]; exact hbx
            have hS0 : (fun w' : World => w'.cell? ⟨P3, 1, none⟩ = some (.slice (some ⟨gd, od, none⟩) ta.length k3) ∧ w'.cell? ⟨gd, od + vn, none⟩ = some (.slice (some ⟨g1, o1, none⟩) ta.length cv) ∧ w'.cell? ⟨P1, 2, none⟩ = some (.slice (some ⟨g, o, none⟩) rl j1) ∧ w'.cell? ⟨g, o + fn, none⟩ = some (.slice (some ⟨g2, o2, none⟩) fa.length ci) ∧ w'.cell? ⟨g2, o2 + x, none⟩ = some (.int .i64 (rv : Int)) ∧ w'.cell? ⟨g1, o1 + rv, none⟩ = some (.bool bx)) wr.drew := ⟨s4, s5, s6, s7, s8, s9⟩
            have e41 : (0 : Int) ≤ (rv : Int) := by omega
            have e42 : (rv : Int) < (ta.length : Int) := by omega
            replace hvv : Hid (vv = Value.slice ad0 (edgeP fa ta row vn x).length cap0) := hvv
            replace HO : Hid (OwnN ENat 3 w3.heap.size (fun _ => False) wr.drew (.slice ad0 (edgeP fa ta row vn x).length cap0) (edgeP fa ta row vn x)) := HO.out.on (fun _ h => h.elim) HB.out.size ((Below.refl _ _).drew)
            clear s4 s5 s6 s7 s8 s9 r8 r9 hbx hrv
            go_upto_region 10 with fail
            clear z0
            refine wp_region_M (S := (fun w' : World => w'.cell? ⟨P3, 1, none⟩ = some (.slice (some ⟨gd, od, none⟩) ta.length k3) ∧ w'.cell? ⟨gd, od + vn, none⟩ = some (.slice (some ⟨g1, o1, none⟩) ta.length cv) ∧ w'.cell? ⟨P1, 2, none⟩ = some (.slice (some ⟨g, o, none⟩) rl j1) ∧ w'.cell? ⟨g, o + fn, none⟩ = some (.slice (some ⟨g2, o2, none⟩) fa.length ci) ∧ w'.cell? ⟨g2, o2 + x, none⟩ = some (.int .i64 (rv : Int)) ∧ w'.cell? ⟨g1, o1 + rv, none⟩ = some (.bool bx))) (L := 15) (n := 16) (by kernel_rfl) rfl (by kernel_rfl) ?_
            replace HB : Hid (Below w3.heap.size w3 wr.drew) := HB.out.drew
            generalize wr.drew = w8 at *
            refine wpAnyK_go (i := 0) (m' := 1) (some 41) (v := .pointer (some ⟨P3, 1, none⟩)) rfl rfl (by kernel_rfl) (by kernel_rfl) (by kernel_rfl) (by kernel_rfl) (by kernel_rfl) (fun _ _ _ h => h) (Or.inl ⟨by rfl, ?_⟩) hS0 ?_
            · intro w' hSw
              go_simp
            simp only [Act.put, List.setIfInBounds_toArray, List.set_cons_zero, List.set_cons_succ]
            refine wpAnyK_go (i := 1) (m' := 3) (some 42) (v := .slice (some ⟨gd, od, none⟩) ta.length k3) rfl rfl (by kernel_rfl) (by kernel_rfl) (by kernel_rfl) (by kernel_rfl) (by kernel_rfl) (fun _ _ _ h => h) (Or.inl ⟨by rfl, ?_⟩) hS0 ?_
            · intro w' hSw
              obtain ⟨s4, s5, s6, s7, s8, s9⟩ := hSw
              go_simp
            simp only [Act.put, List.setIfInBounds_toArray, List.set_cons_zero, List.set_cons_succ]
            refine wpAnyK_go (i := 2) (m' := 7) (some 43) (v := .int .i64 (vn : Int)) rfl rfl (by kernel_rfl) (by kernel_rfl) (by kernel_rfl) (by kernel_rfl) (by kernel_rfl) (fun _ _ _ h => h) (Or.inl ⟨by rfl, ?_⟩) hS0 ?_
            · intro w' hSw
              go_simp
            simp only [Act.put, List.setIfInBounds_toArray, List.set_cons_zero, List.set_cons_succ]
            refine wpAnyK_go (i := 3) (m' := 15) (some 44) (v := .pointer (some ⟨gd, od + vn, none⟩)) rfl rfl (by kernel_rfl) (by kernel_rfl) (by kernel_rfl) (by kernel_rfl) (by kernel_rfl) (fun _ _ _ h => h) (Or.inl ⟨by rfl, ?_⟩) hS0 ?_
            · intro w' hSw
              go_simp
            simp only [Act.put, List.setIfInBounds_toArray, List.set_cons_zero, List.set_cons_succ]
            refine wpAnyK_go (i := 4) (m' := 31) (some 45) (v := .slice (some ⟨g1, o1, none⟩) ta.length cv) rfl rfl (by kernel_rfl) (by kernel_rfl) (by kernel_rfl) (by kernel_rfl) (by kernel_rfl) (fun _ _ _ h => h) (Or.inl ⟨by rfl, ?_⟩) hS0 ?_
            · intro w' hSw
              obtain ⟨s4, s5, s6, s7, s8, s9⟩ := hSw
              go_simp
            simp only [Act.put, List.setIfInBounds_toArray, List.set_cons_zero, List.set_cons_succ]
            refine wpAnyK_go (i := 5) (m' := 63) (some 46) (v := .pointer (some ⟨P1, 2, none⟩)) rfl rfl (by kernel_rfl) (by kernel_rfl) (by kernel_rfl) (by kernel_rfl) (by kernel_rfl) (fun _ _ _ h => h) (Or.inl ⟨by rfl, ?_⟩) hS0 ?_
            · intro w' hSw
              go_simp
            simp only [Act.put, List.setIfInBounds_toArray, List.set_cons_zero, List.set_cons_succ]
            refine wpAnyK_go (i := 6) (m' := 127) (some 47) (v := .slice (some ⟨g, o, none⟩) rl j1) rfl rfl (by kernel_rfl) (by kernel_rfl) (by kernel_rfl) (by kernel_rfl) (by kernel_rfl) (fun _ _ _ h => h) (Or.inl ⟨by rfl, ?_⟩) hS0 ?_
            · intro w' hSw
              obtain ⟨s4, s5, s6, s7, s8, s9⟩ := hSw
              go_simp
            simp only [Act.put, List.setIfInBounds_toArray, List.set_cons_zero, List.set_cons_succ]
            refine wpAnyK_go (i := 7) (m' := 255) (some 48) (v := .int .i64 (fn : Int)) rfl rfl (by kernel_rfl) (by kernel_rfl) (by kernel_rfl) (by kernel_rfl) (by kernel_rfl) (fun _ _ _ h => h) (Or.inl ⟨by rfl, ?_⟩) hS0 ?_
            · intro w' hSw
              go_simp
            simp only [Act.put, List.setIfInBounds_toArray, List.set_cons_zero, List.set_cons_succ]
            refine wpAnyK_go (i := 8) (m' := 511) (some 49) (v := .pointer (some ⟨g, o + fn, none⟩)) rfl rfl (by kernel_rfl) (by kernel_rfl) (by kernel_rfl) (by kernel_rfl) (by kernel_rfl) (fun _ _ _ h => h) (Or.inl ⟨by rfl, ?_⟩) hS0 ?_
            · intro w' hSw
              go_simp
            simp only [Act.put, List.setIfInBounds_toArray, List.set_cons_zero, List.set_cons_succ]
            refine wpAnyK_go (i := 9) (m' := 1023) (some 50) (v := .slice (some ⟨g2, o2, none⟩) fa.length ci) rfl rfl (by kernel_rfl) (by kernel_rfl) (by kernel_rfl) (by kernel_rfl) (by kernel_rfl) (fun _ _ _ h => h) (Or.inl ⟨by rfl, ?_⟩) hS0 ?_
            · intro w' hSw
              obtain ⟨s4, s5, s6, s7, s8, s9⟩ := hSw
              go_simp
            simp only [Act.put, List.setIfInBounds_toArray, List.set_cons_zero, List.set_cons_succ]
            refine wpAnyK_go (i := 10) (m' := 2047) (some 51) (v := .int .i64 (x : Int)) rfl rfl (by kernel_rfl) (by kernel_rfl) (by kernel_rfl) (by kernel_rfl) (by kernel_rfl) (fun _ _ _ h => h) (Or.inl ⟨by rfl, ?_⟩) hS0 ?_
            · intro w' hSw
              go_simp
            simp only [Act.put, List.setIfInBounds_toArray, List.set_cons_zero, List.set_cons_succ]
            refine wpAnyK_go (i := 11) (m' := 4095) (some 52) (v := .pointer (some ⟨g2, o2 + x, none⟩)) rfl rfl (by kernel_rfl) (by kernel_rfl) (by kernel_rfl) (by kernel_rfl) (by kernel_rfl) (fun _ _ _ h => h) (Or.inl ⟨by rfl, ?_⟩) hS0 ?_
            · intro w' hSw
              go_simp
            simp only [Act.put, List.setIfInBounds_toArray, List.set_cons_zero, List.set_cons_succ]
            refine wpAnyK_go (i := 12) (m' := 8191) (some 53) (v := .int .i64 (rv : Int)) rfl rfl (by kernel_rfl) (by kernel_rfl) (by kernel_rfl) (by kernel_rfl) (by kernel_rfl) (fun _ _ _ h => h) (Or.inl ⟨by rfl, ?_⟩) hS0 ?_
            · intro w' hSw
              obtain ⟨s4, s5, s6, s7, s8, s9⟩ := hSw
              go_simp
            simp only [Act.put, List.setIfInBounds_toArray, List.set_cons_zero, List.set_cons_succ]
            refine wpAnyK_go (i := 13) (m' := 16383) (some 54) (v := .pointer (some ⟨g1, o1 + rv, none⟩)) rfl rfl (by kernel_rfl) (by kernel_rfl) (by kernel_rfl) (by kernel_rfl) (by kernel_rfl) (fun _ _ _ h => h) (Or.inl ⟨by rfl, ?_⟩) hS0 ?_
            · intro w' hSw
              go_simp
            simp only [Act.put, List.setIfInBounds_toArray, List.set_cons_zero, List.set_cons_succ]
            refine wpAnyK_go (i := 14) (m' := 32767) (some 55) (v := .bool bx) rfl rfl (by kernel_rfl) (by kernel_rfl) (by kernel_rfl) (by kernel_rfl) (by kernel_rfl) (fun _ _ _ h => h) (Or.inl ⟨by rfl, ?_⟩) hS0 ?_
            · intro w' hSw
              obtain ⟨s4, s5, s6, s7, s8, s9⟩ := hSw
              go_simp
            simp only [Act.put, List.setIfInBounds_toArray, List.set_cons_zero, List.set_cons_succ]
            refine wpAnyK_only (i := 15) (m' := 65535) (by kernel_rfl) rfl (by kernel_rfl) fun K hK => ?_
            go_simp
            refine hK.out _ _ (fun h => absurd rfl h) ?_
            clear hK K
            refine wpAnyK_done (by kernel_rfl) ?_ _
            clear hS0 e41 e42 hrt
            go_upto_region 12 with fail
            go_loopw [14, 15] (fun lv yv wr => ∃ (y : Nat) (lb : Bool), y ≤ x ∧ yv = .int .i64 y ∧ lv = .bool lb ∧ Hid (lb = true ↔ (ta.getD vn 0).testBit (row.getD x 0) = true ∧ ∀ p, p < y → ((fa.getD p 0).testBit x && (ta.getD vn 0).testBit (row.getD p 0)) = false) ∧ Hid (Below w3.heap.size w3 wr) ∧ Hid (OwnN ENat 3 w3.heap.size (fun _ => False) wr (.slice ad0 (edgeP fa ta row vn x).length cap0) (edgeP fa ta row vn x))) (fun _ yv _ => x - (intOf yv).toNat)
            case atStart => exact ⟨0, bx, Nat.zero_le _, by go_num, rfl, ⟨fun h => ⟨by rw [← HBX.out]; exact h, fun p hp => by omega⟩, fun h => by rw [HBX.out]; exact h.1⟩, HB.out, HO.out⟩
            case round =>
              clear HB HO HBX HLB0
              obtain ⟨y, lb, hy, rfl, rfl, HS, HB2, HO2⟩ := hrel
              have hff := HLA.out.2.1
              by_cases hyl : y < x
              · have hyf : y < fa.length := by omega
                obtain ⟨s6, -, s1, s4, s7, r8, s5, r9, rf⟩ := HQQ.out wr.drew HB2.out.drew
                obtain ⟨h1, p1, hc, s2, hhc, r3⟩ := rf y hyf
                have s3 := r3 x hxl
                have s8 := r8 y hyf
                have hrt := HRT.out y hyf
                have s9 := r9 _ hrt
                have HST := least_step (A := fun p => (fa.getD p 0).testBit x && (ta.getD vn 0).testBit (row.getD p 0)) HS.out
                obtain ⟨rv, hrv⟩ : ∃ rv, rv = row.getD y 0 := ⟨_, rfl⟩
                rw [← hrv] at s8 s9 hrt
                obtain ⟨bx, hbx⟩ : ∃ bx, bx = (ta.getD vn 0).testBit rv := ⟨_, rfl⟩
                obtain ⟨ba, hba⟩ : ∃ ba, ba = (fa.getD y 0).testBit x := ⟨_, rfl⟩
                rw [← hbx] at s9
                rw [← hba] at s3
                replace HST : Hid ((lb && !(ba && bx)) = true ↔ (ta.getD vn 0).testBit (row.getD x 0) = true ∧ ∀ p, p < y + 1 → ((fa.getD p 0).testBit x && (ta.getD vn 0).testBit (row.getD p 0)) = false) := by rw [hba, hbx, hrv]; exact HST
                have hS0 : (fun w' : World => w'.cell? ⟨P2, 1, none⟩ = some (.slice (some ⟨gc, oc, none⟩) fa.length k2) ∧ w'.cell? ⟨gc, oc + y, none⟩ = some (.slice (some ⟨h1, p1, none⟩) fa.length hc) ∧ w'.cell? ⟨h1, p1 + x, none⟩ = some (.bool ba) ∧ w'.cell? ⟨P3, 1, none⟩ = some (.slice (some ⟨gd, od, none⟩) ta.length k3) ∧ w'.cell? ⟨gd, od + vn, none⟩ = some (.slice (some ⟨g1, o1, none⟩) ta.length cv) ∧ w'.cell? ⟨P1, 2, none⟩ = some (.slice (some ⟨g, o, none⟩) rl j1) ∧ w'.cell? ⟨g, o + fn, none⟩ = some (.slice (some ⟨g2, o2, none⟩) fa.length ci) ∧ w'.cell? ⟨g2, o2 + y, none⟩ = some (.int .i64 (rv : Int)) ∧ w'.cell? ⟨g1, o1 + rv, none⟩ = some (.bool bx)) wr.drew := ⟨s1, s2, s3, s4, s5, s6, s7, s8, s9⟩
                have e1 : (0 : Int) ≤ (y : Int) := by omega
                have e2 : (y : Int) < (fa.length : Int) := by omega
                have e3 : (y : Int) < (x : Int) := by omega
                have e41 : (0 : Int) ≤ (rv : Int) := by omega
                have e42 : (rv : Int) < (ta.length : Int) := by omega
                clear s1 s2 s3 s4 s5 s6 s7 s8 s9 r8 r9 rf r3 hbx hba hrv hff
                go_upto_region 14 with fail
                refine wp_region_M (S := (fun w' : World => w'.cell? ⟨P2, 1, none⟩ = some (.slice (some ⟨gc, oc, none⟩) fa.length k2) ∧ w'.cell? ⟨gc, oc + y, none⟩ = some (.slice (some ⟨h1, p1, none⟩) fa.length hc) ∧ w'.cell? ⟨h1, p1 + x, none⟩ = some (.bool ba) ∧ w'.cell? ⟨P3, 1, none⟩ = some (.slice (some ⟨gd, od, none⟩) ta.length k3) ∧ w'.cell? ⟨gd, od + vn, none⟩ = some (.slice (some ⟨g1, o1, none⟩) ta.length cv) ∧ w'.cell? ⟨P1, 2, none⟩ = some (.slice (some ⟨g, o, none⟩) rl j1) ∧ w'.cell? ⟨g, o + fn, none⟩ = some (.slice (some ⟨g2, o2, none⟩) fa.length ci) ∧ w'.cell? ⟨g2, o2 + y, none⟩ = some (.int .i64 (rv : Int)) ∧ w'.cell? ⟨g1, o1 + rv, none⟩ = some (.bool bx))) (L := 25) (n := 25) (by kernel_rfl) rfl (by kernel_rfl) ?_
                replace HB2 : Hid (Below w3.heap.size w3 wr.drew) := HB2.out.drew
                replace HO2 : Hid (OwnN ENat 3 w3.heap.size (fun _ => False) wr.drew (.slice ad0 (edgeP fa ta row vn x).length cap0) (edgeP fa ta row vn x)) := HO2.out.on (fun _ h => h.elim) HB2.out.size ((Below.refl _ _).drew)
                generalize wr.drew = w8 at *
                refine wpAnyK_go (i := 0) (m' := 1) (some 61) (v := .pointer (some ⟨P2, 1, none⟩)) rfl rfl (by kernel_rfl) (by kernel_rfl) (by kernel_rfl) (by kernel_rfl) (by kernel_rfl) (fun _ _ _ h => h) (Or.inl ⟨by rfl, ?_⟩) hS0 ?_
                · intro w' hSw
                  go_simp
                simp only [Act.put, List.setIfInBounds_toArray, List.set_cons_zero, List.set_cons_succ]
                refine wpAnyK_go (i := 1) (m' := 3) (some 62) (v := .slice (some ⟨gc, oc, none⟩) fa.length k2) rfl rfl (by kernel_rfl) (by kernel_rfl) (by kernel_rfl) (by kernel_rfl) (by kernel_rfl) (fun _ _ _ h => h) (Or.inl ⟨by rfl, ?_⟩) hS0 ?_
                · intro w' hSw
                  obtain ⟨s1, s2, s3, s4, s5, s6, s7, s8, s9⟩ := hSw
                  go_simp
                simp only [Act.put, List.setIfInBounds_toArray, List.set_cons_zero, List.set_cons_succ]
                refine wpAnyK_go (i := 2) (m' := 7) (some 63) (v := .int .i64 (y : Int)) rfl rfl (by kernel_rfl) (by kernel_rfl) (by kernel_rfl) (by kernel_rfl) (by kernel_rfl) (fun _ _ _ h => h) (Or.inl ⟨by rfl, ?_⟩) hS0 ?_
                · intro w' hSw
                  go_simp
                simp only [Act.put, List.setIfInBounds_toArray, List.set_cons_zero, List.set_cons_succ]
                refine wpAnyK_go (i := 3) (m' := 15) (some 64) (v := .pointer (some ⟨gc, oc + y, none⟩)) rfl rfl (by kernel_rfl) (by kernel_rfl) (by kernel_rfl) (by kernel_rfl) (by kernel_rfl) (fun _ _ _ h => h) (Or.inl ⟨by rfl, ?_⟩) hS0 ?_
                · intro w' hSw
                  go_simp
                simp only [Act.put, List.setIfInBounds_toArray, List.set_cons_zero, List.set_cons_succ]
                refine wpAnyK_go (i := 4) (m' := 31) (some 65) (v := .slice (some ⟨h1, p1, none⟩) fa.length hc) rfl rfl (by kernel_rfl) (by kernel_rfl) (by kernel_rfl) (by kernel_rfl) (by kernel_rfl) (fun _ _ _ h => h) (Or.inl ⟨by rfl, ?_⟩) hS0 ?_
                · intro w' hSw
                  obtain ⟨s1, s2, s3, s4, s5, s6, s7, s8, s9⟩ := hSw
                  go_simp
                simp only [Act.put, List.setIfInBounds_toArray, List.set_cons_zero, List.set_cons_succ]
                refine wpAnyK_go (i := 5) (m' := 63) (some 66) (v := .int .i64 (x : Int)) rfl rfl (by kernel_rfl) (by kernel_rfl) (by kernel_rfl) (by kernel_rfl) (by kernel_rfl) (fun _ _ _ h => h) (Or.inl ⟨by rfl, ?_⟩) hS0 ?_
                · intro w' hSw
                  go_simp
                simp only [Act.put, List.setIfInBounds_toArray, List.set_cons_zero, List.set_cons_succ]
                refine wpAnyK_go (i := 6) (m' := 127) (some 67) (v := .pointer (some ⟨h1, p1 + x, none⟩)) rfl rfl (by kernel_rfl) (by kernel_rfl) (by kernel_rfl) (by kernel_rfl) (by kernel_rfl) (fun _ _ _ h => h) (Or.inl ⟨by rfl, ?_⟩) hS0 ?_
                · intro w' hSw
                  go_simp
                simp only [Act.put, List.setIfInBounds_toArray, List.set_cons_zero, List.set_cons_succ]
                refine wpAnyK_go (i := 7) (m' := 255) (some 68) (v := .bool ba) rfl rfl (by kernel_rfl) (by kernel_rfl) (by kernel_rfl) (by kernel_rfl) (by kernel_rfl) (fun _ _ _ h => h) (Or.inl ⟨by rfl, ?_⟩) hS0 ?_
                · intro w' hSw
                  obtain ⟨s1, s2, s3, s4, s5, s6, s7, s8, s9⟩ := hSw
                  go_simp
                simp only [Act.put, List.setIfInBounds_toArray, List.set_cons_zero, List.set_cons_succ]
                refine wpAnyK_go (i := 8) (m' := 511) (some 69) (v := .bool ba) rfl rfl (by kernel_rfl) (by kernel_rfl) (by kernel_rfl) (by kernel_rfl) (by kernel_rfl) (fun _ _ _ h => h) (Or.inl ⟨by rfl, ?_⟩) hS0 ?_
                · intro w' hSw
                  go_simp
                simp only [Act.put, List.setIfInBounds_toArray, List.set_cons_zero, List.set_cons_succ]
                cases ba with
                | true =>
                  refine wpAnyK_go (i := 9) (m' := 1023) (some 70) (v := .pointer (some ⟨P3, 1, none⟩)) rfl rfl (by kernel_rfl) (by kernel_rfl) (by kernel_rfl) (by kernel_rfl) (by kernel_rfl) (fun _ _ _ h => h) (Or.inl ⟨by rfl, ?_⟩) hS0 ?_
                  · intro w' hSw
                    go_simp
                  simp only [Act.put, List.setIfInBounds_toArray, List.set_cons_zero, List.set_cons_succ]
                  refine wpAnyK_go (i := 10) (m' := 2047) (some 71) (v := .slice (some ⟨gd, od, none⟩) ta.length k3) rfl rfl (by kernel_rfl) (by kernel_rfl) (by kernel_rfl) (by kernel_rfl) (by kernel_rfl) (fun _ _ _ h => h) (Or.inl ⟨by rfl, ?_⟩) hS0 ?_
                  · intro w' hSw
                    obtain ⟨s1, s2, s3, s4, s5, s6, s7, s8, s9⟩ := hSw
                    go_simp
                  simp only [Act.put, List.setIfInBounds_toArray, List.set_cons_zero, List.set_cons_succ]
                  refine wpAnyK_go (i := 11) (m' := 4095) (some 72) (v := .int .i64 (vn : Int)) rfl rfl (by kernel_rfl) (by kernel_rfl) (by kernel_rfl) (by kernel_rfl) (by kernel_rfl) (fun _ _ _ h => h) (Or.inl ⟨by rfl, ?_⟩) hS0 ?_
                  · intro w' hSw
                    go_simp
                  simp only [Act.put, List.setIfInBounds_toArray, List.set_cons_zero, List.set_cons_succ]
                  refine wpAnyK_go (i := 12) (m' := 8191) (some 73) (v := .pointer (some ⟨gd, od + vn, none⟩)) rfl rfl (by kernel_rfl) (by kernel_rfl) (by kernel_rfl) (by kernel_rfl) (by kernel_rfl) (fun _ _ _ h => h) (Or.inl ⟨by rfl, ?_⟩) hS0 ?_
                  · intro w' hSw
                    go_simp
                  simp only [Act.put, List.setIfInBounds_toArray, List.set_cons_zero, List.set_cons_succ]
                  refine wpAnyK_go (i := 13) (m' := 16383) (some 74) (v := .slice (some ⟨g1, o1, none⟩) ta.length cv) rfl rfl (by kernel_rfl) (by kernel_rfl) (by kernel_rfl) (by kernel_rfl) (by kernel_rfl) (fun _ _ _ h => h) (Or.inl ⟨by rfl, ?_⟩) hS0 ?_
                  · intro w' hSw
                    obtain ⟨s1, s2, s3, s4, s5, s6, s7, s8, s9⟩ := hSw
                    go_simp
                  simp only [Act.put, List.setIfInBounds_toArray, List.set_cons_zero, List.set_cons_succ]
                  refine wpAnyK_go (i := 14) (m' := 32767) (some 75) (v := .pointer (some ⟨P1, 2, none⟩)) rfl rfl (by kernel_rfl) (by kernel_rfl) (by kernel_rfl) (by kernel_rfl) (by kernel_rfl) (fun _ _ _ h => h) (Or.inl ⟨by rfl, ?_⟩) hS0 ?_
                  · intro w' hSw
                    go_simp
                  simp only [Act.put, List.setIfInBounds_toArray, List.set_cons_zero, List.set_cons_succ]
                  refine wpAnyK_go (i := 15) (m' := 65535) (some 76) (v := .slice (some ⟨g, o, none⟩) rl j1) rfl rfl (by kernel_rfl) (by kernel_rfl) (by kernel_rfl) (by kernel_rfl) (by kernel_rfl) (fun _ _ _ h => h) (Or.inl ⟨by rfl, ?_⟩) hS0 ?_
                  · intro w' hSw
                    obtain ⟨s1, s2, s3, s4, s5, s6, s7, s8, s9⟩ := hSw
                    go_simp
                  simp only [Act.put, List.setIfInBounds_toArray, List.set_cons_zero, List.set_cons_succ]
                  refine wpAnyK_go (i := 16) (m' := 131071) (some 77) (v := .int .i64 (fn : Int)) rfl rfl (by kernel_rfl) (by kernel_rfl) (by kernel_rfl) (by kernel_rfl) (by kernel_rfl) (fun _ _ _ h => h) (Or.inl ⟨by rfl, ?_⟩) hS0 ?_
                  · intro w' hSw
                    go_simp
                  simp only [Act.put, List.setIfInBounds_toArray, List.set_cons_zero, List.set_cons_succ]
                  refine wpAnyK_go (i := 17) (m' := 262143) (some 78) (v := .pointer (some ⟨g, o + fn, none⟩)) rfl rfl (by kernel_rfl) (by kernel_rfl) (by kernel_rfl) (by kernel_rfl) (by kernel_rfl) (fun _ _ _ h => h) (Or.inl ⟨by rfl, ?_⟩) hS0 ?_
                  · intro w' hSw
                    go_simp
                  simp only [Act.put, List.setIfInBounds_toArray, List.set_cons_zero, List.set_cons_succ]
                  refine wpAnyK_go (i := 18) (m' := 524287) (some 79) (v := .slice (some ⟨g2, o2, none⟩) fa.length ci) rfl rfl (by kernel_rfl) (by kernel_rfl) (by kernel_rfl) (by kernel_rfl) (by kernel_rfl) (fun _ _ _ h => h) (Or.inl ⟨by rfl, ?_⟩) hS0 ?_
                  · intro w' hSw
                    obtain ⟨s1, s2, s3, s4, s5, s6, s7, s8, s9⟩ := hSw
                    go_simp
                  simp only [Act.put, List.setIfInBounds_toArray, List.set_cons_zero, List.set_cons_succ]
                  refine wpAnyK_go (i := 19) (m' := 1048575) (some 80) (v := .int .i64 (y : Int)) rfl rfl (by kernel_rfl) (by kernel_rfl) (by kernel_rfl) (by kernel_rfl) (by kernel_rfl) (fun _ _ _ h => h) (Or.inl ⟨by rfl, ?_⟩) hS0 ?_
                  · intro w' hSw
                    go_simp
                  simp only [Act.put, List.setIfInBounds_toArray, List.set_cons_zero, List.set_cons_succ]
                  refine wpAnyK_go (i := 20) (m' := 2097151) (some 81) (v := .pointer (some ⟨g2, o2 + y, none⟩)) rfl rfl (by kernel_rfl) (by kernel_rfl) (by kernel_rfl) (by kernel_rfl) (by kernel_rfl) (fun _ _ _ h => h) (Or.inl ⟨by rfl, ?_⟩) hS0 ?_
                  · intro w' hSw
                    go_simp
                  simp only [Act.put, List.setIfInBounds_toArray, List.set_cons_zero, List.set_cons_succ]
                  refine wpAnyK_go (i := 21) (m' := 4194303) (some 82) (v := .int .i64 (rv : Int)) rfl rfl (by kernel_rfl) (by kernel_rfl) (by kernel_rfl) (by kernel_rfl) (by kernel_rfl) (fun _ _ _ h => h) (Or.inl ⟨by rfl, ?_⟩) hS0 ?_
                  · intro w' hSw
                    obtain ⟨s1, s2, s3, s4, s5, s6, s7, s8, s9⟩ := hSw
                    go_simp
                  simp only [Act.put, List.setIfInBounds_toArray, List.set_cons_zero, List.set_cons_succ]
                  refine wpAnyK_go (i := 22) (m' := 8388607) (some 83) (v := .pointer (some ⟨g1, o1 + rv, none⟩)) rfl rfl (by kernel_rfl) (by kernel_rfl) (by kernel_rfl) (by kernel_rfl) (by kernel_rfl) (fun _ _ _ h => h) (Or.inl ⟨by rfl, ?_⟩) hS0 ?_
                  · intro w' hSw
                    go_simp
                  simp only [Act.put, List.setIfInBounds_toArray, List.set_cons_zero, List.set_cons_succ]
                  refine wpAnyK_go (i := 23) (m' := 16777215) (some 84) (v := .bool bx) rfl rfl (by kernel_rfl) (by kernel_rfl) (by kernel_rfl) (by kernel_rfl) (by kernel_rfl) (fun _ _ _ h => h) (Or.inl ⟨by rfl, ?_⟩) hS0 ?_
                  · intro w' hSw
                    obtain ⟨s1, s2, s3, s4, s5, s6, s7, s8, s9⟩ := hSw
                    go_simp
                  simp only [Act.put, List.setIfInBounds_toArray, List.set_cons_zero, List.set_cons_succ]
                  refine wpAnyK_go (i := 24) (m' := 33554431) (some 85) (v := .bool bx) rfl rfl (by kernel_rfl) (by kernel_rfl) (by kernel_rfl) (by kernel_rfl) (by kernel_rfl) (fun _ _ _ h => h) (Or.inl ⟨by rfl, ?_⟩) hS0 ?_
                  · intro w' hSw
                    go_simp
                  simp only [Act.put, List.setIfInBounds_toArray, List.set_cons_zero, List.set_cons_succ]
                  refine wpAnyK_done (by kernel_rfl) ?_ _
                  clear hS0
                  have hff := HLA.out.2.1
                  cases bx with
                  | true =>
                    have HF : Hid (false = true ↔ (ta.getD vn 0).testBit (row.getD x 0) = true ∧ ∀ p, p < y + 1 → ((fa.getD p 0).testBit x && (ta.getD vn 0).testBit (row.getD p 0)) = false) := by
                      have := HST.out
                      rwa [show (lb && !(true && true)) = false by cases lb <;> rfl] at this
                    go_wp2
                    go_roundw
                    case rel => exact ⟨y + 1, false, hyl, by go_num, rfl, HF.out, HB2.out, HO2.out⟩
                    case measure => simp [intOf]; omega
                  | false =>
                    have HF : Hid (lb = true ↔ (ta.getD vn 0).testBit (row.getD x 0) = true ∧ ∀ p, p < y + 1 → ((fa.getD p 0).testBit x && (ta.getD vn 0).testBit (row.getD p 0)) = false) := by
                      have := HST.out
                      rwa [show (lb && !(true && false)) = lb by cases lb <;> rfl] at this
                    go_wp2
                    go_roundw
                    case rel => exact ⟨y + 1, lb, hyl, by go_num, rfl, HF.out, HB2.out, HO2.out⟩
                    case measure => simp [intOf]; omega
                | false =>
                  refine wpAnyK_go (i := 9) (m' := 1023) (some 70) (v := undef) rfl rfl (by kernel_rfl) (by kernel_rfl) (by kernel_rfl) (by kernel_rfl) (by kernel_rfl) (fun _ _ _ h => h) (Or.inr ⟨by rfl, rfl⟩) hS0 ?_
                  simp only [Act.put, List.setIfInBounds_toArray, List.set_cons_zero, List.set_cons_succ]
                  refine wpAnyK_go (i := 10) (m' := 2047) (some 71) (v := undef) rfl rfl (by kernel_rfl) (by kernel_rfl) (by kernel_rfl) (by kernel_rfl) (by kernel_rfl) (fun _ _ _ h => h) (Or.inr ⟨by rfl, rfl⟩) hS0 ?_
                  simp only [Act.put, List.setIfInBounds_toArray, List.set_cons_zero, List.set_cons_succ]
                  refine wpAnyK_go (i := 11) (m' := 4095) (some 72) (v := undef) rfl rfl (by kernel_rfl) (by kernel_rfl) (by kernel_rfl) (by kernel_rfl) (by kernel_rfl) (fun _ _ _ h => h) (Or.inr ⟨by rfl, rfl⟩) hS0 ?_
                  simp only [Act.put, List.setIfInBounds_toArray, List.set_cons_zero, List.set_cons_succ]
                  refine wpAnyK_go (i := 12) (m' := 8191) (some 73) (v := undef) rfl rfl (by kernel_rfl) (by kernel_rfl) (by kernel_rfl) (by kernel_rfl) (by kernel_rfl) (fun _ _ _ h => h) (Or.inr ⟨by rfl, rfl⟩) hS0 ?_
                  simp only [Act.put, List.setIfInBounds_toArray, List.set_cons_zero, List.set_cons_succ]
                  refine wpAnyK_go (i := 13) (m' := 16383) (some 74) (v := undef) rfl rfl (by kernel_rfl) (by kernel_rfl) (by kernel_rfl) (by kernel_rfl) (by kernel_rfl) (fun _ _ _ h => h) (Or.inr ⟨by rfl, rfl⟩) hS0 ?_
                  simp only [Act.put, List.setIfInBounds_toArray, List.set_cons_zero, List.set_cons_succ]
                  refine wpAnyK_go (i := 14) (m' := 32767) (some 75) (v := undef) rfl rfl (by kernel_rfl) (by kernel_rfl) (by kernel_rfl) (by kernel_rfl) (by kernel_rfl) (fun _ _ _ h => h) (Or.inr ⟨by rfl, rfl⟩) hS0 ?_
                  simp only [Act.put, List.setIfInBounds_toArray, List.set_cons_zero, List.set_cons_succ]
                  refine wpAnyK_go (i := 15) (m' := 65535) (some 76) (v := undef) rfl rfl (by kernel_rfl) (by kernel_rfl) (by kernel_rfl) (by kernel_rfl) (by kernel_rfl) (fun _ _ _ h => h) (Or.inr ⟨by rfl, rfl⟩) hS0 ?_
                  simp only [Act.put, List.setIfInBounds_toArray, List.set_cons_zero, List.set_cons_succ]
                  refine wpAnyK_go (i := 16) (m' := 131071) (some 77) (v := undef) rfl rfl (by kernel_rfl) (by kernel_rfl) (by kernel_rfl) (by kernel_rfl) (by kernel_rfl) (fun _ _ _ h => h) (Or.inr ⟨by rfl, rfl⟩) hS0 ?_
                  simp only [Act.put, List.setIfInBounds_toArray, List.set_cons_zero, List.set_cons_succ]
                  refine wpAnyK_go (i := 17) (m' := 262143) (some 78) (v := undef) rfl rfl (by kernel_rfl) (by kernel_rfl) (by kernel_rfl) (by kernel_rfl) (by kernel_rfl) (fun _ _ _ h => h) (Or.inr ⟨by rfl, rfl⟩) hS0 ?_
                  simp only [Act.put, List.setIfInBounds_toArray, List.set_cons_zero, List.set_cons_succ]
                  refine wpAnyK_go (i := 18) (m' := 524287) (some 79) (v := undef) rfl rfl (by kernel_rfl) (by kernel_rfl) (by kernel_rfl) (by kernel_rfl) (by kernel_rfl) (fun _ _ _ h => h) (Or.inr ⟨by rfl, rfl⟩) hS0 ?_
                  simp only [Act.put, List.setIfInBounds_toArray, List.set_cons_zero, List.set_cons_succ]
                  refine wpAnyK_go (i := 19) (m' := 1048575) (some 80) (v := undef) rfl rfl (by kernel_rfl) (by kernel_rfl) (by kernel_rfl) (by kernel_rfl) (by kernel_rfl) (fun _ _ _ h => h) (Or.inr ⟨by rfl, rfl⟩) hS0 ?_
                  simp only [Act.put, List.setIfInBounds_toArray, List.set_cons_zero, List.set_cons_succ]
                  refine wpAnyK_go (i := 20) (m' := 2097151) (some 81) (v := undef) rfl rfl (by kernel_rfl) (by kernel_rfl) (by kernel_rfl) (by kernel_rfl) (by kernel_rfl) (fun _ _ _ h => h) (Or.inr ⟨by rfl, rfl⟩) hS0 ?_
                  simp only [Act.put, List.setIfInBounds_toArray, List.set_cons_zero, List.set_cons_succ]
                  refine wpAnyK_go (i := 21) (m' := 4194303) (some 82) (v := undef) rfl rfl (by kernel_rfl) (by kernel_rfl) (by kernel_rfl) (by kernel_rfl) (by kernel_rfl) (fun _ _ _ h => h) (Or.inr ⟨by rfl, rfl⟩) hS0 ?_
                  simp only [Act.put, List.setIfInBounds_toArray, List.set_cons_zero, List.set_cons_succ]
                  refine wpAnyK_go (i := 22) (m' := 8388607) (some 83) (v := undef) rfl rfl (by kernel_rfl) (by kernel_rfl) (by kernel_rfl) (by kernel_rfl) (by kernel_rfl) (fun _ _ _ h => h) (Or.inr ⟨by rfl, rfl⟩) hS0 ?_
                  simp only [Act.put, List.setIfInBounds_toArray, List.set_cons_zero, List.set_cons_succ]
                  refine wpAnyK_go (i := 23) (m' := 16777215) (some 84) (v := undef) rfl rfl (by kernel_rfl) (by kernel_rfl) (by kernel_rfl) (by kernel_rfl) (by kernel_rfl) (fun _ _ _ h => h) (Or.inr ⟨by rfl, rfl⟩) hS0 ?_
                  simp only [Act.put, List.setIfInBounds_toArray, List.set_cons_zero, List.set_cons_succ]
                  refine wpAnyK_go (i := 24) (m' := 33554431) (some 85) (v := .bool false) rfl rfl (by kernel_rfl) (by kernel_rfl) (by kernel_rfl) (by kernel_rfl) (by kernel_rfl) (fun _ _ _ h => h) (Or.inl ⟨by rfl, ?_⟩) hS0 ?_
                  · intro w' hSw
                    go_simp
                  simp only [Act.put, List.setIfInBounds_toArray, List.set_cons_zero, List.set_cons_succ]
                  refine wpAnyK_done (by kernel_rfl) ?_ _
                  clear hS0
                  have hff := HLA.out.2.1
                  have HF : Hid (lb = true ↔ (ta.getD vn 0).testBit (row.getD x 0) = true ∧ ∀ p, p < y + 1 → ((fa.getD p 0).testBit x && (ta.getD vn 0).testBit (row.getD p 0)) = false) := by
                    have := HST.out
                    rwa [show (lb && !(false && bx)) = lb by cases lb <;> rfl] at this
                  go_wp2
                  go_roundw
                  case rel => exact ⟨y + 1, lb, hyl, by go_num, rfl, HF.out, HB2.out, HO2.out⟩
                  case measure => simp [intOf]; omega
              · obtain rfl : y = x := by omega
                have e3 : ¬ ((y : Int) < (y : Int)) := by omega
                have HE : Hid (edgeP fa ta row vn (y + 1) = if lb then edgeP fa ta row vn y ++ [y] else edgeP fa ta row vn y) := edge_next HLA.out.1 HS.out
                obtain rfl := hvv.out
                clear hvv HS
                cases lb with
                | true =>
                  have HE1 : Hid (edgeP fa ta row vn (y + 1) = edgeP fa ta row vn y ++ [y]) := HE.out
                  have HLN : Hid ((edgeP fa ta row vn y).length + 1 ≤ 10000000) := by
                    show _ ≤ _
                    have := edge_len fa ta row vn y
                    omega
                  have hBs := HB2.out.size
                  clear HE
                  go_upto_region 17 with fail
                  go_wp2_with (at_builtin; refine wpList_append_N1 (E := ENat) (cs := [.int .i64 (y : Int)]) (p := y) Tryz.ty28 rfl _ _ rfl rfl HO2.out (fun _ h => h.elim) hBs (Below.refl _ _) rfl rfl (Nat.le_refl _) HLN.out ?_; intro v9 w9 O5 B5 N5; obtain ⟨a5, c5, rfl⟩ := O5.len; have HO5 : Hid (OwnN ENat 3 w3.heap.size (fun _ => False) w9 (.slice a5 (edgeP fa ta row vn y ++ [y]).length c5) (edgeP fa ta row vn y ++ [y])) := O5; have HB5 : Hid (Below w3.heap.size w3 w9) := HB2.out.trans B5; clear O5 B5 N5)
                  go_roundw
                  case rel => exact ⟨y + 1, a5, c5, hxl, by go_num, by rw [HE1.out, List.length_append]; rfl, HB5.out, by rw [HE1.out]; exact HO5.out⟩
                  case measure => simp [intOf]; omega
                | false =>
                  have HE1 : Hid (edgeP fa ta row vn (y + 1) = edgeP fa ta row vn y) := HE.out
                  clear HE
                  go_wp2
                  go_roundw
                  case rel => exact ⟨y + 1, ad0, cap0, hxl, by go_num, by rw [HE1.out], HB2.out, by rw [HE1.out]; exact HO2.out⟩
                  case measure => simp [intOf]; omega
          · obtain rfl : x = fa.length := by omega
            have e3 : ¬ ((fa.length : Int) < (fa.length : Int)) := by omega
            obtain ⟨-, z0, -, -, -, -, -, -, -⟩ := HQQ.out wr HB.out
            go_wp2
            refine bodyPost_ret (v := .tuple #[.slice ad0 (edgeP fa ta row vn fa.length).length cap0, .int .i64 0]) (by simp [results, Tryz.results30, go_sem]) rfl ?_
            rw [HDE.out]
            exact ⟨ad0, cap0, rfl, HBB.out.trans (HB.out.mono HBB.out.size), HO.out.less HLA.out.2.2.2⟩
      · rw [decide_eq_false hv] at CX
        rw [if_neg (fun q => hv q.2.2)] at HDE
        clear hf hv hx1 hx2 hx3 hrs hfr htr
        go_wp2_with (first | (go_at_call 38; have ZZ := HB4; (with_reducible refine Calls.mono (CX.out w4) ?_); rintro e' w5 ⟨rfl, HB5⟩) | (go_at_call 38; (with_reducible refine Calls.mono CF ?_); rintro e' w4 ⟨rfl, HB4⟩; have hL4 := HPP.out w4 HB4.out; have y3 : w4.cell? ⟨P3, 0, none⟩ = some (.int .i64 (ta.length : Int)) := heap_cl hL4 rfl; have y4 : w4.cell? ⟨P3, 1, none⟩ = some (.slice (some ⟨gd, od, none⟩) ta.length k3) := heap_cl hL4 rfl; have y5 : w4.cell? ⟨P3, 2, none⟩ = some (.slice b3 m3 j3) := heap_cl hL4 rfl; clear hL4))
        refine bodyPost_ret (v := .tuple #[.slice none 0 0, .int .i64 141]) (by simp [results, Tryz.results30, go_sem]) rfl ?_
        rw [HDE.out]
        exact EdPost.no (HBB.out.trans ((HB4.out.trans (HB5.out.mono HB4.out.size)).mono HBB.out.size))
    · rw [decide_eq_false hf] at CF
      rw [if_neg (fun q => hf ⟨q.1, q.2.1⟩)] at HDE
      clear hf hx1 hx2 hx3 hrs hfr htr
      go_wp2_with (first | (go_at_call 38; (with_reducible refine Calls.mono CF ?_); rintro e' w4 ⟨rfl, HB4⟩))
      refine bodyPost_ret (v := .tuple #[.slice none 0 0, .int .i64 141]) (by simp [results, Tryz.results30, go_sem]) rfl ?_
      rw [HDE.out]
      exact EdPost.no (HBB.out.trans (HB4.out.mono HBB.out.size))
end Go.Proofs.YtgdflaapgfpdeaaGreatDoor
