/- TypesOne answers true, whatever types it is handed. -/
import Derived.Test.YthcejnpknjepfaaGreatDoorMk
import Derived.Test.YthcejnpknjepfaaGreatDoorCr
namespace Go.Proofs.YthcejnpknjepfaaGreatDoor
open Go.RowKit

theorem canon_rd (d : Nat) (x : Value) (t : Tn d) (w : World) (hx : TyAt w w.heap.size d x t) (hN : (flat d t).length ≤ 4194304) :
    Calls Tryz.prog 9 #[x] w fun r w' => Below w.heap.size w w' ∧ ∃ (k : Int) (n : ByteArray) (ad : Option Addr) (len cap d' : Nat) (t' : Tn d'), r = .returned (.tuple #[.agg #[.int .i64 k, .string n, .slice ad len cap], .int .i64 (wrongT d t)]) ∧ TyAt w' w'.heap.size d' (.agg #[.int .i64 k, .string n, .slice ad len cap]) t' ∧ flat d' t' = canonF d t := by
  refine Calls.mono (canons_any d x t w w.heap.size (Nat.le_refl _) hx hN) ?_
  rintro r w' ⟨hb, k, n, ad, len, cap, d', t', rws, rfl, hO, hS, _, _, hf⟩
  exact ⟨hb, k, n, ad, len, cap, d', t', rfl, TyO.at _ _ _ _ (fun p hp g hg => by obtain ⟨g', e1, e2⟩ := hS.1 p hp; rw [e1] at hg; exact Option.some.inj hg ▸ e2) hO, hf⟩
/-- What Instance answers, as it can be read. -/
theorem inst_rd (d : Nat) (t : Tn d) (e : Nat) (u : Tn e) (x y : Value) (w : World) (hx : TyAt w w.heap.size d x t) (hy : TyAt w w.heap.size e y u) (h1 : wrongT d t = 0) (h2 : wrongT e u = 0) :
    Calls Tryz.prog 16 #[x, y] w fun r w' => Below w.heap.size w w' ∧ ∃ (va : Option Addr) (vl vc : Nat) (bs : List Bd), r = .returned (.tuple #[.slice va vl vc, .bool (instR d t e u).2, .int .i64 0]) ∧ BdAt w' w'.heap.size (.slice va vl vc) bs ∧ bs.length ≤ 500 ∧ (bs.map (·.1)).Nodup ∧ (∀ x ∈ bs, varB x.1 = true ∧ wrongT x.2.1 x.2.2 = 0) ∧ (flat d t).length + ((namesT d t).map (moreN bs)).sum ≤ 500 ∧ ((instR d t e u).2 = true → subF (bdRow bs) (flat d t) = flat e u) := by
  obtain ⟨hf, hl⟩ := wrong_zero h1
  obtain ⟨hg, hm⟩ := wrong_zero h2
  have hw : wrongs [⟨d, t⟩, ⟨e, u⟩] = 0 := by
    unfold wrongs
    rw [if_pos h1]
    unfold wrongs
    rw [if_pos h2]
    rfl
  refine Calls.mono (instance_any d t e u x y w w.heap.size (Nat.le_refl _) hx hy (by omega) (by omega)) ?_
  rintro r w' ⟨hb, v, es, bs, rss, rfl, hrow, hcase⟩
  rw [hw] at hcase ⊢
  simp only [decide_true, Bool.true_and] at hcase ⊢
  obtain ⟨va, vc, rfl⟩ := row_form4 hrow
  have hkey : bs.length ≤ 500 ∧ (bs.map (·.1)).Nodup ∧ (∀ x ∈ bs, varB x.1 = true ∧ wrongT x.2.1 x.2.2 = 0) ∧ (flat d t).length + ((namesT d t).map (moreN bs)).sum ≤ 500 ∧ ((instR d t e u).2 = true → subF (bdRow bs) (flat d t) = flat e u) := by
    rcases hcase with ⟨h0, _, rfl⟩ | ⟨h0, ks, k1, k2, k3, k4, k5⟩
    · refine ⟨by simp, List.nodup_nil, fun x hx => (by cases hx), ?_, fun h => by rw [h0] at h; cases h⟩
      have : ∀ l : List (List UInt8), (l.map (moreN [])).sum = 0 := fun l => by
        induction l with
        | nil => rfl
        | cons a r ih => rw [List.map_cons, List.sum_cons, ih]; rfl
      rw [this]
      omega
    · obtain ⟨c1, c2, c3, c4, c5⟩ := inst_apply hf hg hm h0 k1 k2 k3 k4 k5
      exact ⟨c1, c2, c3, c4, fun _ => c5⟩
  exact ⟨hb, va, es.length, vc, bs, rfl, hrow.at (by have := hkey.1; omega), hkey⟩
set_option maxHeartbeats 16000000 in
set_option maxRecDepth 10000 in
theorem one_small (hA : Wakes) (d d2 : Nat) (t : Tn d) (s : Tn d2) (k k' : Int) (n n' : ByteArray) (ad ad' : Option Addr) (len len' cap cap' : Nat) (w : World) (h : TyAt w w.heap.size d (.agg #[.int .i64 k, .string n, .slice ad len cap]) t) (h' : TyAt w w.heap.size d2 (.agg #[.int .i64 k', .string n', .slice ad' len' cap']) s) (hg : greatT d t = false) (hg' : greatT d2 s = false) :
    Calls Tryz.prog 4 #[.agg #[.int .i64 k, .string n, .slice ad len cap], .agg #[.int .i64 k', .string n', .slice ad' len' cap']] w fun r w' => r = .returned (.bool true) ∧ Below w.heap.size w w' := by
  have CA : ∀ w : World, Calls Tryz.prog 6 #[] w fun r w' => r = .returned (.bool true) ∧ Below w.heap.size w w' := hA
  have HN : Hid ((flat d t).length ≤ 4194304 ∧ (flat d2 s).length ≤ 4194304) := ⟨great_nodes hg, great_nodes hg'⟩
  obtain ⟨V, hV, hbV, X0⟩ := Bx.new h
  obtain ⟨W, hW, hbW, X1⟩ := Bx.new (TyAt.below hbV hbV.size _ _ _ h')
  have X0 := X0.on hbW
  have hsV : V.heap.size = w.heap.size + 1 := by rw [hV]; simp
  rw [hsV] at X1
  have HB : Hid (Below w.heap.size w W) := hbV.trans (hbW.mono hbV.size)
  have CG := great_any _ _ t W X0.tree
  rw [hg] at CG
  have hWe : W = (w.alloc (Obj.cells #[.int .i64 k, .string n, .slice ad len cap] 24)).alloc (Obj.cells #[.int .i64 k', .string n', .slice ad' len' cap'] 24) := by rw [hW, hV]
  clear hW hV hbV hbW hsV h h' hA hg
  go_enter Tryz.func4, Tryz.ntmps4
  go_upto_region 1 with fail
  rw [← hWe]
  generalize hz : w.heap.size = z at X0 X1 ⊢
  clear hWe hz
  obtain ⟨x0, x1, x2⟩ : _ ∧ _ ∧ _ := ⟨X0.c0, X0.c1, X0.c2⟩
  go_upto_region 2 with (go_at_call 5; (with_reducible refine Calls.mono CG ?_); rintro e' w1 ⟨rfl, hb⟩)
  clear CG x0 x1 x2
  have X0 := X0.on hb
  have X1 := X1.on hb
  have HB := HB.out.trans (hb.mono HB.out.size)
  have HB : Hid (Below w.heap.size w w1) := HB
  clear hb
  have CG := great_any _ _ s w1 X1.tree
  rw [hg'] at CG
  obtain ⟨x0, x1, x2⟩ : _ ∧ _ ∧ _ := ⟨X1.c0, X1.c1, X1.c2⟩
  go_upto_region 5 with (go_at_call 5; (with_reducible refine Calls.mono CG ?_); rintro e' w2 ⟨rfl, hb⟩)
  clear CG x0 x1 x2 hg'
  have X0 := X0.on hb
  have X1 := X1.on hb
  have HB := HB.out.trans (hb.mono HB.out.size)
  have HB : Hid (Below w.heap.size w w2) := HB
  clear hb
  go_upto_region 6 with (go_at_call 6; (with_reducible refine Calls.mono (CA _) ?_); rintro e' w3 ⟨rfl, hb⟩)
  clear CA
  have X0 := X0.on hb
  have X1 := X1.on hb
  have HB := HB.out.trans (hb.mono HB.out.size)
  have HB : Hid (Below w.heap.size w w3) := HB
  clear hb
  have CC := canon_rd _ _ t w3 X0.tree HN.out.1
  obtain ⟨x0, x1, x2⟩ : _ ∧ _ ∧ _ := ⟨X0.c0, X0.c1, X0.c2⟩
  go_upto_region 7 with (go_at_call 9; (with_reducible refine Calls.mono CC ?_); intro e' w5 hpost; obtain ⟨hb4, k5, n5, a5, l5, c5, d5, t5, rfl, TT, E5r⟩ := hpost)
  clear CC x0 x1 x2
  obtain ⟨U5, hU, hbU, X2⟩ := Bx.new TT
  rw [← hU]
  have hb : Below w3.heap.size w3 U5 := hb4.trans (hbU.mono hb4.size)
  have E5 : Hid (flat d5 t5 = canonF _ t) := E5r
  clear hU hbU hb4 TT E5r
  have X0 := X0.on hb
  have X1 := X1.on hb
  have HB := HB.out.trans (hb.mono HB.out.size)
  have HB : Hid (Below w.heap.size w U5) := HB
  clear hb
  generalize w5.heap.size = z5 at X2 ⊢
  have CC := canon_rd _ _ s U5 X1.tree HN.out.2
  obtain ⟨x0, x1, x2⟩ : _ ∧ _ ∧ _ := ⟨X1.c0, X1.c1, X1.c2⟩
  go_upto_region 8 with (go_at_call 9; (with_reducible refine Calls.mono CC ?_); intro e' w6 hpost; obtain ⟨hb4, k6, n6, a6, l6, c6, d6, t6, rfl, TT, E6r⟩ := hpost)
  clear CC x0 x1 x2
  obtain ⟨U6, hU, hbU, X3⟩ := Bx.new TT
  rw [← hU]
  have hb : Below U5.heap.size U5 U6 := hb4.trans (hbU.mono hb4.size)
  have E6 : Hid (flat d6 t6 = canonF _ s) := E6r
  clear hU hbU hb4 TT E6r
  have X0 := X0.on hb
  have X1 := X1.on hb
  have X2 := X2.on hb
  have HB := HB.out.trans (hb.mono HB.out.size)
  have HB : Hid (Below w.heap.size w U6) := HB
  clear hb
  generalize w6.heap.size = z6 at X3 ⊢
  by_cases he : wrongT d t = 0
  · by_cases hf : wrongT d2 s = 0
    · rw [he, hf]
      obtain ⟨hF, hL⟩ := wrong_zero he
      obtain ⟨hG, hM⟩ := wrong_zero hf
      have F5 : flat d5 t5 = canL (flat d t) := by
        rw [E5.out, canonF, if_neg (by simpa using he), canon_row d t hF]
      have F6 : flat d6 t6 = canL (flat d2 s) := by
        rw [E6.out, canonF, if_neg (by simpa using hf), canon_row d2 s hG]
      have L5 : (flat d5 t5).length ≤ 500 := by
        rw [F5]
        unfold canL
        rw [List.length_map]
        exact hL
      have G5 : formB d5 t5 = true := by
        have e0 : flat d5 t5 = flat d (canonT d t) := by rw [E5.out, canonF, if_neg (by simpa using he)]
        rw [(flat_same _ _ _ _ e0).1]
        exact named_form d t [] hF (by simp; omega)
      have hw5 : wrongT d5 t5 = 0 := by
        unfold wrongT
        rw [if_pos G5, if_neg (by omega)]
      have HW : Hid (wrongT d t = 0 ∧ wrongT d2 s = 0) := ⟨he, hf⟩
      have H56 : Hid (decide (flat d5 t5 = flat d6 t6) = ((instR d t d2 s).2 && (instR d2 s d t).2)) := by
        show _ = _
        rw [F5, F6]
        exact one_plain hF hG hL hM
      have H5 : Hid (flat d5 (canonT d5 t5) = flat d5 t5 ∧ wrongT d5 t5 = 0 ∧ (flat d5 t5).length ≤ 4194304) := ⟨by rw [canon_row d5 t5 G5, F5, can_can _ hL], hw5, by omega⟩
      clear E5 E6 F5 F6 L5 G5 hw5 hF hL hG hM he hf
      have CC := canon_rd _ _ t5 U6 X2.tree H5.out.2.2
      rw [H5.out.2.1] at CC
      obtain ⟨x0, x1, x2⟩ : _ ∧ _ ∧ _ := ⟨X2.c0, X2.c1, X2.c2⟩
      go_upto_region 11 with (go_at_call 9; (with_reducible refine Calls.mono CC ?_); intro e' w7 hpost; obtain ⟨hb4, k7, n7, a7, l7, c7, d7, t7, rfl, TT, E7r⟩ := hpost)
      clear CC x0 x1 x2
      obtain ⟨U7, hU, hbU, X4⟩ := Bx.new TT
      rw [← hU]
      have hb : Below U6.heap.size U6 U7 := hb4.trans (hbU.mono hb4.size)
      have E7 : Hid (decide (flat d7 t7 = flat d5 t5) = true) := by
        show _ = _
        rw [E7r, canonF, if_neg (by simpa using H5.out.2.1), H5.out.1]
        simp
      clear hU hbU hb4 TT E7r
      have X0 := X0.on hb
      have X1 := X1.on hb
      have X2 := X2.on hb
      have X3 := X3.on hb
      have HB := HB.out.trans (hb.mono HB.out.size)
      have HB : Hid (Below w.heap.size w U7) := HB
      clear hb
      generalize w7.heap.size = z7 at X4 ⊢
      have CI := inst_rd d t d2 s _ _ U7 X0.tree X1.tree HW.out.1 HW.out.2
      obtain ⟨x0, x1, x2⟩ : _ ∧ _ ∧ _ := ⟨X0.c0, X0.c1, X0.c2⟩
      obtain ⟨y0, y1, y2⟩ : _ ∧ _ ∧ _ := ⟨X1.c0, X1.c1, X1.c2⟩
      go_upto_region 12 with (go_at_call 16; (with_reducible refine Calls.mono CI ?_); intro e' w8 hpost; obtain ⟨hb, va, vl, vc, bs, rfl, HBD⟩ := hpost)
      have HBD : Hid (BdAt w8 w8.heap.size (.slice va vl vc) bs ∧ bs.length ≤ 500 ∧ (bs.map (·.1)).Nodup ∧ (∀ x ∈ bs, varB x.1 = true ∧ wrongT x.2.1 x.2.2 = 0) ∧ (flat d t).length + ((namesT d t).map (moreN bs)).sum ≤ 500 ∧ ((instR d t d2 s).2 = true → subF (bdRow bs) (flat d t) = flat d2 s)) := HBD
      clear CI x0 x1 x2 y0 y1 y2
      have X0 := X0.on hb
      have X1 := X1.on hb
      have X2 := X2.on hb
      have X3 := X3.on hb
      have X4 := X4.on hb
      have HB := HB.out.trans (hb.mono HB.out.size)
      have HB : Hid (Below w.heap.size w w8) := HB
      clear hb
      have CI := inst_rd d2 s d t _ _ w8 X1.tree X0.tree HW.out.2 HW.out.1
      obtain ⟨x0, x1, x2⟩ : _ ∧ _ ∧ _ := ⟨X0.c0, X0.c1, X0.c2⟩
      obtain ⟨y0, y1, y2⟩ : _ ∧ _ ∧ _ := ⟨X1.c0, X1.c1, X1.c2⟩
      go_upto_region 13 with (go_at_call 16; (with_reducible refine Calls.mono CI ?_); intro e' w9 hpost; obtain ⟨hb, va2, vl2, vc2, bs2, rfl, _⟩ := hpost)
      have HBD : Hid (BdAt w9 w9.heap.size (.slice va vl vc) bs ∧ bs.length ≤ 500 ∧ (bs.map (·.1)).Nodup ∧ (∀ x ∈ bs, varB x.1 = true ∧ wrongT x.2.1 x.2.2 = 0) ∧ (flat d t).length + ((namesT d t).map (moreN bs)).sum ≤ 500 ∧ ((instR d t d2 s).2 = true → subF (bdRow bs) (flat d t) = flat d2 s)) := ⟨HBD.out.1.below hb hb.size, HBD.out.2⟩
      clear CI x0 x1 x2 y0 y1 y2
      have X0 := X0.on hb
      have X1 := X1.on hb
      have X2 := X2.on hb
      have X3 := X3.on hb
      have X4 := X4.on hb
      have HB := HB.out.trans (hb.mono HB.out.size)
      have HB : Hid (Below w.heap.size w w9) := HB
      clear hb
      have CP := apply_ok (.slice va vl vc) bs d _ t w9 w9.heap.size (Nat.le_refl _) HBD.out.1 X0.tree HBD.out.2.1 HBD.out.2.2.1 HBD.out.2.2.2.1 HW.out.1 HBD.out.2.2.2.2.1
      obtain ⟨x0, x1, x2⟩ : _ ∧ _ ∧ _ := ⟨X0.c0, X0.c1, X0.c2⟩
      go_upto_region 14 with (go_at_call 17; (with_reducible refine Calls.mono CP ?_); intro e' w10 hpost; obtain ⟨hb4, k8, n8, a8, l8, c8, d8, t8, rfl, TT, E8r⟩ := hpost)
      clear CP x0 x1 x2
      obtain ⟨U8, hU, hbU, X5⟩ := Bx.new TT
      rw [← hU]
      have hb : Below w9.heap.size w9 U8 := hb4.trans (hbU.mono hb4.size)
      have E8 : Hid ((instR d t d2 s).2 = true → decide (flat d8 t8 = flat d2 s) = true) := fun h => by
        rw [E8r, HBD.out.2.2.2.2.2 h]
        simp
      clear hU hbU hb4 TT HBD E8r
      have X0 := X0.on hb
      have X1 := X1.on hb
      have X2 := X2.on hb
      have X3 := X3.on hb
      have X4 := X4.on hb
      have HB := HB.out.trans (hb.mono HB.out.size)
      have HB : Hid (Below w.heap.size w U8) := HB
      clear hb
      generalize w10.heap.size = z8 at X5 ⊢
      generalize (instR d t d2 s).2 = O1 at *
      generalize (instR d2 s d t).2 = O2 at *
      have CS := same_any _ _ _ _ t7 t5 U8 U8.heap.size (Nat.le_refl _) X4.tree X2.tree
      obtain ⟨x0, x1, x2⟩ : _ ∧ _ ∧ _ := ⟨X4.c0, X4.c1, X4.c2⟩
      obtain ⟨y0, y1, y2⟩ : _ ∧ _ ∧ _ := ⟨X2.c0, X2.c1, X2.c2⟩
      go_upto_region 15 with (go_at_call 13; (with_reducible refine Calls.mono CS ?_); rintro e' s1 ⟨rfl, hb⟩)
      clear CS x0 x1 x2 y0 y1 y2
      have X0 := X0.on hb
      have X1 := X1.on hb
      have X2 := X2.on hb
      have X3 := X3.on hb
      have X4 := X4.on hb
      have X5 := X5.on hb
      have HB := HB.out.trans (hb.mono HB.out.size)
      have HB : Hid (Below w.heap.size w s1) := HB
      clear hb
      have CS := same_any _ _ _ _ t5 t6 s1 s1.heap.size (Nat.le_refl _) X2.tree X3.tree
      obtain ⟨x0, x1, x2⟩ : _ ∧ _ ∧ _ := ⟨X2.c0, X2.c1, X2.c2⟩
      obtain ⟨y0, y1, y2⟩ : _ ∧ _ ∧ _ := ⟨X3.c0, X3.c1, X3.c2⟩
      go_upto_region 16 with (go_at_call 13; (with_reducible refine Calls.mono CS ?_); rintro e' s2 ⟨rfl, hb⟩)
      clear CS x0 x1 x2 y0 y1 y2
      have X0 := X0.on hb
      have X1 := X1.on hb
      have X2 := X2.on hb
      have X3 := X3.on hb
      have X4 := X4.on hb
      have X5 := X5.on hb
      have HB := HB.out.trans (hb.mono HB.out.size)
      have HB : Hid (Below w.heap.size w s2) := HB
      clear hb
      have CS := same_any _ _ _ _ t8 s s2 s2.heap.size (Nat.le_refl _) X5.tree X1.tree
      obtain ⟨x0, x1, x2⟩ : _ ∧ _ ∧ _ := ⟨X5.c0, X5.c1, X5.c2⟩
      obtain ⟨y0, y1, y2⟩ : _ ∧ _ ∧ _ := ⟨X1.c0, X1.c1, X1.c2⟩
      go_upto_region 17 with (go_at_call 13; (with_reducible refine Calls.mono CS ?_); rintro e' s3 ⟨rfl, hb⟩)
      clear CS x0 x1 x2 y0 y1 y2
      have HB := HB.out.trans (hb.mono HB.out.size)
      have HB : Hid (Below w.heap.size w s3) := HB
      clear hb
      have h1 := E7.out
      have h2 := H56.out
      have h3 := E8.out
      generalize decide (flat d7 t7 = flat d5 t5) = b1 at h1 ⊢
      generalize decide (flat d5 t5 = flat d6 t6) = b2 at h2 ⊢
      generalize decide (flat d8 t8 = flat d2 s) = b3 at h3 ⊢
      subst h1 h2
      clear X0 X1 X2 X3 X4 X5 E7 H56 E8 H5 HW HN
      cases O1 with
      | true =>
        have h3 := h3 rfl
        subst h3
        cases O2 with
        | true =>
          go_wp2
          go_ret
          exact ⟨rfl, HB.out⟩
        | false =>
          go_wp2
          go_ret
          exact ⟨rfl, HB.out⟩
      | false =>
        clear h3
        go_wp2
        go_ret
        exact ⟨rfl, HB.out⟩
    · have hneb : (wrongT d2 s != 0) = true := by simpa using hf
      rw [he]
      generalize wrongT d2 s = F2 at *
      clear X0 X1 X2 X3 E5 E6 HN hf
      go_wp2
      go_ret
      exact ⟨rfl, HB.out⟩
  · have hneb : (wrongT d t != 0) = true := by simpa using he
    generalize wrongT d t = F1 at *
    generalize wrongT d2 s = F2 at *
    clear X0 X1 X2 X3 E5 E6 HN he
    go_wp2
    go_ret
    exact ⟨rfl, HB.out⟩
end Go.Proofs.YthcejnpknjepfaaGreatDoor
