/- The board: the contract of lay. The board: the contract of out. -/
import Derived.Test.YtikpipenhamdbaaGreatMaox
import Derived.Test.YtikpipenhamdbaaGreatMapx
namespace Go.Proofs.YtikpipenhamdbaaGreat
open Go.RowKit Go.Maps

/-- What lay answers. -/
def BLayP (lo G : Nat) (N : List (List UInt8)) (L : List (List UInt8 × List Nd)) (row : List Nd) (w : World) (R : Nat → Prop) (tn : Nat) (xs : List Px) (dp : Nat → List Nd) (e : Ending) (w' : World) : Prop :=
 ∃ k : Nat, e = .returned (.int .i64 k) ∧ Bk lo G w w' ∧ ∃ (ys : List Px) (dn' : Nat → List Nd) (rt' rk' : Nat → Nat) (dp' : Nat → List Nd), BXR w' lo G R ys N tn ∧ Bn ys N tn dn' rt' rk' dp' L ∧ k < ys.length ∧ dp' k = subL L row ∧ xs.length ≤ ys.length ∧ ys.length ≤ xs.length + row.length ∧ ∀ j, j < xs.length → dp' j = dp j
/-- What a call of lay does. -/
def BLay (w0 : World) (lo G : Nat) (N : List (List UInt8)) (L : List (List UInt8 × List Nd)) (x : Value) (row : List Nd) : Prop :=
 ∀ (w : World) (R : Nat → Prop) (tn : Nat) (xs : List Px) (dn : Nat → List Nd) (rt rk : Nat → Nat) (dp : Nat → List Nd), Below lo w0 w → (∀ g, R g → g < w.heap.size) → BXR w lo G R xs N tn → Bn xs N tn dn rt rk dp L → xs.length + row.length ≤ 200000000 → (∀ n, ((2, n, 0) : Nd) ∈ row → n ∈ N) →
  Calls Tryz.prog 56 #[.pointer (some ⟨G, 0, none⟩), x] w (BLayP lo G N L row w R tn xs dp)
set_option maxHeartbeats 8000000 in
set_option maxRecDepth 10000 in
theorem blay_var {lo G : Nat} {N : List (List UInt8)} {L : List (List UInt8 × List Nd)} (hs : N.Pairwise (fun a b => a < b)) (w0 : World) (d : Nat) (n : List UInt8) (x : Value) (hx : TyAt w0 lo (d + 1) x ((2, n), [])) : BLay w0 lo G N L x [(2, n, 0)] := by
 intro w R tn xs dn rt rk dp hb0 hR hX hM hnum hN
 obtain ⟨v, hx, hnl, htl, hr⟩ := hx
 simp only at hx hnl htl hr
 subst hx
 obtain ⟨ad, cap, rfl⟩ := hr.len
 obtain ⟨q, hq, hqn⟩ := List.getElem_of_mem (hN n List.mem_cons_self)
 have hl := hX.bx.num
 have hnv := hM.nv
 obtain ⟨W, hW, hbW, hsW, b0, b1, b2⟩ := cells_box w (.int .i64 2) (.string ⟨n.toArray⟩) (.slice ad 0 cap) 29
 have hXW := hX.below hbW
 have CN := number_any hXW.bx hs (by omega) q hq
 rw [hqn] at CN
 obtain ⟨va, vc, c2, hv⟩ := hXW.bx.vars
 obtain ⟨gv, rfl, hcp, hcell⟩ := hv (by intro e; rw [e] at hq; simp at hq)
 have c3 := hcell q hq
 have i1 : (0 : Int) ≤ (q : Int) := by omega
 have i2 : (q : Int) < (N.length : Int) := by omega
 have HF : Hid (BLayP lo G N L [(2, n, 0)] w R tn xs dp (.returned (.int .i64 (q : Nat))) W) := by
  refine ⟨q, rfl, Bk.of_below hbW hl.2.1 hl.2.2.1, xs, dn, rt, rk, dp, hXW, hM, by omega, ?_, Nat.le_refl _, by omega, fun _ _ => rfl⟩
  rw [hM.val q hq, hqn]
 clear hX hXW hM hN hs hcell hv hnum hR hb0
 go_enter Tryz.func56, Tryz.ntmps56
 go_upto_region 1 with fail
 rw [← hW]
 clear hW
 go_wp2_with (go_at_call 78; (with_reducible refine Calls.mono CN ?_); rintro e' w1 ⟨rfl, rfl⟩)
 go_ret
 exact HF.out
/-- A row that is new since has grown. -/
theorem Bk.grown {lo G m : Nat} {w0 w W3 : World} {av : Value} {cs : List Value} {o : Obj} (h : Bk lo G w0 w) (hav : w.ownsRow w0.heap.size 3 1 av m cs) (hg : (w.alloc o).grownBy W3 av.ownBlock) (hG : G < w0.heap.size) (hlo : lo ≤ w0.heap.size) : Bk lo G w0 W3 := by
 have hs := h.size
 have kb : ∀ k, k < w0.heap.size → W3.heap[k]? = w.heap[k]? := fun k hk => by
  rw [hg.block k (by simp; omega) (fun e => by have := (hav.lt k e.symm).1; omega)]
  exact Below.heap_alloc _ _ _ (by omega)
 refine ⟨hg.os.trans h.os, hg.tape.trans h.tape, hg.output.trans h.output, by have h1 := hg.size; simp at h1; omega, fun k hk => (kb k (by omega)).trans (h.low k hk), fun k o h1 h2 h3 => (kb k (lt_of_heap h1)).trans (h.keep k o h1 h2 h3), fun k q => ?_⟩
 rw [pb_same (kb G hG)] at q
 exact h.move k q
/-- Between the rounds of lay. -/
structure BlW (w wr : World) (lo G z : Nat) (hd : Array Value) (R : Nat → Prop) (tn : Nat) (N : List (List UInt8)) (L : List (List UInt8 × List Nd)) (d : Nat) (ts : List (Tn d)) (xs : List Px) (dp : Nat → List Nd) (av : Value) (j : Nat) : Prop where
 bk : Bk lo G w wr
 box : wr.heap[z]? = some (.cells hd 29 (0, 0))
 ex : ∃ (cs : List Nat) (ys : List Px) (dn' : Nat → List Nd) (rt' rk' : Nat → Nat) (dp' : Nat → List Nd), wr.ownsRow w.heap.size 3 1 av cs.length (intsV cs) ∧ BXR wr lo G (fun g => av.ownBlock = some g ∨ R g) ys N tn ∧ Bn ys N tn dn' rt' rk' dp' L ∧ xs.length ≤ ys.length ∧ ys.length ≤ xs.length + (flats d (ts.take j)).length ∧ (∀ i, i < xs.length → dp' i = dp i) ∧ cs.length = j ∧ ∀ i (h : i < cs.length) (h' : i < ts.length), cs[i] < ys.length ∧ dp' cs[i] = subL L (flat d ts[i])
theorem Tryz.info128 : (Tryz.prog.info? 128).map (fun i => (i.zero, i.size, i.bytes)) = some (some (.agg #[.int .i64 0, .string ⟨#[]⟩, .slice none 0 0, .int .i64 0, .int .i64 0, .int .i64 0]), 6, 72) := by kernel_rfl
set_option maxHeartbeats 16000000 in
set_option maxRecDepth 10000 in
theorem blay_node {lo G : Nat} {N : List (List UInt8)} {L : List (List UInt8 × List Nd)} (w0 : World) (d : Nat) (IH : ∀ (x : Value) (t : Tn d), TyAt w0 lo d x t → formB d t = true → BLay w0 lo G N L x (flat d t)) (k : Int) (n : List UInt8) (ts : List (Tn d)) (x : Value) (hx : TyAt w0 lo (d + 1) x ((k, n), ts)) (hf : formB (d + 1) ((k, n), ts) = true) (hk : k ≠ 2) : BLay w0 lo G N L x (flat (d + 1) ((k, n), ts)) := by
 intro w R tn xs dn rt rk dp hb0 hR hX hM hnum hN
 obtain ⟨v, hx, hnl, htl, hr⟩ := hx
 simp only at hx hnl htl hr
 subst hx
 have hall := sf_args hf
 have h6 : ts.length ≤ 6 := by
  rw [form_succ, Bool.and_eq_true] at hf
  exact (ok_kind hf.1).2
 obtain ⟨ad, cap, rfl, hcl⟩ := hr.cells
 have hk2 : (k == 2) = false := by simpa using hk
 obtain ⟨W, hW, hbW, hsW, b0, b1, b2⟩ := cells_box w (.int .i64 k) (.string ⟨n.toArray⟩) (.slice ad ts.length cap) 29
 have hl := hX.bx.num
 have hz : W.heap[w.heap.size]? = some (.cells #[.int .i64 k, .string ⟨n.toArray⟩, .slice ad ts.length cap] 29 (0, 0)) := by rw [hW]; exact heap_alloc_new w _
 have H0 : Hid (BlW w W lo G w.heap.size #[.int .i64 k, .string ⟨n.toArray⟩, .slice ad ts.length cap] R tn N L d ts xs dp (.slice none 0 0) 0) := by
  refine ⟨Bk.of_below hbW hl.2.1 hl.2.2.1, hz, [], xs, dn, rt, rk, dp, World.ownsRow_nil _ _ _ _, (hX.below hbW).less (fun g q => ?_), hM, Nat.le_refl _, by omega, fun _ _ => rfl, rfl, fun i h => by simp at h⟩
  rcases q with q | q
  ·cases q
  ·exact q
 have HCL : Hid (ts ≠ [] → ∃ g o, ad = some ⟨g, o, none⟩ ∧ ts.length ≤ cap ∧ g < lo ∧ ∀ j (h : j < ts.length), ∃ k n ad' len' cap', (∀ w', Below lo w0 w' → w'.cell? ⟨g, o + j * 3, none⟩ = some (.int .i64 k) ∧ w'.cell? ⟨g, o + j * 3 + 1, none⟩ = some (.string n) ∧ w'.cell? ⟨g, o + j * 3 + 2, none⟩ = some (.slice ad' len' cap')) ∧ TyAt w0 lo d (.agg #[.int .i64 k, .string n, .slice ad' len' cap']) ts[j]) := hcl
 have HIH : Hid (∀ (x : Value) (t : Tn d), TyAt w0 lo d x t → formB d t = true → BLay w0 lo G N L x (flat d t)) := IH
 have HAL : Hid (∀ t ∈ ts, formB d t = true) := hall
 have HNU : Hid (xs.length + (flats d ts).length + 1 ≤ 200000000) := by
  show _ ≤ _
  rw [flat_succ, List.length_cons] at hnum
  omega
 have HNN : Hid (∀ n, ((2, n, 0) : Nd) ∈ flats d ts → n ∈ N) := fun n h => hN n (by rw [flat_succ]; exact List.mem_cons_of_mem _ h)
 have HW0 : Hid (Below lo w0 w ∧ (∀ g, R g → g < w.heap.size) ∧ lo ≤ w.heap.size ∧ G < w.heap.size) := ⟨hb0, hR, hl.2.1, hl.2.2.1⟩
 obtain ⟨i0, hi, hz0, hz1, hz2⟩ := info_parts Tryz.info3
 have hGw := hl.2.2.1
 clear hX hM hnum hN hr hcl IH hall hb0 hR hbW hz hf
 go_enter Tryz.func56, Tryz.ntmps56
 go_upto_region 1 with fail
 rw [← hW]
 generalize hzz : w.heap.size = z at *
 have HZ : Hid (w.heap.size = z) := hzz
 clear hW hzz
 go_wp2
 go_loopw [6, 7] (fun av iv wr => ∃ (j : Nat) (aa : Option Addr) (ac : Nat), j ≤ ts.length ∧ iv = .int .i64 j ∧ av = .slice aa j ac ∧ Hid (BlW w wr lo G z #[.int .i64 k, .string ⟨n.toArray⟩, .slice ad ts.length cap] R tn N L d ts xs dp (.slice aa j ac) j)) (fun _ iv _ => ts.length - (intOf iv).toNat)
 case atStart => exact ⟨0, none, 0, by omega, by go_num, rfl, H0.out⟩
 case round =>
  obtain ⟨j, aa, ac, hj, rfl, rfl, HP⟩ := hrel
  clear H0
  obtain ⟨hbk, hbox, cs, ys, dn', rt', rk', dp', hown, hY, hM', hl1, hl2, hold, hcs, hel⟩ := HP.out
  obtain ⟨y0, y1, y2⟩ := heap_cells hbox
  by_cases hlt : j < ts.length
  ·have hlt' : (j : Int) < (ts.length : Int) := by omega
   obtain ⟨g0, o0, hadr, hcapt, hgB, hcell⟩ := HCL.out (by intro e; rw [e] at hlt; simp at hlt)
   subst hadr
   obtain ⟨k1, n1, ad1, l1, cp1, hcel, T1⟩ := hcell j hlt
   have hbw : Below lo w0 wr := HW0.out.1.trans hbk.below
   obtain ⟨p0, p1, p2⟩ := hcel wr hbw
   have hfl : flats d (ts.take (j + 1)) = flats d (ts.take j) ++ flat d ts[j] := by rw [List.take_succ_eq_append_getElem hlt, flats_app, flats_cons, flats_nil, List.append_nil]
   have hfs : flats d ts = flats d (ts.take (j + 1)) ++ flats d (ts.drop (j + 1)) := by rw [← flats_app, List.take_append_drop]
   have hfl2 : (flats d (ts.take j)).length + (flat d ts[j]).length ≤ (flats d ts).length := by
    rw [hfs, hfl, List.length_append, List.length_append]
    omega
   have CJ := HIH.out _ ts[j] T1 (HAL.out _ (List.getElem_mem hlt)) wr _ tn ys dn' rt' rk' dp' hbw (fun g q => by
    rcases q with q | q
    ·exact (hown.lt g q).2
    ·have := HW0.out.2.1 g q
     have := hbk.size
     have := HZ.out
     omega) hY hM' (by have := HNU.out; omega) (fun m hm => HNN.out m (by rw [hfs, hfl]; simp only [List.mem_append]; exact .inl (.inr hm)))
   have C1 : Calls Tryz.prog 56 #[.pointer (some ⟨G, 0, none⟩), .agg #[.int .i64 k1, .string n1, .slice ad1 l1 cp1]] wr fun e w' => ∃ kk : Nat, e = .returned (.int .i64 kk) ∧ w'.ownsRow z 3 1 (.slice aa j ac) j (intsV cs) ∧ z ≤ w'.heap.size ∧ Hid (∀ (o : Obj) (W3 : World) (g' cap' : Nat), W3.ownsRow z 3 1 (.slice (some ⟨g', 0, none⟩) (j + 1) cap') (j + 1) (intsV cs ++ [.int .i64 (kk : Nat)]) → (w'.alloc o).grownBy W3 (Value.slice aa j ac).ownBlock → ((Value.slice aa j ac).ownBlock = some g' ∨ w'.heap.size ≤ g') → BlW w W3 lo G z #[.int .i64 k, .string ⟨n.toArray⟩, .slice (some ⟨g0, o0, none⟩) ts.length cap] R tn N L d ts xs dp (.slice (some ⟨g', 0, none⟩) (j + 1) cap') (j + 1)) := by
    refine Calls.mono CJ ?_
    rintro e w' ⟨kk, rfl, hk4, zs, dn4, rt4, rk4, dp4, hX4, hM4, h5, h7, h8, h9, h10⟩
    have hP : ∀ q, pb wr G = some q → ∃ cur, wr.heap[q]? = some (.cells cur 128 (0, 0)) := by
     obtain ⟨_, _, _, _, _, hBS, _⟩ := hY
     exact hBS.pbt
    have hGn : ∀ c fz, wr.heap[G]? ≠ some (.cells c 3 fz) := by
     obtain ⟨_, _, _, _, _, hBS, _⟩ := hY
     exact hBS.boxNe (by decide)
    have own4 : w'.ownsRow w.heap.size 3 1 (.slice aa j ac) cs.length (intsV cs) := hk4.row hown (by decide) hGn hP
    have hbk4 : Bk lo G w w' := hbk.trans hk4
    have hbox4 : w'.heap[z]? = some (.cells #[.int .i64 k, .string ⟨n.toArray⟩, .slice (some ⟨g0, o0, none⟩) ts.length cap] 29 (0, 0)) := hk4.keep _ _ hbox (by omega) (fun q => by
     obtain ⟨cur, hc⟩ := hP _ q
     rw [hbox] at hc
     exact absurd (cells_ty hc) (by decide))
    refine ⟨kk, rfl, by rw [← HZ.out]; rw [hcs] at own4; exact own4, by have := hbk4.size; have := HZ.out; omega, fun o W3 g' cap' ho hg hat => ?_⟩
    refine ⟨hbk4.grown own4 hg (by have := HZ.out; omega) (by have := HZ.out; have := HW0.out.2.2.1; omega), ?_, cs ++ [kk], zs, dn4, rt4, rk4, dp4, ?_, hX4.aside own4 hg ?_, hM4, by omega, ?_, fun i hi => (h10 i (by omega)).trans (hold i hi), by simp [hcs], fun i h h' => ?_⟩
    ·rw [hg.block z (by simp; exact Nat.lt_succ_of_lt (lt_of_heap hbox4)) (fun e => by
      obtain ⟨_, _, cur, hc⟩ := row_ty own4 e.symm
      rw [hbox4] at hc
      exact absurd (cells_ty hc) (by decide)), Below.heap_alloc _ _ _ (lt_of_heap hbox4)]
     exact hbox4
    ·rw [HZ.out]
     have e : intsV (cs ++ [kk]) = intsV cs ++ [.int .i64 (kk : Nat)] := by simp [intsV]
     rw [e, List.length_append, hcs]
     exact ho
    ·rcases hat with q | q
     ·exact .inl q.symm
     ·exact .inr ⟨g', rfl, q⟩
    ·rw [hfl, List.length_append]
     omega
    ·by_cases q : i < cs.length
     ·rw [List.getElem_append_left q]
      obtain ⟨t1, t2⟩ := hel i q h'
      exact ⟨by omega, (h10 _ t1).trans t2⟩
     ·have e : i = cs.length := by simp at h; omega
      subst e
      rw [List.getElem_concat_length rfl]
      refine ⟨h5, ?_⟩
      rw [h7]
      simp only [hcs]
   have HLT : Hid (j < ts.length) := hlt
   clear CJ HP hbk hbox hown hY hM' hl1 hl2 hold hcs hel hcell hcel T1 hfl hfs hfl2 hbw
   go_wp2_with (first
    | (go_at_call 56; (with_reducible refine Calls.mono C1 ?_); rintro e' w4 ⟨kk, rfl, own4, hzs, H4⟩)
    | (at_builtin; refine wpList_append_lies _ rfl _ _ 72 rfl z 3 i0 _ 1 8 Tryz.underlying72 hi hz0 hz1 hz2 rfl (by decide) _ _ _ rfl (own4.alloc _) ⟨w4.heap.size, 0, none⟩ 1 1 [.int .i64 (kk : Nat)] rfl rfl (World.news_of_block (heap_alloc_new w4 _)) (by intro u hu; simp at hu; subst hu; rfl) (by omega) (by unfold maxLen; omega) (by omega) (by simp; omega) (w4.heap.size + 1) (by simp) ?_; intro g' cap' W3 hown3 hgr3 hat3 hlt3))
   have HX := H4.out _ W3 g' cap' hown3 hgr3 (by
    rcases hat3 with q | q
    ·exact .inl q
    ·exact .inr (by omega))
   go_roundw
   case rel => exact ⟨j + 1, _, _, HLT.out, by go_num, rfl, HX⟩
   case measure => have := HLT.out; simp [intOf]; omega
  ·have hlt' : ¬ (j : Int) < (ts.length : Int) := by omega
   have hje : j = ts.length := by omega
   obtain ⟨v, nv, vv, ns, hst, hB, hr1, hr2⟩ := hY
   have hlen1 : ys.length + 1 ≤ 200000000 := by
    rw [hje, List.take_length] at hl2
    have := HNU.out
    omega
   have HNL : Hid (ns.length = ys.length) := by show _ = _; rw [← hst, List.length_map]
   have hnn : ns.length < 200000000 := by have := HNL.out; omega
   obtain ⟨dn2, rt2, dp2, hM2, hold2, hdp2⟩ := hM'.more k n cs hk (fun a ha => by
    obtain ⟨i, hi, rfl⟩ := List.mem_iff_getElem.1 ha
    exact (hel i hi (by omega)).1) (by omega)
   have HRES : Hid (∀ U, BXR U lo G R (ns.map Pn.st ++ [{ kd := k, nm := n, ar := cs, lk := none, mrk := 0, sz := 0 }]) N tn → Bk lo G w U → BLayP lo G N L (flat (d + 1) ((k, n), ts)) w R tn xs dp (.returned (.int .i64 (ns.length : Nat))) U) := fun U h1 h2 => by
    rw [hst] at h1
    refine ⟨ns.length, rfl, h2, _, dn2, rt2, rk', dp2, h1, hM2, by have := HNL.out; simp; omega, ?_, by simp; omega, ?_, fun i hi => (hold2 i (by omega)).trans (hold i hi)⟩
    ·rw [HNL.out, hdp2, flat_succ, subL_node (show ((k, n, ts.length) : Nd).1 ≠ 2 from hk), hcs, hje]
     congr 1
     exact flat_laid dp' L cs ts (by omega) fun i h h' => (hel i h h').2
    ·rw [flat_succ, List.length_cons]
     rw [hje, List.take_length] at hl2
     simp
     omega
   have hform : ∃ va vc, v = .slice va ns.length vc := by
    rcases hB.own.2 with ⟨h0, h1⟩ | ⟨g, cap, _, h1, _⟩
    ·exact ⟨none, 0, by rw [h0, h1]⟩
    ·exact ⟨_, cap, h1⟩
   obtain ⟨va, vc, rfl⟩ := hform
   obtain ⟨d0, d1, d2, d3⟩ := four_cells hB.box
   obtain ⟨k0, ki, kz0, kz1, kz2⟩ := info_parts Tryz.info128
   have FIN : Hid (∀ g' cap' w5, w5.ownsRow lo 128 6 (.slice (some ⟨g', 0, none⟩) (ns.length + 1) cap') (ns.length + 1) (ns.flatMap pnC ++ [.int .i64 k, .string ⟨n.toArray⟩, .slice aa j ac, .int .i64 (-1), .int .i64 0, .int .i64 0]) → ((wr.alloc (Obj.cells #[.int .i64 k, .string ⟨n.toArray⟩, .slice aa j ac, .int .i64 (-1), .int .i64 0, .int .i64 0] 128)).drew).grownBy w5 (Value.slice va ns.length vc).ownBlock → ((Value.slice va ns.length vc).ownBlock = some g' ∨ wr.heap.size ≤ g') → w5.heap[G]? = some (.cells #[.slice va ns.length vc, nv, vv, .int .i64 tn] 110 (0, 0)) ∧ ∃ U, U = w5.setCell ⟨G, 0, none⟩ (.slice (some ⟨g', 0, none⟩) (ns.length + 1) cap') ∧ BXR U lo G R (ns.map Pn.st ++ [{ kd := k, nm := n, ar := cs, lk := none, mrk := 0, sz := 0 }]) N tn ∧ Bk lo G w U ∧ U.cell? ⟨G, 0, none⟩ = some (.slice (some ⟨g', 0, none⟩) (ns.length + 1) cap')) := fun g' cap' w5 ho hg' hat => by
    have hlo := HW0.out.2.2.1
    obtain ⟨q1, U, q2, q3, q4⟩ := BXR.put (R := R) (n := { kd := k, nm := n, av := .slice aa j ac, ar := cs, lk := none, mrk := 0, sz := 0 }) hB (fun g q => hr1 g (.inr q)) (fun p hp g q => hr2 p hp g (.inr q)) hnn (hown.mono (by have := HZ.out; omega)) (fun g q e => by
     have := (hown.lt g e).1
     have := HW0.out.2.1 g q
     have := HZ.out
     omega) ho (o := Obj.cells #[.int .i64 k, .string ⟨n.toArray⟩, .slice aa j ac, .int .i64 (-1), .int .i64 0, .int .i64 0] 128) ⟨hg'.os, hg'.tape, hg'.output, hg'.size, hg'.block⟩ hat
    refine ⟨q1, U, q2, q3, hbk.trans q4, ?_⟩
    rw [q2]
    exact (four_cells ((setCell_block q1).trans rfl)).1
   have hGl := hB.lt
   have hzl := lt_of_heap hbox
   have nG : ¬ G = wr.heap.size := by omega
   have nG' : ¬ wr.heap.size = G := by omega
   have nz : ¬ z = wr.heap.size := by omega
   have nz' : ¬ wr.heap.size = z := by omega
   have hown3 := hB.own
   clear hB hbk hbox hr1 hr2 hst HP hM' hold hcs hel hM2 hold2 hdp2 hown hl1 hl2 hje
   go_upto_region 10 with fail
   go_region_law ((refine step_append_lies _ (by rfl) _ _ _ (by rfl) lo 128 k0 _ 6 72 Tryz.underlying108 ki kz0 kz1 kz2 rfl (by omega) (.slice va ns.length vc) ns.length (ns.flatMap pnC) (by rfl) ((hown3.alloc _).drew) ⟨wr.heap.size, 0, none⟩ 1 1 [.int .i64 k, .string ⟨n.toArray⟩, .slice aa j ac, .int .i64 (-1), .int .i64 0, .int .i64 0] (by rfl) (by rfl) (World.news_of_block (cs := #[.int .i64 k, .string ⟨n.toArray⟩, .slice aa j ac, .int .i64 (-1), .int .i64 0, .int .i64 0]) (t := 128) (fr := (0, 0)) (heap_alloc_new wr _)) (by simp [Value.oneCell']) (by omega) (by unfold maxLen; omega) (by omega) (by simp; omega) (wr.heap.size + 1) (by simp) ?_; intro g' cap' w5 hown5 hgrow hat hlt5; obtain ⟨hG5, U, hU, hGS, hGk, hc0⟩ := FIN.out g' cap' w5 hown5 hgrow (by rcases hat with q | q; exact .inl q; exact .inr (by omega)); obtain ⟨e0, e1, e2, e3⟩ := four_cells hG5; have fG := heap_frozen (o := 0) hG5))
   all_goals
    rw [← hU]
    clear hU hG5 e0 e1 e2 e3 fG hgrow hown5
    go_wp2
    go_ret
    exact HRES.out U hGS hGk
theorem blay_any {lo G : Nat} {N : List (List UInt8)} {L : List (List UInt8 × List Nd)} (hs : N.Pairwise (fun a b => a < b)) (w0 : World) : ∀ (d : Nat) (x : Value) (t : Tn d), TyAt w0 lo d x t → formB d t = true → BLay w0 lo G N L x (flat d t)
 | 0, _, t, _, _ => t.elim
 | d + 1, x, ((k, n), ts), hx, hf => by
  by_cases hk : k = 2
  ·subst hk
   have h0 := sf_var hf
   subst h0
   exact blay_var hs w0 d n x hx
  ·exact blay_node w0 d (blay_any hs w0 d) k n ts x hx hf hk
end Go.Proofs.YtikpipenhamdbaaGreat

namespace Go.Proofs.YtikpipenhamdbaaGreat
open Go.RowKit Go.Maps

/-- What out answers. -/
def OutP (dp : Nat → List Nd) (N i : Nat) (w : World) (e : Ending) (w' : World) : Prop :=
 ∃ (k : Int) (n : ByteArray) (ad : Option Addr) (len cap : Nat) (t : Tn N) (rws : List (Value × Nat)), e = .returned (.agg #[.int .i64 k, .string n, .slice ad len cap]) ∧ TyO w' w.heap.size N (.agg #[.int .i64 k, .string n, .slice ad len cap]) t rws ∧ SepB w.heap.size w'.heap.size rws ∧ flat N t = dp i ∧ Below w.heap.size w w'
/-- The names that count, place by place. -/
def LsAt (w : World) (n : Nat) (gl lc : Nat) (ls : Nat → List UInt8) : Prop := n ≤ lc ∧ gl < w.heap.size ∧ ∀ r, r < n → w.cell? ⟨gl, r, none⟩ = some (.string ⟨(ls r).toArray⟩)
theorem LsAt.below {w w' : World} {n gl lc : Nat} {ls : Nat → List UInt8} (h : LsAt w n gl lc ls) (hb : Below w.heap.size w w') : LsAt w' n gl lc ls := ⟨h.1, Nat.lt_of_lt_of_le h.2.1 hb.size, fun r hr => (hb.cell (p := ⟨gl, r, none⟩) h.2.1).trans (h.2.2 r hr)⟩
/-- Between the rounds of out. -/
structure TqW (w : World) (zt : Nat) (xc : Array Value) (k : Int) (nm : List UInt8) (aL : List Nat) (dp : Nat → List Nd) (N : Nat) (wr : World) (v : Value) (es : List El) (ts : List (Tn N)) (rss : List (List (Value × Nat))) : Prop where
 bel : Below w.heap.size w wr
 res : wr.heap[w.heap.size]? = some (.cells #[.int .i64 0, .string ⟨#[]⟩, .slice none 0 0] 29 (0, 0))
 xbx : wr.heap[w.heap.size + 1]? = some (.cells xc 128 (0, 0))
 made : wr.heap[zt]? = some (.cells #[.int .i64 k, .string ⟨nm.toArray⟩, v] 29 (0, 0))
 row : RowO wr (zt + 1) N v es ts rss
 flt : flats N ts = (aL.take ts.length).flatMap dp
 pos : zt = w.heap.size + 2
/-- One more argument. -/
theorem TqW.step {w : World} {zt : Nat} {xc : Array Value} {k : Int} {nm : List UInt8} {aL : List Nat} {dp : Nat → List Nd} {N : Nat} {wr : World} {va : Option Addr} {j vc : Nat} {es : List El} {ts : List (Tn N)} {rss : List (List (Value × Nat))} (h : TqW w zt xc k nm aL dp N wr (.slice va j vc) es ts rss) (hj : ts.length = j) (hjl : j < aL.length)
  {w2 w3 : World} (hk : Below wr.heap.size wr w2) {e : El} {t : Tn N} {rws : List (Value × Nat)} (T : TyO w2 wr.heap.size N (elV e) t rws) (S2 : SepB wr.heap.size w2.heap.size rws) (hfl : flat N t = dp aL[j]) {o : Obj} {g cap3 : Nat}
  (hown : w3.ownsRow (zt + 1) 29 3 (.slice (some ⟨g, 0, none⟩) (j + 1) cap3) (j + 1) (es.flatMap elCells ++ elCells e)) (hgrow : (w2.alloc o).grownBy w3 (Value.slice va j vc).ownBlock) (hat : (Value.slice va j vc).ownBlock = some g ∨ w2.heap.size ≤ g) :
  w3.heap[zt]? = some (.cells #[.int .i64 k, .string ⟨nm.toArray⟩, .slice va j vc] 29 (0, 0)) ∧ ∃ V, V = w3.setCell ⟨zt, 2, none⟩ (.slice (some ⟨g, 0, none⟩) (j + 1) cap3) ∧ TqW w zt xc k nm aL dp N V (.slice (some ⟨g, 0, none⟩) (j + 1) cap3) (es ++ [e]) (ts ++ [t]) (rss ++ [rws]) := by
 have hp := h.pos
 have hzt := lt_of_heap h.made
 have hs2 := hk.size
 have hvb : ∀ j', (Value.slice va j vc).ownBlock = some j' → zt + 1 ≤ j' ∧ j' < wr.heap.size := fun j' hj' => h.row.own.lt j' hj'
 have hbl : ∀ j', j' < w2.heap.size → some j' ≠ (Value.slice va j vc).ownBlock → w3.heap[j']? = w2.heap[j']? := fun j' hj' hne => by
  rw [hgrow.block j' (by simp; omega) hne]
  exact Below.heap_alloc _ _ _ hj'
 have hsz3 : w2.heap.size ≤ w3.heap.size := by have := hgrow.size; simp at this; omega
 have hzt3 : w3.heap[zt]? = some (.cells #[.int .i64 k, .string ⟨nm.toArray⟩, .slice va j vc] 29 (0, 0)) := by
  rw [hbl zt (by omega) (fun e => by have := hvb zt e.symm; omega)]
  exact (hk.block zt hzt).trans h.made
 have row2 : RowO w2 (zt + 1) N (.slice va j vc) es ts rss := h.row.keep (by omega) fun g c h1 h2 => hk.block g (lt_of_heap h2)
 have row3 : RowO w3 (zt + 1) N (.slice (some ⟨g, 0, none⟩) (j + 1) cap3) (es ++ [e]) (ts ++ [t]) (rss ++ [rws]) := by
  refine row2.snoc (by omega) T S2 (by omega) ⟨fun p hp => ?_, row2.sep.2⟩ (fun j' hj' => by have := hvb j' hj'; omega) ?_ hsz3 hbl ?_
  ·obtain ⟨g', e1, e2, e3⟩ := h.row.sep.1 p hp
   exact ⟨g', e1, e2, by omega⟩
  ·rw [h.row.len, hj]; exact hown
  ·rcases hat with hat | hat
   ·exact .inl hat.symm
   ·exact .inr ⟨g, rfl, hat⟩
 have low3 : ∀ j', j' < zt → w3.heap[j']? = wr.heap[j']? := fun j' hj' => by
  rw [hbl j' (by omega) (fun e => by have := hvb j' e.symm; omega)]
  exact hk.block j' (by omega)
 refine ⟨hzt3, _, rfl, ⟨⟨?_, ?_, ?_, ?_, fun j' hj' => ?_⟩, ?_, ?_, ?_, ?_, ?_, h.pos⟩⟩
 ·exact hgrow.os.trans (hk.os.trans h.bel.os)
 ·exact hgrow.tape.trans (hk.tape.trans h.bel.tape)
 ·exact hgrow.output.trans (hk.output.trans h.bel.output)
 ·have := h.bel.size
  rw [size_set]
  omega
 ·rw [setCell_else (by omega), low3 j' (by omega)]
  exact h.bel.block j' hj'
 ·rw [setCell_else (by omega), low3 _ (by omega)]
  exact h.res
 ·rw [setCell_else (by omega), low3 _ (by omega)]
  exact h.xbx
 ·rw [setCell_block hzt3]
  simp
 ·exact row3.on (by rw [size_set]; exact Nat.le_refl _) fun j' hj' _ => setCell_else (by omega)
 ·rw [flats_app, flats_cons, flats_nil, List.append_nil, h.flt, List.length_append, hj, hfl]
  show _ = (aL.take (j + 1)).flatMap dp
  rw [List.take_succ_eq_append_getElem hjl, List.flatMap_append]
  simp
/-- All arguments are there. -/
theorem TqW.fin {w : World} {zt : Nat} {xc : Array Value} {k : Int} {nm : List UInt8} {aL : List Nat} {dp : Nat → List Nd} {N i : Nat} {wr : World} {va : Option Addr} {vc : Nat} {es : List El} {ts : List (Tn N)} {rss : List (List (Value × Nat))} (h : TqW w zt xc k nm aL dp N wr (.slice va aL.length vc) es ts rss) (hl : ts.length = aL.length) (hn : nm.length < 140737488355328) (h6 : aL.length ≤ 6) (hd : dp i = (k, nm, aL.length) :: aL.flatMap dp) :
  ∃ W, W = ((wr.setCell ⟨w.heap.size, 0, none⟩ (.int .i64 k)).setCell ⟨w.heap.size, 1, none⟩ (.string ⟨nm.toArray⟩)).setCell ⟨w.heap.size, 2, none⟩ (.slice va aL.length vc) ∧ W.heap[w.heap.size]? = some (.cells #[.int .i64 k, .string ⟨nm.toArray⟩, .slice va aL.length vc] 29 (0, 0)) ∧ OutP dp (N + 1) i w (.returned (.agg #[.int .i64 k, .string ⟨nm.toArray⟩, .slice va aL.length vc])) W := by
 have hp := h.pos
 obtain ⟨W, hW, k1, k2⟩ := put_box h.res (.int .i64 k) (.string ⟨nm.toArray⟩) (.slice va aL.length vc)
 have hg : wr.grownBy W (some w.heap.size) := by
  rw [hW]
  exact grown_set (grown_set (grown_set ⟨rfl, rfl, rfl, Nat.le_refl _, fun _ _ _ => rfl⟩ _ _) _ _) _ _
 have hsz : W.heap.size = wr.heap.size := by rw [hW, size_set, size_set, size_set]
 have hfar : ∀ j, j ≠ w.heap.size → W.heap[j]? = wr.heap[j]? := fun j hj => by
  rw [hW, setCell_else hj, setCell_else hj, setCell_else hj]
 have hbW : Below w.heap.size w W := by
  have hh := h.bel
  refine ⟨hg.os.trans hh.os, hg.tape.trans hh.tape, hg.output.trans hh.output, by rw [hsz]; exact hh.size, fun j hj => ?_⟩
  rw [hfar j (by omega)]
  exact hh.block j hj
 have hflat : flat (N + 1) ((k, nm), ts) = dp i := by
  rw [flat_succ, h.flt, hd, hl, List.take_length]
 have row : RowO W (zt + 1) N (.slice va aL.length vc) es ts rss := h.row.on (by omega) fun j hj _ => hfar j (by omega)
 refine ⟨W, hW, k1, ?_⟩
 by_cases h0 : ts = []
 ·have hz : aL.length = 0 := by rw [← hl, h0]; rfl
  refine ⟨k, _, va, aL.length, vc, ((k, nm), ts), [], rfl, ⟨_, rfl, hn, by show ts.length < _; omega, .inl ⟨h0, ⟨va, vc, by rw [hz]⟩, rfl⟩⟩, ⟨fun p hp => by simp at hp, by simp⟩, hflat, hbW⟩
 ·obtain ⟨T, S⟩ := row.tree h0 k nm hn (by omega)
  refine ⟨k, _, va, aL.length, vc, ((k, nm), ts), _, rfl, TyO.mono (by omega) _ _ _ _ T, ⟨fun p hp => ?_, S.2⟩, hflat, hbW⟩
  obtain ⟨g', e1, e2, e3⟩ := S.1 p hp
  exact ⟨g', e1, by omega, e3⟩
set_option maxHeartbeats 8000000 in
set_option maxRecDepth 10000 in
theorem out_step {lo G tn : Nat} {NN : List (List UInt8)} {xs : List Px} {dn : Nat → List Nd} {rt rk : Nat → Nat} {dp : Nat → List Nd} {ls : Nat → List UInt8} {gl lc : Nat} (hD : BsX xs dn rt rk dp) (hls : ∀ r, r < xs.length → loP xs r = none → (lbP xs r).1 = 2 → dp r = [(2, ls r, 0)]) (N : Nat) (IH : ∀ (w : World) (i : Nat), BX w lo G xs NN tn → LsAt w xs.length gl lc ls → i < xs.length → (dp i).length ≤ N → Okr (dp i) → Calls Tryz.prog 81 #[.pointer (some ⟨G, 0, none⟩), .int .i64 i, .slice (some ⟨gl, 0, none⟩) xs.length lc] w (OutP dp N i w))
  (w : World) (i : Nat) (h : BX w lo G xs NN tn) (hl : LsAt w xs.length gl lc ls) (hi : i < xs.length) (hN : (dp i).length ≤ N + 1) (hO : Okr (dp i)) :
  Calls Tryz.prog 81 #[.pointer (some ⟨G, 0, none⟩), .int .i64 i, .slice (some ⟨gl, 0, none⟩) xs.length lc] w (OutP dp (N + 1) i w) := by
 have den := hD.bs.den
 have hr := den.rt_lt hi
 have hrr : loP xs (rt i) = none := (hD.root _).2 (den.rt_tg hi)
 have hdr : dp (rt i) = dp i := hD.bs.rt_dp hi
 have hnum := h.num
 obtain ⟨W0, hW0, hbW0, hsW0, _, _, _⟩ := cells_box w (.int .i64 0) (.string ⟨#[]⟩) (.slice none 0 0) 29
 have hz : W0.heap[w.heap.size]? = some (.cells #[.int .i64 0, .string ⟨#[]⟩, .slice none 0 0] 29 (0, 0)) := by rw [hW0]; exact heap_alloc_new w _
 have h0 := h.below hbW0
 have CE := bend_any h0 hD i hi
 obtain ⟨g, cap, ad, cp, c0, -, ⟨hgG, hpb, hgl⟩, -, ⟨a0, a1, a2, a3, a4, a5⟩, harg, -⟩ := h0.at hr
 have ea1 : xs[rt i].kd = (lbP xs (rt i)).1 ∧ xs[rt i].nm = (lbP xs (rt i)).2 ∧ xs[rt i].ar = arP xs (rt i) := by unfold lbP arP; rw [getP_at hr]; exact ⟨rfl, rfl, rfl⟩
 rw [ea1.1] at a0
 rw [ea1.2.1] at a1
 rw [ea1.2.2] at a2 harg
 clear ea1
 generalize xs[rt i].lk = lkA at *
 generalize xs[rt i].mrk = mkA at *
 generalize xs[rt i].sz = szA at *
 have HKD : Hid ((lbP xs (rt i)).1 = (lbP xs (rt i)).1) := rfl
 have hnode : (lbP xs (rt i)).1 ≠ 2 → dp i = ((lbP xs (rt i)).1, (lbP xs (rt i)).2, (arP xs (rt i)).length) :: (arP xs (rt i)).flatMap dp := fun q => by
  rw [← hdr]
  exact hD.bs.node hr (den.rt_tg hi) q
 have hvar : (lbP xs (rt i)).1 = 2 → dp i = [(2, ls (rt i), 0)] := fun q => by rw [← hdr]; exact hls _ hr hrr q
 have h6 := hD.few (rt i)
 have harl : ∀ a ∈ arP xs (rt i), a < xs.length := fun a ha => den.argr hi ha
 clear HKD
 generalize (lbP xs (rt i)).1 = k at *
 generalize (lbP xs (rt i)).2 = nm at *
 generalize arP xs (rt i) = aL at *
 have i1 : (0 : Int) ≤ (rt i : Int) := by omega
 have i2 : (rt i : Int) < (xs.length : Int) := by omega
 obtain ⟨W1, hW1⟩ : ∃ W1, W1 = W0.alloc (Obj.cells #[.int .i64 k, .string ⟨nm.toArray⟩, .slice ad aL.length cp, .int .i64 (lkV lkA), .int .i64 mkA, .int .i64 szA] 128) := ⟨_, rfl⟩
 have hb1 : Below W0.heap.size W0 W1 := by rw [hW1]; exact (Below.refl _ _).alloc (Nat.le_refl _) _
 have hx1 : W1.heap[w.heap.size + 1]? = some (.cells #[.int .i64 k, .string ⟨nm.toArray⟩, .slice ad aL.length cp, .int .i64 (lkV lkA), .int .i64 mkA, .int .i64 szA] 128 (0, 0)) := by rw [hW1, ← hsW0]; exact heap_alloc_new W0 _
 have hs1 : W1.heap.size = W0.heap.size + 1 := by rw [hW1]; simp
 have hz1 : W1.heap[w.heap.size]? = some (.cells #[.int .i64 0, .string ⟨#[]⟩, .slice none 0 0] 29 (0, 0)) := (hb1.block _ (lt_of_heap hz)).trans hz
 have hbW1 : Below w.heap.size w W1 := hbW0.trans (hb1.mono hbW0.size)
 obtain ⟨⟨x0, x1, x2, x3, x4, x5⟩, -⟩ := six_cells hx1
 by_cases hk2 : k = 2
 ·subst hk2
  have hdi : dp i = [(2, ls (rt i), 0)] := hvar rfl
  have hln : (ls (rt i)).length < 140737488355328 := by
   rw [hdi] at hO
   have : (ls (rt i)).length ≤ 4096 := ok_name (hO _ List.mem_cons_self)
   omega
  have c9 := (hl.below hbW1).2.2 (rt i) hr
  obtain ⟨V, hV, v1, v2⟩ := put_box hz1 (.int .i64 2) (.string ⟨(ls (rt i)).toArray⟩) (.slice none 0 0)
  have HF : Hid (OutP dp (N + 1) i w (.returned (.agg #[.int .i64 2, .string ⟨(ls (rt i)).toArray⟩, .slice none 0 0])) V) := by
   have hfar : ∀ j, j ≠ w.heap.size → V.heap[j]? = W1.heap[j]? := fun j hj => by
    rw [hV, setCell_else hj, setCell_else hj, setCell_else hj]
   have hsz : V.heap.size = W1.heap.size := by rw [hV, size_set, size_set, size_set]
   have hg : W1.grownBy V (some w.heap.size) := by
    rw [hV]
    exact grown_set (grown_set (grown_set ⟨rfl, rfl, rfl, Nat.le_refl _, fun _ _ _ => rfl⟩ _ _) _ _) _ _
   have hbV : Below w.heap.size w V := ⟨hg.os.trans hbW1.os, hg.tape.trans hbW1.tape, hg.output.trans hbW1.output, by rw [hsz]; exact hbW1.size, fun j hj => (hfar j (by omega)).trans (hbW1.block j hj)⟩
   exact ⟨2, _, none, 0, 0, ((2, ls (rt i)), []), [], rfl, ⟨_, rfl, hln, by show (0 : Nat) < _; omega, .inl ⟨rfl, ⟨none, 0, rfl⟩, rfl⟩⟩, ⟨fun p hp => by simp at hp, by simp⟩, by rw [hdi]; rfl, hbV⟩
  obtain ⟨r0, r1, r2⟩ := heap_cells hz1
  have g0 := heap_frozen (o := 0) hz1
  have g1 := heap_frozen (o := 1) hz1
  have g2 := heap_frozen (o := 2) hz1
  have hlc := hl.1
  clear IH h h0 hD hls hl den hO hN hdi harg hbW0 hz hbW1 hb1 hx1 hz1 hln hdr hrr hpb hgl hnode hvar harl
  go_enter Tryz.func81, Tryz.ntmps81
  go_upto_region 1 with fail
  rw [← hW0]
  clear hW0
  go_upto_region 3 with (first | (go_at_call 79; (with_reducible refine Calls.mono CE ?_); rintro e' w1 ⟨rfl, rfl⟩))
  rw [← hW1]
  clear hW1
  go_wp2
  rw [← hV]
  obtain ⟨s0, s1, s2⟩ := heap_cells v1
  refine bodyPost_ret (v := .agg #[.int .i64 2, .string ⟨(ls (rt i)).toArray⟩, .slice none 0 0]) (by simp [results, Tryz.results81, go_sem, s0, s1, s2]) rfl ?_
  exact HF.out
 ·have hdi := hnode hk2
  have hk2b : (k == 2) = false := by simpa using hk2
  rw [hdi] at hO
  obtain ⟨hok, hO2⟩ := Okr.cons.1 hO
  have hnl : nm.length ≤ 4096 := ok_name hok
  obtain ⟨W2, hW2⟩ : ∃ W2, W2 = W1.alloc (Obj.cells #[.int .i64 k, .string ⟨nm.toArray⟩, .slice none 0 0] 29) := ⟨_, rfl⟩
  have hb2 : Below W1.heap.size W1 W2 := by rw [hW2]; exact (Below.refl _ _).alloc (Nat.le_refl _) _
  have hx2 : W2.heap[w.heap.size + 2]? = some (.cells #[.int .i64 k, .string ⟨nm.toArray⟩, .slice none 0 0] 29 (0, 0)) := by rw [hW2, show w.heap.size + 2 = W1.heap.size by omega]; exact heap_alloc_new W1 _
  have HT0 : Hid (TqW w (w.heap.size + 2) #[.int .i64 k, .string ⟨nm.toArray⟩, .slice ad aL.length cp, .int .i64 (lkV lkA), .int .i64 mkA, .int .i64 szA] k nm aL dp N W2 (.slice none 0 0) [] [] []) :=
   ⟨hbW1.trans (hb2.mono hbW1.size), (hb2.block _ (lt_of_heap hz1)).trans hz1, (hb2.block _ (lt_of_heap hx1)).trans hx1, hx2, RowO.nil _ _ _, by simp [flats], rfl⟩
  have HFIN : Hid (dp i = (k, nm, aL.length) :: aL.flatMap dp ∧ nm.length < 140737488355328) := ⟨hdi, by omega⟩
  have HARG : Hid (∀ j (hj : j < aL.length), ∃ ga, ad = some ⟨ga, 0, none⟩ ∧ aL.length ≤ cp ∧ ∀ wr, Below w.heap.size w wr → wr.cell? ⟨ga, j, none⟩ = some (.int .i64 (aL[j] : Nat))) := fun j hj => by
   obtain ⟨ga, cur, q1, q2, ⟨q3, q4⟩, q5, q6⟩ := harg (fun e => by rw [e] at hj; simp at hj)
   refine ⟨ga, q1, q2, fun wr hk => ?_⟩
   have hgw : ga < w.heap.size := by
    have h1 := lt_of_heap q5
    rcases Nat.lt_or_ge ga w.heap.size with q | q
    ·exact q
    ·have e : ga = w.heap.size := by omega
     rw [e, hz] at q5
     exact absurd (cells_ty q5) (by decide)
   have e : wr.heap[ga]? = W0.heap[ga]? := (hk.block ga hgw).trans (hbW0.block ga hgw).symm
   rw [q5] at e
   simp only [World.cell?, e]
   simpa using q6 j hj
  have CI : Hid (∀ (W : World) (a : Nat), Below w.heap.size w W → a ∈ aL → Calls Tryz.prog 81 #[.pointer (some ⟨G, 0, none⟩), .int .i64 a, .slice (some ⟨gl, 0, none⟩) xs.length lc] W (OutP dp N a W)) := fun W a hb ha => by
   refine IH W a (h.below hb) (hl.below hb) (harl a ha) ?_ fun nd hn => hO2 nd (List.mem_flatMap.2 ⟨a, ha, hn⟩)
   have := mem_long dp aL a ha
   rw [hdi, List.length_cons] at hN
   omega
  obtain ⟨i0, hi', hz0, hzz1, hz2⟩ := info_parts Tryz.info29
  clear IH h h0 hD hls hl den hO hO2 hN hdi harg hbW0 hz hbW1 hb1 hx1 hz1 hdr hrr hpb hgl hnode hvar harl hx2 hb2 hok hnl
  go_enter Tryz.func81, Tryz.ntmps81
  go_upto_region 1 with fail
  rw [← hW0]
  clear hW0
  go_upto_region 3 with (first | (go_at_call 79; (with_reducible refine Calls.mono CE ?_); rintro e' w1 ⟨rfl, rfl⟩))
  rw [← hW1]
  clear hW1 CE c0 a0 a1 a2 a3 a4 a5
  go_upto_region 6 with fail
  rw [← hW2]
  clear hW2 x0 x1 x2 x3 x4 x5
  have ezt : w.heap.size + 1 + 1 = w.heap.size + 2 := rfl
  rw [ezt]
  clear ezt hsW0 hs1
  generalize hzt : w.heap.size + 2 = zt at *
  have HZT : Hid (w.heap.size + 2 = zt) := hzt
  clear hzt
  go_wp2
  go_loopw [9] (fun iv wr => ∃ (j : Nat) (v : Value) (es : List El) (ts : List (Tn N)) (rss : List (List (Value × Nat))), j ≤ aL.length ∧ iv = .int .i64 j ∧ Hid (ts.length = j ∧ TqW w zt #[.int .i64 k, .string ⟨nm.toArray⟩, .slice ad aL.length cp, .int .i64 (lkV lkA), .int .i64 mkA, .int .i64 szA] k nm aL dp N wr v es ts rss)) (fun iv _ => aL.length - (intOf iv).toNat)
  case atStart => exact ⟨0, _, _, _, _, by omega, by go_num, rfl, HT0.out⟩
  case round =>
   obtain ⟨j, v, es, ts, rss, hj, rfl, HP⟩ := hrel
   obtain ⟨htl, T⟩ := HP.out
   obtain ⟨va, vc, rfl⟩ := row_form T.row
   rw [htl] at HP T
   clear HT0
   obtain ⟨⟨-, -, x2, -, -, -⟩, -⟩ := six_cells T.xbx
   by_cases hlt : j < aL.length
   ·have hlt' : (j : Int) < (aL.length : Int) := by omega
    have j1 : (0 : Int) ≤ (j : Int) := by omega
    obtain ⟨ga, rfl, hcpa, hra⟩ := HARG.out j hlt
    have hcell := hra wr T.bel
    have hel0 : es.length = j := by rw [T.row.len]; exact htl
    have C1 : Calls Tryz.prog 81 #[.pointer (some ⟨G, 0, none⟩), .int .i64 (aL[j] : Nat), .slice (some ⟨gl, 0, none⟩) xs.length lc] wr fun e w2 => ∃ (k2 : Int) (n2 : ByteArray) (ad2 : Option Addr) (l2 cp2 : Nat), e = .returned (.agg #[.int .i64 k2, .string n2, .slice ad2 l2 cp2]) ∧ (w2.cell? ⟨zt, 2, none⟩ = some (.slice va j vc) ∧ w2.ownsRow (zt + 1) 29 3 (.slice va j vc) j (es.flatMap elCells) ∧ zt + 1 ≤ w2.heap.size) ∧ Hid (∀ (ob : Obj) (o : Obj) (g cap3 : Nat) (w3 : World), w3.ownsRow (zt + 1) 29 3 (.slice (some ⟨g, 0, none⟩) (j + 1) cap3) (j + 1) (es.flatMap elCells ++ [.int .i64 k2, .string n2, .slice ad2 l2 cp2]) → ((w2.alloc ob).alloc o).grownBy w3 (Value.slice va j vc).ownBlock → ((Value.slice va j vc).ownBlock = some g ∨ w2.heap.size + 1 ≤ g) → w3.heap[zt]? = some (.cells #[.int .i64 k, .string ⟨nm.toArray⟩, .slice va j vc] 29 (0, 0)) ∧ ∃ (V : World) (es' : List El) (ts' : List (Tn N)) (rss' : List (List (Value × Nat))), V = w3.setCell ⟨zt, 2, none⟩ (.slice (some ⟨g, 0, none⟩) (j + 1) cap3) ∧ ts'.length = j + 1 ∧ TqW w zt #[.int .i64 k, .string ⟨nm.toArray⟩, .slice (some ⟨ga, 0, none⟩) aL.length cp, .int .i64 (lkV lkA), .int .i64 mkA, .int .i64 szA] k nm aL dp N V (.slice (some ⟨g, 0, none⟩) (j + 1) cap3) es' ts' rss') := by
     refine Calls.mono (CI.out wr aL[j] T.bel (List.getElem_mem hlt)) ?_
     rintro e w2 ⟨k2, n2, ad2, l2, cp2, t2, rws2, rfl, hT2, hS2, hfl2, hb2⟩
     have hztl := lt_of_heap T.made
     have hmade2 := (hb2.block zt hztl).trans T.made
     have hown := T.row.own
     rw [hel0] at hown
     refine ⟨k2, n2, ad2, l2, cp2, rfl, ⟨(heap_cells hmade2).2.2, own_keep hown fun g hg => hb2.block g (hown.lt g hg).2, lt_of_heap hmade2⟩, fun ob o g cap3 w3 ho hg hat => ?_⟩
     have hb3 : Below w2.heap.size w2 (w2.alloc ob) := (Below.refl _ _).alloc (Nat.le_refl _) _
     have hs3 : (w2.alloc ob).heap.size = w2.heap.size + 1 := by simp
     have hT3 : TyO (w2.alloc ob) wr.heap.size N (elV (k2, n2, .slice ad2 l2 cp2)) t2 rws2 := TyO.on _ _ _ _ (fun p hp g hg => by
      obtain ⟨g', e1, e2, e3⟩ := hS2.1 p hp
      rw [hg] at e1
      have := Option.some.inj e1
      exact hb3.block g (by omega)) hT2
     obtain ⟨h1, V, hV, h2⟩ := T.step htl hlt (hb2.trans (hb3.mono hb2.size)) hT3 ⟨fun p hp => by obtain ⟨g', e1, e2, e3⟩ := hS2.1 p hp; exact ⟨g', e1, e2, by omega⟩, hS2.2⟩ hfl2 ho hg (by rw [hs3]; exact hat)
     exact ⟨h1, V, _, _, _, hV, by simp [htl], h2⟩
    have HLT : Hid (j < aL.length) := hlt
    clear HP T hra htl hel0
    generalize aL[j] = aj at *
    clear hlt
    go_wp2_with (first
     | (go_at_call 81; (with_reducible refine Calls.mono C1 ?_); rintro e' w2 ⟨k2, n2, ad2, l2, cp2, rfl, ⟨c2, own2, hz2w⟩, H2⟩; have KA : ∀ o, (w2.alloc o).cell? ⟨zt, 2, none⟩ = some (.slice va j vc) := (fun o => cellA c2 o); have KB : ∀ o o', ((w2.alloc o).alloc o').cell? ⟨zt, 2, none⟩ = some (.slice va j vc) := (fun o o' => cellA (cellA c2 o) o'))
     | (at_builtin; refine wpList_append_lies _ rfl _ _ 27 rfl (zt + 1) 29 i0 _ 3 48 Tryz.underlying27 hi' hz0 hzz1 hz2 rfl (by decide) (.slice va j vc) j (es.flatMap elCells) rfl ((own2.alloc _).alloc _) ⟨w2.heap.size + 1, 0, none⟩ 1 1 [.int .i64 k2, .string n2, .slice ad2 l2 cp2] rfl rfl (World.news_of_block (cs := #[.int .i64 k2, .string n2, .slice ad2 l2 cp2]) (t := 29) (fr := (0, 0)) (by rw [show w2.heap.size + 1 = (w2.alloc (Obj.cells #[.int .i64 k2, .string n2, .slice ad2 l2 cp2] 29)).heap.size by simp]; exact heap_alloc_new _ _)) (by simp [Value.oneCell']) (by omega) (by unfold maxLen; omega) (by omega) (by simp; omega) (w2.heap.size + 2) (by simp) ?_; intro g3 cap3 w3 hown3 hgrow hat hlt3; obtain ⟨hq3, V, es', ts', rss', hV, htl', HPV⟩ := H2.out _ _ g3 cap3 w3 hown3 hgrow (by rcases hat with q | q; exact .inl q; exact .inr (by omega)); obtain ⟨e0, e1, e2⟩ := heap_cells hq3; have f2 := heap_frozen (o := 2) hq3))
    have HPV' : Hid (TqW w zt #[.int .i64 k, .string ⟨nm.toArray⟩, .slice (some ⟨ga, 0, none⟩) aL.length cp, .int .i64 (lkV lkA), .int .i64 mkA, .int .i64 szA] k nm aL dp N (w3.setCell ⟨zt, 2, none⟩ (.slice (some ⟨g3, 0, none⟩) (j + 1) cap3)) (.slice (some ⟨g3, 0, none⟩) (j + 1) cap3) es' ts' rss') := by rw [← hV]; exact HPV
    go_roundw
    case rel => exact ⟨j + 1, _, es', ts', rss', HLT.out, by go_num, htl', HPV'.out⟩
    case measure => have := HLT.out; simp [intOf]; omega
   ·have hlt' : ¬ (j : Int) < (aL.length : Int) := by omega
    have hjl : j = aL.length := by omega
    obtain ⟨m0, m1, m2⟩ := heap_cells T.made
    obtain ⟨r0, r1, r2⟩ := heap_cells T.res
    have g0 := heap_frozen (o := 0) T.res
    have g1 := heap_frozen (o := 1) T.res
    have g2 := heap_frozen (o := 2) T.res
    have q7 : ¬ zt = w.heap.size := by have := HZT.out; omega
    have q8 : ¬ w.heap.size = zt := fun e => q7 e.symm
    subst hjl
    obtain ⟨W, hWe, k1, HTP⟩ := T.fin htl HFIN.out.2 h6 HFIN.out.1
    have HTP : Hid (OutP dp (N + 1) i w (.returned (.agg #[.int .i64 k, .string ⟨nm.toArray⟩, .slice va aL.length vc])) W) := HTP
    clear T HP CI HFIN
    go_wp2
    rw [← hWe]
    obtain ⟨s0, s1, s2⟩ := heap_cells k1
    refine bodyPost_ret (v := .agg #[.int .i64 k, .string ⟨nm.toArray⟩, .slice va aL.length vc]) (by simp [results, Tryz.results81, go_sem, s0, s1, s2]) rfl ?_
    exact HTP.out
theorem out_any {lo G tn : Nat} {NN : List (List UInt8)} {xs : List Px} {dn : Nat → List Nd} {rt rk : Nat → Nat} {dp : Nat → List Nd} {ls : Nat → List UInt8} {gl lc : Nat} (hD : BsX xs dn rt rk dp) (hls : ∀ r, r < xs.length → loP xs r = none → (lbP xs r).1 = 2 → dp r = [(2, ls r, 0)]) : ∀ (N : Nat) (w : World) (i : Nat), BX w lo G xs NN tn → LsAt w xs.length gl lc ls → i < xs.length → (dp i).length ≤ N → Okr (dp i) → Calls Tryz.prog 81 #[.pointer (some ⟨G, 0, none⟩), .int .i64 i, .slice (some ⟨gl, 0, none⟩) xs.length lc] w (OutP dp N i w)
 | 0, _, i, _, _, hi, hN, _ => by
  have h1 := (hD.bs.tree hi).2.2
  have h2 := hD.bs.den.form hi
  rw [h1, h2] at hN
  simp at hN
 | N + 1, w, i, h1, h2, h3, h4, h5 => out_step hD hls N (out_any hD hls N) w i h1 h2 h3 h4 h5
end Go.Proofs.YtikpipenhamdbaaGreat
