/- The board: the contract of bounds. -/
import Derived.Test.YtikpipenhamdbaaGreatZp
import Derived.Test.YtikpipenhamdbaaGreatHr
import Derived.BigQuiet
namespace Go.Proofs.YtikpipenhamdbaaGreat
open Go.RowKit Go.Maps

/-- What bounds answers. -/
def BbP (N : List (List UInt8)) (M : List (List UInt8 × List Nd)) (w : World) (e : Ending) (w' : World) : Prop :=
 ∃ (v : Value) (es : List Bl4) (bs : List Bd) (rss : List (List (Value × Nat))), e = .returned v ∧ RowB w' w.heap.size v es bs rss ∧ bs.map (·.1) = N.filter (pL M) ∧ (∀ x ∈ bs, flat x.2.1 x.2.2 = subL M [(2, x.1, 0)]) ∧ Below w.heap.size w w'
set_option maxHeartbeats 16000000 in
set_option maxRecDepth 10000 in
theorem bbounds_any {w : World} {lo G tn : Nat} {N : List (List UInt8)} {xs : List Px} {dn : Nat → List Nd} {rt rk : Nat → Nat} {dp : Nat → List Nd} {M : List (List UInt8 × List Nd)} (hX : BX w lo G xs N tn) (hB : BsX xs dn rt rk dp) (hnv : N.length ≤ xs.length) (isv : ∀ i, i < xs.length → (lbP xs i).1 = 2 → i < N.length) (val : ∀ i (h : i < N.length), dp i = subL M [(2, N[i], 0)]) (hs : N.Pairwise (fun a b => a < b)) (hM : Lok M) (hl : Lss M) (hL : Low N M) (hv : ∀ n ∈ N, varB n = true) (hO : Okl M) (h5 : ∀ i, i < N.length → (dp i).length ≤ 500) :
  Calls Tryz.prog 59 #[.pointer (some ⟨G, 0, none⟩)] w (BbP N M w) := by
 have hnum := hX.num
 have hmk := make_strs w xs.length hnum.1
 rw [lsV_made] at hmk
 obtain ⟨W0, hW0⟩ : ∃ W0, W0 = w.alloc (.cells (lsV xs.length fun _ => []) 9) := ⟨_, rfl⟩
 have hb0 : Below w.heap.size w W0 := by rw [hW0]; exact (Below.refl _ _).alloc (Nat.le_refl _) _
 have H0 : Hid (LfW w W0 N xs.length rt 0) := ⟨hb0, _, by rw [hW0]; exact heap_alloc_new w _, fun r => .inr ⟨fun m h => by omega, rfl⟩⟩
 obtain ⟨v0, vc0, c00, _⟩ : ∃ v0 vc0, w.cell? ⟨G, 0, none⟩ = some (.slice v0 xs.length vc0) ∧ True := by
  obtain ⟨v, nv, vv, ps, rfl, hBS⟩ := hX
  rcases id hBS.own.2 with ⟨e1, e2⟩ | ⟨g, cap, _, e1, _⟩
  ·exact ⟨none, 0, by rw [(four_cells hBS.box).1, e1, List.length_map, e2], trivial⟩
  ·exact ⟨_, cap, by rw [(four_cells hBS.box).1, e1, List.length_map], trivial⟩
 have HX : Hid (BX w lo G xs N tn ∧ BsX xs dn rt rk dp ∧ N.length ≤ xs.length) := ⟨hX, hB, hnv⟩
 have hN0 : ∀ n ∈ N, n ≠ [] := fun n hn e => by
  have := hv n hn
  rw [e] at this
  exact absurd this (by decide)
 have HNE : Hid (∀ n ∈ N, n ≠ []) := hN0
 have HVL : Hid ((∀ i, i < xs.length → (lbP xs i).1 = 2 → i < N.length) ∧ (∀ i (h : i < N.length), dp i = subL M [(2, N[i], 0)]) ∧ N.Pairwise (fun a b => a < b) ∧ Lok M ∧ Lss M ∧ Low N M ∧ (∀ n ∈ N, varB n = true) ∧ Okl M ∧ ∀ i (h : i < N.length), (dp i).length ≤ 500) := ⟨isv, val, hs, hM, hl, hL, hv, hO, h5⟩
 have hNl : N.length ≤ 200000000 := by omega
 have hxl := hnum.1
 clear hX hB isv val hs hM hl hL hv hO h5 hN0 hnum
 go_enter Tryz.func59, Tryz.ntmps59
 go_upto_region 2 with fail
 rw [← hW0]
 clear hmk hW0 c00
 go_wp2
 go_loopw [4] (fun iv wr => ∃ j : Nat, j ≤ N.length ∧ iv = .int .i64 j ∧ Hid (LfW w wr N xs.length rt j)) (fun iv _ => N.length - (intOf iv).toNat)
 case atStart => exact ⟨0, by omega, by go_num, H0.out⟩
 case round =>
  obtain ⟨j, hj, rfl, HP⟩ := hrel
  clear H0
  obtain ⟨hbel, lf, hlst, hLf⟩ := HP.out
  obtain ⟨hX, hB, hnv⟩ := HX.out
  have hXr := hX.below hbel
  obtain ⟨na, nc, c1, hnames⟩ := hXr.names
  obtain ⟨va, vc, c2, hvars⟩ := hXr.vars
  by_cases hlt : j < N.length
  ·have hlt' : (j : Int) < (N.length : Int) := by omega
   have j1 : (0 : Int) ≤ (j : Int) := by omega
   have hne : N ≠ [] := by intro e; rw [e] at hlt; simp at hlt
   obtain ⟨gn, rfl, hnc, hncell⟩ := hnames hne
   obtain ⟨gv, rfl, hvc, hvcell⟩ := hvars hne
   have cn := hncell j hlt
   have cvj := hvcell j hlt
   have hjx : j < xs.length := by omega
   have CE := bend_any hXr hB j hjx
   have hr := hB.bs.den.rt_lt hjx
   have cl : wr.cell? ⟨w.heap.size, rt j, none⟩ = some (.string ⟨(lf (rt j)).toArray⟩) := by
    simp only [World.cell?, hlst]
    simpa using lsV_at lf hr
   have fl := heap_frozen (o := rt j) hlst
   have i1 : (0 : Int) ≤ (rt j : Int) := by omega
   have i2 : (rt j : Int) < (xs.length : Int) := by omega
   have HLT : Hid (j < N.length) := hlt
   by_cases hem : lf (rt j) = []
   ·have hem' : (lf (rt j) == []) = true := by simpa using hem
    have HNX : Hid (LfW w (wr.setCell ⟨w.heap.size, rt j, none⟩ (.string ⟨N[j].toArray⟩)) N xs.length rt (j + 1)) := by
     refine ⟨⟨hbel.os, hbel.tape, hbel.output, by simpa [World.setCell] using hbel.size, fun k hk => ?_⟩, setL lf (rt j) N[j], ?_, hLf.step HNE.out hlt hem⟩
     ·rw [Below.heap_setCell _ _ _ _ (show k ≠ w.heap.size by omega)]
      exact hbel.block k hk
     ·rw [setCell_block hlst, lsV_set]
    clear HP hbel hlst hLf hX hB hXr hnames hvars hncell hvcell hem
    generalize N[j] = nj at *
    generalize lf (rt j) = lj at *
    clear hlt
    go_wp2_with (go_at_call 79; (with_reducible refine Calls.mono CE ?_); rintro e' w1 ⟨rfl, rfl⟩)
    go_roundw
    case rel => exact ⟨j + 1, HLT.out, by go_num, HNX.out⟩
    case measure => have := HLT.out; simp [intOf]; omega
   ·have hem' : (lf (rt j) == []) = false := by simpa using hem
    have HNX : Hid (LfW w wr N xs.length rt (j + 1)) := ⟨hbel, lf, hlst, hLf.skip hem⟩
    clear HP hbel hlst hLf hX hB hXr hnames hvars hncell hvcell hem
    generalize N[j] = nj at *
    generalize lf (rt j) = lj at *
    clear hlt
    go_wp2_with (go_at_call 79; (with_reducible refine Calls.mono CE ?_); rintro e' w1 ⟨rfl, rfl⟩)
    go_roundw
    case rel => exact ⟨j + 1, HLT.out, by go_num, HNX.out⟩
    case measure => have := HLT.out; simp [intOf]; omega
  ·have hlt' : ¬ (j : Int) < (N.length : Int) := by omega
   have hje : j = N.length := by omega
   rw [hje] at hLf
   obtain ⟨isv, val, hs, hM, hl, hL, hv, hO, h5⟩ := HVL.out
   have hls := hLf.done hB hnv isv val hs hM hl hL
   have H1 : Hid (BpW w wr xs.length lf M N 0 (.slice none 0 0) [] [] []) := ⟨hbel, hlst, RowB.nil _ _, by simp, fun x hx => by simp at hx⟩
   have HLS : Hid (∀ r, r < xs.length → loP xs r = none → (lbP xs r).1 = 2 → dp r = [(2, lf r, 0)]) := hls
   clear HP hbel hlst hLf hX hB hXr hnames hvars isv val hs hM hl hL hv hO h5 hls hje
   go_upto_region 9 with fail
   go_wp2
   obtain ⟨i0, hi, hz0, hz1, hz2⟩ := info_parts Tryz.info48b
   go_loopw [6, 7] (fun sv iv wq => ∃ (j m : Nat) (sa : Option Addr) (sc : Nat) (es : List Bl4) (bs : List Bd) (rss : List (List (Value × Nat))), j ≤ N.length ∧ iv = .int .i64 j ∧ sv = .slice sa m sc ∧ m ≤ j ∧ Hid (es.length = m ∧ BpW w wq xs.length lf M N j (.slice sa m sc) es bs rss)) (fun _ iv _ => N.length - (intOf iv).toNat)
   case atStart => exact ⟨0, 0, none, 0, [], [], [], by omega, by go_num, rfl, by omega, rfl, H1.out⟩
   case round =>
    obtain ⟨j, m, sa, sc, es, bs, rss, hj, rfl, rfl, hmj, HP⟩ := hrel
    clear H1 c1 c2
    obtain ⟨hel, T⟩ := HP.out
    obtain ⟨hX, hB, hnv⟩ := HX.out
    have hXr := hX.below T.bel
    obtain ⟨na, nc, c1, hnames⟩ := hXr.names
    obtain ⟨va, vc, c2, hvars⟩ := hXr.vars
    by_cases hlt : j < N.length
    ·have hlt' : (j : Int) < (N.length : Int) := by omega
     have j1 : (0 : Int) ≤ (j : Int) := by omega
     have hne : N ≠ [] := by intro e; rw [e] at hlt; simp at hlt
     obtain ⟨gn, rfl, hnc, hncell⟩ := hnames hne
     obtain ⟨gv, rfl, hvc, hvcell⟩ := hvars hne
     have cvj := hvcell j hlt
     have hjx : j < xs.length := by omega
     obtain ⟨isv, val, hs, hM, hl, hL, hv, hO, h5⟩ := HVL.out
     have hvn := hv _ (List.getElem_mem hlt)
     have hnj : N[j].length < 140737488355328 := by have := var_len hvn; omega
     have hdj := val j hlt
     have hokr : Okr (dp j) := by
      rw [hdj]
      exact hO.subL _ (Okr.cons.2 ⟨ok_two hvn, Okr.nil⟩)
     have hLs : LsAt wr xs.length w.heap.size xs.length lf := by
      refine ⟨Nat.le_refl _, lt_of_heap T.lst, fun r hr => ?_⟩
      simp only [World.cell?, T.lst]
      simpa using lsV_at lf hr
     obtain ⟨κ, ν, la, rest, hhd⟩ : ∃ κ ν la rest, dp j = (κ, ν, la) :: rest := by
      have h1 := (hB.bs.tree hjx).1
      cases h : dp j with
      | nil => rw [h] at h1; simp [eats] at h1
      | cons nd r => exact ⟨nd.1, nd.2.1, nd.2.2, r, rfl⟩
     have hsing : κ = 2 → dp j = [(2, ν, 0)] := fun q => by
      obtain ⟨h1, h2, _⟩ := hB.bs.tree hjx
      rw [hhd, q] at h1 h2 ⊢
      have h0 := (vok_cons.1 h2).1 rfl
      have h0 : la = 0 := h0
      subst h0
      have h1 : eats (0 + 0) rest = true := h1
      cases rest with
      | nil => rfl
      | cons => simp [eats] at h1
     have C1 : Calls Tryz.prog 81 #[.pointer (some ⟨G, 0, none⟩), .int .i64 (j : Nat), .slice (some ⟨w.heap.size, 0, none⟩) xs.length xs.length] wr fun e w6 => ∃ (ad : Option Addr) (len cap : Nat), e = .returned (.agg #[.int .i64 κ, .string ⟨ν.toArray⟩, .slice ad len cap]) ∧ (w6.cell? ⟨G, 1, none⟩ = some (.slice (some ⟨gn, 0, none⟩) N.length nc) ∧ w6.cell? ⟨gn, j, none⟩ = some (.string ⟨N[j].toArray⟩) ∧ w6.ownsRow (w.heap.size + 1) 48 4 (.slice sa m sc) m (es.flatMap bCells) ∧ w.heap.size + 1 ≤ w6.heap.size ∧ gn < w6.heap.size ∧ G < w6.heap.size) ∧ Hid (Below wr.heap.size wr w6 ∧ ∃ (t : Tn 500) (rws : List (Value × Nat)), TyO w6 wr.heap.size 500 (elV (κ, ⟨ν.toArray⟩, .slice ad len cap)) t rws ∧ SepB wr.heap.size w6.heap.size rws ∧ flat 500 t = subL M [(2, N[j], 0)]) := by
      refine Calls.mono (out_any hB HLS.out 500 wr j hXr hLs hjx (h5 j hlt) hokr) ?_
      rintro e w6 ⟨k, n, ad, len, cap, t, rws, rfl, hT, hS, hfl, hb6⟩
      have hkn : k = κ ∧ n = ⟨ν.toArray⟩ := by
       obtain ⟨⟨k', n'⟩, ts⟩ := t
       obtain ⟨v', e1, _⟩ := id hT
       simp only [Value.agg.injEq, Array.mk.injEq, List.cons.injEq, Value.int.injEq, Value.string.injEq, true_and, and_true] at e1
       rw [flat_succ, hhd] at hfl
       injection hfl with f1 f2
       have g1 : k' = κ := congrArg (fun z => z.1) f1
       have g2 : n' = ν := congrArg (fun z => z.2.1) f1
       exact ⟨by rw [e1.1, g1], by rw [e1.2.1, g2]⟩
      obtain ⟨rfl, rfl⟩ := hkn
      have hX6 := hXr.below hb6
      have hown := T.row.own
      rw [hel] at hown
      have hGl := hXr.num.2.2.1
      have hgn : gn < wr.heap.size := lt_cell (hncell j hlt)
      refine ⟨ad, len, cap, rfl, ⟨(hb6.cell (p := ⟨G, 1, none⟩) hGl).trans c1, (hb6.cell (p := ⟨gn, j, none⟩) hgn).trans (hncell j hlt), own_keep hown fun k hk => hb6.block k (hown.lt k hk).2, by have := lt_of_heap T.lst; have := hb6.size; omega, by have := hb6.size; omega, by have := hb6.size; omega⟩, hb6, t, rws, hT, hS, by rw [hfl, hdj]⟩
     have HPL : Hid (pL M N[j] = decide (dp j ≠ [(2, N[j], 0)])) := by show _ = _; unfold pL; rw [← hdj]
     have HHD : Hid (dp j = (κ, ν, la) :: rest ∧ (κ = 2 → dp j = [(2, ν, 0)])) := ⟨hhd, hsing⟩
     have HNJ : Hid (N[j].length < 140737488355328) := hnj
     have HSK : Hid (∀ w6 ob w7, Below wr.heap.size wr w6 → Sm (w6.alloc ob) w7 → pL M N[j] = false → BpW w w7 xs.length lf M N (j + 1) (.slice sa m sc) es bs rss) := fun w6 ob w7 hb s hp => ((T.below hb).below (((Below.refl _ _).alloc (Nat.le_refl _) ob).trans (s.below _))).skip hlt hp
     have HEL : Hid (es.length = m) := hel
     have HLT : Hid (j < N.length) := hlt
     clear T hel hX hB hXr hnames hvars hncell hvcell isv val hs hM hl hL hv hO h5 hvn hdj hokr hLs hhd hsing hnj
     generalize hnj2 : N[j] = nj at *
     have HNJ2 : Hid (∃ h : j < N.length, N[j] = nj) := ⟨HLT.out, hnj2⟩
     clear hnj2 hlt
     go_upto_region 13 with (first | (go_at_call 81; (with_reducible refine Calls.mono C1 ?_); rintro e' w6 ⟨ad6, len6, cap6, rfl, ⟨d1, d2, d3, d4, d5, d6⟩, H6⟩))
     obtain ⟨W7, hW7⟩ : ∃ W7, W7 = w6.alloc (Obj.cells #[.int .i64 κ, .string ⟨ν.toArray⟩, .slice ad6 len6 cap6] 29) := ⟨_, rfl⟩
     rw [← hW7]
     have hb7 : Below w6.heap.size w6 W7 := by rw [hW7]; exact (Below.refl _ _).alloc (Nat.le_refl _) _
     have hx7 : W7.heap[w6.heap.size]? = some (.cells #[.int .i64 κ, .string ⟨ν.toArray⟩, .slice ad6 len6 cap6] 29 (0, 0)) := by rw [hW7]; exact heap_alloc_new w6 _
     obtain ⟨y0, y1, y2⟩ := heap_cells hx7
     have k1 : W7.cell? ⟨G, 1, none⟩ = some (.slice (some ⟨gn, 0, none⟩) N.length nc) := (hb7.cell (p := ⟨G, 1, none⟩) d6).trans d1
     have k2 : W7.cell? ⟨gn, j, none⟩ = some (.string ⟨nj.toArray⟩) := (hb7.cell (p := ⟨gn, j, none⟩) d5).trans d2
     have own7 : W7.ownsRow (w.heap.size + 1) 48 4 (.slice sa m sc) m (es.flatMap bCells) := own_keep d3 fun k hk => hb7.block k (d3.lt k hk).2
     have hs7 : w.heap.size + 1 ≤ W7.heap.size := Nat.le_trans d4 hb7.size
     have hG7 : G < W7.heap.size := Nat.lt_of_lt_of_le d6 hb7.size
     have hgn7 : gn < W7.heap.size := Nat.lt_of_lt_of_le d5 hb7.size
     have hz7 : w6.heap.size < W7.heap.size := lt_of_heap hx7
     have HSKP : Hid (∀ U, Sm W7 U → pL M nj = false → BpW w U xs.length lf M N (j + 1) (.slice sa m sc) es bs rss) := fun U s hp => HSK.out w6 _ U H6.out.1 (by rw [hW7] at s; exact s) hp
     have HPSH : Hid (∀ U, Sm W7 U → pL M nj = true → ∀ (g cap : Nat) (w8 : World) (o : Obj), w8.ownsRow (w.heap.size + 1) 48 4 (.slice (some ⟨g, 0, none⟩) (m + 1) cap) (m + 1) (es.flatMap bCells ++ [.string ⟨nj.toArray⟩, .int .i64 κ, .string ⟨ν.toArray⟩, .slice ad6 len6 cap6]) → (U.alloc o).grownBy w8 (Value.slice sa m sc).ownBlock → ((Value.slice sa m sc).ownBlock = some g ∨ U.heap.size ≤ g) → ∃ (es' : List Bl4) (bs' : List Bd) (rss' : List (List (Value × Nat))), es'.length = m + 1 ∧ BpW w w8 xs.length lf M N (j + 1) (.slice (some ⟨g, 0, none⟩) (m + 1) cap) es' bs' rss') := fun U s hp g cap w8 o ho hg hat => by
      obtain ⟨hj', hnj'⟩ := HNJ2.out
      obtain ⟨hel, T⟩ := HP.out
      obtain ⟨hb6, t6, rws6, hT6, hS6, hfl6⟩ := H6.out
      have hbU : Below w6.heap.size w6 U := hb7.trans (s.below _)
      have hT7 : TyO U wr.heap.size 500 (elV (κ, ⟨ν.toArray⟩, .slice ad6 len6 cap6)) t6 rws6 := TyO.on _ _ _ _ (fun p hp g hg => by
       obtain ⟨g', e1, e2, e3⟩ := hS6.1 p hp
       rw [hg] at e1
       have := Option.some.inj e1
       exact hbU.block g (by omega)) hT6
      have hS7 : SepB wr.heap.size U.heap.size rws6 := ⟨fun p hp => by obtain ⟨g', e1, e2, e3⟩ := hS6.1 p hp; exact ⟨g', e1, e2, by have := hbU.size; omega⟩, hS6.2⟩
      subst hnj'
      exact ⟨_, _, _, by simp [hel], T.push hel hj' hp HNJ.out (hb6.trans (hbU.mono hb6.size)) hT7 hS7 hfl6 ho hg hat⟩
     clear hW7 hb7 hx7 d1 d2 d3 d4 d5 d6 HP HSK C1
     generalize w6.heap.size = z7 at *
     by_cases hk2 : κ = 2
     ·subst hk2
      have h22 : ((2 : Int) != 2) = false := by decide
      by_cases hnn : ν = nj
      ·have hnnb : (ν == nj) = true := by simpa using hnn
       have HPF : Hid (pL M nj = false) := by
        show _ = _
        rw [HPL.out, HHD.out.2 rfl, hnn]
        simp
       clear HPSH hnn
       go_quiet (fail)
       go_wp2
       go_roundw
       case rel => exact ⟨j + 1, m, sa, sc, es, bs, rss, HLT.out, by go_num, rfl, by omega, by have := HEL.out; exact this, HSKP.out _ ⟨rfl, rfl, rfl, rfl⟩ HPF.out⟩
       case measure => have := HLT.out; simp [intOf]; omega
      ·have hnnb : (ν == nj) = false := by simpa using hnn
       have HPT : Hid (pL M nj = true) := by
        show _ = _
        rw [HPL.out, HHD.out.2 rfl]
        simpa using hnn
       clear HSKP hnn
       go_quiet (fail)
       generalize hU : W7.drewN _ = U
       have sU : Sm W7 U := by rw [← hU]; exact ⟨rfl, rfl, rfl, rfl⟩
       clear hU
       have z0 : U.cell? ⟨z7, 0, none⟩ = some (.int .i64 2) := (World.cell?_of_block (a := ⟨z7, 0, none⟩) (by rw [sU.heap])).trans y0
       have z1 : U.cell? ⟨z7, 1, none⟩ = some (.string ⟨ν.toArray⟩) := (World.cell?_of_block (a := ⟨z7, 1, none⟩) (by rw [sU.heap])).trans y1
       have z2 : U.cell? ⟨z7, 2, none⟩ = some (.slice ad6 len6 cap6) := (World.cell?_of_block (a := ⟨z7, 2, none⟩) (by rw [sU.heap])).trans y2
       have z3 : U.cell? ⟨G, 1, none⟩ = some (.slice (some ⟨gn, 0, none⟩) N.length nc) := (World.cell?_of_block (a := ⟨G, 1, none⟩) (by rw [sU.heap])).trans k1
       have z4 : U.cell? ⟨gn, j, none⟩ = some (.string ⟨nj.toArray⟩) := (World.cell?_of_block (a := ⟨gn, j, none⟩) (by rw [sU.heap])).trans k2
       have ownU : U.ownsRow (w.heap.size + 1) 48 4 (.slice sa m sc) m (es.flatMap bCells) := own_keep own7 fun k _ => by rw [sU.heap]
       have hsU : w.heap.size + 1 ≤ U.heap.size := by rw [sU.heap]; exact hs7
       have HPU : Hid (∀ (g cap : Nat) (w8 : World) (o : Obj), w8.ownsRow (w.heap.size + 1) 48 4 (.slice (some ⟨g, 0, none⟩) (m + 1) cap) (m + 1) (es.flatMap bCells ++ [.string ⟨nj.toArray⟩, .int .i64 2, .string ⟨ν.toArray⟩, .slice ad6 len6 cap6]) → ((U.alloc o).drew).grownBy w8 (Value.slice sa m sc).ownBlock → ((Value.slice sa m sc).ownBlock = some g ∨ g = U.heap.size + 1) → ∃ (es' : List Bl4) (bs' : List Bd) (rss' : List (List (Value × Nat))), es'.length = m + 1 ∧ BpW w w8 xs.length lf M N (j + 1) (.slice (some ⟨g, 0, none⟩) (m + 1) cap) es' bs' rss') := fun g cap w8 o ho hg hat => HPSH.out U sU HPT.out g cap w8 o ho ⟨hg.os, hg.tape, hg.output, hg.size, hg.block⟩ (by rcases hat with q | q; exact .inl q; exact .inr (by omega))
       have nz : ¬ z7 = U.heap.size := by rw [sU.heap]; omega
       have nG : ¬ G = U.heap.size := by rw [sU.heap]; omega
       have ng : ¬ gn = U.heap.size := by rw [sU.heap]; omega
       clear y0 y1 y2 k1 k2 own7 hs7 hG7 hgn7 hz7 HPSH sU
       go_upto_region 14 with fail
       go_region_law ((refine step_append_lies _ (by rfl) _ _ _ (by rfl) (w.heap.size + 1) 48 i0 _ 4 64 Tryz.underlying23 hi hz0 hz1 hz2 rfl (by omega) (.slice sa m sc) m (es.flatMap bCells) (by rfl) ((ownU.alloc _).drew) ⟨U.heap.size, 0, none⟩ 1 1 [.string ⟨nj.toArray⟩, .int .i64 2, .string ⟨ν.toArray⟩, .slice ad6 len6 cap6] (by rfl) (by rfl) (World.news_of_block (cs := #[.string ⟨nj.toArray⟩, .int .i64 2, .string ⟨ν.toArray⟩, .slice ad6 len6 cap6]) (t := 48) (fr := (0, 0)) (heap_alloc_new U _)) (by simp [Value.oneCell']) (by omega) (by unfold maxLen; omega) (by omega) (by simp; omega) (U.heap.size + 1) (by simp) ?_; intro g8 cap8 w8 hown8 hgrow8 hat8 hlt8; obtain ⟨es', bs', rss', hel', HB'⟩ := HPU.out g8 cap8 w8 _ hown8 hgrow8 hat8))
       all_goals
        have HB2 : Hid (es'.length = m + 1 ∧ BpW w w8 xs.length lf M N (j + 1) (.slice (some ⟨g8, 0, none⟩) (m + 1) cap8) es' bs' rss') := ⟨hel', HB'⟩
        clear hown8 hgrow8 hat8 hlt8 hel' HB'
        go_wp2
        go_roundw
        case rel => exact ⟨j + 1, m + 1, _, _, es', bs', rss', HLT.out, by go_num, rfl, by omega, HB2.out⟩
        case measure => have := HLT.out; simp [intOf]; omega
     ·have hk2b : (κ != 2) = true := by simpa using hk2
      have hk2c : (κ == 2) = false := by simpa using hk2
      have HPT : Hid (pL M nj = true) := by
       show _ = _
       rw [HPL.out, HHD.out.1]
       simp
       exact .inl hk2
      clear HSKP
      go_quiet (fail)
      generalize hU : W7.drewN _ = U
      have sU : Sm W7 U := by rw [← hU]; exact ⟨rfl, rfl, rfl, rfl⟩
      clear hU
      have z0 : U.cell? ⟨z7, 0, none⟩ = some (.int .i64 κ) := (World.cell?_of_block (a := ⟨z7, 0, none⟩) (by rw [sU.heap])).trans y0
      have z1 : U.cell? ⟨z7, 1, none⟩ = some (.string ⟨ν.toArray⟩) := (World.cell?_of_block (a := ⟨z7, 1, none⟩) (by rw [sU.heap])).trans y1
      have z2 : U.cell? ⟨z7, 2, none⟩ = some (.slice ad6 len6 cap6) := (World.cell?_of_block (a := ⟨z7, 2, none⟩) (by rw [sU.heap])).trans y2
      have z3 : U.cell? ⟨G, 1, none⟩ = some (.slice (some ⟨gn, 0, none⟩) N.length nc) := (World.cell?_of_block (a := ⟨G, 1, none⟩) (by rw [sU.heap])).trans k1
      have z4 : U.cell? ⟨gn, j, none⟩ = some (.string ⟨nj.toArray⟩) := (World.cell?_of_block (a := ⟨gn, j, none⟩) (by rw [sU.heap])).trans k2
      have ownU : U.ownsRow (w.heap.size + 1) 48 4 (.slice sa m sc) m (es.flatMap bCells) := own_keep own7 fun k _ => by rw [sU.heap]
      have hsU : w.heap.size + 1 ≤ U.heap.size := by rw [sU.heap]; exact hs7
      have HPU : Hid (∀ (g cap : Nat) (w8 : World) (o : Obj), w8.ownsRow (w.heap.size + 1) 48 4 (.slice (some ⟨g, 0, none⟩) (m + 1) cap) (m + 1) (es.flatMap bCells ++ [.string ⟨nj.toArray⟩, .int .i64 κ, .string ⟨ν.toArray⟩, .slice ad6 len6 cap6]) → ((U.alloc o).drew).grownBy w8 (Value.slice sa m sc).ownBlock → ((Value.slice sa m sc).ownBlock = some g ∨ g = U.heap.size + 1) → ∃ (es' : List Bl4) (bs' : List Bd) (rss' : List (List (Value × Nat))), es'.length = m + 1 ∧ BpW w w8 xs.length lf M N (j + 1) (.slice (some ⟨g, 0, none⟩) (m + 1) cap) es' bs' rss') := fun g cap w8 o ho hg hat => HPSH.out U sU HPT.out g cap w8 o ho ⟨hg.os, hg.tape, hg.output, hg.size, hg.block⟩ (by rcases hat with q | q; exact .inl q; exact .inr (by omega))
      have nz : ¬ z7 = U.heap.size := by rw [sU.heap]; omega
      have nG : ¬ G = U.heap.size := by rw [sU.heap]; omega
      have ng : ¬ gn = U.heap.size := by rw [sU.heap]; omega
      clear y0 y1 y2 k1 k2 own7 hs7 hG7 hgn7 hz7 HPSH sU
      go_upto_region 14 with fail
      go_region_law ((refine step_append_lies _ (by rfl) _ _ _ (by rfl) (w.heap.size + 1) 48 i0 _ 4 64 Tryz.underlying23 hi hz0 hz1 hz2 rfl (by omega) (.slice sa m sc) m (es.flatMap bCells) (by rfl) ((ownU.alloc _).drew) ⟨U.heap.size, 0, none⟩ 1 1 [.string ⟨nj.toArray⟩, .int .i64 κ, .string ⟨ν.toArray⟩, .slice ad6 len6 cap6] (by rfl) (by rfl) (World.news_of_block (cs := #[.string ⟨nj.toArray⟩, .int .i64 κ, .string ⟨ν.toArray⟩, .slice ad6 len6 cap6]) (t := 48) (fr := (0, 0)) (heap_alloc_new U _)) (by simp [Value.oneCell']) (by omega) (by unfold maxLen; omega) (by omega) (by simp; omega) (U.heap.size + 1) (by simp) ?_; intro g8 cap8 w8 hown8 hgrow8 hat8 hlt8; obtain ⟨es', bs', rss', hel', HB'⟩ := HPU.out g8 cap8 w8 _ hown8 hgrow8 hat8))
      all_goals
       have HB2 : Hid (es'.length = m + 1 ∧ BpW w w8 xs.length lf M N (j + 1) (.slice (some ⟨g8, 0, none⟩) (m + 1) cap8) es' bs' rss') := ⟨hel', HB'⟩
       clear hown8 hgrow8 hat8 hlt8 hel' HB'
       go_wp2
       go_roundw
       case rel => exact ⟨j + 1, m + 1, _, _, es', bs', rss', HLT.out, by go_num, rfl, by omega, HB2.out⟩
       case measure => have := HLT.out; simp [intOf]; omega
    ·have hlt' : ¬ (j : Int) < (N.length : Int) := by omega
     have HF : Hid (BbP N M w (.returned (.slice sa m sc)) wr) := by
      have e : j = N.length := by omega
      rw [e] at T
      have hn := T.nms
      rw [List.take_length] at hn
      exact ⟨_, es, bs, rss, rfl, T.row.low (by omega), hn, T.val, T.bel⟩
     clear HP T hX hB hXr hnames hvars hel
     go_wp2
     go_ret
     exact HF.out
end Go.Proofs.YtikpipenhamdbaaGreat
