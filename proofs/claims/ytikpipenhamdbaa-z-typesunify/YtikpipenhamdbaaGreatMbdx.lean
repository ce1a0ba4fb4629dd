/- lentPairs: a row of pairs in memory of its own, with marks behind it. keptPairs: is a row of pairs that was lent as it was, and what stands behind it? -/
import Derived.Test.YtikpipenhamdbaaGreatMbcx
import Derived.Test.YtikpipenhamdbaaGreatMamx
import Derived.Test.YtikpipenhamdbaaGreatMaux
import Derived.Deep.QuietTactic
import Derived.BigQuiet
import Derived.Deep.RegionHeld3
namespace Go.Proofs.YtikpipenhamdbaaGreat
open Go.RowKit

/-- Three cells of a row are stored. -/
theorem store3_at {U : World} {G q n : Nat} {t : TypeId} {cur : Array Value} (h : U.heap[G]? = some (.cells cur t (0, 0))) (hs : cur.size = n) (hq : q + 2 < n) (a b c : Value) : ∃ W cur', W = ((U.setCell ⟨G, q, none⟩ a).setCell ⟨G, q + 1, none⟩ b).setCell ⟨G, q + 2, none⟩ c ∧ W.heap[G]? = some (.cells cur' t (0, 0)) ∧ cur'.size = n ∧
  (W.cell? ⟨G, q, none⟩ = some a ∧ W.cell? ⟨G, q + 1, none⟩ = some b ∧ W.cell? ⟨G, q + 2, none⟩ = some c) ∧ (∀ x, x < q ∨ q + 2 < x → W.cell? ⟨G, x, none⟩ = U.cell? ⟨G, x, none⟩) ∧ (∀ g, g ≠ G → W.heap[g]? = U.heap[g]?) ∧ W.heap.size = U.heap.size ∧ Below G U W := by
 have h3 := setCell_block (i := q + 2) (v := c) (setCell_block (i := q + 1) (v := b) (setCell_block (i := q) (v := a) h))
 refine ⟨_, _, rfl, h3, by simpa using hs, ⟨?_, ?_, ?_⟩, fun x hx => ?_, fun g hg => ?_, by simp [World.setCell], (((Below.refl G U).setCell (Nat.le_refl _) a).setCell (Nat.le_refl _) b).setCell (Nat.le_refl _) c⟩
 ·rw [cell_block h3, Array.getElem?_setIfInBounds_ne (by omega), Array.getElem?_setIfInBounds_ne (by omega), Array.getElem?_setIfInBounds_self_of_lt (by omega)]
 ·rw [cell_block h3, Array.getElem?_setIfInBounds_ne (by omega), Array.getElem?_setIfInBounds_self_of_lt (by simp; omega)]
 ·rw [cell_block h3, Array.getElem?_setIfInBounds_self_of_lt (by simp; omega)]
 ·rw [cell_block h3, cell_block h, Array.getElem?_setIfInBounds_ne (by omega), Array.getElem?_setIfInBounds_ne (by omega), Array.getElem?_setIfInBounds_ne (by omega)]
 ·rw [Below.heap_setCell _ _ _ _ hg, Below.heap_setCell _ _ _ _ hg, Below.heap_setCell _ _ _ _ hg]
/-- Three cells hold an element. -/
def At3 (w : World) (G q : Nat) (e : El) : Prop := w.cell? ⟨G, q, none⟩ = some (.int .i64 e.1) ∧ w.cell? ⟨G, q + 1, none⟩ = some (.string e.2.1) ∧ w.cell? ⟨G, q + 2, none⟩ = some e.2.2
/-- So many pairs of a row that was lent: lent trees; marks behind. -/
structure LpW (w wr : World) (G : Nat) (ps : List Pr) (j : Nat) (E F : Nat → El) : Prop where
 bel : Below G w wr
 row : ∃ cur, wr.heap[G]? = some (.cells cur 34 (0, 0)) ∧ cur.size = (ps.length + 3) * 6
 ca : ∀ i, i < j → At3 wr G (i * 6) (E i)
 cb : ∀ i, i < ps.length → i < j → At3 wr G (i * 6 + 3) (F i)
 ta : ∀ i (h : i < ps.length), i < j → TyL wr (fun g => G < g ∧ g < wr.heap.size) ps[i].1.1 (elV (E i)) ps[i].1.2
 tb : ∀ i (h : i < ps.length), i < j → TyL wr (fun g => G < g ∧ g < wr.heap.size) ps[i].2.1 (elV (F i)) ps[i].2.2
 mrk : ∀ i, ps.length ≤ i → i < j → E i = markE
theorem LpW.below {w wr w' : World} {G : Nat} {ps : List Pr} {j : Nat} {E F : Nat → El} (h : LpW w wr G ps j E F) (hb : Below wr.heap.size wr w') : LpW w w' G ps j E F := by
 obtain ⟨cur, hr, hs⟩ := h.row
 have hG := lt_of_heap hr
 have mv : ∀ {q : Nat} {e : El}, At3 wr G q e → At3 w' G q e := fun {q e} a => ⟨(hb.cell (p := ⟨G, q, none⟩) hG).trans a.1, (hb.cell (p := ⟨G, q + 1, none⟩) hG).trans a.2.1, (hb.cell (p := ⟨G, q + 2, none⟩) hG).trans a.2.2⟩
 exact ⟨h.bel.trans (hb.mono (by omega)), ⟨cur, (hb.block _ hG).trans hr, hs⟩, fun i hi => mv (h.ca i hi), fun i hi hj => mv (h.cb i hi hj), fun i hi hij => TyL.on (fun g q => ⟨q.1, Nat.lt_of_lt_of_le q.2 hb.size⟩) (fun g q => hb.block g q.2) _ _ _ (h.ta i hi hij), fun i hi hij => TyL.on (fun g q => ⟨q.1, Nat.lt_of_lt_of_le q.2 hb.size⟩) (fun g q => hb.block g q.2) _ _ _ (h.tb i hi hij), h.mrk⟩
theorem At3.below {w w' : World} {G q : Nat} {e : El} (a : At3 w G q e) (hb : Below w.heap.size w w') (hG : G < w.heap.size) : At3 w' G q e := ⟨(hb.cell (p := ⟨G, q, none⟩) hG).trans a.1, (hb.cell (p := ⟨G, q + 1, none⟩) hG).trans a.2.1, (hb.cell (p := ⟨G, q + 2, none⟩) hG).trans a.2.2⟩
/-- An element is stored behind what is there. -/
theorem LpW.store {w wr W : World} {G : Nat} {ps : List Pr} {j q : Nat} {E F : Nat → El} (h : LpW w wr G ps j E F) (hq : j * 6 ≤ q) (hq2 : q + 2 < (ps.length + 3) * 6) (e : El)
  (hW : W = ((wr.setCell ⟨G, q, none⟩ (.int .i64 e.1)).setCell ⟨G, q + 1, none⟩ (.string e.2.1)).setCell ⟨G, q + 2, none⟩ e.2.2) : LpW w W G ps j E F ∧ At3 W G q e ∧ (∀ q' e', q' + 2 < q → At3 wr G q' e' → At3 W G q' e') ∧ (∀ (d : Nat) (x : Value) (t : Tn d), TyL wr (fun g => G < g ∧ g < wr.heap.size) d x t → TyL W (fun g => G < g ∧ g < W.heap.size) d x t) := by
 obtain ⟨cur, hr, hs⟩ := h.row
 obtain ⟨W', cur', hW', hr', hs', hc, hfar, hoth, hsz, hb⟩ := store3_at hr hs hq2 (.int .i64 e.1) (.string e.2.1) e.2.2
 rw [← hW'] at hW
 subst hW
 have mv : ∀ (d : Nat) (x : Value) (t : Tn d), TyL wr (fun g => G < g ∧ g < wr.heap.size) d x t → TyL W (fun g => G < g ∧ g < W.heap.size) d x t := fun d x t ht => TyL.on (fun g q => ⟨q.1, by rw [hsz]; exact q.2⟩) (fun g q => hoth g (by omega)) _ _ _ ht
 have ma : ∀ q' e', q' + 2 < q → At3 wr G q' e' → At3 W G q' e' := fun q' e' hl a => ⟨(hfar _ (by omega)).trans a.1, (hfar _ (by omega)).trans a.2.1, (hfar _ (by omega)).trans a.2.2⟩
 exact ⟨⟨h.bel.trans hb, ⟨cur', hr', hs'⟩, fun i hi => ma _ _ (by omega) (h.ca i hi), fun i hi hij => ma _ _ (by omega) (h.cb i hi hij), fun i hi hij => mv _ _ _ (h.ta i hi hij), fun i hi hij => mv _ _ _ (h.tb i hi hij), h.mrk⟩, hc, ma, mv⟩
theorem LpW.next {w wr : World} {G : Nat} {ps : List Pr} {j : Nat} {E F : Nat → El} (h : LpW w wr G ps j E F) (e f : El) (ha : At3 wr G (j * 6) e) (hb : j < ps.length → At3 wr G (j * 6 + 3) f) (ta : ∀ (h : j < ps.length), TyL wr (fun g => G < g ∧ g < wr.heap.size) ps[j].1.1 (elV e) ps[j].1.2) (tb : ∀ (h : j < ps.length), TyL wr (fun g => G < g ∧ g < wr.heap.size) ps[j].2.1 (elV f) ps[j].2.2) (hm : ps.length ≤ j → e = markE) : LpW w wr G ps (j + 1) (fun i => if i = j then e else E i) (fun i => if i = j then f else F i) := by
 refine ⟨h.bel, h.row, fun i hi => ?_, fun i hi hij => ?_, fun i hi hij => ?_, fun i hi hij => ?_, fun i hi hij => ?_⟩
 ·by_cases q : i = j
  ·subst q; simp only [if_pos]; exact ha
  ·simp only [if_neg q]; exact h.ca i (by omega)
 ·by_cases q : i = j
  ·subst q; simp only [if_pos]; exact hb hi
  ·simp only [if_neg q]; exact h.cb i hi (by omega)
 ·by_cases q : i = j
  ·subst q; simp only [if_pos]; exact ta hi
  ·simp only [if_neg q]; exact h.ta i hi (by omega)
 ·by_cases q : i = j
  ·subst q; simp only [if_pos]; exact tb hi
  ·simp only [if_neg q]; exact h.tb i hi (by omega)
 ·by_cases q : i = j
  ·subst q; simp only [if_pos]; exact hm hi
  ·simp only [if_neg q]; exact h.mrk i hi (by omega)
theorem LpW.cells {w wr : World} {G : Nat} {ps : List Pr} {j : Nat} {E F : Nat → El} (h : LpW w wr G ps j E F) {q : Nat} (hq : q + 2 < (ps.length + 3) * 6) : (∃ a b c, wr.cell? ⟨G, q, none⟩ = some a ∧ wr.cell? ⟨G, q + 1, none⟩ = some b ∧ wr.cell? ⟨G, q + 2, none⟩ = some c) ∧ (∀ x, wr.frozen? ⟨G, x, none⟩ = false) ∧ G < wr.heap.size := by
 obtain ⟨cur, hr, hs⟩ := h.row
 exact ⟨⟨cur[q], cur[q + 1], cur[q + 2], (cell_block hr).trans (Array.getElem?_eq_getElem (by omega)), (cell_block hr).trans (Array.getElem?_eq_getElem (by omega)), (cell_block hr).trans (Array.getElem?_eq_getElem (by omega))⟩, fun x => frozen_block hr, lt_of_heap hr⟩
theorem Tryz.info34 : (Tryz.prog.info? 34).map (fun i => (i.zero, i.size, i.bytes)) = some (some (.agg #[.int .i64 0, .string ⟨#[]⟩, .slice none 0 0, .int .i64 0, .string ⟨#[]⟩, .slice none 0 0]), 6, 96) := by kernel_rfl
theorem PrAt.pair {w : World} {B : Nat} {ad : Option Addr} {n cap : Nat} {ps : List Pr} (h : PrAt w B (.slice ad n cap) ps) (j : Nat) (hj : j < ps.length) : ∃ g o, ad = some ⟨g, o, none⟩ ∧ ps.length ≤ cap ∧ g < B ∧ ∃ k n ad1 l1 c1 k' n' ad2 l2 c2, (∀ w', Below B w w' → w'.cell? ⟨g, o + j * 6, none⟩ = some (.int .i64 k) ∧ w'.cell? ⟨g, o + j * 6 + 1, none⟩ = some (.string n) ∧ w'.cell? ⟨g, o + j * 6 + 2, none⟩ = some (.slice ad1 l1 c1) ∧ w'.cell? ⟨g, o + j * 6 + 3, none⟩ = some (.int .i64 k') ∧ w'.cell? ⟨g, o + j * 6 + 4, none⟩ = some (.string n') ∧ w'.cell? ⟨g, o + j * 6 + 5, none⟩ = some (.slice ad2 l2 c2)) ∧
   TyAt w B ps[j].1.1 (.agg #[.int .i64 k, .string n, .slice ad1 l1 c1]) ps[j].1.2 ∧ TyAt w B ps[j].2.1 (.agg #[.int .i64 k', .string n', .slice ad2 l2 c2]) ps[j].2.2 := by
 obtain ⟨ad', cap', hv, _, h⟩ := h
 simp only [Value.slice.injEq] at hv
 obtain ⟨rfl, _, rfl⟩ := hv
 obtain ⟨g, o, e1, e2, e3, e4⟩ := h (by intro e; rw [e] at hj; simp at hj)
 exact ⟨g, o, e1, e2, e3, e4 j hj⟩
set_option maxHeartbeats 16000000 in
set_option maxRecDepth 10000 in
theorem lentP_any (ps : List Pr) (v : Value) (w : World) (B : Nat) (hB : B ≤ w.heap.size) (hv : PrAt w B v ps) (hl : ps.length ≤ 4194304) (hM : ∀ p ∈ ps, (flat p.1.1 p.1.2).length ≤ 4194304 ∧ (flat p.2.1 p.2.2).length ≤ 4194304) :
  Calls Tryz.prog 12 #[v] w fun r w' => r = .returned (.slice (some ⟨w.heap.size, 0, none⟩) (ps.length + 3) (ps.length + 3)) ∧ ∃ E F, LpW w w' w.heap.size ps (ps.length + 3) E F := by
 obtain ⟨i0, hi, hz0, hz1, hz2⟩ := info_parts Tryz.info34
 obtain ⟨adv, capv, rfl, _, _⟩ := id hv
 have HV : Hid (PrAt w B (.slice adv ps.length capv) ps) := hv
 have HM : Hid (∀ p ∈ ps, (flat p.1.1 p.1.2).length ≤ 4194304 ∧ (flat p.2.1 p.2.2).length ≤ 4194304) := hM
 have HB : Hid (B ≤ w.heap.size) := hB
 have hb64 : i0.bytes * (ps.length + 3) ≤ 281474976710656 := by rw [hz2]; omega
 clear hv hM hB
 go_enter Tryz.func12, Tryz.ntmps12
 go_wp2_with (refine wpList_make_room _ rfl _ _ 22 rfl 34 i0 _ 6 Tryz.underlying22 hi hz0 hz1 .i64 .i64 ((ps.length : Int) + 3) ((ps.length : Int) + 3) (ps.length + 3) (ps.length + 3) rfl rfl (by omega) (by omega) (Nat.le_refl _) hb64 (by unfold maxLen; omega) ?_; intro w' G hG hsz' hbG hcur)
 subst hG
 have T0 : LpW w w' w.heap.size ps 0 (fun _ => markE) (fun _ => markE) := ⟨hbG, hcur, fun i hi => by omega, fun i _ hi => by omega, fun i _ hi => by omega, fun i _ hi => by omega, fun i _ hi => by omega⟩
 clear hcur hbG hsz'
 generalize hz : w.heap.size = G at T0 ⊢
 have HG : Hid (w.heap.size = G) := hz
 clear hz
 have HT0 : Hid (LpW w w' G ps 0 (fun _ => markE) (fun _ => markE)) := T0
 clear T0
 go_loopw [4] (fun iv wr => ∃ (j : Nat) (E F : Nat → El), j ≤ ps.length + 3 ∧ iv = .int .i64 j ∧ Hid (LpW w wr G ps j E F)) (fun iv _ => ps.length + 3 - (intOf iv).toNat)
 case atStart => exact ⟨0, _, _, by omega, by go_num, HT0.out⟩
 case round =>
  obtain ⟨j, E, F, hj, rfl, HT⟩ := hrel
  clear HT0
  have T := HT.out
  have hjb : (j : Int) ≤ 5000000 := by omega
  have j0 : (0 : Int) ≤ (j : Int) := by omega
  by_cases hlt : j < ps.length + 3
  ·have hlt' : (j : Int) < (ps.length : Int) + 3 := by omega
   have hlt2 : (j : Int) < ((ps.length + 3 : Nat) : Int) := by omega
   have hjl : j + 1 ≤ ps.length + 3 := hlt
   have M1 : Calls Tryz.prog 31 #[] wr fun r w' => r = .returned (.agg #[.int .i64 (-77), .string ⟨#[98, 101, 104, 105, 110, 100]⟩, .slice none 0 0]) ∧ (∃ a b c, w'.cell? ⟨G, j * 6, none⟩ = some a ∧ w'.cell? ⟨G, j * 6 + 1, none⟩ = some b ∧ w'.cell? ⟨G, j * 6 + 2, none⟩ = some c) ∧ (∀ x, w'.frozen? ⟨G, x, none⟩ = false) ∧ Hid (LpW w w' G ps j E F) := by
    refine Calls.mono (mark_any wr) ?_
    rintro r w1 ⟨rfl, hb1⟩
    have T1 := T.below hb1
    obtain ⟨h1, h2, _⟩ := T1.cells (q := j * 6) (by omega)
    exact ⟨rfl, h1, h2, T1⟩
   clear T HT
   go_upto_region 6 with (first
    | (go_at_call 31; (with_reducible refine Calls.mono M1 ?_); rintro e' w1 ⟨rfl, ⟨x0, x1, x2, y0, y1, y2⟩, fz, HT1⟩; have f0 := fz (j * 6); have f1 := fz (j * 6 + 1); have f2 := fz (j * 6 + 2); clear fz))
   obtain ⟨W2, hW2⟩ : ∃ W2, W2 = ((w1.setCell ⟨G, j * 6, none⟩ (.int .i64 (-77))).setCell ⟨G, j * 6 + 1, none⟩ (.string ⟨#[98, 101, 104, 105, 110, 100]⟩)).setCell ⟨G, j * 6 + 2, none⟩ (.slice none 0 0) := ⟨_, rfl⟩
   obtain ⟨T2, A2, _, _⟩ := HT1.out.store (q := j * 6) (Nat.le_refl _) (by omega) markE hW2
   rw [← hW2]
   clear hW2 y0 y1 y2 f0 f1 f2 M1 HT1
   by_cases hin : j < ps.length
   ·have hin' : (j : Int) < (ps.length : Int) := by omega
    have hGz := HG.out
    have hBG : B ≤ G := by have := HB.out; omega
    obtain ⟨g, o, hve, hbl, hgB, k1, n1, a1, l1, c1, k2, n2, a2, l2, c2, hcel, TA, TB⟩ := HV.out.pair j hin
    subst hve
    obtain ⟨p0, p1, p2, -, -, -⟩ := hcel W2 (T2.bel.mono hBG)
    obtain ⟨m1, m2⟩ := HM.out _ (List.getElem_mem hin)
    have hG2 : G < W2.heap.size := (T2.cells (q := 0) (by omega)).2.2
    have C1 : Calls Tryz.prog 32 #[.agg #[.int .i64 k1, .string n1, .slice a1 l1 c1]] W2 fun r w3 => ∃ (k3 : Int) (n3 : ByteArray) (a3 : Option Addr) (l3 c3 : Nat), r = .returned (.agg #[.int .i64 k3, .string n3, .slice a3 l3 c3]) ∧ (∃ a b c, w3.cell? ⟨G, j * 6, none⟩ = some a ∧ w3.cell? ⟨G, j * 6 + 1, none⟩ = some b ∧ w3.cell? ⟨G, j * 6 + 2, none⟩ = some c) ∧ (∀ x, w3.frozen? ⟨G, x, none⟩ = false) ∧ Hid (LpW w w3 G ps j E F ∧ TyL w3 (fun g => G < g ∧ g < w3.heap.size) ps[j].1.1 (elV (k3, n3, .slice a3 l3 c3)) ps[j].1.2) := by
     refine Calls.mono (lent_any _ _ ps[j].1.2 W2 B (by omega) (TA.on (T2.bel.mono hBG)) m1) ?_
     rintro r w3 ⟨hb3, k3, n3, a3, l3, c3, rfl, L3⟩
     have T3 := T2.below hb3
     obtain ⟨h1, h2, _⟩ := T3.cells (q := j * 6) (by omega)
     exact ⟨k3, n3, a3, l3, c3, rfl, h1, h2, T3, TyL.on (S := fun g => W2.heap.size ≤ g ∧ g < w3.heap.size) (fun g q => ⟨by omega, q.2⟩) (fun _ _ => rfl) _ _ _ L3⟩
    clear T2 A2
    go_upto_region 8 with (first
     | (go_at_call 32; (with_reducible refine Calls.mono C1 ?_); rintro e' w3 ⟨k3, n3, a3, l3, c3, rfl, ⟨x0, x1, x2, y0, y1, y2⟩, fz, HT3⟩; have f0 := fz (j * 6); have f1 := fz (j * 6 + 1); have f2 := fz (j * 6 + 2); clear fz))
    obtain ⟨W4, hW4⟩ : ∃ W4, W4 = ((w3.setCell ⟨G, j * 6, none⟩ (.int .i64 k3)).setCell ⟨G, j * 6 + 1, none⟩ (.string n3)).setCell ⟨G, j * 6 + 2, none⟩ (.slice a3 l3 c3) := ⟨_, rfl⟩
    obtain ⟨T4, A4, _, mv4⟩ := HT3.out.1.store (q := j * 6) (Nat.le_refl _) (by omega) (k3, n3, .slice a3 l3 c3) hW4
    have L4 := mv4 _ _ _ HT3.out.2
    rw [← hW4]
    clear hW4 y0 y1 y2 f0 f1 f2 C1 HT3 mv4 p0 p1 p2
    obtain ⟨-, -, -, p3, p4, p5⟩ := hcel W4 (T4.bel.mono hBG)
    have hG4 : G < W4.heap.size := (T4.cells (q := 0) (by omega)).2.2
    have C2 : Calls Tryz.prog 32 #[.agg #[.int .i64 k2, .string n2, .slice a2 l2 c2]] W4 fun r w5 => ∃ (k5 : Int) (n5 : ByteArray) (a5 : Option Addr) (l5 c5 : Nat), r = .returned (.agg #[.int .i64 k5, .string n5, .slice a5 l5 c5]) ∧ (∃ a b c, w5.cell? ⟨G, j * 6 + 3, none⟩ = some a ∧ w5.cell? ⟨G, j * 6 + 3 + 1, none⟩ = some b ∧ w5.cell? ⟨G, j * 6 + 3 + 2, none⟩ = some c) ∧ (∀ x, w5.frozen? ⟨G, x, none⟩ = false) ∧ Hid (∀ W6, W6 = ((w5.setCell ⟨G, j * 6 + 3, none⟩ (.int .i64 k5)).setCell ⟨G, j * 6 + 3 + 1, none⟩ (.string n5)).setCell ⟨G, j * 6 + 3 + 2, none⟩ (.slice a5 l5 c5) → ∃ E' F', LpW w W6 G ps (j + 1) E' F') := by
     refine Calls.mono (lent_any _ _ ps[j].2.2 W4 B (by omega) (TB.on (T4.bel.mono hBG)) m2) ?_
     rintro r w5 ⟨hb5, k5, n5, a5, l5, c5, rfl, L5⟩
     have T5 := T4.below hb5
     have A5 := A4.below hb5 hG4
     have L5a : TyL w5 (fun g => G < g ∧ g < w5.heap.size) ps[j].1.1 (elV (k3, n3, .slice a3 l3 c3)) ps[j].1.2 := TyL.on (fun g q => ⟨q.1, Nat.lt_of_lt_of_le q.2 hb5.size⟩) (fun g q => hb5.block g q.2) _ _ _ L4
     have L5b : TyL w5 (fun g => G < g ∧ g < w5.heap.size) ps[j].2.1 (elV (k5, n5, .slice a5 l5 c5)) ps[j].2.2 := TyL.on (S := fun g => W4.heap.size ≤ g ∧ g < w5.heap.size) (fun g q => ⟨by omega, q.2⟩) (fun _ _ => rfl) _ _ _ L5
     obtain ⟨h1, h2, _⟩ := T5.cells (q := j * 6 + 3) (by omega)
     refine ⟨k5, n5, a5, l5, c5, rfl, h1, h2, fun W6 hW6 => ?_⟩
     obtain ⟨T6, B6, ma6, mv6⟩ := T5.store (q := j * 6 + 3) (by omega) (by omega) (k5, n5, .slice a5 l5 c5) hW6
     exact ⟨_, _, T6.next _ _ (ma6 _ _ (by omega) A5) (fun _ => B6) (fun _ => mv6 _ _ _ L5a) (fun _ => mv6 _ _ _ L5b) (fun h => by omega)⟩
    clear T4 A4 L4 hcel TA TB m1 m2
    go_wp2_with (first
     | (go_at_call 32; (with_reducible refine Calls.mono C2 ?_); rintro e' w5 ⟨k5, n5, a5, l5, c5, rfl, ⟨x0, x1, x2, y0, y1, y2⟩, fz, HT5⟩; have f0 := fz (j * 6 + 3); have f1 := fz (j * 6 + 3 + 1); have f2 := fz (j * 6 + 3 + 2); clear fz))
    obtain ⟨E', F', T6⟩ := HT5.out _ rfl
    have HT6 : Hid (LpW w (((w5.setCell ⟨G, j * 6 + 3, none⟩ (.int .i64 k5)).setCell ⟨G, j * 6 + 3 + 1, none⟩ (.string n5)).setCell ⟨G, j * 6 + 3 + 2, none⟩ (.slice a5 l5 c5)) G ps (j + 1) E' F') := T6
    go_roundw
    case rel => exact ⟨j + 1, E', F', hjl, by go_num, HT6.out⟩
    case measure => simp [intOf]; omega
   ·have hin' : ¬ (j : Int) < (ps.length : Int) := by omega
    have HT3 : Hid (LpW w W2 G ps (j + 1) (fun i => if i = j then markE else E i) (fun i => if i = j then markE else F i)) := T2.next markE markE A2 (fun h => absurd h hin) (fun h => absurd h hin) (fun h => absurd h hin) (fun _ => rfl)
    clear T2 A2
    go_wp2
    go_roundw
    case rel => exact ⟨j + 1, _, _, hjl, by go_num, HT3.out⟩
    case measure => simp [intOf]; omega
  ·have ej : j = ps.length + 3 := by omega
   have hlt2 : ¬ (j : Int) < (ps.length : Int) + 3 := by omega
   have hlt3 : ¬ (j : Int) < ((ps.length + 3 : Nat) : Int) := by omega
   rw [ej] at T
   have HT2 : Hid (LpW w wr G ps (ps.length + 3) E F) := T
   have HEJ : Hid (j = ps.length + 3) := ej
   clear T ej HT
   go_wp2
   refine bodyPost_ret (v := .slice (some ⟨G, 0, none⟩) (ps.length + 3) (ps.length + 3)) (by simp [results, Tryz.results12, go_sem]) rfl ?_
   rw [HG.out]
   exact ⟨rfl, E, F, HT2.out⟩
end Go.Proofs.YtikpipenhamdbaaGreat

namespace Go.Proofs.YtikpipenhamdbaaGreat
open Go.RowKit

set_option maxHeartbeats 16000000 in
set_option maxRecDepth 10000 in
theorem keptP_any (ps : List Pr) (v : Value) (w0 w : World) (B G : Nat) (E F : Nat → El) (hB : B ≤ w.heap.size) (hv : PrAt w B v ps) (hl : ps.length ≤ 4194304) (hL : LpW w0 w G ps (ps.length + 3) E F) :
  Calls Tryz.prog 14 #[.slice (some ⟨G, 0, none⟩) (ps.length + 3) (ps.length + 3), v] w fun r w' => r = .returned (.bool true) ∧ Below w.heap.size w w' := by
 obtain ⟨adv, capv, rfl, _, _⟩ := id hv
 have hGl : G < w.heap.size := (hL.cells (q := 0) (by omega)).2.2
 have HG : Hid (G < w.heap.size ∧ B ≤ w.heap.size) := ⟨hGl, hB⟩
 have HV : Hid (PrAt w B (.slice adv ps.length capv) ps) := hv
 have HL : Hid (LpW w0 w G ps (ps.length + 3) E F) := hL
 clear hv hL hGl hB
 go_enter Tryz.func14, Tryz.ntmps14
 go_wp2
 go_loopw [5] (fun i wr => ∃ j : Nat, j ≤ ps.length + 3 ∧ i = .int .i64 j ∧ Hid (Below w.heap.size w wr)) (fun i _ => ps.length + 3 - (intOf i).toNat)
 case atStart => exact ⟨0, by omega, by go_num, Below.refl _ _⟩
 case round =>
  obtain ⟨j, hj, rfl, HBL⟩ := hrel
  have hbel := HBL.out
  have hjb : (j : Int) ≤ 5000000 := by omega
  have j0 : (0 : Int) ≤ (j : Int) := by omega
  by_cases hlt : j < ps.length + 3
  ·have hlt' : (j : Int) < (ps.length : Int) + 3 := by omega
   have hlt2 : (j : Int) < ((ps.length + 3 : Nat) : Int) := by omega
   have hjl : j + 1 ≤ ps.length + 3 := hlt
   obtain ⟨hGl, hBw⟩ := HG.out
   have T := HL.out.below hbel
   obtain ⟨q0, q1, q2⟩ := T.ca j hlt
   by_cases hin : j < ps.length
   ·have hin' : (j : Int) < (ps.length : Int) := by omega
    obtain ⟨q3, q4, q5⟩ := T.cb j hin hlt
    have TA := T.ta j hin hlt
    have TB := T.tb j hin hlt
    obtain ⟨aE, lE, cE, hsE⟩ := TA.slice
    obtain ⟨aF, lF, cF, hsF⟩ := TB.slice
    obtain ⟨g, o, hve, hbl, hgB, k1, n1, a1, l1, c1, k2, n2, a2, l2, c2, hcel, XA, XB⟩ := HV.out.pair j hin
    subst hve
    obtain ⟨p0, p1, p2, p3, p4, p5⟩ := hcel wr (hbel.mono hBw)
    have hsz := hbel.size
    have CA : ∀ W', Below wr.heap.size wr W' → Calls Tryz.prog 34 #[elV (E j), .agg #[.int .i64 k1, .string n1, .slice a1 l1 c1]] W' fun r w' => r = .returned (.bool true) ∧ Below W'.heap.size W' w' :=
     fun W' hb' => kept_any _ _ _ ps[j].1.2 W' W'.heap.size (Nat.le_refl _) (TyL.on (fun g q => Nat.lt_of_lt_of_le q.2 hb'.size) (fun g q => hb'.block g q.2) _ _ _ TA) (TyAt.below ((hbel.trans (hb'.mono hsz)).mono hBw) (Nat.le_trans hBw (Nat.le_trans hsz hb'.size)) _ _ _ XA)
    have CB : ∀ W', Below wr.heap.size wr W' → Calls Tryz.prog 34 #[elV (F j), .agg #[.int .i64 k2, .string n2, .slice a2 l2 c2]] W' fun r w' => r = .returned (.bool true) ∧ Below W'.heap.size W' w' :=
     fun W' hb' => kept_any _ _ _ ps[j].2.2 W' W'.heap.size (Nat.le_refl _) (TyL.on (fun g q => Nat.lt_of_lt_of_le q.2 hb'.size) (fun g q => hb'.block g q.2) _ _ _ TB) (TyAt.below ((hbel.trans (hb'.mono hsz)).mono hBw) (Nat.le_trans hBw (Nat.le_trans hsz hb'.size)) _ _ _ XB)
    unfold elV at CA CB
    rw [hsE] at q2 CA
    rw [hsF] at q5 CB
    generalize (E j).1 = kE at q0 CA
    generalize (E j).2.1 = nE at q1 CA
    generalize (F j).1 = kF at q3 CB
    generalize (F j).2.1 = nF at q4 CB
    have hgw : g < wr.heap.size := by omega
    have hGw : G < wr.heap.size := by omega
    clear hcel XA XB TA TB hsE hsF T
    go_upto_region 5 with fail
    generalize (kE == -77) = bb
    go_upto_region 6 with fail
    go_cut [7] from 9 to 53 (fun s wx => s = .bool true ∧ Hid (Below wr.heap.size wr wx))
    case first =>
     go_region_held3 (fun w' => (w'.cell? ⟨g, o + j * 6, none⟩ = some (.int .i64 k1) ∧ w'.cell? ⟨g, o + j * 6 + 1, none⟩ = some (.string n1) ∧ w'.cell? ⟨g, o + j * 6 + 2, none⟩ = some (.slice a1 l1 c1)) ∧ w'.cell? ⟨G, j * 6, none⟩ = some (.int .i64 kE) ∧ w'.cell? ⟨G, j * 6 + 1, none⟩ = some (.string nE) ∧ w'.cell? ⟨G, j * 6 + 2, none⟩ = some (.slice aE lE cE)) (first | exact ⟨⟨p0, p1, p2⟩, q0, q1, q2⟩ | assumption | (have hk : ∀ p : Addr, p.block < wr.heap.size → w1.cell? p = wr.cell? p := fun p hp => hb1.cell hp; exact ⟨⟨(hk _ hgw).trans p0, (hk _ hgw).trans p1, (hk _ hgw).trans p2⟩, (hk _ hGw).trans q0, (hk _ hGw).trans q1, (hk _ hGw).trans q2⟩) | go_keep)
      (first | (go_at_call 34; (with_reducible refine Calls.mono (CA _ ?_) ?_); exact (Below.refl _ _).drew; rintro e' w1 ⟨rfl, hb1⟩))
     all_goals
      have HB2 : Hid (Below wr.heap.size wr w1) := (Below.refl _ _).drew.trans hb1
      clear hb1
      go_wp2_with fail
      go_meet
      exact ⟨rfl, HB2.out.trans ⟨rfl, rfl, rfl, Nat.le_refl _, fun _ _ => rfl⟩⟩
    case rest =>
     obtain ⟨rfl, HB2⟩ := hcut
     have hb2 := HB2.out
     have hk : ∀ p : Addr, p.block < wr.heap.size → wc.cell? p = wr.cell? p := fun p hp => hb2.cell hp
     have r3 : wc.cell? ⟨g, o + j * 6 + 3, none⟩ = some (.int .i64 k2) := (hk _ hgw).trans p3
     have r4 : wc.cell? ⟨g, o + j * 6 + 4, none⟩ = some (.string n2) := (hk _ hgw).trans p4
     have r5 : wc.cell? ⟨g, o + j * 6 + 5, none⟩ = some (.slice a2 l2 c2) := (hk _ hgw).trans p5
     have s3 : wc.cell? ⟨G, j * 6 + 3, none⟩ = some (.int .i64 kF) := (hk _ hGw).trans q3
     have s4 : wc.cell? ⟨G, j * 6 + 3 + 1, none⟩ = some (.string nF) := (hk _ hGw).trans q4
     have s5 : wc.cell? ⟨G, j * 6 + 3 + 2, none⟩ = some (.slice aF lF cF) := (hk _ hGw).trans q5
     have CB2 : ∀ W', Below wc.heap.size wc W' → Calls Tryz.prog 34 #[.agg #[.int .i64 kF, .string nF, .slice aF lF cF], .agg #[.int .i64 k2, .string n2, .slice a2 l2 c2]] W' fun r w' => r = .returned (.bool true) ∧ Below W'.heap.size W' w' := fun W' hb' => CB W' (hb2.trans (hb'.mono hb2.size))
     have hgc : g < wc.heap.size := Nat.lt_of_lt_of_le hgw hb2.size
     have hGc : G < wc.heap.size := Nat.lt_of_lt_of_le hGw hb2.size
     clear hk hb2 CA CB p0 p1 p2 p3 p4 p5 q0 q1 q2 q3 q4 q5
     go_upto_region 7 with fail
     go_region_held3 (fun w' => (w'.cell? ⟨g, o + j * 6 + 3, none⟩ = some (.int .i64 k2) ∧ w'.cell? ⟨g, o + j * 6 + 4, none⟩ = some (.string n2) ∧ w'.cell? ⟨g, o + j * 6 + 5, none⟩ = some (.slice a2 l2 c2)) ∧ w'.cell? ⟨G, j * 6 + 3, none⟩ = some (.int .i64 kF) ∧ w'.cell? ⟨G, j * 6 + 4, none⟩ = some (.string nF) ∧ w'.cell? ⟨G, j * 6 + 5, none⟩ = some (.slice aF lF cF)) (first | exact ⟨⟨r3, r4, r5⟩, s3, s4, s5⟩ | assumption | (have hk : ∀ p : Addr, p.block < wc.heap.size → w1.cell? p = wc.cell? p := fun p hp => hb1.cell hp; exact ⟨⟨(hk _ hgc).trans r3, (hk _ hgc).trans r4, (hk _ hgc).trans r5⟩, (hk _ hGc).trans s3, (hk _ hGc).trans s4, (hk _ hGc).trans s5⟩) | go_keep)
      (first | (go_at_call 34; (with_reducible refine Calls.mono (CB2 _ ?_) ?_); exact (Below.refl _ _).drew; rintro e' w1 ⟨rfl, hb1⟩))
     all_goals
      have HB3 : Hid (Below w.heap.size w w1) := (HBL.out.trans (HB2.out.mono hsz)).trans (((Below.refl _ _).drew.trans hb1).mono (Nat.le_trans hsz HB2.out.size))
      clear hb1 CB2 r3 r4 r5 s3 s4 s5
      go_wp2
      go_roundw
      case rel => exact ⟨j + 1, hjl, by go_num, HB3.out.trans ⟨rfl, rfl, rfl, Nat.le_refl _, fun _ _ => rfl⟩⟩
      case measure => simp [intOf]; omega
   ·have hin' : ¬ (j : Int) < (ps.length : Int) := by omega
    have hmk := T.mrk j (by omega) hlt
    rw [hmk] at q0 q1 q2
    clear T hmk
    go_wp2
    go_roundw
    case rel => exact ⟨j + 1, hjl, by go_num, HBL.out⟩
    case measure => simp [intOf]; omega
  ·have hlt2 : ¬ (j : Int) < (ps.length : Int) + 3 := by omega
   go_wp2
   go_ret
   exact ⟨rfl, HBL.out⟩
end Go.Proofs.YtikpipenhamdbaaGreat
