/- Same (of the document's own package): are two types the same? TypeLeft and GreatType: how many parts are left behind a type. Rows of bounds in memory; sameBounds of rows that are the same. GreatBounds: its contract. -/
import Derived.Test.YtikpipenhamdbaaGreatMabx
import Derived.WalkKit
import Derived.WalkSpells
import Derived.WalkLawsBesides
import Derived.WalkMore
import Derived.Deep.RegionHeld3
import Derived.Deep.Cut
import Derived.BigQuiet
namespace Go.Proofs.YtikpipenhamdbaaGreat
open Go.RowKit

theorem bytes_eq {n m : List UInt8} : ((⟨n.toArray⟩ : ByteArray) = ⟨m.toArray⟩) ↔ n = m := by
 constructor
 ·intro h
  have := congrArg (fun b => b.data.toList) h
  simpa using this
 ·rintro rfl; rfl

set_option maxHeartbeats 4000000 in
set_option maxRecDepth 10000 in
theorem same_heads (k k' : Int) (n n' : List UInt8) (ad ad' : Option Addr) (len len' cap cap' : Nat) (w : World) (h : ¬ (k = k' ∧ n = n' ∧ len = len')) :
  Calls Tryz.prog 9 #[.agg #[.int .i64 k, .string ⟨n.toArray⟩, .slice ad len cap], .agg #[.int .i64 k', .string ⟨n'.toArray⟩, .slice ad' len' cap']] w fun r w' => r = .returned (.bool false) ∧ Below w.heap.size w w' := by
 have hb : ∀ o o', Below w.heap.size w ((w.alloc o).alloc o') := fun o o' => ((Below.refl _ _).alloc (Nat.le_refl _) o).alloc (by simp) o'
 by_cases hk : k = k'
 ·subst hk
  by_cases hn : n = n'
  ·subst hn
   have hne : ¬ (len : Int) = (len' : Int) := fun e => h ⟨rfl, rfl, by omega⟩
   clear h
   go_enter Tryz.func9, Tryz.ntmps9
   go_wp2
   go_ret
   exact ⟨rfl, hb _ _⟩
  ·have hne : ¬ ((⟨n.toArray⟩ : ByteArray) = ⟨n'.toArray⟩) := fun e => hn (bytes_eq.1 e)
   clear h
   go_enter Tryz.func9, Tryz.ntmps9
   go_wp2
   go_ret
   exact ⟨rfl, hb _ _⟩
 ·clear h
  go_enter Tryz.func9, Tryz.ntmps9
  go_wp2
  go_ret
  exact ⟨rfl, hb _ _⟩

set_option maxHeartbeats 4000000 in
set_option maxRecDepth 10000 in
theorem same_any : ∀ (d e : Nat) (x y : Value) (t : Tn d) (u : Tn e) (w : World) (B : Nat), B ≤ w.heap.size → TyAt w B d x t → TyAt w B e y u →
  Calls Tryz.prog 9 #[x, y] w fun r w' => r = .returned (.bool (decide (flat d t = flat e u))) ∧ Below w.heap.size w w'
 | 0, _, _, _, _, _, _, _, _, h, _ => h.elim
 | _ + 1, 0, _, _, _, _, _, _, _, _, h => h.elim
 | d + 1, e + 1, x, y, ((k, n), ts), ((k', n'), us), w, B, hB, ⟨v, hx, h1, h2, h⟩, ⟨v', hy, h1', h2', h'⟩ => by
  have IH := fun (x y : Value) (t : Tn d) (u : Tn e) => same_any d e x y t u
  simp only at hx hy h1 h2 h1' h2' h h'
  subst hx hy
  by_cases hh : k = k' ∧ n = n' ∧ ts.length = us.length
  ·obtain ⟨rfl, rfl, hl⟩ := hh
   have hb : ∀ o o', Below w.heap.size w ((w.alloc o).alloc o') := fun o o' => ((Below.refl _ _).alloc (Nat.le_refl _) o).alloc (by simp) o'
   rcases h with ⟨h0, ad, cap, rfl⟩ | ⟨g, o, cap, rfl, h0, hc, hg, hj⟩
   ·subst h0
    obtain rfl : us = [] := List.length_eq_zero_iff.1 hl.symm
    have hR : decide (flat (d + 1) ((k, n), []) = flat (e + 1) ((k, n), [])) = true := by
     rw [decide_eq_true_eq, flat_succ, flat_succ, flats_nil, flats_nil]
     rfl
    rw [hR]
    rcases h' with ⟨_, ad', cap', rfl⟩ | ⟨_, _, _, _, h0', _⟩
    ·clear h1 h2 h1' h2' hR IH
     go_enter Tryz.func9, Tryz.ntmps9
     go_wp2
     refine wp_loop_rounds 1 ?_
     rw [rounds_succ]
     go_wp2
     go_ret
     exact ⟨rfl, hb _ _⟩
    ·exact absurd rfl h0'
   ·rcases h' with ⟨h0', _⟩ | ⟨g', o', cap', rfl, h0', hc', hg', hj'⟩
    ·subst h0'
     exact absurd (List.length_eq_zero_iff.1 hl) h0
    ·generalize hR : decide (flat (d + 1) ((k, n), ts) = flat (e + 1) ((k, n), us)) = R
     have HR : Hid (decide (flat (d + 1) ((k, n), ts) = flat (e + 1) ((k, n), us)) = R) := hR
     have HL : Hid (ts.length = us.length) := hl
     have HT : Hid (∀ j (h : j < ts.length), ∃ k n u, w.cell? ⟨g, o + j * 3, none⟩ = some (.int .i64 k) ∧ w.cell? ⟨g, o + j * 3 + 1, none⟩ = some (.string n) ∧ w.cell? ⟨g, o + j * 3 + 2, none⟩ = some u ∧ TyAt w B d (.agg #[.int .i64 k, .string n, u]) ts[j]) := hj
     have HU : Hid (∀ j (h : j < us.length), ∃ k n u, w.cell? ⟨g', o' + j * 3, none⟩ = some (.int .i64 k) ∧ w.cell? ⟨g', o' + j * 3 + 1, none⟩ = some (.string n) ∧ w.cell? ⟨g', o' + j * 3 + 2, none⟩ = some u ∧ TyAt w B e (.agg #[.int .i64 k, .string n, u]) us[j]) := hj'
     rw [← hl] at hc' ⊢
     have HB : Hid (B ≤ w.heap.size) := hB
     have HG : Hid (g < B ∧ g' < B) := ⟨hg, hg'⟩
     clear hR hl hj hj' h0 h0' h1 h1' h2' hB hg hg'
     go_enter Tryz.func9, Tryz.ntmps9
     go_wp2
     obtain ⟨W, hW, hbW, hsW, b0, b1, b2, c0, c1, c2⟩ := cells_boxes w (.int .i64 k) (.string ⟨n.toArray⟩) (.slice (some ⟨g, o, none⟩) ts.length cap) (.int .i64 k) (.string ⟨n.toArray⟩) (.slice (some ⟨g', o', none⟩) ts.length cap') 29
     rw [← hW]
     have HW : Hid (Below w.heap.size w W) := hbW
     have HS : Hid (W.heap.size = w.heap.size + 2) := hsW
     generalize hz : w.heap.size = z at b0 b1 b2 c0 c1 c2 ⊢
     have HZ : Hid (w.heap.size = z) := hz
     clear hW hbW hsW hz
     go_loopw [5] (fun i wr => ∃ j : Nat, j ≤ ts.length ∧ i = .int .i64 j ∧ Below (z + 2) W wr ∧ Hid (∀ i (h : i < ts.length) (h' : i < us.length), i < j → flat d ts[i] = flat e us[i])) (fun i _ => ts.length - (intOf i).toNat)
     case atStart => exact ⟨0, by omega, by go_num, Below.refl _ _, fun i _ _ h => by omega⟩
     case round =>
      obtain ⟨j, hj, rfl, hbel, HJ⟩ := hrel
      have x2 := (hbel.cell (p := ⟨z, 2, none⟩) (by simp)).trans b2
      have y2 := (hbel.cell (p := ⟨z + 1, 2, none⟩) (by simp)).trans c2
      by_cases hlt : j < ts.length
      ·have hlu : j < us.length := by have := HL.out; omega
       have hzB : B ≤ z := by have := HB.out; have := HZ.out; omega
       have hwz : Below z w wr := by
        have := HW.out
        rw [HZ.out] at this
        exact this.trans (hbel.mono (by omega))
       obtain ⟨hg, hg'⟩ := HG.out
       obtain ⟨k1, n1, u1, p0, p1, p2, T1⟩ := HT.out j hlt
       obtain ⟨k2, n2, u2, q0, q1, q2, T2⟩ := HU.out j hlu
       obtain ⟨ad1, l1, cp1, rfl⟩ := T1.slice
       obtain ⟨ad2, l2, cp2, rfl⟩ := T2.slice
       rw [← hwz.cell (p := ⟨g, o + j * 3, none⟩) (by simp; omega)] at p0
       rw [← hwz.cell (p := ⟨g, o + j * 3 + 1, none⟩) (by simp; omega)] at p1
       rw [← hwz.cell (p := ⟨g, o + j * 3 + 2, none⟩) (by simp; omega)] at p2
       rw [← hwz.cell (p := ⟨g', o' + j * 3, none⟩) (by simp; omega)] at q0
       rw [← hwz.cell (p := ⟨g', o' + j * 3 + 1, none⟩) (by simp; omega)] at q1
       rw [← hwz.cell (p := ⟨g', o' + j * 3 + 2, none⟩) (by simp; omega)] at q2
       have hzr : z + 2 ≤ wr.heap.size := by have := hbel.size; have := HS.out; have := HZ.out; omega
       have CJ : ∀ W', Below z w W' → z ≤ W'.heap.size → Calls Tryz.prog 9 #[.agg #[.int .i64 k1, .string n1, .slice ad1 l1 cp1], .agg #[.int .i64 k2, .string n2, .slice ad2 l2 cp2]] W' fun r w' => r = .returned (.bool (decide (flat d ts[j] = flat e us[j]))) ∧ Below W'.heap.size W' w' :=
        fun W' hb' hs' => IH _ _ _ _ W' B (by omega) (T1.on (hb'.mono hzB)) (T2.on (hb'.mono hzB))
       generalize hr1 : decide (flat d ts[j] = flat e us[j]) = r1 at CJ
       have HR1 : Hid (decide (flat d ts[j] = flat e us[j]) = r1) := hr1
       have i1 : (0 : Int) ≤ (j : Int) := by omega
       have i2 : (j : Int) < (ts.length : Int) := by omega
       clear hr1 T1 T2 IH b0 b1 b2 c0 c1 c2
       go_wp2
       go_region_held3 (fun w' => (w'.cell? ⟨z, 2, none⟩ = some (.slice (some ⟨g, o, none⟩) ts.length cap) ∧ w'.cell? ⟨z + 1, 2, none⟩ = some (.slice (some ⟨g', o', none⟩) ts.length cap')) ∧ (w'.cell? ⟨g, o + j * 3, none⟩ = some (.int .i64 k1) ∧ w'.cell? ⟨g, o + j * 3 + 1, none⟩ = some (.string n1) ∧ w'.cell? ⟨g, o + j * 3 + 2, none⟩ = some (.slice ad1 l1 cp1)) ∧ w'.cell? ⟨g', o' + j * 3, none⟩ = some (.int .i64 k2) ∧ w'.cell? ⟨g', o' + j * 3 + 1, none⟩ = some (.string n2) ∧ w'.cell? ⟨g', o' + j * 3 + 2, none⟩ = some (.slice ad2 l2 cp2)) (first | exact ⟨⟨x2, y2⟩, ⟨p0, p1, p2⟩, q0, q1, q2⟩ | assumption | (have hk : ∀ p : Addr, p.block < wr.heap.size → w1.cell? p = wr.cell? p := fun p hp => hb1.cell hp; exact ⟨⟨(hk _ (by simp; omega)).trans x2, (hk _ (by simp; omega)).trans y2⟩, ⟨(hk _ (by simp; omega)).trans p0, (hk _ (by simp; omega)).trans p1, (hk _ (by simp; omega)).trans p2⟩, (hk _ (by simp; omega)).trans q0, (hk _ (by simp; omega)).trans q1, (hk _ (by simp; omega)).trans q2⟩) | go_keep)
        (first | (go_at_call 9; (with_reducible refine Calls.mono (CJ _ ?_ ?_) ?_); exact hwz.drew; (show z ≤ wr.heap.size; omega); rintro e' w1 ⟨rfl, hb1⟩))
       all_goals
        have hb2 : Below (z + 2) W w1 := hbel.drew.trans (hb1.mono hzr)
        clear hb1 CJ
        have hjl : j + 1 ≤ ts.length := hlt
        cases r1 with
        | true =>
         go_wp2
         go_roundw
         case rel =>
          refine ⟨j + 1, hjl, by go_num, hb2, fun i h h' hi => ?_⟩
          by_cases hij : i = j
          ·subst hij; exact of_decide_eq_true HR1.out
          ·exact HJ.out i h h' (by omega)
         case measure => simp [intOf]; omega
        | false =>
         have HF : Hid (R = false) := by
          show R = false
          rw [← HR.out, decide_eq_false_iff_not, flat_eq_iff]
          exact fun h => of_decide_eq_false HR1.out (h.2.2.2 j hlt hlu)
         go_wp2
         go_ret
         exact ⟨by rw [HF.out]; rfl, by have h := HW.out; rw [HZ.out] at h ⊢; exact h.trans (hb2.mono (by omega))⟩
      ·have HF : Hid (R = true) := by
        show R = true
        rw [← HR.out, decide_eq_true_eq, flat_eq_iff]
        exact ⟨rfl, rfl, HL.out, fun i h h' => HJ.out i h h' (by omega)⟩
       clear IH
       go_wp2
       go_ret
       exact ⟨by rw [HF.out]; rfl, by have h := HW.out; rw [HZ.out] at h ⊢; exact h.trans (hbel.mono (by omega))⟩
  ·have hR : decide (flat (d + 1) ((k, n), ts) = flat (e + 1) ((k', n'), us)) = false := decide_eq_false (flat_both hh)
   rw [hR]
   obtain ⟨ad, cap, rfl⟩ := h.len
   obtain ⟨ad', cap', rfl⟩ := h'.len
   exact same_heads k k' n n' ad ad' ts.length us.length cap cap' w hh
end Go.Proofs.YtikpipenhamdbaaGreat

namespace Go.Proofs.YtikpipenhamdbaaGreat
open Go.RowKit

/-- How many of so many parts are left behind a tree. -/
def leftT : (d : Nat) → Tn d → Int → Int → Int
 | 0, t, _, _ => t.elim
 | d + 1, t, left, deep => if deep < 1 then -1 else t.2.foldl (fun l a => if 0 ≤ l then leftT d a l (deep - 1) else l) (left - 1)
/-- Behind some trees. -/
def leftsT (d : Nat) (ts : List (Tn d)) (l deep : Int) : Int := ts.foldl (fun l a => if 0 ≤ l then leftT d a l deep else l) l
theorem left_succ (d : Nat) (k : Int) (n : List UInt8) (ts : List (Tn d)) (left deep : Int) : leftT (d + 1) ((k, n), ts) left deep = if deep < 1 then -1 else leftsT d ts (left - 1) (deep - 1) := rfl
theorem lefts_neg (d : Nat) : ∀ (ts : List (Tn d)) (l deep : Int), l < 0 → leftsT d ts l deep = l
 | [], _, _, _ => rfl
 | _ :: ts, l, deep, h => by
  show leftsT d ts (if 0 ≤ l then _ else l) deep = l
  rw [if_neg (by omega)]
  exact lefts_neg d ts l deep h
theorem lefts_cons (d : Nat) (t : Tn d) (ts : List (Tn d)) (l deep : Int) (h : 0 ≤ l) : leftsT d (t :: ts) l deep = leftsT d ts (leftT d t l deep) deep := by
 show leftsT d ts (if 0 ≤ l then _ else l) deep = _
 rw [if_pos h]
theorem lefts_range (d : Nat) (ih : ∀ (t : Tn d) (left deep : Int), 0 ≤ left → -1 ≤ leftT d t left deep ∧ leftT d t left deep ≤ left - 1 ∧ (0 ≤ leftT d t left deep → leftT d t left deep = left - (flat d t).length)) :
  ∀ (ts : List (Tn d)) (l deep : Int), -1 ≤ l → -1 ≤ leftsT d ts l deep ∧ leftsT d ts l deep ≤ l ∧ (0 ≤ leftsT d ts l deep → leftsT d ts l deep = l - (flats d ts).length)
 | [], l, deep, h => ⟨h, Int.le_refl _, fun _ => by simp [flats, leftsT]⟩
 | t :: ts, l, deep, h => by
  by_cases h0 : 0 ≤ l
  ·rw [lefts_cons d t ts l deep h0]
   obtain ⟨h1, h2, h3⟩ := ih t l deep h0
   obtain ⟨h4, h5, h6⟩ := lefts_range d ih ts (leftT d t l deep) deep h1
   refine ⟨h4, by omega, fun h7 => ?_⟩
   have h8 := h6 h7
   have h9 := h3 (by omega)
   rw [flats_cons, List.length_append]
   omega
  ·rw [lefts_neg d _ l deep (by omega)]
   exact ⟨h, Int.le_refl _, fun h => by omega⟩
theorem left_range : ∀ (d : Nat) (t : Tn d) (left deep : Int), 0 ≤ left → -1 ≤ leftT d t left deep ∧ leftT d t left deep ≤ left - 1 ∧ (0 ≤ leftT d t left deep → leftT d t left deep = left - (flat d t).length)
 | 0, t, _, _, _ => t.elim
 | d + 1, ((k, n), ts), left, deep, h => by
  rw [left_succ]
  split
  ·exact ⟨by omega, by omega, fun h => by omega⟩
  ·obtain ⟨h1, h2, h3⟩ := lefts_range d (left_range d) ts (left - 1) (deep - 1) (by omega)
   refine ⟨h1, h2, fun h4 => ?_⟩
   rw [h3 h4, flat_succ, List.length_cons]
   omega

set_option maxHeartbeats 4000000 in
set_option maxRecDepth 10000 in
theorem left_any : ∀ (d : Nat) (x : Value) (t : Tn d) (left deep : Int) (w : World) (B : Nat), B ≤ w.heap.size → TyAt w B d x t → 0 ≤ left → left ≤ 4194304 → -100 ≤ deep → deep ≤ 65536 →
  Calls Tryz.prog 16 #[x, .int .i64 left, .int .i64 deep] w fun r w' => r = .returned (.int .i64 (leftT d t left deep)) ∧ Below w.heap.size w w'
 | 0, _, _, _, _, _, _, _, h, _, _, _, _ => h.elim
 | d + 1, x, ((k, n), ts), left, deep, w, B, hB, ⟨v, hx, h1, h2, h⟩, hl0, hl1, hd0, hd1 => by
  have IH := fun (x : Value) (t : Tn d) => left_any d x t
  simp only at hx h1 h2 h
  subst hx
  obtain ⟨ad, cap, rfl, hrow⟩ := h.cells
  rw [left_succ]
  obtain ⟨W, hW, hbW, hsW, b0, b1, b2⟩ := cells_box w (.int .i64 k) (.string ⟨n.toArray⟩) (.slice ad ts.length cap) 29
  by_cases hd : deep < 1
  ·rw [if_pos hd]
   clear IH h hrow
   go_enter Tryz.func16, Tryz.ntmps16
   go_wp2
   go_ret
   exact ⟨rfl, by rw [← hW]; exact hbW⟩
  ·rw [if_neg hd]
   generalize hR : leftsT d ts (left - 1) (deep - 1) = R
   have HR : Hid (leftsT d ts (left - 1) (deep - 1) = R) := hR
   have HW : Hid (Below w.heap.size w W) := hbW
   have HS : Hid (W.heap.size = w.heap.size + 1) := hsW
   have HB : Hid (B ≤ w.heap.size) := hB
   have HC : Hid (ts ≠ [] → ∃ g o, ad = some ⟨g, o, none⟩ ∧ ts.length ≤ cap ∧ g < B ∧
    ∀ j (h : j < ts.length), ∃ k n ad' len' cap', (∀ w', Below B w w' → w'.cell? ⟨g, o + j * 3, none⟩ = some (.int .i64 k) ∧ w'.cell? ⟨g, o + j * 3 + 1, none⟩ = some (.string n) ∧ w'.cell? ⟨g, o + j * 3 + 2, none⟩ = some (.slice ad' len' cap')) ∧ TyAt w B d (.agg #[.int .i64 k, .string n, .slice ad' len' cap']) ts[j]) := hrow
   have hl2 : left - 1 ≤ 4194304 := by omega
   have hl3 : -1 ≤ left - 1 := by omega
   clear hR hrow h hB
   go_enter Tryz.func16, Tryz.ntmps16
   go_wp2
   rw [← hW]
   generalize hz : w.heap.size = z at b0 b1 b2 ⊢
   have HZ : Hid (w.heap.size = z) := hz
   clear hW hbW hsW hz
   go_loopw [1, 7] (fun l i wr => ∃ (j : Nat) (L : Int), j ≤ ts.length ∧ i = .int .i64 j ∧ l = .int .i64 L ∧ -1 ≤ L ∧ L ≤ 4194304 ∧ Below (z + 1) W wr ∧ Hid (leftsT d (ts.drop j) L (deep - 1) = R)) (fun _ i _ => ts.length - (intOf i).toNat)
   case atStart => exact ⟨0, left - 1, by omega, by go_num, by go_num, hl3, hl2, Below.refl _ _, HR.out⟩
   case round =>
    obtain ⟨j, L, hj, rfl, rfl, hL0, hL1, hbel, HJ⟩ := hrel
    have x2 := (hbel.cell (p := ⟨z, 2, none⟩) (by simp)).trans b2
    by_cases hlt : j < ts.length ∧ 0 ≤ L
    ·obtain ⟨hlt, hLp⟩ := hlt
     obtain ⟨g, o, rfl, hcap, hg, hel⟩ := HC.out (by intro h; rw [h] at hlt; simp at hlt)
     obtain ⟨k1, n1, ad1, l1, cp1, hcel, T1⟩ := hel j hlt
     have hzB : B ≤ z := by have := HB.out; have := HZ.out; omega
     have hwz : Below z w wr := by
      have := HW.out
      rw [HZ.out] at this
      exact this.trans (hbel.mono (by omega))
     obtain ⟨p0, p1, p2⟩ := hcel wr (hwz.mono hzB)
     have hzr : z + 1 ≤ wr.heap.size := by have := hbel.size; have := HS.out; have := HZ.out; omega
     have CJ := IH _ _ L (deep - 1) wr B (by omega) (T1.on (hwz.mono hzB)) hLp hL1 (by omega) (by omega)
     have hrg := left_range d ts[j] L (deep - 1) hLp
     have HN : Hid (leftsT d (ts.drop (j + 1)) (leftT d ts[j] L (deep - 1)) (deep - 1) = R) := by
      show _ = R
      rw [← HJ.out, List.drop_eq_getElem_cons hlt, lefts_cons _ _ _ _ _ hLp]
     generalize leftT d ts[j] L (deep - 1) = L2 at CJ hrg HN
     obtain ⟨r1, r2, _⟩ := hrg
     have i1 : (0 : Int) ≤ (j : Int) := by omega
     have i2 : (j : Int) < (ts.length : Int) := by omega
     have hjl : j + 1 ≤ ts.length := hlt
     have hL2 : L2 ≤ 4194304 := by omega
     clear T1 IH b0 b1 b2 hcel hel HJ
     go_wp2_with (go_at_call 16; (with_reducible refine Calls.mono CJ ?_); rintro e' w1 ⟨rfl, hb1⟩)
     have hb2 : Below (z + 1) W w1 := hbel.trans (hb1.mono hzr)
     go_roundw
     case rel => exact ⟨j + 1, L2, hjl, by go_num, rfl, r1, hL2, hb2, HN⟩
     case measure => simp [intOf]; omega
    ·have HF : Hid (R = L) := by
      show R = L
      rw [← HJ.out]
      by_cases hL : L < 0
      ·rw [lefts_neg _ _ _ _ hL]
      ·rw [List.drop_eq_nil_of_le (by omega)]; rfl
     clear IH
     by_cases hj2 : j < ts.length
     ·have hLn : ¬ 0 ≤ L := fun h => hlt ⟨hj2, h⟩
      clear hlt
      go_wp2
      go_ret
      exact ⟨by rw [HF.out]; rfl, by have h := HW.out; rw [HZ.out] at h ⊢; exact h.trans (hbel.mono (by omega))⟩
     ·clear hlt
      go_wp2
      go_ret
      exact ⟨by rw [HF.out]; rfl, by have h := HW.out; rw [HZ.out] at h ⊢; exact h.trans (hbel.mono (by omega))⟩

end Go.Proofs.YtikpipenhamdbaaGreat

namespace Go.Proofs.YtikpipenhamdbaaGreat
open Go.RowKit

/-- A bound: a name and a tree. -/
abbrev Bd := List UInt8 × Sigma Tn
/-- A row of bounds: what it says, by name and nodes. -/
def bdF (b : Bd) : List UInt8 × List Nd := (b.1, flat b.2.1 b.2.2)
/-- The slice v is a row of bounds; its block and the blocks that it leads to are below B. -/
def BdAt (w : World) (B : Nat) (v : Value) (bs : List Bd) : Prop :=
 ∃ ad cap, v = .slice ad bs.length cap ∧ bs.length < 140737488355328 ∧ (bs ≠ [] → ∃ g o, ad = some ⟨g, o, none⟩ ∧ bs.length ≤ cap ∧ g < B ∧
  ∀ j (h : j < bs.length), bs[j].1.length < 140737488355328 ∧ ∃ k n ad' len' cap', (∀ w', Below B w w' → w'.cell? ⟨g, o + j * 4, none⟩ = some (.string ⟨bs[j].1.toArray⟩) ∧ w'.cell? ⟨g, o + j * 4 + 1, none⟩ = some (.int .i64 k) ∧ w'.cell? ⟨g, o + j * 4 + 2, none⟩ = some (.string n) ∧ w'.cell? ⟨g, o + j * 4 + 3, none⟩ = some (.slice ad' len' cap')) ∧ TyAt w B bs[j].2.1 (.agg #[.int .i64 k, .string n, .slice ad' len' cap']) bs[j].2.2)
set_option maxHeartbeats 8000000 in
set_option maxRecDepth 10000 in
theorem sameBounds_true (v v' : Value) (al bs : List Bd) (w : World) (B : Nat) (hB : B ≤ w.heap.size) (h : BdAt w B v al) (h' : BdAt w B v' bs) (he : al.map bdF = bs.map bdF) :
  Calls Tryz.prog 22 #[v, v'] w fun r w' => r = .returned (.bool true) ∧ Below w.heap.size w w' := by
 have hl : al.length = bs.length := by have := congrArg List.length he; simpa using this
 have hp : ∀ j (h1 : j < al.length) (h2 : j < bs.length), al[j].1 = bs[j].1 ∧ flat al[j].2.1 al[j].2.2 = flat bs[j].2.1 bs[j].2.2 := fun j h1 h2 => by
  have e : (al.map bdF)[j]'(by simpa using h1) = (bs.map bdF)[j]'(by simpa using h2) := by simp only [he]
  simp only [List.getElem_map, bdF, Prod.mk.injEq] at e
  exact e
 have HP : Hid (∀ j (h1 : j < al.length) (h2 : j < bs.length), al[j].1 = bs[j].1 ∧ flat al[j].2.1 al[j].2.2 = flat bs[j].2.1 bs[j].2.2) := hp
 obtain ⟨ad, cap, rfl, hla, h⟩ := h
 obtain ⟨ad', cap', rfl, hlb, h'⟩ := h'
 rw [← hl]
 have HA : Hid _ := h
 have HA' : Hid _ := h'
 have HL : Hid (al.length = bs.length) := hl
 have HB : Hid (B ≤ w.heap.size) := hB
 clear h h' hl hp he hB
 go_enter Tryz.func22, Tryz.ntmps22
 go_wp2
 go_loopw [5] (fun i wr => ∃ j : Nat, j ≤ al.length ∧ i = .int .i64 j ∧ Below w.heap.size w wr) (fun i _ => al.length - (intOf i).toNat)
 case atStart => exact ⟨0, by omega, by go_num, Below.refl _ _⟩
 case round =>
  obtain ⟨j, hj, rfl, hbel⟩ := hrel
  by_cases hlt : j < al.length
  ·have hlu : j < bs.length := by have := HL.out; omega
   obtain ⟨g, o, rfl, _, hg, hel⟩ := HA.out (by intro e; rw [e] at hlt; simp at hlt)
   obtain ⟨g', o', rfl, _, hg', hel'⟩ := HA'.out (by intro e; rw [e] at hlu; simp at hlu)
   obtain ⟨hn1, k1, n1, ad1, l1, cp1, hcel, T1⟩ := hel j hlt
   obtain ⟨hn2, k2, n2, ad2, l2, cp2, hcel', T2⟩ := hel' j hlu
   obtain ⟨E1, E2⟩ := HP.out j hlt hlu
   have hBw := HB.out
   have hwB := hbel.mono hBw
   obtain ⟨p0, p1, p2, p3⟩ := hcel wr hwB
   obtain ⟨q0, q1, q2, q3⟩ := hcel' wr hwB
   rw [← E1] at q0
   have CJ : ∀ W', Below B w W' → B ≤ W'.heap.size → Calls Tryz.prog 9 #[.agg #[.int .i64 k1, .string n1, .slice ad1 l1 cp1], .agg #[.int .i64 k2, .string n2, .slice ad2 l2 cp2]] W' fun r w' => r = .returned (.bool true) ∧ Below W'.heap.size W' w' := fun W' hb' hs' => by
    have := same_any _ _ _ _ _ _ W' B hs' (T1.on hb') (T2.on hb')
    rw [decide_eq_true E2] at this
    exact this
   generalize al[j].1 = nm at p0 q0 hn1
   have qn : (nm != nm) = false := by simp
   have i1 : (0 : Int) ≤ (j : Int) := by omega
   have i2 : (j : Int) < (al.length : Int) := by omega
   have hjl : j + 1 ≤ al.length := hlt
   have hwr : B ≤ wr.heap.size := by have := hbel.size; omega
   have hgr : g < wr.heap.size ∧ g' < wr.heap.size := by omega
   clear T1 T2 hcel hcel' hel hel' E1 E2 hn2
   go_wp2
   go_region_held3 (fun w' => (w'.cell? ⟨g, o + j * 4, none⟩ = some (.string ⟨nm.toArray⟩) ∧ w'.cell? ⟨g, o + j * 4 + 1, none⟩ = some (.int .i64 k1) ∧ w'.cell? ⟨g, o + j * 4 + 2, none⟩ = some (.string n1) ∧ w'.cell? ⟨g, o + j * 4 + 3, none⟩ = some (.slice ad1 l1 cp1)) ∧ w'.cell? ⟨g', o' + j * 4, none⟩ = some (.string ⟨nm.toArray⟩) ∧ w'.cell? ⟨g', o' + j * 4 + 1, none⟩ = some (.int .i64 k2) ∧ w'.cell? ⟨g', o' + j * 4 + 2, none⟩ = some (.string n2) ∧ w'.cell? ⟨g', o' + j * 4 + 3, none⟩ = some (.slice ad2 l2 cp2)) (first | exact ⟨⟨p0, p1, p2, p3⟩, q0, q1, q2, q3⟩ | assumption | (have hk : ∀ p : Addr, p.block < wr.heap.size → w1.cell? p = wr.cell? p := fun p hp => hb1.cell hp; exact ⟨⟨(hk _ (by simp; omega)).trans p0, (hk _ (by simp; omega)).trans p1, (hk _ (by simp; omega)).trans p2, (hk _ (by simp; omega)).trans p3⟩, (hk _ (by simp; omega)).trans q0, (hk _ (by simp; omega)).trans q1, (hk _ (by simp; omega)).trans q2, (hk _ (by simp; omega)).trans q3⟩) | go_keep)
    (first | (go_at_call 9; (with_reducible refine Calls.mono (CJ _ ?_ ?_) ?_); exact hwB.drew; (show B ≤ wr.heap.size; omega); rintro e' w1 ⟨rfl, hb1⟩))
   all_goals
    have a0 := (hb1.cell (p := ⟨g, o + j * 4, none⟩) hgr.1).trans p0
    have c0 := (hb1.cell (p := ⟨g', o' + j * 4, none⟩) hgr.2).trans q0
    have hb2 : Below w.heap.size w w1 := hbel.drew.trans (hb1.mono (by have := hbel.size; show w.heap.size ≤ wr.heap.size; omega))
    clear hb1 CJ p0 p1 p2 p3 q0 q1 q2 q3
    go_wp2
    go_region
    go_wp2
    go_roundw
    case rel => exact ⟨j + 1, hjl, by go_num, hb2.drew⟩
    case measure => simp [intOf]; omega
  ·clear hj
   go_wp2
   go_ret
   exact ⟨rfl, hbel⟩
end Go.Proofs.YtikpipenhamdbaaGreat

namespace Go.Proofs.YtikpipenhamdbaaGreat
open Go.RowKit

/-- What is left behind a row of bounds. -/
def leftB (bs : List Bd) (l : Int) : Int := bs.foldl (fun l b => if 0 ≤ l then leftT b.2.1 b.2.2 l 65536 else l) l
def greatB (bs : List Bd) : Bool := decide (leftB bs 4194304 < 0)
theorem leftB_low : ∀ (bs : List Bd) (l : Int), l < 0 → leftB bs l = l
 | [], _, _ => rfl
 | b :: r, l, h => by
  show leftB r (if 0 ≤ l then _ else l) = l
  rw [if_neg (by omega)]
  exact leftB_low r l h
theorem leftB_cons (b : Bd) (r : List Bd) (l : Int) (h : 0 ≤ l) : leftB (b :: r) l = leftB r (leftT b.2.1 b.2.2 l 65536) := by
 show leftB r (if 0 ≤ l then _ else l) = _
 rw [if_pos h]
/-- A row that is not too great has no tree that is. -/
theorem leftB_nodes : ∀ (bs : List Bd) (l : Int), 0 ≤ l → 0 ≤ leftB bs l → ∀ b ∈ bs, ((flat b.2.1 b.2.2).length : Int) ≤ l
 | [], _, _, _, _, h => by simp at h
 | b :: r, l, hl, h, c, hc => by
  rw [leftB_cons b r l hl] at h
  obtain ⟨h1, h2, h3⟩ := left_range b.2.1 b.2.2 l 65536 hl
  rcases Int.lt_or_le (leftT b.2.1 b.2.2 l 65536) 0 with hn | hp
  ·rw [leftB_low r _ hn] at h
   omega
  ·have h4 := h3 hp
   rcases List.mem_cons.1 hc with rfl | hc
   ·omega
   ·have := leftB_nodes r _ hp h c hc
    omega
end Go.Proofs.YtikpipenhamdbaaGreat
