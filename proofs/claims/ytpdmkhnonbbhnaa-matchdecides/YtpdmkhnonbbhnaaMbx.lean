/- The law's own small functions: sameInts. The law's own small functions: samePats, of rows that are the same. The law's own small functions: heavy: how many patterns there may be. -/
import Derived.Test.YtpdmkhnonbbhnaaHp
import Derived.WalkKit
import Derived.WalkSpells
import Derived.WalkLawsBesides
import Derived.WalkMore
import Derived.Deep.RegionHeld3
import Derived.Deep.Cut
import Derived.BigQuiet
namespace Go.Proofs.Ytpdmkhnonbbhnaa
open Go.RowKit

set_option maxHeartbeats 4000000 in
set_option maxRecDepth 10000 in
theorem ints_same (v u : Value) (l k : List Int) (w : World) (S : Nat → Prop) (hS : ∀ b, S b → b < w.heap.size) (h : Ints w S v l) (h' : Ints w S u k) (hbig : l.length < 140737488355328) :
    Calls Try.prog 16 #[v, u] w fun r w' => r = .returned (.bool (decide (l = k))) ∧ Below w.heap.size w w' := by
  obtain ⟨ad, cap, rfl, hl⟩ := RowP.open h
  obtain ⟨ad', cap', rfl, hk⟩ := RowP.open h'
  clear h h'
  have HS : Hid (∀ b, S b → b < w.heap.size) := hS
  clear hS
  by_cases hn : l.length = k.length
  · generalize hR : decide (l = k) = R
    have HR : Hid (decide (l = k) = R) := hR
    have HN : Hid (l.length = k.length) := hn
    rw [← hn]
    clear hR hn
    go_enter Try.func16, Try.ntmps16
    go_wp2
    go_loopw [5] (fun i wr => ∃ j : Nat, j ≤ l.length ∧ i = .int .i64 j ∧ Below w.heap.size w wr ∧ Hid (∀ i, i < j → l[i]? = k[i]?)) (fun i _ => l.length - (intOf i).toNat)
    case atStart => exact ⟨0, by omega, by go_num, Below.refl _ _, fun i h => by omega⟩
    case round =>
      obtain ⟨j, hj, rfl, hbel, HJ⟩ := hrel
      by_cases hlt : j < l.length
      · have hlk : j < k.length := by have := HN.out; omega
        obtain ⟨g, o, rfl, hc, hl⟩ := hl (fun e => by rw [e] at hlt; simp at hlt)
        obtain ⟨g', o', rfl, hc', hk⟩ := hk (fun e => by rw [e] at hlk; simp at hlk)
        obtain ⟨a1, a2⟩ := hl j hlt
        obtain ⟨b1, b2⟩ := hk j hlk
        have p1 := (hbel.cell (p := ⟨g, o + j * 1, none⟩) (HS.out _ a1)).trans a2
        have p2 := (hbel.cell (p := ⟨g', o' + j * 1, none⟩) (HS.out _ b1)).trans b2
        rw [Nat.mul_one] at p1 p2
        rw [← HN.out] at hc'
        clear hl hk a1 a2 b1 b2
        by_cases he : l[j] = k[j]
        · rw [← he] at p2
          have HE : Hid (l[j]? = k[j]?) := by show l[j]? = k[j]?; rw [List.getElem?_eq_getElem hlt, List.getElem?_eq_getElem hlk, he]
          clear he
          have i1 : (0 : Int) ≤ (j : Int) := by omega
          have i2 : (j : Int) < (l.length : Int) := by omega
          generalize l[j] = x at p1 p2
          have hx : (x != x) = false := by simp
          go_wp2
          go_region
          all_goals
            go_wp2
            go_roundw
            case rel =>
              refine ⟨j + 1, hlt, by go_num, by first | exact hbel | exact hbel.drew, fun i h => ?_⟩
              by_cases hij : i = j
              · rw [hij]; exact HE.out
              · exact HJ.out i (by omega)
            case measure => simp [intOf]; omega
        · have HF : Hid (R = false) := by
            show R = false
            rw [← HR.out, decide_eq_false_iff_not]
            rintro rfl
            exact he rfl
          have i1 : (0 : Int) ≤ (j : Int) := by omega
          have i2 : (j : Int) < (l.length : Int) := by omega
          generalize l[j] = x at p1 he
          generalize k[j] = y at p2 he
          have hx : (x != y) = true := by simpa using he
          clear he
          go_wp2
          go_region
          all_goals
            go_wp2
            go_ret
            exact ⟨by rw [HF.out]; rfl, by first | exact hbel | exact hbel.drew⟩
      · have HF : Hid (R = true) := by
          show R = true
          rw [← HR.out, decide_eq_true_eq]
          refine List.ext_getElem? fun i => ?_
          by_cases hi : i < j
          · exact HJ.out i hi
          · rw [List.getElem?_eq_none (by omega), List.getElem?_eq_none (by have := HN.out; omega)]
        go_wp2
        go_ret
        exact ⟨by rw [HF.out]; rfl, hbel⟩
  · have hF : decide (l = k) = false := decide_eq_false (fun e => hn (by rw [e]))
    rw [hF]
    have hne : ¬ (l.length : Int) = (k.length : Int) := by omega
    clear hl hk
    go_enter Try.func16, Try.ntmps16
    go_wp2
    go_ret
    exact ⟨rfl, Below.refl _ _⟩
end Go.Proofs.Ytpdmkhnonbbhnaa

namespace Go.Proofs.Ytpdmkhnonbbhnaa
open Go.RowKit

set_option maxHeartbeats 4000000 in
set_option maxRecDepth 10000 in
theorem pats_same : ∀ (D : Nat) (v u : Value) (ps : List Pt) (w : World) (S : Nat → Prop), (∀ p ∈ ps, p.1 < D) → (∀ b, S b → b < w.heap.size) → ps.length < 140737488355328 → Pats w S v ps → Pats w S u ps →
    Calls Try.prog 28 #[v, u] w fun r w' => r = .returned (.bool true) ∧ Below w.heap.size w w'
  | 0, v, u, ps, w, S, hD, hB, hbig, h, h' => by
    obtain rfl : ps = [] := by
      cases ps with
      | nil => rfl
      | cons p r => exact absurd (hD p (by simp)) (by omega)
    obtain ⟨ad, cap, rfl, _⟩ := RowP.open h
    obtain ⟨ad', cap', rfl, _⟩ := RowP.open h'
    clear h h'
    go_enter Try.func28, Try.ntmps28
    go_wp2
    refine wp_loop_rounds 1 ?_
    rw [rounds_succ]
    go_wp2
    go_ret
    exact ⟨rfl, Below.refl _ _⟩
  | D + 1, v, u, ps, w, S, hD, hB, hbig, h, h' => by
    have IH := pats_same D
    obtain ⟨ad, cap, rfl, hl⟩ := RowP.open h
    obtain ⟨ad', cap', rfl, hk⟩ := RowP.open h'
    have HB : Hid (∀ b, S b → b < w.heap.size) := hB
    have HD : Hid (∀ p ∈ ps, p.1 < D + 1) := hD
    clear h h' hD hB
    go_enter Try.func28, Try.ntmps28
    go_wp2
    go_loopw [5] (fun i wr => ∃ j : Nat, j ≤ ps.length ∧ i = .int .i64 j ∧ Below w.heap.size w wr) (fun i _ => ps.length - (intOf i).toNat)
    case atStart => exact ⟨0, by omega, by go_num, Below.refl _ _⟩
    case round =>
      obtain ⟨j, hj, rfl, hbel⟩ := hrel
      by_cases hlt : j < ps.length
      · obtain ⟨g, o, rfl, hc, hl2⟩ := hl (fun e => by rw [e] at hlt; simp at hlt)
        obtain ⟨g', o', rfl, hc', hk2⟩ := hk (fun e => by rw [e] at hlt; simp at hlt)
        have hbB : Keeps S w wr := Keeps.of hbel HB.out
        obtain ⟨a0, p0, p1, p2, l1, l2, ad1, cp1, p3, P1⟩ := ((hl2 j hlt).on hbB).open
        obtain ⟨b0, q0, q1, q2, _, _, ad2, cp2, q3, P2⟩ := ((hk2 j hlt).on hbB).open
        have hdk : ∀ p ∈ ps[j].kids, p.1 < D := fun p hp => by
          have := HD.out ps[j] (List.getElem_mem hlt)
          have := Pt.kids_lt hp
          omega
        have hwr : w.heap.size ≤ wr.heap.size := hbel.size
        have CJ : ∀ W', Below wr.heap.size wr W' → Calls Try.prog 28 #[.slice ad1 ps[j].kids.length cp1, .slice ad2 ps[j].kids.length cp2] W' fun r w' => r = .returned (.bool true) ∧ Below W'.heap.size W' w' := fun W' hb' => by
          have hB' : ∀ b, S b → b < wr.heap.size := fun b hb => by have := HB.out b hb; omega
          exact IH _ _ _ W' S hdk (fun b hb => by have := hb'.size; have := hB' b hb; omega) l2 (P1.on (Keeps.of hb' hB')) (P2.on (Keeps.of hb' hB'))
        have hgr : g < wr.heap.size ∧ g' < wr.heap.size := by have := HB.out _ a0; have := HB.out _ b0; omega
        have i1 : (0 : Int) ≤ (j : Int) := by omega
        have i2 : (j : Int) < (ps.length : Int) := by omega
        generalize ps[j].kids.length = n1 at CJ p3 q3
        generalize ps[j].kind = k1 at p0 q0
        generalize (⟨ps[j].name.toArray⟩ : ByteArray) = s1 at p1 q1
        generalize ps[j].num = m1 at p2 q2
        clear l1 l2 P1 P2 hl hk hl2 hk2 IH hdk
        have e1 : (k1 != k1) = false := by simp
        have e3 : (m1 != m1) = false := by simp
        go_wp2
        go_region_held3 (fun w' => w'.cell? ⟨g, o + j * 4 + 3, none⟩ = some (.slice ad1 n1 cp1) ∧ w'.cell? ⟨g', o' + j * 4 + 3, none⟩ = some (.slice ad2 n1 cp2)) (first | exact ⟨p3, q3⟩ | assumption | (have hk : ∀ p : Addr, p.block < wr.heap.size → w1.cell? p = wr.cell? p := fun p hp => hb1.cell hp; exact ⟨(hk _ hgr.1).trans p3, (hk _ hgr.2).trans q3⟩) | go_keep)
          (first | (go_at_call 28; (with_reducible refine Calls.mono (CJ _ ?_) ?_); exact (Below.refl _ _).drew; rintro e' w1 ⟨rfl, hb1⟩))
        all_goals
          have hk : ∀ p : Addr, p.block < wr.heap.size → w1.cell? p = wr.cell? p := fun p hp => hb1.cell hp
          have p0 := (hk ⟨g, o + j * 4, none⟩ hgr.1).trans p0
          have p1 := (hk ⟨g, o + j * 4 + 1, none⟩ hgr.1).trans p1
          have p2 := (hk ⟨g, o + j * 4 + 2, none⟩ hgr.1).trans p2
          have q0 := (hk ⟨g', o' + j * 4, none⟩ hgr.2).trans q0
          have q1 := (hk ⟨g', o' + j * 4 + 1, none⟩ hgr.2).trans q1
          have q2 := (hk ⟨g', o' + j * 4 + 2, none⟩ hgr.2).trans q2
          have hb2 : Below w.heap.size w w1 := hbel.drew.trans (hb1.mono hwr)
          clear hb1 CJ p3 q3 hk
          go_wp2
          go_quiet (fail)
          all_goals
            go_wp2
            go_roundw
            case rel => exact ⟨j + 1, hlt, by go_num, ⟨hb2.os, hb2.tape, hb2.output, hb2.size, hb2.block⟩⟩
            case measure => simp [intOf]; omega
      · go_wp2
        go_ret
        exact ⟨rfl, hbel⟩
end Go.Proofs.Ytpdmkhnonbbhnaa

namespace Go.Proofs.Ytpdmkhnonbbhnaa
open Go.RowKit

theorem szs_take (ps : List Pt) (j : Nat) (h : j < ps.length) : szs (ps.take (j + 1)) = szs (ps.take j) + ps[j].sz := by
  rw [List.take_add_one, List.getElem?_eq_getElem h, szs_append]
  simp [szs]
set_option maxHeartbeats 4000000 in
set_option maxRecDepth 10000 in
theorem heavy_any : ∀ (D : Nat) (v : Value) (ps : List Pt) (left : Int) (w : World) (S : Nat → Prop), (∀ p ∈ ps, p.1 < D) → (∀ b, S b → b < w.heap.size) → ps.length < 140737488355328 → -1 ≤ left → left ≤ 10000 → Pats w S v ps →
    Calls Try.prog 7 #[v, .int .i64 left] w fun r w' => (∃ x : Int, r = .returned (.int .i64 x) ∧ -1 ≤ x ∧ x ≤ left ∧ (0 ≤ x → (szs ps : Int) ≤ left - x)) ∧ Below w.heap.size w w'
  | 0, v, ps, left, w, S, hD, hB, hbig, h1, h2, h => by
    obtain rfl : ps = [] := by
      cases ps with
      | nil => rfl
      | cons p r => exact absurd (hD p (by simp)) (by omega)
    obtain ⟨ad, cap, rfl, _⟩ := RowP.open h
    clear h
    go_enter Try.func7, Try.ntmps7
    go_wp2
    refine wp_loop_rounds 1 ?_
    rw [rounds_succ]
    go_wp2
    go_ret
    exact ⟨⟨left, rfl, h1, Int.le_refl _, fun _ => by simp [szs]⟩, Below.refl _ _⟩
  | D + 1, v, ps, left, w, S, hD, hB, hbig, h1, h2, h => by
    have IH := heavy_any D
    obtain ⟨ad, cap, rfl, hl⟩ := RowP.open h
    have HB : Hid (∀ b, S b → b < w.heap.size) := hB
    have HD : Hid (∀ p ∈ ps, p.1 < D + 1) := hD
    clear h hD hB
    go_enter Try.func7, Try.ntmps7
    go_wp2
    go_loopw [1, 5] (fun lv i wr => ∃ (j : Nat) (x : Int), j ≤ ps.length ∧ i = .int .i64 j ∧ lv = .int .i64 x ∧ -1 ≤ x ∧ x ≤ left ∧ Hid (0 ≤ x → (szs (ps.take j) : Int) ≤ left - x) ∧ Below w.heap.size w wr) (fun _ i _ => ps.length - (intOf i).toNat)
    case atStart => exact ⟨0, left, by omega, by go_num, rfl, h1, Int.le_refl _, fun _ => by simp [szs], Below.refl _ _⟩
    case round =>
      obtain ⟨j, x, hj, rfl, rfl, hx1, hx2, HX, hbel⟩ := hrel
      by_cases hlt : j < ps.length
      · by_cases hx0 : 0 ≤ x
        · obtain ⟨g, o, rfl, hc, hl2⟩ := hl (fun e => by rw [e] at hlt; simp at hlt)
          have hbB : Keeps S w wr := Keeps.of hbel HB.out
          obtain ⟨a0, p0, p1, p2, l1, l2, ad1, cp1, p3, P1⟩ := ((hl2 j hlt).on hbB).open
          have hdk : ∀ p ∈ ps[j].kids, p.1 < D := fun p hp => by
            have := HD.out ps[j] (List.getElem_mem hlt)
            have := Pt.kids_lt hp
            omega
          have hwr : w.heap.size ≤ wr.heap.size := hbel.size
          have CJ : ∀ W', Below wr.heap.size wr W' → Calls Try.prog 7 #[.slice ad1 ps[j].kids.length cp1, .int .i64 (x - 1)] W' fun r w' => (∃ y : Int, r = .returned (.int .i64 y) ∧ -1 ≤ y ∧ y ≤ x - 1 ∧ (0 ≤ y → (szs ps[j].kids : Int) ≤ x - 1 - y)) ∧ Below W'.heap.size W' w' := fun W' hb' => by
            have hB' : ∀ b, S b → b < wr.heap.size := fun b hb => by have := HB.out b hb; omega
            exact IH _ _ _ W' S hdk (fun b hb => by have := hb'.size; have := hB' b hb; omega) l2 (by omega) (by omega) (P1.on (Keeps.of hb' hB'))
          have hgr : g < wr.heap.size := by have := HB.out _ a0; omega
          have hs : Hid (szs (ps.take (j + 1)) = szs (ps.take j) + (1 + szs ps[j].kids)) := by
            show szs (ps.take (j + 1)) = szs (ps.take j) + (1 + szs ps[j].kids)
            rw [szs_take ps j hlt, Pt.sz_eq]
          have HS : Hid (szs ps[j].kids = szs ps[j].kids) := rfl
          generalize ps[j].kids.length = n1 at CJ p3
          generalize hsk : szs ps[j].kids = sk at hs CJ
          have i1 : (0 : Int) ≤ (j : Int) := by omega
          have i2 : (j : Int) < (ps.length : Int) := by omega
          clear l1 l2 P1 hl hl2 IH hdk hsk HS p0 p1 p2
          go_wp2_with (go_at_call 7; (with_reducible refine Calls.mono (CJ _ ?_) ?_); exact Below.refl _ _; rintro e' w1 ⟨⟨y, rfl, hy1, hy2, hy3⟩, hb1⟩)

          all_goals
            have HY : Hid (0 ≤ y → (sk : Int) ≤ x - 1 - y) := hy3
            have hb2 : Below w.heap.size w w1 := hbel.trans (hb1.mono hwr)
            clear hb1 CJ p3 hy3
            go_wp2
            go_roundw
            case rel => exact ⟨j + 1, y, hlt, by go_num, rfl, hy1, by omega, fun h0 => by have := HX.out hx0; have := HY.out h0; have := hs.out; omega, hb2⟩
            case measure => simp [intOf]; omega
        · have hxm : x = -1 := by omega
          subst hxm
          go_wp2
          go_ret
          exact ⟨⟨-1, rfl, by omega, by omega, fun h => by omega⟩, hbel⟩
      · obtain rfl : j = ps.length := by omega
        have HX' : Hid (0 ≤ x → (szs ps : Int) ≤ left - x) := by
          have := HX.out
          rwa [List.take_length] at this
        clear HX
        go_wp2
        go_ret
        exact ⟨⟨x, rfl, hx1, hx2, HX'.out⟩, hbel⟩
end Go.Proofs.Ytpdmkhnonbbhnaa
