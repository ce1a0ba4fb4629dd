/- Same (of the document's own package): are two types the same? Rows of bounds in memory; sameBounds of rows that are the same. -/
import Derived.Test.YtikpipenhamdbaaMbx
import Derived.WalkKit
import Derived.WalkSpells
import Derived.WalkLawsBesides
import Derived.WalkMore
import Derived.Deep.RegionHeld3
import Derived.Deep.Cut
import Derived.BigQuiet
namespace Go.Proofs.Ytikpipenhamdbaa
open Go.RowKit

theorem bytes_eq {n m : List UInt8} : ((⟨n.toArray⟩ : ByteArray) = ⟨m.toArray⟩) ↔ n = m := by
  constructor
  · intro h
    have := congrArg (fun b => b.data.toList) h
    simpa using this
  · rintro rfl; rfl

set_option maxHeartbeats 4000000 in
set_option maxRecDepth 10000 in
theorem same_heads (k k' : Int) (n n' : List UInt8) (ad ad' : Option Addr) (len len' cap cap' : Nat) (w : World) (h : ¬ (k = k' ∧ n = n' ∧ len = len')) :
    Calls Try.prog 8 #[.agg #[.int .i64 k, .string ⟨n.toArray⟩, .slice ad len cap], .agg #[.int .i64 k', .string ⟨n'.toArray⟩, .slice ad' len' cap']] w fun r w' => r = .returned (.bool false) ∧ Below w.heap.size w w' := by
  have hb : ∀ o o', Below w.heap.size w ((w.alloc o).alloc o') := fun o o' => ((Below.refl _ _).alloc (Nat.le_refl _) o).alloc (by simp) o'
  by_cases hk : k = k'
  · subst hk
    by_cases hn : n = n'
    · subst hn
      have hne : ¬ (len : Int) = (len' : Int) := fun e => h ⟨rfl, rfl, by omega⟩
      clear h
      go_enter Try.func8, Try.ntmps8
      go_wp2
      go_ret
      exact ⟨rfl, hb _ _⟩
    · have hne : ¬ ((⟨n.toArray⟩ : ByteArray) = ⟨n'.toArray⟩) := fun e => hn (bytes_eq.1 e)
      clear h
      go_enter Try.func8, Try.ntmps8
      go_wp2
      go_ret
      exact ⟨rfl, hb _ _⟩
  · clear h
    go_enter Try.func8, Try.ntmps8
    go_wp2
    go_ret
    exact ⟨rfl, hb _ _⟩

set_option maxHeartbeats 4000000 in
set_option maxRecDepth 10000 in
theorem same_any : ∀ (d e : Nat) (x y : Value) (t : Tn d) (u : Tn e) (w : World) (B : Nat), B ≤ w.heap.size → TyAt w B d x t → TyAt w B e y u →
    Calls Try.prog 8 #[x, y] w fun r w' => r = .returned (.bool (decide (flat d t = flat e u))) ∧ Below w.heap.size w w'
  | 0, _, _, _, _, _, _, _, _, h, _ => h.elim
  | _ + 1, 0, _, _, _, _, _, _, _, _, h => h.elim
  | d + 1, e + 1, x, y, ((k, n), ts), ((k', n'), us), w, B, hB, ⟨v, hx, h1, h2, h⟩, ⟨v', hy, h1', h2', h'⟩ => by
    have IH := fun (x y : Value) (t : Tn d) (u : Tn e) => same_any d e x y t u
    simp only at hx hy h1 h2 h1' h2' h h'
    subst hx hy
    by_cases hh : k = k' ∧ n = n' ∧ ts.length = us.length
    · obtain ⟨rfl, rfl, hl⟩ := hh
      have hb : ∀ o o', Below w.heap.size w ((w.alloc o).alloc o') := fun o o' => ((Below.refl _ _).alloc (Nat.le_refl _) o).alloc (by simp) o'
      rcases h with ⟨h0, ad, cap, rfl⟩ | ⟨g, o, cap, rfl, h0, hc, hg, hj⟩
      · subst h0
        obtain rfl : us = [] := List.length_eq_zero_iff.1 hl.symm
        have hR : decide (flat (d + 1) ((k, n), []) = flat (e + 1) ((k, n), [])) = true := by
          rw [decide_eq_true_eq, flat_succ, flat_succ, flats_nil, flats_nil]
          rfl
        rw [hR]
        rcases h' with ⟨_, ad', cap', rfl⟩ | ⟨_, _, _, _, h0', _⟩
        · clear h1 h2 h1' h2' hR IH
          go_enter Try.func8, Try.ntmps8
          go_wp2
          refine wp_loop_rounds 1 ?_
          rw [rounds_succ]
          go_wp2
          go_ret
          exact ⟨rfl, hb _ _⟩
        · exact absurd rfl h0'
      · rcases h' with ⟨h0', _⟩ | ⟨g', o', cap', rfl, h0', hc', hg', hj'⟩
        · subst h0'
          exact absurd (List.length_eq_zero_iff.1 hl) h0
        · generalize hR : decide (flat (d + 1) ((k, n), ts) = flat (e + 1) ((k, n), us)) = R
          have HR : Hid (decide (flat (d + 1) ((k, n), ts) = flat (e + 1) ((k, n), us)) = R) := hR
          have HL : Hid (ts.length = us.length) := hl
          have HT : Hid (∀ j (h : j < ts.length), ∃ k n u, w.cell? ⟨g, o + j * 3, none⟩ = some (.int .i64 k) ∧ w.cell? ⟨g, o + j * 3 + 1, none⟩ = some (.string n) ∧ w.cell? ⟨g, o + j * 3 + 2, none⟩ = some u ∧ TyAt w B d (.agg #[.int .i64 k, .string n, u]) ts[j]) := hj
          have HU : Hid (∀ j (h : j < us.length), ∃ k n u, w.cell? ⟨g', o' + j * 3, none⟩ = some (.int .i64 k) ∧ w.cell? ⟨g', o' + j * 3 + 1, none⟩ = some (.string n) ∧ w.cell? ⟨g', o' + j * 3 + 2, none⟩ = some u ∧ TyAt w B e (.agg #[.int .i64 k, .string n, u]) us[j]) := hj'
          rw [← hl] at hc' ⊢
          have HB : Hid (B ≤ w.heap.size) := hB
          have HG : Hid (g < B ∧ g' < B) := ⟨hg, hg'⟩
          clear hR hl hj hj' h0 h0' h1 h1' h2' hB hg hg'
          go_enter Try.func8, Try.ntmps8
          go_wp2
          obtain ⟨W, hW, hbW, hsW, b0, b1, b2, c0, c1, c2⟩ := cells_boxes w (.int .i64 k) (.string ⟨n.toArray⟩) (.slice (some ⟨g, o, none⟩) ts.length cap) (.int .i64 k) (.string ⟨n.toArray⟩) (.slice (some ⟨g', o', none⟩) ts.length cap') 31
          rw [← hW]
          have HW : Hid (Below w.heap.size w W) := hbW
          have HS : Hid (W.heap.size = w.heap.size + 2) := hsW
          generalize hz : w.heap.size = z at b0 b1 b2 c0 c1 c2 ⊢
          have HZ : Hid (w.heap.size = z) := hz
          clear hW hbW hsW hz
          go_loopw [5] (fun i wr => ∃ j : Nat, j ≤ ts.length ∧ i = .int .i64 j ∧ Below (z + 2) W wr ∧ Hid (∀ i (h : i < ts.length) (h' : i < us.length), i < j → flat d ts[i] = flat e us[i])) (fun i _ => ts.length - (intOf i).toNat)
          case atStart => exact ⟨0, by omega, by go_num, Below.refl _ _, fun i _ _ h => by omega⟩
          case round =>
            obtain ⟨j, hj, rfl, hbel, HJ⟩ := hrel
            have x2 := (hbel.cell (p := ⟨z, 2, none⟩) (by simp)).trans b2
            have y2 := (hbel.cell (p := ⟨z + 1, 2, none⟩) (by simp)).trans c2
            by_cases hlt : j < ts.length
            · have hlu : j < us.length := by have := HL.out; omega
              have hzB : B ≤ z := by have := HB.out; have := HZ.out; omega
              have hwz : Below z w wr := by
                have := HW.out
                rw [HZ.out] at this
                exact this.trans (hbel.mono (by omega))
              obtain ⟨hg, hg'⟩ := HG.out
              obtain ⟨k1, n1, u1, p0, p1, p2, T1⟩ := HT.out j hlt
              obtain ⟨k2, n2, u2, q0, q1, q2, T2⟩ := HU.out j hlu
              obtain ⟨ad1, l1, cp1, rfl⟩ := T1.slice
              obtain ⟨ad2, l2, cp2, rfl⟩ := T2.slice
              rw [← hwz.cell (p := ⟨g, o + j * 3, none⟩) (by simp; omega)] at p0
              rw [← hwz.cell (p := ⟨g, o + j * 3 + 1, none⟩) (by simp; omega)] at p1
              rw [← hwz.cell (p := ⟨g, o + j * 3 + 2, none⟩) (by simp; omega)] at p2
              rw [← hwz.cell (p := ⟨g', o' + j * 3, none⟩) (by simp; omega)] at q0
              rw [← hwz.cell (p := ⟨g', o' + j * 3 + 1, none⟩) (by simp; omega)] at q1
              rw [← hwz.cell (p := ⟨g', o' + j * 3 + 2, none⟩) (by simp; omega)] at q2
              have hzr : z + 2 ≤ wr.heap.size := by have := hbel.size; have := HS.out; have := HZ.out; omega
              have CJ : ∀ W', Below z w W' → z ≤ W'.heap.size → Calls Try.prog 8 #[.agg #[.int .i64 k1, .string n1, .slice ad1 l1 cp1], .agg #[.int .i64 k2, .string n2, .slice ad2 l2 cp2]] W' fun r w' => r = .returned (.bool (decide (flat d ts[j] = flat e us[j]))) ∧ Below W'.heap.size W' w' :=
                fun W' hb' hs' => IH _ _ _ _ W' B (by omega) (T1.on (hb'.mono hzB)) (T2.on (hb'.mono hzB))
              generalize hr1 : decide (flat d ts[j] = flat e us[j]) = r1 at CJ
              have HR1 : Hid (decide (flat d ts[j] = flat e us[j]) = r1) := hr1
              have i1 : (0 : Int) ≤ (j : Int) := by omega
              have i2 : (j : Int) < (ts.length : Int) := by omega
              clear hr1 T1 T2 IH b0 b1 b2 c0 c1 c2
              go_wp2
              go_region_held3 (fun w' => (w'.cell? ⟨z, 2, none⟩ = some (.slice (some ⟨g, o, none⟩) ts.length cap) ∧ w'.cell? ⟨z + 1, 2, none⟩ = some (.slice (some ⟨g', o', none⟩) ts.length cap')) ∧ (w'.cell? ⟨g, o + j * 3, none⟩ = some (.int .i64 k1) ∧ w'.cell? ⟨g, o + j * 3 + 1, none⟩ = some (.string n1) ∧ w'.cell? ⟨g, o + j * 3 + 2, none⟩ = some (.slice ad1 l1 cp1)) ∧ w'.cell? ⟨g', o' + j * 3, none⟩ = some (.int .i64 k2) ∧ w'.cell? ⟨g', o' + j * 3 + 1, none⟩ = some (.string n2) ∧ w'.cell? ⟨g', o' + j * 3 + 2, none⟩ = some (.slice ad2 l2 cp2)) (first | exact ⟨⟨x2, y2⟩, ⟨p0, p1, p2⟩, q0, q1, q2⟩ | assumption | (have hk : ∀ p : Addr, p.block < wr.heap.size → w1.cell? p = wr.cell? p := fun p hp => hb1.cell hp; exact ⟨⟨(hk _ (by simp; omega)).trans x2, (hk _ (by simp; omega)).trans y2⟩, ⟨(hk _ (by simp; omega)).trans p0, (hk _ (by simp; omega)).trans p1, (hk _ (by simp; omega)).trans p2⟩, (hk _ (by simp; omega)).trans q0, (hk _ (by simp; omega)).trans q1, (hk _ (by simp; omega)).trans q2⟩) | go_keep)
                (first | (go_at_call 8; (with_reducible refine Calls.mono (CJ _ ?_ ?_) ?_); exact hwz.drew; (show z ≤ wr.heap.size; omega); rintro e' w1 ⟨rfl, hb1⟩))
              all_goals
                have hb2 : Below (z + 2) W w1 := hbel.drew.trans (hb1.mono hzr)
                clear hb1 CJ
                have hjl : j + 1 ≤ ts.length := hlt
                cases r1 with
                | true =>
                  go_wp2
                  go_roundw
                  case rel =>
                    refine ⟨j + 1, hjl, by go_num, hb2, fun i h h' hi => ?_⟩
                    by_cases hij : i = j
                    · subst hij; exact of_decide_eq_true HR1.out
                    · exact HJ.out i h h' (by omega)
                  case measure => simp [intOf]; omega
                | false =>
                  have HF : Hid (R = false) := by
                    show R = false
                    rw [← HR.out, decide_eq_false_iff_not, flat_eq_iff]
                    exact fun h => of_decide_eq_false HR1.out (h.2.2.2 j hlt hlu)
                  go_wp2
                  go_ret
                  exact ⟨by rw [HF.out]; rfl, by have h := HW.out; rw [HZ.out] at h ⊢; exact h.trans (hb2.mono (by omega))⟩
            · have HF : Hid (R = true) := by
                show R = true
                rw [← HR.out, decide_eq_true_eq, flat_eq_iff]
                exact ⟨rfl, rfl, HL.out, fun i h h' => HJ.out i h h' (by omega)⟩
              clear IH
              go_wp2
              go_ret
              exact ⟨by rw [HF.out]; rfl, by have h := HW.out; rw [HZ.out] at h ⊢; exact h.trans (hbel.mono (by omega))⟩
    · have hR : decide (flat (d + 1) ((k, n), ts) = flat (e + 1) ((k', n'), us)) = false := decide_eq_false (flat_both hh)
      rw [hR]
      obtain ⟨ad, cap, rfl⟩ := h.len
      obtain ⟨ad', cap', rfl⟩ := h'.len
      exact same_heads k k' n n' ad ad' ts.length us.length cap cap' w hh
end Go.Proofs.Ytikpipenhamdbaa

namespace Go.Proofs.Ytikpipenhamdbaa
open Go.RowKit

/-- A bound: a name and a tree. -/
abbrev Bd := List UInt8 × Sigma Tn
/-- A row of bounds: what it says, by name and nodes. -/
def bdF (b : Bd) : List UInt8 × List Nd := (b.1, flat b.2.1 b.2.2)
/-- The slice v is a row of bounds; its block and the blocks that it leads to are below B. -/
def BdAt (w : World) (B : Nat) (v : Value) (bs : List Bd) : Prop :=
  ∃ ad cap, v = .slice ad bs.length cap ∧ bs.length < 140737488355328 ∧ (bs ≠ [] → ∃ g o, ad = some ⟨g, o, none⟩ ∧ bs.length ≤ cap ∧ g < B ∧
    ∀ j (h : j < bs.length), bs[j].1.length < 140737488355328 ∧ ∃ k n ad' len' cap', (∀ w', Below B w w' → w'.cell? ⟨g, o + j * 4, none⟩ = some (.string ⟨bs[j].1.toArray⟩) ∧ w'.cell? ⟨g, o + j * 4 + 1, none⟩ = some (.int .i64 k) ∧ w'.cell? ⟨g, o + j * 4 + 2, none⟩ = some (.string n) ∧ w'.cell? ⟨g, o + j * 4 + 3, none⟩ = some (.slice ad' len' cap')) ∧ TyAt w B bs[j].2.1 (.agg #[.int .i64 k, .string n, .slice ad' len' cap']) bs[j].2.2)
theorem BdAt.below {w w' : World} {B B' : Nat} {v : Value} {bs : List Bd} (h : BdAt w B v bs) (hb : Below B w w') (hB : B ≤ B') : BdAt w' B' v bs := by
  obtain ⟨ad, cap, hv, hl, h⟩ := h
  refine ⟨ad, cap, hv, hl, fun h0 => ?_⟩
  obtain ⟨g, o, had, hc, hg, h⟩ := h h0
  refine ⟨g, o, had, hc, by omega, fun j hj => ?_⟩
  obtain ⟨hn, k, n, ad', len', cap', hcel, hT⟩ := h j hj
  refine ⟨hn, k, n, ad', len', cap', fun w2 hb2 => hcel w2 (hb.trans (hb2.mono hB)), TyAt.below hb hB _ _ _ hT⟩
set_option maxHeartbeats 8000000 in
set_option maxRecDepth 10000 in
theorem sameBounds_true (v v' : Value) (al bs : List Bd) (w : World) (B : Nat) (hB : B ≤ w.heap.size) (h : BdAt w B v al) (h' : BdAt w B v' bs) (he : al.map bdF = bs.map bdF) :
    Calls Try.prog 15 #[v, v'] w fun r w' => r = .returned (.bool true) ∧ Below w.heap.size w w' := by
  have hl : al.length = bs.length := by have := congrArg List.length he; simpa using this
  have hp : ∀ j (h1 : j < al.length) (h2 : j < bs.length), al[j].1 = bs[j].1 ∧ flat al[j].2.1 al[j].2.2 = flat bs[j].2.1 bs[j].2.2 := fun j h1 h2 => by
    have e : (al.map bdF)[j]'(by simpa using h1) = (bs.map bdF)[j]'(by simpa using h2) := by simp only [he]
    simp only [List.getElem_map, bdF, Prod.mk.injEq] at e
    exact e
  have HP : Hid (∀ j (h1 : j < al.length) (h2 : j < bs.length), al[j].1 = bs[j].1 ∧ flat al[j].2.1 al[j].2.2 = flat bs[j].2.1 bs[j].2.2) := hp
  obtain ⟨ad, cap, rfl, hla, h⟩ := h
  obtain ⟨ad', cap', rfl, hlb, h'⟩ := h'
  rw [← hl]
  have HA : Hid _ := h
  have HA' : Hid _ := h'
  have HL : Hid (al.length = bs.length) := hl
  have HB : Hid (B ≤ w.heap.size) := hB
  clear h h' hl hp he hB
  go_enter Try.func15, Try.ntmps15
  go_wp2
  go_loopw [5] (fun i wr => ∃ j : Nat, j ≤ al.length ∧ i = .int .i64 j ∧ Below w.heap.size w wr) (fun i _ => al.length - (intOf i).toNat)
  case atStart => exact ⟨0, by omega, by go_num, Below.refl _ _⟩
  case round =>
    obtain ⟨j, hj, rfl, hbel⟩ := hrel
    by_cases hlt : j < al.length
    · have hlu : j < bs.length := by have := HL.out; omega
      obtain ⟨g, o, rfl, _, hg, hel⟩ := HA.out (by intro e; rw [e] at hlt; simp at hlt)
      obtain ⟨g', o', rfl, _, hg', hel'⟩ := HA'.out (by intro e; rw [e] at hlu; simp at hlu)
      obtain ⟨hn1, k1, n1, ad1, l1, cp1, hcel, T1⟩ := hel j hlt
      obtain ⟨hn2, k2, n2, ad2, l2, cp2, hcel', T2⟩ := hel' j hlu
      obtain ⟨E1, E2⟩ := HP.out j hlt hlu
      have hBw := HB.out
      have hwB := hbel.mono hBw
      obtain ⟨p0, p1, p2, p3⟩ := hcel wr hwB
      obtain ⟨q0, q1, q2, q3⟩ := hcel' wr hwB
      rw [← E1] at q0
      have CJ : ∀ W', Below B w W' → B ≤ W'.heap.size → Calls Try.prog 8 #[.agg #[.int .i64 k1, .string n1, .slice ad1 l1 cp1], .agg #[.int .i64 k2, .string n2, .slice ad2 l2 cp2]] W' fun r w' => r = .returned (.bool true) ∧ Below W'.heap.size W' w' := fun W' hb' hs' => by
        have := same_any _ _ _ _ _ _ W' B hs' (T1.on hb') (T2.on hb')
        rw [decide_eq_true E2] at this
        exact this
      generalize al[j].1 = nm at p0 q0 hn1
      have qn : (nm != nm) = false := by simp
      have i1 : (0 : Int) ≤ (j : Int) := by omega
      have i2 : (j : Int) < (al.length : Int) := by omega
      have hjl : j + 1 ≤ al.length := hlt
      have hwr : B ≤ wr.heap.size := by have := hbel.size; omega
      have hgr : g < wr.heap.size ∧ g' < wr.heap.size := by omega
      clear T1 T2 hcel hcel' hel hel' E1 E2 hn2
      go_wp2
      go_region_held3 (fun w' => (w'.cell? ⟨g, o + j * 4, none⟩ = some (.string ⟨nm.toArray⟩) ∧ w'.cell? ⟨g, o + j * 4 + 1, none⟩ = some (.int .i64 k1) ∧ w'.cell? ⟨g, o + j * 4 + 2, none⟩ = some (.string n1) ∧ w'.cell? ⟨g, o + j * 4 + 3, none⟩ = some (.slice ad1 l1 cp1)) ∧ w'.cell? ⟨g', o' + j * 4, none⟩ = some (.string ⟨nm.toArray⟩) ∧ w'.cell? ⟨g', o' + j * 4 + 1, none⟩ = some (.int .i64 k2) ∧ w'.cell? ⟨g', o' + j * 4 + 2, none⟩ = some (.string n2) ∧ w'.cell? ⟨g', o' + j * 4 + 3, none⟩ = some (.slice ad2 l2 cp2)) (first | exact ⟨⟨p0, p1, p2, p3⟩, q0, q1, q2, q3⟩ | assumption | (have hk : ∀ p : Addr, p.block < wr.heap.size → w1.cell? p = wr.cell? p := fun p hp => hb1.cell hp; exact ⟨⟨(hk _ (by simp; omega)).trans p0, (hk _ (by simp; omega)).trans p1, (hk _ (by simp; omega)).trans p2, (hk _ (by simp; omega)).trans p3⟩, (hk _ (by simp; omega)).trans q0, (hk _ (by simp; omega)).trans q1, (hk _ (by simp; omega)).trans q2, (hk _ (by simp; omega)).trans q3⟩) | go_keep)
        (first | (go_at_call 8; (with_reducible refine Calls.mono (CJ _ ?_ ?_) ?_); exact hwB.drew; (show B ≤ wr.heap.size; omega); rintro e' w1 ⟨rfl, hb1⟩))
      all_goals
        have a0 := (hb1.cell (p := ⟨g, o + j * 4, none⟩) hgr.1).trans p0
        have c0 := (hb1.cell (p := ⟨g', o' + j * 4, none⟩) hgr.2).trans q0
        have hb2 : Below w.heap.size w w1 := hbel.drew.trans (hb1.mono (by have := hbel.size; show w.heap.size ≤ wr.heap.size; omega))
        clear hb1 CJ p0 p1 p2 p3 q0 q1 q2 q3
        go_wp2
        go_region
        go_wp2
        go_roundw
        case rel => exact ⟨j + 1, hjl, by go_num, hb2.drew⟩
        case measure => simp [intOf]; omega
    · clear hj
      go_wp2
      go_ret
      exact ⟨rfl, hbel⟩
end Go.Proofs.Ytikpipenhamdbaa
