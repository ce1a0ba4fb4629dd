/- Same (of the document's own package): are two types the same? -/
import Derived.Test.YthcejnpknjepfaaGreatHp
import Derived.WalkKit
import Derived.WalkSpells
import Derived.WalkLawsBesides
import Derived.WalkMore
import Derived.Deep.RegionHeld3
import Derived.Deep.Cut
import Derived.BigQuiet
namespace Go.Proofs.YthcejnpknjepfaaGreat
open Go.RowKit

theorem bytes_eq {n m : List UInt8} : ((⟨n.toArray⟩ : ByteArray) = ⟨m.toArray⟩) ↔ n = m := by
  constructor
  · intro h
    have := congrArg (fun b => b.data.toList) h
    simpa using this
  · rintro rfl; rfl

set_option maxHeartbeats 4000000 in
set_option maxRecDepth 10000 in
theorem same_heads (k k' : Int) (n n' : List UInt8) (ad ad' : Option Addr) (len len' cap cap' : Nat) (w : World) (h : ¬ (k = k' ∧ n = n' ∧ len = len')) :
    Calls Tryz.prog 9 #[.agg #[.int .i64 k, .string ⟨n.toArray⟩, .slice ad len cap], .agg #[.int .i64 k', .string ⟨n'.toArray⟩, .slice ad' len' cap']] w fun r w' => r = .returned (.bool false) ∧ Below w.heap.size w w' := by
  have hb : ∀ o o', Below w.heap.size w ((w.alloc o).alloc o') := fun o o' => ((Below.refl _ _).alloc (Nat.le_refl _) o).alloc (by simp) o'
  by_cases hk : k = k'
  · subst hk
    by_cases hn : n = n'
    · subst hn
      have hne : ¬ (len : Int) = (len' : Int) := fun e => h ⟨rfl, rfl, by omega⟩
      clear h
      go_enter Tryz.func9, Tryz.ntmps9
      go_wp2
      go_ret
      exact ⟨rfl, hb _ _⟩
    · have hne : ¬ ((⟨n.toArray⟩ : ByteArray) = ⟨n'.toArray⟩) := fun e => hn (bytes_eq.1 e)
      clear h
      go_enter Tryz.func9, Tryz.ntmps9
      go_wp2
      go_ret
      exact ⟨rfl, hb _ _⟩
  · clear h
    go_enter Tryz.func9, Tryz.ntmps9
    go_wp2
    go_ret
    exact ⟨rfl, hb _ _⟩

set_option maxHeartbeats 4000000 in
set_option maxRecDepth 10000 in
theorem same_any : ∀ (d e : Nat) (x y : Value) (t : Tn d) (u : Tn e) (w : World) (B : Nat), B ≤ w.heap.size → TyAt w B d x t → TyAt w B e y u →
    Calls Tryz.prog 9 #[x, y] w fun r w' => r = .returned (.bool (decide (flat d t = flat e u))) ∧ Below w.heap.size w w'
  | 0, _, _, _, _, _, _, _, _, h, _ => h.elim
  | _ + 1, 0, _, _, _, _, _, _, _, _, h => h.elim
  | d + 1, e + 1, x, y, ((k, n), ts), ((k', n'), us), w, B, hB, ⟨v, hx, h1, h2, h⟩, ⟨v', hy, h1', h2', h'⟩ => by
    have IH := fun (x y : Value) (t : Tn d) (u : Tn e) => same_any d e x y t u
    simp only at hx hy h1 h2 h1' h2' h h'
    subst hx hy
    by_cases hh : k = k' ∧ n = n' ∧ ts.length = us.length
    · obtain ⟨rfl, rfl, hl⟩ := hh
      have hb : ∀ o o', Below w.heap.size w ((w.alloc o).alloc o') := fun o o' => ((Below.refl _ _).alloc (Nat.le_refl _) o).alloc (by simp) o'
      rcases h with ⟨h0, ad, cap, rfl⟩ | ⟨g, o, cap, rfl, h0, hc, hg, hj⟩
      · subst h0
        obtain rfl : us = [] := List.length_eq_zero_iff.1 hl.symm
        have hR : decide (flat (d + 1) ((k, n), []) = flat (e + 1) ((k, n), [])) = true := by
          rw [decide_eq_true_eq, flat_succ, flat_succ, flats_nil, flats_nil]
          rfl
        rw [hR]
        rcases h' with ⟨_, ad', cap', rfl⟩ | ⟨_, _, _, _, h0', _⟩
        · clear h1 h2 h1' h2' hR IH
          go_enter Tryz.func9, Tryz.ntmps9
          go_wp2
          refine wp_loop_rounds 1 ?_
          rw [rounds_succ]
          go_wp2
          go_ret
          exact ⟨rfl, hb _ _⟩
        · exact absurd rfl h0'
      · rcases h' with ⟨h0', _⟩ | ⟨g', o', cap', rfl, h0', hc', hg', hj'⟩
        · subst h0'
          exact absurd (List.length_eq_zero_iff.1 hl) h0
        · generalize hR : decide (flat (d + 1) ((k, n), ts) = flat (e + 1) ((k, n), us)) = R
          have HR : Hid (decide (flat (d + 1) ((k, n), ts) = flat (e + 1) ((k, n), us)) = R) := hR
          have HL : Hid (ts.length = us.length) := hl
          have HT : Hid (∀ j (h : j < ts.length), ∃ k n u, w.cell? ⟨g, o + j * 3, none⟩ = some (.int .i64 k) ∧ w.cell? ⟨g, o + j * 3 + 1, none⟩ = some (.string n) ∧ w.cell? ⟨g, o + j * 3 + 2, none⟩ = some u ∧ TyAt w B d (.agg #[.int .i64 k, .string n, u]) ts[j]) := hj
          have HU : Hid (∀ j (h : j < us.length), ∃ k n u, w.cell? ⟨g', o' + j * 3, none⟩ = some (.int .i64 k) ∧ w.cell? ⟨g', o' + j * 3 + 1, none⟩ = some (.string n) ∧ w.cell? ⟨g', o' + j * 3 + 2, none⟩ = some u ∧ TyAt w B e (.agg #[.int .i64 k, .string n, u]) us[j]) := hj'
          rw [← hl] at hc' ⊢
          have HB : Hid (B ≤ w.heap.size) := hB
          have HG : Hid (g < B ∧ g' < B) := ⟨hg, hg'⟩
          clear hR hl hj hj' h0 h0' h1 h1' h2' hB hg hg'
          go_enter Tryz.func9, Tryz.ntmps9
          go_wp2
          obtain ⟨W, hW, hbW, hsW, b0, b1, b2, c0, c1, c2⟩ := cells_boxes w (.int .i64 k) (.string ⟨n.toArray⟩) (.slice (some ⟨g, o, none⟩) ts.length cap) (.int .i64 k) (.string ⟨n.toArray⟩) (.slice (some ⟨g', o', none⟩) ts.length cap') 25
          rw [← hW]
          have HW : Hid (Below w.heap.size w W) := hbW
          have HS : Hid (W.heap.size = w.heap.size + 2) := hsW
          generalize hz : w.heap.size = z at b0 b1 b2 c0 c1 c2 ⊢
          have HZ : Hid (w.heap.size = z) := hz
          clear hW hbW hsW hz
          go_loopw [5] (fun i wr => ∃ j : Nat, j ≤ ts.length ∧ i = .int .i64 j ∧ Below (z + 2) W wr ∧ Hid (∀ i (h : i < ts.length) (h' : i < us.length), i < j → flat d ts[i] = flat e us[i])) (fun i _ => ts.length - (intOf i).toNat)
          case atStart => exact ⟨0, by omega, by go_num, Below.refl _ _, fun i _ _ h => by omega⟩
          case round =>
            obtain ⟨j, hj, rfl, hbel, HJ⟩ := hrel
            have x2 := (hbel.cell (p := ⟨z, 2, none⟩) (by simp)).trans b2
            have y2 := (hbel.cell (p := ⟨z + 1, 2, none⟩) (by simp)).trans c2
            by_cases hlt : j < ts.length
            · have hlu : j < us.length := by have := HL.out; omega
              have hzB : B ≤ z := by have := HB.out; have := HZ.out; omega
              have hwz : Below z w wr := by
                have := HW.out
                rw [HZ.out] at this
                exact this.trans (hbel.mono (by omega))
              obtain ⟨hg, hg'⟩ := HG.out
              obtain ⟨k1, n1, u1, p0, p1, p2, T1⟩ := HT.out j hlt
              obtain ⟨k2, n2, u2, q0, q1, q2, T2⟩ := HU.out j hlu
              obtain ⟨ad1, l1, cp1, rfl⟩ := T1.slice
              obtain ⟨ad2, l2, cp2, rfl⟩ := T2.slice
              rw [← hwz.cell (p := ⟨g, o + j * 3, none⟩) (by simp; omega)] at p0
              rw [← hwz.cell (p := ⟨g, o + j * 3 + 1, none⟩) (by simp; omega)] at p1
              rw [← hwz.cell (p := ⟨g, o + j * 3 + 2, none⟩) (by simp; omega)] at p2
              rw [← hwz.cell (p := ⟨g', o' + j * 3, none⟩) (by simp; omega)] at q0
              rw [← hwz.cell (p := ⟨g', o' + j * 3 + 1, none⟩) (by simp; omega)] at q1
              rw [← hwz.cell (p := ⟨g', o' + j * 3 + 2, none⟩) (by simp; omega)] at q2
              have hzr : z + 2 ≤ wr.heap.size := by have := hbel.size; have := HS.out; have := HZ.out; omega
              have CJ : ∀ W', Below z w W' → z ≤ W'.heap.size → Calls Tryz.prog 9 #[.agg #[.int .i64 k1, .string n1, .slice ad1 l1 cp1], .agg #[.int .i64 k2, .string n2, .slice ad2 l2 cp2]] W' fun r w' => r = .returned (.bool (decide (flat d ts[j] = flat e us[j]))) ∧ Below W'.heap.size W' w' :=
                fun W' hb' hs' => IH _ _ _ _ W' B (by omega) (T1.on (hb'.mono hzB)) (T2.on (hb'.mono hzB))
              generalize hr1 : decide (flat d ts[j] = flat e us[j]) = r1 at CJ
              have HR1 : Hid (decide (flat d ts[j] = flat e us[j]) = r1) := hr1
              have i1 : (0 : Int) ≤ (j : Int) := by omega
              have i2 : (j : Int) < (ts.length : Int) := by omega
              clear hr1 T1 T2 IH b0 b1 b2 c0 c1 c2
              go_wp2
              go_region_held3 (fun w' => (w'.cell? ⟨z, 2, none⟩ = some (.slice (some ⟨g, o, none⟩) ts.length cap) ∧ w'.cell? ⟨z + 1, 2, none⟩ = some (.slice (some ⟨g', o', none⟩) ts.length cap')) ∧ (w'.cell? ⟨g, o + j * 3, none⟩ = some (.int .i64 k1) ∧ w'.cell? ⟨g, o + j * 3 + 1, none⟩ = some (.string n1) ∧ w'.cell? ⟨g, o + j * 3 + 2, none⟩ = some (.slice ad1 l1 cp1)) ∧ w'.cell? ⟨g', o' + j * 3, none⟩ = some (.int .i64 k2) ∧ w'.cell? ⟨g', o' + j * 3 + 1, none⟩ = some (.string n2) ∧ w'.cell? ⟨g', o' + j * 3 + 2, none⟩ = some (.slice ad2 l2 cp2)) (first | exact ⟨⟨x2, y2⟩, ⟨p0, p1, p2⟩, q0, q1, q2⟩ | assumption | (have hk : ∀ p : Addr, p.block < wr.heap.size → w1.cell? p = wr.cell? p := fun p hp => hb1.cell hp; exact ⟨⟨(hk _ (by simp; omega)).trans x2, (hk _ (by simp; omega)).trans y2⟩, ⟨(hk _ (by simp; omega)).trans p0, (hk _ (by simp; omega)).trans p1, (hk _ (by simp; omega)).trans p2⟩, (hk _ (by simp; omega)).trans q0, (hk _ (by simp; omega)).trans q1, (hk _ (by simp; omega)).trans q2⟩) | go_keep)
                (first | (go_at_call 9; (with_reducible refine Calls.mono (CJ _ ?_ ?_) ?_); exact hwz.drew; (show z ≤ wr.heap.size; omega); rintro e' w1 ⟨rfl, hb1⟩))
              all_goals
                have hb2 : Below (z + 2) W w1 := hbel.drew.trans (hb1.mono hzr)
                clear hb1 CJ
                have hjl : j + 1 ≤ ts.length := hlt
                cases r1 with
                | true =>
                  go_wp2
                  go_roundw
                  case rel =>
                    refine ⟨j + 1, hjl, by go_num, hb2, fun i h h' hi => ?_⟩
                    by_cases hij : i = j
                    · subst hij; exact of_decide_eq_true HR1.out
                    · exact HJ.out i h h' (by omega)
                  case measure => simp [intOf]; omega
                | false =>
                  have HF : Hid (R = false) := by
                    show R = false
                    rw [← HR.out, decide_eq_false_iff_not, flat_eq_iff]
                    exact fun h => of_decide_eq_false HR1.out (h.2.2.2 j hlt hlu)
                  go_wp2
                  go_ret
                  exact ⟨by rw [HF.out]; rfl, by have h := HW.out; rw [HZ.out] at h ⊢; exact h.trans (hb2.mono (by omega))⟩
            · have HF : Hid (R = true) := by
                show R = true
                rw [← HR.out, decide_eq_true_eq, flat_eq_iff]
                exact ⟨rfl, rfl, HL.out, fun i h h' => HJ.out i h h' (by omega)⟩
              clear IH
              go_wp2
              go_ret
              exact ⟨by rw [HF.out]; rfl, by have h := HW.out; rw [HZ.out] at h ⊢; exact h.trans (hbel.mono (by omega))⟩
    · have hR : decide (flat (d + 1) ((k, n), ts) = flat (e + 1) ((k', n'), us)) = false := decide_eq_false (flat_both hh)
      rw [hR]
      obtain ⟨ad, cap, rfl⟩ := h.len
      obtain ⟨ad', cap', rfl⟩ := h'.len
      exact same_heads k k' n n' ad ad' ts.length us.length cap cap' w hh
end Go.Proofs.YthcejnpknjepfaaGreat
