/- kept: is what was lent as it was, and what stands behind it? -/
import Derived.Test.YthcejnpknjepfaaGreatLe
import Derived.Deep.CutRange
namespace Go.Proofs.YthcejnpknjepfaaGreat
open Go.RowKit

set_option maxHeartbeats 8000000 in
set_option maxRecDepth 10000 in
theorem kept_step (d : Nat) (IH : ∀ (x y : Value) (t : Tn d) (w : World) (B : Nat), B ≤ w.heap.size → TyL w (fun g => g < B) d x t → TyAt w B d y t → Calls Tryz.prog 17 #[x, y] w fun r w' => r = .returned (.bool true) ∧ Below w.heap.size w w') : ∀ (x y : Value) (t : Tn (d + 1)) (w : World) (B : Nat), B ≤ w.heap.size → TyL w (fun g => g < B) (d + 1) x t → TyAt w B (d + 1) y t → Calls Tryz.prog 17 #[x, y] w fun r w' => r = .returned (.bool true) ∧ Below w.heap.size w w'
  | x, y, ((k, n), ts), w, B, hB, ⟨u, hx, _, _, hL⟩, ⟨v, hy, h1, h2, h⟩ => by
    simp only at hx hy h1 h2 h hL
    subst hx hy
    obtain ⟨ad, cap, rfl, hrow⟩ := h.cells
    have hb : ∀ o o', Below w.heap.size w ((w.alloc o).alloc o') := fun o o' => ((Below.refl _ _).alloc (Nat.le_refl _) o).alloc (by simp) o'
    rcases hL with ⟨h0, rfl⟩ | ⟨h0, G, E, rfl, hG, hcel, htr, hmk⟩
    · subst h0
      clear IH h hrow h2
      show Calls Tryz.prog 17 #[.agg #[.int .i64 k, .string ⟨n.toArray⟩, .slice none 0 0], .agg #[.int .i64 k, .string ⟨n.toArray⟩, .slice ad 0 cap]] w _
      go_enter Tryz.func17, Tryz.ntmps17
      go_wp2
      go_ret
      exact ⟨rfl, hb _ _⟩
    · obtain ⟨g, o, rfl, hcap, hg, hel⟩ := hrow h0
      have hpos : 0 < ts.length := List.length_pos_iff.2 h0
      have hne : ¬ (ts.length : Int) = 0 := by omega
      have hneb : ((ts.length : Int) == 0) = false := by rw [beq_eq_false_iff_ne]; exact hne
      have HE : Hid (∀ j (h : j < ts.length), ∃ k n ad' len' cap', (∀ w', Below B w w' → w'.cell? ⟨g, o + j * 3, none⟩ = some (.int .i64 k) ∧ w'.cell? ⟨g, o + j * 3 + 1, none⟩ = some (.string n) ∧ w'.cell? ⟨g, o + j * 3 + 2, none⟩ = some (.slice ad' len' cap')) ∧ TyAt w B d (.agg #[.int .i64 k, .string n, .slice ad' len' cap']) ts[j]) := hel
      have HL : Hid ((∀ j, j < ts.length + 3 → w.cell? ⟨G, j * 3, none⟩ = some (.int .i64 (E j).1) ∧ w.cell? ⟨G, j * 3 + 1, none⟩ = some (.string (E j).2.1) ∧ w.cell? ⟨G, j * 3 + 2, none⟩ = some (E j).2.2) ∧ (∀ j (h : j < ts.length), TyL w (fun g => g < B) d (elV (E j)) ts[j]) ∧ ∀ j, ts.length ≤ j → j < ts.length + 3 → E j = markE) := ⟨hcel, htr, hmk⟩
      have HB : Hid (B ≤ w.heap.size) := hB
      have HGB : Hid (G < B ∧ g < B) := ⟨hG, hg⟩
      obtain ⟨W, hW, hbW, hsW, b0, b1, b2, c0, c1, c2⟩ := cells_boxes w (.int .i64 k) (.string ⟨n.toArray⟩) (.slice (some ⟨G, 0, none⟩) ts.length (ts.length + 3)) (.int .i64 k) (.string ⟨n.toArray⟩) (.slice (some ⟨g, o, none⟩) ts.length cap) 25
      have HW : Hid (Below w.heap.size w W) := hbW
      have HS : Hid (W.heap.size = w.heap.size + 2) := hsW
      have i3 : (0 : Int) ≤ (ts.length : Int) + 3 := by omega
      have i4 : (ts.length : Int) + 3 ≤ ((ts.length + 3 : Nat) : Int) := by omega
      clear hel hcel htr hmk h hrow hB hG hg h0 hb
      go_enter Tryz.func17, Tryz.ntmps17
      go_upto_region 1 with fail
      rw [← hW]
      generalize hz : w.heap.size = z at b0 b1 b2 c0 c1 c2 ⊢
      have HZ : Hid (w.heap.size = z) := hz
      clear hW hbW hsW hz
      go_wp2
      go_loopw [6] (fun i wr => ∃ j : Nat, j ≤ ts.length + 3 ∧ i = .int .i64 j ∧ Below (z + 2) W wr) (fun i _ => ts.length + 3 - (intOf i).toNat)
      case atStart => exact ⟨0, by omega, by go_num, Below.refl _ _⟩
      case round =>
        obtain ⟨j, hj, rfl, hbel⟩ := hrel
        have hjb : (j : Int) ≤ 200000000000000 := by omega
        have j0 : (0 : Int) ≤ (j : Int) := by omega
        have hzB : B ≤ z := by have := HB.out; have := HZ.out; omega
        have hwz : Below z w wr := by
          have := HW.out
          rw [HZ.out] at this
          exact this.trans (hbel.mono (by omega))
        have y2 := (hbel.cell (p := ⟨z + 1, 2, none⟩) (by simp)).trans c2
        have hzr : z + 2 ≤ wr.heap.size := by have := hbel.size; have := HS.out; have := HZ.out; omega
        by_cases hlt : j < ts.length + 3
        · have hlt' : (j : Int) < (ts.length : Int) + 3 := by omega
          have hlt2 : (j : Int) < ((ts.length + 3 : Nat) : Int) := by omega
          have hjl : j + 1 ≤ ts.length + 3 := hlt
          obtain ⟨q0, q1, q2⟩ := HL.out.1 j hlt
          have hGz : G < z := by have := HGB.out; omega
          rw [← hwz.cell (p := ⟨G, j * 3, none⟩) hGz] at q0
          rw [← hwz.cell (p := ⟨G, j * 3 + 1, none⟩) hGz] at q1
          rw [← hwz.cell (p := ⟨G, j * 3 + 2, none⟩) hGz] at q2
          by_cases hin : j < ts.length
          · have hin' : (j : Int) < (ts.length : Int) := by omega
            obtain ⟨k1, n1, ad1, l1, cp1, hcel, T1⟩ := HE.out j hin
            obtain ⟨p0, p1, p2⟩ := hcel wr (hwz.mono hzB)
            have TL := HL.out.2.1 j hin
            obtain ⟨ad2, l2, cp2, hsl⟩ := TL.slice
            have CJ : ∀ W', Below z w W' → z ≤ W'.heap.size → Calls Tryz.prog 17 #[elV (E j), .agg #[.int .i64 k1, .string n1, .slice ad1 l1 cp1]] W' fun r w' => r = .returned (.bool true) ∧ Below W'.heap.size W' w' :=
              fun W' hb' hs' => IH _ _ _ W' B (by omega) (TyL.on (fun g q => q) (fun g q => hb'.block g (by have q : g < B := q; omega)) _ _ _ TL) (T1.on (hb'.mono hzB))
            unfold elV at CJ
            rw [hsl] at q2 CJ
            generalize (E j).1 = k2 at q0 CJ
            generalize (E j).2.1 = n2 at q1 CJ
            clear hcel T1 TL hsl IH b0 b1 b2 c0 c1 c2
            go_upto_region 9 with fail
            go_cut [7] from 40 to 76 (fun b wc => (∃ bb : Bool, b = .bool bb) ∧ wc = wr)
            case first =>
              by_cases hk : k2 = -77
              · subst hk
                by_cases hn : n2.toList = [98, 101, 104, 105, 110, 100]
                · go_wp2
                  go_meet
                  exact ⟨⟨_, rfl⟩, rfl⟩
                · have hnb : (n2.toList == [98, 101, 104, 105, 110, 100]) = false := by simpa using hn
                  go_wp2
                  go_meet
                  exact ⟨⟨_, rfl⟩, rfl⟩
              · have hkb : (k2 == -77) = false := by simpa using hk
                go_wp2
                go_meet
                exact ⟨⟨_, rfl⟩, rfl⟩
            case rest =>
              obtain ⟨⟨bb, rfl⟩, hwc⟩ := hcut
              subst hwc
              go_wp2
              go_region_held3 (fun w' => w'.cell? ⟨z + 1, 2, none⟩ = some (.slice (some ⟨g, o, none⟩) ts.length cap) ∧ (w'.cell? ⟨g, o + j * 3, none⟩ = some (.int .i64 k1) ∧ w'.cell? ⟨g, o + j * 3 + 1, none⟩ = some (.string n1) ∧ w'.cell? ⟨g, o + j * 3 + 2, none⟩ = some (.slice ad1 l1 cp1)) ∧ w'.cell? ⟨G, j * 3, none⟩ = some (.int .i64 k2) ∧ w'.cell? ⟨G, j * 3 + 1, none⟩ = some (.string n2) ∧ w'.cell? ⟨G, j * 3 + 2, none⟩ = some (.slice ad2 l2 cp2)) (first | exact ⟨y2, ⟨p0, p1, p2⟩, q0, q1, q2⟩ | assumption | (have hk : ∀ p : Addr, p.block < wc.heap.size → w1.cell? p = wc.cell? p := fun p hp => hb1.cell hp; have hgg := HGB.out; exact ⟨(hk _ (by simp; omega)).trans y2, ⟨(hk _ (by simp; omega)).trans p0, (hk _ (by simp; omega)).trans p1, (hk _ (by simp; omega)).trans p2⟩, (hk _ (by simp; omega)).trans q0, (hk _ (by simp; omega)).trans q1, (hk _ (by simp; omega)).trans q2⟩) | go_keep)
                (first | (go_at_call 17; (with_reducible refine Calls.mono (CJ _ ?_ ?_) ?_); exact hwz.drew; (show z ≤ wc.heap.size; omega); rintro e' w1 ⟨rfl, hb1⟩))
              all_goals
                have hb2 : Below (z + 2) W w1 := hbel.drew.trans (hb1.mono hzr)
                clear hb1 CJ
                go_wp2
                go_roundw
                case rel => exact ⟨j + 1, hjl, by go_num, hb2⟩
                case measure => simp [intOf]; omega
          · have hin' : ¬ (j : Int) < (ts.length : Int) := by omega
            have hmk := HL.out.2.2 j (by omega) hlt
            rw [hmk] at q0 q1 q2
            clear IH b0 b1 b2 c0 c1 c2 hmk
            go_wp2
            go_roundw
            case rel => exact ⟨j + 1, hjl, by go_num, hbel⟩
            case measure => simp [intOf]; omega
        · have hlt2 : ¬ (j : Int) < (ts.length : Int) + 3 := by omega
          clear IH
          go_wp2
          go_ret
          exact ⟨rfl, by have h := HW.out; rw [HZ.out] at h ⊢; exact h.trans (hbel.mono (by omega))⟩
theorem kept_any : ∀ (d : Nat) (x y : Value) (t : Tn d) (w : World) (B : Nat), B ≤ w.heap.size → TyL w (fun g => g < B) d x t → TyAt w B d y t → Calls Tryz.prog 17 #[x, y] w fun r w' => r = .returned (.bool true) ∧ Below w.heap.size w w'
  | 0, _, _, _, _, _, _, h, _ => h.elim
  | d + 1, x, y, t, w, B, hB, h, h' => kept_step d (kept_any d) x y t w B hB h h'
end Go.Proofs.YthcejnpknjepfaaGreat
