/- keptBounds: is a row of bounds that was lent as it was, and what stands behind it? -/
import Derived.Test.YthcejnpknjepfaaGreatMox
import Derived.Test.YthcejnpknjepfaaGreatKe
import Derived.Deep.QuietTactic
import Derived.BigQuiet
import Derived.Deep.RegionHeld3
namespace Go.Proofs.YthcejnpknjepfaaGreat
open Go.RowKit

set_option maxHeartbeats 16000000 in
set_option maxRecDepth 10000 in
theorem keptB_any (bs : List Bd) (v : Value) (w0 w : World) (B G : Nat) (E : Nat → El) (hB : B ≤ w.heap.size) (hv : BdAt w B v bs) (hl : bs.length ≤ 4194304) (hL : LbW w0 w G bs (bs.length + 3) E) :
    Calls Tryz.prog 22 #[.slice (some ⟨G, 0, none⟩) (bs.length + 3) (bs.length + 3), v] w fun r w' => r = .returned (.bool true) ∧ Below w.heap.size w w' := by
  obtain ⟨adv, capv, rfl, _, _⟩ := id hv
  have hGl : G < w.heap.size := by obtain ⟨cur, hr, _⟩ := hL.row; exact heap_lt hr
  have HG : Hid (G < w.heap.size ∧ B ≤ w.heap.size) := ⟨hGl, hB⟩
  have HV : Hid (BdAt w B (.slice adv bs.length capv) bs) := hv
  have HL : Hid (LbW w0 w G bs (bs.length + 3) E) := hL
  clear hv hL hGl hB
  go_enter Tryz.func22, Tryz.ntmps22
  go_wp2
  go_loopw [5] (fun i wr => ∃ j : Nat, j ≤ bs.length + 3 ∧ i = .int .i64 j ∧ Hid (Below w.heap.size w wr)) (fun i _ => bs.length + 3 - (intOf i).toNat)
  case atStart => exact ⟨0, by omega, by go_num, Below.refl _ _⟩
  case round =>
    obtain ⟨j, hj, rfl, HBL⟩ := hrel
    have hbel := HBL.out
    have hjb : (j : Int) ≤ 5000000 := by omega
    have j0 : (0 : Int) ≤ (j : Int) := by omega
    by_cases hlt : j < bs.length + 3
    · have hlt' : (j : Int) < (bs.length : Int) + 3 := by omega
      have hlt2 : (j : Int) < ((bs.length + 3 : Nat) : Int) := by omega
      have hjl : j + 1 ≤ bs.length + 3 := hlt
      obtain ⟨hGl, hBw⟩ := HG.out
      have T := HL.out.below hbel
      obtain ⟨q1, q2, q3⟩ := T.cel j hlt
      by_cases hin : j < bs.length
      · have hin' : (j : Int) < (bs.length : Int) := by omega
        have q0 := T.nam j hin hlt
        have TL := T.tre j hin hlt
        obtain ⟨ad2, l2, cp2, hsl⟩ := TL.slice
        obtain ⟨g, o, cap', k1, n1, ad1, l1, cp1, hve, hbl, hgB, hnl, hc, hT⟩ := HV.out.type j hin
        simp only [Value.slice.injEq, true_and] at hve
        obtain ⟨rfl, rfl⟩ := hve
        obtain ⟨p0, p1, p2, p3⟩ := hc wr (hbel.mono hBw)
        have hsz := hbel.size
        have CJ : ∀ W', Below wr.heap.size wr W' → Calls Tryz.prog 17 #[elV (E j), .agg #[.int .i64 k1, .string n1, .slice ad1 l1 cp1]] W' fun r w' => r = .returned (.bool true) ∧ Below W'.heap.size W' w' :=
          fun W' hb' => kept_any _ _ _ bs[j].2.2 W' W'.heap.size (Nat.le_refl _) (TyL.on (fun g q => Nat.lt_of_lt_of_le q.2 hb'.size) (fun g q => hb'.block g q.2) _ _ _ TL) (TyAt.below ((hbel.trans (hb'.mono hsz)).mono hBw) (Nat.le_trans hBw (Nat.le_trans hsz hb'.size)) _ _ _ hT)
        unfold elV at CJ
        rw [hsl] at q3 CJ
        generalize (E j).1 = k2 at q1 CJ
        generalize (E j).2.1 = n2 at q2 CJ
        have hgw : g < wr.heap.size := by omega
        have hGw : G < wr.heap.size := by omega
        clear hc hT TL hsl T
        go_upto_region 5 with fail
        generalize (k2 == -77) = bb
        go_upto_region 6 with fail
        go_region_held3 (fun w' => (w'.cell? ⟨g, o + j * 4 + 1, none⟩ = some (.int .i64 k1) ∧ w'.cell? ⟨g, o + j * 4 + 2, none⟩ = some (.string n1) ∧ w'.cell? ⟨g, o + j * 4 + 3, none⟩ = some (.slice ad1 l1 cp1)) ∧ w'.cell? ⟨G, j * 4 + 1, none⟩ = some (.int .i64 k2) ∧ w'.cell? ⟨G, j * 4 + 2, none⟩ = some (.string n2) ∧ w'.cell? ⟨G, j * 4 + 3, none⟩ = some (.slice ad2 l2 cp2)) (first | exact ⟨⟨p1, p2, p3⟩, q1, q2, q3⟩ | assumption | (have hk : ∀ p : Addr, p.block < wr.heap.size → w1.cell? p = wr.cell? p := fun p hp => hb1.cell hp; exact ⟨⟨(hk _ hgw).trans p1, (hk _ hgw).trans p2, (hk _ hgw).trans p3⟩, (hk _ hGw).trans q1, (hk _ hGw).trans q2, (hk _ hGw).trans q3⟩) | go_keep)
          (first | (go_at_call 17; (with_reducible refine Calls.mono (CJ _ ?_) ?_); exact (Below.refl _ _).drew; rintro e' w1 ⟨rfl, hb1⟩))
        all_goals
          have hb2 : Below wr.heap.size wr w1 := (Below.refl _ _).drew.trans hb1
          have q0' : w1.cell? ⟨G, j * 4, none⟩ = some (.string ⟨bs[j].1.toArray⟩) := (hb2.cell (p := ⟨G, j * 4, none⟩) hGw).trans q0
          have p0' : w1.cell? ⟨g, o + j * 4, none⟩ = some (.string ⟨bs[j].1.toArray⟩) := (hb2.cell (p := ⟨g, o + j * 4, none⟩) hgw).trans p0
          have HB2 : Hid (Below w.heap.size w w1) := hbel.trans (hb2.mono hsz)
          generalize bs[j].1 = nj at *
          have hnn : (nj == nj) = true := by simp
          clear hb1 hb2 CJ p0 p1 p2 p3 q0 q1 q2 q3
          go_wp2_with fail
          go_quiet (fail)
          go_wp2_with fail
          go_roundw
          case rel => exact ⟨j + 1, hjl, by go_num, HB2.out.trans ⟨rfl, rfl, rfl, Nat.le_refl _, fun _ _ => rfl⟩⟩
          case measure => simp [intOf]; omega
      · have hin' : ¬ (j : Int) < (bs.length : Int) := by omega
        have hmk := T.mrk j (by omega) hlt
        rw [hmk] at q1 q2 q3
        clear T hmk
        go_wp2
        go_roundw
        case rel => exact ⟨j + 1, hjl, by go_num, HBL.out⟩
        case measure => simp [intOf]; omega
    · have hlt2 : ¬ (j : Int) < (bs.length : Int) + 3 := by omega
      go_wp2
      go_ret
      exact ⟨rfl, HBL.out⟩
end Go.Proofs.YthcejnpknjepfaaGreat
