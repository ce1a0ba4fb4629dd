/- GreatBounds: its contract. -/
import Derived.Test.YtikpipenhamdbaaGreatMdx
import Derived.Test.YtikpipenhamdbaaGreatTl
namespace Go.Proofs.YtikpipenhamdbaaGreat
open Go.RowKit

/-- What is left behind a row of bounds. -/
def leftB (bs : List Bd) (l : Int) : Int := bs.foldl (fun l b => if 0 ≤ l then leftT b.2.1 b.2.2 l 65536 else l) l
def greatB (bs : List Bd) : Bool := decide (leftB bs 4194304 < 0)
theorem leftB_low : ∀ (bs : List Bd) (l : Int), l < 0 → leftB bs l = l
  | [], _, _ => rfl
  | b :: r, l, h => by
    show leftB r (if 0 ≤ l then _ else l) = l
    rw [if_neg (by omega)]
    exact leftB_low r l h
theorem leftB_cons (b : Bd) (r : List Bd) (l : Int) (h : 0 ≤ l) : leftB (b :: r) l = leftB r (leftT b.2.1 b.2.2 l 65536) := by
  show leftB r (if 0 ≤ l then _ else l) = _
  rw [if_pos h]
/-- A row that is not too great has no tree that is. -/
theorem leftB_nodes : ∀ (bs : List Bd) (l : Int), 0 ≤ l → 0 ≤ leftB bs l → ∀ b ∈ bs, ((flat b.2.1 b.2.2).length : Int) ≤ l
  | [], _, _, _, _, h => by simp at h
  | b :: r, l, hl, h, c, hc => by
    rw [leftB_cons b r l hl] at h
    obtain ⟨h1, h2, h3⟩ := left_range b.2.1 b.2.2 l 65536 hl
    rcases Int.lt_or_le (leftT b.2.1 b.2.2 l 65536) 0 with hn | hp
    · rw [leftB_low r _ hn] at h
      omega
    · have h4 := h3 hp
      rcases List.mem_cons.1 hc with rfl | hc
      · omega
      · have := leftB_nodes r _ hp h c hc
        omega
set_option maxHeartbeats 8000000 in
set_option maxRecDepth 10000 in
theorem greatBounds_any (v : Value) (bs : List Bd) (w : World) (B : Nat) (hB : B ≤ w.heap.size) (h : BdAt w B v bs) :
    Calls Tryz.prog 6 #[v] w fun r w' => r = .returned (.bool (greatB bs)) ∧ Below w.heap.size w w' := by
  obtain ⟨ad, cap, rfl, hla, h⟩ := h
  have HA : Hid _ := h
  have HB : Hid (B ≤ w.heap.size) := hB
  unfold greatB
  generalize hR : leftB bs 4194304 = R
  have HR : Hid (leftB bs 4194304 = R) := hR
  clear h hB hR
  go_enter Tryz.func6, Tryz.ntmps6
  go_wp2
  go_loopw [3, 4] (fun l i wr => ∃ (j : Nat) (lf : Int), j ≤ bs.length ∧ i = .int .i64 j ∧ l = .int .i64 lf ∧ -1 ≤ lf ∧ lf ≤ 4194304 ∧ Below w.heap.size w wr ∧ Hid (leftB (bs.drop j) lf = R)) (fun _ i _ => bs.length - (intOf i).toNat)
  case atStart => exact ⟨0, 4194304, by omega, by go_num, by go_num, by omega, by omega, Below.refl _ _, by show leftB _ _ = R; rw [List.drop_zero]; exact HR.out⟩
  case round =>
    obtain ⟨j, lf, hj, rfl, rfl, hf0, hf1, hbel, HJ⟩ := hrel
    by_cases hlt : j < bs.length
    · by_cases hf : 0 ≤ lf
      · obtain ⟨g, o, rfl, _, hg, hel⟩ := HA.out (by intro e; rw [e] at hlt; simp at hlt)
        obtain ⟨hn1, k1, n1, ad1, l1, cp1, hcel, T1⟩ := hel j hlt
        have hBw := HB.out
        have hwB := hbel.mono hBw
        obtain ⟨p0, p1, p2, p3⟩ := hcel wr hwB
        have CJ := left_any _ _ _ lf 65536 wr B (by have := hbel.size; omega) (T1.on hwB) hf hf1 (by omega) (by omega)
        obtain ⟨h1, h2, _⟩ := left_range _ bs[j].2.2 lf 65536 hf
        have HJ2 : Hid (leftB (bs.drop (j + 1)) (leftT bs[j].2.1 bs[j].2.2 lf 65536) = R) := by
          show leftB _ _ = R
          rw [← HJ.out, List.drop_eq_getElem_cons hlt, leftB_cons _ _ _ hf]
        generalize leftT bs[j].2.1 bs[j].2.2 lf 65536 = lf2 at CJ h1 h2 HJ2
        have i1 : (0 : Int) ≤ (j : Int) := by omega
        have i2 : (j : Int) < (bs.length : Int) := by omega
        have hjl : j + 1 ≤ bs.length := hlt
        have hws := hbel.size
        clear T1 hcel hel hn1 HJ
        go_wp2_with (go_at_call 16; (with_reducible refine Calls.mono CJ ?_); rintro e' w1 ⟨rfl, hb1⟩)
        have hb2 : Below w.heap.size w w1 := hbel.trans (hb1.mono hws)
        go_roundw
        case rel => exact ⟨j + 1, lf2, hjl, by go_num, rfl, by omega, by omega, hb2, HJ2⟩
        case measure => simp [intOf]; omega
      · have HE : Hid (lf = R) := by
          show lf = R
          rw [← HJ.out, leftB_low _ _ (by omega)]
        have hf2 : ¬ (lf ≥ 0) := by omega
        have hlf : lf < 0 := by omega
        have i2 : (j : Int) < (bs.length : Int) := by omega
        clear HJ
        go_wp2
        go_ret
        exact ⟨by rw [← HE.out]; simp [hlf], hbel⟩
    · have HE : Hid (lf = R) := by
        show lf = R
        rw [← HJ.out, List.drop_eq_nil_of_le (by omega)]
        rfl
      have i2 : ¬ (j : Int) < (bs.length : Int) := by omega
      clear HJ
      go_wp2
      go_ret
      exact ⟨by rw [← HE.out]; rfl, hbel⟩
end Go.Proofs.YtikpipenhamdbaaGreat
