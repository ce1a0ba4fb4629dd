/- The reference's text (a string): its contract. -/
import Derived.Test.YtkfhdmkdkphmoaaGreatDoorSA
namespace Go.Proofs.YtkfhdmkdkphmoaaGreatDoor
open Go.RowKit

@[reducible] def zero6 : Obj := .cells #[.int .i64 0, .string ⟨#[]⟩, .int .i64 0, .int .i64 0, .int .i64 0, .int .i64 0] 43

theorem zero_block {w wr : World} (h : Below (w.heap.size + 1) (w.alloc zero6) wr) : wr.heap[w.heap.size]? = some zero6 := by
  rw [h.block w.heap.size (by omega)]
  show (w.heap.push _)[w.heap.size]? = _
  simp
theorem zero_below {w wr : World} (h : Below (w.heap.size + 1) (w.alloc zero6) wr) : Below w.heap.size w wr := (below1 w zero6).trans (h.mono (by omega))
theorem set_six {B : Nat} {w wr : World} (h : Below B w wr) (a b c d e f : Value) : Below B w ((((((wr.setCell ⟨B, 0, none⟩ a).setCell ⟨B, 1, none⟩ b).setCell ⟨B, 2, none⟩ c).setCell ⟨B, 3, none⟩ d).setCell ⟨B, 4, none⟩ e).setCell ⟨B, 5, none⟩ f) :=
  (((((h.setCell (p := ⟨B, 0, none⟩) (Nat.le_refl _) a).setCell (p := ⟨B, 1, none⟩) (Nat.le_refl _) b).setCell (p := ⟨B, 2, none⟩) (Nat.le_refl _) c).setCell (p := ⟨B, 3, none⟩) (Nat.le_refl _) d).setCell (p := ⟨B, 4, none⟩) (Nat.le_refl _) e).setCell (p := ⟨B, 5, none⟩) (Nat.le_refl _) f

theorem six_of {W : World} {B : Nat} (h : W.heap[B]? = some zero6) : (W.cell? ⟨B, 0, none⟩ = some (.int .i64 0) ∧ W.cell? ⟨B, 1, none⟩ = some (.string ⟨#[]⟩) ∧ W.cell? ⟨B, 2, none⟩ = some (.int .i64 0) ∧ W.cell? ⟨B, 3, none⟩ = some (.int .i64 0) ∧ W.cell? ⟨B, 4, none⟩ = some (.int .i64 0) ∧ W.cell? ⟨B, 5, none⟩ = some (.int .i64 0)) ∧
    W.frozen? ⟨B, 0, none⟩ = false ∧ W.frozen? ⟨B, 1, none⟩ = false ∧ W.frozen? ⟨B, 2, none⟩ = false ∧ W.frozen? ⟨B, 3, none⟩ = false ∧ W.frozen? ⟨B, 4, none⟩ = false ∧ W.frozen? ⟨B, 5, none⟩ = false :=
  ⟨⟨cell_block h, cell_block h, cell_block h, cell_block h, cell_block h, cell_block h⟩, frozen_block h, frozen_block h, frozen_block h, frozen_block h, frozen_block h, frozen_block h⟩

theorem cls_seven : ∀ c : Fin 256, cls c.1 = 7 ↔ c.1 = 34 := by decide +kernel

/-- A Step that is a string's or a fault's. -/
def txtV (k : Nat) : Option (List UInt8 × Nat) → Value
  | none => stepV k (.error 12)
  | some (t, n) => stepV k (.ok (some (8, t, 0), n + 1))

set_option maxHeartbeats 8000000 in
set_option maxRecDepth 10000 in
theorem ref_text (s : ByteArray) (k : Nat) (w : World) (hs : s.size ≤ 65536) (hk : k < s.size) : Calls Tryz.prog 26 #[.string s, .int .i64 k] w fun e w' => e = .returned (txtV k (strL (rest s (k + 1)))) ∧ Below w.heap.size w w' := by
  obtain ⟨i0, hi, hz0, hz1, hz2⟩ := info_parts Tryz.info5
  have QT : ∀ (j : Nat) W, j ≤ s.size → Calls Tryz.prog 46 #[.string s, .int .i64 j, .int .u8 34] W fun e w' => e = .returned (pairV j (quotedL 34 (rest s j))) ∧ w' = W := fun j W h => ref_quoted s j 34 W hs h (Or.inr rfl)
  have FT : ∀ W, Calls Tryz.prog 40 #[.int .i64 12] W fun e w' => e = .returned (.agg #[.int .i64 0, .string ⟨#[]⟩, .int .i64 0, .int .i64 0, .int .i64 0, .int .i64 12]) ∧ Below W.heap.size W w' := fun W => Calls.mono (ref_fault 12 W) (by rintro e w' ⟨rfl, rfl⟩; exact ⟨rfl, below1 _ _⟩)
  generalize hR : strL (rest s (k + 1)) = R
  have HR0 : Hid (strL (rest s (k + 1)) = R) := hR
  clear hR
  obtain ⟨B, hB⟩ : ∃ B, B = w.heap.size := ⟨_, rfl⟩
  have HB : Hid (B = w.heap.size) := hB
  go_enter Tryz.func26, Tryz.ntmps26
  go_wp2_with fail
  rw [← hB] at ⊢
  clear hB
  go_loopw [5, 6] (fun v i wr => ∃ (j : Nat) (t : List UInt8), j ≤ s.size ∧ k + 1 ≤ j ∧ t.length ≤ j ∧ i = .int .i64 j ∧ wr.ownsRow (B + 1) 5 1 v t.length (t.map byteV) ∧ Below (w.heap.size + 1) (w.alloc zero6) wr ∧ Hid (R = (strL (rest s j)).map (fun x => (t ++ x.1, x.2 + (j - (k + 1)))))) (fun _ i _ => s.size - (intOf i).toNat)
  case atStart => exact ⟨k + 1, [], by omega, by omega, by simp, by go_num, World.ownsRow_nil _ _ _ _, Below.refl _ _, by
    show R = _
    rw [← HR0.out]; cases strL (rest s (k + 1)) <;> simp⟩
  case round =>
    obtain ⟨j, t, hj, hj1, ht, rfl, hown, hbel, HR⟩ := hrel
    have Q := fun W => QT j W hj
    have hblk := zero_block hbel
    have hbw := zero_below hbel
    have hsz0 := hbel.size
    rw [← HB.out] at hblk hbw
    have hsz : B + 1 ≤ wr.heap.size := by have := HB.out; simp at hsz0; omega
    obtain ⟨⟨q0, q1, q2, q3, q4, q5⟩, z0, z1, z2, z3, z4, z5⟩ := six_of hblk
    have ng : B < wr.heap.size := by omega
    clear hsz0 QT HR0
    by_cases hin : j < s.size
    · have h7e := cls_seven ⟨s[j].toNat, s[j].toNat_lt⟩
      have hch : clsHd (rest s j) = cls s[j].toNat := by rw [rest_in hin]; rfl
      by_cases h34 : s[j].toNat = 34
      · have h7 : clsHd (rest s j) = 7 := hch.trans (h7e.2 h34)
        have HE : Hid (R = some (t, 1 + (j - (k + 1)))) := by
          show R = _
          rw [HR.out, strL_end h7]; simp
        have HK : Hid (k + (1 + (j - (k + 1)) + 1) = j + 1) := by show _ = _; omega
        have hrun := run_string_own t hown
        have e34 : (s[j].toNat : Int) = 34 := by omega
        clear Q HR h7 hown h7e hch h34 hbel hblk
        go_wp2_with fail
        refine bodyPost_ret (v := .agg #[.int .i64 8, .string ⟨t.toArray⟩, .int .i64 0, .int .i64 k, .int .i64 (j + 1), .int .i64 0]) (by simp [results, Tryz.results26, go_sem, *]) rfl ?_
        refine ⟨?_, ?_⟩
        · rw [HE.out]
          show _ = Ending.returned (.agg #[_, _, _, _, .int .i64 ((k + (1 + (j - (k + 1)) + 1) : Nat) : Int), _])
          rw [HK.out]
          rfl
        · rw [← HB.out]
          exact set_six hbw _ _ _ _ _ _
      · have h7 : ¬ clsHd (rest s j) = 7 := fun h => h34 (h7e.1 (hch.symm.trans h))
        have e34 : ((s[j].toNat : Int) != 34) = true := by simp; omega
        cases hq : quotedL 34 (rest s j) with
        | none =>
          have HE : Hid (R = none) := by
            show R = _
            rw [HR.out, strL_none h7 hq]; simp
          rw [hq] at Q
          clear HR h7 hq hown h7e hch h34 hbel q0 q1 q2 q3 q4 q5 z0 z1 z2 z3 z4 z5
          go_wp2_with (first | (go_at_call 46; (with_reducible refine Calls.mono (Q _) ?_); rintro e w' ⟨rfl, rfl⟩; unfold pairV) | (go_at_call 40; (with_reducible refine Calls.mono (FT _) ?_); rintro e w2 ⟨rfl, hb2⟩; obtain ⟨⟨q0, q1, q2, q3, q4, q5⟩, z0, z1, z2, z3, z4, z5⟩ := six_of ((hb2.block B ng).trans hblk)))
          refine bodyPost_ret (v := .agg #[.int .i64 0, .string ⟨#[]⟩, .int .i64 0, .int .i64 0, .int .i64 0, .int .i64 12]) (by simp [results, Tryz.results26, go_sem, *]) rfl ?_
          refine ⟨by rw [HE.out]; rfl, ?_⟩
          rw [← HB.out]
          exact set_six (hbw.trans (hb2.mono (by omega))) _ _ _ _ _ _
        | some x =>
          obtain ⟨b, n⟩ := x
          have hn := quotedL_pos hq
          rw [rest_len] at hn
          have HE : Hid (R = (strL (rest s (j + n))).map (fun x => ((t ++ [b.toUInt8]) ++ x.1, x.2 + (j + n - (k + 1))))) := by
            show R = _
            rw [HR.out, strL_some h7 hq, rest_drop]
            cases strL (rest s (j + n)) <;> simp
            omega
          rw [hq] at Q
          have Q2 : ∀ W, Calls Tryz.prog 46 #[.string s, .int .i64 j, .int .u8 34] W fun e w' => e = .returned (.tuple #[.int .i64 b, .int .i64 (j + n)]) ∧ w' = W := Q
          have hc : Hid (1 ≤ n ∧ n ≤ s.size - j ∧ b ≤ 255) := hn
          have hn1 : j + n ≤ s.size := by omega
          have hb0 : ¬ (b : Int) < 0 := by omega
          have hb1 : (b : Int) ≤ 255 := by omega
          clear HR h7 hq hn Q h7e hch h34 q0 q1 q2 q3 q4 q5 z0 z1 z2 z3 z4 z5 hbw hblk
          go_wp2_with (first
            | (go_at_call 46; (with_reducible refine Calls.mono (Q2 _) ?_); rintro e w' ⟨rfl, rfl⟩)
            | (at_builtin; refine wpList_append_own _ rfl _ _ 63 rfl (B + 1) 5 i0 (.int .u8 0) 1 1 Tryz.underlying63 hi hz0 hz1 hz2 rfl (by decide) _ _ _ rfl (hown.alloc _) ⟨w'.heap.size, 0, none⟩ 1 1 [.int .u8 (b : Int)] rfl rfl ?c1 ?c2 ?c3 ?c4 ?c5 ?_))
          case c1 =>
            intro j' u hj'
            match j', hj' with
            | 0, hj' => simp at hj'; subst hj'; simp [Addr.add]
          case c2 => intro u hu; simp at hu; subst hu; rfl
          case c3 => unfold maxLen; omega
          case c4 => omega
          case c5 => simp; omega
          intro v' w1 hown' hgrow _
          have R1 := str_step (b := b) hc.out.2.2 (show B + 1 = (w.alloc zero6).heap.size by have := HB.out; simp; omega) (by rw [HB.out]; exact hbel) hown hown' hgrow
          clear hown' hgrow hown hbel
          go_wp2
          go_roundw
          case rel => exact ⟨j + n, t ++ [b.toUInt8], hn1, by omega, by have := hc.out; simp; omega, by go_num, R1.1, by rw [← HB.out]; exact R1.2, HE⟩
          case measure => have := hc.out; simp [intOf]; omega
    · have HE : Hid (R = none) := by
        show R = _
        rw [HR.out, rest_out hin, strL_none (by simp [clsHd]) (by simp [quotedL])]; simp
      have hin' : (s.size : Int) ≤ j := by omega
      clear HR hown hbel Q q0 q1 q2 q3 q4 q5 z0 z1 z2 z3 z4 z5
      go_wp2_with (first | (go_at_call 40; (with_reducible refine Calls.mono (FT _) ?_); rintro e w2 ⟨rfl, hb2⟩; obtain ⟨⟨q0, q1, q2, q3, q4, q5⟩, z0, z1, z2, z3, z4, z5⟩ := six_of ((hb2.block B ng).trans hblk)))
      refine bodyPost_ret (v := .agg #[.int .i64 0, .string ⟨#[]⟩, .int .i64 0, .int .i64 0, .int .i64 0, .int .i64 12]) (by simp [results, Tryz.results26, go_sem, *]) rfl ?_
      refine ⟨by rw [HE.out]; rfl, ?_⟩
      rw [← HB.out]
      exact set_six (hbw.trans (hb2.mono (by omega))) _ _ _ _ _ _
end Go.Proofs.YtkfhdmkdkphmoaaGreatDoor
