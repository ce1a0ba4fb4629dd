/- The reference's fault, nothing, hex, worth, escape, quoted: contracts. The reference's escape and quoted: contracts. The reference's quoted and char: contracts. The reference's lower, upper and single: contracts. The reference's signsOf and comment: contracts. -/
import Derived.Test.YtkfhdmkdkphmoaaGreatDoorRR
namespace Go.Proofs.YtkfhdmkdkphmoaaGreatDoor
open Go.RowKit

/-- A Step of the reference: what stands at a place. -/
def stepV (k : Nat) : Except Nat (Option (Nat × List UInt8 × Nat) × Nat) → Value
  | .error c => .agg #[.int .i64 0, .string ⟨#[]⟩, .int .i64 0, .int .i64 0, .int .i64 0, .int .i64 c]
  | .ok (none, n) => .agg #[.int .i64 0, .string ⟨#[]⟩, .int .i64 0, .int .i64 0, .int .i64 ((k + n : Nat) : Int), .int .i64 0]
  | .ok (some (kd, tx, nm), n) => .agg #[.int .i64 kd, .string ⟨tx.toArray⟩, .int .i64 nm, .int .i64 k, .int .i64 ((k + n : Nat) : Int), .int .i64 0]

theorem ref_nothing (n : Int) (w : World) : Calls Tryz.prog 20 #[.int .i64 n] w fun e w' => e = .returned (.agg #[.int .i64 0, .string ⟨#[]⟩, .int .i64 0, .int .i64 0, .int .i64 n, .int .i64 0]) ∧ w' = w.alloc (.cells #[.int .i64 0, .string ⟨#[]⟩, .int .i64 0, .int .i64 0, .int .i64 n, .int .i64 0] 43) := by
  go_enter Tryz.func20, Tryz.ntmps20
  go_wp2
  refine bodyPost_ret (v := .agg #[.int .i64 0, .string ⟨#[]⟩, .int .i64 0, .int .i64 0, .int .i64 n, .int .i64 0]) (by simp [results, Tryz.results20, go_sem, *]) rfl ?_
  exact ⟨rfl, rfl⟩
theorem ref_fault (c : Int) (w : World) : Calls Tryz.prog 40 #[.int .i64 c] w fun e w' => e = .returned (.agg #[.int .i64 0, .string ⟨#[]⟩, .int .i64 0, .int .i64 0, .int .i64 0, .int .i64 c]) ∧ w' = w.alloc (.cells #[.int .i64 0, .string ⟨#[]⟩, .int .i64 0, .int .i64 0, .int .i64 0, .int .i64 c] 43) := by
  go_enter Tryz.func40, Tryz.ntmps40
  go_wp2
  refine bodyPost_ret (v := .agg #[.int .i64 0, .string ⟨#[]⟩, .int .i64 0, .int .i64 0, .int .i64 0, .int .i64 c]) (by simp [results, Tryz.results40, go_sem, *]) rfl ?_
  exact ⟨rfl, rfl⟩

theorem cls_hex : ∀ c : Fin 256, ((decide (48 ≤ c.1) && decide (c.1 ≤ 57)) || (decide (97 ≤ c.1) && decide (c.1 ≤ 102))) = decide (digOf c.1 < 16) := by decide +kernel
theorem ref_hex (c : Nat) (w : World) (hc : c < 256) : Calls Tryz.prog 43 #[.int .u8 c] w fun e w' => e = .returned (.bool (decide (digOf c < 16))) ∧ w' = w := by
  have HE : Hid (((decide (48 ≤ c) && decide (c ≤ 57)) || (decide (97 ≤ c) && decide (c ≤ 102))) = decide (digOf c < 16)) := cls_hex ⟨c, hc⟩
  generalize decide (digOf c < 16) = r at HE
  go_enter Tryz.func43, Tryz.ntmps43
  go_wp2
  all_goals (go_ret; exact ⟨ret_bool (by rw [← HE.out, Bool.eq_iff_iff]; simp <;> omega), rfl⟩)

theorem worth_eq : ∀ c : Fin 256, digOf c.1 < 16 → (97 ≤ c.1 → digOf c.1 = c.1 - 97 + 10) ∧ (¬ 97 ≤ c.1 → 48 ≤ c.1 ∧ digOf c.1 = c.1 - 48) := by decide +kernel
theorem ref_worth (c : Nat) (w : World) (hc : c < 256) (hd : digOf c < 16) : Calls Tryz.prog 44 #[.int .u8 c] w fun e w' => e = .returned (.int .i64 (digOf c)) ∧ w' = w := by
  have HE := worth_eq ⟨c, hc⟩ hd
  by_cases h : 97 ≤ c
  · have h1 : Hid (digOf c = c - 97 + 10) := HE.1 h
    have h' : (97 : Int) ≤ c := by omega
    generalize digOf c = d at *
    clear HE h
    go_enter Tryz.func44, Tryz.ntmps44
    go_wp2
    go_ret
    exact ⟨ret_int (by rw [h1.out]; omega), rfl⟩
  · have h1 : Hid (48 ≤ c ∧ digOf c = c - 48) := HE.2 h
    have h2 := h1.out.1
    have h' : ¬ (97 : Int) ≤ c := by omega
    generalize digOf c = d at *
    clear HE h
    go_enter Tryz.func44, Tryz.ntmps44
    go_wp2
    go_ret
    exact ⟨ret_int (by have := h1.out; omega), rfl⟩

/-- A byte that was said, and the place behind; -1: none. -/
def pairV (k : Nat) : Option (Nat × Nat) → Value
  | none => .tuple #[.int .i64 (-1), .int .i64 0]
  | some (b, n) => .tuple #[.int .i64 b, .int .i64 ((k + n : Nat) : Int)]
end Go.Proofs.YtkfhdmkdkphmoaaGreatDoor

namespace Go.Proofs.YtkfhdmkdkphmoaaGreatDoor
open Go.RowKit

/-- What so many digits from a place on make. -/
def pre3 (s : ByteArray) (k : Nat) : Nat → Nat
  | 0 => 0
  | j + 1 => 10 * pre3 s k j + (hdN (rest s (k + j)) - 48)
theorem pre3_val (s : ByteArray) (k : Nat) : pre3 s k 3 = val3 (rest s k) := by
  unfold val3
  rw [rest_drop, rest_drop]
  simp only [pre3]
  rw [Nat.add_zero]
  omega
theorem clsAt_lt {s : ByteArray} {k : Nat} (h : clsAt s k ≠ 0) : k < s.size := by
  by_cases hh : k < s.size
  · exact hh
  · exact absurd (clsAt_out hh) h

theorem ret_pair {a b : Int} {k : Nat} {o : Option (Nat × Nat)} (h : pairV k o = .tuple #[.int .i64 a, .int .i64 b]) : Ending.returned (.tuple #[.int .i64 a, .int .i64 b]) = .returned (pairV k o) := by rw [h]

set_option maxHeartbeats 4000000 in
set_option maxRecDepth 10000 in
theorem ref_escape (s : ByteArray) (k : Nat) (w : World) (hs : s.size ≤ 65536) (hk : k < s.size) : Calls Tryz.prog 68 #[.string s, .int .i64 k] w fun e w' => e = .returned (pairV (k + 1) (escL (rest s (k + 1)))) ∧ w' = w := by
  by_cases h : k + 1 < s.size
  · rw [rest_in h]
    have hlt : s[k + 1].toNat < 256 := s[k + 1].toNat_lt
    by_cases h110 : s[k + 1].toNat = 110
    · have E : Hid (pairV (k + 1) (escL (s[k + 1] :: rest s (k + 1 + 1))) = .tuple #[.int .i64 10, .int .i64 (k + 2)]) := by
        rw [u8eq h110]; rfl
      have hv : (s[k + 1].toNat : Int) = 110 := by omega
      clear h110
      generalize escL (s[k + 1] :: rest s (k + 1 + 1)) = o at E
      go_enter Tryz.func68, Tryz.ntmps68
      go_wp2
      go_ret2
      exact ⟨ret_pair E.out, rfl⟩
    · by_cases h116 : s[k + 1].toNat = 116
      · have E : Hid (pairV (k + 1) (escL (s[k + 1] :: rest s (k + 1 + 1))) = .tuple #[.int .i64 9, .int .i64 (k + 2)]) := by
          rw [u8eq h116]; rfl
        have hv : (s[k + 1].toNat : Int) = 116 := by omega
        clear h116 h110
        generalize escL (s[k + 1] :: rest s (k + 1 + 1)) = o at E
        go_enter Tryz.func68, Tryz.ntmps68
        go_wp2
        go_ret2
        exact ⟨ret_pair E.out, rfl⟩
      · by_cases hq : s[k + 1].toNat = 92 ∨ s[k + 1].toNat = 39 ∨ s[k + 1].toNat = 34
        · have E : Hid (pairV (k + 1) (escL (s[k + 1] :: rest s (k + 1 + 1))) = .tuple #[.int .i64 (s[k + 1].toNat), .int .i64 (k + 2)]) := by
            rcases hq with h | h | h <;> (rw [u8eq h]; rfl)
          generalize escL (s[k + 1] :: rest s (k + 1 + 1)) = o at E
          have hv1 : ¬ (s[k + 1].toNat : Int) = 110 := by omega
          have hv2 : ¬ (s[k + 1].toNat : Int) = 116 := by omega
          clear h116 h110
          rcases hq with hq | hq | hq
          · have hv : (s[k + 1].toNat : Int) = 92 := by omega
            rw [hv] at E
            clear hq hv1 hv2
            go_enter Tryz.func68, Tryz.ntmps68
            go_wp2
            go_ret2
            exact ⟨ret_pair E.out, rfl⟩
          · have hv : (s[k + 1].toNat : Int) = 39 := by omega
            rw [hv] at E
            clear hq hv1 hv2
            go_enter Tryz.func68, Tryz.ntmps68
            go_wp2
            go_ret2
            exact ⟨ret_pair E.out, rfl⟩
          · have hv : (s[k + 1].toNat : Int) = 34 := by omega
            rw [hv] at E
            clear hq hv1 hv2
            go_enter Tryz.func68, Tryz.ntmps68
            go_wp2
            go_ret2
            exact ⟨ret_pair E.out, rfl⟩
        · have hne : ∀ n : UInt8, s[k + 1] = n → s[k + 1].toNat = n.toNat := fun n h => by rw [h]
          have q1 : ¬ s[k + 1] = 110 := fun h => h110 (hne _ h)
          have q2 : ¬ s[k + 1] = 116 := fun h => h116 (hne _ h)
          have q3 : ¬ (s[k + 1] = 92 ∨ s[k + 1] = 39 ∨ s[k + 1] = 34) := by
            rintro (h | h | h)
            · exact hq (Or.inl (hne _ h))
            · exact hq (Or.inr (Or.inl (hne _ h)))
            · exact hq (Or.inr (Or.inr (hne _ h)))
          have hv1 : ((s[k + 1].toNat : Int) == 110) = false := by simp; omega
          have hv2 : ((s[k + 1].toNat : Int) == 116) = false := by simp; omega
          have hv3 : ((s[k + 1].toNat : Int) == 92) = false := by simp; omega
          have hv4 : ((s[k + 1].toNat : Int) == 39) = false := by simp; omega
          have hv5 : ((s[k + 1].toNat : Int) == 34) = false := by simp; omega
          have e0 := clsAt_rest s (k + 1)
          have e1 : clsAt s (k + 1 + 1) = clsHd ((rest s (k + 1)).drop 1) := by rw [rest_drop]; exact clsAt_rest s _
          have e2 : clsAt s (k + 1 + 2) = clsHd ((rest s (k + 1)).drop 2) := by rw [rest_drop]; exact clsAt_rest s _
          have E : Hid (escL (s[k + 1] :: rest s (k + 1 + 1)) = if (clsAt s (k + 1) = 3 ∧ clsAt s (k + 1 + 1) = 3 ∧ clsAt s (k + 1 + 2) = 3) ∧ pre3 s (k + 1) 3 ≤ 255 then some (pre3 s (k + 1) 3, 3) else none) := by
            show escL (s[k + 1] :: rest s (k + 1 + 1)) = _
            rw [escL, if_neg q1, if_neg q2, if_neg q3, ← rest_in h, pre3_val, esc3, e0, e1, e2]
            simp only [and_assoc]
          generalize escL (s[k + 1] :: rest s (k + 1 + 1)) = o at E
          clear h116 h110 hne q1 q2 q3 hq e0 e1 e2
          by_cases h3 : k + 3 < s.size
          · have SD : ∀ (c : UInt8) W, Calls Tryz.prog 18 #[.int .u8 c.toNat] W fun e w' => e = .returned (.bool (decide (cls c.toNat = 3))) ∧ w' = W := fun c W => ref_digit c.toNat W c.toNat_lt
            go_enter Tryz.func68, Tryz.ntmps68
            go_wp2_with fail
            go_loopw [6, 7] (fun nv iv wr => ∃ p x : Nat, k + 1 ≤ p ∧ p ≤ k + 4 ∧ iv = .int .i64 p ∧ nv = .int .i64 x ∧ wr = w ∧ x < 10 ^ (p - (k + 1)) ∧ Hid (x = pre3 s (k + 1) (p - (k + 1))) ∧ Hid (∀ t, k + 1 ≤ t → t < p → clsAt s t = 3)) (fun _ iv _ => k + 4 - (intOf iv).toNat)
            case atStart => exact ⟨k + 1, 0, by omega, by omega, by go_num, by go_num, rfl, by simp, by show 0 = _; simp [pre3], fun t h1 h2 => by omega⟩
            case round =>
              obtain ⟨p, x, hp0, hp, rfl, rfl, rfl, hx, HX, HT⟩ := hrel
              have hx3 : x < 1000 := Nat.lt_of_lt_of_le hx (Nat.le_trans (Nat.pow_le_pow_right (by omega) (by omega : p - (k + 1) ≤ 3)) (by omega))
              by_cases hlt3 : p < k + 4
              · have hps : p < s.size := by omega
                have S1 := fun W => SD s[p] W
                have hpl : (p : Int) < k + 4 := by omega
                cases hd : decide (cls s[p].toNat = 3) with
                | true =>
                  have hd' : cls s[p].toNat = 3 := of_decide_eq_true hd
                  obtain ⟨b1, b2⟩ := cls3 hd'
                  have HN : Hid (10 * x + (s[p].toNat - 48) = pre3 s (k + 1) (p + 1 - (k + 1))) := by
                    show _ = pre3 s (k + 1) _
                    rw [show p + 1 - (k + 1) = (p - (k + 1)) + 1 by omega, pre3, ← HX.out, show k + 1 + (p - (k + 1)) = p by omega, hdN_rest s p hps]
                  have HM : Hid (∀ t, k + 1 ≤ t → t < p + 1 → clsAt s t = 3) := fun t h1 h2 => by
                    by_cases e : t = p
                    · rw [e, clsAt_in hps]; exact hd'
                    · exact HT.out t h1 (by omega)
                  have HP : Hid (10 * x + (s[p].toNat - 48) < 10 ^ (p + 1 - (k + 1))) := by
                    show _ < _
                    rw [show p + 1 - (k + 1) = (p - (k + 1)) + 1 by omega, Nat.pow_succ]
                    omega
                  rw [hd] at S1
                  have b1' : (48 : Int) ≤ s[p].toNat := by omega
                  have b2' : (s[p].toNat : Int) ≤ 57 := by omega
                  clear hd hd' SD HX HT hx E hv1 hv2 hv3 hv4 hv5
                  go_wp2_with (go_at_call 18; (with_reducible refine Calls.mono (S1 _) ?_); rintro e w' ⟨rfl, rfl⟩)
                  go_roundw
                  case rel => exact ⟨p + 1, 10 * x + (s[p].toNat - 48), by omega, by omega, by go_num, by go_num, by first | rfl | trivial, HP.out, HN, HM⟩
                  case measure => simp [intOf]; omega
                | false =>
                  have HE : Hid (pairV (k + 1) o = .tuple #[.int .i64 (-1), .int .i64 0]) := by
                    show pairV (k + 1) o = _
                    rw [E.out, if_neg]
                    · rfl
                    · rintro ⟨⟨g0, g1, g2⟩, _⟩
                      have : clsAt s p = 3 := by
                        rcases (by omega : p = k + 1 ∨ p = k + 1 + 1 ∨ p = k + 1 + 2) with rfl | rfl | rfl
                        · exact g0
                        · exact g1
                        · exact g2
                      rw [clsAt_in hps] at this
                      exact of_decide_eq_false hd this
                  rw [hd] at S1
                  clear hd SD HX HT hx E hv1 hv2 hv3 hv4 hv5
                  go_wp2_with (go_at_call 18; (with_reducible refine Calls.mono (S1 _) ?_); rintro e w' ⟨rfl, rfl⟩)
                  go_ret2
                  exact ⟨ret_pair HE.out, rfl⟩
              · have e : p = k + 4 := by omega
                subst e
                have HF : Hid (pairV (k + 1) o = if x ≤ 255 then .tuple #[.int .i64 x, .int .i64 (k + 4)] else .tuple #[.int .i64 (-1), .int .i64 0]) := by
                  show pairV (k + 1) o = _
                  have hx' := HX.out
                  rw [show k + 4 - (k + 1) = 3 by omega] at hx'
                  rw [E.out, ← hx']
                  have g0 := HT.out (k + 1) (by omega) (by omega)
                  have g1 := HT.out (k + 1 + 1) (by omega) (by omega)
                  have g2 := HT.out (k + 1 + 2) (by omega) (by omega)
                  by_cases h255 : x ≤ 255
                  · rw [if_pos ⟨⟨g0, g1, g2⟩, h255⟩, if_pos h255]
                    rfl
                  · rw [if_neg (fun h => h255 h.2), if_neg h255]
                    rfl
                clear E HX HT hx hv1 hv2 hv3 hv4 hv5 SD
                by_cases h255 : x ≤ 255
                · have h255' : ¬ (255 : Int) < x := by omega
                  go_wp2_with fail
                  go_ret2
                  exact ⟨ret_pair (by rw [HF.out, if_pos h255]), rfl⟩
                · have h255' : (255 : Int) < x := by omega
                  go_wp2_with fail
                  go_ret2
                  exact ⟨ret_pair (by rw [HF.out, if_neg h255]), rfl⟩
          · have HE : Hid (pairV (k + 1) o = .tuple #[.int .i64 (-1), .int .i64 0]) := by
              show pairV (k + 1) o = _
              rw [E.out, if_neg]
              · rfl
              · rintro ⟨⟨_, _, g2⟩, _⟩
                have := clsAt_lt (s := s) (k := k + 1 + 2) (by omega)
                omega
            have h3' : (s.size : Int) ≤ k + 3 := by omega
            clear E
            go_enter Tryz.func68, Tryz.ntmps68
            go_wp2
            go_ret2
            exact ⟨ret_pair HE.out, rfl⟩
  · rw [rest_out h]
    have HE : Hid (pairV (k + 1) (escL []) = .tuple #[.int .i64 (-1), .int .i64 0]) := rfl
    generalize escL [] = o at HE
    have h' : (s.size : Int) ≤ k + 1 := by omega
    go_enter Tryz.func68, Tryz.ntmps68
    go_wp2
    go_ret2
    exact ⟨ret_pair HE.out, rfl⟩
end Go.Proofs.YtkfhdmkdkphmoaaGreatDoor

namespace Go.Proofs.YtkfhdmkdkphmoaaGreatDoor
open Go.RowKit

theorem pair_next (k : Nat) (o : Option (Nat × Nat)) : pairV k (o.map fun x => (x.1, x.2 + 1)) = pairV (k + 1) o := by
  cases o with
  | none => rfl
  | some x =>
    simp only [Option.map_some, pairV]
    rw [show k + (x.2 + 1) = k + 1 + x.2 by omega]

set_option maxHeartbeats 4000000 in
set_option maxRecDepth 10000 in
theorem ref_quoted (s : ByteArray) (k q : Nat) (w : World) (hs : s.size ≤ 65536) (hk : k ≤ s.size) (hq : q = 39 ∨ q = 34) : Calls Tryz.prog 46 #[.string s, .int .i64 k, .int .u8 q] w fun e w' => e = .returned (pairV k (quotedL q (rest s k))) ∧ w' = w := by
  by_cases h : k < s.size
  · rw [rest_in h]
    have hlt : s[k].toNat < 256 := s[k].toNat_lt
    have hne : ∀ n : UInt8, s[k] = n → s[k].toNat = n.toNat := fun n h => by rw [h]
    by_cases h92 : s[k].toNat = 92
    · have HE : Hid (pairV k (quotedL q (s[k] :: rest s (k + 1))) = pairV (k + 1) (escL (rest s (k + 1)))) := by
        show pairV k _ = _
        rw [quotedL, if_pos (show s[k] = 92 from u8eq h92), pair_next]
      generalize quotedL q (s[k] :: rest s (k + 1)) = o at HE
      have ES := fun W => ref_escape s k W hs h
      rw [← HE.out] at ES
      obtain ⟨PV, hPV⟩ : ∃ a b : Int, pairV k o = .tuple #[.int .i64 a, .int .i64 b] := by
        cases o with
        | none => exact ⟨_, _, rfl⟩
        | some x => exact ⟨_, _, rfl⟩
      obtain ⟨b, hPV⟩ := hPV
      rw [hPV] at ES ⊢
      have e1 : (s[k].toNat : Int) = 92 := by omega
      have e2 : ((92 : Int) == (q : Int)) = false := by simp; omega
      clear HE h92 hne hPV hq
      go_enter Tryz.func46, Tryz.ntmps46
      go_wp2_with (go_at_call 68; (with_reducible refine Calls.mono (ES _) ?_); rintro e w' ⟨rfl, rfl⟩)
      go_ret2
      exact ⟨rfl, rfl⟩
    · have n92 : ¬ s[k] = 92 := fun h => h92 (hne _ h)
      have HE : Hid (quotedL q (s[k] :: rest s (k + 1)) = if plainB s[k].toNat = true ∧ s[k].toNat ≠ q then some (s[k].toNat, 1) else none) := by
        show quotedL q _ = _
        rw [quotedL, if_neg n92]
      generalize quotedL q (s[k] :: rest s (k + 1)) = o at HE
      have e92 : ((s[k].toNat : Int) == 92) = false := by simp; omega
      clear hne n92
      by_cases h1 : s[k].toNat = q
      · have HF : Hid (pairV k o = .tuple #[.int .i64 (-1), .int .i64 0]) := by
          show pairV k o = _
          rw [HE.out, if_neg (fun h => h.2 h1)]
          rfl
        have e1 : ((s[k].toNat : Int) == (q : Int)) = true := by simp; omega
        clear HE h1 h92 hq
        go_enter Tryz.func46, Tryz.ntmps46
        go_wp2
        go_ret2
        exact ⟨ret_pair HF.out, rfl⟩
      · have e1 : ((s[k].toNat : Int) == (q : Int)) = false := by simp; omega
        by_cases h2 : 32 ≤ s[k].toNat ∧ s[k].toNat ≤ 126
        · have HF : Hid (pairV k o = .tuple #[.int .i64 s[k].toNat, .int .i64 (k + 1)]) := by
            show pairV k o = _
            rw [HE.out, if_pos ⟨by simp [plainB, h2], h1⟩]
            rfl
          have e2 : ¬ (s[k].toNat : Int) < 32 := by omega
          have e3 : ¬ (126 : Int) < s[k].toNat := by omega
          clear HE h1 h92 hq h2
          go_enter Tryz.func46, Tryz.ntmps46
          go_wp2
          go_ret2
          exact ⟨ret_pair HF.out, rfl⟩
        · have HF : Hid (pairV k o = .tuple #[.int .i64 (-1), .int .i64 0]) := by
            show pairV k o = _
            rw [HE.out, if_neg]
            · rfl
            · rintro ⟨h, _⟩
              simp [plainB] at h
              omega
          by_cases h3 : s[k].toNat < 32
          · have e2 : (s[k].toNat : Int) < 32 := by omega
            clear HE h1 h92 hq h2 h3
            go_enter Tryz.func46, Tryz.ntmps46
            go_wp2
            go_ret2
            exact ⟨ret_pair HF.out, rfl⟩
          · have e2 : ¬ (s[k].toNat : Int) < 32 := by omega
            have e3 : (126 : Int) < s[k].toNat := by omega
            clear HE h1 h92 hq h2 h3
            go_enter Tryz.func46, Tryz.ntmps46
            go_wp2
            go_ret2
            exact ⟨ret_pair HF.out, rfl⟩
  · rw [rest_out h]
    have HE : Hid (pairV k (quotedL q []) = .tuple #[.int .i64 (-1), .int .i64 0]) := rfl
    generalize quotedL q [] = o at HE
    have h' : (s.size : Int) ≤ k := by omega
    clear hq
    go_enter Tryz.func46, Tryz.ntmps46
    go_wp2
    go_ret2
    exact ⟨ret_pair HE.out, rfl⟩

theorem cls_four : ∀ c : Fin 256, cls c.1 = 4 ↔ c.1 = 39 := by decide +kernel

/-- A Step that is a token's or a fault's. -/
def tokV (k kd : Nat) (tx : List UInt8) (c : Nat) : Option (Nat × Nat) → Value
  | none => stepV k (.error c)
  | some (v, n) => stepV k (.ok (some (kd, tx, v), n))

set_option maxHeartbeats 4000000 in
set_option maxRecDepth 10000 in
theorem ref_char (s : ByteArray) (k : Nat) (w : World) (hs : s.size ≤ 65536) (hk : k < s.size) : Calls Tryz.prog 25 #[.string s, .int .i64 k] w fun e w' => e = .returned (tokV k 7 [] 12 (charL (rest s k))) ∧ Below w.heap.size w w' := by
  have QT : ∀ W, Calls Tryz.prog 46 #[.string s, .int .i64 (k + 1), .int .u8 39] W fun e w' => e = .returned (pairV (k + 1) (quotedL 39 (rest s (k + 1)))) ∧ w' = W := fun W => ref_quoted s (k + 1) 39 W hs (by omega) (Or.inl rfl)
  have FT := ref_fault 12
  cases ho : quotedL 39 (rest s (k + 1)) with
  | none =>
    have HE : Hid (tokV k 7 [] 12 (charL (rest s k)) = .agg #[.int .i64 0, .string ⟨#[]⟩, .int .i64 0, .int .i64 0, .int .i64 0, .int .i64 12]) := by
      show tokV k 7 [] 12 (charL (rest s k)) = _
      rw [charL, rest_drop, ho]
      rfl
    rw [HE.out]
    rw [ho] at QT
    clear ho HE
    go_enter Tryz.func25, Tryz.ntmps25
    go_wp2_with (first | (go_at_call 46; (with_reducible refine Calls.mono (QT _) ?_); rintro e w' ⟨rfl, rfl⟩; unfold pairV) | (go_at_call 40; (with_reducible refine Calls.mono (FT _) ?_); rintro e w' ⟨rfl, rfl⟩))
    refine bodyPost_ret (v := .agg #[.int .i64 0, .string ⟨#[]⟩, .int .i64 0, .int .i64 0, .int .i64 0, .int .i64 12]) (by simp [results, Tryz.results25, go_sem, *]) rfl ?_
    exact ⟨rfl, ((Below.refl _ _).alloc (Nat.le_refl _) _).alloc (by simp) _⟩
  | some x =>
    obtain ⟨b, n⟩ := x
    obtain ⟨hn1, hn2, hb⟩ := quotedL_pos ho
    rw [rest_len] at hn2
    rw [ho] at QT
    obtain ⟨E, hE⟩ : ∃ E, E = k + 1 + n := ⟨_, rfl⟩
    have QT2 : ∀ W, Calls Tryz.prog 46 #[.string s, .int .i64 (k + 1), .int .u8 39] W fun e w' => e = .returned (.tuple #[.int .i64 b, .int .i64 E]) ∧ w' = W := fun W => by rw [hE]; exact QT W
    have HE : Hid (charL (rest s k) = if clsAt s E = 4 then some (b, n + 2) else none) := by
      show charL (rest s k) = _
      rw [charL, rest_drop, ho, clsAt_rest, hE]
      simp only [rest_drop, Nat.add_assoc]
    have hEs : E ≤ s.size := by omega
    have HK : Hid (k + (n + 2) = E + 1) := by show _ = _; omega
    generalize charL (rest s k) = o at HE
    clear QT ho hE hn2
    by_cases hin : E < s.size
    · by_cases h39 : s[E].toNat = 39
      · have HF : Hid (tokV k 7 [] 12 o = .agg #[.int .i64 7, .string ⟨#[]⟩, .int .i64 b, .int .i64 k, .int .i64 (E + 1), .int .i64 0]) := by
          show tokV k 7 [] 12 o = _
          rw [HE.out, if_pos (by rw [clsAt_in hin]; exact (cls_four ⟨s[E].toNat, s[E].toNat_lt⟩).2 h39)]
          show Value.agg _ = _
          rw [HK.out]
          rfl
        rw [HF.out]
        have e39 : (s[E].toNat : Int) = 39 := by omega
        have hb' : ¬ (b : Int) < 0 := by omega
        clear HE HF HK h39
        go_enter Tryz.func25, Tryz.ntmps25
        go_wp2_with (first | (go_at_call 46; (with_reducible refine Calls.mono (QT2 _) ?_); rintro e w' ⟨rfl, rfl⟩) | (go_at_call 40; (with_reducible refine Calls.mono (FT _) ?_); rintro e w' ⟨rfl, rfl⟩))
        refine bodyPost_ret (v := .agg #[.int .i64 7, .string ⟨#[]⟩, .int .i64 b, .int .i64 k, .int .i64 (E + 1), .int .i64 0]) (by simp [results, Tryz.results25, go_sem, *]) rfl ?_
        exact ⟨rfl, (Below.refl _ _).alloc (Nat.le_refl _) _⟩
      · have HF : Hid (tokV k 7 [] 12 o = .agg #[.int .i64 0, .string ⟨#[]⟩, .int .i64 0, .int .i64 0, .int .i64 0, .int .i64 12]) := by
          show tokV k 7 [] 12 o = _
          rw [HE.out, if_neg (by rw [clsAt_in hin]; exact fun h => h39 ((cls_four ⟨s[E].toNat, s[E].toNat_lt⟩).1 h))]
          rfl
        rw [HF.out]
        have e39 : ((s[E].toNat : Int) != 39) = true := by simp; omega
        have hb' : ¬ (b : Int) < 0 := by omega
        clear HE HF HK h39
        go_enter Tryz.func25, Tryz.ntmps25
        go_wp2_with (first | (go_at_call 46; (with_reducible refine Calls.mono (QT2 _) ?_); rintro e w' ⟨rfl, rfl⟩) | (go_at_call 40; (with_reducible refine Calls.mono (FT _) ?_); rintro e w' ⟨rfl, rfl⟩))
        refine bodyPost_ret (v := .agg #[.int .i64 0, .string ⟨#[]⟩, .int .i64 0, .int .i64 0, .int .i64 0, .int .i64 12]) (by simp [results, Tryz.results25, go_sem, *]) rfl ?_
        exact ⟨rfl, ((Below.refl _ _).alloc (Nat.le_refl _) _).alloc (by simp) _⟩
    · have HF : Hid (tokV k 7 [] 12 o = .agg #[.int .i64 0, .string ⟨#[]⟩, .int .i64 0, .int .i64 0, .int .i64 0, .int .i64 12]) := by
        show tokV k 7 [] 12 o = _
        rw [HE.out, if_neg (by rw [clsAt_out hin]; decide)]
        rfl
      rw [HF.out]
      have hin' : (s.size : Int) ≤ E := by omega
      have hb' : ¬ (b : Int) < 0 := by omega
      clear HE HF HK
      go_enter Tryz.func25, Tryz.ntmps25
      go_wp2_with (first | (go_at_call 46; (with_reducible refine Calls.mono (QT2 _) ?_); rintro e w' ⟨rfl, rfl⟩) | (go_at_call 40; (with_reducible refine Calls.mono (FT _) ?_); rintro e w' ⟨rfl, rfl⟩))
      refine bodyPost_ret (v := .agg #[.int .i64 0, .string ⟨#[]⟩, .int .i64 0, .int .i64 0, .int .i64 0, .int .i64 12]) (by simp [results, Tryz.results25, go_sem, *]) rfl ?_
      exact ⟨rfl, ((Below.refl _ _).alloc (Nat.le_refl _) _).alloc (by simp) _⟩
end Go.Proofs.YtkfhdmkdkphmoaaGreatDoor

namespace Go.Proofs.YtkfhdmkdkphmoaaGreatDoor
open Go.RowKit

theorem below2 (w : World) (o o' : Obj) : Below w.heap.size w ((w.alloc o).alloc o') := ((Below.refl _ _).alloc (Nat.le_refl _) _).alloc (by simp) _
theorem below1 (w : World) (o : Obj) : Below w.heap.size w (w.alloc o) := (Below.refl _ _).alloc (Nat.le_refl _) _

set_option maxHeartbeats 4000000 in
set_option maxRecDepth 10000 in
theorem ref_lower (s : ByteArray) (k : Nat) (w : World) (hs : s.size ≤ 65536) (hk : k < s.size) : Calls Tryz.prog 22 #[.string s, .int .i64 k] w fun e w' => e = .returned (stepV k (.ok (some (wordKindP ((rest s k).take (nameLen (rest s k))), (rest s k).take (nameLen (rest s k)), 0), nameLen (rest s k)))) ∧ Below w.heap.size w w' := by
  obtain ⟨E, hE⟩ : ∃ E, E = k + nameLen (rest s k) := ⟨_, rfl⟩
  have hend : endOf nsB s k = E := by rw [hE]; exact endOf_span nsB s k rfl
  have hle := endOf_le nsB s k (by omega)
  rw [hend] at hle
  have SG : ∀ W, Calls Tryz.prog 41 #[.string s, .int .i64 k] W fun e w' => e = .returned (.int .i64 E) ∧ w' = W := fun W => by
    have := ref_signs s k W (by unfold maxLen; omega) (by omega)
    rw [hend] at this
    exact this
  have hx := extract_rest s k (nameLen (rest s k))
  rw [← hE] at hx
  have RS := fun W => ref_reserved (s.extract k E) W
  have hres : (s.extract k E).toList = (rest s k).take (nameLen (rest s k)) := by rw [hx, ByteArray.toList_eq]
  rw [hres] at RS
  have HF : Hid (stepV k (.ok (some (wordKindP ((rest s k).take (nameLen (rest s k))), (rest s k).take (nameLen (rest s k)), 0), nameLen (rest s k))) = .agg #[.int .i64 (wordKindP ((rest s k).take (nameLen (rest s k)))), .string (s.extract k E), .int .i64 0, .int .i64 k, .int .i64 E, .int .i64 0]) := by
    show Value.agg _ = _
    rw [hx, hE]
    rfl
  rw [HF.out]
  unfold wordKindP
  generalize (rest s k).take (nameLen (rest s k)) = l at RS
  clear hx hres HF hend hE
  obtain ⟨h1, h2⟩ := hle
  cases hr : isRes l with
  | true =>
    rw [hr] at RS
    rw [if_pos rfl]
    clear hr
    go_enter Tryz.func22, Tryz.ntmps22
    go_wp2_with (first | (go_at_call 41; (with_reducible refine Calls.mono (SG _) ?_); rintro e w' ⟨rfl, rfl⟩) | (go_at_call 42; (with_reducible refine Calls.mono (RS _) ?_); rintro e w' ⟨rfl, rfl⟩))
    refine bodyPost_ret (v := .agg #[.int .i64 10, .string (s.extract k E), .int .i64 0, .int .i64 k, .int .i64 E, .int .i64 0]) (by simp [results, Tryz.results22, go_sem, *]) rfl ?_
    exact ⟨rfl, below2 _ _ _⟩
  | false =>
    rw [hr] at RS
    rw [if_neg (by simp)]
    clear hr
    go_enter Tryz.func22, Tryz.ntmps22
    go_wp2_with (first | (go_at_call 41; (with_reducible refine Calls.mono (SG _) ?_); rintro e w' ⟨rfl, rfl⟩) | (go_at_call 42; (with_reducible refine Calls.mono (RS _) ?_); rintro e w' ⟨rfl, rfl⟩))
    refine bodyPost_ret (v := .agg #[.int .i64 1, .string (s.extract k E), .int .i64 0, .int .i64 k, .int .i64 E, .int .i64 0]) (by simp [results, Tryz.results22, go_sem, *]) rfl ?_
    exact ⟨rfl, below2 _ _ _⟩

set_option maxHeartbeats 4000000 in
set_option maxRecDepth 10000 in
theorem ref_upper (s : ByteArray) (k : Nat) (w : World) (hs : s.size ≤ 65536) (hk : k < s.size) : Calls Tryz.prog 23 #[.string s, .int .i64 k] w fun e w' => e = .returned (stepV k (.ok (some ((upperL (rest s k)).2, (rest s k).take (upperL (rest s k)).1, 0), (upperL (rest s k)).1))) ∧ Below w.heap.size w w' := by
  have hU := upperEnd_L s k (by omega)
  have HF : Hid (stepV k (.ok (some ((upperL (rest s k)).2, (rest s k).take (upperL (rest s k)).1, 0), (upperL (rest s k)).1)) = .agg #[.int .i64 (upperEndP s k).2, .string (s.extract k (upperEndP s k).1), .int .i64 0, .int .i64 k, .int .i64 (upperEndP s k).1, .int .i64 0]) := by
    show Value.agg _ = _
    rw [hU, extract_rest]
    rfl
  rw [HF.out]
  clear HF hU
  have SG : ∀ j W, j ≤ s.size → Calls Tryz.prog 41 #[.string s, .int .i64 j] W fun e w' => e = .returned (.int .i64 (nameEndP s j)) ∧ w' = W := fun j W h => ref_signs s j W (by unfold maxLen; omega) h
  have SC : ∀ (c : UInt8) W, Calls Tryz.prog 17 #[.int .u8 c.toNat] W fun e w' => e = .returned (.bool (decide (cls c.toNat = 2))) ∧ w' = W := fun c W => ref_capital c.toNat W c.toNat_lt
  have SS : ∀ (c : UInt8) W, Calls Tryz.prog 16 #[.int .u8 c.toNat] W fun e w' => e = .returned (.bool (decide (cls c.toNat = 1))) ∧ w' = W := fun c W => ref_small c.toNat W c.toNat_lt
  have hle := endOf_le nsB s k (by omega)
  obtain ⟨E, hE⟩ : ∃ E, E = nameEndP s k := ⟨_, rfl⟩
  have hle1 : k ≤ E := by rw [hE]; exact hle.1
  have hle2 : E ≤ s.size := by rw [hE]; exact hle.2
  have S0 : ∀ W, Calls Tryz.prog 41 #[.string s, .int .i64 k] W fun e w' => e = .returned (.int .i64 E) ∧ w' = W := fun W => by rw [hE]; exact SG k W (by omega)
  have HU : Hid (upperEndP s k = if (if h : E < s.size then decide (s[E].toNat = 46) else false) then (if clsAt s (E + 1) = 2 then (nameEndP s (E + 1), 4) else if clsAt s (E + 1) = 1 ∧ isRes (s.extract (E + 1) (nameEndP s (E + 1))).toList = false then (nameEndP s (E + 1), 3) else (E, 2)) else (E, 2)) := by
    show upperEndP s k = _
    rw [upperEndP, ← hE]
  generalize upperEndP s k = U at HU
  clear hle hE
  -- the plain way: no point, or nothing behind it
  have plain : Hid (U = (E, 2)) → (¬ E + 1 < s.size ∨ (∃ h : E < s.size, ¬ s[E].toNat = 46)) → Calls Tryz.prog 23 #[.string s, .int .i64 k] w fun e w' => e = .returned (.agg #[.int .i64 U.2, .string (s.extract k U.1), .int .i64 0, .int .i64 k, .int .i64 U.1, .int .i64 0]) ∧ Below w.heap.size w w' := by
    intro HP hor
    rw [HP.out]
    clear HP HU SG SC SS
    rcases hor with h | ⟨h, h46⟩
    · have h' : ¬ (E : Int) + 1 < s.size := by omega
      go_enter Tryz.func23, Tryz.ntmps23
      go_wp2_with (first | (go_at_call 41; (with_reducible refine Calls.mono (S0 _) ?_); rintro e w' ⟨rfl, rfl⟩))
      refine bodyPost_ret (v := .agg #[.int .i64 2, .string (s.extract k E), .int .i64 0, .int .i64 k, .int .i64 E, .int .i64 0]) (by simp [results, Tryz.results23, go_sem, *]) rfl ?_
      exact ⟨rfl, below1 _ _⟩
    · by_cases hb : E + 1 < s.size
      · have h' : (E : Int) + 1 < s.size := by omega
        have e46 : ((s[E].toNat : Int) == 46) = false := by simp; omega
        go_enter Tryz.func23, Tryz.ntmps23
        go_wp2_with (first | (go_at_call 41; (with_reducible refine Calls.mono (S0 _) ?_); rintro e w' ⟨rfl, rfl⟩))
        refine bodyPost_ret (v := .agg #[.int .i64 2, .string (s.extract k E), .int .i64 0, .int .i64 k, .int .i64 E, .int .i64 0]) (by simp [results, Tryz.results23, go_sem, *]) rfl ?_
        exact ⟨rfl, below1 _ _⟩
      · have h' : ¬ (E : Int) + 1 < s.size := by omega
        go_enter Tryz.func23, Tryz.ntmps23
        go_wp2_with (first | (go_at_call 41; (with_reducible refine Calls.mono (S0 _) ?_); rintro e w' ⟨rfl, rfl⟩))
        refine bodyPost_ret (v := .agg #[.int .i64 2, .string (s.extract k E), .int .i64 0, .int .i64 k, .int .i64 E, .int .i64 0]) (by simp [results, Tryz.results23, go_sem, *]) rfl ?_
        exact ⟨rfl, below1 _ _⟩
  by_cases hb : E + 1 < s.size
  · have hin : E < s.size := by omega
    by_cases h46 : s[E].toNat = 46
    · have hle3 := endOf_le nsB s (E + 1) (by omega)
      obtain ⟨L, hL⟩ : ∃ L, L = nameEndP s (E + 1) := ⟨_, rfl⟩
      have hL1 : E + 1 ≤ L := by rw [hL]; exact hle3.1
      have hL2 : L ≤ s.size := by rw [hL]; exact hle3.2
      have S1 : ∀ W, Calls Tryz.prog 41 #[.string s, .int .i64 (E + 1)] W fun e w' => e = .returned (.int .i64 L) ∧ w' = W := fun W => by rw [hL]; exact SG (E + 1) W (by omega)
      have RS := fun W => ref_reserved (s.extract (E + 1) L) W
      have HV : Hid (U = if clsAt s (E + 1) = 2 then (L, 4) else if clsAt s (E + 1) = 1 ∧ isRes (s.extract (E + 1) L).toList = false then (L, 3) else (E, 2)) := by
        show U = _
        rw [HU.out, if_pos (by simp [hin, h46]), ← hL]
      have C1 := fun W => SC s[E + 1] W
      have C2 := fun W => SS s[E + 1] W
      rw [clsAt_in hb] at HV
      have h' : (E : Int) + 1 < s.size := by omega
      have e46 : (s[E].toNat : Int) = 46 := by omega
      clear HU plain SG SC SS hle3 hL h46
      by_cases c2 : cls s[E + 1].toNat = 2
      · have HW : Hid (U = (L, 4)) := by show U = _; rw [HV.out, if_pos c2]
        rw [HW.out]
        rw [decide_eq_true c2] at C1
        rw [decide_eq_false (by omega : ¬ cls s[E + 1].toNat = 1)] at C2
        generalize isRes (s.extract (E + 1) L).toList = r at RS
        clear HV HW c2
        go_enter Tryz.func23, Tryz.ntmps23
        go_wp2_with (first | (go_at_call 41; (with_reducible refine Calls.mono (S0 _) ?_); rintro e w' ⟨rfl, rfl⟩) | (go_at_call 41; (with_reducible refine Calls.mono (S1 _) ?_); rintro e w' ⟨rfl, rfl⟩) | (go_at_call 17; (with_reducible refine Calls.mono (C1 _) ?_); rintro e w' ⟨rfl, rfl⟩) | (go_at_call 16; (with_reducible refine Calls.mono (C2 _) ?_); rintro e w' ⟨rfl, rfl⟩) | (go_at_call 42; (with_reducible refine Calls.mono (RS _) ?_); rintro e w' ⟨rfl, rfl⟩))
        refine bodyPost_ret (v := .agg #[.int .i64 4, .string (s.extract k L), .int .i64 0, .int .i64 k, .int .i64 L, .int .i64 0]) (by simp [results, Tryz.results23, go_sem, *]) rfl ?_
        exact ⟨rfl, below2 _ _ _⟩
      · rw [decide_eq_false c2] at C1
        by_cases c1 : cls s[E + 1].toNat = 1
        · rw [decide_eq_true c1] at C2
          cases hr : isRes (s.extract (E + 1) L).toList with
          | true =>
            have HW : Hid (U = (E, 2)) := by show U = _; rw [HV.out, if_neg c2, if_neg (by rw [hr]; simp)]
            rw [HW.out]
            rw [hr] at RS
            clear HV HW c2 c1 hr
            go_enter Tryz.func23, Tryz.ntmps23
            go_wp2_with (first | (go_at_call 41; (with_reducible refine Calls.mono (S0 _) ?_); rintro e w' ⟨rfl, rfl⟩) | (go_at_call 41; (with_reducible refine Calls.mono (S1 _) ?_); rintro e w' ⟨rfl, rfl⟩) | (go_at_call 17; (with_reducible refine Calls.mono (C1 _) ?_); rintro e w' ⟨rfl, rfl⟩) | (go_at_call 16; (with_reducible refine Calls.mono (C2 _) ?_); rintro e w' ⟨rfl, rfl⟩) | (go_at_call 42; (with_reducible refine Calls.mono (RS _) ?_); rintro e w' ⟨rfl, rfl⟩))
            refine bodyPost_ret (v := .agg #[.int .i64 2, .string (s.extract k E), .int .i64 0, .int .i64 k, .int .i64 E, .int .i64 0]) (by simp [results, Tryz.results23, go_sem, *]) rfl ?_
            exact ⟨rfl, below2 _ _ _⟩
          | false =>
            have HW : Hid (U = (L, 3)) := by show U = _; rw [HV.out, if_neg c2, if_pos ⟨c1, hr⟩]
            rw [HW.out]
            rw [hr] at RS
            clear HV HW c2 c1 hr
            go_enter Tryz.func23, Tryz.ntmps23
            go_wp2_with (first | (go_at_call 41; (with_reducible refine Calls.mono (S0 _) ?_); rintro e w' ⟨rfl, rfl⟩) | (go_at_call 41; (with_reducible refine Calls.mono (S1 _) ?_); rintro e w' ⟨rfl, rfl⟩) | (go_at_call 17; (with_reducible refine Calls.mono (C1 _) ?_); rintro e w' ⟨rfl, rfl⟩) | (go_at_call 16; (with_reducible refine Calls.mono (C2 _) ?_); rintro e w' ⟨rfl, rfl⟩) | (go_at_call 42; (with_reducible refine Calls.mono (RS _) ?_); rintro e w' ⟨rfl, rfl⟩))
            refine bodyPost_ret (v := .agg #[.int .i64 3, .string (s.extract k L), .int .i64 0, .int .i64 k, .int .i64 L, .int .i64 0]) (by simp [results, Tryz.results23, go_sem, *]) rfl ?_
            exact ⟨rfl, below2 _ _ _⟩
        · have HW : Hid (U = (E, 2)) := by show U = _; rw [HV.out, if_neg c2, if_neg (fun h => c1 h.1)]
          rw [HW.out]
          rw [decide_eq_false c1] at C2
          generalize isRes (s.extract (E + 1) L).toList = r at RS
          clear HV HW c2 c1
          go_enter Tryz.func23, Tryz.ntmps23
          go_wp2_with (first | (go_at_call 41; (with_reducible refine Calls.mono (S0 _) ?_); rintro e w' ⟨rfl, rfl⟩) | (go_at_call 41; (with_reducible refine Calls.mono (S1 _) ?_); rintro e w' ⟨rfl, rfl⟩) | (go_at_call 17; (with_reducible refine Calls.mono (C1 _) ?_); rintro e w' ⟨rfl, rfl⟩) | (go_at_call 16; (with_reducible refine Calls.mono (C2 _) ?_); rintro e w' ⟨rfl, rfl⟩) | (go_at_call 42; (with_reducible refine Calls.mono (RS _) ?_); rintro e w' ⟨rfl, rfl⟩))
          refine bodyPost_ret (v := .agg #[.int .i64 2, .string (s.extract k E), .int .i64 0, .int .i64 k, .int .i64 E, .int .i64 0]) (by simp [results, Tryz.results23, go_sem, *]) rfl ?_
          exact ⟨rfl, below2 _ _ _⟩
    · exact plain (by show U = _; rw [HU.out, if_neg (by simp [hin, h46])]) (Or.inr ⟨hin, h46⟩)
  · refine plain ?_ (Or.inl hb)
    show U = _
    rw [HU.out, clsAt_out hb]
    simp

theorem cls_five : ∀ c : Fin 256, cls c.1 = 5 ↔ c.1 = 95 := by decide +kernel

set_option maxHeartbeats 4000000 in
set_option maxRecDepth 10000 in
theorem ref_single (s : ByteArray) (k : Nat) (w : World) (hs : s.size ≤ 65536) (hk : k < s.size) : Calls Tryz.prog 28 #[.string s, .int .i64 k] w fun e w' => e = .returned (stepV k (if clsAt s k = 9 ∨ (clsAt s k = 5 ∧ nsB (clsAt s (k + 1)) = false) then .ok (some (9, (rest s k).take 1, 0), 1) else .error 10)) ∧ Below w.heap.size w w' := by
  have SP := fun W => ref_special s[k].toNat W s[k].toNat_lt
  have SN : ∀ (c : UInt8) W, Calls Tryz.prog 45 #[.int .u8 c.toNat] W fun e w' => e = .returned (.bool (nsB (cls c.toNat))) ∧ w' = W := fun c W => ref_sign c.toNat W c.toNat_lt
  have FT := ref_fault 10
  have c5 := cls_five ⟨s[k].toNat, s[k].toNat_lt⟩
  have HG : Hid (stepV k (.ok (some (9, (rest s k).take 1, 0), 1)) = .agg #[.int .i64 9, .string (s.extract k (k + 1)), .int .i64 0, .int .i64 k, .int .i64 (k + 1), .int .i64 0]) := by
    show Value.agg _ = _
    rw [extract_rest]
    rfl
  rw [clsAt_in hk]
  by_cases h95 : s[k].toNat = 95
  · have h5 : cls s[k].toNat = 5 := c5.2 h95
    have e95 : (s[k].toNat : Int) = 95 := by omega
    rw [decide_eq_false (by omega : ¬ cls s[k].toNat = 9)] at SP
    have SP' : ∀ W, Calls Tryz.prog 49 #[.int .u8 95] W fun e w' => e = .returned (.bool false) ∧ w' = W := fun W => by have := SP W; rw [e95] at this; exact this
    by_cases hb : k + 1 < s.size
    · have S1 := fun W => SN s[k + 1] W
      have hb' : (k : Int) + 1 < s.size := by omega
      rw [clsAt_in hb]
      cases hn : nsB (cls s[k + 1].toNat) with
      | true =>
        rw [if_neg (by rintro (h | h) <;> simp_all)]
        rw [hn] at S1
        show Calls _ _ _ _ fun e w' => e = .returned (.agg #[.int .i64 0, .string ⟨#[]⟩, .int .i64 0, .int .i64 0, .int .i64 0, .int .i64 10]) ∧ _
        clear hn h5 c5 HG SN SP h95
        go_enter Tryz.func28, Tryz.ntmps28
        go_wp2_with (first | (go_at_call 49; (with_reducible refine Calls.mono (SP' _) ?_); rintro e w' ⟨rfl, rfl⟩) | (go_at_call 45; (with_reducible refine Calls.mono (S1 _) ?_); rintro e w' ⟨rfl, rfl⟩) | (go_at_call 40; (with_reducible refine Calls.mono (FT _) ?_); rintro e w' ⟨rfl, rfl⟩))
        refine bodyPost_ret (v := .agg #[.int .i64 0, .string ⟨#[]⟩, .int .i64 0, .int .i64 0, .int .i64 0, .int .i64 10]) (by simp [results, Tryz.results28, go_sem, *]) rfl ?_
        exact ⟨rfl, below2 _ _ _⟩
      | false =>
        rw [if_pos (Or.inr ⟨h5, by rfl⟩), HG.out]
        rw [hn] at S1
        clear hn h5 c5 HG SN SP h95
        go_enter Tryz.func28, Tryz.ntmps28
        go_wp2_with (first | (go_at_call 49; (with_reducible refine Calls.mono (SP' _) ?_); rintro e w' ⟨rfl, rfl⟩) | (go_at_call 45; (with_reducible refine Calls.mono (S1 _) ?_); rintro e w' ⟨rfl, rfl⟩) | (go_at_call 40; (with_reducible refine Calls.mono (FT _) ?_); rintro e w' ⟨rfl, rfl⟩))
        refine bodyPost_ret (v := .agg #[.int .i64 9, .string (s.extract k (k + 1)), .int .i64 0, .int .i64 k, .int .i64 (k + 1), .int .i64 0]) (by simp [results, Tryz.results28, go_sem, *]) rfl ?_
        exact ⟨rfl, below1 _ _⟩
    · have hb' : ¬ (k : Int) + 1 < s.size := by omega
      rw [if_pos (Or.inr ⟨h5, by rw [clsAt_out hb]; rfl⟩), HG.out]
      clear h5 c5 HG SN SP h95
      go_enter Tryz.func28, Tryz.ntmps28
      go_wp2_with (first | (go_at_call 49; (with_reducible refine Calls.mono (SP' _) ?_); rintro e w' ⟨rfl, rfl⟩) | (go_at_call 40; (with_reducible refine Calls.mono (FT _) ?_); rintro e w' ⟨rfl, rfl⟩))
      refine bodyPost_ret (v := .agg #[.int .i64 9, .string (s.extract k (k + 1)), .int .i64 0, .int .i64 k, .int .i64 (k + 1), .int .i64 0]) (by simp [results, Tryz.results28, go_sem, *]) rfl ?_
      exact ⟨rfl, below1 _ _⟩
  · have h5 : ¬ cls s[k].toNat = 5 := fun h => h95 (c5.1 h)
    have e95 : ((s[k].toNat : Int) == 95) = false := by simp; omega
    by_cases h9 : cls s[k].toNat = 9
    · rw [if_pos (Or.inl h9), HG.out]
      rw [decide_eq_true h9] at SP
      clear h5 c5 HG SN h95 h9
      go_enter Tryz.func28, Tryz.ntmps28
      go_wp2_with (first | (go_at_call 49; (with_reducible refine Calls.mono (SP _) ?_); rintro e w' ⟨rfl, rfl⟩) | (go_at_call 40; (with_reducible refine Calls.mono (FT _) ?_); rintro e w' ⟨rfl, rfl⟩))
      refine bodyPost_ret (v := .agg #[.int .i64 9, .string (s.extract k (k + 1)), .int .i64 0, .int .i64 k, .int .i64 (k + 1), .int .i64 0]) (by simp [results, Tryz.results28, go_sem, *]) rfl ?_
      exact ⟨rfl, below1 _ _⟩
    · rw [if_neg (by rintro (h | h); exact h9 h; exact h5 h.1)]
      rw [decide_eq_false h9] at SP
      show Calls _ _ _ _ fun e w' => e = .returned (.agg #[.int .i64 0, .string ⟨#[]⟩, .int .i64 0, .int .i64 0, .int .i64 0, .int .i64 10]) ∧ _
      clear h5 c5 HG SN h95 h9
      go_enter Tryz.func28, Tryz.ntmps28
      go_wp2_with (first | (go_at_call 49; (with_reducible refine Calls.mono (SP _) ?_); rintro e w' ⟨rfl, rfl⟩) | (go_at_call 40; (with_reducible refine Calls.mono (FT _) ?_); rintro e w' ⟨rfl, rfl⟩))
      refine bodyPost_ret (v := .agg #[.int .i64 0, .string ⟨#[]⟩, .int .i64 0, .int .i64 0, .int .i64 0, .int .i64 10]) (by simp [results, Tryz.results28, go_sem, *]) rfl ?_
      exact ⟨rfl, below2 _ _ _⟩
end Go.Proofs.YtkfhdmkdkphmoaaGreatDoor

namespace Go.Proofs.YtkfhdmkdkphmoaaGreatDoor
open Go.RowKit

theorem kind_split (l : List UInt8) (hd : dashB l = false) (h0 : l ≠ []) : (kindI l = -1 ∧ runKindP l = 0) ∨ (kindI l = runKindP l ∧ ¬ runKindP l = 0) := by
  unfold kindI runKindP
  rw [hd]
  simp only [Bool.false_eq_true, if_false]
  split
  · right; exact ⟨rfl, by decide⟩
  · cases l with
    | nil => exact absurd rfl h0
    | cons c r =>
      cases r with
      | nil =>
        right
        by_cases hc : c = 58
        · subst hc; simp
        · simp
      | cons d r' =>
        by_cases hc : c = 58
        · subst hc; left; simp
        · right; simp [hc]

/-- Where the next line's end stands, told from a place on. -/
def lineP (s : ByteArray) (p : Nat) : Nat := p + (rest s p).idxOf 10
theorem lineP_step {s : ByteArray} {p : Nat} (h : p < s.size) (h10 : ¬ s[p].toNat = 10) : lineP s p = lineP s (p + 1) := by
  unfold lineP
  rw [rest_in h, List.idxOf_cons]
  have : (s[p] == 10) = false := by
    rw [beq_eq_false_iff_ne]
    intro h
    apply h10
    rw [h]
    rfl
  rw [this]
  simp
  omega
theorem lineP_stop {s : ByteArray} {p : Nat} (h : p < s.size) (h10 : s[p].toNat = 10) : lineP s p = p := by
  unfold lineP
  rw [rest_in h, List.idxOf_cons, show s[p] = 10 from u8eq h10]
  rfl
theorem lineP_out {s : ByteArray} {p : Nat} (h : ¬ p < s.size) : lineP s p = p := by
  unfold lineP
  rw [rest_out h]
  rfl
theorem lineP_run (s : ByteArray) (k : Nat) : lineP s (endOf (· == 8) s k) = lineP s k := by
  have all : ∀ m k, s.size - k = m → lineP s (endOf (· == 8) s k) = lineP s k := by
    intro m
    induction m with
    | zero =>
      intro k hm
      rw [endOf_stop (by rw [clsAt_out (by omega)]; rfl)]
    | succ m ih =>
      intro k hm
      have h : k < s.size := by omega
      cases h8 : (clsAt s k == 8) with
      | true =>
        rw [endOf_step h h8, ih (k + 1) (by omega)]
        refine (lineP_step h ?_).symm
        intro h10
        rw [clsAt_in h, h10] at h8
        exact absurd h8 (by decide)
      | false => rw [endOf_stop h8]
  exact all _ k rfl

set_option maxHeartbeats 4000000 in
set_option maxRecDepth 10000 in
theorem ref_signsOf (s : ByteArray) (k : Nat) (w : World) (hs : s.size ≤ 65536) (hk : k < s.size) (h8 : clsAt s k = 8) : Calls Tryz.prog 27 #[.string s, .int .i64 k] w fun e w' => e = .returned (stepV k (if dashB ((rest s k).take (runLen (rest s k))) = true then .ok (none, (rest s k).idxOf 10) else if runKindP ((rest s k).take (runLen (rest s k))) = 0 then .error 14 else .ok (some (runKindP ((rest s k).take (runLen (rest s k))), (rest s k).take (runLen (rest s k)), 0), runLen (rest s k)))) ∧ Below w.heap.size w w' := by
  obtain ⟨E, hE⟩ : ∃ E, E = k + runLen (rest s k) := ⟨_, rfl⟩
  have hend : endOf (· == 8) s k = E := by rw [hE]; exact endOf_span (· == 8) s k rfl
  have hle := endOf_le (· == 8) s k (by omega)
  have hpos : k + 1 ≤ E := by
    rw [← hend, endOf_step hk (by rw [h8]; rfl)]
    exact (endOf_le (· == 8) s (k + 1) (by omega)).1
  have hline := lineP_run s k
  rw [hend] at hle hline
  have RN : ∀ W, Calls Tryz.prog 47 #[.string s, .int .i64 k] W fun e w' => e = .returned (.int .i64 E) ∧ w' = W := fun W => by
    have := ref_run s k W (by unfold maxLen; omega) (by omega)
    rw [hend] at this
    exact this
  have hx := extract_rest s k (runLen (rest s k))
  rw [← hE] at hx
  have hxl : (s.extract k E).data.toList = (rest s k).take (runLen (rest s k)) := by rw [hx]
  have hxs : (s.extract k E).size = E - k := by rw [ByteArray.size_extract]; omega
  have KO := fun W => ref_kindOf (s.extract k E) W (by rw [hxs]; unfold maxLen; omega) (by omega)
  rw [hxl] at KO
  have hne : (rest s k).take (runLen (rest s k)) ≠ [] := by
    intro h
    have := congrArg List.length hxl
    rw [h] at this
    simp at this
    omega
  have FT := ref_fault 14
  have NT := fun n => ref_nothing n
  have HL : Hid (stepV k (.ok (none, (rest s k).idxOf 10)) = .agg #[.int .i64 0, .string ⟨#[]⟩, .int .i64 0, .int .i64 0, .int .i64 (lineP s k), .int .i64 0]) := rfl
  have HT : Hid (stepV k (.ok (some (runKindP ((rest s k).take (runLen (rest s k))), (rest s k).take (runLen (rest s k)), 0), runLen (rest s k))) = .agg #[.int .i64 (runKindP ((rest s k).take (runLen (rest s k)))), .string (s.extract k E), .int .i64 0, .int .i64 k, .int .i64 E, .int .i64 0]) := by
    show Value.agg _ = _
    rw [hx, hE]
    rfl
  obtain ⟨h1, h2⟩ := hle
  cases hd : dashB ((rest s k).take (runLen (rest s k))) with
  | true =>
    rw [if_pos rfl, HL.out, ← hline]
    have hk0 : kindI ((rest s k).take (runLen (rest s k))) = 0 := by unfold kindI; rw [hd]; rfl
    rw [hk0] at KO
    generalize hR : lineP s E = R
    have HR : Hid (lineP s E = R) := hR
    clear hR hk0 hd HT HL hne hxl hx hline hend hE hxs hpos
    go_enter Tryz.func27, Tryz.ntmps27
    go_wp2_with (first | (go_at_call 47; (with_reducible refine Calls.mono (RN _) ?_); rintro e w' ⟨rfl, rfl⟩) | (go_at_call 48; (with_reducible refine Calls.mono (KO _) ?_); rintro e w' ⟨rfl, rfl⟩))
    go_loopw [5] (fun i wr => ∃ p : Nat, E ≤ p ∧ p ≤ s.size ∧ i = .int .i64 p ∧ wr = w.alloc (.cells #[.int .i64 0, .string ⟨#[]⟩, .int .i64 0, .int .i64 0, .int .i64 0, .int .i64 0] 43) ∧ Hid (lineP s p = R)) (fun i _ => s.size - (intOf i).toNat)
    case atStart => exact ⟨E, by omega, h2, rfl, rfl, HR⟩
    case round =>
      obtain ⟨p, hp1, hp2, rfl, rfl, HP⟩ := hrel
      by_cases hlt : p < s.size
      · by_cases h10 : s[p].toNat = 10
        · have HQ : Hid (R = p) := by show R = p; rw [← HP.out, lineP_stop hlt h10]
          have e10 : (s[p].toNat : Int) = 10 := by omega
          have N1 := NT p
          clear HP HR h10
          go_wp2_with (go_at_call 20; (with_reducible refine Calls.mono (N1 _) ?_); rintro e w' ⟨rfl, rfl⟩)
          refine bodyPost_ret (v := .agg #[.int .i64 0, .string ⟨#[]⟩, .int .i64 0, .int .i64 0, .int .i64 p, .int .i64 0]) (by simp [results, Tryz.results27, go_sem, *]) rfl ?_
          exact ⟨by rw [HQ.out], below2 _ _ _⟩
        · have HQ : Hid (lineP s (p + 1) = R) := by show lineP s (p + 1) = R; rw [← HP.out, lineP_step hlt h10]
          have e10 : ((s[p].toNat : Int) != 10) = true := by simp; omega
          clear HP HR h10
          go_wp2_with fail
          go_roundw
          case rel => exact ⟨p + 1, by omega, by omega, by go_num, by first | rfl | trivial, HQ⟩
          case measure => simp [intOf]; omega
      · have HQ : Hid (R = p) := by show R = p; rw [← HP.out, lineP_out hlt]
        have N1 := NT p
        clear HP HR
        go_wp2_with (go_at_call 20; (with_reducible refine Calls.mono (N1 _) ?_); rintro e w' ⟨rfl, rfl⟩)
        refine bodyPost_ret (v := .agg #[.int .i64 0, .string ⟨#[]⟩, .int .i64 0, .int .i64 0, .int .i64 p, .int .i64 0]) (by simp [results, Tryz.results27, go_sem, *]) rfl ?_
        exact ⟨by rw [HQ.out], below2 _ _ _⟩
  | false =>
    rw [if_neg (by simp)]
    rcases kind_split _ hd hne with ⟨g1, g2⟩ | ⟨g1, g2⟩
    · rw [if_pos g2]
      rw [g1] at KO
      show Calls _ _ _ _ fun e w' => e = .returned (.agg #[.int .i64 0, .string ⟨#[]⟩, .int .i64 0, .int .i64 0, .int .i64 0, .int .i64 14]) ∧ _
      clear g1 g2 hd HT HL hne hxl hx hline hend hE hxs hpos NT
      go_enter Tryz.func27, Tryz.ntmps27
      go_wp2_with (first | (go_at_call 47; (with_reducible refine Calls.mono (RN _) ?_); rintro e w' ⟨rfl, rfl⟩) | (go_at_call 48; (with_reducible refine Calls.mono (KO _) ?_); rintro e w' ⟨rfl, rfl⟩) | (go_at_call 40; (with_reducible refine Calls.mono (FT _) ?_); rintro e w' ⟨rfl, rfl⟩))
      refine bodyPost_ret (v := .agg #[.int .i64 0, .string ⟨#[]⟩, .int .i64 0, .int .i64 0, .int .i64 0, .int .i64 14]) (by simp [results, Tryz.results27, go_sem, *]) rfl ?_
      exact ⟨rfl, below2 _ _ _⟩
    · rw [if_neg g2, HT.out]
      rw [g1] at KO
      generalize runKindP ((rest s k).take (runLen (rest s k))) = R at KO g2
      have g3 : ¬ (R : Int) < 0 := by omega
      have g4 : ((R : Int) == 0) = false := by simp; omega
      clear g1 g2 hd HT HL hne hxl hx hline hend hE hxs hpos NT
      go_enter Tryz.func27, Tryz.ntmps27
      go_wp2_with (first | (go_at_call 47; (with_reducible refine Calls.mono (RN _) ?_); rintro e w' ⟨rfl, rfl⟩) | (go_at_call 48; (with_reducible refine Calls.mono (KO _) ?_); rintro e w' ⟨rfl, rfl⟩) | (go_at_call 40; (with_reducible refine Calls.mono (FT _) ?_); rintro e w' ⟨rfl, rfl⟩))
      refine bodyPost_ret (v := .agg #[.int .i64 R, .string (s.extract k E), .int .i64 0, .int .i64 k, .int .i64 E, .int .i64 0]) (by simp [results, Tryz.results27, go_sem, *]) rfl ?_
      exact ⟨rfl, below1 _ _⟩

set_option maxHeartbeats 4000000 in
set_option maxRecDepth 10000 in
theorem ref_comment (s : ByteArray) (k : Nat) (w : World) (hs : s.size ≤ 65536) (hk : k + 1 < s.size) (hc0 : s[k].toNat = 123) (hc1 : s[k + 1].toNat = 45) : Calls Tryz.prog 21 #[.string s, .int .i64 k] w fun e w' => e = .returned (stepV k (match blockL (rest s k) 0 with | none => .error 13 | some n => .ok (none, n))) ∧ Below w.heap.size w w' := by
  generalize hV : stepV k (match blockL (rest s k) 0 with | none => .error 13 | some n => .ok (none, n)) = V
  have H1 : Hid (blockR s k 0 = -1 → V = .agg #[.int .i64 0, .string ⟨#[]⟩, .int .i64 0, .int .i64 0, .int .i64 0, .int .i64 13]) := by
    intro h
    rw [← hV]
    unfold blockR at h
    unfold rest
    cases hb : blockL (s.data.toList.drop k) 0 with
    | none => rfl
    | some n => rw [hb] at h; simp only [] at h; omega
  have H2 : Hid (∀ m : Nat, blockR s k 0 = m → V = .agg #[.int .i64 0, .string ⟨#[]⟩, .int .i64 0, .int .i64 0, .int .i64 m, .int .i64 0]) := by
    intro m h
    rw [← hV]
    unfold blockR at h
    unfold rest
    cases hb : blockL (s.data.toList.drop k) 0 with
    | none => rw [hb] at h; simp only [] at h; omega
    | some n =>
      rw [hb] at h
      simp only [] at h
      have e : k + n = m := by omega
      subst e
      rfl
  generalize hR : blockR s k 0 = R at H1 H2
  have HR : Hid (blockR s k 0 = R) := hR
  have FT := ref_fault 13
  have NT := fun n => ref_nothing n
  clear hV hR
  go_enter Tryz.func21, Tryz.ntmps21
  go_wp2_with fail
  go_loopw [1, 5] (fun iv dv wr => ∃ p o : Nat, p ≤ s.size ∧ o ≤ p ∧ iv = .int .i64 p ∧ dv = .int .i64 o ∧ wr = w.alloc (.cells #[.int .i64 0, .string ⟨#[]⟩, .int .i64 0, .int .i64 0, .int .i64 0, .int .i64 0] 43) ∧ Hid (blockR s p o = R) ∧ Hid (o = 0 → ∃ h : p + 1 < s.size, s[p].toNat = 123 ∧ s[p + 1].toNat = 45)) (fun iv _ _ => s.size - (intOf iv).toNat)
  case atStart => exact ⟨k, 0, by omega, by omega, rfl, rfl, rfl, HR, fun _ => ⟨hk, hc0, hc1⟩⟩
  case round =>
    obtain ⟨p, o, hp, ho, rfl, rfl, rfl, HP, HO⟩ := hrel
    by_cases hin : p + 1 < s.size
    · have hpe := pair_eq s p (by omega)
      have hin' : (p : Int) + 1 < s.size := by omega
      have eqb : ∀ (x y : UInt8), ((s.extract p (p + 2)).toList == [x, y]) = (decide (s[p].toNat = x.toNat) && decide (s[p + 1].toNat = y.toNat)) := fun x y => by
        rw [hpe, Bool.eq_iff_iff]
        simp [← UInt8.toNat_inj]
      by_cases hop : s[p].toNat = 123 ∧ s[p + 1].toNat = 45
      · have HN : Hid (blockR s (p + 2) (o + 1) = R) := by
          show blockR s (p + 2) (o + 1) = R
          rw [← HP.out, blockR_open s p o (by omega) (by rw [eqb]; simp [hop])]
        have e1 : (s[p].toNat : Int) = 123 := by omega
        have e2 : (s[p + 1].toNat : Int) = 45 := by omega
        clear HP HO hop eqb hpe HR H1 H2
        go_wp2_with fail
        go_roundw
        case rel => exact ⟨p + 2, o + 1, by omega, by omega, by go_num, by go_num, by first | rfl | trivial, HN, fun h => by omega⟩
        case measure => simp [intOf]; omega
      · have hno : ((s.extract p (p + 2)).toList == [123, 45]) = false := by
          rw [eqb]
          simp
          exact fun h1 h2 => hop ⟨h1, h2⟩
        have ho1 : 1 ≤ o := by
          rcases Nat.eq_zero_or_pos o with h | h
          · obtain ⟨_, g1, g2⟩ := HO.out h
            exact absurd ⟨g1, g2⟩ hop
          · exact h
        by_cases hsh : s[p].toNat = 45 ∧ s[p + 1].toNat = 125
        · have HB := blockR_shut s p o (by omega) (by rw [eqb]; simp [hsh])
          rw [HP.out] at HB
          have e1 : (s[p].toNat : Int) = 45 := by omega
          have e2 : (s[p + 1].toNat : Int) = 125 := by omega
          by_cases ho2 : o ≤ 1
          · have o1 : o = 1 := by omega
            rw [if_pos ho2] at HB
            have HV : Hid (V = .agg #[.int .i64 0, .string ⟨#[]⟩, .int .i64 0, .int .i64 0, .int .i64 ((p + 2 : Nat) : Int), .int .i64 0]) := H2.out (p + 2) HB
            have N1 := NT ((p : Int) + 2)
            subst o1
            clear HP HO hop eqb hpe HR H1 H2 HB hno hsh
            go_wp2_with (go_at_call 20; (with_reducible refine Calls.mono (N1 _) ?_); rintro e w' ⟨rfl, rfl⟩)
            refine bodyPost_ret (v := .agg #[.int .i64 0, .string ⟨#[]⟩, .int .i64 0, .int .i64 0, .int .i64 (p + 2), .int .i64 0]) (by simp [results, Tryz.results21, go_sem, *]) rfl ?_
            exact ⟨by rw [HV.out]; rfl, below2 _ _ _⟩
          · rw [if_neg ho2] at HB
            have HN : Hid (blockR s (p + 2) (o - 1) = R) := HB.symm
            have o2 : (2 : Int) ≤ o := by omega
            have o3 : ((o : Int) - 1 == 0) = false := by simp; omega
            clear HP HO hop eqb hpe HR H1 H2 HB hno hsh
            go_wp2_with fail
            go_roundw
            case rel => exact ⟨p + 2, o - 1, by omega, by omega, by go_num, by go_num, by first | rfl | trivial, HN, fun h => by omega⟩
            case measure => simp [intOf]; omega
        · have hns : ((s.extract p (p + 2)).toList == [45, 125]) = false := by
            rw [eqb]
            simp
            exact fun h1 h2 => hsh ⟨h1, h2⟩
          have HN : Hid (blockR s (p + 1) o = R) := by
            show blockR s (p + 1) o = R
            rw [← HP.out, blockR_step s p o (by omega) hno hns]
          by_cases a1 : s[p].toNat = 123
          · have e1 : (s[p].toNat : Int) = 123 := by omega
            have e2 : ((s[p + 1].toNat : Int) == 45) = false := by
              have : ¬ s[p + 1].toNat = 45 := fun h => hop ⟨a1, h⟩
              simp; omega
            clear HP HO hop eqb hpe HR H1 H2 hno hsh hns a1
            go_wp2_with fail
            go_roundw
            case rel => exact ⟨p + 1, o, by omega, by omega, by go_num, by go_num, by first | rfl | trivial, HN, fun h => by omega⟩
            case measure => simp [intOf]; omega
          · have e0 : ((s[p].toNat : Int) == 123) = false := by simp; omega
            by_cases a2 : s[p].toNat = 45
            · have e1 : ((s[p].toNat : Int) == 45) = true := by simp; omega
              have e2 : ((s[p + 1].toNat : Int) == 125) = false := by
                have : ¬ s[p + 1].toNat = 125 := fun h => hsh ⟨a2, h⟩
                simp; omega
              clear HP HO hop eqb hpe HR H1 H2 hno hsh hns a1 a2
              go_wp2_with fail
              go_roundw
              case rel => exact ⟨p + 1, o, by omega, by omega, by go_num, by go_num, by first | rfl | trivial, HN, fun h => by omega⟩
              case measure => simp [intOf]; omega
            · have e1 : ((s[p].toNat : Int) == 45) = false := by simp; omega
              clear HP HO hop eqb hpe HR H1 H2 hno hsh hns a1 a2
              go_wp2_with fail
              go_roundw
              case rel => exact ⟨p + 1, o, by omega, by omega, by go_num, by go_num, by first | rfl | trivial, HN, fun h => by omega⟩
              case measure => simp [intOf]; omega
    · have HV : Hid (V = .agg #[.int .i64 0, .string ⟨#[]⟩, .int .i64 0, .int .i64 0, .int .i64 0, .int .i64 13]) := H1.out (by rw [← HP.out]; exact blockR_out s p o (by omega))
      have hin' : ¬ (p : Int) + 1 < s.size := by omega
      clear HP HO HR H1 H2
      go_wp2_with (go_at_call 40; (with_reducible refine Calls.mono (FT _) ?_); rintro e w' ⟨rfl, rfl⟩)
      refine bodyPost_ret (v := .agg #[.int .i64 0, .string ⟨#[]⟩, .int .i64 0, .int .i64 0, .int .i64 0, .int .i64 13]) (by simp [results, Tryz.results21, go_sem, *]) rfl ?_
      exact ⟨by rw [HV.out], below2 _ _ _⟩
end Go.Proofs.YtkfhdmkdkphmoaaGreatDoor
