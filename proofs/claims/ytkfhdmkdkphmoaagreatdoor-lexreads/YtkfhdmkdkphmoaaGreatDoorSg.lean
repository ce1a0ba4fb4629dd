/- The reference's number: its contract. -/
import Derived.Test.YtkfhdmkdkphmoaaGreatDoorSA
import Derived.Test.YtkfhdmkdkphmoaaGreatDoorW6
namespace Go.Proofs.YtkfhdmkdkphmoaaGreatDoor
open Go.RowKit

theorem dig_ten : ∀ c : Fin 256, digOf c.1 < 10 ↔ cls c.1 = 3 := by decide +kernel
theorem hex_head (s : ByteArray) (k : Nat) : hexB (rest s k) = true ↔ ∃ h : k + 2 < s.size, s[k].toNat = 48 ∧ s[k + 1].toNat = 120 ∧ digOf s[k + 2].toNat < 16 := by
  unfold hexB
  rw [rest_drop]
  by_cases h : k + 2 < s.size
  · rw [rest_in (by omega : k < s.size), rest_in (by omega : k + 1 < s.size), rest_in h]
    have e : ([48, 120].isPrefixOf (s[k] :: s[k + 1] :: s[k + 2] :: rest s (k + 2 + 1)) && decide (digL (s[k + 2] :: rest s (k + 2 + 1)) < 16)) = ((48 == s[k] && (120 == s[k + 1] && true)) && decide (digOf s[k + 2].toNat < 16)) := rfl
    have e1 : s[k].toNat = 48 ↔ (48 : UInt8) = s[k] := ⟨fun h => (u8eq h).symm, fun h => by rw [← h]; rfl⟩
    have e2 : s[k + 1].toNat = 120 ↔ (120 : UInt8) = s[k + 1] := ⟨fun h => (u8eq h).symm, fun h => by rw [← h]; rfl⟩
    rw [e]
    constructor
    · intro hh
      simp only [Bool.and_eq_true, beq_iff_eq, decide_eq_true_eq, and_true, and_assoc] at hh
      exact ⟨h, e1.2 hh.1, e2.2 hh.2.1, hh.2.2⟩
    · rintro ⟨_, x, y, z⟩
      simp only [Bool.and_eq_true, beq_iff_eq, decide_eq_true_eq, and_true, and_assoc]
      exact ⟨e1.1 x, e2.1 y, z⟩
  · rw [rest_out h]
    simp [digL, h]
theorem head48 {s : ByteArray} {k : Nat} (h : k < s.size) : (rest s k).head? = some 48 ↔ s[k].toNat = 48 := by
  rw [rest_in h]
  simp [← UInt8.toNat_inj]

set_option maxHeartbeats 8000000 in
set_option maxRecDepth 10000 in
theorem ref_number_dec (s : ByteArray) (k : Nat) (w : World) (hs : s.size ≤ 65536) (hk : k < s.size) (hx : hexB (rest s k) = false) : Calls Tryz.prog 24 #[.string s, .int .i64 k] w fun e w' => e = .returned (tokV k 6 [] 11 (numL (rest s k))) ∧ Below w.heap.size w w' := by
  have SD : ∀ (c : UInt8) W, Calls Tryz.prog 18 #[.int .u8 c.toNat] W fun e w' => e = .returned (.bool (decide (cls c.toNat = 3))) ∧ w' = W := fun c W => ref_digit c.toNat W c.toNat_lt
  have SX : ∀ (c : UInt8) W, Calls Tryz.prog 43 #[.int .u8 c.toNat] W fun e w' => e = .returned (.bool (decide (digOf c.toNat < 16))) ∧ w' = W := fun c W => ref_hex c.toNat W c.toNat_lt
  have SN : ∀ (c : UInt8) W, Calls Tryz.prog 45 #[.int .u8 c.toNat] W fun e w' => e = .returned (.bool (nsB (cls c.toNat))) ∧ w' = W := fun c W => ref_sign c.toNat W c.toNat_lt
  have SW : ∀ (c : UInt8) W, digOf c.toNat < 16 → Calls Tryz.prog 44 #[.int .u8 c.toNat] W fun e w' => e = .returned (.int .i64 (digOf c.toNat)) ∧ w' = W := fun c W h => ref_worth c.toNat W c.toNat_lt h
  have FT := ref_fault 11
  have HH := hex_head s k
  have HHd : Hid ((rest s k).head? = some 48 ↔ s[k].toNat = 48) := head48 hk
  have HX : Hid (hexB (rest s k) = false) := hx
  have hor : (¬ k + 2 < s.size ∧ s[k].toNat = 48) ∨ (¬ k + 2 < s.size ∧ ¬ s[k].toNat = 48) ∨ (k + 2 < s.size ∧ ¬ s[k].toNat = 48) ∨ (∃ h : k + 2 < s.size, s[k].toNat = 48 ∧ ¬ s[k + 1].toNat = 120) ∨ (∃ h : k + 2 < s.size, s[k].toNat = 48 ∧ s[k + 1].toNat = 120 ∧ ¬ digOf s[k + 2].toNat < 16) := by
    by_cases h2 : k + 2 < s.size
    · by_cases h48 : s[k].toNat = 48
      · by_cases h120 : s[k + 1].toNat = 120
        · refine Or.inr (Or.inr (Or.inr (Or.inr ⟨h2, h48, h120, fun h => ?_⟩)))
          rw [HH.2 ⟨h2, h48, h120, h⟩] at hx
          cases hx
        · exact Or.inr (Or.inr (Or.inr (Or.inl ⟨h2, h48, h120⟩)))
      · exact Or.inr (Or.inr (Or.inl ⟨h2, h48⟩))
    · by_cases h48 : s[k].toNat = 48
      · exact Or.inl ⟨h2, h48⟩
      · exact Or.inr (Or.inl ⟨h2, h48⟩)
  generalize hR : numL (rest s k) = R
  have HR : Hid (numL (rest s k) = R) := hR
  clear hR hx HH
  rcases hor with ⟨h2, h48⟩ | ⟨h2, h48⟩ | ⟨h2, h48⟩ | ⟨h2, h48, h120⟩ | ⟨h2, h48, h120, h16⟩
  · have e2 : ¬ (k : Int) + 2 < s.size := by omega
    have e48 : ((s[k].toNat : Int) == 48) = true := by simp; omega
    go_enter Tryz.func24, Tryz.ntmps24
    go_wp2_with fail
    go_loopw [8, 9, 10] (fun ev nv gv wr => ∃ (p x : Nat) (g : Bool), k ≤ p ∧ p ≤ s.size ∧ x ≤ 4611686018427387903 ∧ ev = .int .i64 p ∧ nv = .int .i64 x ∧ gv = .bool g ∧ wr = w.alloc (.cells #[.int .i64 0, .string ⟨#[]⟩, .int .i64 0, .int .i64 0, .int .i64 0, .int .i64 0] 43) ∧ Hid (if g then numGo 10 (rest s k) 0 = none else numGo 10 (rest s k) 0 = (numGo 10 (rest s p) x).map (fun y => (y.1, y.2 + (p - k))))) (fun ev _ _ _ => s.size - (intOf ev).toNat)
    case atStart => exact ⟨k, 0, false, by omega, by omega, by omega, by go_num, by go_num, rfl, rfl, by
      show numGo 10 (rest s k) 0 = _
      cases numGo 10 (rest s k) 0 <;> simp⟩
    case round =>
      obtain ⟨p, x, g, hp1, hp2, hx62, rfl, rfl, rfl, rfl, HG⟩ := hrel
      have HB : Hid (digL (rest s p) < 10 ∨ Hid (if g = true then R = none else R = if ((rest s k).head? = some 48 ∧ 1 < p - k) ∨ nsB (clsAt s p) = true then none else some (x, p - k))) := by
        by_cases hd : digL (rest s p) < 10
        · exact Or.inl hd
        · right
          show if g = true then R = none else R = _
          rw [← HR.out]
          have hg := HG.out
          cases g with
          | true => exact numL_dec_none HX.out hg
          | false =>
            have hg2 : numGo 10 (rest s k) 0 = some (x, p - k) := by
              rw [if_neg (by simp)] at hg
              rw [hg, numGo_stop (by omega)]
              simp
            rw [if_neg (by simp)]
            exact numL_dec HX.out hp1 hg2
      by_cases hin : p < s.size
      · have D1 := fun W => SD s[p] W
        have X1 := fun W => SX s[p] W
        have N1 := fun W => SN s[p] W
        have hdl : digL (rest s p) = digOf s[p].toNat := by rw [rest_in hin]; rfl
        have hten := dig_ten ⟨s[p].toNat, s[p].toNat_lt⟩
        by_cases hd : digL (rest s p) < 10
        · have hd' : digOf s[p].toNat < 10 := by rw [← hdl]; exact hd
          have W1 := fun W => SW s[p] W (by omega)
          have HN : Hid (if g = true then numGo 10 (rest s k) 0 = none else if (4611686018427387903 - digOf s[p].toNat) / 10 < x then numGo 10 (rest s k) 0 = none else numGo 10 (rest s k) 0 = (numGo 10 (rest s (p + 1)) (x * 10 + digOf s[p].toNat)).map (fun y => (y.1, y.2 + (p + 1 - k)))) := by
            have hg := HG.out
            show if g = true then _ else _
            cases g with
            | true => exact hg
            | false =>
              rw [if_neg (by simp)] at hg ⊢
              rw [← hdl]
              by_cases hbig : (4611686018427387903 - digL (rest s p)) / 10 < x
              · rw [if_pos hbig, hg, numGo_big (by omega) hd hbig]
                rfl
              · rw [if_neg hbig, hg, numGo_step (by omega) hd hbig, map_map_num _ _ _ hp1]
          rw [decide_eq_true (hten.1 hd')] at D1
          rw [decide_eq_true (by omega : digOf s[p].toNat < 16)] at X1
          generalize digOf s[p].toNat = d at HN W1 hd'
          clear HG HB hdl hten hd SD SX SN SW N1
          cases g with
          | true =>
            by_cases hbig : (4611686018427387903 - d) / 10 < x
            · have hb' : (4611686018427387903 - (d : Int)) / 10 < (x : Int) := by omega
              go_wp2_with (first | (go_at_call 18; (with_reducible refine Calls.mono (D1 _) ?_); rintro e w' ⟨rfl, rfl⟩) | (go_at_call 43; (with_reducible refine Calls.mono (X1 _) ?_); rintro e w' ⟨rfl, rfl⟩) | (go_at_call 44; (with_reducible refine Calls.mono (W1 _) ?_); rintro e w' ⟨rfl, rfl⟩))
              go_roundw
              case rel => exact ⟨p + 1, x, true, by omega, by omega, hx62, by go_num, by go_num, rfl, by first | rfl | trivial, by have := HN.out; show if true = true then _ else _; simpa using this⟩
              case measure => simp [intOf]; omega
            · have hb' : ¬ (4611686018427387903 - (d : Int)) / 10 < (x : Int) := by omega
              go_wp2_with (first | (go_at_call 18; (with_reducible refine Calls.mono (D1 _) ?_); rintro e w' ⟨rfl, rfl⟩) | (go_at_call 43; (with_reducible refine Calls.mono (X1 _) ?_); rintro e w' ⟨rfl, rfl⟩) | (go_at_call 44; (with_reducible refine Calls.mono (W1 _) ?_); rintro e w' ⟨rfl, rfl⟩))
              go_roundw
              case rel => exact ⟨p + 1, x, true, by omega, by omega, hx62, by go_num, by go_num, rfl, by first | rfl | trivial, by have := HN.out; show if true = true then _ else _; simpa using this⟩
              case measure => simp [intOf]; omega
          | false =>
            by_cases hbig : (4611686018427387903 - d) / 10 < x
            · have hb' : (4611686018427387903 - (d : Int)) / 10 < (x : Int) := by omega
              go_wp2_with (first | (go_at_call 18; (with_reducible refine Calls.mono (D1 _) ?_); rintro e w' ⟨rfl, rfl⟩) | (go_at_call 43; (with_reducible refine Calls.mono (X1 _) ?_); rintro e w' ⟨rfl, rfl⟩) | (go_at_call 44; (with_reducible refine Calls.mono (W1 _) ?_); rintro e w' ⟨rfl, rfl⟩))
              go_roundw
              case rel => exact ⟨p + 1, x, true, by omega, by omega, hx62, by go_num, by go_num, rfl, by first | rfl | trivial, by have := HN.out; show if true = true then _ else _; simpa [hbig] using this⟩
              case measure => simp [intOf]; omega
            · have hb' : ¬ (4611686018427387903 - (d : Int)) / 10 < (x : Int) := by omega
              have hnb : x * 10 + d ≤ 4611686018427387903 := by omega
              go_wp2_with (first | (go_at_call 18; (with_reducible refine Calls.mono (D1 _) ?_); rintro e w' ⟨rfl, rfl⟩) | (go_at_call 43; (with_reducible refine Calls.mono (X1 _) ?_); rintro e w' ⟨rfl, rfl⟩) | (go_at_call 44; (with_reducible refine Calls.mono (W1 _) ?_); rintro e w' ⟨rfl, rfl⟩))
              go_roundw
              case rel => exact ⟨p + 1, x * 10 + d, false, by omega, by omega, hnb, by go_num, by go_num, rfl, by first | rfl | trivial, by have := HN.out; show if false = true then _ else _; simpa [hbig] using this⟩
              case measure => simp [intOf]; omega
        · have HE := HB.out.resolve_left hd
          rw [decide_eq_false (fun h => hd (by rw [hdl]; exact hten.2 h))] at D1
          generalize decide (digOf s[p].toNat < 16) = xb at X1
          rw [clsAt_in hin] at HE
          clear HG HB hdl hten hd SD SX SN SW
          cases g with
          | true =>
            have HF : Hid (R = none) := by have := HE.out; rw [if_pos rfl] at this; exact this
            clear HE
            generalize nsB (cls s[p].toNat) = nb at N1
            go_wp2_with (first | (go_at_call 18; (with_reducible refine Calls.mono (D1 _) ?_); rintro e w' ⟨rfl, rfl⟩) | (go_at_call 43; (with_reducible refine Calls.mono (X1 _) ?_); rintro e w' ⟨rfl, rfl⟩) | (go_at_call 45; (with_reducible refine Calls.mono (N1 _) ?_); rintro e w' ⟨rfl, rfl⟩) | (go_at_call 40; (with_reducible refine Calls.mono (FT _) ?_); rintro e w' ⟨rfl, rfl⟩))
            refine bodyPost_ret (v := .agg #[.int .i64 0, .string ⟨#[]⟩, .int .i64 0, .int .i64 0, .int .i64 0, .int .i64 11]) (by simp [results, Tryz.results24, go_sem, *]) rfl ?_
            exact ⟨by rw [HF.out]; rfl, below2 _ _ _⟩
          | false =>
            have HE2 : Hid (R = if ((rest s k).head? = some 48 ∧ 1 < p - k) ∨ nsB (cls s[p].toNat) = true then none else some (x, p - k)) := by have := HE.out; rw [if_neg (by simp)] at this; exact this
            clear HE
            cases hns : nsB (cls s[p].toNat) with
            | true =>
              have HF : Hid (R = none) := HE2.out.trans (if_pos (Or.inr hns))
              rw [hns] at N1
              clear HE2
              go_wp2_with (first | (go_at_call 18; (with_reducible refine Calls.mono (D1 _) ?_); rintro e w' ⟨rfl, rfl⟩) | (go_at_call 43; (with_reducible refine Calls.mono (X1 _) ?_); rintro e w' ⟨rfl, rfl⟩) | (go_at_call 45; (with_reducible refine Calls.mono (N1 _) ?_); rintro e w' ⟨rfl, rfl⟩) | (go_at_call 40; (with_reducible refine Calls.mono (FT _) ?_); rintro e w' ⟨rfl, rfl⟩))
              refine bodyPost_ret (v := .agg #[.int .i64 0, .string ⟨#[]⟩, .int .i64 0, .int .i64 0, .int .i64 0, .int .i64 11]) (by simp [results, Tryz.results24, go_sem, *]) rfl ?_
              exact ⟨by rw [HF.out]; rfl, below2 _ _ _⟩
            | false =>
              rw [hns] at N1
              by_cases hgt : k + 1 < p
              · first
                | (exfalso; omega)
                | (have HF : Hid (R = none) := HE2.out.trans (if_pos (Or.inl ⟨HHd.out.2 h48, by omega⟩))
                   have hgt' : (k : Int) + 1 < p := by omega
                   clear HE2
                   go_wp2_with (first | (go_at_call 18; (with_reducible refine Calls.mono (D1 _) ?_); rintro e w' ⟨rfl, rfl⟩) | (go_at_call 43; (with_reducible refine Calls.mono (X1 _) ?_); rintro e w' ⟨rfl, rfl⟩) | (go_at_call 45; (with_reducible refine Calls.mono (N1 _) ?_); rintro e w' ⟨rfl, rfl⟩) | (go_at_call 40; (with_reducible refine Calls.mono (FT _) ?_); rintro e w' ⟨rfl, rfl⟩))
                   refine bodyPost_ret (v := .agg #[.int .i64 0, .string ⟨#[]⟩, .int .i64 0, .int .i64 0, .int .i64 0, .int .i64 11]) (by simp [results, Tryz.results24, go_sem, *]) rfl ?_
                   exact ⟨by rw [HF.out]; rfl, below2 _ _ _⟩)
              · first
                | (exfalso; omega)
                | (have HF : Hid (R = some (x, p - k)) := HE2.out.trans (if_neg (fun h => h.elim (fun h => by omega) (fun h => by rw [hns] at h; cases h)))
                   have hgt' : ¬ (k : Int) + 1 < p := by omega
                   clear HE2
                   go_wp2_with (first | (go_at_call 18; (with_reducible refine Calls.mono (D1 _) ?_); rintro e w' ⟨rfl, rfl⟩) | (go_at_call 43; (with_reducible refine Calls.mono (X1 _) ?_); rintro e w' ⟨rfl, rfl⟩) | (go_at_call 45; (with_reducible refine Calls.mono (N1 _) ?_); rintro e w' ⟨rfl, rfl⟩) | (go_at_call 40; (with_reducible refine Calls.mono (FT _) ?_); rintro e w' ⟨rfl, rfl⟩))
                   refine bodyPost_ret (v := .agg #[.int .i64 6, .string ⟨#[]⟩, .int .i64 x, .int .i64 k, .int .i64 p, .int .i64 0]) (by simp [results, Tryz.results24, go_sem, *]) rfl ?_
                   exact ⟨by rw [HF.out]; show _ = Ending.returned (.agg #[_, _, _, _, .int .i64 ((k + (p - k) : Nat) : Int), _]); rw [show k + (p - k) = p by omega]; rfl, below1 _ _⟩)
      · have hd : ¬ digL (rest s p) < 10 := by rw [rest_out hin]; decide
        have HE := HB.out.resolve_left hd
        rw [clsAt_out hin] at HE
        have hin' : (s.size : Int) ≤ p := by omega
        clear HG HB hd SD SX SN SW
        cases g with
        | true =>
          have HF : Hid (R = none) := by have := HE.out; rw [if_pos rfl] at this; exact this
          clear HE
          go_wp2_with (first | (go_at_call 40; (with_reducible refine Calls.mono (FT _) ?_); rintro e w' ⟨rfl, rfl⟩))
          refine bodyPost_ret (v := .agg #[.int .i64 0, .string ⟨#[]⟩, .int .i64 0, .int .i64 0, .int .i64 0, .int .i64 11]) (by simp [results, Tryz.results24, go_sem, *]) rfl ?_
          exact ⟨by rw [HF.out]; rfl, below2 _ _ _⟩
        | false =>
          have HE2 : Hid (R = if ((rest s k).head? = some 48 ∧ 1 < p - k) ∨ nsB (0) = true then none else some (x, p - k)) := by have := HE.out; rw [if_neg (by simp)] at this; exact this
          clear HE
          by_cases hgt : k + 1 < p
          · first
            | (exfalso; omega)
            | (have HF : Hid (R = none) := HE2.out.trans (if_pos (Or.inl ⟨HHd.out.2 h48, by omega⟩))
               have hgt' : (k : Int) + 1 < p := by omega
               clear HE2
               go_wp2_with (first | (go_at_call 40; (with_reducible refine Calls.mono (FT _) ?_); rintro e w' ⟨rfl, rfl⟩))
               refine bodyPost_ret (v := .agg #[.int .i64 0, .string ⟨#[]⟩, .int .i64 0, .int .i64 0, .int .i64 0, .int .i64 11]) (by simp [results, Tryz.results24, go_sem, *]) rfl ?_
               exact ⟨by rw [HF.out]; rfl, below2 _ _ _⟩)
          · first
            | (exfalso; omega)
            | (have HF : Hid (R = some (x, p - k)) := HE2.out.trans (if_neg (fun h => h.elim (fun h => by omega) (fun h => by cases h)))
               have hgt' : ¬ (k : Int) + 1 < p := by omega
               clear HE2
               go_wp2_with (first | (go_at_call 40; (with_reducible refine Calls.mono (FT _) ?_); rintro e w' ⟨rfl, rfl⟩))
               refine bodyPost_ret (v := .agg #[.int .i64 6, .string ⟨#[]⟩, .int .i64 x, .int .i64 k, .int .i64 p, .int .i64 0]) (by simp [results, Tryz.results24, go_sem, *]) rfl ?_
               exact ⟨by rw [HF.out]; show _ = Ending.returned (.agg #[_, _, _, _, .int .i64 ((k + (p - k) : Nat) : Int), _]); rw [show k + (p - k) = p by omega]; rfl, below1 _ _⟩)
  · have e2 : ¬ (k : Int) + 2 < s.size := by omega
    have e48 : ((s[k].toNat : Int) == 48) = false := by simp; omega
    go_enter Tryz.func24, Tryz.ntmps24
    go_wp2_with fail
    go_loopw [8, 9, 10] (fun ev nv gv wr => ∃ (p x : Nat) (g : Bool), k ≤ p ∧ p ≤ s.size ∧ x ≤ 4611686018427387903 ∧ ev = .int .i64 p ∧ nv = .int .i64 x ∧ gv = .bool g ∧ wr = w.alloc (.cells #[.int .i64 0, .string ⟨#[]⟩, .int .i64 0, .int .i64 0, .int .i64 0, .int .i64 0] 43) ∧ Hid (if g then numGo 10 (rest s k) 0 = none else numGo 10 (rest s k) 0 = (numGo 10 (rest s p) x).map (fun y => (y.1, y.2 + (p - k))))) (fun ev _ _ _ => s.size - (intOf ev).toNat)
    case atStart => exact ⟨k, 0, false, by omega, by omega, by omega, by go_num, by go_num, rfl, rfl, by
      show numGo 10 (rest s k) 0 = _
      cases numGo 10 (rest s k) 0 <;> simp⟩
    case round =>
      obtain ⟨p, x, g, hp1, hp2, hx62, rfl, rfl, rfl, rfl, HG⟩ := hrel
      have HB : Hid (digL (rest s p) < 10 ∨ Hid (if g = true then R = none else R = if ((rest s k).head? = some 48 ∧ 1 < p - k) ∨ nsB (clsAt s p) = true then none else some (x, p - k))) := by
        by_cases hd : digL (rest s p) < 10
        · exact Or.inl hd
        · right
          show if g = true then R = none else R = _
          rw [← HR.out]
          have hg := HG.out
          cases g with
          | true => exact numL_dec_none HX.out hg
          | false =>
            have hg2 : numGo 10 (rest s k) 0 = some (x, p - k) := by
              rw [if_neg (by simp)] at hg
              rw [hg, numGo_stop (by omega)]
              simp
            rw [if_neg (by simp)]
            exact numL_dec HX.out hp1 hg2
      by_cases hin : p < s.size
      · have D1 := fun W => SD s[p] W
        have X1 := fun W => SX s[p] W
        have N1 := fun W => SN s[p] W
        have hdl : digL (rest s p) = digOf s[p].toNat := by rw [rest_in hin]; rfl
        have hten := dig_ten ⟨s[p].toNat, s[p].toNat_lt⟩
        by_cases hd : digL (rest s p) < 10
        · have hd' : digOf s[p].toNat < 10 := by rw [← hdl]; exact hd
          have W1 := fun W => SW s[p] W (by omega)
          have HN : Hid (if g = true then numGo 10 (rest s k) 0 = none else if (4611686018427387903 - digOf s[p].toNat) / 10 < x then numGo 10 (rest s k) 0 = none else numGo 10 (rest s k) 0 = (numGo 10 (rest s (p + 1)) (x * 10 + digOf s[p].toNat)).map (fun y => (y.1, y.2 + (p + 1 - k)))) := by
            have hg := HG.out
            show if g = true then _ else _
            cases g with
            | true => exact hg
            | false =>
              rw [if_neg (by simp)] at hg ⊢
              rw [← hdl]
              by_cases hbig : (4611686018427387903 - digL (rest s p)) / 10 < x
              · rw [if_pos hbig, hg, numGo_big (by omega) hd hbig]
                rfl
              · rw [if_neg hbig, hg, numGo_step (by omega) hd hbig, map_map_num _ _ _ hp1]
          rw [decide_eq_true (hten.1 hd')] at D1
          rw [decide_eq_true (by omega : digOf s[p].toNat < 16)] at X1
          generalize digOf s[p].toNat = d at HN W1 hd'
          clear HG HB hdl hten hd SD SX SN SW N1
          cases g with
          | true =>
            by_cases hbig : (4611686018427387903 - d) / 10 < x
            · have hb' : (4611686018427387903 - (d : Int)) / 10 < (x : Int) := by omega
              go_wp2_with (first | (go_at_call 18; (with_reducible refine Calls.mono (D1 _) ?_); rintro e w' ⟨rfl, rfl⟩) | (go_at_call 43; (with_reducible refine Calls.mono (X1 _) ?_); rintro e w' ⟨rfl, rfl⟩) | (go_at_call 44; (with_reducible refine Calls.mono (W1 _) ?_); rintro e w' ⟨rfl, rfl⟩))
              go_roundw
              case rel => exact ⟨p + 1, x, true, by omega, by omega, hx62, by go_num, by go_num, rfl, by first | rfl | trivial, by have := HN.out; show if true = true then _ else _; simpa using this⟩
              case measure => simp [intOf]; omega
            · have hb' : ¬ (4611686018427387903 - (d : Int)) / 10 < (x : Int) := by omega
              go_wp2_with (first | (go_at_call 18; (with_reducible refine Calls.mono (D1 _) ?_); rintro e w' ⟨rfl, rfl⟩) | (go_at_call 43; (with_reducible refine Calls.mono (X1 _) ?_); rintro e w' ⟨rfl, rfl⟩) | (go_at_call 44; (with_reducible refine Calls.mono (W1 _) ?_); rintro e w' ⟨rfl, rfl⟩))
              go_roundw
              case rel => exact ⟨p + 1, x, true, by omega, by omega, hx62, by go_num, by go_num, rfl, by first | rfl | trivial, by have := HN.out; show if true = true then _ else _; simpa using this⟩
              case measure => simp [intOf]; omega
          | false =>
            by_cases hbig : (4611686018427387903 - d) / 10 < x
            · have hb' : (4611686018427387903 - (d : Int)) / 10 < (x : Int) := by omega
              go_wp2_with (first | (go_at_call 18; (with_reducible refine Calls.mono (D1 _) ?_); rintro e w' ⟨rfl, rfl⟩) | (go_at_call 43; (with_reducible refine Calls.mono (X1 _) ?_); rintro e w' ⟨rfl, rfl⟩) | (go_at_call 44; (with_reducible refine Calls.mono (W1 _) ?_); rintro e w' ⟨rfl, rfl⟩))
              go_roundw
              case rel => exact ⟨p + 1, x, true, by omega, by omega, hx62, by go_num, by go_num, rfl, by first | rfl | trivial, by have := HN.out; show if true = true then _ else _; simpa [hbig] using this⟩
              case measure => simp [intOf]; omega
            · have hb' : ¬ (4611686018427387903 - (d : Int)) / 10 < (x : Int) := by omega
              have hnb : x * 10 + d ≤ 4611686018427387903 := by omega
              go_wp2_with (first | (go_at_call 18; (with_reducible refine Calls.mono (D1 _) ?_); rintro e w' ⟨rfl, rfl⟩) | (go_at_call 43; (with_reducible refine Calls.mono (X1 _) ?_); rintro e w' ⟨rfl, rfl⟩) | (go_at_call 44; (with_reducible refine Calls.mono (W1 _) ?_); rintro e w' ⟨rfl, rfl⟩))
              go_roundw
              case rel => exact ⟨p + 1, x * 10 + d, false, by omega, by omega, hnb, by go_num, by go_num, rfl, by first | rfl | trivial, by have := HN.out; show if false = true then _ else _; simpa [hbig] using this⟩
              case measure => simp [intOf]; omega
        · have HE := HB.out.resolve_left hd
          rw [decide_eq_false (fun h => hd (by rw [hdl]; exact hten.2 h))] at D1
          generalize decide (digOf s[p].toNat < 16) = xb at X1
          rw [clsAt_in hin] at HE
          clear HG HB hdl hten hd SD SX SN SW
          cases g with
          | true =>
            have HF : Hid (R = none) := by have := HE.out; rw [if_pos rfl] at this; exact this
            clear HE
            generalize nsB (cls s[p].toNat) = nb at N1
            go_wp2_with (first | (go_at_call 18; (with_reducible refine Calls.mono (D1 _) ?_); rintro e w' ⟨rfl, rfl⟩) | (go_at_call 43; (with_reducible refine Calls.mono (X1 _) ?_); rintro e w' ⟨rfl, rfl⟩) | (go_at_call 45; (with_reducible refine Calls.mono (N1 _) ?_); rintro e w' ⟨rfl, rfl⟩) | (go_at_call 40; (with_reducible refine Calls.mono (FT _) ?_); rintro e w' ⟨rfl, rfl⟩))
            refine bodyPost_ret (v := .agg #[.int .i64 0, .string ⟨#[]⟩, .int .i64 0, .int .i64 0, .int .i64 0, .int .i64 11]) (by simp [results, Tryz.results24, go_sem, *]) rfl ?_
            exact ⟨by rw [HF.out]; rfl, below2 _ _ _⟩
          | false =>
            have HE2 : Hid (R = if ((rest s k).head? = some 48 ∧ 1 < p - k) ∨ nsB (cls s[p].toNat) = true then none else some (x, p - k)) := by have := HE.out; rw [if_neg (by simp)] at this; exact this
            clear HE
            cases hns : nsB (cls s[p].toNat) with
            | true =>
              have HF : Hid (R = none) := HE2.out.trans (if_pos (Or.inr hns))
              rw [hns] at N1
              clear HE2
              go_wp2_with (first | (go_at_call 18; (with_reducible refine Calls.mono (D1 _) ?_); rintro e w' ⟨rfl, rfl⟩) | (go_at_call 43; (with_reducible refine Calls.mono (X1 _) ?_); rintro e w' ⟨rfl, rfl⟩) | (go_at_call 45; (with_reducible refine Calls.mono (N1 _) ?_); rintro e w' ⟨rfl, rfl⟩) | (go_at_call 40; (with_reducible refine Calls.mono (FT _) ?_); rintro e w' ⟨rfl, rfl⟩))
              refine bodyPost_ret (v := .agg #[.int .i64 0, .string ⟨#[]⟩, .int .i64 0, .int .i64 0, .int .i64 0, .int .i64 11]) (by simp [results, Tryz.results24, go_sem, *]) rfl ?_
              exact ⟨by rw [HF.out]; rfl, below2 _ _ _⟩
            | false =>
              rw [hns] at N1
              have HF : Hid (R = some (x, p - k)) := HE2.out.trans (if_neg (fun h => h.elim (fun h => h48 (HHd.out.1 h.1)) (fun h => by rw [hns] at h; cases h)))
              clear HE2
              go_wp2_with (first | (go_at_call 18; (with_reducible refine Calls.mono (D1 _) ?_); rintro e w' ⟨rfl, rfl⟩) | (go_at_call 43; (with_reducible refine Calls.mono (X1 _) ?_); rintro e w' ⟨rfl, rfl⟩) | (go_at_call 45; (with_reducible refine Calls.mono (N1 _) ?_); rintro e w' ⟨rfl, rfl⟩) | (go_at_call 40; (with_reducible refine Calls.mono (FT _) ?_); rintro e w' ⟨rfl, rfl⟩))
              refine bodyPost_ret (v := .agg #[.int .i64 6, .string ⟨#[]⟩, .int .i64 x, .int .i64 k, .int .i64 p, .int .i64 0]) (by simp [results, Tryz.results24, go_sem, *]) rfl ?_
              exact ⟨by rw [HF.out]; show _ = Ending.returned (.agg #[_, _, _, _, .int .i64 ((k + (p - k) : Nat) : Int), _]); rw [show k + (p - k) = p by omega]; rfl, below1 _ _⟩
      · have hd : ¬ digL (rest s p) < 10 := by rw [rest_out hin]; decide
        have HE := HB.out.resolve_left hd
        rw [clsAt_out hin] at HE
        have hin' : (s.size : Int) ≤ p := by omega
        clear HG HB hd SD SX SN SW
        cases g with
        | true =>
          have HF : Hid (R = none) := by have := HE.out; rw [if_pos rfl] at this; exact this
          clear HE
          go_wp2_with (first | (go_at_call 40; (with_reducible refine Calls.mono (FT _) ?_); rintro e w' ⟨rfl, rfl⟩))
          refine bodyPost_ret (v := .agg #[.int .i64 0, .string ⟨#[]⟩, .int .i64 0, .int .i64 0, .int .i64 0, .int .i64 11]) (by simp [results, Tryz.results24, go_sem, *]) rfl ?_
          exact ⟨by rw [HF.out]; rfl, below2 _ _ _⟩
        | false =>
          have HE2 : Hid (R = if ((rest s k).head? = some 48 ∧ 1 < p - k) ∨ nsB (0) = true then none else some (x, p - k)) := by have := HE.out; rw [if_neg (by simp)] at this; exact this
          clear HE
          have HF : Hid (R = some (x, p - k)) := HE2.out.trans (if_neg (fun h => h.elim (fun h => h48 (HHd.out.1 h.1)) (fun h => by cases h)))
          clear HE2
          go_wp2_with (first | (go_at_call 40; (with_reducible refine Calls.mono (FT _) ?_); rintro e w' ⟨rfl, rfl⟩))
          refine bodyPost_ret (v := .agg #[.int .i64 6, .string ⟨#[]⟩, .int .i64 x, .int .i64 k, .int .i64 p, .int .i64 0]) (by simp [results, Tryz.results24, go_sem, *]) rfl ?_
          exact ⟨by rw [HF.out]; show _ = Ending.returned (.agg #[_, _, _, _, .int .i64 ((k + (p - k) : Nat) : Int), _]); rw [show k + (p - k) = p by omega]; rfl, below1 _ _⟩
  · have e2 : (k : Int) + 2 < s.size := by omega
    have e48 : ((s[k].toNat : Int) == 48) = false := by simp; omega
    go_enter Tryz.func24, Tryz.ntmps24
    go_wp2_with fail
    go_loopw [8, 9, 10] (fun ev nv gv wr => ∃ (p x : Nat) (g : Bool), k ≤ p ∧ p ≤ s.size ∧ x ≤ 4611686018427387903 ∧ ev = .int .i64 p ∧ nv = .int .i64 x ∧ gv = .bool g ∧ wr = w.alloc (.cells #[.int .i64 0, .string ⟨#[]⟩, .int .i64 0, .int .i64 0, .int .i64 0, .int .i64 0] 43) ∧ Hid (if g then numGo 10 (rest s k) 0 = none else numGo 10 (rest s k) 0 = (numGo 10 (rest s p) x).map (fun y => (y.1, y.2 + (p - k))))) (fun ev _ _ _ => s.size - (intOf ev).toNat)
    case atStart => exact ⟨k, 0, false, by omega, by omega, by omega, by go_num, by go_num, rfl, rfl, by
      show numGo 10 (rest s k) 0 = _
      cases numGo 10 (rest s k) 0 <;> simp⟩
    case round =>
      obtain ⟨p, x, g, hp1, hp2, hx62, rfl, rfl, rfl, rfl, HG⟩ := hrel
      have HB : Hid (digL (rest s p) < 10 ∨ Hid (if g = true then R = none else R = if ((rest s k).head? = some 48 ∧ 1 < p - k) ∨ nsB (clsAt s p) = true then none else some (x, p - k))) := by
        by_cases hd : digL (rest s p) < 10
        · exact Or.inl hd
        · right
          show if g = true then R = none else R = _
          rw [← HR.out]
          have hg := HG.out
          cases g with
          | true => exact numL_dec_none HX.out hg
          | false =>
            have hg2 : numGo 10 (rest s k) 0 = some (x, p - k) := by
              rw [if_neg (by simp)] at hg
              rw [hg, numGo_stop (by omega)]
              simp
            rw [if_neg (by simp)]
            exact numL_dec HX.out hp1 hg2
      by_cases hin : p < s.size
      · have D1 := fun W => SD s[p] W
        have X1 := fun W => SX s[p] W
        have N1 := fun W => SN s[p] W
        have hdl : digL (rest s p) = digOf s[p].toNat := by rw [rest_in hin]; rfl
        have hten := dig_ten ⟨s[p].toNat, s[p].toNat_lt⟩
        by_cases hd : digL (rest s p) < 10
        · have hd' : digOf s[p].toNat < 10 := by rw [← hdl]; exact hd
          have W1 := fun W => SW s[p] W (by omega)
          have HN : Hid (if g = true then numGo 10 (rest s k) 0 = none else if (4611686018427387903 - digOf s[p].toNat) / 10 < x then numGo 10 (rest s k) 0 = none else numGo 10 (rest s k) 0 = (numGo 10 (rest s (p + 1)) (x * 10 + digOf s[p].toNat)).map (fun y => (y.1, y.2 + (p + 1 - k)))) := by
            have hg := HG.out
            show if g = true then _ else _
            cases g with
            | true => exact hg
            | false =>
              rw [if_neg (by simp)] at hg ⊢
              rw [← hdl]
              by_cases hbig : (4611686018427387903 - digL (rest s p)) / 10 < x
              · rw [if_pos hbig, hg, numGo_big (by omega) hd hbig]
                rfl
              · rw [if_neg hbig, hg, numGo_step (by omega) hd hbig, map_map_num _ _ _ hp1]
          rw [decide_eq_true (hten.1 hd')] at D1
          rw [decide_eq_true (by omega : digOf s[p].toNat < 16)] at X1
          generalize digOf s[p].toNat = d at HN W1 hd'
          clear HG HB hdl hten hd SD SX SN SW N1
          cases g with
          | true =>
            by_cases hbig : (4611686018427387903 - d) / 10 < x
            · have hb' : (4611686018427387903 - (d : Int)) / 10 < (x : Int) := by omega
              go_wp2_with (first | (go_at_call 18; (with_reducible refine Calls.mono (D1 _) ?_); rintro e w' ⟨rfl, rfl⟩) | (go_at_call 43; (with_reducible refine Calls.mono (X1 _) ?_); rintro e w' ⟨rfl, rfl⟩) | (go_at_call 44; (with_reducible refine Calls.mono (W1 _) ?_); rintro e w' ⟨rfl, rfl⟩))
              go_roundw
              case rel => exact ⟨p + 1, x, true, by omega, by omega, hx62, by go_num, by go_num, rfl, by first | rfl | trivial, by have := HN.out; show if true = true then _ else _; simpa using this⟩
              case measure => simp [intOf]; omega
            · have hb' : ¬ (4611686018427387903 - (d : Int)) / 10 < (x : Int) := by omega
              go_wp2_with (first | (go_at_call 18; (with_reducible refine Calls.mono (D1 _) ?_); rintro e w' ⟨rfl, rfl⟩) | (go_at_call 43; (with_reducible refine Calls.mono (X1 _) ?_); rintro e w' ⟨rfl, rfl⟩) | (go_at_call 44; (with_reducible refine Calls.mono (W1 _) ?_); rintro e w' ⟨rfl, rfl⟩))
              go_roundw
              case rel => exact ⟨p + 1, x, true, by omega, by omega, hx62, by go_num, by go_num, rfl, by first | rfl | trivial, by have := HN.out; show if true = true then _ else _; simpa using this⟩
              case measure => simp [intOf]; omega
          | false =>
            by_cases hbig : (4611686018427387903 - d) / 10 < x
            · have hb' : (4611686018427387903 - (d : Int)) / 10 < (x : Int) := by omega
              go_wp2_with (first | (go_at_call 18; (with_reducible refine Calls.mono (D1 _) ?_); rintro e w' ⟨rfl, rfl⟩) | (go_at_call 43; (with_reducible refine Calls.mono (X1 _) ?_); rintro e w' ⟨rfl, rfl⟩) | (go_at_call 44; (with_reducible refine Calls.mono (W1 _) ?_); rintro e w' ⟨rfl, rfl⟩))
              go_roundw
              case rel => exact ⟨p + 1, x, true, by omega, by omega, hx62, by go_num, by go_num, rfl, by first | rfl | trivial, by have := HN.out; show if true = true then _ else _; simpa [hbig] using this⟩
              case measure => simp [intOf]; omega
            · have hb' : ¬ (4611686018427387903 - (d : Int)) / 10 < (x : Int) := by omega
              have hnb : x * 10 + d ≤ 4611686018427387903 := by omega
              go_wp2_with (first | (go_at_call 18; (with_reducible refine Calls.mono (D1 _) ?_); rintro e w' ⟨rfl, rfl⟩) | (go_at_call 43; (with_reducible refine Calls.mono (X1 _) ?_); rintro e w' ⟨rfl, rfl⟩) | (go_at_call 44; (with_reducible refine Calls.mono (W1 _) ?_); rintro e w' ⟨rfl, rfl⟩))
              go_roundw
              case rel => exact ⟨p + 1, x * 10 + d, false, by omega, by omega, hnb, by go_num, by go_num, rfl, by first | rfl | trivial, by have := HN.out; show if false = true then _ else _; simpa [hbig] using this⟩
              case measure => simp [intOf]; omega
        · have HE := HB.out.resolve_left hd
          rw [decide_eq_false (fun h => hd (by rw [hdl]; exact hten.2 h))] at D1
          generalize decide (digOf s[p].toNat < 16) = xb at X1
          rw [clsAt_in hin] at HE
          clear HG HB hdl hten hd SD SX SN SW
          cases g with
          | true =>
            have HF : Hid (R = none) := by have := HE.out; rw [if_pos rfl] at this; exact this
            clear HE
            generalize nsB (cls s[p].toNat) = nb at N1
            go_wp2_with (first | (go_at_call 18; (with_reducible refine Calls.mono (D1 _) ?_); rintro e w' ⟨rfl, rfl⟩) | (go_at_call 43; (with_reducible refine Calls.mono (X1 _) ?_); rintro e w' ⟨rfl, rfl⟩) | (go_at_call 45; (with_reducible refine Calls.mono (N1 _) ?_); rintro e w' ⟨rfl, rfl⟩) | (go_at_call 40; (with_reducible refine Calls.mono (FT _) ?_); rintro e w' ⟨rfl, rfl⟩))
            refine bodyPost_ret (v := .agg #[.int .i64 0, .string ⟨#[]⟩, .int .i64 0, .int .i64 0, .int .i64 0, .int .i64 11]) (by simp [results, Tryz.results24, go_sem, *]) rfl ?_
            exact ⟨by rw [HF.out]; rfl, below2 _ _ _⟩
          | false =>
            have HE2 : Hid (R = if ((rest s k).head? = some 48 ∧ 1 < p - k) ∨ nsB (cls s[p].toNat) = true then none else some (x, p - k)) := by have := HE.out; rw [if_neg (by simp)] at this; exact this
            clear HE
            cases hns : nsB (cls s[p].toNat) with
            | true =>
              have HF : Hid (R = none) := HE2.out.trans (if_pos (Or.inr hns))
              rw [hns] at N1
              clear HE2
              go_wp2_with (first | (go_at_call 18; (with_reducible refine Calls.mono (D1 _) ?_); rintro e w' ⟨rfl, rfl⟩) | (go_at_call 43; (with_reducible refine Calls.mono (X1 _) ?_); rintro e w' ⟨rfl, rfl⟩) | (go_at_call 45; (with_reducible refine Calls.mono (N1 _) ?_); rintro e w' ⟨rfl, rfl⟩) | (go_at_call 40; (with_reducible refine Calls.mono (FT _) ?_); rintro e w' ⟨rfl, rfl⟩))
              refine bodyPost_ret (v := .agg #[.int .i64 0, .string ⟨#[]⟩, .int .i64 0, .int .i64 0, .int .i64 0, .int .i64 11]) (by simp [results, Tryz.results24, go_sem, *]) rfl ?_
              exact ⟨by rw [HF.out]; rfl, below2 _ _ _⟩
            | false =>
              rw [hns] at N1
              have HF : Hid (R = some (x, p - k)) := HE2.out.trans (if_neg (fun h => h.elim (fun h => h48 (HHd.out.1 h.1)) (fun h => by rw [hns] at h; cases h)))
              clear HE2
              go_wp2_with (first | (go_at_call 18; (with_reducible refine Calls.mono (D1 _) ?_); rintro e w' ⟨rfl, rfl⟩) | (go_at_call 43; (with_reducible refine Calls.mono (X1 _) ?_); rintro e w' ⟨rfl, rfl⟩) | (go_at_call 45; (with_reducible refine Calls.mono (N1 _) ?_); rintro e w' ⟨rfl, rfl⟩) | (go_at_call 40; (with_reducible refine Calls.mono (FT _) ?_); rintro e w' ⟨rfl, rfl⟩))
              refine bodyPost_ret (v := .agg #[.int .i64 6, .string ⟨#[]⟩, .int .i64 x, .int .i64 k, .int .i64 p, .int .i64 0]) (by simp [results, Tryz.results24, go_sem, *]) rfl ?_
              exact ⟨by rw [HF.out]; show _ = Ending.returned (.agg #[_, _, _, _, .int .i64 ((k + (p - k) : Nat) : Int), _]); rw [show k + (p - k) = p by omega]; rfl, below1 _ _⟩
      · have hd : ¬ digL (rest s p) < 10 := by rw [rest_out hin]; decide
        have HE := HB.out.resolve_left hd
        rw [clsAt_out hin] at HE
        have hin' : (s.size : Int) ≤ p := by omega
        clear HG HB hd SD SX SN SW
        cases g with
        | true =>
          have HF : Hid (R = none) := by have := HE.out; rw [if_pos rfl] at this; exact this
          clear HE
          go_wp2_with (first | (go_at_call 40; (with_reducible refine Calls.mono (FT _) ?_); rintro e w' ⟨rfl, rfl⟩))
          refine bodyPost_ret (v := .agg #[.int .i64 0, .string ⟨#[]⟩, .int .i64 0, .int .i64 0, .int .i64 0, .int .i64 11]) (by simp [results, Tryz.results24, go_sem, *]) rfl ?_
          exact ⟨by rw [HF.out]; rfl, below2 _ _ _⟩
        | false =>
          have HE2 : Hid (R = if ((rest s k).head? = some 48 ∧ 1 < p - k) ∨ nsB (0) = true then none else some (x, p - k)) := by have := HE.out; rw [if_neg (by simp)] at this; exact this
          clear HE
          have HF : Hid (R = some (x, p - k)) := HE2.out.trans (if_neg (fun h => h.elim (fun h => h48 (HHd.out.1 h.1)) (fun h => by cases h)))
          clear HE2
          go_wp2_with (first | (go_at_call 40; (with_reducible refine Calls.mono (FT _) ?_); rintro e w' ⟨rfl, rfl⟩))
          refine bodyPost_ret (v := .agg #[.int .i64 6, .string ⟨#[]⟩, .int .i64 x, .int .i64 k, .int .i64 p, .int .i64 0]) (by simp [results, Tryz.results24, go_sem, *]) rfl ?_
          exact ⟨by rw [HF.out]; show _ = Ending.returned (.agg #[_, _, _, _, .int .i64 ((k + (p - k) : Nat) : Int), _]); rw [show k + (p - k) = p by omega]; rfl, below1 _ _⟩
  · have e2 : (k : Int) + 2 < s.size := by omega
    have e48 : ((s[k].toNat : Int) == 48) = true := by simp; omega
    have e120 : ((s[k + 1].toNat : Int) == 120) = false := by simp; omega
    go_enter Tryz.func24, Tryz.ntmps24
    go_wp2_with fail
    go_loopw [8, 9, 10] (fun ev nv gv wr => ∃ (p x : Nat) (g : Bool), k ≤ p ∧ p ≤ s.size ∧ x ≤ 4611686018427387903 ∧ ev = .int .i64 p ∧ nv = .int .i64 x ∧ gv = .bool g ∧ wr = w.alloc (.cells #[.int .i64 0, .string ⟨#[]⟩, .int .i64 0, .int .i64 0, .int .i64 0, .int .i64 0] 43) ∧ Hid (if g then numGo 10 (rest s k) 0 = none else numGo 10 (rest s k) 0 = (numGo 10 (rest s p) x).map (fun y => (y.1, y.2 + (p - k))))) (fun ev _ _ _ => s.size - (intOf ev).toNat)
    case atStart => exact ⟨k, 0, false, by omega, by omega, by omega, by go_num, by go_num, rfl, rfl, by
      show numGo 10 (rest s k) 0 = _
      cases numGo 10 (rest s k) 0 <;> simp⟩
    case round =>
      obtain ⟨p, x, g, hp1, hp2, hx62, rfl, rfl, rfl, rfl, HG⟩ := hrel
      have HB : Hid (digL (rest s p) < 10 ∨ Hid (if g = true then R = none else R = if ((rest s k).head? = some 48 ∧ 1 < p - k) ∨ nsB (clsAt s p) = true then none else some (x, p - k))) := by
        by_cases hd : digL (rest s p) < 10
        · exact Or.inl hd
        · right
          show if g = true then R = none else R = _
          rw [← HR.out]
          have hg := HG.out
          cases g with
          | true => exact numL_dec_none HX.out hg
          | false =>
            have hg2 : numGo 10 (rest s k) 0 = some (x, p - k) := by
              rw [if_neg (by simp)] at hg
              rw [hg, numGo_stop (by omega)]
              simp
            rw [if_neg (by simp)]
            exact numL_dec HX.out hp1 hg2
      by_cases hin : p < s.size
      · have D1 := fun W => SD s[p] W
        have X1 := fun W => SX s[p] W
        have N1 := fun W => SN s[p] W
        have hdl : digL (rest s p) = digOf s[p].toNat := by rw [rest_in hin]; rfl
        have hten := dig_ten ⟨s[p].toNat, s[p].toNat_lt⟩
        by_cases hd : digL (rest s p) < 10
        · have hd' : digOf s[p].toNat < 10 := by rw [← hdl]; exact hd
          have W1 := fun W => SW s[p] W (by omega)
          have HN : Hid (if g = true then numGo 10 (rest s k) 0 = none else if (4611686018427387903 - digOf s[p].toNat) / 10 < x then numGo 10 (rest s k) 0 = none else numGo 10 (rest s k) 0 = (numGo 10 (rest s (p + 1)) (x * 10 + digOf s[p].toNat)).map (fun y => (y.1, y.2 + (p + 1 - k)))) := by
            have hg := HG.out
            show if g = true then _ else _
            cases g with
            | true => exact hg
            | false =>
              rw [if_neg (by simp)] at hg ⊢
              rw [← hdl]
              by_cases hbig : (4611686018427387903 - digL (rest s p)) / 10 < x
              · rw [if_pos hbig, hg, numGo_big (by omega) hd hbig]
                rfl
              · rw [if_neg hbig, hg, numGo_step (by omega) hd hbig, map_map_num _ _ _ hp1]
          rw [decide_eq_true (hten.1 hd')] at D1
          rw [decide_eq_true (by omega : digOf s[p].toNat < 16)] at X1
          generalize digOf s[p].toNat = d at HN W1 hd'
          clear HG HB hdl hten hd SD SX SN SW N1
          cases g with
          | true =>
            by_cases hbig : (4611686018427387903 - d) / 10 < x
            · have hb' : (4611686018427387903 - (d : Int)) / 10 < (x : Int) := by omega
              go_wp2_with (first | (go_at_call 18; (with_reducible refine Calls.mono (D1 _) ?_); rintro e w' ⟨rfl, rfl⟩) | (go_at_call 43; (with_reducible refine Calls.mono (X1 _) ?_); rintro e w' ⟨rfl, rfl⟩) | (go_at_call 44; (with_reducible refine Calls.mono (W1 _) ?_); rintro e w' ⟨rfl, rfl⟩))
              go_roundw
              case rel => exact ⟨p + 1, x, true, by omega, by omega, hx62, by go_num, by go_num, rfl, by first | rfl | trivial, by have := HN.out; show if true = true then _ else _; simpa using this⟩
              case measure => simp [intOf]; omega
            · have hb' : ¬ (4611686018427387903 - (d : Int)) / 10 < (x : Int) := by omega
              go_wp2_with (first | (go_at_call 18; (with_reducible refine Calls.mono (D1 _) ?_); rintro e w' ⟨rfl, rfl⟩) | (go_at_call 43; (with_reducible refine Calls.mono (X1 _) ?_); rintro e w' ⟨rfl, rfl⟩) | (go_at_call 44; (with_reducible refine Calls.mono (W1 _) ?_); rintro e w' ⟨rfl, rfl⟩))
              go_roundw
              case rel => exact ⟨p + 1, x, true, by omega, by omega, hx62, by go_num, by go_num, rfl, by first | rfl | trivial, by have := HN.out; show if true = true then _ else _; simpa using this⟩
              case measure => simp [intOf]; omega
          | false =>
            by_cases hbig : (4611686018427387903 - d) / 10 < x
            · have hb' : (4611686018427387903 - (d : Int)) / 10 < (x : Int) := by omega
              go_wp2_with (first | (go_at_call 18; (with_reducible refine Calls.mono (D1 _) ?_); rintro e w' ⟨rfl, rfl⟩) | (go_at_call 43; (with_reducible refine Calls.mono (X1 _) ?_); rintro e w' ⟨rfl, rfl⟩) | (go_at_call 44; (with_reducible refine Calls.mono (W1 _) ?_); rintro e w' ⟨rfl, rfl⟩))
              go_roundw
              case rel => exact ⟨p + 1, x, true, by omega, by omega, hx62, by go_num, by go_num, rfl, by first | rfl | trivial, by have := HN.out; show if true = true then _ else _; simpa [hbig] using this⟩
              case measure => simp [intOf]; omega
            · have hb' : ¬ (4611686018427387903 - (d : Int)) / 10 < (x : Int) := by omega
              have hnb : x * 10 + d ≤ 4611686018427387903 := by omega
              go_wp2_with (first | (go_at_call 18; (with_reducible refine Calls.mono (D1 _) ?_); rintro e w' ⟨rfl, rfl⟩) | (go_at_call 43; (with_reducible refine Calls.mono (X1 _) ?_); rintro e w' ⟨rfl, rfl⟩) | (go_at_call 44; (with_reducible refine Calls.mono (W1 _) ?_); rintro e w' ⟨rfl, rfl⟩))
              go_roundw
              case rel => exact ⟨p + 1, x * 10 + d, false, by omega, by omega, hnb, by go_num, by go_num, rfl, by first | rfl | trivial, by have := HN.out; show if false = true then _ else _; simpa [hbig] using this⟩
              case measure => simp [intOf]; omega
        · have HE := HB.out.resolve_left hd
          rw [decide_eq_false (fun h => hd (by rw [hdl]; exact hten.2 h))] at D1
          generalize decide (digOf s[p].toNat < 16) = xb at X1
          rw [clsAt_in hin] at HE
          clear HG HB hdl hten hd SD SX SN SW
          cases g with
          | true =>
            have HF : Hid (R = none) := by have := HE.out; rw [if_pos rfl] at this; exact this
            clear HE
            generalize nsB (cls s[p].toNat) = nb at N1
            go_wp2_with (first | (go_at_call 18; (with_reducible refine Calls.mono (D1 _) ?_); rintro e w' ⟨rfl, rfl⟩) | (go_at_call 43; (with_reducible refine Calls.mono (X1 _) ?_); rintro e w' ⟨rfl, rfl⟩) | (go_at_call 45; (with_reducible refine Calls.mono (N1 _) ?_); rintro e w' ⟨rfl, rfl⟩) | (go_at_call 40; (with_reducible refine Calls.mono (FT _) ?_); rintro e w' ⟨rfl, rfl⟩))
            refine bodyPost_ret (v := .agg #[.int .i64 0, .string ⟨#[]⟩, .int .i64 0, .int .i64 0, .int .i64 0, .int .i64 11]) (by simp [results, Tryz.results24, go_sem, *]) rfl ?_
            exact ⟨by rw [HF.out]; rfl, below2 _ _ _⟩
          | false =>
            have HE2 : Hid (R = if ((rest s k).head? = some 48 ∧ 1 < p - k) ∨ nsB (cls s[p].toNat) = true then none else some (x, p - k)) := by have := HE.out; rw [if_neg (by simp)] at this; exact this
            clear HE
            cases hns : nsB (cls s[p].toNat) with
            | true =>
              have HF : Hid (R = none) := HE2.out.trans (if_pos (Or.inr hns))
              rw [hns] at N1
              clear HE2
              go_wp2_with (first | (go_at_call 18; (with_reducible refine Calls.mono (D1 _) ?_); rintro e w' ⟨rfl, rfl⟩) | (go_at_call 43; (with_reducible refine Calls.mono (X1 _) ?_); rintro e w' ⟨rfl, rfl⟩) | (go_at_call 45; (with_reducible refine Calls.mono (N1 _) ?_); rintro e w' ⟨rfl, rfl⟩) | (go_at_call 40; (with_reducible refine Calls.mono (FT _) ?_); rintro e w' ⟨rfl, rfl⟩))
              refine bodyPost_ret (v := .agg #[.int .i64 0, .string ⟨#[]⟩, .int .i64 0, .int .i64 0, .int .i64 0, .int .i64 11]) (by simp [results, Tryz.results24, go_sem, *]) rfl ?_
              exact ⟨by rw [HF.out]; rfl, below2 _ _ _⟩
            | false =>
              rw [hns] at N1
              by_cases hgt : k + 1 < p
              · first
                | (exfalso; omega)
                | (have HF : Hid (R = none) := HE2.out.trans (if_pos (Or.inl ⟨HHd.out.2 h48, by omega⟩))
                   have hgt' : (k : Int) + 1 < p := by omega
                   clear HE2
                   go_wp2_with (first | (go_at_call 18; (with_reducible refine Calls.mono (D1 _) ?_); rintro e w' ⟨rfl, rfl⟩) | (go_at_call 43; (with_reducible refine Calls.mono (X1 _) ?_); rintro e w' ⟨rfl, rfl⟩) | (go_at_call 45; (with_reducible refine Calls.mono (N1 _) ?_); rintro e w' ⟨rfl, rfl⟩) | (go_at_call 40; (with_reducible refine Calls.mono (FT _) ?_); rintro e w' ⟨rfl, rfl⟩))
                   refine bodyPost_ret (v := .agg #[.int .i64 0, .string ⟨#[]⟩, .int .i64 0, .int .i64 0, .int .i64 0, .int .i64 11]) (by simp [results, Tryz.results24, go_sem, *]) rfl ?_
                   exact ⟨by rw [HF.out]; rfl, below2 _ _ _⟩)
              · first
                | (exfalso; omega)
                | (have HF : Hid (R = some (x, p - k)) := HE2.out.trans (if_neg (fun h => h.elim (fun h => by omega) (fun h => by rw [hns] at h; cases h)))
                   have hgt' : ¬ (k : Int) + 1 < p := by omega
                   clear HE2
                   go_wp2_with (first | (go_at_call 18; (with_reducible refine Calls.mono (D1 _) ?_); rintro e w' ⟨rfl, rfl⟩) | (go_at_call 43; (with_reducible refine Calls.mono (X1 _) ?_); rintro e w' ⟨rfl, rfl⟩) | (go_at_call 45; (with_reducible refine Calls.mono (N1 _) ?_); rintro e w' ⟨rfl, rfl⟩) | (go_at_call 40; (with_reducible refine Calls.mono (FT _) ?_); rintro e w' ⟨rfl, rfl⟩))
                   refine bodyPost_ret (v := .agg #[.int .i64 6, .string ⟨#[]⟩, .int .i64 x, .int .i64 k, .int .i64 p, .int .i64 0]) (by simp [results, Tryz.results24, go_sem, *]) rfl ?_
                   exact ⟨by rw [HF.out]; show _ = Ending.returned (.agg #[_, _, _, _, .int .i64 ((k + (p - k) : Nat) : Int), _]); rw [show k + (p - k) = p by omega]; rfl, below1 _ _⟩)
      · have hd : ¬ digL (rest s p) < 10 := by rw [rest_out hin]; decide
        have HE := HB.out.resolve_left hd
        rw [clsAt_out hin] at HE
        have hin' : (s.size : Int) ≤ p := by omega
        clear HG HB hd SD SX SN SW
        cases g with
        | true =>
          have HF : Hid (R = none) := by have := HE.out; rw [if_pos rfl] at this; exact this
          clear HE
          go_wp2_with (first | (go_at_call 40; (with_reducible refine Calls.mono (FT _) ?_); rintro e w' ⟨rfl, rfl⟩))
          refine bodyPost_ret (v := .agg #[.int .i64 0, .string ⟨#[]⟩, .int .i64 0, .int .i64 0, .int .i64 0, .int .i64 11]) (by simp [results, Tryz.results24, go_sem, *]) rfl ?_
          exact ⟨by rw [HF.out]; rfl, below2 _ _ _⟩
        | false =>
          have HE2 : Hid (R = if ((rest s k).head? = some 48 ∧ 1 < p - k) ∨ nsB (0) = true then none else some (x, p - k)) := by have := HE.out; rw [if_neg (by simp)] at this; exact this
          clear HE
          by_cases hgt : k + 1 < p
          · first
            | (exfalso; omega)
            | (have HF : Hid (R = none) := HE2.out.trans (if_pos (Or.inl ⟨HHd.out.2 h48, by omega⟩))
               have hgt' : (k : Int) + 1 < p := by omega
               clear HE2
               go_wp2_with (first | (go_at_call 40; (with_reducible refine Calls.mono (FT _) ?_); rintro e w' ⟨rfl, rfl⟩))
               refine bodyPost_ret (v := .agg #[.int .i64 0, .string ⟨#[]⟩, .int .i64 0, .int .i64 0, .int .i64 0, .int .i64 11]) (by simp [results, Tryz.results24, go_sem, *]) rfl ?_
               exact ⟨by rw [HF.out]; rfl, below2 _ _ _⟩)
          · first
            | (exfalso; omega)
            | (have HF : Hid (R = some (x, p - k)) := HE2.out.trans (if_neg (fun h => h.elim (fun h => by omega) (fun h => by cases h)))
               have hgt' : ¬ (k : Int) + 1 < p := by omega
               clear HE2
               go_wp2_with (first | (go_at_call 40; (with_reducible refine Calls.mono (FT _) ?_); rintro e w' ⟨rfl, rfl⟩))
               refine bodyPost_ret (v := .agg #[.int .i64 6, .string ⟨#[]⟩, .int .i64 x, .int .i64 k, .int .i64 p, .int .i64 0]) (by simp [results, Tryz.results24, go_sem, *]) rfl ?_
               exact ⟨by rw [HF.out]; show _ = Ending.returned (.agg #[_, _, _, _, .int .i64 ((k + (p - k) : Nat) : Int), _]); rw [show k + (p - k) = p by omega]; rfl, below1 _ _⟩)
  · have e2 : (k : Int) + 2 < s.size := by omega
    have e48 : ((s[k].toNat : Int) == 48) = true := by simp; omega
    have e120 : ((s[k + 1].toNat : Int) == 120) = true := by simp; omega
    have HX0 := fun W => SX s[k + 2] W
    rw [decide_eq_false h16] at HX0
    clear h16
    go_enter Tryz.func24, Tryz.ntmps24
    go_wp2_with (first | (go_at_call 43; (with_reducible refine Calls.mono (HX0 _) ?_); rintro e w' ⟨rfl, rfl⟩))
    go_loopw [8, 9, 10] (fun ev nv gv wr => ∃ (p x : Nat) (g : Bool), k ≤ p ∧ p ≤ s.size ∧ x ≤ 4611686018427387903 ∧ ev = .int .i64 p ∧ nv = .int .i64 x ∧ gv = .bool g ∧ wr = w.alloc (.cells #[.int .i64 0, .string ⟨#[]⟩, .int .i64 0, .int .i64 0, .int .i64 0, .int .i64 0] 43) ∧ Hid (if g then numGo 10 (rest s k) 0 = none else numGo 10 (rest s k) 0 = (numGo 10 (rest s p) x).map (fun y => (y.1, y.2 + (p - k))))) (fun ev _ _ _ => s.size - (intOf ev).toNat)
    case atStart => exact ⟨k, 0, false, by omega, by omega, by omega, by go_num, by go_num, rfl, rfl, by
      show numGo 10 (rest s k) 0 = _
      cases numGo 10 (rest s k) 0 <;> simp⟩
    case round =>
      obtain ⟨p, x, g, hp1, hp2, hx62, rfl, rfl, rfl, rfl, HG⟩ := hrel
      have HB : Hid (digL (rest s p) < 10 ∨ Hid (if g = true then R = none else R = if ((rest s k).head? = some 48 ∧ 1 < p - k) ∨ nsB (clsAt s p) = true then none else some (x, p - k))) := by
        by_cases hd : digL (rest s p) < 10
        · exact Or.inl hd
        · right
          show if g = true then R = none else R = _
          rw [← HR.out]
          have hg := HG.out
          cases g with
          | true => exact numL_dec_none HX.out hg
          | false =>
            have hg2 : numGo 10 (rest s k) 0 = some (x, p - k) := by
              rw [if_neg (by simp)] at hg
              rw [hg, numGo_stop (by omega)]
              simp
            rw [if_neg (by simp)]
            exact numL_dec HX.out hp1 hg2
      by_cases hin : p < s.size
      · have D1 := fun W => SD s[p] W
        have X1 := fun W => SX s[p] W
        have N1 := fun W => SN s[p] W
        have hdl : digL (rest s p) = digOf s[p].toNat := by rw [rest_in hin]; rfl
        have hten := dig_ten ⟨s[p].toNat, s[p].toNat_lt⟩
        by_cases hd : digL (rest s p) < 10
        · have hd' : digOf s[p].toNat < 10 := by rw [← hdl]; exact hd
          have W1 := fun W => SW s[p] W (by omega)
          have HN : Hid (if g = true then numGo 10 (rest s k) 0 = none else if (4611686018427387903 - digOf s[p].toNat) / 10 < x then numGo 10 (rest s k) 0 = none else numGo 10 (rest s k) 0 = (numGo 10 (rest s (p + 1)) (x * 10 + digOf s[p].toNat)).map (fun y => (y.1, y.2 + (p + 1 - k)))) := by
            have hg := HG.out
            show if g = true then _ else _
            cases g with
            | true => exact hg
            | false =>
              rw [if_neg (by simp)] at hg ⊢
              rw [← hdl]
              by_cases hbig : (4611686018427387903 - digL (rest s p)) / 10 < x
              · rw [if_pos hbig, hg, numGo_big (by omega) hd hbig]
                rfl
              · rw [if_neg hbig, hg, numGo_step (by omega) hd hbig, map_map_num _ _ _ hp1]
          rw [decide_eq_true (hten.1 hd')] at D1
          rw [decide_eq_true (by omega : digOf s[p].toNat < 16)] at X1
          generalize digOf s[p].toNat = d at HN W1 hd'
          clear HG HB hdl hten hd SD SX SN SW N1
          cases g with
          | true =>
            by_cases hbig : (4611686018427387903 - d) / 10 < x
            · have hb' : (4611686018427387903 - (d : Int)) / 10 < (x : Int) := by omega
              go_wp2_with (first | (go_at_call 18; (with_reducible refine Calls.mono (D1 _) ?_); rintro e w' ⟨rfl, rfl⟩) | (go_at_call 43; (with_reducible refine Calls.mono (X1 _) ?_); rintro e w' ⟨rfl, rfl⟩) | (go_at_call 44; (with_reducible refine Calls.mono (W1 _) ?_); rintro e w' ⟨rfl, rfl⟩))
              go_roundw
              case rel => exact ⟨p + 1, x, true, by omega, by omega, hx62, by go_num, by go_num, rfl, by first | rfl | trivial, by have := HN.out; show if true = true then _ else _; simpa using this⟩
              case measure => simp [intOf]; omega
            · have hb' : ¬ (4611686018427387903 - (d : Int)) / 10 < (x : Int) := by omega
              go_wp2_with (first | (go_at_call 18; (with_reducible refine Calls.mono (D1 _) ?_); rintro e w' ⟨rfl, rfl⟩) | (go_at_call 43; (with_reducible refine Calls.mono (X1 _) ?_); rintro e w' ⟨rfl, rfl⟩) | (go_at_call 44; (with_reducible refine Calls.mono (W1 _) ?_); rintro e w' ⟨rfl, rfl⟩))
              go_roundw
              case rel => exact ⟨p + 1, x, true, by omega, by omega, hx62, by go_num, by go_num, rfl, by first | rfl | trivial, by have := HN.out; show if true = true then _ else _; simpa using this⟩
              case measure => simp [intOf]; omega
          | false =>
            by_cases hbig : (4611686018427387903 - d) / 10 < x
            · have hb' : (4611686018427387903 - (d : Int)) / 10 < (x : Int) := by omega
              go_wp2_with (first | (go_at_call 18; (with_reducible refine Calls.mono (D1 _) ?_); rintro e w' ⟨rfl, rfl⟩) | (go_at_call 43; (with_reducible refine Calls.mono (X1 _) ?_); rintro e w' ⟨rfl, rfl⟩) | (go_at_call 44; (with_reducible refine Calls.mono (W1 _) ?_); rintro e w' ⟨rfl, rfl⟩))
              go_roundw
              case rel => exact ⟨p + 1, x, true, by omega, by omega, hx62, by go_num, by go_num, rfl, by first | rfl | trivial, by have := HN.out; show if true = true then _ else _; simpa [hbig] using this⟩
              case measure => simp [intOf]; omega
            · have hb' : ¬ (4611686018427387903 - (d : Int)) / 10 < (x : Int) := by omega
              have hnb : x * 10 + d ≤ 4611686018427387903 := by omega
              go_wp2_with (first | (go_at_call 18; (with_reducible refine Calls.mono (D1 _) ?_); rintro e w' ⟨rfl, rfl⟩) | (go_at_call 43; (with_reducible refine Calls.mono (X1 _) ?_); rintro e w' ⟨rfl, rfl⟩) | (go_at_call 44; (with_reducible refine Calls.mono (W1 _) ?_); rintro e w' ⟨rfl, rfl⟩))
              go_roundw
              case rel => exact ⟨p + 1, x * 10 + d, false, by omega, by omega, hnb, by go_num, by go_num, rfl, by first | rfl | trivial, by have := HN.out; show if false = true then _ else _; simpa [hbig] using this⟩
              case measure => simp [intOf]; omega
        · have HE := HB.out.resolve_left hd
          rw [decide_eq_false (fun h => hd (by rw [hdl]; exact hten.2 h))] at D1
          generalize decide (digOf s[p].toNat < 16) = xb at X1
          rw [clsAt_in hin] at HE
          clear HG HB hdl hten hd SD SX SN SW
          cases g with
          | true =>
            have HF : Hid (R = none) := by have := HE.out; rw [if_pos rfl] at this; exact this
            clear HE
            generalize nsB (cls s[p].toNat) = nb at N1
            go_wp2_with (first | (go_at_call 18; (with_reducible refine Calls.mono (D1 _) ?_); rintro e w' ⟨rfl, rfl⟩) | (go_at_call 43; (with_reducible refine Calls.mono (X1 _) ?_); rintro e w' ⟨rfl, rfl⟩) | (go_at_call 45; (with_reducible refine Calls.mono (N1 _) ?_); rintro e w' ⟨rfl, rfl⟩) | (go_at_call 40; (with_reducible refine Calls.mono (FT _) ?_); rintro e w' ⟨rfl, rfl⟩))
            refine bodyPost_ret (v := .agg #[.int .i64 0, .string ⟨#[]⟩, .int .i64 0, .int .i64 0, .int .i64 0, .int .i64 11]) (by simp [results, Tryz.results24, go_sem, *]) rfl ?_
            exact ⟨by rw [HF.out]; rfl, below2 _ _ _⟩
          | false =>
            have HE2 : Hid (R = if ((rest s k).head? = some 48 ∧ 1 < p - k) ∨ nsB (cls s[p].toNat) = true then none else some (x, p - k)) := by have := HE.out; rw [if_neg (by simp)] at this; exact this
            clear HE
            cases hns : nsB (cls s[p].toNat) with
            | true =>
              have HF : Hid (R = none) := HE2.out.trans (if_pos (Or.inr hns))
              rw [hns] at N1
              clear HE2
              go_wp2_with (first | (go_at_call 18; (with_reducible refine Calls.mono (D1 _) ?_); rintro e w' ⟨rfl, rfl⟩) | (go_at_call 43; (with_reducible refine Calls.mono (X1 _) ?_); rintro e w' ⟨rfl, rfl⟩) | (go_at_call 45; (with_reducible refine Calls.mono (N1 _) ?_); rintro e w' ⟨rfl, rfl⟩) | (go_at_call 40; (with_reducible refine Calls.mono (FT _) ?_); rintro e w' ⟨rfl, rfl⟩))
              refine bodyPost_ret (v := .agg #[.int .i64 0, .string ⟨#[]⟩, .int .i64 0, .int .i64 0, .int .i64 0, .int .i64 11]) (by simp [results, Tryz.results24, go_sem, *]) rfl ?_
              exact ⟨by rw [HF.out]; rfl, below2 _ _ _⟩
            | false =>
              rw [hns] at N1
              by_cases hgt : k + 1 < p
              · first
                | (exfalso; omega)
                | (have HF : Hid (R = none) := HE2.out.trans (if_pos (Or.inl ⟨HHd.out.2 h48, by omega⟩))
                   have hgt' : (k : Int) + 1 < p := by omega
                   clear HE2
                   go_wp2_with (first | (go_at_call 18; (with_reducible refine Calls.mono (D1 _) ?_); rintro e w' ⟨rfl, rfl⟩) | (go_at_call 43; (with_reducible refine Calls.mono (X1 _) ?_); rintro e w' ⟨rfl, rfl⟩) | (go_at_call 45; (with_reducible refine Calls.mono (N1 _) ?_); rintro e w' ⟨rfl, rfl⟩) | (go_at_call 40; (with_reducible refine Calls.mono (FT _) ?_); rintro e w' ⟨rfl, rfl⟩))
                   refine bodyPost_ret (v := .agg #[.int .i64 0, .string ⟨#[]⟩, .int .i64 0, .int .i64 0, .int .i64 0, .int .i64 11]) (by simp [results, Tryz.results24, go_sem, *]) rfl ?_
                   exact ⟨by rw [HF.out]; rfl, below2 _ _ _⟩)
              · first
                | (exfalso; omega)
                | (have HF : Hid (R = some (x, p - k)) := HE2.out.trans (if_neg (fun h => h.elim (fun h => by omega) (fun h => by rw [hns] at h; cases h)))
                   have hgt' : ¬ (k : Int) + 1 < p := by omega
                   clear HE2
                   go_wp2_with (first | (go_at_call 18; (with_reducible refine Calls.mono (D1 _) ?_); rintro e w' ⟨rfl, rfl⟩) | (go_at_call 43; (with_reducible refine Calls.mono (X1 _) ?_); rintro e w' ⟨rfl, rfl⟩) | (go_at_call 45; (with_reducible refine Calls.mono (N1 _) ?_); rintro e w' ⟨rfl, rfl⟩) | (go_at_call 40; (with_reducible refine Calls.mono (FT _) ?_); rintro e w' ⟨rfl, rfl⟩))
                   refine bodyPost_ret (v := .agg #[.int .i64 6, .string ⟨#[]⟩, .int .i64 x, .int .i64 k, .int .i64 p, .int .i64 0]) (by simp [results, Tryz.results24, go_sem, *]) rfl ?_
                   exact ⟨by rw [HF.out]; show _ = Ending.returned (.agg #[_, _, _, _, .int .i64 ((k + (p - k) : Nat) : Int), _]); rw [show k + (p - k) = p by omega]; rfl, below1 _ _⟩)
      · have hd : ¬ digL (rest s p) < 10 := by rw [rest_out hin]; decide
        have HE := HB.out.resolve_left hd
        rw [clsAt_out hin] at HE
        have hin' : (s.size : Int) ≤ p := by omega
        clear HG HB hd SD SX SN SW
        cases g with
        | true =>
          have HF : Hid (R = none) := by have := HE.out; rw [if_pos rfl] at this; exact this
          clear HE
          go_wp2_with (first | (go_at_call 40; (with_reducible refine Calls.mono (FT _) ?_); rintro e w' ⟨rfl, rfl⟩))
          refine bodyPost_ret (v := .agg #[.int .i64 0, .string ⟨#[]⟩, .int .i64 0, .int .i64 0, .int .i64 0, .int .i64 11]) (by simp [results, Tryz.results24, go_sem, *]) rfl ?_
          exact ⟨by rw [HF.out]; rfl, below2 _ _ _⟩
        | false =>
          have HE2 : Hid (R = if ((rest s k).head? = some 48 ∧ 1 < p - k) ∨ nsB (0) = true then none else some (x, p - k)) := by have := HE.out; rw [if_neg (by simp)] at this; exact this
          clear HE
          by_cases hgt : k + 1 < p
          · first
            | (exfalso; omega)
            | (have HF : Hid (R = none) := HE2.out.trans (if_pos (Or.inl ⟨HHd.out.2 h48, by omega⟩))
               have hgt' : (k : Int) + 1 < p := by omega
               clear HE2
               go_wp2_with (first | (go_at_call 40; (with_reducible refine Calls.mono (FT _) ?_); rintro e w' ⟨rfl, rfl⟩))
               refine bodyPost_ret (v := .agg #[.int .i64 0, .string ⟨#[]⟩, .int .i64 0, .int .i64 0, .int .i64 0, .int .i64 11]) (by simp [results, Tryz.results24, go_sem, *]) rfl ?_
               exact ⟨by rw [HF.out]; rfl, below2 _ _ _⟩)
          · first
            | (exfalso; omega)
            | (have HF : Hid (R = some (x, p - k)) := HE2.out.trans (if_neg (fun h => h.elim (fun h => by omega) (fun h => by cases h)))
               have hgt' : ¬ (k : Int) + 1 < p := by omega
               clear HE2
               go_wp2_with (first | (go_at_call 40; (with_reducible refine Calls.mono (FT _) ?_); rintro e w' ⟨rfl, rfl⟩))
               refine bodyPost_ret (v := .agg #[.int .i64 6, .string ⟨#[]⟩, .int .i64 x, .int .i64 k, .int .i64 p, .int .i64 0]) (by simp [results, Tryz.results24, go_sem, *]) rfl ?_
               exact ⟨by rw [HF.out]; show _ = Ending.returned (.agg #[_, _, _, _, .int .i64 ((k + (p - k) : Nat) : Int), _]); rw [show k + (p - k) = p by omega]; rfl, below1 _ _⟩)

set_option maxHeartbeats 8000000 in
set_option maxRecDepth 10000 in
theorem ref_number_hex (s : ByteArray) (k : Nat) (w : World) (hs : s.size ≤ 65536) (hk : k < s.size) (hx : hexB (rest s k) = true) : Calls Tryz.prog 24 #[.string s, .int .i64 k] w fun e w' => e = .returned (tokV k 6 [] 11 (numL (rest s k))) ∧ Below w.heap.size w w' := by
  have SD : ∀ (c : UInt8) W, Calls Tryz.prog 18 #[.int .u8 c.toNat] W fun e w' => e = .returned (.bool (decide (cls c.toNat = 3))) ∧ w' = W := fun c W => ref_digit c.toNat W c.toNat_lt
  have SX : ∀ (c : UInt8) W, Calls Tryz.prog 43 #[.int .u8 c.toNat] W fun e w' => e = .returned (.bool (decide (digOf c.toNat < 16))) ∧ w' = W := fun c W => ref_hex c.toNat W c.toNat_lt
  have SN : ∀ (c : UInt8) W, Calls Tryz.prog 45 #[.int .u8 c.toNat] W fun e w' => e = .returned (.bool (nsB (cls c.toNat))) ∧ w' = W := fun c W => ref_sign c.toNat W c.toNat_lt
  have SW : ∀ (c : UInt8) W, digOf c.toNat < 16 → Calls Tryz.prog 44 #[.int .u8 c.toNat] W fun e w' => e = .returned (.int .i64 (digOf c.toNat)) ∧ w' = W := fun c W h => ref_worth c.toNat W c.toNat_lt h
  have FT := ref_fault 11
  have HH := hex_head s k
  obtain ⟨h2, h48, h120, h16⟩ := HH.1 hx
  have HX : Hid (hexB (rest s k) = true) := hx
  generalize hR : numL (rest s k) = R
  have HR : Hid (numL (rest s k) = R) := hR
  clear hR hx HH
  have e2 : (k : Int) + 2 < s.size := by omega
  have e48 : ((s[k].toNat : Int) == 48) = true := by simp; omega
  have e120 : ((s[k + 1].toNat : Int) == 120) = true := by simp; omega
  have HX0 := fun W => SX s[k + 2] W
  rw [decide_eq_true h16] at HX0
  clear h16
  · go_enter Tryz.func24, Tryz.ntmps24
    go_wp2_with (first | (go_at_call 43; (with_reducible refine Calls.mono (HX0 _) ?_); rintro e w' ⟨rfl, rfl⟩))
    go_loopw [8, 9, 10] (fun ev nv gv wr => ∃ (p x : Nat) (g : Bool), k + 2 ≤ p ∧ p ≤ s.size ∧ x ≤ 4611686018427387903 ∧ ev = .int .i64 p ∧ nv = .int .i64 x ∧ gv = .bool g ∧ wr = w.alloc (.cells #[.int .i64 0, .string ⟨#[]⟩, .int .i64 0, .int .i64 0, .int .i64 0, .int .i64 0] 43) ∧ Hid (if g then numGo 16 (rest s (k + 2)) 0 = none else numGo 16 (rest s (k + 2)) 0 = (numGo 16 (rest s p) x).map (fun y => (y.1, y.2 + (p - (k + 2)))))) (fun ev _ _ _ => s.size - (intOf ev).toNat)
    case atStart => exact ⟨k + 2, 0, false, by omega, by omega, by omega, by go_num, by go_num, rfl, rfl, by
      show numGo 16 (rest s (k + 2)) 0 = _
      cases numGo 16 (rest s (k + 2)) 0 <;> simp⟩
    case round =>
      obtain ⟨p, x, g, hp1, hp2, hx62, rfl, rfl, rfl, rfl, HG⟩ := hrel
      have HB : Hid (digL (rest s p) < 16 ∨ Hid (if g = true then R = none else R = if nsB (clsAt s p) = true then none else some (x, p - k))) := by
        by_cases hd : digL (rest s p) < 16
        · exact Or.inl hd
        · right
          show if g = true then R = none else R = _
          rw [← HR.out]
          have hg := HG.out
          cases g with
          | true => exact numL_hex_none HX.out hg
          | false =>
            have hg2 : numGo 16 (rest s (k + 2)) 0 = some (x, p - (k + 2)) := by
              rw [if_neg (by simp)] at hg
              rw [hg, numGo_stop (by omega)]
              simp
            rw [if_neg (by simp)]
            exact numL_hex HX.out hp1 hg2
      by_cases hin : p < s.size
      · have D1 := fun W => SD s[p] W
        have X1 := fun W => SX s[p] W
        have N1 := fun W => SN s[p] W
        have hdl : digL (rest s p) = digOf s[p].toNat := by rw [rest_in hin]; rfl
        have hten := dig_ten ⟨s[p].toNat, s[p].toNat_lt⟩
        by_cases hd : digL (rest s p) < 16
        · have hd' : digOf s[p].toNat < 16 := by rw [← hdl]; exact hd
          have W1 := fun W => SW s[p] W (by omega)
          have HN : Hid (if g = true then numGo 16 (rest s (k + 2)) 0 = none else if (4611686018427387903 - digOf s[p].toNat) / 16 < x then numGo 16 (rest s (k + 2)) 0 = none else numGo 16 (rest s (k + 2)) 0 = (numGo 16 (rest s (p + 1)) (x * 16 + digOf s[p].toNat)).map (fun y => (y.1, y.2 + (p + 1 - (k + 2))))) := by
            have hg := HG.out
            show if g = true then _ else _
            cases g with
            | true => exact hg
            | false =>
              rw [if_neg (by simp)] at hg ⊢
              rw [← hdl]
              by_cases hbig : (4611686018427387903 - digL (rest s p)) / 16 < x
              · rw [if_pos hbig, hg, numGo_big (by omega) hd hbig]
                rfl
              · rw [if_neg hbig, hg, numGo_step (by omega) hd hbig, map_map_num _ _ _ hp1]
          rw [decide_eq_true hd'] at X1
          generalize decide (cls s[p].toNat = 3) = db at D1
          generalize digOf s[p].toNat = d at HN W1 hd'
          clear HG HB hdl hten hd SD SX SN SW N1
          cases db
          all_goals
            cases g with
            | true =>
              by_cases hbig : (4611686018427387903 - d) / 16 < x
              · have hb' : (4611686018427387903 - (d : Int)) / 16 < (x : Int) := by omega
                go_wp2_with (first | (go_at_call 18; (with_reducible refine Calls.mono (D1 _) ?_); rintro e w' ⟨rfl, rfl⟩) | (go_at_call 43; (with_reducible refine Calls.mono (X1 _) ?_); rintro e w' ⟨rfl, rfl⟩) | (go_at_call 44; (with_reducible refine Calls.mono (W1 _) ?_); rintro e w' ⟨rfl, rfl⟩))
                go_roundw
                case rel => exact ⟨p + 1, x, true, by omega, by omega, hx62, by go_num, by go_num, rfl, by first | rfl | trivial, by have := HN.out; show if true = true then _ else _; simpa using this⟩
                case measure => simp [intOf]; omega
              · have hb' : ¬ (4611686018427387903 - (d : Int)) / 16 < (x : Int) := by omega
                go_wp2_with (first | (go_at_call 18; (with_reducible refine Calls.mono (D1 _) ?_); rintro e w' ⟨rfl, rfl⟩) | (go_at_call 43; (with_reducible refine Calls.mono (X1 _) ?_); rintro e w' ⟨rfl, rfl⟩) | (go_at_call 44; (with_reducible refine Calls.mono (W1 _) ?_); rintro e w' ⟨rfl, rfl⟩))
                go_roundw
                case rel => exact ⟨p + 1, x, true, by omega, by omega, hx62, by go_num, by go_num, rfl, by first | rfl | trivial, by have := HN.out; show if true = true then _ else _; simpa using this⟩
                case measure => simp [intOf]; omega
            | false =>
              by_cases hbig : (4611686018427387903 - d) / 16 < x
              · have hb' : (4611686018427387903 - (d : Int)) / 16 < (x : Int) := by omega
                go_wp2_with (first | (go_at_call 18; (with_reducible refine Calls.mono (D1 _) ?_); rintro e w' ⟨rfl, rfl⟩) | (go_at_call 43; (with_reducible refine Calls.mono (X1 _) ?_); rintro e w' ⟨rfl, rfl⟩) | (go_at_call 44; (with_reducible refine Calls.mono (W1 _) ?_); rintro e w' ⟨rfl, rfl⟩))
                go_roundw
                case rel => exact ⟨p + 1, x, true, by omega, by omega, hx62, by go_num, by go_num, rfl, by first | rfl | trivial, by have := HN.out; show if true = true then _ else _; simpa [hbig] using this⟩
                case measure => simp [intOf]; omega
              · have hb' : ¬ (4611686018427387903 - (d : Int)) / 16 < (x : Int) := by omega
                have hnb : x * 16 + d ≤ 4611686018427387903 := by omega
                go_wp2_with (first | (go_at_call 18; (with_reducible refine Calls.mono (D1 _) ?_); rintro e w' ⟨rfl, rfl⟩) | (go_at_call 43; (with_reducible refine Calls.mono (X1 _) ?_); rintro e w' ⟨rfl, rfl⟩) | (go_at_call 44; (with_reducible refine Calls.mono (W1 _) ?_); rintro e w' ⟨rfl, rfl⟩))
                go_roundw
                case rel => exact ⟨p + 1, x * 16 + d, false, by omega, by omega, hnb, by go_num, by go_num, rfl, by first | rfl | trivial, by have := HN.out; show if false = true then _ else _; simpa [hbig] using this⟩
                case measure => simp [intOf]; omega
        · have HE := HB.out.resolve_left hd
          rw [decide_eq_false (fun h => hd (by rw [hdl]; have h10 : digOf s[p].toNat < 10 := hten.2 h; omega))] at D1
          rw [decide_eq_false (fun h => hd (by rw [hdl]; exact h))] at X1
          rw [clsAt_in hin] at HE
          clear HG HB hdl hten hd SD SX SN SW
          cases g with
          | true =>
            have HF : Hid (R = none) := by have := HE.out; rw [if_pos rfl] at this; exact this
            clear HE
            generalize nsB (cls s[p].toNat) = nb at N1
            go_wp2_with (first | (go_at_call 18; (with_reducible refine Calls.mono (D1 _) ?_); rintro e w' ⟨rfl, rfl⟩) | (go_at_call 43; (with_reducible refine Calls.mono (X1 _) ?_); rintro e w' ⟨rfl, rfl⟩) | (go_at_call 45; (with_reducible refine Calls.mono (N1 _) ?_); rintro e w' ⟨rfl, rfl⟩) | (go_at_call 40; (with_reducible refine Calls.mono (FT _) ?_); rintro e w' ⟨rfl, rfl⟩))
            refine bodyPost_ret (v := .agg #[.int .i64 0, .string ⟨#[]⟩, .int .i64 0, .int .i64 0, .int .i64 0, .int .i64 11]) (by simp [results, Tryz.results24, go_sem, *]) rfl ?_
            exact ⟨by rw [HF.out]; rfl, below2 _ _ _⟩
          | false =>
            have HE2 : Hid (R = if nsB (cls s[p].toNat) = true then none else some (x, p - k)) := by have := HE.out; rw [if_neg (by simp)] at this; exact this
            clear HE
            cases hns : nsB (cls s[p].toNat) with
            | true =>
              have HF : Hid (R = none) := HE2.out.trans (if_pos (hns))
              rw [hns] at N1
              clear HE2
              go_wp2_with (first | (go_at_call 18; (with_reducible refine Calls.mono (D1 _) ?_); rintro e w' ⟨rfl, rfl⟩) | (go_at_call 43; (with_reducible refine Calls.mono (X1 _) ?_); rintro e w' ⟨rfl, rfl⟩) | (go_at_call 45; (with_reducible refine Calls.mono (N1 _) ?_); rintro e w' ⟨rfl, rfl⟩) | (go_at_call 40; (with_reducible refine Calls.mono (FT _) ?_); rintro e w' ⟨rfl, rfl⟩))
              refine bodyPost_ret (v := .agg #[.int .i64 0, .string ⟨#[]⟩, .int .i64 0, .int .i64 0, .int .i64 0, .int .i64 11]) (by simp [results, Tryz.results24, go_sem, *]) rfl ?_
              exact ⟨by rw [HF.out]; rfl, below2 _ _ _⟩
            | false =>
              rw [hns] at N1
              have HF : Hid (R = some (x, p - k)) := HE2.out.trans (if_neg (by simp [hns]))
              clear HE2
              go_wp2_with (first | (go_at_call 18; (with_reducible refine Calls.mono (D1 _) ?_); rintro e w' ⟨rfl, rfl⟩) | (go_at_call 43; (with_reducible refine Calls.mono (X1 _) ?_); rintro e w' ⟨rfl, rfl⟩) | (go_at_call 45; (with_reducible refine Calls.mono (N1 _) ?_); rintro e w' ⟨rfl, rfl⟩) | (go_at_call 40; (with_reducible refine Calls.mono (FT _) ?_); rintro e w' ⟨rfl, rfl⟩))
              refine bodyPost_ret (v := .agg #[.int .i64 6, .string ⟨#[]⟩, .int .i64 x, .int .i64 k, .int .i64 p, .int .i64 0]) (by simp [results, Tryz.results24, go_sem, *]) rfl ?_
              exact ⟨by rw [HF.out]; show _ = Ending.returned (.agg #[_, _, _, _, .int .i64 ((k + (p - k) : Nat) : Int), _]); rw [show k + (p - k) = p by omega]; rfl, below1 _ _⟩
      · have hd : ¬ digL (rest s p) < 16 := by rw [rest_out hin]; decide
        have HE := HB.out.resolve_left hd
        rw [clsAt_out hin] at HE
        have hin' : (s.size : Int) ≤ p := by omega
        clear HG HB hd SD SX SN SW
        cases g with
        | true =>
          have HF : Hid (R = none) := by have := HE.out; rw [if_pos rfl] at this; exact this
          clear HE
          go_wp2_with (first | (go_at_call 40; (with_reducible refine Calls.mono (FT _) ?_); rintro e w' ⟨rfl, rfl⟩))
          refine bodyPost_ret (v := .agg #[.int .i64 0, .string ⟨#[]⟩, .int .i64 0, .int .i64 0, .int .i64 0, .int .i64 11]) (by simp [results, Tryz.results24, go_sem, *]) rfl ?_
          exact ⟨by rw [HF.out]; rfl, below2 _ _ _⟩
        | false =>
          have HE2 : Hid (R = if nsB (0) = true then none else some (x, p - k)) := by have := HE.out; rw [if_neg (by simp)] at this; exact this
          clear HE
          have HF : Hid (R = some (x, p - k)) := HE2.out.trans (if_neg (by decide))
          clear HE2
          go_wp2_with (first | (go_at_call 40; (with_reducible refine Calls.mono (FT _) ?_); rintro e w' ⟨rfl, rfl⟩))
          refine bodyPost_ret (v := .agg #[.int .i64 6, .string ⟨#[]⟩, .int .i64 x, .int .i64 k, .int .i64 p, .int .i64 0]) (by simp [results, Tryz.results24, go_sem, *]) rfl ?_
          exact ⟨by rw [HF.out]; show _ = Ending.returned (.agg #[_, _, _, _, .int .i64 ((k + (p - k) : Nat) : Int), _]); rw [show k + (p - k) = p by omega]; rfl, below1 _ _⟩

theorem ref_number (s : ByteArray) (k : Nat) (w : World) (hs : s.size ≤ 65536) (hk : k < s.size) : Calls Tryz.prog 24 #[.string s, .int .i64 k] w fun e w' => e = .returned (tokV k 6 [] 11 (numL (rest s k))) ∧ Below w.heap.size w w' := by
  cases hx : hexB (rest s k) with
  | true => exact ref_number_hex s k w hs hk hx
  | false => exact ref_number_dec s k w hs hk hx
end Go.Proofs.YtkfhdmkdkphmoaaGreatDoor
