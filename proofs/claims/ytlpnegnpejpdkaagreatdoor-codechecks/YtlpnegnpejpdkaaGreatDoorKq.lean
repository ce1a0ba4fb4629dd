/- sumOf: the usual sum of 32 bits. -/
import Derived.Test.YtlpnegnpejpdkaaGreatDoorKd
import Derived.Laws.BitsAllLaws
import Derived.Laws.Shifts
import Derived.Shelf.Spec.TrailingZeros
namespace Go.Proofs.YtlpnegnpejpdkaaGreatDoor
open Go.RowKit

/-- A row of bytes, to be read. -/
def Bts (w : World) (v : Value) (l : Byt) : Prop := ∃ ad cap, v = .slice ad l.length cap ∧ ∀ i (h : i < l.length), ∃ g o, ad = some ⟨g, o, none⟩ ∧ l.length ≤ cap ∧ g < w.heap.size ∧ w.cell? ⟨g, o + i, none⟩ = some (.int .u8 (l[i].toNat : Nat))
theorem Bts.on {w w' : World} {v : Value} {l : Byt} (h : Bts w v l) (hb : Below w.heap.size w w') : Bts w' v l := by
  obtain ⟨ad, cap, e, hh⟩ := h
  refine ⟨ad, cap, e, fun i hi => ?_⟩
  obtain ⟨g, o, q1, q2, q3, q4⟩ := hh i hi
  exact ⟨g, o, q1, q2, Nat.lt_of_lt_of_le q3 hb.size, (hb.cell (p := ⟨g, o + i, none⟩) q3).trans q4⟩
theorem reg_take {l : Byt} {i : Nat} (h : i < l.length) (r : Nat) : regP r (l.take (i + 1)) = byteP (regP r (l.take i)) l[i] := by
  rw [List.take_succ_eq_append_getElem h, reg_app]
  rfl
theorem and_one (r : Nat) : r &&& 1 = r % 2 := Nat.and_one_is_mod r
theorem not_reg {r : Nat} (h : r < 4294967296) : 4294967295 ^^^ r = 4294967295 - r := by
  apply Nat.eq_of_testBit_eq
  intro i
  have e1 : (4294967295 : Nat).testBit i = decide (i < 32) := Nat.testBit_two_pow_sub_one 32 i
  have e2 : (4294967295 - r).testBit i = (decide (i < 32) && !r.testBit i) := by
    have := Nat.testBit_two_pow_sub_succ (n := 32) (x := r) (by omega) i
    rw [show 2 ^ 32 - (r + 1) = 4294967295 - r by omega] at this
    exact this
  rw [Nat.testBit_xor, e1, e2]
  by_cases hi : i < 32
  · rw [decide_eq_true hi]; cases r.testBit i <;> rfl
  · have : r.testBit i = false := Nat.testBit_lt_two_pow (Nat.lt_of_lt_of_le h (Nat.pow_le_pow_right (n := 2) (by decide) (show 32 ≤ i by omega)))
    rw [decide_eq_false hi, this]; rfl
theorem not_bits {r : Nat} (h : r < 4294967296) : bits BinOp.xor IntKind.u32 (if IntKind.u32.signed = true then -1 else IntKind.u32.max) (r : Int) = ((4294967295 - r : Nat) : Int) := by
  have e : (if IntKind.u32.signed = true then (-1 : Int) else IntKind.u32.max) = ((4294967295 : Nat) : Int) := by rfl
  rw [e, u32_xor_nat 4294967295 r (by omega) h, not_reg h]
set_option maxHeartbeats 8000000 in
set_option maxRecDepth 10000 in
theorem sumOf_any {w : World} {v : Value} {l : Byt} (h : Bts w v l) (hl : l.length < 140737488355328) : Calls Tryz.prog 96 #[v] w fun r w' => r = .returned (.slice (some ⟨w.heap.size, 0, none⟩) 4 4) ∧ Hid (w' = w.alloc (.cells ((sumP l).map fun b => Value.int .u8 (b.toNat : Nat)).toArray 5)) := by
  obtain ⟨ad, cap, rfl, HV⟩ := h
  have HVV : Hid (∀ i (h : i < l.length), ∃ g o, ad = some ⟨g, o, none⟩ ∧ l.length ≤ cap ∧ g < w.heap.size ∧ w.cell? ⟨g, o + i, none⟩ = some (.int .u8 (l[i].toNat : Nat))) := HV
  clear HV
  go_enter Tryz.func96, Tryz.ntmps96
  go_upto_region 3 with fail
  go_loopw [3, 9] (fun rv iv wr => ∃ (i r : Nat), i ≤ l.length ∧ iv = .int .i64 i ∧ rv = .int .u32 (r : Nat) ∧ wr = w ∧ Hid (r = regP 4294967295 (l.take i) ∧ r < 4294967296)) (fun _ iv _ => l.length - (intOf iv).toNat)
  case atStart => exact ⟨0, 4294967295, by omega, by go_num, by go_num, rfl, rfl, by omega⟩
  case round =>
    obtain ⟨i, r, hi, rfl, rfl, rfl, HR⟩ := hrel
    by_cases hil : i < l.length
    · obtain ⟨g, o, rfl, hc, hg, c0⟩ := HVV.out i hil
      have i1 : (0 : Int) ≤ (i : Int) := by omega
      have i2 : (i : Int) < (l.length : Int) := by omega
      have HST : Hid (byteP r l[i] = regP 4294967295 (l.take (i + 1)) ∧ byteP r l[i] < 4294967296) := ⟨by rw [reg_take hil, ← HR.out.1], byte_lt HR.out.2 _⟩
      have hbl := l[i].toNat_lt
      have hrl := HR.out.2
      have hx := u32_xor_nat r l[i].toNat (by omega) (by omega)
      have HXL : Hid (bitsP 8 (r ^^^ l[i].toNat) = byteP r l[i] ∧ r ^^^ l[i].toNat < 4294967296) := ⟨rfl, xin_lt HR.out.2 _⟩
      clear HR
      generalize byteP r l[i] = nb at *
      generalize l[i].toNat = bb at *
      generalize r ^^^ bb = r0 at *
      go_upto_region 7 with fail
      obtain ⟨wo, hwo⟩ : ∃ wo, wo = wr := ⟨_, rfl⟩
      subst hwo
      go_loopw [3, 17] (fun rv cv wi => ∃ (c r : Nat), c ≤ 8 ∧ cv = .int .i64 c ∧ rv = .int .u32 (r : Nat) ∧ wi = wo ∧ Hid (bitsP (8 - c) r = nb ∧ r < 4294967296)) (fun _ cv _ => 8 - (intOf cv).toNat)
      case atStart => exact ⟨0, r0, by omega, by go_num, by go_num, rfl, HXL.out⟩
      case round =>
        clear HXL hx
        obtain ⟨c, r1, hc8, rfl, rfl, rfl, HQ⟩ := hrel
        by_cases hc : c < 8
        · have i3 : (c : Int) < 8 := by omega
          have hr1 := HQ.out.2
          have qa : bits BinOp.and IntKind.u32 (r1 : Int) 1 = ((r1 % 2 : Nat) : Int) := by
            have := u32_and_nat r1 1 hr1 (by omega)
            rw [and_one] at this
            exact this
          have HB1 : Hid (bitsP (8 - (c + 1)) (bitP r1) = nb ∧ bitP r1 < 4294967296) := by
            refine ⟨?_, bit_lt hr1⟩
            rw [← HQ.out.1, show 8 - c = (8 - (c + 1)) + 1 by omega]
            rfl
          by_cases h1 : r1 % 2 = 1
          · have e1 : (((r1 : Int) % 2) == 1) = true := by simp; omega
            have hbp : bitP r1 = r1 / 2 ^^^ 3988292384 := by unfold bitP; rw [if_pos h1]
            have qx : bits BinOp.xor IntKind.u32 ((r1 : Int) / 2) 3988292384 = ((r1 / 2 ^^^ 3988292384 : Nat) : Int) := by
              have := u32_xor_nat (r1 / 2) 3988292384 (by omega) (by omega)
              rw [← this]
              rfl
            rw [hbp] at HB1
            clear hbp HQ
            generalize r1 / 2 ^^^ 3988292384 = nx at *
            go_wp2
            go_roundw
            case rel => exact ⟨c + 1, nx, by omega, by go_num, by go_num, by first | rfl | trivial, HB1.out⟩
            case measure => simp [intOf]; omega
          · have e1 : (((r1 : Int) % 2) == 1) = false := by simp; omega
            have hbp : bitP r1 = r1 / 2 := by unfold bitP; rw [if_neg h1]
            rw [hbp] at HB1
            clear hbp HQ
            go_wp2
            go_roundw
            case rel => exact ⟨c + 1, r1 / 2, by omega, by go_num, by first | rfl | go_num, by first | rfl | trivial, HB1.out⟩
            case measure => simp [intOf]; omega
        · have hc8' : c = 8 := by omega
          have HE : Hid (r1 = nb) := by
            show r1 = nb
            rw [← HQ.out.1, hc8']
            rfl
          have e3 : ¬ ((c : Int) < 8) := by omega
          have HST2 : Hid (r1 = regP 4294967295 (l.take (i + 1)) ∧ r1 < 4294967296) := by rw [HE.out]; exact HST.out
          clear HQ hc8' HE HST
          go_wp2
          go_roundw
          case rel => exact ⟨i + 1, r1, by omega, by go_num, by go_num, by first | rfl | trivial, HST2.out⟩
          case measure => simp [intOf]; omega
    · have hie : i = l.length := by omega
      have HE : Hid (crcP l = 4294967295 - r ∧ r < 4294967296) := by
        refine ⟨?_, HR.out.2⟩
        unfold crcP
        rw [HR.out.1, hie, List.take_length]
      have e3 : ¬ ((i : Int) < (l.length : Int)) := by omega
      have hr := HR.out.2
      clear HR hie
      have qn := not_bits hr
      have hcl : 4294967295 - r < 4294967296 := by omega
      replace HE : Hid (crcP l = 4294967295 - r) := HE.out.1
      generalize 4294967295 - r = c at *
      have hs : ((sumP l).map fun b => Value.int .u8 (b.toNat : Nat)).toArray = #[.int .u8 ((c : Int) % 256), .int .u8 ((c : Int) / 256 % 256), .int .u8 ((c : Int) / 65536 % 256), .int .u8 ((c : Int) / 16777216)] := by
        unfold sumP
        rw [HE.out]
        simp only [List.map_cons, List.map_nil, UInt8.toNat_ofNat']
        have h4 : ((c / 16777216 % 2 ^ 8 : Nat) : Int) = (c : Int) / 16777216 := by omega
        rw [h4]
        rfl
      have HS : Hid (((sumP l).map fun b => Value.int .u8 (b.toNat : Nat)).toArray = #[.int .u8 ((c : Int) % 256), .int .u8 ((c : Int) / 256 % 256), .int .u8 ((c : Int) / 65536 % 256), .int .u8 ((c : Int) / 16777216)]) := hs
      clear hs
      go_wp2
      go_ret
      exact ⟨rfl, by show _ = _; rw [HS.out]⟩
end Go.Proofs.YtlpnegnpejpdkaaGreatDoor
