/- Contracts of characters and strings. -/
import Derived.Test.YtkfhdmkdkphmoaaGreatDoorW4
namespace Go.Proofs.YtkfhdmkdkphmoaaGreatDoor
open Go.RowKit

theorem Cl.below {B : Nat} {w w' : World} (h : Cl w) (hb : Below B w w') (h1 : 1 < B) : Cl w' := fun i hi => (hb.cell (p := ⟨0, i, none⟩) (Nat.lt_trans Nat.zero_lt_one h1)).trans (h i hi)

/-- What readChar answers. -/
def charVal (k : Nat) : Option (Nat × Nat) → Value
  | none => .tuple #[.int .i64 0, .int .i64 0, .int .i64 12]
  | some (b, n) => .tuple #[.int .i64 b, .int .i64 (k + n : Nat), .int .i64 0]
/-- What readString answers. -/
def strVal (k : Nat) : Option (List UInt8 × Nat) → Value
  | none => .tuple #[.string ⟨#[]⟩, .int .i64 0, .int .i64 12]
  | some (t, n) => .tuple #[.string ⟨t.toArray⟩, .int .i64 (k + 1 + n : Nat), .int .i64 0]

set_option maxHeartbeats 1000000 in
theorem readChar_any (s : ByteArray) (k : Nat) (w : World) (hs : s.size ≤ 65536) (hC : Cl w) (hk : k < s.size) :
    Calls Tryz.prog 59 #[.string s, .int .i64 k] w fun e w' => e = .returned (charVal k (charL (rest s k))) ∧ w' = w := by
  have Q := quoted_any s (k + 1) 39 w hs hC (by omega)
  rw [show ((k + 1 : Nat) : Int) = (k : Int) + 1 from rfl] at Q
  have hE : charL (rest s k) = match quotedL 39 (rest s (k + 1)) with
    | none => none
    | some (b, n) => if clsHd (rest s (k + 1 + n)) = 4 then some (b, n + 2) else none := by
    unfold charL
    rw [rest_drop]
    cases quotedL 39 (rest s (k + 1)) with
    | none => rfl
    | some x => simp only []; rw [rest_drop, show k + (1 + x.2) = k + 1 + x.2 by omega]
  have hq : ∀ b n, quotedL 39 (rest s (k + 1)) = some (b, n) → k + 1 + n ≤ s.size ∧ b ≤ 255 := by
    intro b n h
    have := quotedL_pos h
    rw [rest_len] at this
    omega
  generalize quotedL 39 (rest s (k + 1)) = o at Q hE hq
  rw [hE]
  clear hE
  cases o with
  | none =>
    clear hC
    go_enter Tryz.func59, Tryz.ntmps59
    go_wp2_with (go_at_call 76; refine Calls.mono Q ?_; rintro e w' ⟨⟨x, y, rfl, hxy⟩, rfl⟩)
    go_ret3
    exact ⟨rfl, rfl⟩
  | some x =>
    obtain ⟨b, n⟩ := x
    have hn := hq b n rfl
    obtain ⟨hn1, hn2⟩ := hn
    have C := class_any s (k + 1 + n) w hC
    rw [clsAt_rest] at C
    simp only []
    clear hC hq
    by_cases h4 : clsHd (rest s (k + 1 + n)) = 4
    · rw [if_pos h4]
      rw [h4] at C
      clear h4
      go_enter Tryz.func59, Tryz.ntmps59
      go_wp2_with (first
        | (go_at_call 76; refine Calls.mono Q ?_; rintro e w' ⟨⟨x, y, rfl, hxy⟩, rfl⟩; obtain ⟨rfl, rfl⟩ := hxy b n rfl)
        | (go_at_call 29; refine Calls.mono C ?_; rintro e w' ⟨rfl, rfl⟩))
      go_ret3
      exact ⟨by simp [charVal]; omega, rfl⟩
    · rw [if_neg h4]
      have h4' : (((clsHd (rest s (k + 1 + n)) : Nat) : Int) != 4) = true := by simp; omega
      generalize clsHd (rest s (k + 1 + n)) = c at C h4'
      clear h4
      go_enter Tryz.func59, Tryz.ntmps59
      go_wp2_with (first
        | (go_at_call 76; refine Calls.mono Q ?_; rintro e w' ⟨⟨x, y, rfl, hxy⟩, rfl⟩; obtain ⟨rfl, rfl⟩ := hxy b n rfl)
        | (go_at_call 29; refine Calls.mono C ?_; rintro e w' ⟨rfl, rfl⟩))
      go_ret3
      exact ⟨rfl, rfl⟩

def byteV (c : UInt8) : Value := .int .u8 (c.toNat : Int)

theorem Tryz.info5 : (Tryz.prog.info? 5).map (fun i => (i.zero, i.size, i.bytes)) = some (some (.int .u8 0), 1, 1) := by kernel_rfl

/-- 'string(b)' of a row of bytes that the call itself made. -/
theorem run_string_own {w : World} {B : Nat} {v : Value} (t : List UInt8) (h : w.ownsRow B 5 1 v t.length (t.map byteV)) :
    (convert 63 9 v).run Tryz.prog w = .ok (.string ⟨t.toArray⟩) w := by
  rcases id h with ⟨_, ⟨rfl, hn⟩ | ⟨g, cap, cur, rfl, _⟩⟩
  · obtain rfl : t = [] := List.length_eq_zero_iff.1 hn
    rw [run_convert_bytes_string w 63 9 5 none 0 0 Tryz.underlying63 Tryz.underlying5 Tryz.underlying9]
    simp [Conv.bytesToString, Sem.run_pure, go_sem]
    rfl
  · refine run_convert_bytes_back w 63 9 5 ⟨g, 0, none⟩ cap t Tryz.underlying63 Tryz.underlying5 Tryz.underlying9 ?_
    intro j hj
    exact h.cells rfl j _ (by simp [hj, byteV])

/-- What is known in the midst of a string: the place, what it has said so far, the world. -/
theorem str_step {w wr w1 : World} {B : Nat} {v v' : Value} {t : List UInt8} {b : Nat} (hb : b ≤ 255) (hB : B = w.heap.size) (hbel : Below B w wr)
    (hown : wr.ownsRow B 5 1 v t.length (t.map byteV)) {o : Obj} (hown' : w1.ownsRow B 5 1 v' (t.length + 1) (t.map byteV ++ [.int .u8 (b : Int)])) (hg : (wr.alloc o).grownBy w1 v.ownBlock) :
    w1.ownsRow B 5 1 v' (t ++ [b.toUInt8]).length ((t ++ [b.toUInt8]).map byteV) ∧ Below B w w1 := by
  refine ⟨?_, ?_⟩
  · have e : (t ++ [b.toUInt8]).map byteV = t.map byteV ++ [.int .u8 (b : Int)] := by
      simp [byteV]
      omega
    rw [e]
    simpa using hown'
  · have h1 := hbel.size
    refine (hbel.alloc (by omega) o).grown hg (by simp; omega) ?_
    intro k hk
    exact (hown.lt k hk).1

set_option maxHeartbeats 1000000 in
set_option maxRecDepth 10000 in
theorem readString_any (s : ByteArray) (k : Nat) (w : World) (hs : s.size ≤ 65536) (hC : Cl w) (h2 : 1 < w.heap.size) (hk : k < s.size) :
    Calls Tryz.prog 60 #[.string s, .int .i64 k] w fun e w' => e = .returned (strVal k (strL (rest s (k + 1)))) ∧ Below w.heap.size w w' := by
  obtain ⟨B, hB⟩ : ∃ B, B = w.heap.size := ⟨_, rfl⟩
  obtain ⟨i0, hi, hz0, hz1, hz2⟩ := info_parts Tryz.info5
  rw [← hB] at h2 ⊢
  have HB : Hid (B = w.heap.size) := hB
  clear hB
  generalize hR : strL (rest s (k + 1)) = R
  go_enter Tryz.func60, Tryz.ntmps60
  go_wp2_with fail
  go_loopw [1, 7] (fun i v wr => ∃ (j : Nat) (t : List UInt8), j ≤ s.size ∧ k + 1 ≤ j ∧ t.length ≤ j ∧ i = .int .i64 j ∧ wr.ownsRow B 5 1 v t.length (t.map byteV) ∧ Below B w wr ∧ Hid (R = (strL (rest s j)).map (fun x => (t ++ x.1, x.2 + (j - (k + 1)))))) (fun i _ _ => s.size - (intOf i).toNat)
  case atStart => exact ⟨k + 1, [], by omega, by omega, by simp, by go_num, World.ownsRow_nil _ _ _ _, Below.refl _ _, by
    show R = _
    rw [← hR]; cases strL (rest s (k + 1)) <;> simp⟩
  case round =>
    obtain ⟨j, t, hj, hj1, ht, rfl, hown, hbel, HR⟩ := hrel
    have hCr := hC.below hbel h2
    have C := class_any s j wr hCr
    have Q := quoted_any s j 34 wr hs hCr hj
    rw [clsAt_rest] at C
    clear hR
    by_cases h7 : clsHd (rest s j) = 7
    · have HE : Hid (R = some (t, 1 + (j - (k + 1)))) := by
        show R = _
        rw [HR.out, strL_end h7]; simp
      rw [h7] at C
      have hrun := run_string_own t hown
      clear Q HR h7 hown
      go_wp2_with (go_at_call 29; refine Calls.mono C ?_; rintro e w' ⟨rfl, rfl⟩)
      go_ret3
      refine ⟨?_, hbel⟩
      rw [HE.out]
      simp [strVal]
      omega
    · have h7' : (((clsHd (rest s j) : Nat) : Int) != 7) = true := by simp; omega
      cases hq : quotedL 34 (rest s j) with
      | none =>
        have HE : Hid (R = none) := by
          show R = _
          rw [HR.out, strL_none h7 hq]; simp
        rw [hq] at Q
        generalize clsHd (rest s j) = c at C h7'
        clear HR h7 hq hown
        go_wp2_with (first
          | (go_at_call 29; refine Calls.mono C ?_; rintro e w' ⟨rfl, rfl⟩)
          | (go_at_call 76; refine Calls.mono Q ?_; rintro e w' ⟨⟨x, y, rfl, hxy⟩, rfl⟩))
        go_ret3
        refine ⟨?_, hbel⟩
        rw [HE.out]
        rfl
      | some x =>
        obtain ⟨b, n⟩ := x
        have hn := quotedL_pos hq
        rw [rest_len] at hn
        have HE : Hid (R = (strL (rest s (j + n))).map (fun x => ((t ++ [b.toUInt8]) ++ x.1, x.2 + (j + n - (k + 1))))) := by
          show R = _
          rw [HR.out, strL_some h7 hq, rest_drop]
          cases strL (rest s (j + n)) <;> simp
          omega
        rw [hq] at Q
        have hc : Hid (1 ≤ n ∧ n ≤ s.size - j ∧ b ≤ 255) := hn
        have hn1 : j + n ≤ s.size := by omega
        have hHB := HB.out
        have hsz := hbel.size
        generalize clsHd (rest s j) = c at C h7'
        clear HR h7 hq hn hCr hHB
        go_wp2_with (first
          | (go_at_call 29; refine Calls.mono C ?_; rintro e w' ⟨rfl, rfl⟩)
          | (go_at_call 76; refine Calls.mono Q ?_; rintro e w' ⟨⟨x, y, rfl, hxy⟩, rfl⟩; obtain ⟨rfl, rfl⟩ := hxy b n rfl)
          | (at_builtin; refine wpList_append_own _ rfl _ _ 63 rfl B 5 i0 (.int .u8 0) 1 1 Tryz.underlying63 hi hz0 hz1 hz2 rfl (by decide) _ _ _ rfl (hown.alloc _) ⟨w'.heap.size, 0, none⟩ 1 1 [.int .u8 (b : Int)] rfl rfl ?c1 ?c2 ?c3 ?c4 ?c5 ?_))
        case c1 =>
          intro j' u hj'
          match j', hj' with
          | 0, hj' => simp at hj'; subst hj'; simp [Addr.add]
        case c2 => intro u hu; simp at hu; subst hu; rfl
        case c3 => unfold maxLen; omega
        case c4 => omega
        case c5 => have := HB.out; simp; omega
        intro v' w1 hown' hgrow _
        have R1 := str_step (b := b) hc.out.2.2 HB.out hbel hown hown' hgrow
        clear hown' hgrow hown C Q hxy
        go_wp2
        go_roundw
        case rel => exact ⟨j + n, t ++ [b.toUInt8], hn1, by omega, by have := hc.out; simp; omega, by go_num, R1.1, R1.2, HE⟩
        case measure => have := hc.out; simp [intOf]; omega
end Go.Proofs.YtkfhdmkdkphmoaaGreatDoor
