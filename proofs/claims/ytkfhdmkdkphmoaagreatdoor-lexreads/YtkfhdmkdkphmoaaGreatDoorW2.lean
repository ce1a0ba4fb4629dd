/- Contracts of package lex's functions on whole words: what is reserved, kinds of words and runs. -/
import Derived.Test.YtkfhdmkdkphmoaaGreatDoorW1
import Derived.Test.YtkfhdmkdkphmoaaGreatDoorShelf
import Derived.Deep.QuietTactic
namespace Go.Proofs.YtkfhdmkdkphmoaaGreatDoor
open Go.RowKit

def isRes (l : List UInt8) : Bool := l == [109, 111, 100, 117, 108, 101] || l == [105, 109, 112, 111, 114, 116] || l == [100, 97, 116, 97] || l == [105, 110, 102, 105, 120, 108] || l == [105, 110, 102, 105, 120, 114] || l == [105, 110, 102, 105, 120] || l == [108, 101, 116] || l == [105, 110] || l == [99, 97, 115, 101] || l == [111, 102] || l == [105, 102] || l == [116, 104, 101, 110] || l == [101, 108, 115, 101]

set_option maxHeartbeats 1000000 in
theorem isReserved_any (s : ByteArray) (w : World) :
    Calls Tryz.prog 73 #[.string s] w fun e w' => e = .returned (.bool (isRes s.toList)) ∧ w' = w := by
  go_enter Tryz.func73, Tryz.ntmps73
  go_wp2
  all_goals first
    | (exfalso; simp_all; done)
    | (go_ret; exact ⟨ret_bool (by simp only [isRes, *, Bool.or_true, Bool.true_or, Bool.or_false]), rfl⟩)

def wordKindP (l : List UInt8) : Nat := if isRes l then 10 else 1
theorem wordKind_any (s : ByteArray) (w : World) :
    Calls Tryz.prog 53 #[.string s] w fun e w' => e = .returned (.int .i64 (wordKindP s.toList)) ∧ w' = w := by
  cases h : isRes s.toList
  all_goals
    go_enter Tryz.func53, Tryz.ntmps53
    go_wp2_with (go_at_call 73; refine (isReserved_any _ _).mono ?_; rintro e w' ⟨rfl, rfl⟩)
    go_ret
    exact ⟨by simp [wordKindP, h], rfl⟩

/-- Behind a point that follows an upper name: does what stands there belong to it, and up to where? -/
def upperEndP (s : ByteArray) (k : Nat) : Nat × Nat :=
  let p := nameEndP s k
  if (if h : p < s.size then decide (s[p].toNat = 46) else false) then
    if clsAt s (p + 1) = 2 then (nameEndP s (p + 1), 4)
    else if clsAt s (p + 1) = 1 ∧ isRes (s.extract (p + 1) (nameEndP s (p + 1))).toList = false then (nameEndP s (p + 1), 3)
    else (p, 2)
  else (p, 2)

set_option maxHeartbeats 1000000 in
theorem upperEnd_any (s : ByteArray) (k : Nat) (w : World) (hs : s.size ≤ maxLen) (hk : k ≤ s.size) (hC : Cl w) :
    Calls Tryz.prog 54 #[.string s, .int .i64 k] w fun e w' => e = .returned (.tuple #[.int .i64 (upperEndP s k).1, .int .i64 (upperEndP s k).2]) ∧ w' = w := by
  have hp := (endOf_le nsB s k hk).2
  have N1 := nameEnd_any s k w hs hk hC
  have hu : upperEndP s k = (let p := nameEndP s k; if (if h : p < s.size then decide (s[p].toNat = 46) else false) then
    if clsAt s (p + 1) = 2 then (nameEndP s (p + 1), 4)
    else if clsAt s (p + 1) = 1 ∧ isRes (s.extract (p + 1) (nameEndP s (p + 1))).toList = false then (nameEndP s (p + 1), 3)
    else (p, 2)
  else (p, 2)) := rfl
  change nameEndP s k ≤ s.size at hp
  generalize nameEndP s k = p at hp N1 hu
  by_cases h1 : p < s.size
  · by_cases h2 : s[p].toNat = 46
    · have N2 := nameEnd_any s (p + 1) w hs (by omega) hC
      have C2 := class_any s (p + 1) w hC
      have hq := endOf_le nsB s (p + 1) (by omega)
      have I2 := fun (a b : Nat) => isReserved_any (s.extract a b) w
      simp only [h1, h2, dite_true, decide_true, if_true] at hu
      change p + 1 ≤ nameEndP s (p + 1) ∧ nameEndP s (p + 1) ≤ s.size at hq
      generalize nameEndP s (p + 1) = q at hq N2 hu
      have hc9 := clsAt_le s (p + 1)
      generalize clsAt s (p + 1) = c at C2 hu hc9
      have h2' : ((s[p].toNat : Nat) : Int) = 46 := by omega
      obtain ⟨hq1, hq2⟩ := hq
      clear hC h2
      unfold maxLen at hs
      by_cases h3 : c = 2
      · subst h3
        simp only [if_true] at hu
        rw [hu]
        clear hu
        go_enter Tryz.func54, Tryz.ntmps54
        go_wp2_with (first
          | (go_at_call_of 52 (Value.int .i64 (k : Int)); refine Calls.mono N1 ?_; rintro e w' ⟨rfl, rfl⟩)
          | (go_at_call 52; refine Calls.mono N2 ?_; rintro e w' ⟨rfl, rfl⟩)
          | (go_at_call 29; refine Calls.mono C2 ?_; rintro e w' ⟨rfl, rfl⟩))
        go_ret2
        exact ⟨rfl, rfl⟩
      · by_cases h4 : c = 1
        · subst h4
          cases h5 : isRes (s.extract (p + 1) q).toList
          · simp only [h5] at hu
            simp at hu
            rw [hu]
            clear hu
            go_enter Tryz.func54, Tryz.ntmps54
            go_wp2_with (first
              | (go_at_call_of 52 (Value.int .i64 (k : Int)); refine Calls.mono N1 ?_; rintro e w' ⟨rfl, rfl⟩)
              | (go_at_call 52; refine Calls.mono N2 ?_; rintro e w' ⟨rfl, rfl⟩)
              | (go_at_call 29; refine Calls.mono C2 ?_; rintro e w' ⟨rfl, rfl⟩)
              | (go_at_call 73; refine Calls.mono (I2 _ _) ?_; rintro e w' ⟨rfl, rfl⟩))
            go_ret2
            exact ⟨rfl, rfl⟩
          · simp only [h5] at hu
            simp at hu
            rw [hu]
            clear hu
            go_enter Tryz.func54, Tryz.ntmps54
            go_wp2_with (first
              | (go_at_call_of 52 (Value.int .i64 (k : Int)); refine Calls.mono N1 ?_; rintro e w' ⟨rfl, rfl⟩)
              | (go_at_call 52; refine Calls.mono N2 ?_; rintro e w' ⟨rfl, rfl⟩)
              | (go_at_call 29; refine Calls.mono C2 ?_; rintro e w' ⟨rfl, rfl⟩)
              | (go_at_call 73; refine Calls.mono (I2 _ _) ?_; rintro e w' ⟨rfl, rfl⟩))
            go_ret2
            exact ⟨rfl, rfl⟩
        · simp [h3, h4] at hu
          rw [hu]
          clear hu
          have h3' : ¬ (c : Int) = 2 := by omega
          have h4' : ¬ (c : Int) = 1 := by omega
          go_enter Tryz.func54, Tryz.ntmps54
          go_wp2_with (first
            | (go_at_call_of 52 (Value.int .i64 (k : Int)); refine Calls.mono N1 ?_; rintro e w' ⟨rfl, rfl⟩)
            | (go_at_call 52; refine Calls.mono N2 ?_; rintro e w' ⟨rfl, rfl⟩)
            | (go_at_call 29; refine Calls.mono C2 ?_; rintro e w' ⟨rfl, rfl⟩))
          go_ret2
          exact ⟨rfl, rfl⟩
    · simp only [h1, h2, dite_true, decide_false, Bool.false_eq_true, if_false] at hu
      rw [hu]
      clear hu hC
      have h2' : (((s[p].toNat : Nat) : Int) != 46) = true := by simp; omega
      have h1' : ((p : Int) == (s.size : Int)) = false := by simp; omega
      clear h2
      unfold maxLen at hs
      go_enter Tryz.func54, Tryz.ntmps54
      go_wp2_with (go_at_call_of 52 (Value.int .i64 (k : Int)); refine Calls.mono N1 ?_; rintro e w' ⟨rfl, rfl⟩)
      go_ret2
      exact ⟨rfl, rfl⟩
  · simp only [h1, dite_false, Bool.false_eq_true, if_false] at hu
    rw [hu]
    clear hu hC
    unfold maxLen at hs
    obtain rfl : p = s.size := by omega
    go_enter Tryz.func54, Tryz.ntmps54
    go_wp2_with (go_at_call_of 52 (Value.int .i64 (k : Int)); refine Calls.mono N1 ?_; rintro e w' ⟨rfl, rfl⟩)
    go_ret2
    exact ⟨rfl, rfl⟩

def dashB (l : List UInt8) : Bool := decide (2 ≤ l.length) && decide (l.count 45 = l.length)

theorem isDashes_any (s : ByteArray) (w : World) (hs : s.size ≤ maxLen) :
    Calls Tryz.prog 31 #[.string s] w fun e w' => e = .returned (.bool (dashB s.data.toList)) ∧ w' = w := by
  unfold maxLen at hs
  have hl : s.data.toList.length = s.size := by simp
  by_cases h : 2 ≤ s.size
  · have e : dashB s.data.toList = decide (Lib.countByte s.data.toList 45 = s.size) := by simp [dashB, hl, h, Lib.countByte]
    rw [e]
    have C := Tryz.strings_Count_one s 45 w
    generalize Lib.countByte s.data.toList 45 = c at C
    go_enter Tryz.func31, Tryz.ntmps31
    go_wp2_with (go_at_call 51; refine C.mono ?_; rintro e w' ⟨rfl, rfl⟩)
    go_ret
    exact ⟨ret_bool (by rw [Bool.eq_iff_iff]; simp; omega), rfl⟩
  · have e : dashB s.data.toList = false := by simp [dashB, hl, h]
    rw [e]
    go_enter Tryz.func31, Tryz.ntmps31
    go_wp2
    go_ret
    exact ⟨rfl, rfl⟩
end Go.Proofs.YtkfhdmkdkphmoaaGreatDoor
