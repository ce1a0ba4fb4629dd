/- The plain side of package lex on what is left of a text: digits, numbers, escapes, what stands between quotes. -/
import Derived.Test.YtkfhdmkdkphmoabDoorPure
namespace Go.Proofs.YtkfhdmkdkphmoabDoor

/-- What is left of a text from a place on. -/
def rest (s : ByteArray) (k : Nat) : List UInt8 := s.data.toList.drop k
theorem rest_in {s : ByteArray} {k : Nat} (h : k < s.size) : rest s k = s[k] :: rest s (k + 1) := by
  unfold rest
  rw [List.drop_eq_getElem_cons (by simpa using h)]
  rfl
theorem rest_out {s : ByteArray} {k : Nat} (h : ¬ k < s.size) : rest s k = [] := by
  unfold rest
  rw [List.drop_eq_nil_of_le (by simp; omega)]
theorem rest_len (s : ByteArray) (k : Nat) : (rest s k).length = s.size - k := by simp [rest]
theorem rest_drop (s : ByteArray) (k n : Nat) : (rest s k).drop n = rest s (k + n) := by simp [rest, List.drop_drop]

def clsHd : List UInt8 → Nat
  | [] => 0
  | c :: _ => cls c.toNat
theorem clsAt_rest (s : ByteArray) (k : Nat) : clsAt s k = clsHd (rest s k) := by
  by_cases h : k < s.size
  · rw [rest_in h, clsAt_in h]; rfl
  · rw [rest_out h, clsAt_out h]; rfl

def spanLen (p : Nat → Bool) : List UInt8 → Nat
  | [] => 0
  | c :: l => if p (cls c.toNat) then spanLen p l + 1 else 0
theorem endOf_span (p : Nat → Bool) (s : ByteArray) (k : Nat) (h0 : p 0 = false) : endOf p s k = k + spanLen p (rest s k) := by
  have all : ∀ m k, s.size - k = m → endOf p s k = k + spanLen p (rest s k) := by
    intro m
    induction m with
    | zero =>
      intro k hm
      have h : ¬ k < s.size := by omega
      rw [rest_out h, endOf_stop (by rw [clsAt_out h]; exact h0)]; simp [spanLen]
    | succ m ih =>
      intro k hm
      have h : k < s.size := by omega
      rw [rest_in h]
      unfold spanLen
      cases hp : p (cls s[k].toNat)
      · rw [endOf_stop (by rw [clsAt_in h]; exact hp)]; simp
      · rw [endOf_step h (by rw [clsAt_in h]; exact hp), ih (k + 1) (by omega)]
        simp; omega
  exact all _ k rfl

/-- What a byte stands for as a digit; 16: none. -/
def digOf (c : Nat) : Nat := if cls c = 3 then c - 48 else if cls c = 1 ∧ c ≤ 102 then c - 97 + 10 else 16
def digL : List UInt8 → Nat
  | [] => 16
  | c :: _ => digOf c.toNat
theorem digOf_le (c : Nat) : digOf c ≤ 16 := by
  by_cases h : c < 128
  · exact (by decide : ∀ c : Fin 128, digOf c.1 ≤ 16) ⟨c, h⟩
  · unfold digOf; rw [cls_big (by omega)]; simp
theorem digL_le (l : List UInt8) : digL l ≤ 16 := by cases l <;> simp [digL, digOf_le]
theorem cls3 {c : Nat} (h : cls c = 3) : 48 ≤ c ∧ c ≤ 57 := by
  by_cases h' : c < 128
  · exact (by decide : ∀ c : Fin 128, cls c.1 = 3 → 48 ≤ c.1 ∧ c.1 ≤ 57) ⟨c, h'⟩ h
  · rw [cls_big (by omega)] at h; cases h
theorem cls1 {c : Nat} (h : cls c = 1) : 97 ≤ c ∧ c ≤ 122 := by
  by_cases h' : c < 128
  · exact (by decide : ∀ c : Fin 128, cls c.1 = 1 → 97 ≤ c.1 ∧ c.1 ≤ 122) ⟨c, h'⟩ h
  · rw [cls_big (by omega)] at h; cases h

/-- The number that digits make, going on from one, and how many there are; none: too great. -/
def numGo (b : Nat) : List UInt8 → Nat → Option (Nat × Nat)
  | [], n => some (n, 0)
  | c :: r, n => if digOf c.toNat < b then (if (4611686018427387903 - digOf c.toNat) / b < n then none else (numGo b r (n * b + digOf c.toNat)).map (fun x => (x.1, x.2 + 1))) else some (n, 0)

def hexB (l : List UInt8) : Bool := [48, 120].isPrefixOf l && decide (digL (l.drop 2) < 16)
/-- A number and its length; none: it is none. -/
def numL (l : List UInt8) : Option (Nat × Nat) :=
  let b := if hexB l then 16 else 10
  let o := if hexB l then 2 else 0
  match numGo b (l.drop o) 0 with
  | none => none
  | some (v, m) => if (b = 10 ∧ l.head? = some 48 ∧ 1 < m) ∨ nsB (clsHd (l.drop (o + m))) = true then none else some (v, o + m)

def plainB (c : Nat) : Bool := decide (32 ≤ c) && decide (c ≤ 126)

def hdN : List UInt8 → Nat
  | [] => 0
  | c :: _ => c.toNat
def val3 (l : List UInt8) : Nat := 100 * (hdN l - 48) + 10 * (hdN (l.drop 1) - 48) + (hdN (l.drop 2) - 48)
/-- Three digits that make a byte. -/
def esc3 (l : List UInt8) : Option (Nat × Nat) :=
  if clsHd l = 3 ∧ clsHd (l.drop 1) = 3 ∧ clsHd (l.drop 2) = 3 ∧ val3 l ≤ 255 then some (val3 l, 3) else none

/-- What stands behind a backslash: the byte, and how many bytes say it. -/
def escL : List UInt8 → Option (Nat × Nat)
  | [] => none
  | c :: r =>
    if c = 110 then some (10, 1) else if c = 116 then some (9, 1)
    else if c = 92 ∨ c = 39 ∨ c = 34 then some (c.toNat, 1)
    else esc3 (c :: r)

/-- A byte between quotes, and how many bytes say it. -/
def quotedL (a : Nat) : List UInt8 → Option (Nat × Nat)
  | [] => none
  | c :: r => if c = 92 then (escL r).map (fun x => (x.1, x.2 + 1)) else if plainB c.toNat = true ∧ c.toNat ≠ a then some (c.toNat, 1) else none


theorem escL_pos {l : List UInt8} {b n : Nat} (h : escL l = some (b, n)) : 1 ≤ n ∧ n ≤ l.length ∧ b ≤ 255 := by
  cases l with
  | nil => simp [escL] at h
  | cons c r =>
    rw [escL] at h
    split at h
    · simp at h; simp; omega
    · split at h
      · simp at h; simp; omega
      · split at h
        · simp at h
          have := c.toNat_lt
          simp; omega
        · unfold esc3 at h
          split at h
          · rename_i hh
            simp at h
            obtain ⟨h1, h2⟩ := h
            have : 2 < (c :: r).length := by
              by_cases h3 : 2 < (c :: r).length
              · exact h3
              · have := hh.2.2.1
                rw [List.drop_eq_nil_of_le (by omega)] at this
                cases this
            omega
          · cases h
theorem quotedL_pos {a : Nat} {l : List UInt8} {b n : Nat} (h : quotedL a l = some (b, n)) : 1 ≤ n ∧ n ≤ l.length ∧ b ≤ 255 := by
  cases l with
  | nil => simp [quotedL] at h
  | cons c r =>
    rw [quotedL] at h
    split at h
    · simp only [Option.map_eq_some_iff, Prod.exists] at h
      obtain ⟨b', n', h1, h2⟩ := h
      have := escL_pos h1
      simp at h2 ⊢
      omega
    · split at h
      · simp at h
        have := c.toNat_lt
        simp; omega
      · cases h

/-- A character and its length: from the quote on. -/
def charL (l : List UInt8) : Option (Nat × Nat) :=
  match quotedL 39 (l.drop 1) with
  | none => none
  | some (b, n) => if clsHd (l.drop (1 + n)) = 4 then some (b, n + 2) else none

/-- What a string says from behind its first quote on, and how many bytes up to behind its last one, in so many steps at most. -/
def strGo : Nat → List UInt8 → Option (List UInt8 × Nat)
  | 0, _ => none
  | m + 1, l =>
    if clsHd l = 7 then some ([], 1)
    else match quotedL 34 l with
      | none => none
      | some (b, n) => (strGo m (l.drop n)).map (fun x => (b.toUInt8 :: x.1, x.2 + n))
/-- What a string says from behind its first quote on, and how many bytes up to behind its last one. -/
def strL (l : List UInt8) : Option (List UInt8 × Nat) := strGo l.length l
theorem strGo_same : ∀ (m m' : Nat) (l : List UInt8), l.length ≤ m → l.length ≤ m' → strGo m l = strGo m' l := by
  have nil : ∀ m, strGo m ([] : List UInt8) = none := by
    intro m
    cases m with
    | zero => rfl
    | succ m => rfl
  intro m
  induction m with
  | zero =>
    intro m' l h _
    obtain rfl : l = [] := List.length_eq_zero_iff.1 (by omega)
    rw [nil m']
    rfl
  | succ m ih =>
    intro m' l h h'
    cases m' with
    | zero =>
      obtain rfl : l = [] := List.length_eq_zero_iff.1 (by omega)
      rw [nil (m + 1)]
      rfl
    | succ m' =>
      rw [strGo, strGo]
      split
      · rfl
      · split
        · rfl
        · rename_i b n hq
          have hp := quotedL_pos hq
          rw [ih m' (l.drop n) (by simp; omega) (by simp; omega)]
theorem strL_end {l : List UInt8} (h : clsHd l = 7) : strL l = some ([], 1) := by
  cases l with
  | nil => cases h
  | cons c r =>
    show strGo (r.length + 1) (c :: r) = _
    rw [strGo, if_pos h]
theorem strL_none {l : List UInt8} (h : ¬ clsHd l = 7) (hq : quotedL 34 l = none) : strL l = none := by
  cases l with
  | nil => rfl
  | cons c r =>
    show strGo (r.length + 1) (c :: r) = _
    rw [strGo, if_neg h, hq]
theorem strL_some {l : List UInt8} {b n : Nat} (h : ¬ clsHd l = 7) (hq : quotedL 34 l = some (b, n)) : strL l = (strL (l.drop n)).map (fun x => (b.toUInt8 :: x.1, x.2 + n)) := by
  have hp := quotedL_pos hq
  cases l with
  | nil => simp at hp; omega
  | cons c r =>
    show strGo (r.length + 1) (c :: r) = _
    rw [strGo, if_neg h, hq]
    simp only []
    rw [strGo_same r.length ((c :: r).drop n).length ((c :: r).drop n) (by simp at hp ⊢; omega) (Nat.le_refl _)]
    rfl
/-- Going through a string, a byte that is said at a time. -/
theorem strInd {motive : List UInt8 → Prop} (case1 : ∀ l, clsHd l = 7 → motive l) (case2 : ∀ l, ¬ clsHd l = 7 → quotedL 34 l = none → motive l) (case3 : ∀ l, ¬ clsHd l = 7 → ∀ b n, quotedL 34 l = some (b, n) → motive (l.drop n) → motive l) (l : List UInt8) : motive l := by
  have all : ∀ m (l : List UInt8), l.length ≤ m → motive l := by
    intro m
    induction m with
    | zero =>
      intro l hl
      obtain rfl : l = [] := List.length_eq_zero_iff.1 (by omega)
      exact case2 [] (by decide) rfl
    | succ m ih =>
      intro l hl
      by_cases h : clsHd l = 7
      · exact case1 l h
      · cases hq : quotedL 34 l with
        | none => exact case2 l h hq
        | some x =>
          have hp := quotedL_pos (b := x.1) (n := x.2) hq
          exact case3 l h x.1 x.2 hq (ih _ (by simp; omega))
  exact all l.length l (Nat.le_refl _)
end Go.Proofs.YtkfhdmkdkphmoabDoor
