/- The plain side of package lex: classes of bytes, ends of names and runs, as functions of a text and a place; nothing of the program stands here. -/
namespace Go.Proofs.YtkfhdmkdkphmoabDoor

def clsT : List Nat := [0, 0, 0, 0, 0, 0, 0, 0, 0, 6, 6, 0, 0, 6, 0, 0, 0, 0, 0, 0, 0, 0, 0, 0, 0, 0, 0, 0, 0, 0, 0, 0,
  6, 8, 7, 8, 8, 8, 8, 4, 9, 9, 8, 8, 9, 8, 8, 8, 3, 3, 3, 3, 3, 3, 3, 3, 3, 3, 8, 9, 8, 8, 8, 8,
  8, 2, 2, 2, 2, 2, 2, 2, 2, 2, 2, 2, 2, 2, 2, 2, 2, 2, 2, 2, 2, 2, 2, 2, 2, 2, 2, 9, 9, 9, 8, 5,
  9, 1, 1, 1, 1, 1, 1, 1, 1, 1, 1, 1, 1, 1, 1, 1, 1, 1, 1, 1, 1, 1, 1, 1, 1, 1, 1, 9, 8, 9, 8, 0]

def cls (c : Nat) : Nat := clsT.getD c 0

/-- The class of the byte at a place; 0 behind the end. -/
def clsAt (s : ByteArray) (k : Nat) : Nat := if h : k < s.size then cls s[k].toNat else 0

theorem clsAt_in {s : ByteArray} {k : Nat} (h : k < s.size) : clsAt s k = cls s[k].toNat := by simp [clsAt, h]
theorem clsAt_out {s : ByteArray} {k : Nat} (h : ¬ k < s.size) : clsAt s k = 0 := by simp [clsAt, h]
theorem cls_big {c : Nat} (h : 128 ≤ c) : cls c = 0 := by
  unfold cls
  rw [List.getD_eq_getElem?_getD, List.getElem?_eq_none (by exact h)]
  rfl
theorem cls_le (c : Nat) : cls c ≤ 9 := by
  by_cases h : c < 128
  · exact (by decide : ∀ c : Fin 128, cls c.1 ≤ 9) ⟨c, h⟩
  · rw [cls_big (by omega)]; omega
theorem clsAt_le (s : ByteArray) (k : Nat) : clsAt s k ≤ 9 := by
  unfold clsAt; split
  · exact cls_le _
  · omega

/-- Is it a name's sign? -/
def nsB (c : Nat) : Bool := decide (1 ≤ c) && decide (c ≤ 5)

/-- The first place from k on, so many further at most, at which p does not hold of the class. -/
def endGo (p : Nat → Bool) (s : ByteArray) : Nat → Nat → Nat
  | 0, k => k
  | m + 1, k => if p (clsAt s k) then endGo p s m (k + 1) else k
/-- The first place from k on at which p does not hold of the class. -/
def endOf (p : Nat → Bool) (s : ByteArray) (k : Nat) : Nat := endGo p s (s.size - k) k

theorem endOf_step {p : Nat → Bool} {s : ByteArray} {k : Nat} (h : k < s.size) (hp : p (clsAt s k) = true) : endOf p s k = endOf p s (k + 1) := by
  unfold endOf
  rw [show s.size - k = (s.size - (k + 1)) + 1 by omega, endGo, if_pos hp]
theorem endOf_stop {p : Nat → Bool} {s : ByteArray} {k : Nat} (hp : p (clsAt s k) = false) : endOf p s k = k := by
  unfold endOf
  cases s.size - k with
  | zero => rfl
  | succ m => rw [endGo, if_neg (by rw [hp]; simp)]
theorem endGo_le (p : Nat → Bool) (s : ByteArray) : ∀ m k, k + m ≤ s.size → k ≤ endGo p s m k ∧ endGo p s m k ≤ s.size := by
  intro m
  induction m with
  | zero => intro k h; exact ⟨Nat.le_refl _, h⟩
  | succ m ih =>
    intro k h
    rw [endGo]
    split
    · have := ih (k + 1) (by omega); omega
    · omega
theorem endOf_le (p : Nat → Bool) (s : ByteArray) (k : Nat) (h : k ≤ s.size) : k ≤ endOf p s k ∧ endOf p s k ≤ s.size := endGo_le p s (s.size - k) k (by omega)

def nameEndP (s : ByteArray) (k : Nat) : Nat := endOf nsB s k
def runEndP (s : ByteArray) (k : Nat) : Nat := endOf (· == 8) s k
end Go.Proofs.YtkfhdmkdkphmoabDoor
