/- What stands at the beginning of a text's rest, and the whole text's tokens: the plain side of package lex, put together. -/
import Derived.Test.YtkfhdmkdkphmoabDoorW3
import Derived.Test.YtkfhdmkdkphmoabDoorPlain
namespace Go.Proofs.YtkfhdmkdkphmoabDoor

def nameLen (l : List UInt8) : Nat := spanLen nsB l
def runLen (l : List UInt8) : Nat := spanLen (· == 8) l

/-- How long a name is that begins with a capital, and its kind. -/
def upperL (l : List UInt8) : Nat × Nat :=
  if hdN (l.drop (nameLen l)) = 46 then
    if clsHd (l.drop (nameLen l + 1)) = 2 then (nameLen l + 1 + nameLen (l.drop (nameLen l + 1)), 4)
    else if clsHd (l.drop (nameLen l + 1)) = 1 ∧ isRes ((l.drop (nameLen l + 1)).take (nameLen (l.drop (nameLen l + 1)))) = false then (nameLen l + 1 + nameLen (l.drop (nameLen l + 1)), 3)
    else (nameLen l, 2)
  else (nameLen l, 2)

theorem hdN_rest (s : ByteArray) (k : Nat) (h : k < s.size) : hdN (rest s k) = s[k].toNat := by rw [rest_in h]; rfl

theorem upperEnd_L (s : ByteArray) (k : Nat) (hk : k ≤ s.size) : upperEndP s k = (k + (upperL (rest s k)).1, (upperL (rest s k)).2) := by
  have h1 := endOf_le nsB s k hk
  have e1 : nameEndP s k = k + nameLen (rest s k) := endOf_span nsB s k rfl
  have e0 : endOf nsB s k = k + nameLen (rest s k) := endOf_span nsB s k rfl
  rw [e0] at h1
  unfold upperEndP upperL
  simp only [e1, rest_drop]
  by_cases hp : k + nameLen (rest s k) < s.size
  · have e2 : nameEndP s (k + nameLen (rest s k) + 1) = k + nameLen (rest s k) + 1 + nameLen (rest s (k + nameLen (rest s k) + 1)) := endOf_span nsB s _ rfl
    have hx : (s.extract (k + nameLen (rest s k) + 1) (k + nameLen (rest s k) + 1 + nameLen (rest s (k + nameLen (rest s k) + 1)))).toList = (rest s (k + (nameLen (rest s k) + 1))).take (nameLen (rest s (k + (nameLen (rest s k) + 1)))) := by
      rw [ByteArray.toList_eq, ByteArray.data_extract, Array.toList_extract, List.extract_eq_take_drop]
      simp only [rest, Nat.add_assoc]
      congr 1
      omega
    rw [e2, hx, hdN_rest s _ hp, clsAt_rest]
    simp only [hp, dite_true, Nat.add_assoc]
    by_cases h46 : s[k + nameLen (rest s k)].toNat = 46
    · simp only [h46, decide_true, if_true]
      split
      · rfl
      · split <;> rfl
    · simp only [h46, decide_false, Bool.false_eq_true, if_false]
  · simp only [hp, dite_false, Bool.false_eq_true, if_false]
    rw [rest_out hp]
    simp [hdN]

/-- The token that begins there: kind, text, number and length; or an error's code. -/
def tokL (l : List UInt8) : Except Nat (Nat × List UInt8 × Nat × Nat) :=
  if clsHd l = 1 then .ok (wordKindP (l.take (nameLen l)), l.take (nameLen l), 0, nameLen l)
  else if clsHd l = 2 then .ok ((upperL l).2, l.take (upperL l).1, 0, (upperL l).1)
  else if clsHd l = 3 then (match numL l with | none => .error 11 | some (v, n) => .ok (6, [], v, n))
  else if clsHd l = 4 then (match charL l with | none => .error 12 | some (v, n) => .ok (7, [], v, n))
  else if clsHd l = 7 then (match strL (l.drop 1) with | none => .error 12 | some (t, n) => .ok (8, t, 0, n + 1))
  else if clsHd l = 8 then (if runKindP (l.take (runLen l)) = 0 then .error 14 else .ok (runKindP (l.take (runLen l)), l.take (runLen l), 0, runLen l))
  else if clsHd l = 9 then .ok (9, l.take 1, 0, 1)
  else if clsHd l = 5 then (if nsB (clsHd (l.drop 1)) = true then .error 10 else .ok (9, l.take 1, 0, 1))
  else .error 10

/-- What stands there: nothing or a token, and its length; or an error's code. -/
def stepL (l : List UInt8) : Except Nat (Option (Nat × List UInt8 × Nat) × Nat) :=
  if clsHd l = 6 then .ok (none, 1)
  else if [123, 45].isPrefixOf l = true then (match blockL l 0 with | none => .error 13 | some n => .ok (none, n))
  else if dashB (l.take (runLen l)) = true then .ok (none, l.idxOf 10)
  else match tokL l with
    | .error c => .error c
    | .ok (kd, tx, nm, n) => .ok (some (kd, tx, nm), n)

theorem spanLen_pos {p : Nat → Bool} {l : List UInt8} (h : p (clsHd l) = true) (h0 : p 0 = false) : 1 ≤ spanLen p l := by
  cases l with
  | nil => simp [clsHd, h0] at h
  | cons c r => simp [clsHd] at h; simp [spanLen, h]
theorem spanLen_le (p : Nat → Bool) (l : List UInt8) : spanLen p l ≤ l.length := by
  induction l with
  | nil => simp [spanLen]
  | cons c r ih => simp [spanLen]; split <;> omega

theorem blockL_pos {l : List UInt8} {o n : Nat} (h : blockL l o = some n) : 2 ≤ n ∧ n ≤ l.length := by
  induction l, o using blockL.induct generalizing n with
  | case1 r o ih =>
    rw [blockL] at h
    simp only [Option.map_eq_some_iff] at h
    obtain ⟨m, hm, rfl⟩ := h
    have := ih hm
    simp; omega
  | case2 r o ho => rw [blockL, if_pos ho] at h; simp at h; simp; omega
  | case3 r o ho ih =>
    rw [blockL, if_neg ho] at h
    simp only [Option.map_eq_some_iff] at h
    obtain ⟨m, hm, rfl⟩ := h
    have := ih hm
    simp; omega
  | case4 c r o h1 h2 ih =>
    rw [blockL] at h
    · simp only [Option.map_eq_some_iff] at h
      obtain ⟨m, hm, rfl⟩ := h
      have := ih hm
      simp; omega
    · exact h1
    · exact h2
  | case5 o => simp [blockL] at h

theorem drop_clsHd {l : List UInt8} {n : Nat} (h : clsHd (l.drop n) ≠ 0) : n < l.length := by
  by_cases hn : n < l.length
  · exact hn
  · rw [List.drop_eq_nil_of_le (by omega)] at h; exact absurd rfl h
theorem numGo_le {b : Nat} {l : List UInt8} {n v m : Nat} (h : numGo b l n = some (v, m)) : m ≤ l.length := by
  induction l generalizing n v m with
  | nil => simp [numGo] at h; omega
  | cons c r ih =>
    rw [numGo] at h
    split at h
    · split at h
      · cases h
      · simp only [Option.map_eq_some_iff, Prod.exists] at h
        obtain ⟨v', m', h1, h2⟩ := h
        have := ih h1
        simp at h2 ⊢
        omega
    · simp at h; simp; omega
theorem numGo_pos {b : Nat} {l : List UInt8} {n v m : Nat} (hd : digL l < b) (hb : b ≤ 16) (h : numGo b l n = some (v, m)) : 1 ≤ m := by
  cases l with
  | nil => simp [digL] at hd; omega
  | cons c r =>
    have hd' : digOf c.toNat < b := hd
    rw [numGo, if_pos hd'] at h
    split at h
    · cases h
    · simp only [Option.map_eq_some_iff, Prod.exists] at h
      obtain ⟨v', m', h1, h2⟩ := h
      simp at h2
      omega
theorem digL_of_cls3 {l : List UInt8} (h : clsHd l = 3) : digL l < 10 := by
  cases l with
  | nil => simp [clsHd] at h
  | cons c r =>
    have h' : cls c.toNat = 3 := h
    have := cls3 h'
    show digOf c.toNat < 10
    unfold digOf
    rw [if_pos h']
    omega
theorem numL_pos {l : List UInt8} {v n : Nat} (hc : clsHd l = 3) (h : numL l = some (v, n)) : 1 ≤ n ∧ n ≤ l.length := by
  unfold numL at h
  cases hx : hexB l
  · simp only [hx, Bool.false_eq_true, if_false, List.drop_zero, Nat.zero_add] at h
    split at h
    · cases h
    · rename_i v' m hg
      split at h
      · cases h
      · simp at h
        have h1 := numGo_le hg
        have h2 := numGo_pos (digL_of_cls3 hc) (by omega) hg
        omega
  · simp only [hx, if_true] at h
    split at h
    · cases h
    · rename_i v' m hg
      split at h
      · cases h
      · simp at h
        have h1 := numGo_le hg
        have hx2 : digL (l.drop 2) < 16 := by
          unfold hexB at hx
          simp at hx
          exact hx.2
        have h2 := numGo_pos hx2 (by omega) hg
        rw [List.length_drop] at h1
        omega
theorem charL_pos {l : List UInt8} {v n : Nat} (h : charL l = some (v, n)) : 1 ≤ n ∧ n ≤ l.length := by
  unfold charL at h
  split at h
  · cases h
  · rename_i b m hq
    split at h
    · rename_i h4
      have := drop_clsHd (l := l) (n := 1 + m) (by rw [h4]; decide)
      simp at h
      omega
    · cases h
theorem strL_pos {l : List UInt8} {t : List UInt8} {n : Nat} (h : strL l = some (t, n)) : 1 ≤ n ∧ n ≤ l.length := by
  induction l using strInd generalizing t n with
  | case1 l h7 =>
    rw [strL_end h7] at h
    simp at h
    have := drop_clsHd (l := l) (n := 0) (by rw [List.drop_zero, h7]; decide)
    omega
  | case2 l h7 hq => rw [strL_none h7 hq] at h; cases h
  | case3 l h7 b m hq ih =>
    rw [strL_some h7 hq] at h
    simp only [Option.map_eq_some_iff, Prod.exists] at h
    obtain ⟨t', n', h1, h2⟩ := h
    have := ih h1
    have := quotedL_pos hq
    simp at h2
    rw [List.length_drop] at *
    omega
theorem upperL_pos {l : List UInt8} (hc : clsHd l = 2) : 1 ≤ (upperL l).1 ∧ (upperL l).1 ≤ l.length := by
  have h1 : 1 ≤ nameLen l := spanLen_pos (by rw [hc]; rfl) rfl
  have h2 : nameLen l ≤ l.length := spanLen_le _ _
  have h3 : nameLen (l.drop (nameLen l + 1)) ≤ (l.drop (nameLen l + 1)).length := spanLen_le _ _
  rw [List.length_drop] at h3
  unfold upperL
  split
  · split
    · rename_i h
      have := drop_clsHd (l := l) (n := nameLen l + 1) (by rw [h]; decide)
      simp only []; omega
    · split
      · rename_i h
        have := drop_clsHd (l := l) (n := nameLen l + 1) (by rw [h.1]; decide)
        simp only []; omega
      · simp only []; omega
  · simp only []; omega
theorem clsHd_len {l : List UInt8} (h : clsHd l ≠ 0) : 1 ≤ l.length := by
  have := drop_clsHd (l := l) (n := 0) (by rwa [List.drop_zero])
  omega
theorem tokL_pos {l : List UInt8} {kd nm n : Nat} {tx : List UInt8} (h : tokL l = .ok (kd, tx, nm, n)) : 1 ≤ n ∧ n ≤ l.length := by
  unfold tokL at h
  split at h
  · rename_i hc
    simp at h
    have h1 : 1 ≤ nameLen l := spanLen_pos (by rw [hc]; rfl) rfl
    have h2 : nameLen l ≤ l.length := spanLen_le _ _
    omega
  · split at h
    · rename_i hc
      simp at h
      have := upperL_pos hc
      omega
    · split at h
      · rename_i hc
        split at h
        · cases h
        · rename_i hq; simp at h; have := numL_pos hc hq; omega
      · split at h
        · split at h
          · cases h
          · rename_i hq; simp at h; have := charL_pos hq; omega
        · split at h
          · rename_i hc
            split at h
            · cases h
            · rename_i hq; simp at h; have := strL_pos hq; rw [List.length_drop] at this; omega
          · split at h
            · rename_i hc
              split at h
              · cases h
              · simp at h
                have h1 : 1 ≤ runLen l := spanLen_pos (by rw [hc]; rfl) rfl
                have h2 : runLen l ≤ l.length := spanLen_le _ _
                omega
            · split at h
              · rename_i hc
                simp at h
                have := clsHd_len (l := l) (by rw [hc]; decide)
                omega
              · split at h
                · rename_i hc
                  split at h
                  · cases h
                  · simp at h
                    have := clsHd_len (l := l) (by rw [hc]; decide)
                    omega
                · cases h

/-- A text's tokens from a place on, in so many steps at most. -/
def lexGo : Nat → Nat → List UInt8 → Nat → Except (Nat × Nat) (List (Nat × List UInt8 × Nat × Nat))
  | 0, _, _, _ => .ok []
  | _ + 1, _, [], _ => .ok []
  | m + 1, k, x :: r, c =>
    match stepL (x :: r) with
    | .error e => .error (e, k)
    | .ok (none, n) => lexGo m (k + n) (r.drop (n - 1)) c
    | .ok (some (kd, tx, nm), n) => if c = 20000 then .error (4, k) else (lexGo m (k + n) (r.drop (n - 1)) (c + 1)).map ((kd, tx, nm, k) :: ·)
/-- A text's tokens from a place on, so many being there already: each its kind, text, number and place; or an error's code and place. -/
def lexL (k : Nat) (l : List UInt8) (c : Nat) : Except (Nat × Nat) (List (Nat × List UInt8 × Nat × Nat)) := lexGo l.length k l c
theorem lexL_nil (k c : Nat) : lexL k [] c = .ok [] := rfl
theorem lexGo_same : ∀ (m m' k : Nat) (l : List UInt8) (c : Nat), l.length ≤ m → l.length ≤ m' → lexGo m k l c = lexGo m' k l c := by
  have nil : ∀ m k c, lexGo m k ([] : List UInt8) c = .ok [] := by
    intro m k c
    cases m with
    | zero => rfl
    | succ m => rfl
  intro m
  induction m with
  | zero =>
    intro m' k l c h _
    obtain rfl : l = [] := List.length_eq_zero_iff.1 (by omega)
    rw [nil 0, nil m']
  | succ m ih =>
    intro m' k l c h h'
    cases l with
    | nil => rw [nil (m + 1), nil m']
    | cons x r =>
      cases m' with
      | zero => simp at h'
      | succ m' =>
        have hd : ∀ n, (r.drop n).length ≤ m ∧ (r.drop n).length ≤ m' := by intro n; simp at h h' ⊢; omega
        rw [lexGo, lexGo]
        split
        · rfl
        · exact ih m' _ _ _ (hd _).1 (hd _).2
        · split
          · rfl
          · rw [ih m' _ _ _ (hd _).1 (hd _).2]
theorem lexL_one (k : Nat) (x : UInt8) (r : List UInt8) (c : Nat) : lexL k (x :: r) c = (match stepL (x :: r) with
    | .error e => .error (e, k)
    | .ok (none, n) => lexL (k + n) (r.drop (n - 1)) c
    | .ok (some (kd, tx, nm), n) => if c = 20000 then .error (4, k) else (lexL (k + n) (r.drop (n - 1)) (c + 1)).map ((kd, tx, nm, k) :: ·)) := by
  have hd : ∀ n, (r.drop n).length ≤ r.length := by intro n; simp
  show lexGo (r.length + 1) k (x :: r) c = _
  rw [lexGo]
  split
  · rfl
  · exact lexGo_same _ _ _ _ _ (hd _) (Nat.le_refl _)
  · split
    · rfl
    · rw [lexGo_same r.length (r.drop _).length _ _ _ (hd _) (Nat.le_refl _)]
      rfl
end Go.Proofs.YtkfhdmkdkphmoabDoor
