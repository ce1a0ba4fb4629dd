/- What is written is read: words, numbers, names. -/
import Derived.Test.YtlpnegnpejpdkabGreatDoorPd
import Derived.Test.YtlpnegnpejpdkabGreatDoorMix
import Derived.Test.YtlpnegnpejpdkabGreatDoorMjx
import Derived.Test.YtlpnegnpejpdkabGreatDoorTc
namespace Go.Proofs.YtlpnegnpejpdkabGreatDoor

/-- What may stand behind a word. -/
def EndL (l : Byt) : Prop := l = [] ∨ ∃ b r, l = b :: r ∧ endB b = true
theorem blank_end {b : UInt8} (h : endB b = false) : blankB b = false := by
  unfold endB at h
  unfold blankB
  simp only [List.contains_eq_mem, List.mem_cons, List.not_mem_nil, or_false, decide_eq_false_iff_not, not_or] at h ⊢
  exact ⟨h.1, h.2.1, h.2.2.1, h.2.2.2.1⟩
theorem skip_pre {l : Byt} : ∀ {pre : Byt}, (∀ b ∈ pre, blankB b = true) → skipP (pre ++ l) = skipP l
  | [], _ => rfl
  | a :: r, h => by
    show ((a :: (r ++ l)).dropWhile blankB) = _
    rw [List.dropWhile_cons, if_pos (h a (by simp))]
    exact skip_pre fun b hb => h b (by simp [hb])
theorem skip_stop {b : UInt8} {r : Byt} (h : blankB b = false) : skipP (b :: r) = b :: r := by
  unfold skipP
  rw [List.dropWhile_cons, if_neg (by rw [h]; decide)]
theorem word_run {rest : Byt} (hr : EndL rest) : ∀ {a : Byt}, (∀ b ∈ a, endB b = false) → (a ++ rest).takeWhile wordB = a ∧ (a ++ rest).dropWhile wordB = rest
  | [], _ => by
    rcases hr with rfl | ⟨b, r, rfl, hb⟩
    · exact ⟨rfl, rfl⟩
    · have hw : wordB b = false := by unfold wordB; rw [hb]; rfl
      refine ⟨?_, ?_⟩
      · show (b :: r).takeWhile wordB = []
        rw [List.takeWhile_cons, if_neg (by rw [hw]; decide)]
      · show (b :: r).dropWhile wordB = b :: r
        rw [List.dropWhile_cons, if_neg (by rw [hw]; decide)]
  | c :: a, h => by
    have hw : wordB c = true := by unfold wordB; rw [h c (by simp)]; rfl
    obtain ⟨h1, h2⟩ := word_run hr (a := a) fun b hb => h b (by simp [hb])
    refine ⟨?_, ?_⟩
    · show (c :: (a ++ rest)).takeWhile wordB = c :: a
      rw [List.takeWhile_cons, if_pos hw, h1]
    · show (c :: (a ++ rest)).dropWhile wordB = rest
      rw [List.dropWhile_cons, if_pos hw, h2]
theorem word_read {pre a rest : Byt} (hp : ∀ b ∈ pre, blankB b = true) (ha : a ≠ []) (hb : ∀ b ∈ a, endB b = false) (hr : EndL rest) : wordP (pre ++ (a ++ rest)) = (a, rest) := by
  have hs : skipP (pre ++ (a ++ rest)) = a ++ rest := by
    rw [skip_pre hp]
    cases a with
    | nil => exact absurd rfl ha
    | cons c r => exact skip_stop (blank_end (hb c (by simp)))
  obtain ⟨h1, h2⟩ := word_run hr hb
  unfold wordP
  rw [hs, h1, h2]
theorem end_blank {l : Byt} {b : UInt8} (h : endB b = true) : EndL (b :: l) := .inr ⟨b, l, rfl, h⟩
/-- No word stands behind blanks alone. -/
theorem word_none {pre : Byt} (hp : ∀ b ∈ pre, blankB b = true) : wordP pre = ([], []) := by
  have hs : skipP pre = [] := by
    have := skip_pre (l := []) hp
    rw [List.append_nil] at this
    rw [this]
    rfl
  unfold wordP
  rw [hs]
  rfl
theorem num_byte {b : UInt8} (h : b.toNat = 45 ∨ (48 ≤ b.toNat ∧ b.toNat ≤ 57)) : endB b = false := by
  unfold endB
  simp only [List.contains_eq_mem, List.mem_cons, List.not_mem_nil, or_false, decide_eq_false_iff_not, not_or]
  refine ⟨?_, ?_, ?_, ?_, ?_⟩ <;> (rintro rfl; revert h; decide)
theorem num_read {pre rest : Byt} {n : Int} (hp : ∀ b ∈ pre, blankB b = true) (hn : i64 n) (hi : isIntP n = true) (hr : EndL rest) : numP' (pre ++ (Lib.itoa n ++ rest)) = some (n, rest) := by
  obtain ⟨k1, k2⟩ := itoa_bytes n
  have hw := word_read hp k1 (fun b hb => num_byte (k2 b hb)) hr
  unfold numP'
  rw [hw]
  show (match wnumP (Lib.itoa n) with | some m => some (m, rest) | none => none) = _
  have e : wnumP (Lib.itoa n) = some n := by
    unfold wnumP
    rw [itoa_back hn.1 hn.2]
    exact if_pos ⟨rfl, hi⟩
  rw [e]
theorem numT_read {rest : Byt} {n : Int} (hn : i64 n) (hi : isIntP n = true) (hr : EndL rest) : numP' (numT n ++ rest) = some (n, rest) := by
  unfold numT
  rw [List.append_assoc]
  exact num_read (fun b hb => by rw [List.mem_singleton.1 hb]; decide) hn hi hr
theorem quo_read (rest : Byt) : ∀ s : Byt, quoR (quotQ s ++ 34 :: rest) = some (s, rest)
  | [] => by
    show quoR (34 :: rest) = _
    rw [quo_cons, if_pos rfl]
  | b :: s => by
    have ih := quo_read rest s
    have e : quotQ (b :: s) ++ 34 :: rest = markQ b ++ (quotQ s ++ 34 :: rest) := by
      show (markQ b ++ quotQ s) ++ _ = _
      rw [List.append_assoc]
    rw [e]
    unfold markQ
    by_cases hm : markB b = true
    · rw [if_pos hm]
      show quoR (92 :: b :: (quotQ s ++ 34 :: rest)) = _
      rw [quo_cons, if_neg (by decide), if_pos rfl]
      show (if markB b then (quoR (quotQ s ++ 34 :: rest)).map fun p => (b :: p.1, p.2) else none) = _
      rw [if_pos hm, ih]
      rfl
    · rw [if_neg hm]
      show quoR (b :: (quotQ s ++ 34 :: rest)) = _
      have hb : b ≠ 34 ∧ b ≠ 92 := by
        refine ⟨?_, ?_⟩ <;> (rintro rfl; exact hm (by decide))
      rw [quo_cons, if_neg hb.1, if_neg hb.2, ih]
      rfl
theorem name_read {s rest : Byt} (h : nameP s = true) : nameQ (nameT s ++ rest) = some (s, rest) := by
  have e : nameT s ++ rest = [32] ++ (34 :: (quotQ s ++ 34 :: rest)) := by unfold nameT; simp [List.append_assoc]
  unfold nameQ
  rw [e, skip_pre (fun b hb => by rw [List.mem_singleton.1 hb]; decide), skip_stop (by decide)]
  show (if (34 : UInt8) = 34 then (match quoR (quotQ s ++ 34 :: rest) with | some (s, t) => if nameP s then some (s, t) else none | none => none) else none) = _
  rw [if_pos rfl, quo_read]
  show (if nameP s then some (s, rest) else none) = _
  rw [if_pos h]
theorem op_read : ∀ i, i < 18 → 1 ≤ i → opOfP (wordsP.getD i []) = i ∧ wordsP.getD i [] ≠ [] ∧ ∀ b ∈ wordsP.getD i [], endB b = false := by decide
theorem opr_read : ∀ i, i < 12 → 1 ≤ i → oprOfP (opsP.getD i []) = i ∧ opsP.getD i [] ≠ [] ∧ ∀ b ∈ opsP.getD i [], endB b = false := by decide
end Go.Proofs.YtlpnegnpejpdkabGreatDoor
