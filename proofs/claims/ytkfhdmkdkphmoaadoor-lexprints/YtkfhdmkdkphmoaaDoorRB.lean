/- What the reference takes for a token is what the program takes for one. The reference's told: its contract. The reference's tens: its contract. The reference's written: its contract. What a row is written as, whole: there is none just if it is longer than a text may be. -/
import Derived.Test.YtkfhdmkdkphmoaaDoorRA
import Derived.Test.YtkfhdmkdkphmoaaDoorWa
import Derived.Laws.AppendOwnNone
import Derived.Laws.IdiomStrings
namespace Go.Proofs.YtkfhdmkdkphmoaaDoor
open Go.RowKit

def kindL (l : List UInt8) : Nat :=
  if clsHd l = 1 then (if nameLen l = l.length then wordKindP l else 0)
  else if clsHd l = 2 then (if (upperL l).1 = l.length then (upperL l).2 else 0)
  else if clsHd l = 8 then (if runLen l = l.length then runKindP l else 0)
  else if clsHd l = 9 ∨ clsHd l = 5 then (if 1 = l.length then 9 else 0)
  else 0

theorem kindP_L (s : ByteArray) : kindP s = kindL s.data.toList := by
  have hr : rest s 0 = s.data.toList := by simp [rest]
  have hl : s.toList = s.data.toList := by rw [ByteArray.toList_eq]
  have hlen : s.data.toList.length = s.size := by simp
  have e1 : nameEndP s 0 = nameLen s.data.toList := by
    have := endOf_span nsB s 0 rfl
    rw [hr, Nat.zero_add] at this
    exact this
  have e2 : runEndP s 0 = runLen s.data.toList := by
    have := endOf_span (· == 8) s 0 rfl
    rw [hr, Nat.zero_add] at this
    exact this
  have e3 : upperEndP s 0 = upperL s.data.toList := by
    rw [upperEnd_L _ _ (by omega), hr, Nat.zero_add]
  unfold kindP kindL
  rw [clsAt_rest, hr, e1, e2, e3, hl, hlen]

theorem res_name {l : List UInt8} (h : isRes l = true) : clsHd l = 1 ∧ nameLen l = l.length := by
  unfold isRes at h
  simp only [Bool.or_eq_true, beq_iff_eq] at h
  repeat' (refine Or.elim h ?_ ?_ <;> clear h <;> intro h)
  all_goals (subst h; decide)

theorem run_hd {l : List UInt8} (h : runLen l = l.length) (hne : l ≠ []) : clsHd l = 8 := by
  cases l with
  | nil => exact absurd rfl hne
  | cons c r =>
    unfold runLen spanLen at h
    split at h
    · rename_i hc
      simpa [clsHd] using hc
    · simp at h

theorem dot1 {l : List UInt8} (h : hdN (l.drop (nameLen l)) = 46) : l.idxOf 46 = nameLen l ∧ nameLen l < l.length := by
  induction l with
  | nil => simp [nameLen, spanLen, hdN] at h
  | cons c r ih =>
    unfold nameLen spanLen at h ⊢
    cases hc : nsB (cls c.toNat)
    · simp [hc, hdN] at h ⊢
      have : c = 46 := by rw [← UInt8.toNat_inj]; exact h
      rw [this]; simp
    · simp [hc] at h ⊢
      have := ih h
      have hne : c ≠ 46 := by rintro rfl; revert hc; decide
      rw [List.idxOf_cons]
      have hb : (c == 46) = false := beq_eq_false_iff_ne.2 hne
      rw [hb]
      exact ⟨by simpa [nameLen] using this.1, this.2⟩

theorem dot2 {l : List UInt8} (h : l.idxOf 46 < l.length) (hn : nameLen (l.take (l.idxOf 46)) = l.idxOf 46) : hdN (l.drop (nameLen l)) = 46 := by
  induction l with
  | nil => simp at h
  | cons c r ih =>
    rw [List.idxOf_cons] at h hn
    cases hc : (c == 46)
    · rw [hc] at h hn
      simp at h hn
      unfold nameLen spanLen at hn
      cases hs : nsB (cls c.toNat)
      · simp [hs] at hn
      · simp [hs] at hn
        have := ih h hn
        unfold nameLen spanLen
        simp [hs]
        exact this
    · have : c = 46 := by simpa using hc
      subst this
      have : nameLen (46 :: r) = 0 := rfl
      rw [this]
      rfl

theorem hd_take {l : List UInt8} {p : Nat} (h : clsHd (l.take p) = 2) : clsHd l = 2 ∧ p ≠ 0 := by
  cases p with
  | zero => simp [clsHd] at h
  | succ p => cases l with
    | nil => simp [clsHd] at h
    | cons c r => simpa [clsHd] using h

theorem upper_2 {l : List UInt8} : (upperL l).1 = l.length ∧ (upperL l).2 = 2 ↔ nameLen l = l.length := by
  unfold upperL
  constructor
  · intro h
    split at h
    · split at h
      · simp at h
      · split at h
        · simp at h
        · exact h.1
    · exact h.1
  · intro h
    rw [if_neg (by rw [h, List.drop_length]; simp [hdN])]
    exact ⟨h, rfl⟩

theorem f1 (l : List UInt8) : formedB 1 l = true ↔ (clsHd l = 1 ∧ nameLen l = l.length ∧ isRes l = false) := by
  have e : formedB 1 l = namedB l false := rfl
  rw [e]
  unfold namedB
  simp
  constructor
  · rintro ⟨a, b, c⟩; exact ⟨b, a, c⟩
  · rintro ⟨a, b, c⟩; exact ⟨b, a, c⟩
theorem f2 (l : List UInt8) : formedB 2 l = true ↔ (clsHd l = 2 ∧ (upperL l).1 = l.length ∧ (upperL l).2 = 2) := by
  have e : formedB 2 l = namedB l true := rfl
  rw [e, upper_2]
  unfold namedB
  simp
  constructor
  · rintro ⟨a, b⟩; exact ⟨b, a⟩
  · rintro ⟨a, b⟩; exact ⟨b, a⟩
theorem f34 (l : List UInt8) (kd : Nat) (h : kd = 3 ∨ kd = 4) : formedB kd l = true ↔ (clsHd l = 2 ∧ (upperL l).1 = l.length ∧ (upperL l).2 = kd) := by
  have e : formedB kd l = (decide (l.idxOf 46 < l.length) && (namedB (l.take (l.idxOf 46)) true && namedB (l.drop (l.idxOf 46 + 1)) (decide (kd = 4)))) := by
    rcases h with rfl | rfl <;> rfl
  rw [e]
  by_cases h46 : hdN (l.drop (nameLen l)) = 46
  · obtain ⟨hi, hlt⟩ := dot1 h46
    rw [hi]
    have h1 : nameLen (l.take (nameLen l)) = (l.take (nameLen l)).length := by
      show spanLen _ _ = _
      rw [span_take, List.length_take]
      show min _ (nameLen l) = _
      omega
    have h2 : namedB (l.take (nameLen l)) true = decide (clsHd l = 2) := by
      unfold namedB
      rw [decide_eq_true h1]
      simp
      constructor
      · intro h; exact (hd_take h).1
      · intro h
        have hp : 1 ≤ nameLen l := spanLen_pos (by rw [h]; rfl) rfl
        rw [clsHd_take hp]; exact h
    rw [decide_eq_true hlt, h2]
    unfold upperL namedB
    rw [if_pos h46]
    have hL : (l.drop (nameLen l + 1)).length = l.length - (nameLen l + 1) := by simp
    generalize l.drop (nameLen l + 1) = L at *
    by_cases c2 : clsHd L = 2
    · rw [if_pos c2]
      simp only [c2]
      rcases h with rfl | rfl
      · simp
      · simp
        intro _
        omega
    · rw [if_neg c2]
      by_cases c1 : clsHd L = 1 ∧ isRes (L.take (nameLen L)) = false
      · rw [if_pos c1]
        rcases h with rfl | rfl
        · simp [c1.1]
          intro _
          constructor
          · rintro ⟨a, b⟩; omega
          · intro a
            have hq : nameLen L = L.length := by omega
            refine ⟨hq, ?_⟩
            have := c1.2
            rw [hq, List.take_length] at this
            exact this
        · simp [c2]
      · rw [if_neg c1]
        rcases h with rfl | rfl
        · simp
          intro _ hq hc1
          have : ¬ isRes (L.take (nameLen L)) = false := fun hh => c1 ⟨hc1, hh⟩
          rw [hq, List.take_length] at this
          simpa using this
        · simp [c2]
  · have hu : upperL l = (nameLen l, 2) := by unfold upperL; rw [if_neg h46]
    rw [hu]
    constructor
    · intro h
      simp only [Bool.and_eq_true, decide_eq_true_eq] at h
      obtain ⟨h1, h2, _⟩ := h
      unfold namedB at h2
      simp only [Bool.and_eq_true, decide_eq_true_eq] at h2
      exact absurd (dot2 h1 (by rw [h2.1, List.length_take]; omega)) h46
    · rintro ⟨_, _, h3⟩
      rcases h with rfl | rfl <;> cases h3

theorem dash_not {l : List UInt8} (h : (l == [61] || l == [124] || l == [45, 62] || l == [58, 58]) = true) : dashB l = false := by
  simp only [Bool.or_eq_true, beq_iff_eq] at h
  repeat' (refine Or.elim h ?_ ?_ <;> clear h <;> intro h)
  all_goals (subst h; decide)
theorem col_one (l : List UInt8) : (l.head? == some 58 && decide (1 < l.length)) = (l.head? == some 58 && !(l == [58])) := by
  cases l with
  | nil => rfl
  | cons c r => cases r with
    | nil => cases hc : (c == 58) <;> simp_all
    | cons d r => simp
theorem kind_run (l : List UInt8) (kd : Nat) (h : kd = 5 ∨ kd = 11) : kindI l = kd ↔ runKindP l = kd := by
  unfold kindI runKindP
  rw [col_one]
  cases ha : (l == [61] || l == [124] || l == [45, 62] || l == [58, 58])
  · cases hd : dashB l
    · cases hc : (l.head? == some 58 && !(l == [58]))
      · simp; omega
      · simp; omega
    · simp; omega
  · rw [dash_not ha]; simp; omega
theorem f511 (l : List UInt8) (kd : Nat) (h : kd = 5 ∨ kd = 11) : formedB kd l = true ↔ (clsHd l = 8 ∧ runLen l = l.length ∧ runKindP l = kd) := by
  have e : formedB kd l = (!(l == []) && (decide (runLen l = l.length) && decide (kindI l = kd))) := by
    rcases h with rfl | rfl <;> rfl
  rw [e, ← kind_run l kd h]
  simp only [Bool.and_eq_true, decide_eq_true_eq, Bool.not_eq_true', beq_eq_false_iff_ne]
  constructor
  · rintro ⟨a, b, c⟩; exact ⟨run_hd b a, b, c⟩
  · rintro ⟨a, b, c⟩
    refine ⟨?_, b, c⟩
    rintro rfl
    cases a
theorem cls5 {c : Nat} : cls c = 5 ↔ c = 95 := by
  by_cases h' : c < 128
  · exact (by decide : ∀ c : Fin 128, cls c.1 = 5 ↔ c.1 = 95) ⟨c, h'⟩
  · rw [cls_big (by omega)]; omega
theorem f9 (l : List UInt8) : formedB 9 l = true ↔ (1 = l.length ∧ (clsHd l = 9 ∨ clsHd l = 5)) := by
  have e : formedB 9 l = (decide (l.length = 1) && (decide (clsHd l = 9) || l == [95])) := rfl
  rw [e]
  simp only [Bool.and_eq_true, Bool.or_eq_true, decide_eq_true_eq, beq_iff_eq]
  cases l with
  | nil => simp
  | cons c r => cases r with
    | nil =>
      simp [clsHd, cls5]
      rw [← UInt8.toNat_inj]
      simp
    | cons d r => simp
theorem f10 (l : List UInt8) : formedB 10 l = true ↔ (clsHd l = 1 ∧ nameLen l = l.length ∧ isRes l = true) := by
  have e : formedB 10 l = isRes l := rfl
  rw [e]
  constructor
  · intro h; exact ⟨(res_name h).1, (res_name h).2, h⟩
  · intro h; exact h.2.2

theorem formed_iff (kd : Int) (l : List UInt8) (h0 : kd ≠ 0) (h6 : kd ≠ 6) (h7 : kd ≠ 7) (h8 : kd ≠ 8) : formedB kd l = true ↔ (kindL l : Int) = kd := by
  have hu : (upperL l).2 = 2 ∨ (upperL l).2 = 3 ∨ (upperL l).2 = 4 := by
    unfold upperL
    split
    · split
      · simp
      · split <;> simp
    · simp
  have hr : runKindP l = 0 ∨ runKindP l = 5 ∨ runKindP l = 11 := by
    unfold runKindP
    split
    · simp
    · split
      · simp
      · split <;> simp
  have hk : kindL l = 0 ∨ (kindL l = 1 ∧ formedB 1 l = true) ∨ (kindL l = 2 ∧ formedB 2 l = true) ∨ (kindL l = 3 ∧ formedB 3 l = true) ∨ (kindL l = 4 ∧ formedB 4 l = true) ∨ (kindL l = 5 ∧ formedB 5 l = true) ∨ (kindL l = 11 ∧ formedB 11 l = true) ∨ (kindL l = 9 ∧ formedB 9 l = true) ∨ (kindL l = 10 ∧ formedB 10 l = true) := by
    have g3 := f34 l 3 (Or.inl rfl)
    have g4 := f34 l 4 (Or.inr rfl)
    have g5 := f511 l 5 (Or.inl rfl)
    have g11 := f511 l 11 (Or.inr rfl)
    simp only [Int.cast_ofNat_Int] at g3 g4 g5 g11
    rw [f1, f2, g3, g4, g5, g11, f9, f10]
    unfold kindL wordKindP
    by_cases c1 : clsHd l = 1
    · by_cases hn : nameLen l = l.length
      · cases hz : isRes l <;> simp [c1, hn]
      · simp [c1, hn]
    by_cases c2 : clsHd l = 2
    · by_cases hn : (upperL l).1 = l.length
      · rcases hu with hu | hu | hu <;> simp [c2, hn, hu]
      · simp [c2, hn]
    by_cases c8 : clsHd l = 8
    · by_cases hn : runLen l = l.length
      · rcases hr with hr | hr | hr <;> simp [c8, hn, hr]
      · simp [c8, hn]
    by_cases c9 : clsHd l = 9 ∨ clsHd l = 5
    · by_cases hn : 1 = l.length
      · simp [c1, c2, c8, c9, hn.symm]
      · simp [c1, c2, c8, hn]
    · simp [c1, c2, c8, c9]
  constructor
  · intro h
    by_cases k1 : kd = 1
    · subst k1
      rw [f1] at h
      simp [kindL, wordKindP, h.1, h.2.1, h.2.2]
    by_cases k2 : kd = 2
    · subst k2
      rw [f2] at h
      simp [kindL, h.1, h.2.1, h.2.2]
    by_cases k3 : kd = 3 ∨ kd = 4
    · have e : kd = ((kd.toNat : Nat) : Int) := by omega
      rw [e] at h
      rw [f34 l kd.toNat (by omega)] at h
      simp [kindL, h.1, h.2.1, h.2.2]
      omega
    by_cases k5 : kd = 5 ∨ kd = 11
    · have e : kd = ((kd.toNat : Nat) : Int) := by omega
      rw [e] at h
      rw [f511 l kd.toNat (by omega)] at h
      simp [kindL, h.1, h.2.1, h.2.2]
      omega
    by_cases k9 : kd = 9
    · subst k9
      rw [f9] at h
      rcases h with ⟨h1, h2 | h2⟩ <;> simp [kindL, h1.symm, h2]
    by_cases k10 : kd = 10
    · subst k10
      rw [f10] at h
      simp [kindL, wordKindP, h.1, h.2.1, h.2.2]
    · unfold formedB at h
      rw [if_neg k1, if_neg k2, if_neg k3, if_neg k5, if_neg (by omega), if_neg h8, if_neg k9, if_neg k10] at h
      cases h
  · intro h
    rcases hk with hk | ⟨hk, hf⟩ | ⟨hk, hf⟩ | ⟨hk, hf⟩ | ⟨hk, hf⟩ | ⟨hk, hf⟩ | ⟨hk, hf⟩ | ⟨hk, hf⟩ | ⟨hk, hf⟩
    · rw [hk] at h; exact absurd h.symm h0
    all_goals (rw [hk] at h; rw [← h]; exact hf)

/-- The reference's Is is the program's isToken. -/
theorem ref_eq (kd nm : Int) (s : ByteArray) : refIsB kd s.data.toList nm = isTokA kd s nm := by
  have hl : s.toList = s.data.toList := by rw [ByteArray.toList_eq]
  unfold refIsB isTokA
  by_cases h6 : kd = 6
  · subst h6
    have e : formedB 6 s.data.toList = (s.data.toList == []) := rfl
    rw [if_pos rfl, if_pos rfl, e, hl, Bool.and_assoc]
  rw [if_neg h6, if_neg h6]
  unfold isTokB
  by_cases h0 : kd = 0
  · subst h0; rfl
  rw [if_neg h0]
  by_cases h7 : kd = 7
  · subst h7
    have e : formedB 7 s.data.toList = (s.data.toList == []) := rfl
    rw [if_pos rfl, if_pos rfl, e, hl, Bool.and_assoc]
  rw [if_neg h7, if_neg h7]
  have hz : (decide (0 ≤ nm) && decide (nm ≤ 0)) = decide (nm = 0) := by
    rw [Bool.eq_iff_iff]
    simp only [Bool.and_eq_true, decide_eq_true_eq]
    omega
  rw [hz]
  by_cases h8 : kd = 8
  · subst h8
    have e : formedB 8 s.data.toList = true := rfl
    rw [if_pos rfl, e, Bool.true_and]
  rw [if_neg h8, kindP_L, Bool.and_comm]
  congr 1
  rw [Bool.eq_iff_iff, formed_iff kd _ h0 h6 h7 h8, decide_eq_true_iff]
end Go.Proofs.YtkfhdmkdkphmoaaDoor

namespace Go.Proofs.YtkfhdmkdkphmoaaDoor
open Go.RowKit

theorem grew_new (w : World) (bs : List UInt8) (arr : Array Value) (n : Nat) (hn : n = bs.length) (h : arr.toList = bs.map byteV) (hl : bs.length ≤ 1000) : Grew w.heap.size w (w.alloc (.cells arr 5)) (.slice (some ⟨w.heap.size, 0, none⟩) n n) bs := by
  subst hn
  have hsz : arr.size = bs.length := by rw [← Array.length_toList, h, List.length_map]
  refine ⟨⟨by simp, Or.inr ⟨w.heap.size, bs.length, arr, rfl, Nat.le_refl _, ?_, Nat.le_refl _, ?_, ?_, ?_⟩⟩, (Below.refl _ w).alloc (Nat.le_refl _) _⟩
  · show (w.heap.push _)[w.heap.size]? = _; simp
  · unfold maxLen; omega
  · omega
  · rw [h, List.take_of_length_le (by simp)]

set_option maxHeartbeats 4000000 in
set_option maxRecDepth 10000 in
theorem ref_told (c a : Nat) (w : World) (hc : c < 256) (ha : a < 256) : Calls Tryd.prog 26 #[.int .i64 c, .int .u8 a] w fun e w' => ∃ v', e = .returned v' ∧ Grew w.heap.size w w' v' (escB a c) := by
  by_cases h10 : c = 10
  · have HE : Hid ([92, 110] = escB a c) := by show _ = escB a c; simp [escB, h10]
    have h' : (c : Int) = 10 := by omega
    clear h10 hc
    generalize escB a c = eb at HE ⊢
    go_enter Tryd.func26, Tryd.ntmps26
    go_wp2
    go_ret
    exact ⟨_, rfl, HE.out ▸ grew_new _ [92, 110] _ 2 rfl rfl (by decide)⟩
  by_cases h9 : c = 9
  · have HE : Hid ([92, 116] = escB a c) := by show _ = escB a c; simp [escB, h9]
    have h' : (c : Int) = 9 := by omega
    clear h10 h9 hc
    generalize escB a c = eb at HE ⊢
    go_enter Tryd.func26, Tryd.ntmps26
    go_wp2
    go_ret
    exact ⟨_, rfl, HE.out ▸ grew_new _ [92, 116] _ 2 rfl rfl (by decide)⟩
  have n10 : ¬ (c : Int) = 10 := by omega
  have n9 : ¬ (c : Int) = 9 := by omega
  by_cases hq : c = 92 ∨ c = a
  · have HE : Hid ([92, c.toUInt8] = escB a c) := by show _ = escB a c; simp [escB, h10, h9, hq]
    have HV : Hid (byteV c.toUInt8 = .int .u8 (c : Int)) := byteV_toUInt8 hc
    generalize escB a c = eb at HE ⊢
    generalize c.toUInt8 = bb at HE HV
    clear h10 h9
    by_cases hq9 : c = 92
    · have h92 : (c : Int) = 92 := by omega
      have HV2 : Hid (byteV bb = .int .u8 92) := by show byteV bb = _; rw [HV.out, h92]
      clear hq hq9 n10 n9 HV hc
      go_enter Tryd.func26, Tryd.ntmps26
      go_wp2
      go_ret
      exact ⟨_, rfl, HE.out ▸ grew_new _ [92, bb] _ 2 rfl (by show _ = [byteV 92, byteV bb]; rw [HV2.out]; rfl) (by simp)⟩
    · have hqa : c = a := by omega
      subst hqa
      have n92 : ¬ (c : Int) = 92 := by omega
      have q92 : ((c : Int) == 92) = false := by simp; omega
      go_enter Tryd.func26, Tryd.ntmps26
      go_wp2
      go_ret
      exact ⟨_, rfl, HE.out ▸ grew_new _ [92, bb] _ 2 rfl (by show _ = [byteV 92, byteV bb]; rw [HV.out]; rfl) (by simp)⟩
  have n92 : ¬ (c : Int) = 92 := by omega
  have na : ¬ (c : Int) = (a : Int) := by omega
  have q92 : ((c : Int) == 92) = false := by simp; omega
  have qa : ((c : Int) == (a : Int)) = false := by simp; omega
  by_cases hp : 32 ≤ c ∧ c ≤ 126
  · have HE : Hid ([c.toUInt8] = escB a c) := by show _ = escB a c; simp [escB, h10, h9, hq, plainB, hp]
    have HV : Hid (byteV c.toUInt8 = .int .u8 (c : Int)) := byteV_toUInt8 hc
    generalize escB a c = eb at HE ⊢
    generalize c.toUInt8 = bb at HE HV
    have g1 : (32 : Int) ≤ c := by omega
    have g2 : (c : Int) ≤ 126 := by omega
    clear h10 h9 hq hp
    go_enter Tryd.func26, Tryd.ntmps26
    go_wp2
    all_goals first
      | (go_ret; exact ⟨_, rfl, HE.out ▸ grew_new _ [bb] _ 1 rfl (by show _ = [byteV bb]; rw [HV.out]) (by simp)⟩)
      | (exfalso; omega)
  · have HE : Hid ([92, (48 + c / 100).toUInt8, (48 + c / 10 % 10).toUInt8, (48 + c % 10).toUInt8] = escB a c) := by show _ = escB a c; simp [escB, h10, h9, hq, plainB, hp]
    have g1 : (c : Int) < 32 ∨ (126 : Int) < c := by omega
    generalize escB a c = eb at HE ⊢
    clear h10 h9 hq hp
    rcases g1 with g1 | g1
    all_goals
      go_enter Tryd.func26, Tryd.ntmps26
      go_wp2
      all_goals first
        | (exfalso; omega)
        | (go_ret; exact ⟨_, rfl, HE.out ▸ grew_new _ [92, (48 + c / 100).toUInt8, (48 + c / 10 % 10).toUInt8, (48 + c % 10).toUInt8] _ 4 rfl (by simp [byteV]; omega) (by simp)⟩)
end Go.Proofs.YtkfhdmkdkphmoaaDoor

namespace Go.Proofs.YtkfhdmkdkphmoaaDoor
open Go.RowKit

theorem own_bytes_cells {w : World} {C g n cap : Nat} {us : List UInt8} (h : w.ownsRow C 5 1 (.slice (some ⟨g, 0, none⟩) n cap) us.length (us.map byteV)) : ∀ j u, (us.map byteV)[j]? = some u → w.cell? ((⟨g, 0, none⟩ : Addr).add j) = some u := h.cells rfl

/-- append(x, y...) of two rows of bytes that are the call's own. -/
theorem wpList_append_bytes {w : World} {ops : Array Oper} {rest : List Oper} {o : Oper} {a : Act} {Q : Exit → Act → World → Prop} (hgd : o.guard = none) (s x : Operand)
    (ho : o.op = .call { callee := .builtin .append, args := #[s, x], argTypes := #[46, 46] })
    (B C : Nat) (v u : Value) (ts us : List UInt8) (hs : a.eval s = v) (hx : a.eval x = u) (hown : w.ownsRow B 5 1 v ts.length (ts.map byteV)) (hown2 : w.ownsRow C 5 1 u us.length (us.map byteV))
    (hl : ts.length + us.length ≤ 1000000000) (hB : B ≤ w.heap.size)
    (h : ∀ v' w', Grew B w w' v' (ts ++ us) → wpList Tryd.prog ops Q rest (a.put o.dst v') w') : wpList Tryd.prog ops Q (o :: rest) a w := by
  obtain ⟨i0, hi, hz0, hz1, hz2⟩ := info_parts Tryd.info5
  rcases id hown2.2 with ⟨rfl, h0⟩ | ⟨g, cap, cur, rfl, _, _, hcap, _⟩
  · obtain rfl : us = [] := List.length_eq_zero_iff.1 h0
    refine wpList_append_own_none hgd s x 46 ho B 5 i0 1 Tryd.underlying46 hi v _ _ hs hown hx ?_
    refine h v w ⟨?_, Below.refl _ _⟩
    rw [List.append_nil]
    exact hown
  · refine wpList_append_own w hgd s x 46 ho B 5 i0 _ 1 1 Tryd.underlying46 hi hz0 hz1 hz2 rfl (by decide) v _ _ hs hown ⟨g, 0, none⟩ us.length cap (us.map byteV) hx (by simp) (own_bytes_cells hown2) (by intro u hu; simp at hu; obtain ⟨c, _, rfl⟩ := hu; rfl) (by unfold maxLen; omega) (by omega) hB ?_
    intro v' w' h1 h2 _
    refine h v' w' ⟨?_, ?_⟩
    · rw [List.length_append, List.map_append]
      exact h1
    · exact (Below.refl B w).grown h2 hB (fun k hk => (hown.lt k hk).1)

theorem own_base {w : World} {B C n : Nat} {v : Value} {xs : List Value} (h : w.ownsRow C 5 1 v n xs) (hB : B ≤ C) : w.ownsRow B 5 1 v n xs := by
  refine ⟨h.1, ?_⟩
  rcases h.2 with h | ⟨g, cap, cur, h1, h2, h3⟩
  · exact Or.inl h
  · exact Or.inr ⟨g, cap, cur, h1, Nat.le_trans hB h2, h3⟩

set_option maxHeartbeats 4000000 in
set_option maxRecDepth 10000 in
theorem ref_tens (n : Nat) (w : World) (hn : n ≤ 4611686018427387903) : Calls Tryd.prog 25 #[.int .i64 n] w fun e w' => ∃ v', e = .returned v' ∧ Grew w.heap.size w w' v' (Lib.decDigits n) := by
  have hdl := dec_len 19 n (by omega) (by omega)
  generalize hD : Lib.decDigits n = D at hdl ⊢
  have g0 : Grew w.heap.size w w (.slice none 0 0) [] := ⟨⟨rfl, Or.inl ⟨rfl, rfl⟩⟩, Below.refl _ _⟩
  go_enter Tryd.func25, Tryd.ntmps25
  go_wp2
  go_loopw [0, 3] (fun i u wr => ∃ (k : Nat) (t : List UInt8), k ≤ n ∧ i = .int .i64 k ∧ Grew w.heap.size w wr u t ∧ Hid (Lib.decDigits k ++ t = D) ∧ t.length ≤ 19) (fun i _ _ => (intOf i).toNat)
  case atStart => exact ⟨n, [], Nat.le_refl _, rfl, g0, by show _ = _; rw [List.append_nil]; exact hD, by simp⟩
  case round =>
    obtain ⟨k, t, hk, rfl, G, HD, hl⟩ := hrel
    have hBr : w.heap.size ≤ wr.heap.size := G.bel.size
    by_cases h9 : 9 < k
    · have HV : Hid (Lib.decDigits k = Lib.decDigits (k / 10) ++ [UInt8.ofNat (48 + k % 10)]) := dec_big (by omega)
      have HB : Hid (byteV (UInt8.ofNat (48 + k % 10)) = .int .u8 (48 + (k : Int) % 10)) := by
        show byteV _ = _
        simp [byteV]
        omega
      generalize UInt8.ofNat (48 + k % 10) = d at HV HB
      have G1 := grew_new wr [d] #[.int .u8 (48 + (k : Int) % 10)] 1 rfl (by show _ = [byteV d]; rw [HB.out]) (by simp)
      go_wp2_with (at_builtin; refine wpList_append_bytes rfl _ _ rfl w.heap.size w.heap.size _ u3 [d] t rfl rfl (own_base G1.own hBr) (G.own.alloc _) (by simp; omega) (by simp; omega) ?_; intro v2 w2 G2)
      go_roundw
      case rel =>
        refine ⟨k / 10, [d] ++ t, by omega, by go_num, ⟨G2.own, (G.bel.trans (G1.bel.mono hBr)).trans G2.bel⟩, ?_, ?_⟩
        · show _ = D
          rw [← HD.out, HV.out, List.append_assoc]
        · have := congrArg List.length HD.out
          rw [HV.out] at this
          simp at this ⊢
          omega
      case measure => simp [intOf]; omega
    · have HV : Hid (Lib.decDigits k = [UInt8.ofNat (48 + k)]) := dec_small (by omega)
      have HB : Hid (byteV (UInt8.ofNat (48 + k)) = .int .u8 (48 + (k : Int))) := by
        show byteV _ = _
        simp [byteV]
        omega
      generalize UInt8.ofNat (48 + k) = d at HV HB
      have G1 := grew_new wr [d] #[.int .u8 (48 + (k : Int))] 1 rfl (by show _ = [byteV d]; rw [HB.out]) (by simp)
      go_wp2_with (at_builtin; refine wpList_append_bytes rfl _ _ rfl w.heap.size w.heap.size _ u3 [d] t rfl rfl (own_base G1.own hBr) (G.own.alloc _) (by simp; omega) (by simp; omega) ?_; intro v2 w2 G2)
      go_ret
      refine ⟨v2, rfl, ?_⟩
      rw [← HD.out, HV.out]
      exact ⟨G2.own, (G.bel.trans (G1.bel.mono hBr)).trans G2.bel⟩
end Go.Proofs.YtkfhdmkdkphmoaaDoor

namespace Go.Proofs.YtkfhdmkdkphmoaaDoor
open Go.RowKit

/-- A row of bytes that can be read. -/
def Rowb (w : World) (v : Value) (l : List UInt8) : Prop :=
  (v = .slice none 0 0 ∧ l = []) ∨ ∃ g cap, v = .slice (some ⟨g, 0, none⟩) l.length cap ∧ ∀ j u, (l.map byteV)[j]? = some u → w.cell? ((⟨g, 0, none⟩ : Addr).add j) = some u

theorem rowb_own {w : World} {C : Nat} {v : Value} {us : List UInt8} (h : w.ownsRow C 5 1 v us.length (us.map byteV)) : Rowb w v us := by
  rcases id h.2 with ⟨rfl, h0⟩ | ⟨g, cap, cur, rfl, _, _, _⟩
  · exact Or.inl ⟨rfl, List.length_eq_zero_iff.1 h0⟩
  · exact Or.inr ⟨g, cap, rfl, own_bytes_cells h⟩

theorem own_keep {w w' : World} {B e size n : Nat} {v : Value} {xs : List Value} (h : w.ownsRow B e size v n xs) (hb : Below w.heap.size w w') : w'.ownsRow B e size v n xs := by
  refine ⟨h.1, ?_⟩
  rcases h.2 with h0 | ⟨g, cap, cur, rfl, hg, hgg, rest⟩
  · exact .inl h0
  · exact .inr ⟨g, cap, cur, rfl, hg, by rw [hb.block g (Array.getElem?_eq_some_iff.1 hgg).1]; exact hgg, rest⟩

theorem own_lit (w : World) (g : Nat) (hg : g = w.heap.size) (B : Nat) (hB : B ≤ g) (bs : List UInt8) (arr : Array Value) (n : Nat) (hn : n = bs.length) (h : arr.toList = bs.map byteV) (hl : bs.length ≤ 1000) : (w.alloc (.cells arr 5)).ownsRow B 5 1 (.slice (some ⟨g, 0, none⟩) n n) bs.length (bs.map byteV) := by
  subst hg
  exact own_base (grew_new w bs arr n hn h hl).own hB

/-- '[]byte(s)': a row that can be read. -/
theorem run_bytes_row (W : World) (s : ByteArray) : ∃ v w1, (convert 9 46 (.string s)).run Tryd.prog W = .ok v w1 ∧ Rowb w1 v s.data.toList ∧ Below W.heap.size W w1 := by
  have CV := run_bytes_of_string (P := Tryd.prog) W 9 46 5 s Tryd.underlying9 Tryd.underlying46 (by kernel_rfl)
  refine ⟨_, _, CV, ?_, (Below.refl _ W).drew.alloc (Nat.le_refl _) _⟩
  generalize grownCap W s.size 0 5 = cap
  have hl : s.data.toList.length = s.size := by simp
  refine Or.inr ⟨W.heap.size, cap, by rw [hl], ?_⟩
  intro j u hu
  have hadd : (⟨W.heap.size, 0, none⟩ : Addr).add j = ⟨W.heap.size, j, none⟩ := by unfold Addr.add; split <;> simp_all
  rw [hadd]
  have hblk : ∀ fz, (W.drew.alloc (.cells (bytesRow s cap) 5 fz)).heap[W.heap.size]? = some (.cells (bytesRow s cap) 5 fz) := by
    intro fz
    show (W.heap.push _)[W.heap.size]? = _
    simp
  have hcb : ∀ fz, (W.drew.alloc (.cells (bytesRow s cap) 5 fz)).cell? ⟨W.heap.size, j, none⟩ = (bytesRow s cap)[j]? := by
    intro fz
    unfold World.cell?
    simp only [hblk]
    rfl
  rw [hcb]
  simp at hu
  obtain ⟨c, hc, rfl⟩ := hu
  have hj : j < s.data.size := (Array.getElem?_eq_some_iff.1 hc).1
  unfold bytesRow
  rw [Array.getElem?_append_left (by simpa using hj)]
  simp [hc, byteV]

theorem quote_take_len (a j : Nat) (l : List UInt8) : (quoteL a (l.take j)).length ≤ (quoteL a l).length := by
  have e : quoteL a l = quoteL a (l.take j) ++ quoteL a (l.drop j) := by
    unfold quoteL
    rw [← List.flatMap_append, List.take_append_drop]
  rw [e, List.length_append]
  omega

set_option maxHeartbeats 4000000 in
set_option maxRecDepth 10000 in
theorem ref_written (kd nm : Nat) (at' : Int) (s : ByteArray) (w : World) (h6 : kd = 6 → nm ≤ 4611686018427387903) (h7 : kd = 7 → nm < 256) (hs : s.size ≤ maxLen) (hk2 : kd ≤ 11) :
    Calls Tryd.prog 19 #[.agg #[.int .i64 kd, .string s, .int .i64 nm, .int .i64 at']] w fun e w' => ∃ v l, e = .returned v ∧ Rowb w' v l ∧ Below w.heap.size w w' ∧ (l = writeA kd nm s.data.toList ∨ (65536 < l.length ∧ 65536 < (writeA kd nm s.data.toList).length)) ∧ l.length ≤ 65600 + s.size := by
  have hbo : ∀ o, Below w.heap.size w (w.alloc o) := fun o => (Below.refl _ w).alloc (Nat.le_refl _) o
  by_cases k6 : kd = 6
  · subst k6
    have HE : Hid (writeA 6 nm s.data.toList = Lib.decDigits nm) := rfl
    have TN := fun W => ref_tens nm W (h6 rfl)
    have hdl := dec_len 19 nm (by omega) (by have := h6 rfl; omega)
    generalize writeA 6 nm s.data.toList = R at *
    generalize Lib.decDigits nm = D at *
    go_enter Tryd.func19, Tryd.ntmps19
    go_wp2_with (first | (go_at_call 25; (with_reducible refine Calls.mono (TN _) ?_); rintro e w1 ⟨v1, rfl, G1⟩))
    go_ret
    exact ⟨v1, D, rfl, rowb_own G1.own, (hbo _).trans (G1.bel.mono (hbo _).size), Or.inl HE.out.symm, by omega⟩
  by_cases k7 : kd = 7
  · subst k7
    have HE : Hid (writeA 7 nm s.data.toList = [39] ++ escB 39 nm ++ [39]) := rfl
    have TD := fun W => ref_told nm 39 W (h7 rfl) (by omega)
    generalize writeA 7 nm s.data.toList = R at *
    have hel := escB_len 39 nm
    generalize escB 39 nm = D at *
    go_enter Tryd.func19, Tryd.ntmps19
    go_wp2_with (first | (go_at_call 26; (with_reducible refine Calls.mono (TD _) ?_); rintro e w1 ⟨v1, rfl, G1⟩) | (at_builtin; refine wpList_append_bytes rfl _ _ rfl w.heap.size _ _ v1 [39] D rfl rfl (own_keep (own_lit _ _ (by simp) w.heap.size (by omega) [39] #[.int .u8 39] 1 rfl rfl (by simp)) G1.bel) G1.own (by simp; omega) (by have := G1.bel.size; simp at this; omega) ?_; intro v2 w2 G2) | (at_builtin; refine wpList_append_bytes rfl _ _ rfl w.heap.size w2.heap.size v2 _ ([39] ++ D) [39] rfl rfl (G2.own.alloc _) (own_lit _ _ rfl _ (Nat.le_refl _) [39] #[.int .u8 39] 1 rfl rfl (by simp)) (by simp; omega) (by have := G1.bel.size; have := G2.bel.size; simp at *; omega) ?_; intro v3 w3 G3))
    go_ret
    have b1 := (hbo (.cells #[.int .i64 7, .string s, .int .i64 nm, .int .i64 at'] 28)).alloc (hbo _).size (.cells #[.int .u8 39] 5)
    have b3 := (b1.trans (G1.bel.mono b1.size)).trans G2.bel
    have b5 := (b3.alloc b3.size (.cells #[.int .u8 39] 5)).trans G3.bel
    exact ⟨v3, _, rfl, rowb_own G3.own, b5, Or.inl HE.out.symm, by simp; omega⟩
  by_cases k8 : kd = 8
  · subst k8
    have HE : Hid (writeA 8 nm s.data.toList = [34] ++ quoteL 34 s.data.toList ++ [34]) := rfl
    generalize writeA 8 nm s.data.toList = R at *
    unfold maxLen at hs
    have hb0 := hbo (.cells #[.int .i64 8, .string s, .int .i64 nm, .int .i64 at'] 28)
    have hw0 : (w.alloc (.cells #[.int .i64 8, .string s, .int .i64 nm, .int .i64 at'] 28)).heap.size = w.heap.size + 1 := by simp
    have g0 := grew_new (w.alloc (.cells #[.int .i64 8, .string s, .int .i64 nm, .int .i64 at'] 28)) [34] #[.int .u8 34] 1 rfl rfl (by simp)
    clear h6 h7 k6 k7 hk2 hbo
    rw [show ((8 : Nat) : Int) = 8 from rfl]
    go_enter Tryd.func19, Tryd.ntmps19
    go_wp2
    go_loopw [4, 5] (fun u i wr => ∃ j : Nat, j ≤ s.size ∧ i = .int .i64 j ∧ Grew (w.alloc (.cells #[.int .i64 8, .string s, .int .i64 nm, .int .i64 at'] 28)).heap.size (w.alloc (.cells #[.int .i64 8, .string s, .int .i64 nm, .int .i64 at'] 28)) wr u ([34] ++ quoteL 34 (s.data.toList.take j)) ∧ ([34] ++ quoteL 34 (s.data.toList.take j)).length ≤ 65540) (fun _ i _ => s.size - (intOf i).toNat)
    case atStart =>
      rw [hw0] at g0
      exact ⟨0, by omega, rfl, by rw [hw0]; exact g0, by simp [quoteL]⟩
    case round =>
      obtain ⟨j, hj, rfl, G, hlen⟩ := hrel
      have c1 := (far_cell G.bel 1).trans rfl
      have hBr := G.bel.size
      have hbw := hb0.trans (G.bel.mono hb0.size)
      have HL : Hid (([34] ++ quoteL 34 (s.data.toList.take j)).length < R.length) := by
        show _ < _
        rw [HE.out]
        have := quote_take_len 34 j s.data.toList
        simp
        omega
      obtain ⟨T, HT⟩ : ∃ T, Hid (T = [34] ++ quoteL 34 (s.data.toList.take j)) := ⟨[34] ++ quoteL 34 (s.data.toList.take j), by show _ = _; rfl⟩
      rw [← HT.out] at G hlen HL
      have hown := G.own
      rw [hw0] at hBr
      clear hb0 g0
      rcases id G.own.2 with ⟨_, h0⟩ | ⟨g, cap, cur, rfl, _⟩
      · rw [HT.out] at h0; simp at h0
      have HO : Hid (wr.ownsRow (w.alloc (.cells #[.int .i64 8, .string s, .int .i64 nm, .int .i64 at'] 28)).heap.size 5 1 (.slice (some ⟨g, 0, none⟩) T.length cap) T.length (T.map byteV)) := hown
      obtain ⟨n, HN⟩ : ∃ n, Hid (T.length = n) := ⟨T.length, by show _ = _; rfl⟩
      rw [HN.out] at hlen HL
      have e0 : Value.slice (some ⟨g, 0, none⟩) T.length cap = .slice (some ⟨g, 0, none⟩) n cap := by rw [HN.out]
      rw [e0] at HO G
      clear hown
      rw [e0]
      by_cases hlt : j < s.size
      · have HQ : Hid (quoteL 34 (s.data.toList.take (j + 1)) = quoteL 34 (s.data.toList.take j) ++ escB 34 s[j].toNat) := quote_step s 34 j hlt
        have hel := escB_len 34 s[j].toNat
        have TD := fun W => ref_told s[j].toNat 34 W s[j].toNat_lt (by omega)
        generalize escB 34 s[j].toNat = E at *
        have hwr : wrap64 (s[j].toNat : Int) = s[j].toNat := by
          have := s[j].toNat_lt
          unfold wrap64
          omega
        by_cases hm : n ≤ 65536
        · have hm' : (n : Int) ≤ 65536 := by omega
          go_wp2_with (first | (go_at_call 26; (with_reducible refine Calls.mono (TD _) ?_); rintro e w1 ⟨v1, rfl, G1⟩) | (at_builtin; refine wpList_append_bytes rfl _ _ rfl _ _ _ v1 T E rfl rfl (own_keep HO.out G1.bel) G1.own (by have := HN.out; omega) (Nat.le_trans G.bel.size G1.bel.size) ?_; intro v2 w2 G2))
          go_roundw
          case rel =>
            refine ⟨j + 1, by omega, by go_num, ?_, ?_⟩
            · rw [HQ.out, ← List.append_assoc, ← HT.out]
              exact ⟨G2.own, (G.bel.trans (G1.bel.mono G.bel.size)).trans G2.bel⟩
            · rw [HQ.out, ← List.append_assoc, ← HT.out, List.length_append]
              omega
          case measure => simp [intOf]; omega
        · have hm' : (65536 : Int) < n := by omega
          go_wp2_with (at_builtin; refine wpList_append_bytes rfl _ _ rfl _ _ _ _ T [34] rfl rfl (HO.out.alloc _) (own_lit _ _ rfl _ (Nat.le_refl _) [34] #[.int .u8 34] 1 rfl rfl (by simp)) (by have := HN.out; simp; omega) (by have := G.bel.size; simp at *; omega) ?_; intro v2 w2 G2)
          go_ret
          refine ⟨v2, rfl, T ++ [34], rowb_own G2.own, (hbw.alloc hbw.size _).trans (G2.bel.mono (by omega)), Or.inr ⟨?_, ?_⟩, by simp; omega⟩
          · simp; omega
          · have := HL.out
            omega
      · have hlt' : (s.size : Int) ≤ j := by omega
        have hje : j = s.size := by omega
        have HQ : Hid (T = [34] ++ quoteL 34 s.data.toList) := by
          show T = _
          rw [HT.out, List.take_of_length_le (by simp; omega)]
        go_wp2_with (at_builtin; refine wpList_append_bytes rfl _ _ rfl _ _ _ _ T [34] rfl rfl (HO.out.alloc _) (own_lit _ _ rfl _ (Nat.le_refl _) [34] #[.int .u8 34] 1 rfl rfl (by simp)) (by have := HN.out; simp; omega) (by have := G.bel.size; simp at *; omega) ?_; intro v2 w2 G2)
        go_ret
        refine ⟨v2, rfl, T ++ [34], rowb_own G2.own, (hbw.alloc hbw.size _).trans (G2.bel.mono (by omega)), Or.inl ?_, by simp; omega⟩
        rw [HE.out, HQ.out]
  have HE : Hid (writeA kd nm s.data.toList = s.data.toList) := by show writeA kd nm s.data.toList = _; simp [writeA, writeL, k6, k7, k8]
  generalize writeA kd nm s.data.toList = R at *
  have n6 : ¬ (kd : Int) = 6 := by omega
  have n7 : ¬ (kd : Int) = 7 := by omega
  have n8 : ¬ (kd : Int) = 8 := by omega
  obtain ⟨v1, w1, hcv, hrow, hb1⟩ := run_bytes_row (w.alloc (.cells #[.int .i64 kd, .string s, .int .i64 nm, .int .i64 at'] 28)) s
  clear k6 k7 k8 h6 h7
  go_enter Tryd.func19, Tryd.ntmps19
  go_wp2
  go_ret
  exact ⟨v1, _, rfl, hrow, (hbo _).trans (hb1.mono (hbo _).size), Or.inl HE.out.symm, by simp⟩
end Go.Proofs.YtkfhdmkdkphmoaaDoor

namespace Go.Proofs.YtkfhdmkdkphmoaaDoor
open Go.RowKit

/-- The whole of what a row is written as. -/
def wholeA : Bool → List Tk → List UInt8
  | _, [] => []
  | f, t :: r => (if f then [] else [32]) ++ writeA t.1 t.2.2.1 t.2.1 ++ wholeA false r

theorem escB_pos (a b : Nat) : 1 ≤ (escB a b).length := by
  unfold escB
  repeat' split
  all_goals simp

theorem quote_ge (a : Nat) (l : List UInt8) : l.length ≤ (quoteL a l).length := by
  induction l with
  | nil => simp
  | cons c r ih =>
    have := escB_pos a c.toNat
    simp [quoteL] at ih ⊢
    omega

theorem write_ge (kd nm : Nat) (tx : List UInt8) (h : kd = 6 ∨ kd = 7 → tx = []) : tx.length ≤ (writeA kd nm tx).length := by
  by_cases h67 : kd = 6 ∨ kd = 7
  · rw [h h67]; simp
  · unfold writeA writeL
    rw [if_neg (by omega), if_neg (by omega)]
    split
    · have := quote_ge 34 tx
      simp
      omega
    · exact Nat.le_refl _

theorem joinA_whole : ∀ (ts : List Tk) (f : Bool) (acc : List UInt8), (∀ t ∈ ts, t.1 = 6 ∨ t.1 = 7 → t.2.1 = []) →
    joinA f acc ts = if 65536 < (acc ++ wholeA f ts).length then none else some (acc ++ wholeA f ts) := by
  intro ts
  induction ts with
  | nil => intro f acc _; simp [joinA, wholeA]
  | cons t r ih =>
    intro f acc hg
    have h1 := write_ge t.1 t.2.2.1 t.2.1 (hg t (by simp))
    unfold joinA
    by_cases hb : 65536 < acc.length ∨ 65536 < t.2.1.length
    · rw [if_pos hb, if_pos]
      simp only [wholeA, List.length_append]
      omega
    · rw [if_neg hb, ih false _ (fun u hu => hg u (by simp [hu]))]
      have e : acc ++ (if f then [] else [32]) ++ writeA t.1 t.2.2.1 t.2.1 ++ wholeA false r = acc ++ wholeA f (t :: r) := by
        simp only [wholeA, List.append_assoc]
      rw [e]
end Go.Proofs.YtkfhdmkdkphmoaaDoor
