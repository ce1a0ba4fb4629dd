/- What of the plain side of types is used besides: looks at names, what is wrong with a type, what is printed, how a text begins. Nothing of the program stands here. What a lenient reading of a type says: a tree, and what is left. Nothing of the program stands here. -/
import Derived.Test.YtgdflaapgfpdeaaGreatDoorMcx
import Derived.Test.YtgdflaapgfpdeaaGreatDoorMdx
import Derived.WalkKit
import Derived.WalkSpells
import Derived.WalkLawsBesides
import Derived.WalkMore
namespace Go.Proofs.YtgdflaapgfpdeaaGreatDoor
open Go.RowKit


theorem ret_bool {a b : Bool} (h : a = b) : Ending.returned (.bool a) = .returned (.bool b) := by rw [h]
theorem drop_all {p : UInt8 → Bool} {s : ByteArray} {j : Nat} (h : j < s.size) : (s.data.toList.drop j).all p = (p s[j] && (s.data.toList.drop (j + 1)).all p) := by
  rw [List.drop_eq_getElem_cons (by simpa using h), List.all_cons]
  rfl
theorem size_pos {s : ByteArray} (h : ¬ s = ⟨#[]⟩) : 0 < s.size := by
  rcases Nat.eq_zero_or_pos s.size with h0 | h0
  · exact absurd (by cases s with | mk d => cases d with | mk l => cases l with | nil => rfl | cons a l => simp [ByteArray.size] at h0) h
  · exact h0
theorem list_cons {s : ByteArray} (h : 0 < s.size) : s.data.toList = s[0] :: s.data.toList.drop 1 := by
  have := List.drop_eq_getElem_cons (l := s.data.toList) (i := 0) (by simpa using h)
  rw [List.drop_zero] at this
  exact this
/-- The first place of a point, and what a data type's name is by it. -/
theorem data_split (n : List UInt8) : (∀ c ∈ n, c ≠ 46) ∨ ∃ i, ∃ h : i < n.length, n[i] = 46 ∧ (∀ j (h' : j < n.length), j < i → n[j] ≠ 46) := by
  by_cases h : ∀ c ∈ n, c ≠ 46
  · exact .inl h
  · refine .inr ?_
    induction n with
    | nil => exact absurd (by simp) h
    | cons a n ih =>
      by_cases ha : a = 46
      · exact ⟨0, by simp, ha, fun j _ hj => by omega⟩
      · have h2 : ¬ ∀ c ∈ n, c ≠ 46 := fun h3 => h (by
          intro c hc
          rcases List.mem_cons.1 hc with rfl | hc
          · exact ha
          · exact h3 c hc)
        obtain ⟨i, hi, e, hj⟩ := ih h2
        refine ⟨i + 1, by simpa using hi, by simpa using e, fun j hj' hlt => ?_⟩
        cases j with
        | zero => exact ha
        | succ j => simpa using hj j (by simpa using hj') (by omega)
theorem take_point {n : List UInt8} {i : Nat} (h : i < n.length) (h1 : n[i] = 46) (h2 : ∀ j (h' : j < n.length), j < i → n[j] ≠ 46) : n.takeWhile (· ≠ 46) = n.take i ∧ n.dropWhile (· ≠ 46) = n.drop i := by
  induction n generalizing i with
  | nil => simp at h
  | cons a n ih =>
    cases i with
    | zero => simp at h1; simp [h1]
    | succ i =>
      have ha : a ≠ 46 := h2 0 (by simp) (by omega)
      obtain ⟨e1, e2⟩ := ih (i := i) (by simpa using h) (by simpa using h1) (fun j hj hlt => h2 (j + 1) (by simpa using hj) (by omega))
      rw [List.takeWhile_cons, List.dropWhile_cons, if_pos (by simpa using ha), if_pos (by simpa using ha), e1, e2]
      exact ⟨rfl, rfl⟩
theorem upper_no_point {n : List UInt8} (h : upperB n = true) : ∀ c ∈ n, c ≠ 46 := by
  cases n with
  | nil => simp [upperB] at h
  | cons c r =>
    simp only [upperB, Bool.and_eq_true, List.all_eq_true] at h
    intro x hx e
    subst e
    rcases List.mem_cons.1 hx with e | hx
    · rw [← e] at h; exact absurd h.1 (by decide)
    · exact absurd (h.2 _ hx) (by decide)
theorem drop_none : ∀ {n : List UInt8}, (∀ c ∈ n, c ≠ 46) → n.dropWhile (· ≠ 46) = []
  | [], _ => rfl
  | a :: n, h => by
    rw [List.dropWhile_cons, if_pos (by simpa using h a (by simp))]
    exact drop_none fun c hc => h c (by simp [hc])
theorem data_plainly {n : List UInt8} (h : ∀ c ∈ n, c ≠ 46) : dataB n = (decide (n ≠ [73, 110, 116]) && decide (n.length ≤ 4096) && upperB n) := by
  have h1 : n.dropWhile (· ≠ 46) = [] := drop_none h
  simp only [dataB, h1]
  simp
theorem data_pointed {n : List UInt8} {i : Nat} (h : i < n.length) (h1 : n[i] = 46) (h2 : ∀ j (h' : j < n.length), j < i → n[j] ≠ 46) : dataB n = (decide (n ≠ [73, 110, 116]) && decide (n.length ≤ 4096) && (upperB (n.take i) && upperB (n.drop (i + 1)))) := by
  obtain ⟨e1, e2⟩ := take_point h h1 h2
  have hu : upperB n = false := by
    rw [Bool.eq_false_iff]
    intro hu
    exact upper_no_point hu _ (List.getElem_mem h) h1
  have h3 : n.drop i ≠ [] := by
    intro h0
    rw [List.drop_eq_nil_iff] at h0
    omega
  simp only [dataB, e1, e2, hu, List.drop_drop]
  simp [h3]
theorem point_ne {c : UInt8} (h : c ≠ 46) : ((c.toNat : Int) == 46) = false := by
  have : c.toNat ≠ 46 := fun e => h (UInt8.toNat_inj.1 e)
  simp
  omega

/-- What a node must be by itself. -/
def okB (k : Int) (n : List UInt8) (len : Nat) : Bool := if k = 1 then n.isEmpty && decide (len = 0) else if k = 2 then varB n && decide (len = 0) else if k = 3 then n.isEmpty && decide (len = 2) else if k = 4 then dataB n && decide (len ≤ 6) else false
theorem form_succ (d : Nat) (k : Int) (n : List UInt8) (ts : List (Tn d)) : formB (d + 1) ((k, n), ts) = (okB k n ts.length && ts.all (formB d)) := by
  have h0 : ∀ l : List (Tn d), l.isEmpty = decide (l.length = 0) := fun l => by cases l <;> rfl
  show ((if k = 1 then n.isEmpty && ts.isEmpty else if k = 2 then varB n && ts.isEmpty else if k = 3 then n.isEmpty && decide (ts.length = 2) else if k = 4 then dataB n && decide (ts.length ≤ 6) else false) && ts.all (formB d)) = _
  rw [h0]
  rfl
theorem drop_all' {α : Type} {p : α → Bool} {l : List α} {j : Nat} (h : j < l.length) : (l.drop j).all p = (p l[j] && (l.drop (j + 1)).all p) := by
  rw [List.drop_eq_getElem_cons h, List.all_cons]
theorem bytes_list (n : List UInt8) : (⟨n.toArray⟩ : ByteArray).toList = n := by rw [ByteArray.toList_eq]
/-- What is wrong with a tree: nothing (0), its form (53), its size (4). -/
def wrongT (d : Nat) (t : Tn d) : Int := if formB d t = true then (if 500 < (flat d t).length then 4 else 0) else 53

theorem var_len {n : List UInt8} (h : varB n = true) : n.length ≤ 4096 := by
  simp only [varB, Bool.and_eq_true, decide_eq_true_eq] at h
  exact h.1
theorem data_len {n : List UInt8} (h : dataB n = true) : n.length ≤ 4096 := by
  simp only [dataB, Bool.and_eq_true, decide_eq_true_eq] at h
  exact h.1.2
theorem args_len (d : Nat) (ih : ∀ t : Tn d, formB d t = true → (textT d t).length ≤ 4104 * (flat d t).length) : ∀ ts : List (Tn d), (∀ a ∈ ts, formB d a = true) → (argsT d ts).length ≤ 4104 * (flats d ts).length + ts.length
  | [], _ => by simp [argsT, flats]
  | t :: ts, h => by
    rw [argsT_cons, flats_cons, List.length_cons, List.length_append, List.length_append, List.length_cons]
    have h1 := ih t (h t (by simp))
    have h2 := args_len d ih ts fun a ha => h a (by simp [ha])
    omega
theorem text_len : ∀ (d : Nat) (t : Tn d), formB d t = true → (textT d t).length ≤ 4104 * (flat d t).length
  | 0, t, _ => t.elim
  | d + 1, t, h => by
    rcases form_cases h with rfl | ⟨n, hn, rfl⟩ | ⟨a, b, ha, hb, rfl⟩ | ⟨n, ts, hn, hl, hts, rfl⟩
    · rw [text_int, flat_succ]; simp; omega
    · rw [text_var, flat_succ]
      have := var_len hn
      simp
      omega
    · rw [text_fun, flat_succ, flats_cons, flats_cons, flats_nil]
      have h1 := text_len d a ha
      have h2 := text_len d b hb
      simp
      omega
    · have := data_len hn
      cases ts with
      | nil => rw [text_data0, flat_succ]; simp; omega
      | cons t ts =>
        rw [text_data, flat_succ]
        have h2 := args_len d (text_len d) (t :: ts) hts
        simp only [List.length_cons, List.length_append] at h2 hl ⊢
        simp
        omega
theorem flat_le {d : Nat} : ∀ {ts : List (Tn d)} {j : Nat} (h : j < ts.length), (flat d ts[j]).length ≤ (flats d ts).length
  | [], _, h => by simp at h
  | t :: ts, 0, _ => by rw [flats_cons, List.length_append]; show (flat d t).length ≤ _; omega
  | t :: ts, j + 1, h => by
    rw [flats_cons, List.length_append]
    have hj : j < ts.length := by simpa using h
    have := flat_le (ts := ts) (j := j) hj
    show (flat d ts[j]).length ≤ _
    omega
/-- The string of a row of bytes. -/
abbrev strV (l : List UInt8) : Value := .string ⟨l.toArray⟩
theorem str_append (a b : List UInt8) : (⟨a.toArray⟩ : ByteArray) ++ ⟨b.toArray⟩ = ⟨(a ++ b).toArray⟩ := by
  apply ByteArray.ext
  simp [ByteArray.data_append]
theorem str_fun (ta tb : List UInt8) : (⟨#[40]⟩ : ByteArray) ++ ⟨ta.toArray⟩ ++ ⟨#[32, 45, 62, 32]⟩ ++ ⟨tb.toArray⟩ ++ ⟨#[41]⟩ = ⟨(40 :: (ta ++ ([32, 45, 62, 32] ++ (tb ++ [41])))).toArray⟩ := by
  apply ByteArray.ext
  simp [ByteArray.data_append]
theorem str_open (ta : List UInt8) : (⟨#[40]⟩ : ByteArray) ++ ⟨ta.toArray⟩ = ⟨(40 :: ta).toArray⟩ := by
  apply ByteArray.ext
  simp [ByteArray.data_append]
theorem str_more (ta tb : List UInt8) : (⟨ta.toArray⟩ : ByteArray) ++ ⟨#[32]⟩ ++ ⟨tb.toArray⟩ = ⟨(ta ++ 32 :: tb).toArray⟩ := by
  apply ByteArray.ext
  simp [ByteArray.data_append]
theorem str_shut (ta : List UInt8) : (⟨ta.toArray⟩ : ByteArray) ++ ⟨#[41]⟩ = ⟨(ta ++ [41]).toArray⟩ := by
  apply ByteArray.ext
  simp [ByteArray.data_append]
/-- What Print answers. -/
def printV (d : Nat) (t : Tn d) : Value := if wrongT d t ≠ 0 then .tuple #[.string ⟨#[]⟩, .int .i64 (wrongT d t)] else if 65536 < (textT d t).length then .tuple #[.string ⟨#[]⟩, .int .i64 4] else .tuple #[strV (textT d t), .int .i64 0]
theorem wrong_zero {d : Nat} {t : Tn d} (h : wrongT d t = 0) : formB d t = true ∧ (flat d t).length ≤ 500 := by
  unfold wrongT at h
  split at h
  · rename_i hf
    split at h
    · cases h
    · exact ⟨hf, by omega⟩
  · cases h
theorem wrong_range (d : Nat) (t : Tn d) : wrongT d t = 0 ∨ wrongT d t = 4 ∨ wrongT d t = 53 := by
  unfold wrongT
  split
  · split <;> simp
  · simp

/-- What is left of a text from a place on. -/
def rs (s : ByteArray) (k : Nat) : List UInt8 := s.data.toList.drop k
theorem rs_len (s : ByteArray) (k : Nat) : (rs s k).length = s.size - k := by simp [rs]
theorem extract_list (s : ByteArray) (a b : Nat) : (s.extract a b).data.toList = (rs s a).take (b - a) := by
  rw [ByteArray.data_extract, Array.toList_extract, List.extract_eq_take_drop]
  rfl
theorem rs_drop (s : ByteArray) (k m : Nat) : (rs s k).drop m = rs s (k + m) := by simp [rs]
/-- Does a text begin so? -/
def begB (c l : List UInt8) : Bool := decide (l.take c.length = c)
/-- The word at a text's beginning. -/
def wordL (l : List UInt8) : List UInt8 := l.takeWhile fun c => !endB c
theorem word_split (l : List UInt8) : ∃ r, l = wordL l ++ r ∧ (∀ c ∈ wordL l, endB c = false) ∧ Ends r := by
  refine ⟨l.dropWhile fun c => !endB c, List.takeWhile_append_dropWhile.symm, fun c hc => ?_, fun c hc => ?_⟩
  · have := List.all_eq_true.1 (List.all_takeWhile (p := fun c => !endB c) (l := l)) c hc
    simpa using this
  · cases hd : l.dropWhile fun c => !endB c with
    | nil => simp [hd] at hc
    | cons x r =>
      have := List.head_dropWhile_not (fun c => !endB c) (l := l) (by rw [hd]; simp)
      simp only [hd, List.head_cons] at this
      simp [hd] at hc
      subst hc
      simpa using this
theorem word_of {a r : List UInt8} (h1 : ∀ c ∈ a, endB c = false) (h2 : Ends r) : wordL (a ++ r) = a := by
  obtain ⟨r', e, g1, g2⟩ := word_split (a ++ r)
  exact (word_eq h1 g1 h2 g2 e).1.symm
theorem end_ne {c : UInt8} : endB c = (decide (c.toNat = 32) || decide (c.toNat = 40) || decide (c.toNat = 41)) := by
  unfold endB
  have e : ∀ x : UInt8, (c == x) = decide (c.toNat = x.toNat) := fun x => by
    rw [Bool.eq_iff_iff]
    simp [UInt8.toNat_inj]
  rw [e, e, e]
  rfl
theorem rs_cons {s : ByteArray} {k : Nat} (h : k < s.size) : rs s k = s[k] :: rs s (k + 1) := by
  unfold rs
  rw [List.drop_eq_getElem_cons (by simpa using h)]
  rfl

/-- The type that is one word. -/
def leafT (n : List UInt8) : Option (Int × List UInt8) := if n = [73, 110, 116] then some (1, []) else if varB n = true then some (2, n) else if dataB n = true then some (4, n) else none
theorem leaf_form {n : List UInt8} {k : Int} {m : List UInt8} (h : leafT n = some (k, m)) : formB 1 ((k, m), []) = true ∧ textT 1 ((k, m), []) = n := by
  unfold leafT at h
  split at h
  · rename_i e
    simp at h
    obtain ⟨rfl, rfl⟩ := h
    exact ⟨rfl, e.symm⟩
  split at h
  · rename_i e
    simp at h
    obtain ⟨rfl, rfl⟩ := h
    exact ⟨by rw [form_succ]; simp [okB, e], rfl⟩
  split at h
  · rename_i e
    simp at h
    obtain ⟨rfl, rfl⟩ := h
    exact ⟨by rw [form_succ]; simp [okB, e], rfl⟩
  · cases h
theorem leaf_none {n : List UInt8} (h : leafT n = none) : n ≠ [73, 110, 116] ∧ varB n = false ∧ dataB n = false := by
  unfold leafT at h
  split at h
  · cases h
  split at h
  · cases h
  split at h
  · cases h
  · rename_i a b c
    exact ⟨a, by simpa using b, by simpa using c⟩
theorem leaf_len {n : List UInt8} {k : Int} {m : List UInt8} (h : leafT n = some (k, m)) : m.length ≤ n.length := by
  unfold leafT at h
  split at h
  · simp at h; rw [h.2]; simp
  split at h
  · simp at h; rw [h.2]; exact Nat.le_refl _
  split at h
  · simp at h; rw [h.2]; exact Nat.le_refl _
  · cases h

theorem args_ends {d : Nat} (l : List (Tn d)) (r : List UInt8) : Ends (argsT d l ++ 41 :: r) := by
  cases l with
  | nil => exact ends_cons rfl
  | cons a l => rw [argsT_cons]; exact ends_cons rfl
theorem args_blank {d : Nat} {ts : List (Tn d)} {l r : List UInt8} (h : 32 :: l = argsT d ts ++ 41 :: r) : ∃ u us, ts = u :: us ∧ l = textT d u ++ (argsT d us ++ 41 :: r) := by
  cases ts with
  | nil => simp [argsT] at h
  | cons u us =>
    rw [argsT_cons] at h
    simp only [List.cons_append, List.append_assoc, List.cons.injEq, true_and] at h
    exact ⟨u, us, rfl, h⟩
theorem args_step {m d : Nat} {t : Tn m} {l r1 r : List UInt8} {ts : List (Tn d)} (hl : l = textT m t ++ r1) (hf : formB m t = true) (he : Leaf m t → Ends r1) (hts : ∀ a ∈ ts, formB d a = true) (h : 32 :: l = argsT d ts ++ 41 :: r) :
    ∃ us : List (Tn d), (∀ a ∈ us, formB d a = true) ∧ r1 = argsT d us ++ 41 :: r ∧ ts.length = us.length + 1 := by
  obtain ⟨u, us, rfl, h1⟩ := args_blank h
  have := text_inj2 m t d u r1 _ hf (hts u (by simp)) he (fun _ => args_ends us r) (by rw [← hl, h1])
  exact ⟨us, fun a ha => hts a (by simp [ha]), this.2, rfl⟩
theorem args_fail {d : Nat} {l r : List UInt8} {ts : List (Tn d)} (hno : ∀ d (t : Tn d) r, formB d t = true → l = textT d t ++ r → (Leaf d t → Ends r) → False) (hts : ∀ a ∈ ts, formB d a = true) (h : 32 :: l = argsT d ts ++ 41 :: r) : False := by
  obtain ⟨u, us, rfl, h1⟩ := args_blank h
  exact hno d u _ (hts u (by simp)) h1 fun _ => args_ends us r
theorem args_end {d : Nat} {l r : List UInt8} {ts : List (Tn d)} (hb : begB [32] l = false) (h : l = argsT d ts ++ 41 :: r) : ts = [] ∧ l = 41 :: r := by
  cases ts with
  | nil => exact ⟨rfl, by simpa [argsT] using h⟩
  | cons u us =>
    rw [argsT_cons] at h
    rw [h] at hb
    simp [begB] at hb
theorem beg_one {c : UInt8} {l : List UInt8} (h : begB [c] l = true) : ∃ r, l = c :: r := by
  cases l with
  | nil => simp [begB] at h
  | cons x r => simp [begB] at h; exact ⟨r, by rw [h]⟩
theorem beg_arrow {l : List UInt8} (h : begB [32, 45, 62, 32] l = true) : ∃ r, l = [32, 45, 62, 32] ++ r := by
  have h := of_decide_eq_true h
  refine ⟨l.drop 4, ?_⟩
  have h4 : l.take 4 = [32, 45, 62, 32] := h
  rw [← h4, List.take_append_drop]
theorem beg_self (c r : List UInt8) : begB c (c ++ r) = true := by
  unfold begB
  rw [decide_eq_true_eq, List.take_left']
  rfl
/-- Behind a bracket: a data type with arguments. -/
theorem open_data {d : Nat} {t : Tn d} {l1 l2 r : List UInt8} (ht : formB d t = true) (h : 40 :: l1 = textT d t ++ r) (h1 : l1 = wordL l1 ++ l2) (hE : Ends l2) (hd : dataB (wordL l1) = true) (hn : begB [32, 45, 62, 32] l2 = false) :
    ∃ (e : Nat) (ts : List (Tn e)), ts ≠ [] ∧ ts.length ≤ 6 ∧ (∀ a ∈ ts, formB e a = true) ∧ l2 = argsT e ts ++ 41 :: r := by
  cases d with
  | zero => exact t.elim
  | succ d =>
    have hp := data_plain hd
    rcases text_three ht with lt | ⟨a, b, ha, hb, rfl⟩ | ⟨n, x, xs, hn', hx, rfl⟩
    · exact (not_open lt.1 lt.2.1 h.symm).elim
    · rw [text_fun] at h
      simp only [List.cons_append, List.append_assoc, List.cons.injEq, true_and, List.nil_append] at h
      rcases text_kinds ha with ⟨m1, m2, _⟩ | ⟨y, e3⟩
      · have h2 := word_eq hp.2 m2 hE (ends_cons rfl) (h1.symm.trans h)
        rw [h2.2] at hn
        exact absurd (beg_self [32, 45, 62, 32] (textT d b ++ 41 :: r)) (by rw [show [32, 45, 62, 32] ++ (textT d b ++ 41 :: r) = 32 :: 45 :: 62 :: 32 :: (textT d b ++ 41 :: r) from rfl, hn]; decide)
      · rw [e3] at h
        exact (not_open hp.1 hp.2 (h1.symm.trans h)).elim
    · rw [text_data] at h
      simp only [List.cons_append, List.append_assoc, List.cons.injEq, true_and, List.nil_append] at h
      have h2 := word_eq hp.2 (data_plain hn').2 hE (args_ends (x :: xs) r) (h1.symm.trans h)
      have hl : (x :: xs).length ≤ 6 := by
        rcases form_cases ht with e | ⟨_, _, e⟩ | ⟨_, _, _, _, e⟩ | ⟨n', ts', _, hl, _, e⟩
        · cases e
        · cases e
        · cases e
        · cases e; exact hl
      exact ⟨d, x :: xs, by simp, hl, hx, h2.2⟩
/-- Behind a bracket: a function. -/
theorem open_fun {d : Nat} {t : Tn d} {l1 l2 r : List UInt8} (ht : formB d t = true) (h : 40 :: l1 = textT d t ++ r) (h1 : l1 = wordL l1 ++ l2) (hE : Ends l2) (hP : ∀ c ∈ wordL l1, endB c = false) (hn : dataB (wordL l1) = true → begB [32, 45, 62, 32] l2 = true) :
    ∃ (e : Nat) (a b : Tn e), formB e a = true ∧ formB e b = true ∧ l1 = textT e a ++ ([32, 45, 62, 32] ++ (textT e b ++ 41 :: r)) := by
  cases d with
  | zero => exact t.elim
  | succ d =>
    rcases text_three ht with lt | ⟨a, b, ha, hb, rfl⟩ | ⟨n, x, xs, hn', hx, rfl⟩
    · exact (not_open lt.1 lt.2.1 h.symm).elim
    · rw [text_fun] at h
      simp only [List.cons_append, List.append_assoc, List.cons.injEq, true_and] at h
      exact ⟨d, a, b, ha, hb, h⟩
    · rw [text_data] at h
      simp only [List.cons_append, List.append_assoc, List.cons.injEq, true_and, List.nil_append] at h
      have h2 := word_eq hP (data_plain hn').2 hE (args_ends (x :: xs) r) (h1.symm.trans h)
      obtain ⟨q, e⟩ := beg_arrow (hn (by rw [h2.1]; exact hn'))
      rw [h2.2, argsT_cons] at e
      obtain ⟨c, p, e4, hc⟩ := text_head (hx x (by simp))
      rw [e4] at e
      simp at e
      exact (hc e.1).elim
end Go.Proofs.YtgdflaapgfpdeaaGreatDoor

namespace Go.Proofs.YtgdflaapgfpdeaaGreatDoor

/-- The reading of l is the tree t, and r is left: if t may be, it stands there; if some tree that may be stands there, t may be and r is behind it. -/
structure PartOk (l : List UInt8) (m : Nat) (t : Tn m) (r : List UInt8) : Prop where
  sound : formB m t = true → l = textT m t ++ r ∧ (Leaf m t → Ends r)
  compl : ∀ (e : Nat) (u : Tn e) (s : List UInt8), formB e u = true → l = textT e u ++ s → (Leaf e u → Ends s) → formB m t = true ∧ r = s
/-- Likewise of a row of arguments, each behind a blank. -/
structure ArgsOk (l : List UInt8) (m : Nat) (ts : List (Tn m)) (r : List UInt8) : Prop where
  sound : (∀ a ∈ ts, formB m a = true) → l = argsT m ts ++ r
  compl : ∀ (e : Nat) (us : List (Tn e)) (s : List UInt8), (∀ a ∈ us, formB e a = true) → l = argsT e us ++ 41 :: s → ∃ vs : List (Tn e), us.length = ts.length + vs.length ∧ (∀ a ∈ ts, formB m a = true) ∧ (∀ a ∈ vs, formB e a = true) ∧ r = argsT e vs ++ 41 :: s
theorem ArgsOk.nil (l : List UInt8) (m : Nat) : ArgsOk l m [] l := ⟨fun _ => by simp [argsT], fun e us s h h1 => ⟨us, by simp, by simp, h, h1⟩⟩
theorem argsT_app (d : Nat) (a b : List (Tn d)) : argsT d (a ++ b) = argsT d a ++ argsT d b := by simp [argsT]
/-- One argument more. -/
theorem ArgsOk.snoc {l c r : List UInt8} {m : Nat} {ts : List (Tn m)} {t : Tn m} (h : ArgsOk l m ts (32 :: c)) (hp : PartOk c m t r) : ArgsOk l m (ts ++ [t]) r := by
  constructor
  · intro hF
    have h1 := h.sound fun a ha => hF a (by simp [ha])
    have h2 := (hp.sound (hF t (by simp))).1
    rw [h1, h2, argsT_app, argsT_cons]
    simp [argsT]
  · intro e us s hus hl
    obtain ⟨vs, hlen, h1, h2, h3⟩ := h.compl e us s hus hl
    obtain ⟨u, vs', rfl, h4⟩ := args_blank h3
    obtain ⟨h5, h6⟩ := hp.compl e u _ (h2 u (by simp)) h4 fun _ => args_ends vs' s
    refine ⟨vs', by simp at hlen ⊢; omega, fun a ha => ?_, fun a ha => h2 a (by simp [ha]), h6⟩
    rcases List.mem_append.1 ha with ha | ha
    · exact h1 a ha
    · simp at ha
      rw [ha]
      exact h5
/-- What is nothing may not be. -/
theorem form_zero (m : Nat) : formB (m + 1) ((0, []), []) = false := rfl
theorem open_not_leaf {m : Nat} {t : Tn m} {q : List UInt8} (h : textT m t = 40 :: q) : ¬ Leaf m t := fun hL => by
  have := hL.2.1 40 (by rw [h]; simp)
  cases this
/-- What a tree's text that begins with a bracket is. -/
theorem open_cases {e : Nat} {u : Tn e} {l1 s : List UInt8} (hu : formB e u = true) (h : 40 :: l1 = textT e u ++ s) : (∃ (d : Nat) (a b : Tn d), formB d a = true ∧ formB d b = true ∧ l1 = textT d a ++ ([32, 45, 62, 32] ++ (textT d b ++ 41 :: s))) ∨ (∃ (d : Nat) (n : List UInt8) (x : Tn d) (xs : List (Tn d)), dataB n = true ∧ (x :: xs).length ≤ 6 ∧ (∀ a ∈ x :: xs, formB d a = true) ∧ l1 = n ++ (argsT d (x :: xs) ++ 41 :: s)) := by
  cases e with
  | zero => exact u.elim
  | succ d =>
    rcases form_cases hu with rfl | ⟨n, hn, rfl⟩ | ⟨a, b, ha, hb, rfl⟩ | ⟨n, ts, hn, hlen, hts, rfl⟩
    · rw [text_int] at h; cases h
    · rw [text_var] at h
      exact (not_open (var_plain hn).1 (var_plain hn).2 h.symm).elim
    · rw [text_fun] at h
      simp only [List.cons_append, List.append_assoc, List.cons.injEq, true_and] at h
      exact .inl ⟨d, a, b, ha, hb, by rw [h]; simp⟩
    · cases ts with
      | nil =>
        rw [text_data0] at h
        exact (not_open (data_plain hn).1 (data_plain hn).2 h.symm).elim
      | cons x xs =>
        rw [text_data] at h
        simp only [List.cons_append, List.append_assoc, List.cons.injEq, true_and] at h
        exact .inr ⟨d, n, x, xs, hn, hlen, hts, by rw [h]; simp⟩
theorem data_leaf {n : List UInt8} (hn : dataB n = true) : formB 1 ((4, n), []) = true := by
  rw [form_succ]
  simp [okB, hn]
/-- Behind a bracket the first word, of a function or of a data type. -/
theorem PartOk.first {l1 r1 s : List UInt8} {m e : Nat} {t1 : Tn m} {u : Tn e} (h1 : PartOk l1 m t1 r1) (hu : formB e u = true) (h : 40 :: l1 = textT e u ++ s) : formB m t1 = true ∧
    ((∃ (d : Nat) (b : Tn d), formB d b = true ∧ r1 = [32, 45, 62, 32] ++ (textT d b ++ 41 :: s)) ∨
     (∃ (d : Nat) (n : List UInt8) (x : Tn d) (xs : List (Tn d)), dataB n = true ∧ (x :: xs).length ≤ 6 ∧ (∀ a ∈ x :: xs, formB d a = true) ∧ flat m t1 = [(4, n, 0)] ∧ r1 = argsT d (x :: xs) ++ 41 :: s ∧ begB [32, 45, 62, 32] r1 = false)) := by
  rcases open_cases hu h with ⟨d, a, b, ha, hb, hl⟩ | ⟨d, n, x, xs, hn, hlen, hts, hl⟩
  · obtain ⟨h2, h3⟩ := h1.compl d a _ ha hl fun _ => ends_cons rfl
    exact ⟨h2, .inl ⟨d, b, hb, h3⟩⟩
  · have hE : Ends (argsT d (x :: xs) ++ 41 :: s) := args_ends (x :: xs) s
    obtain ⟨h2, h3⟩ := h1.compl 1 ((4, n), []) _ (data_leaf hn) (by rw [text_data0]; exact hl) fun _ => hE
    refine ⟨h2, .inr ⟨d, n, x, xs, hn, hlen, hts, ?_, h3, ?_⟩⟩
    · have := (h1.sound h2)
      have q := text_inj2 m t1 1 ((4, n), []) r1 r1 h2 (data_leaf hn) this.2 (fun _ => by rw [h3]; exact hE) (by rw [text_data0, ← this.1, hl, h3])
      rw [q.1, flat_succ]
      rfl
    · cases hb : begB [32, 45, 62, 32] r1
      · rfl
      · obtain ⟨q, hq⟩ := beg_arrow hb
        rw [h3, argsT_cons] at hq
        obtain ⟨c, p, e4, hc⟩ := text_head (hts x (by simp))
        rw [e4] at hq
        simp at hq
        exact (hc hq.1).elim
/-- A function was read. -/
theorem PartOk.func {l1 l2 r : List UInt8} {m : Nat} {t1 t2 : Tn m} (h1 : PartOk l1 m t1 ([32, 45, 62, 32] ++ l2)) (h2 : PartOk l2 m t2 (41 :: r)) : PartOk (40 :: l1) (m + 1) ((3, []), [t1, t2]) r := by
  constructor
  · intro hF
    rw [form_succ] at hF
    simp [okB] at hF
    have e1 := (h1.sound hF.1).1
    have e2 := (h2.sound hF.2).1
    refine ⟨?_, fun hL => (open_not_leaf (text_fun) hL).elim⟩
    rw [e1, e2, text_fun]
    simp
  · intro e u s hu hl _
    obtain ⟨f1, hc⟩ := h1.first hu hl
    rcases hc with ⟨d, b, hb, h3⟩ | ⟨d, n, x, xs, hn, hlen, hts, hfl, h3, hb⟩
    · have h3 := List.append_cancel_left h3
      obtain ⟨f2, h4⟩ := h2.compl d b _ hb h3 fun _ => ends_cons rfl
      have h4 := (List.cons.inj h4).2
      exact ⟨by rw [form_succ]; simp [okB, f1, f2], h4⟩
    · rw [beg_self] at hb
      cases hb
/-- No bracket behind a function. -/
theorem PartOk.func_no {l1 l2 r : List UInt8} {m : Nat} {t1 t2 : Tn m} (h1 : PartOk l1 m t1 ([32, 45, 62, 32] ++ l2)) (h2 : PartOk l2 m t2 r) (hr : begB [41] r = false) : PartOk (40 :: l1) (m + 1) ((0, []), []) r := by
  constructor
  · intro hF
    cases hF
  · intro e u s hu hl _
    obtain ⟨f1, hc⟩ := h1.first hu hl
    rcases hc with ⟨d, b, hb, h3⟩ | ⟨d, n, x, xs, hn, hlen, hts, hfl, h3, hb⟩
    · have h3 := List.append_cancel_left h3
      obtain ⟨f2, h4⟩ := h2.compl d b _ hb h3 fun _ => ends_cons rfl
      rw [h4] at hr
      simp [begB] at hr
    · rw [beg_self] at hb
      cases hb
theorem flat_data {m : Nat} {n n' : List UInt8} {ts : List (Tn m)} (h : flat (m + 1) ((4, n), ts) = [(4, n', 0)]) : n = n' ∧ ts = [] := by
  rw [flat_succ] at h
  injection h with h1 h2
  exact ⟨by simpa using congrArg (fun x => x.2.1) h1, List.length_eq_zero_iff.1 (by simpa using congrArg (fun x => x.2.2) h1)⟩
/-- A data type with arguments was read. -/
theorem PartOk.data {l1 r1 r n : List UInt8} {m : Nat} {ts : List (Tn (m + 1))} (h1 : PartOk l1 (m + 1) ((4, n), []) r1) (hb : begB [32, 45, 62, 32] r1 = false) (h2 : ArgsOk r1 (m + 1) ts (41 :: r)) (h0 : ts ≠ []) : PartOk (40 :: l1) (m + 1 + 1) ((4, n), ts) r := by
  obtain ⟨t, ts', rfl⟩ := List.exists_cons_of_ne_nil h0
  constructor
  · intro hF
    rw [form_succ] at hF
    simp only [Bool.and_eq_true, List.all_eq_true] at hF
    have hd : dataB n = true := by
      have := hF.1
      simp [okB] at this
      exact this.1
    have hL : formB (m + 1) ((4, n), []) = true := by rw [form_succ]; simp [okB, hd]
    have e1 := (h1.sound hL).1
    have e2 := h2.sound hF.2
    refine ⟨?_, fun hL => (open_not_leaf (text_data) hL).elim⟩
    rw [e1, e2, text_data, text_data0]
    simp
  · intro e u s hu hl _
    obtain ⟨f1, hc⟩ := h1.first hu hl
    rcases hc with ⟨d, b, hb', h3⟩ | ⟨d, n', x, xs, hn, hlen, hts, hfl, h3, _⟩
    · rw [h3, beg_self] at hb
      cases hb
    · obtain ⟨rfl, _⟩ := flat_data hfl
      obtain ⟨vs, k1, k2, k3, k4⟩ := h2.compl d (x :: xs) s hts h3
      cases vs with
      | nil =>
        simp [argsT] at k4
        refine ⟨?_, k4⟩
        rw [form_succ]
        simp only [Bool.and_eq_true, List.all_eq_true]
        refine ⟨?_, k2⟩
        simp [okB, hn]
        simp at k1 hlen
        omega
      | cons v vs =>
        rw [argsT_cons] at k4
        simp at k4
/-- No argument, or no bracket behind the arguments. -/
theorem PartOk.data_no {l1 r1 r n : List UInt8} {m : Nat} {ts : List (Tn (m + 1))} (h1 : PartOk l1 (m + 1) ((4, n), []) r1) (hb : begB [32, 45, 62, 32] r1 = false) (h2 : ArgsOk r1 (m + 1) ts r) (hs : begB [32] r = false) (h0 : ts = [] ∨ begB [41] r = false) : PartOk (40 :: l1) (m + 1 + 1) ((0, []), []) r := by
  constructor
  · intro hF
    cases hF
  · intro e u s hu hl _
    obtain ⟨f1, hc⟩ := h1.first hu hl
    rcases hc with ⟨d, b, hb', h3⟩ | ⟨d, n', x, xs, hn, hlen, hts, hfl, h3, _⟩
    · rw [h3, beg_self] at hb
      cases hb
    · obtain ⟨vs, k1, k2, k3, k4⟩ := h2.compl d (x :: xs) s hts h3
      cases vs with
      | nil =>
        simp [argsT] at k4
        rcases h0 with h0 | h0
        · rw [h0] at k1; simp at k1
        · rw [k4] at h0; simp [begB] at h0
      | cons v vs =>
        rw [argsT_cons] at k4
        rw [k4] at hs
        simp [begB] at hs
/-- What is neither. -/
theorem PartOk.none {l1 r1 : List UInt8} {m : Nat} {k : Int} {n : List UInt8} {ts : List (Tn m)} (h1 : PartOk l1 (m + 1) ((k, n), ts) r1) (hb : begB [32, 45, 62, 32] r1 = false) (hk : ¬ (k = 4 ∧ ts = [])) : PartOk (40 :: l1) (m + 1 + 1) ((0, []), []) r1 := by
  constructor
  · intro hF
    cases hF
  · intro e u s hu hl _
    obtain ⟨f1, hc⟩ := h1.first hu hl
    rcases hc with ⟨d, b, hb', h3⟩ | ⟨d, n', x, xs, hn, hlen, hts, hfl, h3, _⟩
    · rw [h3, beg_self] at hb
      cases hb
    · rw [flat_succ] at hfl
      injection hfl with q1 q2
      exact (hk ⟨by simpa using congrArg (fun x => x.1) q1, List.length_eq_zero_iff.1 (by simpa using congrArg (fun x => x.2.2) q1)⟩).elim
/-- What a word is. -/
def wordT (n : List UInt8) : Int × List UInt8 := if n = [73, 110, 116] then (1, []) else if varB n = true then (2, n) else (4, n)
theorem PartOk.leaf {l : List UInt8} {m : Nat} (hl : begB [40] l = false) : PartOk l (m + 1) (wordT (wordL l), []) (l.drop (wordL l).length) := by
  obtain ⟨r, h1, h2, h3⟩ := word_split l
  have hr : l.drop (wordL l).length = r := by
    have := congrArg (List.drop (wordL l).length) h1
    rw [List.drop_left] at this
    exact this
  rw [hr]
  have hT : formB (m + 1) (wordT (wordL l), []) = true → textT (m + 1) (wordT (wordL l), []) = wordL l := by
    intro hF
    unfold wordT at hF ⊢
    split
    · rename_i h; rw [h]; rfl
    · rw [if_neg (by assumption)] at hF
      split
      · rw [text_var]
      · rw [text_data0]
  constructor
  · intro hF
    rw [hT hF]
    exact ⟨h1, fun _ => h3⟩
  · intro e u s hu hlu hs
    rcases text_kinds hu with hL | ⟨q, hq⟩
    · obtain ⟨e1, e2⟩ := word_eq h2 hL.2.1 h3 (hs hL) (h1.symm.trans hlu)
      refine ⟨?_, e2⟩
      unfold wordT
      rcases hL.2.2 with ⟨k, _⟩ | ⟨k, _⟩ | ⟨k, _⟩
      · rw [e1, k, if_pos rfl]
        rfl
      · rw [e1]
        rw [if_neg (by intro h; rw [h, int_not_var] at k; cases k), if_pos k, form_succ]
        simp [okB, k]
      · rw [e1]
        rw [if_neg (by intro h; rw [h, int_not_data] at k; cases k)]
        rw [if_neg (by intro h; exact var_not_data h k), form_succ]
        simp [okB, k]
    · rw [hlu, hq] at hl
      simp [begB] at hl
end Go.Proofs.YtgdflaapgfpdeaaGreatDoor
