/- What of the plain side of types is used besides: looks at names, what is wrong with a type, what is printed, how a text begins. Nothing of the program stands here. -/
import Derived.Test.YthcejnpknjepfaaGreatDoorTx
import Derived.Test.YthcejnpknjepfaaGreatDoorMt
import Derived.WalkKit
import Derived.WalkSpells
import Derived.WalkLawsBesides
import Derived.WalkMore
namespace Go.Proofs.YthcejnpknjepfaaGreatDoor
open Go.RowKit


theorem ret_bool {a b : Bool} (h : a = b) : Ending.returned (.bool a) = .returned (.bool b) := by rw [h]
theorem drop_all {p : UInt8 → Bool} {s : ByteArray} {j : Nat} (h : j < s.size) : (s.data.toList.drop j).all p = (p s[j] && (s.data.toList.drop (j + 1)).all p) := by
  rw [List.drop_eq_getElem_cons (by simpa using h), List.all_cons]
  rfl
theorem size_pos {s : ByteArray} (h : ¬ s = ⟨#[]⟩) : 0 < s.size := by
  rcases Nat.eq_zero_or_pos s.size with h0 | h0
  · exact absurd (by cases s with | mk d => cases d with | mk l => cases l with | nil => rfl | cons a l => simp [ByteArray.size] at h0) h
  · exact h0
theorem list_cons {s : ByteArray} (h : 0 < s.size) : s.data.toList = s[0] :: s.data.toList.drop 1 := by
  have := List.drop_eq_getElem_cons (l := s.data.toList) (i := 0) (by simpa using h)
  rw [List.drop_zero] at this
  exact this
/-- The first place of a point, and what a data type's name is by it. -/
theorem data_split (n : List UInt8) : (∀ c ∈ n, c ≠ 46) ∨ ∃ i, ∃ h : i < n.length, n[i] = 46 ∧ (∀ j (h' : j < n.length), j < i → n[j] ≠ 46) := by
  by_cases h : ∀ c ∈ n, c ≠ 46
  · exact .inl h
  · refine .inr ?_
    induction n with
    | nil => exact absurd (by simp) h
    | cons a n ih =>
      by_cases ha : a = 46
      · exact ⟨0, by simp, ha, fun j _ hj => by omega⟩
      · have h2 : ¬ ∀ c ∈ n, c ≠ 46 := fun h3 => h (by
          intro c hc
          rcases List.mem_cons.1 hc with rfl | hc
          · exact ha
          · exact h3 c hc)
        obtain ⟨i, hi, e, hj⟩ := ih h2
        refine ⟨i + 1, by simpa using hi, by simpa using e, fun j hj' hlt => ?_⟩
        cases j with
        | zero => exact ha
        | succ j => simpa using hj j (by simpa using hj') (by omega)
theorem take_point {n : List UInt8} {i : Nat} (h : i < n.length) (h1 : n[i] = 46) (h2 : ∀ j (h' : j < n.length), j < i → n[j] ≠ 46) : n.takeWhile (· ≠ 46) = n.take i ∧ n.dropWhile (· ≠ 46) = n.drop i := by
  induction n generalizing i with
  | nil => simp at h
  | cons a n ih =>
    cases i with
    | zero => simp at h1; simp [h1]
    | succ i =>
      have ha : a ≠ 46 := h2 0 (by simp) (by omega)
      obtain ⟨e1, e2⟩ := ih (i := i) (by simpa using h) (by simpa using h1) (fun j hj hlt => h2 (j + 1) (by simpa using hj) (by omega))
      rw [List.takeWhile_cons, List.dropWhile_cons, if_pos (by simpa using ha), if_pos (by simpa using ha), e1, e2]
      exact ⟨rfl, rfl⟩
theorem upper_no_point {n : List UInt8} (h : upperB n = true) : ∀ c ∈ n, c ≠ 46 := by
  cases n with
  | nil => simp [upperB] at h
  | cons c r =>
    simp only [upperB, Bool.and_eq_true, List.all_eq_true] at h
    intro x hx e
    subst e
    rcases List.mem_cons.1 hx with e | hx
    · rw [← e] at h; exact absurd h.1 (by decide)
    · exact absurd (h.2 _ hx) (by decide)
theorem drop_none : ∀ {n : List UInt8}, (∀ c ∈ n, c ≠ 46) → n.dropWhile (· ≠ 46) = []
  | [], _ => rfl
  | a :: n, h => by
    rw [List.dropWhile_cons, if_pos (by simpa using h a (by simp))]
    exact drop_none fun c hc => h c (by simp [hc])
theorem data_plainly {n : List UInt8} (h : ∀ c ∈ n, c ≠ 46) : dataB n = (decide (n ≠ [73, 110, 116]) && decide (n.length ≤ 4096) && upperB n) := by
  have h1 : n.dropWhile (· ≠ 46) = [] := drop_none h
  simp only [dataB, h1]
  simp
theorem data_pointed {n : List UInt8} {i : Nat} (h : i < n.length) (h1 : n[i] = 46) (h2 : ∀ j (h' : j < n.length), j < i → n[j] ≠ 46) : dataB n = (decide (n ≠ [73, 110, 116]) && decide (n.length ≤ 4096) && (upperB (n.take i) && upperB (n.drop (i + 1)))) := by
  obtain ⟨e1, e2⟩ := take_point h h1 h2
  have hu : upperB n = false := by
    rw [Bool.eq_false_iff]
    intro hu
    exact upper_no_point hu _ (List.getElem_mem h) h1
  have h3 : n.drop i ≠ [] := by
    intro h0
    rw [List.drop_eq_nil_iff] at h0
    omega
  simp only [dataB, e1, e2, hu, List.drop_drop]
  simp [h3]
theorem point_ne {c : UInt8} (h : c ≠ 46) : ((c.toNat : Int) == 46) = false := by
  have : c.toNat ≠ 46 := fun e => h (UInt8.toNat_inj.1 e)
  simp
  omega

/-- What a node must be by itself. -/
def okB (k : Int) (n : List UInt8) (len : Nat) : Bool := if k = 1 then n.isEmpty && decide (len = 0) else if k = 2 then varB n && decide (len = 0) else if k = 3 then n.isEmpty && decide (len = 2) else if k = 4 then dataB n && decide (len ≤ 6) else false
theorem form_succ (d : Nat) (k : Int) (n : List UInt8) (ts : List (Tn d)) : formB (d + 1) ((k, n), ts) = (okB k n ts.length && ts.all (formB d)) := by
  have h0 : ∀ l : List (Tn d), l.isEmpty = decide (l.length = 0) := fun l => by cases l <;> rfl
  show ((if k = 1 then n.isEmpty && ts.isEmpty else if k = 2 then varB n && ts.isEmpty else if k = 3 then n.isEmpty && decide (ts.length = 2) else if k = 4 then dataB n && decide (ts.length ≤ 6) else false) && ts.all (formB d)) = _
  rw [h0]
  rfl
theorem drop_all' {α : Type} {p : α → Bool} {l : List α} {j : Nat} (h : j < l.length) : (l.drop j).all p = (p l[j] && (l.drop (j + 1)).all p) := by
  rw [List.drop_eq_getElem_cons h, List.all_cons]
theorem bytes_list (n : List UInt8) : (⟨n.toArray⟩ : ByteArray).toList = n := by rw [ByteArray.toList_eq]
/-- What is wrong with a tree: nothing (0), its form (53), its size (4). -/
def wrongT (d : Nat) (t : Tn d) : Int := if formB d t = true then (if 500 < (flat d t).length then 4 else 0) else 53

theorem var_len {n : List UInt8} (h : varB n = true) : n.length ≤ 4096 := by
  simp only [varB, Bool.and_eq_true, decide_eq_true_eq] at h
  exact h.1
theorem data_len {n : List UInt8} (h : dataB n = true) : n.length ≤ 4096 := by
  simp only [dataB, Bool.and_eq_true, decide_eq_true_eq] at h
  exact h.1.2
theorem args_len (d : Nat) (ih : ∀ t : Tn d, formB d t = true → (textT d t).length ≤ 4104 * (flat d t).length) : ∀ ts : List (Tn d), (∀ a ∈ ts, formB d a = true) → (argsT d ts).length ≤ 4104 * (flats d ts).length + ts.length
  | [], _ => by simp [argsT, flats]
  | t :: ts, h => by
    rw [argsT_cons, flats_cons, List.length_cons, List.length_append, List.length_append, List.length_cons]
    have h1 := ih t (h t (by simp))
    have h2 := args_len d ih ts fun a ha => h a (by simp [ha])
    omega
theorem text_len : ∀ (d : Nat) (t : Tn d), formB d t = true → (textT d t).length ≤ 4104 * (flat d t).length
  | 0, t, _ => t.elim
  | d + 1, t, h => by
    rcases form_cases h with rfl | ⟨n, hn, rfl⟩ | ⟨a, b, ha, hb, rfl⟩ | ⟨n, ts, hn, hl, hts, rfl⟩
    · rw [text_int, flat_succ]; simp; omega
    · rw [text_var, flat_succ]
      have := var_len hn
      simp
      omega
    · rw [text_fun, flat_succ, flats_cons, flats_cons, flats_nil]
      have h1 := text_len d a ha
      have h2 := text_len d b hb
      simp
      omega
    · have := data_len hn
      cases ts with
      | nil => rw [text_data0, flat_succ]; simp; omega
      | cons t ts =>
        rw [text_data, flat_succ]
        have h2 := args_len d (text_len d) (t :: ts) hts
        simp only [List.length_cons, List.length_append] at h2 hl ⊢
        simp
        omega
theorem flat_le {d : Nat} : ∀ {ts : List (Tn d)} {j : Nat} (h : j < ts.length), (flat d ts[j]).length ≤ (flats d ts).length
  | [], _, h => by simp at h
  | t :: ts, 0, _ => by rw [flats_cons, List.length_append]; show (flat d t).length ≤ _; omega
  | t :: ts, j + 1, h => by
    rw [flats_cons, List.length_append]
    have hj : j < ts.length := by simpa using h
    have := flat_le (ts := ts) (j := j) hj
    show (flat d ts[j]).length ≤ _
    omega
/-- The string of a row of bytes. -/
abbrev strV (l : List UInt8) : Value := .string ⟨l.toArray⟩
theorem str_append (a b : List UInt8) : (⟨a.toArray⟩ : ByteArray) ++ ⟨b.toArray⟩ = ⟨(a ++ b).toArray⟩ := by
  apply ByteArray.ext
  simp [ByteArray.data_append]
theorem str_fun (ta tb : List UInt8) : (⟨#[40]⟩ : ByteArray) ++ ⟨ta.toArray⟩ ++ ⟨#[32, 45, 62, 32]⟩ ++ ⟨tb.toArray⟩ ++ ⟨#[41]⟩ = ⟨(40 :: (ta ++ ([32, 45, 62, 32] ++ (tb ++ [41])))).toArray⟩ := by
  apply ByteArray.ext
  simp [ByteArray.data_append]
theorem str_open (ta : List UInt8) : (⟨#[40]⟩ : ByteArray) ++ ⟨ta.toArray⟩ = ⟨(40 :: ta).toArray⟩ := by
  apply ByteArray.ext
  simp [ByteArray.data_append]
theorem str_more (ta tb : List UInt8) : (⟨ta.toArray⟩ : ByteArray) ++ ⟨#[32]⟩ ++ ⟨tb.toArray⟩ = ⟨(ta ++ 32 :: tb).toArray⟩ := by
  apply ByteArray.ext
  simp [ByteArray.data_append]
theorem str_shut (ta : List UInt8) : (⟨ta.toArray⟩ : ByteArray) ++ ⟨#[41]⟩ = ⟨(ta ++ [41]).toArray⟩ := by
  apply ByteArray.ext
  simp [ByteArray.data_append]
/-- What Print answers. -/
def printV (d : Nat) (t : Tn d) : Value := if wrongT d t ≠ 0 then .tuple #[.string ⟨#[]⟩, .int .i64 (wrongT d t)] else if 65536 < (textT d t).length then .tuple #[.string ⟨#[]⟩, .int .i64 4] else .tuple #[strV (textT d t), .int .i64 0]
theorem wrong_zero {d : Nat} {t : Tn d} (h : wrongT d t = 0) : formB d t = true ∧ (flat d t).length ≤ 500 := by
  unfold wrongT at h
  split at h
  · rename_i hf
    split at h
    · cases h
    · exact ⟨hf, by omega⟩
  · cases h
theorem wrong_range (d : Nat) (t : Tn d) : wrongT d t = 0 ∨ wrongT d t = 4 ∨ wrongT d t = 53 := by
  unfold wrongT
  split
  · split <;> simp
  · simp

/-- What is left of a text from a place on. -/
def rs (s : ByteArray) (k : Nat) : List UInt8 := s.data.toList.drop k
theorem rs_len (s : ByteArray) (k : Nat) : (rs s k).length = s.size - k := by simp [rs]
theorem extract_list (s : ByteArray) (a b : Nat) : (s.extract a b).data.toList = (rs s a).take (b - a) := by
  rw [ByteArray.data_extract, Array.toList_extract, List.extract_eq_take_drop]
  rfl
theorem rs_drop (s : ByteArray) (k m : Nat) : (rs s k).drop m = rs s (k + m) := by simp [rs]
/-- Does a text begin so? -/
def begB (c l : List UInt8) : Bool := decide (l.take c.length = c)
/-- The word at a text's beginning. -/
def wordL (l : List UInt8) : List UInt8 := l.takeWhile fun c => !endB c
theorem word_split (l : List UInt8) : ∃ r, l = wordL l ++ r ∧ (∀ c ∈ wordL l, endB c = false) ∧ Ends r := by
  refine ⟨l.dropWhile fun c => !endB c, List.takeWhile_append_dropWhile.symm, fun c hc => ?_, fun c hc => ?_⟩
  · have := List.all_eq_true.1 (List.all_takeWhile (p := fun c => !endB c) (l := l)) c hc
    simpa using this
  · cases hd : l.dropWhile fun c => !endB c with
    | nil => simp [hd] at hc
    | cons x r =>
      have := List.head_dropWhile_not (fun c => !endB c) (l := l) (by rw [hd]; simp)
      simp only [hd, List.head_cons] at this
      simp [hd] at hc
      subst hc
      simpa using this
theorem word_of {a r : List UInt8} (h1 : ∀ c ∈ a, endB c = false) (h2 : Ends r) : wordL (a ++ r) = a := by
  obtain ⟨r', e, g1, g2⟩ := word_split (a ++ r)
  exact (word_eq h1 g1 h2 g2 e).1.symm
theorem end_ne {c : UInt8} : endB c = (decide (c.toNat = 32) || decide (c.toNat = 40) || decide (c.toNat = 41)) := by
  unfold endB
  have e : ∀ x : UInt8, (c == x) = decide (c.toNat = x.toNat) := fun x => by
    rw [Bool.eq_iff_iff]
    simp [UInt8.toNat_inj]
  rw [e, e, e]
  rfl
theorem rs_cons {s : ByteArray} {k : Nat} (h : k < s.size) : rs s k = s[k] :: rs s (k + 1) := by
  unfold rs
  rw [List.drop_eq_getElem_cons (by simpa using h)]
  rfl

/-- The type that is one word. -/
def leafT (n : List UInt8) : Option (Int × List UInt8) := if n = [73, 110, 116] then some (1, []) else if varB n = true then some (2, n) else if dataB n = true then some (4, n) else none
theorem leaf_form {n : List UInt8} {k : Int} {m : List UInt8} (h : leafT n = some (k, m)) : formB 1 ((k, m), []) = true ∧ textT 1 ((k, m), []) = n := by
  unfold leafT at h
  split at h
  · rename_i e
    simp at h
    obtain ⟨rfl, rfl⟩ := h
    exact ⟨rfl, e.symm⟩
  split at h
  · rename_i e
    simp at h
    obtain ⟨rfl, rfl⟩ := h
    exact ⟨by rw [form_succ]; simp [okB, e], rfl⟩
  split at h
  · rename_i e
    simp at h
    obtain ⟨rfl, rfl⟩ := h
    exact ⟨by rw [form_succ]; simp [okB, e], rfl⟩
  · cases h
theorem leaf_none {n : List UInt8} (h : leafT n = none) : n ≠ [73, 110, 116] ∧ varB n = false ∧ dataB n = false := by
  unfold leafT at h
  split at h
  · cases h
  split at h
  · cases h
  split at h
  · cases h
  · rename_i a b c
    exact ⟨a, by simpa using b, by simpa using c⟩
theorem leaf_len {n : List UInt8} {k : Int} {m : List UInt8} (h : leafT n = some (k, m)) : m.length ≤ n.length := by
  unfold leafT at h
  split at h
  · simp at h; rw [h.2]; simp
  split at h
  · simp at h; rw [h.2]; exact Nat.le_refl _
  split at h
  · simp at h; rw [h.2]; exact Nat.le_refl _
  · cases h

theorem args_ends {d : Nat} (l : List (Tn d)) (r : List UInt8) : Ends (argsT d l ++ 41 :: r) := by
  cases l with
  | nil => exact ends_cons rfl
  | cons a l => rw [argsT_cons]; exact ends_cons rfl
theorem args_blank {d : Nat} {ts : List (Tn d)} {l r : List UInt8} (h : 32 :: l = argsT d ts ++ 41 :: r) : ∃ u us, ts = u :: us ∧ l = textT d u ++ (argsT d us ++ 41 :: r) := by
  cases ts with
  | nil => simp [argsT] at h
  | cons u us =>
    rw [argsT_cons] at h
    simp only [List.cons_append, List.append_assoc, List.cons.injEq, true_and] at h
    exact ⟨u, us, rfl, h⟩
theorem args_step {m d : Nat} {t : Tn m} {l r1 r : List UInt8} {ts : List (Tn d)} (hl : l = textT m t ++ r1) (hf : formB m t = true) (he : Leaf m t → Ends r1) (hts : ∀ a ∈ ts, formB d a = true) (h : 32 :: l = argsT d ts ++ 41 :: r) :
    ∃ us : List (Tn d), (∀ a ∈ us, formB d a = true) ∧ r1 = argsT d us ++ 41 :: r ∧ ts.length = us.length + 1 := by
  obtain ⟨u, us, rfl, h1⟩ := args_blank h
  have := text_inj2 m t d u r1 _ hf (hts u (by simp)) he (fun _ => args_ends us r) (by rw [← hl, h1])
  exact ⟨us, fun a ha => hts a (by simp [ha]), this.2, rfl⟩
theorem args_fail {d : Nat} {l r : List UInt8} {ts : List (Tn d)} (hno : ∀ d (t : Tn d) r, formB d t = true → l = textT d t ++ r → (Leaf d t → Ends r) → False) (hts : ∀ a ∈ ts, formB d a = true) (h : 32 :: l = argsT d ts ++ 41 :: r) : False := by
  obtain ⟨u, us, rfl, h1⟩ := args_blank h
  exact hno d u _ (hts u (by simp)) h1 fun _ => args_ends us r
theorem args_end {d : Nat} {l r : List UInt8} {ts : List (Tn d)} (hb : begB [32] l = false) (h : l = argsT d ts ++ 41 :: r) : ts = [] ∧ l = 41 :: r := by
  cases ts with
  | nil => exact ⟨rfl, by simpa [argsT] using h⟩
  | cons u us =>
    rw [argsT_cons] at h
    rw [h] at hb
    simp [begB] at hb
theorem beg_one {c : UInt8} {l : List UInt8} (h : begB [c] l = true) : ∃ r, l = c :: r := by
  cases l with
  | nil => simp [begB] at h
  | cons x r => simp [begB] at h; exact ⟨r, by rw [h]⟩
theorem beg_arrow {l : List UInt8} (h : begB [32, 45, 62, 32] l = true) : ∃ r, l = [32, 45, 62, 32] ++ r := by
  have h := of_decide_eq_true h
  refine ⟨l.drop 4, ?_⟩
  have h4 : l.take 4 = [32, 45, 62, 32] := h
  rw [← h4, List.take_append_drop]
theorem beg_self (c r : List UInt8) : begB c (c ++ r) = true := by
  unfold begB
  rw [decide_eq_true_eq, List.take_left']
  rfl
/-- Behind a bracket: a data type with arguments. -/
theorem open_data {d : Nat} {t : Tn d} {l1 l2 r : List UInt8} (ht : formB d t = true) (h : 40 :: l1 = textT d t ++ r) (h1 : l1 = wordL l1 ++ l2) (hE : Ends l2) (hd : dataB (wordL l1) = true) (hn : begB [32, 45, 62, 32] l2 = false) :
    ∃ (e : Nat) (ts : List (Tn e)), ts ≠ [] ∧ ts.length ≤ 6 ∧ (∀ a ∈ ts, formB e a = true) ∧ l2 = argsT e ts ++ 41 :: r := by
  cases d with
  | zero => exact t.elim
  | succ d =>
    have hp := data_plain hd
    rcases text_three ht with lt | ⟨a, b, ha, hb, rfl⟩ | ⟨n, x, xs, hn', hx, rfl⟩
    · exact (not_open lt.1 lt.2.1 h.symm).elim
    · rw [text_fun] at h
      simp only [List.cons_append, List.append_assoc, List.cons.injEq, true_and, List.nil_append] at h
      rcases text_kinds ha with ⟨m1, m2, _⟩ | ⟨y, e3⟩
      · have h2 := word_eq hp.2 m2 hE (ends_cons rfl) (h1.symm.trans h)
        rw [h2.2] at hn
        exact absurd (beg_self [32, 45, 62, 32] (textT d b ++ 41 :: r)) (by rw [show [32, 45, 62, 32] ++ (textT d b ++ 41 :: r) = 32 :: 45 :: 62 :: 32 :: (textT d b ++ 41 :: r) from rfl, hn]; decide)
      · rw [e3] at h
        exact (not_open hp.1 hp.2 (h1.symm.trans h)).elim
    · rw [text_data] at h
      simp only [List.cons_append, List.append_assoc, List.cons.injEq, true_and, List.nil_append] at h
      have h2 := word_eq hp.2 (data_plain hn').2 hE (args_ends (x :: xs) r) (h1.symm.trans h)
      have hl : (x :: xs).length ≤ 6 := by
        rcases form_cases ht with e | ⟨_, _, e⟩ | ⟨_, _, _, _, e⟩ | ⟨n', ts', _, hl, _, e⟩
        · cases e
        · cases e
        · cases e
        · cases e; exact hl
      exact ⟨d, x :: xs, by simp, hl, hx, h2.2⟩
/-- Behind a bracket: a function. -/
theorem open_fun {d : Nat} {t : Tn d} {l1 l2 r : List UInt8} (ht : formB d t = true) (h : 40 :: l1 = textT d t ++ r) (h1 : l1 = wordL l1 ++ l2) (hE : Ends l2) (hP : ∀ c ∈ wordL l1, endB c = false) (hn : dataB (wordL l1) = true → begB [32, 45, 62, 32] l2 = true) :
    ∃ (e : Nat) (a b : Tn e), formB e a = true ∧ formB e b = true ∧ l1 = textT e a ++ ([32, 45, 62, 32] ++ (textT e b ++ 41 :: r)) := by
  cases d with
  | zero => exact t.elim
  | succ d =>
    rcases text_three ht with lt | ⟨a, b, ha, hb, rfl⟩ | ⟨n, x, xs, hn', hx, rfl⟩
    · exact (not_open lt.1 lt.2.1 h.symm).elim
    · rw [text_fun] at h
      simp only [List.cons_append, List.append_assoc, List.cons.injEq, true_and] at h
      exact ⟨d, a, b, ha, hb, h⟩
    · rw [text_data] at h
      simp only [List.cons_append, List.append_assoc, List.cons.injEq, true_and, List.nil_append] at h
      have h2 := word_eq hP (data_plain hn').2 hE (args_ends (x :: xs) r) (h1.symm.trans h)
      obtain ⟨q, e⟩ := beg_arrow (hn (by rw [h2.1]; exact hn'))
      rw [h2.2, argsT_cons] at e
      obtain ⟨c, p, e4, hc⟩ := text_head (hx x (by simp))
      rw [e4] at e
      simp at e
      exact (hc e.1).elim
end Go.Proofs.YthcejnpknjepfaaGreatDoor
