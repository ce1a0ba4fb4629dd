/- Types as trees of plain data: a tree of depth at most d; its nodes in a row, from the outside, from the left. What types may be, and their texts: two types of one text are one. -/
namespace Go.Proofs.YtgdflaapgfpdeaaGreatDoor

/-- A node's kind and name. -/
abbrev Lb := Int × List UInt8
/-- A node in a row: kind, name, number of arguments. -/
abbrev Nd := Int × List UInt8 × Nat
/-- Trees of at most so many levels. -/
def Tn : Nat → Type
  | 0 => Empty
  | d + 1 => Lb × List (Tn d)
/-- The nodes of a tree in a row. -/
def flat : (d : Nat) → Tn d → List Nd
  | 0, t => t.elim
  | d + 1, t => (t.1.1, t.1.2, t.2.length) :: (t.2.map (flat d)).flatten
/-- The nodes of some trees in a row. -/
def flats (d : Nat) (ts : List (Tn d)) : List Nd := (ts.map (flat d)).flatten
theorem flats_nil (d : Nat) : flats d [] = [] := rfl
theorem flats_cons (d : Nat) (t : Tn d) (ts : List (Tn d)) : flats d (t :: ts) = flat d t ++ flats d ts := rfl
theorem flat_succ (d : Nat) (k : Int) (n : List UInt8) (ts : List (Tn d)) : flat (d + 1) ((k, n), ts) = (k, n, ts.length) :: flats d ts := rfl
theorem flat_pos : ∀ (d : Nat) (t : Tn d), 0 < (flat d t).length
  | 0, t => t.elim
  | _ + 1, _ => by simp [flat]
/-- Rows of one number of trees, equal up to what is behind them. -/
theorem flats_inj (d e : Nat) (ih : ∀ (t : Tn d) (u : Tn e) (r s : List Nd), flat d t ++ r = flat e u ++ s → flat d t = flat e u ∧ r = s) :
    ∀ (ts : List (Tn d)) (us : List (Tn e)) (r s : List Nd), ts.length = us.length → flats d ts ++ r = flats e us ++ s → (∀ i (h : i < ts.length) (h' : i < us.length), flat d ts[i] = flat e us[i]) ∧ flats d ts = flats e us ∧ r = s
  | [], [], r, s, _, h => ⟨fun i h => by simp at h, rfl, by simpa [flats] using h⟩
  | [], _ :: _, _, _, h, _ => by simp at h
  | _ :: _, [], _, _, h, _ => by simp at h
  | t :: ts, u :: us, r, s, hl, h => by
    rw [flats_cons, flats_cons, List.append_assoc, List.append_assoc] at h
    obtain ⟨h1, h2⟩ := ih t u _ _ h
    obtain ⟨h3, h4, h5⟩ := flats_inj d e ih ts us r s (by simpa using hl) h2
    refine ⟨fun i hi hi' => ?_, by rw [flats_cons, flats_cons, h1, h4], h5⟩
    cases i with
    | zero => exact h1
    | succ i => simpa using h3 i (by simpa using hi) (by simpa using hi')
/-- A tree's row says where it ends. -/
theorem flat_inj : ∀ (d : Nat) (t : Tn d) (e : Nat) (u : Tn e) (r s : List Nd), flat d t ++ r = flat e u ++ s → flat d t = flat e u ∧ r = s
  | 0, t, _, _, _, _, _ => t.elim
  | _ + 1, _, 0, u, _, _, _ => u.elim
  | d + 1, ((k, n), ts), e + 1, ((k', n'), us), r, s, h => by
    rw [flat_succ, flat_succ, List.cons_append, List.cons_append] at h
    injection h with h1 h2
    obtain ⟨_, h3, h4⟩ := flats_inj d e (fun t u => flat_inj d t e u) ts us r s (by simpa using congrArg (fun x => x.2.2) h1) h2
    exact ⟨by rw [flat_succ, flat_succ, h1, h3], h4⟩
theorem flat_eq_iff (d e : Nat) (k k' : Int) (n n' : List UInt8) (ts : List (Tn d)) (us : List (Tn e)) :
    flat (d + 1) ((k, n), ts) = flat (e + 1) ((k', n'), us) ↔ k = k' ∧ n = n' ∧ ts.length = us.length ∧ ∀ i (h : i < ts.length) (h' : i < us.length), flat d ts[i] = flat e us[i] := by
  constructor
  · intro h
    rw [flat_succ, flat_succ] at h
    injection h with h1 h2
    have hl : ts.length = us.length := by simpa using congrArg (fun x => x.2.2) h1
    obtain ⟨h3, _, _⟩ := flats_inj d e (fun t u => flat_inj d t e u) ts us [] [] hl (by rw [h2])
    exact ⟨by simpa using congrArg (fun x => x.1) h1, by simpa using congrArg (fun x => x.2.1) h1, hl, h3⟩
  · rintro ⟨rfl, rfl, hl, h⟩
    rw [flat_succ, flat_succ, hl]
    congr 1
    unfold flats
    congr 1
    apply List.ext_getElem
    · simpa using hl
    · intro i h1 h2
      simpa using h i (by simpa using h1) (by simpa using h2)
end Go.Proofs.YtgdflaapgfpdeaaGreatDoor

namespace Go.Proofs.YtgdflaapgfpdeaaGreatDoor

def smallB (c : UInt8) : Bool := decide (97 ≤ c.toNat) && decide (c.toNat ≤ 122)
def capB (c : UInt8) : Bool := decide (65 ≤ c.toNat) && decide (c.toNat ≤ 90)
def signB (c : UInt8) : Bool := smallB c || capB c || (decide (48 ≤ c.toNat) && decide (c.toNat ≤ 57)) || decide (c.toNat = 95) || decide (c.toNat = 39)
/-- A small letter and signs behind it. -/
def varB (n : List UInt8) : Bool := decide (n.length ≤ 4096) && match n with | [] => false | c :: r => smallB c && r.all signB
def upperB (n : List UInt8) : Bool := match n with | [] => false | c :: r => capB c && r.all signB
def dataB (n : List UInt8) : Bool := decide (n ≠ [73, 110, 116]) && decide (n.length ≤ 4096) && (upperB n || (upperB (n.takeWhile (· ≠ 46)) && decide (n.dropWhile (· ≠ 46) ≠ []) && upperB ((n.dropWhile (· ≠ 46)).drop 1)))
/-- May a tree be, of however many nodes? -/
def formB : (d : Nat) → Tn d → Bool
  | 0, _ => false
  | d + 1, t => (if t.1.1 = 1 then t.1.2.isEmpty && t.2.isEmpty else if t.1.1 = 2 then varB t.1.2 && t.2.isEmpty else if t.1.1 = 3 then t.1.2.isEmpty && decide (t.2.length = 2) else if t.1.1 = 4 then dataB t.1.2 && decide (t.2.length ≤ 6) else false) && t.2.all (formB d)
/-- The text of a tree. -/
def textT : (d : Nat) → Tn d → List UInt8
  | 0, _ => []
  | d + 1, t => if t.1.1 = 1 then [73, 110, 116] else if t.1.1 = 3 then match t.2 with
      | [a, b] => 40 :: (textT d a ++ ([32, 45, 62, 32] ++ (textT d b ++ [41])))
      | _ => []
    else if t.2 = [] then t.1.2 else 40 :: (t.1.2 ++ ((t.2.map fun a => 32 :: textT d a).flatten ++ [41]))
/-- A byte that ends a word. -/
def endB (c : UInt8) : Bool := c == 32 || c == 40 || c == 41
theorem sign_end {c : UInt8} (h : signB c = true) : endB c = false := by
  unfold endB
  unfold signB smallB capB at h
  have e : ∀ x : UInt8, c = x → c.toNat = x.toNat := fun x h => by rw [h]
  simp only [Bool.or_eq_false_iff, beq_eq_false_iff_ne, ne_eq]
  refine ⟨⟨?_, ?_⟩, ?_⟩ <;> intro hc <;> have := e _ hc <;> simp at this <;> simp [this] at h
theorem small_sign {c : UInt8} (h : smallB c = true) : signB c = true := by unfold signB; simp [h]
theorem cap_sign {c : UInt8} (h : capB c = true) : signB c = true := by unfold signB; simp [h]
theorem upper_plain {n : List UInt8} (h : upperB n = true) : n ≠ [] ∧ ∀ c ∈ n, endB c = false := by
  cases n with
  | nil => simp [upperB] at h
  | cons c r =>
    simp only [upperB, Bool.and_eq_true, List.all_eq_true] at h
    refine ⟨by simp, fun x hx => ?_⟩
    rcases List.mem_cons.1 hx with rfl | hx
    · exact sign_end (cap_sign h.1)
    · exact sign_end (h.2 x hx)
theorem var_plain {n : List UInt8} (h : varB n = true) : n ≠ [] ∧ ∀ c ∈ n, endB c = false := by
  cases n with
  | nil => simp [varB] at h
  | cons c r =>
    simp only [varB, Bool.and_eq_true, List.all_eq_true] at h
    refine ⟨by simp, fun x hx => ?_⟩
    rcases List.mem_cons.1 hx with rfl | hx
    · exact sign_end (small_sign h.2.1)
    · exact sign_end (h.2.2 x hx)
theorem data_plain {n : List UInt8} (h : dataB n = true) : n ≠ [] ∧ ∀ c ∈ n, endB c = false := by
  simp only [dataB, Bool.and_eq_true, Bool.or_eq_true] at h
  rcases h.2 with h | ⟨⟨h1, h2⟩, h3⟩
  · exact upper_plain h
  · obtain ⟨a1, a2⟩ := upper_plain h1
    obtain ⟨b1, b2⟩ := upper_plain h3
    have e : n = n.takeWhile (· ≠ 46) ++ n.dropWhile (· ≠ 46) := List.takeWhile_append_dropWhile.symm
    refine ⟨fun h0 => by simp [h0] at a1, fun c hc => ?_⟩
    rw [e] at hc
    rcases List.mem_append.1 hc with hc | hc
    · exact a2 c hc
    · cases hd : n.dropWhile (· ≠ 46) with
      | nil => rw [hd] at hc; cases hc
      | cons x r =>
        have hx : x = 46 := by
          have := List.head_dropWhile_not (fun x : UInt8 => decide (x ≠ 46)) (l := n) (by rw [hd]; simp)
          simp only [hd] at this
          exact Classical.not_not.1 (of_decide_eq_false this)
        rw [hd] at hc b2
        rcases List.mem_cons.1 hc with rfl | hc
        · rw [hx]; rfl
        · exact b2 c (by simpa using hc)
theorem data_head {n : List UInt8} (h : dataB n = true) : ∃ c r, n = c :: r ∧ capB c = true := by
  simp only [dataB, Bool.and_eq_true, Bool.or_eq_true] at h
  rcases h.2 with h | ⟨⟨h1, _⟩, _⟩
  · cases n with
    | nil => simp [upperB] at h
    | cons c r => simp only [upperB, Bool.and_eq_true] at h; exact ⟨c, r, rfl, h.1⟩
  · cases n with
    | nil => simp [upperB] at h1
    | cons c r =>
      rw [List.takeWhile_cons] at h1
      split at h1
      · simp only [upperB, Bool.and_eq_true] at h1; exact ⟨c, r, rfl, h1.1⟩
      · simp [upperB] at h1
theorem var_head {n : List UInt8} (h : varB n = true) : ∃ c r, n = c :: r ∧ smallB c = true := by
  cases n with
  | nil => simp [varB] at h
  | cons c r => simp only [varB, Bool.and_eq_true] at h; exact ⟨c, r, rfl, h.2.1⟩
/-- What stands behind a word: nothing, or a byte that ends it. -/
def Ends (r : List UInt8) : Prop := ∀ c ∈ r.head?, endB c = true
theorem word_eq : ∀ {a b r s : List UInt8}, (∀ c ∈ a, endB c = false) → (∀ c ∈ b, endB c = false) → Ends r → Ends s → a ++ r = b ++ s → a = b ∧ r = s
  | [], [], _, _, _, _, _, _, h => ⟨rfl, by simpa using h⟩
  | [], c :: b, r, s, _, hb, hr, _, h => by
    have h : r = c :: (b ++ s) := by simpa using h
    have := hr c (by rw [h]; rfl)
    rw [hb c (by simp)] at this
    cases this
  | c :: a, [], r, s, ha, _, _, hs, h => by
    have h : c :: (a ++ r) = s := by simpa using h
    have := hs c (by rw [← h]; rfl)
    rw [ha c (by simp)] at this
    cases this
  | c :: a, x :: b, r, s, ha, hb, hr, hs, h => by
    simp only [List.cons_append] at h
    injection h with h1 h2
    obtain ⟨h3, h4⟩ := word_eq (fun c hc => ha c (by simp [hc])) (fun c hc => hb c (by simp [hc])) hr hs h2
    exact ⟨by rw [h1, h3], h4⟩
/-- The four kinds of a tree that may be. -/
theorem form_cases {d : Nat} {t : Tn (d + 1)} (h : formB (d + 1) t = true) :
    t = ((1, []), []) ∨ (∃ n, varB n = true ∧ t = ((2, n), [])) ∨ (∃ a b, formB d a = true ∧ formB d b = true ∧ t = ((3, []), [a, b])) ∨ ∃ n ts, dataB n = true ∧ ts.length ≤ 6 ∧ (∀ a ∈ ts, formB d a = true) ∧ t = ((4, n), ts) := by
  obtain ⟨⟨k, n⟩, ts⟩ := t
  simp only [formB, Bool.and_eq_true, List.all_eq_true] at h
  obtain ⟨h, ha⟩ := h
  split at h
  · rename_i hk
    simp only [Bool.and_eq_true, List.isEmpty_iff] at h
    exact .inl (by rw [hk, h.1, h.2])
  split at h
  · rename_i hk
    simp only [Bool.and_eq_true, List.isEmpty_iff] at h
    exact .inr (.inl ⟨n, h.1, by rw [hk, h.2]⟩)
  split at h
  · rename_i hk
    simp only [Bool.and_eq_true, List.isEmpty_iff, decide_eq_true_eq] at h
    obtain ⟨h1, h2⟩ := h
    match ts, h2, ha with
    | [a, b], _, ha => exact .inr (.inr (.inl ⟨a, b, ha a (by simp), ha b (by simp), by rw [hk, h1]⟩))
  split at h
  · rename_i hk
    simp only [Bool.and_eq_true, decide_eq_true_eq] at h
    exact .inr (.inr (.inr ⟨n, ts, h.1, h.2, ha, by rw [hk]⟩))
  · cases h
theorem text_int {d : Nat} : textT (d + 1) ((1, []), []) = [73, 110, 116] := rfl
theorem text_var {d : Nat} {n : List UInt8} : textT (d + 1) ((2, n), []) = n := rfl
theorem text_fun {d : Nat} {a b : Tn d} : textT (d + 1) ((3, []), [a, b]) = 40 :: (textT d a ++ ([32, 45, 62, 32] ++ (textT d b ++ [41]))) := rfl
theorem text_data0 {d : Nat} {n : List UInt8} : textT (d + 1) ((4, n), []) = n := rfl
/-- The arguments of a data type, as they are written. -/
def argsT (d : Nat) (ts : List (Tn d)) : List UInt8 := (ts.map fun a => 32 :: textT d a).flatten
theorem argsT_cons {d : Nat} {t : Tn d} {ts : List (Tn d)} : argsT d (t :: ts) = 32 :: (textT d t ++ argsT d ts) := by simp [argsT]
theorem text_data {d : Nat} {n : List UInt8} {t : Tn d} {ts : List (Tn d)} : textT (d + 1) ((4, n), t :: ts) = 40 :: (n ++ (argsT d (t :: ts) ++ [41])) := by
  simp [textT, argsT]
/-- A tree whose text is a word of it alone. -/
def Leaf (d : Nat) (t : Tn d) : Prop := textT d t ≠ [] ∧ (∀ c ∈ textT d t, endB c = false) ∧ ((textT d t = [73, 110, 116] ∧ flat d t = [(1, [], 0)]) ∨ (varB (textT d t) = true ∧ flat d t = [(2, textT d t, 0)]) ∨ (dataB (textT d t) = true ∧ flat d t = [(4, textT d t, 0)]))
theorem text_three {d : Nat} {t : Tn (d + 1)} (h : formB (d + 1) t = true) :
    Leaf (d + 1) t ∨ (∃ a b, formB d a = true ∧ formB d b = true ∧ t = ((3, []), [a, b])) ∨ ∃ n x xs, dataB n = true ∧ (∀ a ∈ x :: xs, formB d a = true) ∧ t = ((4, n), x :: xs) := by
  rcases form_cases h with rfl | ⟨n, hn, rfl⟩ | ⟨a, b, ha, hb, rfl⟩ | ⟨n, ts, hn, _, hts, rfl⟩
  · exact .inl ⟨by rw [text_int]; simp, by rw [text_int]; decide, .inl ⟨rfl, rfl⟩⟩
  · exact .inl ⟨(var_plain hn).1, (var_plain hn).2, .inr (.inl ⟨hn, rfl⟩)⟩
  · exact .inr (.inl ⟨a, b, ha, hb, rfl⟩)
  · cases ts with
    | nil => exact .inl ⟨(data_plain hn).1, (data_plain hn).2, .inr (.inr ⟨hn, rfl⟩)⟩
    | cons t ts => exact .inr (.inr ⟨n, t, ts, hn, hts, rfl⟩)
/-- A tree's text is a word of it alone, or begins with a bracket. -/
theorem text_kinds {d : Nat} {t : Tn d} (h : formB d t = true) : Leaf d t ∨ ∃ r, textT d t = 40 :: r := by
  cases d with
  | zero => exact t.elim
  | succ d =>
    rcases text_three h with h | ⟨a, b, _, _, rfl⟩ | ⟨n, t, ts, hn, _, rfl⟩
    · exact .inl h
    · exact .inr ⟨_, text_fun⟩
    · exact .inr ⟨_, text_data⟩
theorem text_head {d : Nat} {t : Tn d} (h : formB d t = true) : ∃ c r, textT d t = c :: r ∧ c ≠ 45 := by
  rcases text_kinds h with ⟨_, _, hn⟩ | ⟨r, e⟩
  · rcases hn with ⟨e, _⟩ | ⟨hv, _⟩ | ⟨hv, _⟩
    · exact ⟨_, _, e, by decide⟩
    · obtain ⟨c, r, e, hc⟩ := var_head hv
      exact ⟨c, r, e, fun h0 => by subst h0; exact absurd hc (by decide)⟩
    · obtain ⟨c, r, e, hc⟩ := data_head hv
      exact ⟨c, r, e, fun h0 => by subst h0; exact absurd hc (by decide)⟩
  · exact ⟨_, _, e, by decide⟩
theorem ends_cons {c : UInt8} {r : List UInt8} (h : endB c = true) : Ends (c :: r) := by
  intro x hx
  simp at hx
  rw [← hx]
  exact h
theorem not_open {n r s : List UInt8} (h0 : n ≠ []) (h : ∀ c ∈ n, endB c = false) (e : n ++ r = 40 :: s) : False := by
  cases n with
  | nil => exact h0 rfl
  | cons c n =>
    injection e with e1 _
    have := h c (by simp)
    rw [e1] at this
    cases this
theorem int_not_var : varB [73, 110, 116] = false := by decide
theorem int_not_data : dataB [73, 110, 116] = false := by decide
theorem var_not_data {n : List UInt8} (h : varB n = true) (h' : dataB n = true) : False := by
  obtain ⟨c, r, rfl, hc⟩ := var_head h
  obtain ⟨c', r', e, hc'⟩ := data_head h'
  injection e with e1 _
  subst e1
  simp only [smallB, capB, Bool.and_eq_true, decide_eq_true_eq] at hc hc'
  omega
/-- The row of arguments, up to the bracket. -/
theorem args_inj (d e : Nat) (ih : ∀ (t : Tn d) (u : Tn e) (r s : List UInt8), formB d t = true → formB e u = true → Ends r → Ends s → textT d t ++ r = textT e u ++ s → flat d t = flat e u ∧ r = s) :
    ∀ (ts : List (Tn d)) (us : List (Tn e)) (r s : List UInt8), (∀ a ∈ ts, formB d a = true) → (∀ a ∈ us, formB e a = true) → argsT d ts ++ 41 :: r = argsT e us ++ 41 :: s → ts.length = us.length ∧ flats d ts = flats e us ∧ r = s
  | [], [], r, s, _, _, h => ⟨rfl, rfl, by simpa [argsT] using h⟩
  | [], u :: us, r, s, _, _, h => by
    rw [argsT_cons] at h
    simp [argsT] at h
  | t :: ts, [], r, s, _, _, h => by
    rw [argsT_cons] at h
    simp [argsT] at h
  | t :: ts, u :: us, r, s, ht, hu, h => by
    rw [argsT_cons, argsT_cons] at h
    simp only [List.cons_append, List.append_assoc] at h
    injection h with _ h
    have hE : ∀ {d : Nat} (l : List (Tn d)) (r : List UInt8), Ends (argsT d l ++ 41 :: r) := by
      intro d l r
      cases l with
      | nil => exact ends_cons rfl
      | cons a l => rw [argsT_cons]; exact ends_cons rfl
    obtain ⟨h1, h2⟩ := ih t u _ _ (ht t (by simp)) (hu u (by simp)) (hE ts r) (hE us s) h
    obtain ⟨h3, h4, h5⟩ := args_inj d e ih ts us r s (fun a ha => ht a (by simp [ha])) (fun a ha => hu a (by simp [ha])) h2
    exact ⟨by simp [h3], by rw [flats_cons, flats_cons, h1, h4], h5⟩
theorem leaf_inj {d e : Nat} {t : Tn d} {u : Tn e} {r s : List UInt8} (ht : Leaf d t) (hu : Leaf e u) (hr : Ends r) (hs : Ends s) (h : textT d t ++ r = textT e u ++ s) : flat d t = flat e u ∧ r = s := by
  obtain ⟨n1, p1, k1⟩ := ht
  obtain ⟨n2, p2, k2⟩ := hu
  obtain ⟨h1, h2⟩ := word_eq p1 p2 hr hs h
  refine ⟨?_, h2⟩
  rw [← h1] at k2
  rcases k1 with ⟨k0, k1⟩ | ⟨v1, k1⟩ | ⟨v1, k1⟩
  · rcases k2 with ⟨_, k2⟩ | ⟨v2, k2⟩ | ⟨v2, k2⟩
    · rw [k1, k2]
    · rw [k0, int_not_var] at v2; cases v2
    · rw [k0, int_not_data] at v2; cases v2
  · rcases k2 with ⟨k0, k2⟩ | ⟨v2, k2⟩ | ⟨v2, k2⟩
    · rw [k0, int_not_var] at v1; cases v1
    · rw [k1, k2]
    · exact (var_not_data v1 v2).elim
  · rcases k2 with ⟨k0, k2⟩ | ⟨v2, k2⟩ | ⟨v2, k2⟩
    · rw [k0, int_not_data] at v1; cases v1
    · exact (var_not_data v2 v1).elim
    · rw [k1, k2]
theorem fun_data {d e : Nat} {a b : Tn d} {n : List UInt8} {x : Tn e} {xs : List (Tn e)} {r s : List UInt8} (ha : formB d a = true) (hn : dataB n = true) (hx : formB e x = true) (h : textT (d + 1) ((3, []), [a, b]) ++ r = textT (e + 1) ((4, n), x :: xs) ++ s) : False := by
  rw [text_fun, text_data, argsT_cons] at h
  simp only [List.cons_append, List.append_assoc, List.nil_append] at h
  have h := (List.cons.inj h).2
  rcases text_kinds ha with ⟨m1, m2, _⟩ | ⟨y, e3⟩
  · obtain ⟨_, h⟩ := word_eq m2 (data_plain hn).2 (ends_cons rfl) (ends_cons rfl) h
    have h := (List.cons.inj h).2
    obtain ⟨c, q, e4, hc⟩ := text_head hx
    rw [e4] at h
    exact hc (List.cons.inj h).1.symm
  · rw [e3] at h
    exact not_open (data_plain hn).1 (data_plain hn).2 h.symm
/-- Two types of one text, up to what is behind them, are one. -/
theorem text_inj2 : ∀ (d : Nat) (t : Tn d) (e : Nat) (u : Tn e) (r s : List UInt8), formB d t = true → formB e u = true → (Leaf d t → Ends r) → (Leaf e u → Ends s) → textT d t ++ r = textT e u ++ s → flat d t = flat e u ∧ r = s
  | 0, t, _, _, _, _, _, _, _, _, _ => t.elim
  | _ + 1, _, 0, u, _, _, _, _, _, _, _ => u.elim
  | d + 1, t, e + 1, u, r, s, ht, hu, hr, hs, h => by
    have ih := fun (t : Tn d) (u : Tn e) r s => text_inj2 d t e u r s
    rcases text_three ht with lt | ⟨a, b, ha, hb, rfl⟩ | ⟨n, x, xs, hn, hx, rfl⟩
    · rcases text_three hu with lu | ⟨a', b', ha', hb', rfl⟩ | ⟨n', x', xs', hn', hx', rfl⟩
      · exact leaf_inj lt lu (hr lt) (hs lu) h
      · rw [text_fun] at h
        exact (not_open lt.1 lt.2.1 h).elim
      · rw [text_data] at h
        exact (not_open lt.1 lt.2.1 h).elim
    · rcases text_three hu with lu | ⟨a', b', ha', hb', rfl⟩ | ⟨n', x', xs', hn', hx', rfl⟩
      · rw [text_fun] at h
        exact (not_open lu.1 lu.2.1 h.symm).elim
      · rw [text_fun, text_fun] at h
        simp only [List.cons_append, List.append_assoc, List.nil_append] at h
        obtain ⟨h1, h⟩ := ih a a' _ _ ha ha' (fun _ => ends_cons rfl) (fun _ => ends_cons rfl) (List.cons.inj h).2
        simp only [List.cons.injEq, true_and] at h
        obtain ⟨h2, h⟩ := ih b b' _ _ hb hb' (fun _ => ends_cons rfl) (fun _ => ends_cons rfl) h
        exact ⟨by rw [flat_succ, flat_succ, flats_cons, flats_cons, flats_cons, flats_cons, h1, h2]; rfl, (List.cons.inj h).2⟩
      · exact (fun_data ha hn' (hx' x' (by simp)) h).elim
    · rcases text_three hu with lu | ⟨a', b', ha', hb', rfl⟩ | ⟨n', x', xs', hn', hx', rfl⟩
      · rw [text_data] at h
        exact (not_open lu.1 lu.2.1 h.symm).elim
      · exact (fun_data ha' hn (hx x (by simp)) h.symm).elim
      · rw [text_data, text_data] at h
        simp only [List.cons_append, List.append_assoc, List.nil_append] at h
        have hE : ∀ {d : Nat} (x : Tn d) (l : List (Tn d)) (r : List UInt8), Ends (argsT d (x :: l) ++ 41 :: r) := by
          intro d x l r
          rw [argsT_cons]
          exact ends_cons rfl
        obtain ⟨h1, h⟩ := word_eq (data_plain hn).2 (data_plain hn').2 (hE x xs r) (hE x' xs' s) (List.cons.inj h).2
        obtain ⟨h2, h3, h4⟩ := args_inj d e (fun t u r s ht hu hr hs => ih t u r s ht hu (fun _ => hr) (fun _ => hs)) _ _ r s hx hx' h
        exact ⟨by rw [flat_succ, flat_succ, h1, h2, h3], h4⟩
/-- Two types of one text are one. -/
theorem text_inj (d : Nat) (t : Tn d) (e : Nat) (u : Tn e) (r s : List UInt8) (ht : formB d t = true) (hu : formB e u = true) (hr : Ends r) (hs : Ends s) (h : textT d t ++ r = textT e u ++ s) : flat d t = flat e u ∧ r = s :=
  text_inj2 d t e u r s ht hu (fun _ => hr) (fun _ => hs) h
end Go.Proofs.YtgdflaapgfpdeaaGreatDoor
