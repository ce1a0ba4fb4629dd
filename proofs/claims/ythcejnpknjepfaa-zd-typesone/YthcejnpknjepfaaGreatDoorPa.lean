/- What a lenient reading of a type says: a tree, and what is left. Nothing of the program stands here. -/
import Derived.Test.YthcejnpknjepfaaGreatDoorPl
namespace Go.Proofs.YthcejnpknjepfaaGreatDoor

/-- The reading of l is the tree t, and r is left: if t may be, it stands there; if some tree that may be stands there, t may be and r is behind it. -/
structure PartOk (l : List UInt8) (m : Nat) (t : Tn m) (r : List UInt8) : Prop where
  sound : formB m t = true → l = textT m t ++ r ∧ (Leaf m t → Ends r)
  compl : ∀ (e : Nat) (u : Tn e) (s : List UInt8), formB e u = true → l = textT e u ++ s → (Leaf e u → Ends s) → formB m t = true ∧ r = s
/-- Likewise of a row of arguments, each behind a blank. -/
structure ArgsOk (l : List UInt8) (m : Nat) (ts : List (Tn m)) (r : List UInt8) : Prop where
  sound : (∀ a ∈ ts, formB m a = true) → l = argsT m ts ++ r
  compl : ∀ (e : Nat) (us : List (Tn e)) (s : List UInt8), (∀ a ∈ us, formB e a = true) → l = argsT e us ++ 41 :: s → ∃ vs : List (Tn e), us.length = ts.length + vs.length ∧ (∀ a ∈ ts, formB m a = true) ∧ (∀ a ∈ vs, formB e a = true) ∧ r = argsT e vs ++ 41 :: s
theorem ArgsOk.nil (l : List UInt8) (m : Nat) : ArgsOk l m [] l := ⟨fun _ => by simp [argsT], fun e us s h h1 => ⟨us, by simp, by simp, h, h1⟩⟩
theorem argsT_app (d : Nat) (a b : List (Tn d)) : argsT d (a ++ b) = argsT d a ++ argsT d b := by simp [argsT]
/-- One argument more. -/
theorem ArgsOk.snoc {l c r : List UInt8} {m : Nat} {ts : List (Tn m)} {t : Tn m} (h : ArgsOk l m ts (32 :: c)) (hp : PartOk c m t r) : ArgsOk l m (ts ++ [t]) r := by
  constructor
  · intro hF
    have h1 := h.sound fun a ha => hF a (by simp [ha])
    have h2 := (hp.sound (hF t (by simp))).1
    rw [h1, h2, argsT_app, argsT_cons]
    simp [argsT]
  · intro e us s hus hl
    obtain ⟨vs, hlen, h1, h2, h3⟩ := h.compl e us s hus hl
    obtain ⟨u, vs', rfl, h4⟩ := args_blank h3
    obtain ⟨h5, h6⟩ := hp.compl e u _ (h2 u (by simp)) h4 fun _ => args_ends vs' s
    refine ⟨vs', by simp at hlen ⊢; omega, fun a ha => ?_, fun a ha => h2 a (by simp [ha]), h6⟩
    rcases List.mem_append.1 ha with ha | ha
    · exact h1 a ha
    · simp at ha
      rw [ha]
      exact h5
/-- What is nothing may not be. -/
theorem form_zero (m : Nat) : formB (m + 1) ((0, []), []) = false := rfl
theorem open_not_leaf {m : Nat} {t : Tn m} {q : List UInt8} (h : textT m t = 40 :: q) : ¬ Leaf m t := fun hL => by
  have := hL.2.1 40 (by rw [h]; simp)
  cases this
/-- What a tree's text that begins with a bracket is. -/
theorem open_cases {e : Nat} {u : Tn e} {l1 s : List UInt8} (hu : formB e u = true) (h : 40 :: l1 = textT e u ++ s) : (∃ (d : Nat) (a b : Tn d), formB d a = true ∧ formB d b = true ∧ l1 = textT d a ++ ([32, 45, 62, 32] ++ (textT d b ++ 41 :: s))) ∨ (∃ (d : Nat) (n : List UInt8) (x : Tn d) (xs : List (Tn d)), dataB n = true ∧ (x :: xs).length ≤ 6 ∧ (∀ a ∈ x :: xs, formB d a = true) ∧ l1 = n ++ (argsT d (x :: xs) ++ 41 :: s)) := by
  cases e with
  | zero => exact u.elim
  | succ d =>
    rcases form_cases hu with rfl | ⟨n, hn, rfl⟩ | ⟨a, b, ha, hb, rfl⟩ | ⟨n, ts, hn, hlen, hts, rfl⟩
    · rw [text_int] at h; cases h
    · rw [text_var] at h
      exact (not_open (var_plain hn).1 (var_plain hn).2 h.symm).elim
    · rw [text_fun] at h
      simp only [List.cons_append, List.append_assoc, List.cons.injEq, true_and] at h
      exact .inl ⟨d, a, b, ha, hb, by rw [h]; simp⟩
    · cases ts with
      | nil =>
        rw [text_data0] at h
        exact (not_open (data_plain hn).1 (data_plain hn).2 h.symm).elim
      | cons x xs =>
        rw [text_data] at h
        simp only [List.cons_append, List.append_assoc, List.cons.injEq, true_and] at h
        exact .inr ⟨d, n, x, xs, hn, hlen, hts, by rw [h]; simp⟩
theorem data_leaf {n : List UInt8} (hn : dataB n = true) : formB 1 ((4, n), []) = true := by
  rw [form_succ]
  simp [okB, hn]
/-- Behind a bracket the first word, of a function or of a data type. -/
theorem PartOk.first {l1 r1 s : List UInt8} {m e : Nat} {t1 : Tn m} {u : Tn e} (h1 : PartOk l1 m t1 r1) (hu : formB e u = true) (h : 40 :: l1 = textT e u ++ s) : formB m t1 = true ∧
    ((∃ (d : Nat) (b : Tn d), formB d b = true ∧ r1 = [32, 45, 62, 32] ++ (textT d b ++ 41 :: s)) ∨
     (∃ (d : Nat) (n : List UInt8) (x : Tn d) (xs : List (Tn d)), dataB n = true ∧ (x :: xs).length ≤ 6 ∧ (∀ a ∈ x :: xs, formB d a = true) ∧ flat m t1 = [(4, n, 0)] ∧ r1 = argsT d (x :: xs) ++ 41 :: s ∧ begB [32, 45, 62, 32] r1 = false)) := by
  rcases open_cases hu h with ⟨d, a, b, ha, hb, hl⟩ | ⟨d, n, x, xs, hn, hlen, hts, hl⟩
  · obtain ⟨h2, h3⟩ := h1.compl d a _ ha hl fun _ => ends_cons rfl
    exact ⟨h2, .inl ⟨d, b, hb, h3⟩⟩
  · have hE : Ends (argsT d (x :: xs) ++ 41 :: s) := args_ends (x :: xs) s
    obtain ⟨h2, h3⟩ := h1.compl 1 ((4, n), []) _ (data_leaf hn) (by rw [text_data0]; exact hl) fun _ => hE
    refine ⟨h2, .inr ⟨d, n, x, xs, hn, hlen, hts, ?_, h3, ?_⟩⟩
    · have := (h1.sound h2)
      have q := text_inj2 m t1 1 ((4, n), []) r1 r1 h2 (data_leaf hn) this.2 (fun _ => by rw [h3]; exact hE) (by rw [text_data0, ← this.1, hl, h3])
      rw [q.1, flat_succ]
      rfl
    · cases hb : begB [32, 45, 62, 32] r1
      · rfl
      · obtain ⟨q, hq⟩ := beg_arrow hb
        rw [h3, argsT_cons] at hq
        obtain ⟨c, p, e4, hc⟩ := text_head (hts x (by simp))
        rw [e4] at hq
        simp at hq
        exact (hc hq.1).elim
/-- A function was read. -/
theorem PartOk.func {l1 l2 r : List UInt8} {m : Nat} {t1 t2 : Tn m} (h1 : PartOk l1 m t1 ([32, 45, 62, 32] ++ l2)) (h2 : PartOk l2 m t2 (41 :: r)) : PartOk (40 :: l1) (m + 1) ((3, []), [t1, t2]) r := by
  constructor
  · intro hF
    rw [form_succ] at hF
    simp [okB] at hF
    have e1 := (h1.sound hF.1).1
    have e2 := (h2.sound hF.2).1
    refine ⟨?_, fun hL => (open_not_leaf (text_fun) hL).elim⟩
    rw [e1, e2, text_fun]
    simp
  · intro e u s hu hl _
    obtain ⟨f1, hc⟩ := h1.first hu hl
    rcases hc with ⟨d, b, hb, h3⟩ | ⟨d, n, x, xs, hn, hlen, hts, hfl, h3, hb⟩
    · have h3 := List.append_cancel_left h3
      obtain ⟨f2, h4⟩ := h2.compl d b _ hb h3 fun _ => ends_cons rfl
      have h4 := (List.cons.inj h4).2
      exact ⟨by rw [form_succ]; simp [okB, f1, f2], h4⟩
    · rw [beg_self] at hb
      cases hb
/-- No bracket behind a function. -/
theorem PartOk.func_no {l1 l2 r : List UInt8} {m : Nat} {t1 t2 : Tn m} (h1 : PartOk l1 m t1 ([32, 45, 62, 32] ++ l2)) (h2 : PartOk l2 m t2 r) (hr : begB [41] r = false) : PartOk (40 :: l1) (m + 1) ((0, []), []) r := by
  constructor
  · intro hF
    cases hF
  · intro e u s hu hl _
    obtain ⟨f1, hc⟩ := h1.first hu hl
    rcases hc with ⟨d, b, hb, h3⟩ | ⟨d, n, x, xs, hn, hlen, hts, hfl, h3, hb⟩
    · have h3 := List.append_cancel_left h3
      obtain ⟨f2, h4⟩ := h2.compl d b _ hb h3 fun _ => ends_cons rfl
      rw [h4] at hr
      simp [begB] at hr
    · rw [beg_self] at hb
      cases hb
theorem flat_data {m : Nat} {n n' : List UInt8} {ts : List (Tn m)} (h : flat (m + 1) ((4, n), ts) = [(4, n', 0)]) : n = n' ∧ ts = [] := by
  rw [flat_succ] at h
  injection h with h1 h2
  exact ⟨by simpa using congrArg (fun x => x.2.1) h1, List.length_eq_zero_iff.1 (by simpa using congrArg (fun x => x.2.2) h1)⟩
/-- A data type with arguments was read. -/
theorem PartOk.data {l1 r1 r n : List UInt8} {m : Nat} {ts : List (Tn (m + 1))} (h1 : PartOk l1 (m + 1) ((4, n), []) r1) (hb : begB [32, 45, 62, 32] r1 = false) (h2 : ArgsOk r1 (m + 1) ts (41 :: r)) (h0 : ts ≠ []) : PartOk (40 :: l1) (m + 1 + 1) ((4, n), ts) r := by
  obtain ⟨t, ts', rfl⟩ := List.exists_cons_of_ne_nil h0
  constructor
  · intro hF
    rw [form_succ] at hF
    simp only [Bool.and_eq_true, List.all_eq_true] at hF
    have hd : dataB n = true := by
      have := hF.1
      simp [okB] at this
      exact this.1
    have hL : formB (m + 1) ((4, n), []) = true := by rw [form_succ]; simp [okB, hd]
    have e1 := (h1.sound hL).1
    have e2 := h2.sound hF.2
    refine ⟨?_, fun hL => (open_not_leaf (text_data) hL).elim⟩
    rw [e1, e2, text_data, text_data0]
    simp
  · intro e u s hu hl _
    obtain ⟨f1, hc⟩ := h1.first hu hl
    rcases hc with ⟨d, b, hb', h3⟩ | ⟨d, n', x, xs, hn, hlen, hts, hfl, h3, _⟩
    · rw [h3, beg_self] at hb
      cases hb
    · obtain ⟨rfl, _⟩ := flat_data hfl
      obtain ⟨vs, k1, k2, k3, k4⟩ := h2.compl d (x :: xs) s hts h3
      cases vs with
      | nil =>
        simp [argsT] at k4
        refine ⟨?_, k4⟩
        rw [form_succ]
        simp only [Bool.and_eq_true, List.all_eq_true]
        refine ⟨?_, k2⟩
        simp [okB, hn]
        simp at k1 hlen
        omega
      | cons v vs =>
        rw [argsT_cons] at k4
        simp at k4
/-- No argument, or no bracket behind the arguments. -/
theorem PartOk.data_no {l1 r1 r n : List UInt8} {m : Nat} {ts : List (Tn (m + 1))} (h1 : PartOk l1 (m + 1) ((4, n), []) r1) (hb : begB [32, 45, 62, 32] r1 = false) (h2 : ArgsOk r1 (m + 1) ts r) (hs : begB [32] r = false) (h0 : ts = [] ∨ begB [41] r = false) : PartOk (40 :: l1) (m + 1 + 1) ((0, []), []) r := by
  constructor
  · intro hF
    cases hF
  · intro e u s hu hl _
    obtain ⟨f1, hc⟩ := h1.first hu hl
    rcases hc with ⟨d, b, hb', h3⟩ | ⟨d, n', x, xs, hn, hlen, hts, hfl, h3, _⟩
    · rw [h3, beg_self] at hb
      cases hb
    · obtain ⟨vs, k1, k2, k3, k4⟩ := h2.compl d (x :: xs) s hts h3
      cases vs with
      | nil =>
        simp [argsT] at k4
        rcases h0 with h0 | h0
        · rw [h0] at k1; simp at k1
        · rw [k4] at h0; simp [begB] at h0
      | cons v vs =>
        rw [argsT_cons] at k4
        rw [k4] at hs
        simp [begB] at hs
/-- What is neither. -/
theorem PartOk.none {l1 r1 : List UInt8} {m : Nat} {k : Int} {n : List UInt8} {ts : List (Tn m)} (h1 : PartOk l1 (m + 1) ((k, n), ts) r1) (hb : begB [32, 45, 62, 32] r1 = false) (hk : ¬ (k = 4 ∧ ts = [])) : PartOk (40 :: l1) (m + 1 + 1) ((0, []), []) r1 := by
  constructor
  · intro hF
    cases hF
  · intro e u s hu hl _
    obtain ⟨f1, hc⟩ := h1.first hu hl
    rcases hc with ⟨d, b, hb', h3⟩ | ⟨d, n', x, xs, hn, hlen, hts, hfl, h3, _⟩
    · rw [h3, beg_self] at hb
      cases hb
    · rw [flat_succ] at hfl
      injection hfl with q1 q2
      exact (hk ⟨by simpa using congrArg (fun x => x.1) q1, List.length_eq_zero_iff.1 (by simpa using congrArg (fun x => x.2.2) q1)⟩).elim
/-- What a word is. -/
def wordT (n : List UInt8) : Int × List UInt8 := if n = [73, 110, 116] then (1, []) else if varB n = true then (2, n) else (4, n)
theorem PartOk.leaf {l : List UInt8} {m : Nat} (hl : begB [40] l = false) : PartOk l (m + 1) (wordT (wordL l), []) (l.drop (wordL l).length) := by
  obtain ⟨r, h1, h2, h3⟩ := word_split l
  have hr : l.drop (wordL l).length = r := by
    have := congrArg (List.drop (wordL l).length) h1
    rw [List.drop_left] at this
    exact this
  rw [hr]
  have hT : formB (m + 1) (wordT (wordL l), []) = true → textT (m + 1) (wordT (wordL l), []) = wordL l := by
    intro hF
    unfold wordT at hF ⊢
    split
    · rename_i h; rw [h]; rfl
    · rw [if_neg (by assumption)] at hF
      split
      · rw [text_var]
      · rw [text_data0]
  constructor
  · intro hF
    rw [hT hF]
    exact ⟨h1, fun _ => h3⟩
  · intro e u s hu hlu hs
    rcases text_kinds hu with hL | ⟨q, hq⟩
    · obtain ⟨e1, e2⟩ := word_eq h2 hL.2.1 h3 (hs hL) (h1.symm.trans hlu)
      refine ⟨?_, e2⟩
      unfold wordT
      rcases hL.2.2 with ⟨k, _⟩ | ⟨k, _⟩ | ⟨k, _⟩
      · rw [e1, k, if_pos rfl]
        rfl
      · rw [e1]
        rw [if_neg (by intro h; rw [h, int_not_var] at k; cases k), if_pos k, form_succ]
        simp [okB, k]
      · rw [e1]
        rw [if_neg (by intro h; rw [h, int_not_data] at k; cases k)]
        rw [if_neg (by intro h; exact var_not_data h k), form_succ]
        simp [okB, k]
    · rw [hlu, hq] at hl
      simp [begB] at hl
end Go.Proofs.YthcejnpknjepfaaGreatDoor
