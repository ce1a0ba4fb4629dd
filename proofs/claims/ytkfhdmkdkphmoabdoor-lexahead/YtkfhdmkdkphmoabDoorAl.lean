/- The bytes ahead of a fault are taken; tokens stand at rising places in the text as they are told. -/
import Derived.Test.YtkfhdmkdkphmoabDoorAk
namespace Go.Proofs.YtkfhdmkdkphmoabDoor

theorem tokL_take {l : List UInt8} {kd nm n q : Nat} {tx : List UInt8} (h : tokL l = .ok (kd, tx, nm, n)) (hq : n ≤ q) (hu : clsHd l = 2 → upperL (l.take q) = upperL l) : tokL (l.take q) = .ok (kd, tx, nm, n) := by
  have hn := tokL_pos h
  have hsp : ∀ p : Nat → Bool, spanLen p l ≤ q → spanLen p (l.take q) = spanLen p l ∧ (l.take q).take (spanLen p l) = l.take (spanLen p l) := by
    intro p hp
    rw [span_take, List.take_take]
    exact ⟨by omega, by rw [Nat.min_eq_left hp]⟩
  unfold tokL at h ⊢
  rw [clsHd_take (by omega)]
  split
  · rename_i hc
    rw [if_pos hc] at h
    simp at h
    obtain ⟨h1, h2, h3, h4⟩ := h
    obtain ⟨e1, e2⟩ := hsp nsB (by show nameLen l ≤ q; omega)
    have e1' : nameLen (l.take q) = nameLen l := e1
    have e2' : (l.take q).take (nameLen l) = l.take (nameLen l) := e2
    rw [e1', e2', h1, h2, h4, ← h3]
  rename_i hc1; rw [if_neg hc1] at h
  split
  · rename_i hc
    rw [if_pos hc] at h
    simp at h
    obtain ⟨h1, h2, h3, h4⟩ := h
    rw [hu hc, List.take_take, Nat.min_eq_left (by omega), h1, h2, h4, ← h3]
  rename_i hc2; rw [if_neg hc2] at h
  split
  · rename_i hc
    rw [if_pos hc] at h
    cases hx : numL l with
    | none => rw [hx] at h; cases h
    | some z =>
      obtain ⟨v, m⟩ := z
      rw [hx] at h
      simp at h
      obtain ⟨h1, h2, h3, h4⟩ := h
      rw [num_take hx (by omega) (by omega), ← h1, ← h2, ← h3, ← h4]
  rename_i hc3; rw [if_neg hc3] at h
  split
  · rename_i hc
    rw [if_pos hc] at h
    cases hx : charL l with
    | none => rw [hx] at h; cases h
    | some z =>
      obtain ⟨v, m⟩ := z
      rw [hx] at h
      simp at h
      obtain ⟨h1, h2, h3, h4⟩ := h
      rw [charL_take hx (by omega), ← h1, ← h2, ← h3, ← h4]
  rename_i hc4; rw [if_neg hc4] at h
  split
  · rename_i hc
    rw [if_pos hc] at h
    cases hx : strL (l.drop 1) with
    | none => rw [hx] at h; cases h
    | some z =>
      obtain ⟨v, m⟩ := z
      rw [hx] at h
      simp at h
      obtain ⟨h1, h2, h3, h4⟩ := h
      rw [List.drop_take, strL_take hx (by omega), ← h1, ← h2, ← h3, ← h4]
  rename_i hc7; rw [if_neg hc7] at h
  split
  · rename_i hc
    rw [if_pos hc] at h
    split at h
    · cases h
    · rename_i hk
      simp at h
      obtain ⟨h1, h2, h3, h4⟩ := h
      obtain ⟨e1, e2⟩ := hsp (· == 8) (by show runLen l ≤ q; omega)
      have e1' : runLen (l.take q) = runLen l := e1
      have e2' : (l.take q).take (runLen l) = l.take (runLen l) := e2
      rw [e1', e2', if_neg hk, h1, h2, h4, ← h3]
  rename_i hc8; rw [if_neg hc8] at h
  split
  · rename_i hc
    rw [if_pos hc] at h
    simp at h
    obtain ⟨h1, h2, h3, h4⟩ := h
    rw [List.take_take, Nat.min_eq_left (by omega), h1, h2, h4, ← h3]
  rename_i hc9; rw [if_neg hc9] at h
  split
  · rename_i hc
    rw [if_pos hc] at h
    split at h
    · cases h
    · rename_i hk
      simp at h
      obtain ⟨h1, h2, h3, h4⟩ := h
      have := nsB_take (l := l) (n := 1) (q := q) (by omega) (by
        cases hz : nsB (clsHd (l.drop 1)) with
        | false => rfl
        | true => exact absurd hz hk)
      rw [this, if_neg (by decide), List.take_take, Nat.min_eq_left (by omega), h1, h2, h4, ← h3]
  · rename_i hc; rw [if_neg hc] at h; cases h
theorem tokK_run {l : List UInt8} {kd nm n : Nat} {tx : List UInt8} (h : tokL l = .ok (kd, tx, nm, n)) : runLen l ≤ n := by
  by_cases h8 : clsHd l = 8
  · unfold tokL at h
    rw [h8, if_neg (by decide), if_neg (by decide), if_neg (by decide), if_neg (by decide), if_neg (by decide), if_pos rfl] at h
    split at h
    · cases h
    · simp at h; omega
  · rw [run_zero h8]; omega
theorem tok_text {l : List UInt8} {kd nm n : Nat} {tx : List UInt8} (h : tokL l = .ok (kd, tx, nm, n)) (h6 : kd ≠ 6) (h7 : kd ≠ 7) (h8 : kd ≠ 8) : tx = l.take n := by
  unfold tokL at h
  split at h
  · simp at h; obtain ⟨_, h2, _, h4⟩ := h; rw [← h2, ← h4]
  split at h
  · simp at h; obtain ⟨_, h2, _, h4⟩ := h; rw [← h2, ← h4]
  split at h
  · split at h
    · cases h
    · simp at h; omega
  split at h
  · split at h
    · cases h
    · simp at h; omega
  split at h
  · split at h
    · cases h
    · simp at h; omega
  split at h
  · split at h
    · cases h
    · simp at h; obtain ⟨_, h2, _, h4⟩ := h; rw [← h2, ← h4]
  split at h
  · simp at h; obtain ⟨_, h2, _, h4⟩ := h; rw [← h2, ← h4]
  split at h
  · split at h
    · cases h
    · simp at h; obtain ⟨_, h2, _, h4⟩ := h; rw [← h2, ← h4]
  · cases h

theorem stepL_take {l : List UInt8} {o : Option (Nat × List UInt8 × Nat)} {n q : Nat} (h : stepL l = .ok (o, n)) (h1 : 1 ≤ n) (hq : n ≤ q) (hu : clsHd l = 2 → upperL (l.take q) = upperL l) : stepL (l.take q) = .ok (o, n) := by
  unfold stepL at h ⊢
  rw [clsHd_take (by omega)]
  split
  · rename_i hc; rw [if_pos hc] at h; exact h
  rename_i hc6; rw [if_neg hc6] at h
  by_cases hp : [123, 45].isPrefixOf l = true
  · rw [if_pos hp] at h
    cases hb : blockL l 0 with
    | none => rw [hb] at h; cases h
    | some m =>
      rw [hb] at h
      simp at h
      obtain ⟨rfl, rfl⟩ := h
      have := blockL_pos hb
      rw [if_pos (prefix_take2 (by omega) hp), blockL_take hb hq]
  · rw [if_neg hp] at h
    rw [if_neg (prefix_take hp)]
    have hrun : ∀ r : Nat, runLen l ≤ q → runLen (l.take q) = runLen l ∧ (l.take q).take (runLen l) = l.take (runLen l) := by
      intro _ hr
      have e : runLen (l.take q) = runLen l := by
        show spanLen _ _ = spanLen _ _
        rw [span_take]
        have : spanLen (· == 8) l ≤ q := hr
        omega
      exact ⟨e, by rw [List.take_take, Nat.min_eq_left hr]⟩
    by_cases hd : dashB (l.take (runLen l)) = true
    · rw [if_pos hd] at h
      simp at h
      obtain ⟨rfl, rfl⟩ := h
      have hr := run_le_idx l
      obtain ⟨e1, e2⟩ := hrun 0 (by omega)
      rw [e1, e2, if_pos hd, idx_take l q hq]
    · rw [if_neg hd] at h
      cases ht : tokL l with
      | error c => rw [ht] at h; cases h
      | ok z =>
        obtain ⟨kd, tx, nm, m⟩ := z
        rw [ht] at h
        simp at h
        obtain ⟨rfl, rfl⟩ := h
        have hr := tokK_run ht
        obtain ⟨e1, e2⟩ := hrun 0 (by omega)
        rw [e1, e2, if_neg hd, tokL_take ht hq hu]

theorem stepK_len {l : List UInt8} (hl : l ≠ []) {o : Option (Nat × List UInt8 × Nat)} {n : Nat} (h : stepL l = .ok (o, n)) : 1 ≤ n ∧ n ≤ l.length := by
  have h1 : 1 ≤ l.length := by
    cases l with
    | nil => exact absurd rfl hl
    | cons c r => simp
  unfold stepL at h
  split at h
  · simp at h; omega
  split at h
  · split at h
    · cases h
    · rename_i hb; simp at h; have := blockL_pos hb; omega
  split at h
  · rename_i hd; simp at h; have := dash_head hd; omega
  split at h
  · cases h
  · rename_i ht; simp at h; have := tokL_pos ht; omega

/-- A place at which a piece of the text ends, so many pieces on at most. -/
def BndN : Nat → List UInt8 → Nat → Prop
  | 0, _, q => q = 0
  | m + 1, l, q => q = 0 ∨ ∃ o n q', stepL l = .ok (o, n) ∧ BndN m (l.drop n) q' ∧ q = n + q'
/-- A place at which a piece of the text ends. -/
def Bnd (l : List UInt8) (q : Nat) : Prop := ∃ m, BndN m l q
theorem Bnd.zero (l : List UInt8) : Bnd l 0 := ⟨0, rfl⟩
theorem Bnd.step {l : List UInt8} {o : Option (Nat × List UInt8 × Nat)} {n q : Nat} (h : stepL l = .ok (o, n)) (hb : Bnd (l.drop n) q) : Bnd l (n + q) := by
  obtain ⟨m, hm⟩ := hb
  exact ⟨m + 1, .inr ⟨o, n, q, h, hm, rfl⟩⟩
theorem Bnd.inv {l : List UInt8} {q : Nat} (h : Bnd l q) (h0 : q ≠ 0) : ∃ o n q', stepL l = .ok (o, n) ∧ Bnd (l.drop n) q' ∧ q = n + q' := by
  obtain ⟨m, hm⟩ := h
  cases m with
  | zero => exact absurd hm h0
  | succ m =>
    rcases hm with hm | ⟨o, n, q', h1, h2, h3⟩
    · exact absurd hm h0
    · exact ⟨o, n, q', h1, ⟨m, h2⟩, h3⟩

theorem step_lower {x : List UInt8} {o : Option (Nat × List UInt8 × Nat)} {n : Nat} (hc : clsHd x = 1) (h : stepL x = .ok (o, n)) : n = nameLen x := by
  have hp : ¬ [123, 45].isPrefixOf x = true := by
    cases x with
    | nil => simp
    | cons c r =>
      intro h
      simp [List.isPrefixOf] at h
      have hc' : cls c.toNat = 1 := hc
      rw [← h.1] at hc'
      exact absurd hc' (by decide)
  unfold stepL at h
  rw [hc, if_neg (by decide), if_neg hp, run_zero (by omega), if_neg (by simp [dashB])] at h
  unfold tokL at h
  rw [hc, if_pos rfl] at h
  simp at h
  exact h.2.symm
theorem step_point {x : List UInt8} {o : Option (Nat × List UInt8 × Nat)} {n : Nat} (hc : clsHd x = 1) (h : stepL (46 :: x) = .ok (o, n)) : n = 1 := by
  have hcl : clsHd (46 :: x) = 8 := rfl
  have hr : runLen (46 :: x) = 1 := by
    show spanLen (· == 8) (46 :: x) = 1
    have h0 : spanLen (· == 8) x = 0 := run_zero (by omega)
    rw [spanLen, h0]
    rfl
  unfold stepL at h
  rw [hcl, if_neg (by decide), if_neg (by simp [List.isPrefixOf]), hr, if_neg (by simp [dashB])] at h
  unfold tokL at h
  rw [hcl, if_neg (by decide), if_neg (by decide), if_neg (by decide), if_neg (by decide), if_neg (by decide), if_pos rfl, hr, if_neg (by simp [runKindP, dashB])] at h
  simp at h
  exact h.2.symm
theorem upper_bnd {l : List UInt8} {q : Nat} (hb : Bnd l q) (h0 : q ≠ 0) (hc : clsHd l = 2) : upperL (l.take q) = upperL l := by
  obtain ⟨o, n, q', hs, hb', rfl⟩ := hb.inv h0
  have hp : ¬ [123, 45].isPrefixOf l = true := by
    cases l with
    | nil => simp
    | cons c r =>
      intro h
      simp [List.isPrefixOf] at h
      have hc' : cls c.toNat = 2 := hc
      rw [← h.1] at hc'
      exact absurd hc' (by decide)
  have hn : n = (upperL l).1 := by
    unfold stepL at hs
    rw [hc, if_neg (by decide), if_neg hp, run_zero (by omega), if_neg (by simp [dashB])] at hs
    unfold tokL at hs
    rw [hc, if_neg (by decide), if_pos rfl] at hs
    simp at hs
    exact hs.2.symm
  have h1 : 1 ≤ nameLen l := spanLen_pos (by rw [hc]; rfl) rfl
  have hnl : ∀ k, nameLen l ≤ k → nameLen (l.take k) = nameLen l := by
    intro k hk
    show spanLen _ _ = spanLen _ _
    rw [span_take]
    have : spanLen nsB l ≤ k := hk
    omega
  by_cases h46 : hdN (l.drop (nameLen l)) = 46
  · have hq : ∀ k, nameLen l + 1 ≤ k → hdN ((l.take k).drop (nameLen l)) = 46 ∧ (l.take k).drop (nameLen l + 1) = (l.drop (nameLen l + 1)).take (k - (nameLen l + 1)) := by
      intro k hk
      refine ⟨?_, by rw [List.drop_take]⟩
      rw [List.drop_take, hdN_take (by omega)]
      exact h46
    have hn2 : ∀ (x : List UInt8) (k : Nat), nameLen x ≤ k → nameLen (x.take k) = nameLen x ∧ (x.take k).take (nameLen x) = x.take (nameLen x) := by
      intro x k hk
      refine ⟨?_, by rw [List.take_take, Nat.min_eq_left hk]⟩
      show spanLen _ _ = spanLen _ _
      rw [span_take]
      have : spanLen nsB x ≤ k := hk
      omega
    by_cases hc2 : clsHd (l.drop (nameLen l + 1)) = 2
    · have hpos : 1 ≤ nameLen (l.drop (nameLen l + 1)) := spanLen_pos (by rw [hc2]; rfl) rfl
      have e : upperL l = (nameLen l + 1 + nameLen (l.drop (nameLen l + 1)), 4) := by unfold upperL; rw [if_pos h46, if_pos hc2]
      rw [e] at hn
      simp at hn
      obtain ⟨a1, a2⟩ := hq (n + q') (by omega)
      rw [e]
      unfold upperL
      rw [hnl _ (by omega), a1, a2, if_pos rfl, clsHd_take (by omega), if_pos hc2, (hn2 _ _ (by omega)).1]
    · by_cases hc1 : clsHd (l.drop (nameLen l + 1)) = 1 ∧ isRes ((l.drop (nameLen l + 1)).take (nameLen (l.drop (nameLen l + 1)))) = false
      · have hpos : 1 ≤ nameLen (l.drop (nameLen l + 1)) := spanLen_pos (by rw [hc1.1]; rfl) rfl
        have e : upperL l = (nameLen l + 1 + nameLen (l.drop (nameLen l + 1)), 3) := by unfold upperL; rw [if_pos h46, if_neg hc2, if_pos hc1]
        rw [e] at hn
        simp at hn
        obtain ⟨a1, a2⟩ := hq (n + q') (by omega)
        obtain ⟨b1, b2⟩ := hn2 (l.drop (nameLen l + 1)) (n + q' - (nameLen l + 1)) (by omega)
        rw [e]
        unfold upperL
        rw [hnl _ (by omega), a1, a2, if_pos rfl, clsHd_take (by omega), if_neg hc2, b1, b2, if_pos hc1]
      · have e : upperL l = (nameLen l, 2) := by unfold upperL; rw [if_pos h46, if_neg hc2, if_neg hc1]
        rw [e] at hn
        simp at hn
        subst hn
        rw [e]
        unfold upperL
        rw [hnl _ (by omega)]
        by_cases hz : q' = 0
        · subst hz
          rw [List.drop_take, show nameLen l + 0 - nameLen l = 0 by omega, List.take_zero, if_neg (by decide)]
        · obtain ⟨a1, a2⟩ := hq (nameLen l + q') (by omega)
          rw [a1, a2, if_pos rfl]
          by_cases hz1 : q' = 1
          · subst hz1
            rw [show nameLen l + 1 - (nameLen l + 1) = 0 by omega, List.take_zero, if_neg (by decide), if_neg (by simp [clsHd])]
          · rw [clsHd_take (by omega), if_neg hc2]
            by_cases hx1 : clsHd (l.drop (nameLen l + 1)) = 1
            · obtain ⟨o1, n1, q1, hs1, hb1, e1⟩ := hb'.inv hz
              have hd : l.drop (nameLen l) = 46 :: l.drop (nameLen l + 1) := by
                cases hl : l.drop (nameLen l) with
                | nil => rw [hl] at h46; exact absurd h46 (by decide)
                | cons y ys =>
                  rw [hl] at h46
                  have e46 : y = 46 := UInt8.toNat_inj.1 h46
                  rw [← List.drop_drop (i := 1), hl, e46]
                  rfl
              rw [hd] at hs1 hb1
              have hn1 := step_point hx1 hs1
              subst hn1
              obtain ⟨o2, n2, q2, hs2, hb2, e2⟩ := hb1.inv (by omega)
              have hn3 : n2 = nameLen (l.drop (nameLen l + 1)) := step_lower hx1 hs2
              obtain ⟨b1, b2⟩ := hn2 (l.drop (nameLen l + 1)) (nameLen l + q' - (nameLen l + 1)) (by omega)
              rw [b1, b2, if_neg hc1]
            · rw [if_neg (fun h => hx1 h.1)]
  · have e : upperL l = (nameLen l, 2) := by unfold upperL; rw [if_neg h46]
    rw [e] at hn
    simp at hn
    subst hn
    rw [e]
    unfold upperL
    rw [hnl _ (by omega), if_neg]
    intro h
    apply h46
    by_cases hz : q' = 0
    · subst hz
      rw [List.drop_take, show nameLen l + 0 - nameLen l = 0 by omega, List.take_zero] at h
      exact absurd h (by decide)
    · rw [List.drop_take, hdN_take (by omega)] at h
      exact h

theorem lexL_ahead : ∀ (m : Nat) (l : List UInt8) (k c e p : Nat), l.length ≤ m → lexL k l c = .error (e, p) → k ≤ p ∧ p < k + l.length ∧ Bnd l (p - k) ∧ ∃ ts, lexL k (l.take (p - k)) c = .ok ts := by
  intro m
  induction m with
  | zero =>
    intro l k c e p hm h
    cases l with
    | nil => rw [lexL_nil] at h; cases h
    | cons x r => simp at hm
  | succ m ih =>
    intro l k c e p hm h
    cases l with
    | nil => rw [lexL_nil] at h; cases h
    | cons x r =>
      have hr : ∀ n, (r.drop n).length ≤ m := by intro n; simp at hm ⊢; omega
      have here : ∀ e', (e', k) = (e, p) → k ≤ p ∧ p < k + (x :: r).length ∧ Bnd (x :: r) (p - k) ∧ ∃ ts, lexL k ((x :: r).take (p - k)) c = .ok ts := by
        intro e' he
        simp at he
        obtain ⟨_, rfl⟩ := he
        refine ⟨Nat.le_refl _, by simp, ?_, [], ?_⟩
        · rw [Nat.sub_self]; exact .zero _
        · rw [Nat.sub_self, List.take_zero, lexL_nil]
      rw [lexL_cons] at h
      cases hs : stepL (x :: r) with
      | error e' => rw [hs] at h; exact here e' (by simpa using h)
      | ok y =>
        obtain ⟨o, n⟩ := y
        have hn := stepK_len (by simp) hs
        have hdrop : (x :: r).drop n = r.drop (n - 1) := by
          cases n with
          | zero => omega
          | succ n => rfl
        have hlen : (r.drop (n - 1)).length + n = (x :: r).length := by simp at hn ⊢; omega
        rw [hs] at h
        have fin : ∀ c', (k + n ≤ p ∧ p < k + n + (r.drop (n - 1)).length ∧ Bnd (r.drop (n - 1)) (p - (k + n)) ∧ ∃ ts, lexL (k + n) ((r.drop (n - 1)).take (p - (k + n))) c' = .ok ts) →
            k ≤ p ∧ p < k + (x :: r).length ∧ Bnd (x :: r) (p - k) ∧ stepL ((x :: r).take (p - k)) = .ok (o, n) ∧ ((x :: r).take (p - k)).drop n = (r.drop (n - 1)).take (p - (k + n)) := by
          intro c' ⟨a1, a2, a3, _⟩
          have hb : Bnd (x :: r) (p - k) := by
            have := Bnd.step hs (by rw [hdrop]; exact a3)
            rwa [show n + (p - (k + n)) = p - k by omega] at this
          refine ⟨by omega, by omega, hb, ?_, ?_⟩
          · exact stepL_take hs hn.1 (by omega) (upper_bnd hb (by omega))
          · rw [List.drop_take, hdrop]
            congr 1
            omega
        have htk : 1 ≤ p - k → (x :: r).take (p - k) = x :: r.take (p - k - 1) := by
          intro hp
          obtain ⟨j, hj⟩ : ∃ j, p - k = j + 1 := ⟨p - k - 1, by omega⟩
          rw [hj]
          rfl
        cases o with
        | none =>
          simp only [] at h
          have IH := ih _ (k + n) c e p (hr _) h
          obtain ⟨b1, b2, b3, b4, b5⟩ := fin c IH
          obtain ⟨a1, _, _, ts, hts⟩ := IH
          refine ⟨b1, b2, b3, ts, ?_⟩
          rw [htk (by omega)] at b4 b5 ⊢
          rw [lexL_cons, b4]
          simp only []
          have e5 : (r.take (p - k - 1)).drop (n - 1) = (x :: r.take (p - k - 1)).drop n := by
            cases n with
            | zero => omega
            | succ n => rfl
          rw [e5, b5]
          exact hts
        | some t0 =>
          obtain ⟨kd, tx, nm⟩ := t0
          simp only [] at h
          split at h
          · exact here 4 (by simpa using h)
          · rename_i hc0
            cases hl : lexL (k + n) (r.drop (n - 1)) (c + 1) with
            | ok ts => rw [hl] at h; cases h
            | error z =>
              obtain ⟨e2, p2⟩ := z
              rw [hl] at h
              simp [Except.map] at h
              obtain ⟨rfl, rfl⟩ := h
              have IH := ih _ (k + n) (c + 1) e2 p2 (hr _) hl
              obtain ⟨b1, b2, b3, b4, b5⟩ := fin (c + 1) IH
              obtain ⟨a1, _, _, ts, hts⟩ := IH
              refine ⟨b1, b2, b3, (kd, tx, nm, k) :: ts, ?_⟩
              rw [htk (by omega)] at b4 b5 ⊢
              rw [lexL_cons, b4]
              simp only []
              have e5 : (r.take (p2 - k - 1)).drop (n - 1) = (x :: r.take (p2 - k - 1)).drop n := by
                cases n with
                | zero => omega
                | succ n => rfl
              rw [if_neg hc0, e5, b5, hts]
              rfl

/-- A token stands in a text, from a place on, as it is told. -/
def StandT (k : Nat) (l : List UInt8) (t : Tk) : Prop :=
  k ≤ t.2.2.2 ∧ t.2.2.2 < k + l.length ∧ (t.1 ≠ 6 → t.1 ≠ 7 → t.1 ≠ 8 → t.2.1 ≠ [] ∧ t.2.2.2 - k + t.2.1.length ≤ l.length ∧ (l.drop (t.2.2.2 - k)).take t.2.1.length = t.2.1)
theorem lexL_stand : ∀ (m : Nat) (l : List UInt8) (k c : Nat) (ts : List Tk), l.length ≤ m → lexL k l c = .ok ts → (∀ t ∈ ts, StandT k l t) ∧ ts.Pairwise (fun a b => a.2.2.2 < b.2.2.2) := by
  intro m
  induction m with
  | zero =>
    intro l k c ts hm h
    cases l with
    | nil => rw [lexL_nil] at h; cases h; exact ⟨fun _ h => (by cases h), .nil⟩
    | cons x r => simp at hm
  | succ m ih =>
    intro l k c ts hm h
    cases l with
    | nil => rw [lexL_nil] at h; cases h; exact ⟨fun _ h => (by cases h), .nil⟩
    | cons x r =>
      have hr : ∀ n, (r.drop n).length ≤ m := by intro n; simp at hm ⊢; omega
      rw [lexL_cons] at h
      cases hs : stepL (x :: r) with
      | error e => rw [hs] at h; cases h
      | ok y =>
        obtain ⟨o, n⟩ := y
        have hn := stepK_len (by simp) hs
        have hdrop : (x :: r).drop n = r.drop (n - 1) := by
          cases n with
          | zero => omega
          | succ n => rfl
        have hlen : (r.drop (n - 1)).length + n = (x :: r).length := by simp at hn ⊢; omega
        have lift : ∀ t : Tk, StandT (k + n) (r.drop (n - 1)) t → StandT k (x :: r) t := by
          intro t ⟨a1, a2, a3⟩
          refine ⟨by omega, by omega, fun q6 q7 q8 => ?_⟩
          obtain ⟨b1, b2, b3⟩ := a3 q6 q7 q8
          refine ⟨b1, by omega, ?_⟩
          rw [← hdrop, List.drop_drop, show n + (t.2.2.2 - (k + n)) = t.2.2.2 - k by omega] at b3
          exact b3
        rw [hs] at h
        cases o with
        | none =>
          simp only [] at h
          obtain ⟨i1, i2⟩ := ih _ (k + n) c ts (hr _) h
          exact ⟨fun t ht => lift t (i1 t ht), i2⟩
        | some t0 =>
          obtain ⟨kd, tx, nm⟩ := t0
          simp only [] at h
          split at h
          · cases h
          · cases hl : lexL (k + n) (r.drop (n - 1)) (c + 1) with
            | error e => rw [hl] at h; cases h
            | ok ts' =>
              rw [hl] at h
              simp [Except.map] at h
              subst h
              obtain ⟨i1, i2⟩ := ih _ (k + n) (c + 1) ts' (hr _) hl
              have htok : tokL (x :: r) = .ok (kd, tx, nm, n) := by
                unfold stepL at hs
                split at hs
                · cases hs
                split at hs
                · split at hs <;> cases hs
                split at hs
                · cases hs
                split at hs
                · cases hs
                · rename_i ht; simp at hs; rw [ht]; simp [hs]
              refine ⟨?_, ?_⟩
              · intro t ht
                rcases List.mem_cons.1 ht with rfl | ht
                · refine ⟨Nat.le_refl _, by show k < _; omega, fun q6 q7 q8 => ?_⟩
                  have e := tok_text htok q6 q7 q8
                  have el : tx.length = n := by rw [e, List.length_take]; omega
                  refine ⟨?_, ?_, ?_⟩
                  · show tx ≠ []
                    intro h0
                    rw [h0] at el
                    simp at el
                    omega
                  · show k - k + tx.length ≤ _
                    omega
                  · show ((x :: r).drop (k - k)).take tx.length = tx
                    rw [Nat.sub_self, List.drop_zero, el, ← e]
                · exact lift t (i1 t ht)
              · refine List.pairwise_cons.2 ⟨fun t ht => ?_, i2⟩
                have := (i1 t ht).1
                show k < t.2.2.2
                omega
end Go.Proofs.YtkfhdmkdkphmoabDoor
