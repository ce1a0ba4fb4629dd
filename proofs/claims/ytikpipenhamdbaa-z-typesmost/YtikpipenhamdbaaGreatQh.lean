/- TypesMost, plain. -/
import Derived.Test.YtikpipenhamdbaaGreatHr
import Derived.Test.YtikpipenhamdbaaGreatMrx
namespace Go.Proofs.YtikpipenhamdbaaGreat

theorem applyE_zero {bs : List Bd} {d : Nat} {t : Tn d} (h : applyE bs d t = 0) : bs.length ≤ 100000 ∧ valE bs bs.length = 0 ∧ wrongT d t = 0 := by
  unfold applyE at h
  by_cases h1 : 100000 < bs.length
  · rw [if_pos h1] at h
    cases h
  · rw [if_neg h1] at h
    by_cases h2 : valE bs bs.length = 0
    · rw [if_pos h2] at h
      by_cases h3 : wrongT d t = 0
      · exact ⟨by omega, h2, h3⟩
      · rw [if_neg h3] at h
        exact absurd h h3
    · rw [if_neg h2] at h
      exact absurd h h2
theorem applyF_zero {bs : List Bd} {d : Nat} {t : Tn d} (h : applyE bs d t = 0) : applyF bs d t = subF (bdRow bs) (flat d t) := by
  unfold applyF
  rw [if_pos h]
theorem bd_sok {bs : List Bd} (h : valE bs bs.length = 0) : sok (bdRow bs) := fun n r e => by
  unfold bdRow at e
  obtain ⟨u, h1, rfl⟩ := Option.map_eq_some_iff.1 e
  obtain ⟨x, hx, _, rfl⟩ := says_mem h1
  obtain ⟨_, hg⟩ := valE_good (Nat.le_refl _) h
  rw [List.take_length] at hg
  have hf := (wrong_zero (hg x hx).2).1
  exact ⟨eats_flat _ _, ((ok_flat _ _).1 hf).vok⟩
/-- The bounds cs make all pairs one. -/
def AllOk (ps : List Pr) (cs : List Bd) : Prop := ∀ (i : Nat) (h : i < ps.length), applyE cs ps[i].1.1 ps[i].1.2 = 0 ∧ applyE cs ps[i].2.1 ps[i].2.2 = 0 ∧ applyF cs ps[i].1.1 ps[i].1.2 = applyF cs ps[i].2.1 ps[i].2.2
theorem AllOk.one {ps : List Pr} {cs : List Bd} (h : AllOk ps cs) : ∀ p ∈ ps.map prow, subF (bdRow cs) p.1 = subF (bdRow cs) p.2 := fun p hp => by
  obtain ⟨q, hq, rfl⟩ := List.mem_map.1 hp
  obtain ⟨i, hi, rfl⟩ := List.getElem_of_mem hq
  obtain ⟨h1, h2, h3⟩ := h i hi
  rw [applyF_zero h1, applyF_zero h2] at h3
  exact h3
theorem AllOk.sok {ps : List Pr} {cs : List Bd} (h : AllOk ps cs) (h0 : 0 < ps.length) : sok (bdRow cs) := bd_sok (applyE_zero (h 0 h0).1).2.1
theorem AllOk.fine {ps : List Pr} {cs : List Bd} (h : AllOk ps cs) (i : Nat) (hi : i < ps.length) : wrongs [ps[i].1, ps[i].2] = 0 := by
  obtain ⟨h1, h2, _⟩ := h i hi
  have w1 := (applyE_zero h1).2.2
  have w2 := (applyE_zero h2).2.2
  unfold wrongs
  rw [if_pos w1]
  unfold wrongs
  rw [if_pos w2]
  rfl
theorem PsOk.pok {ps : List Pr} (h : PsOk ps) : ∀ p ∈ ps.map prow, pok p := fun p hp => by
  obtain ⟨q, hq, rfl⟩ := List.mem_map.1 hp
  obtain ⟨h1, h2⟩ := wrongs_two (h.2 q hq)
  exact ⟨⟨eats_flat _ _, ((ok_flat _ _).1 (wrong_zero h1).1).vok⟩, eats_flat _ _, ((ok_flat _ _).1 (wrong_zero h2).1).vok⟩
/-- What makes all pairs one leaves two errors. -/
theorem most_err {ps : List Pr} {cs : List Bd} (h : AllOk ps cs) {n c : Int} (he : UErr ps n c) : c = 2 ∨ c = 4 := by
  rcases he with ⟨_, _, rfl⟩ | ⟨_, i, hi, _, rfl, hc, _⟩ | ⟨hp, _, k, hP, _⟩ | ⟨_, _, rfl, _⟩
  · exact .inl rfl
  · exact absurd (h.fine i hi) hc
  · exfalso
    obtain ⟨_, _, h2, _, _, h5⟩ := Prs.wrong _ [] 0 Lok.nil hp.pok hP
    have hl : 0 < ps.length := by simp at h2; omega
    exact h5 _ (h.sok hl) (Knows.nil _) fun p hp' => h.one p (List.mem_of_mem_take hp')
  · exact .inr rfl
/-- What makes all pairs one comes of what Unify says. -/
theorem most_knows {ps : List Pr} {cs : List Bd} (h : AllOk ps cs) (h0 : 0 < ps.length) (hp : PsOk ps) {M : List (List UInt8 × List Nd)} (hP : Prs (ps.map prow) [] 0 (.inr M)) : Knows (bdRow cs) M :=
  (Prs.right _ [] 0 Lok.nil hp.pok hP).2.2.2 _ (h.sok h0) (Knows.nil _) h.one
/-- Unify's bounds say what was bound. -/
theorem unify_says {bs : List Bd} {M : List (List UInt8 × List Nd)} {ns : List (List UInt8)} (h1 : bs.map (·.1) = ns.filter (pL M)) (h2 : ∀ x ∈ bs, flat x.2.1 x.2.2 = subL M [(2, x.1, 0)]) (h3 : ∀ y ∈ M, y.1 ∈ ns) (n : List UInt8) : subF (bdRow bs) [(2, n, 0)] = subL M [(2, n, 0)] := by
  rw [subF_var]
  unfold bdRow
  cases hs : bdSays bs n with
  | some u =>
    obtain ⟨x, hx, hn, hu⟩ := says_mem hs
    have := h2 x hx
    rw [hn, hu] at this
    exact this
  | none =>
    have hn : n ∉ bs.map (·.1) := by
      intro hm
      obtain ⟨x, hx, rfl⟩ := List.mem_map.1 hm
      unfold bdSays at hs
      have := List.find?_eq_none.1 (Option.map_eq_none_iff.1 hs) x hx
      simp at this
    rw [h1] at hn
    show [(2, n, 0)] = _
    by_cases q : n ∈ ns
    · have hp : pL M n = false := by
        cases hp : pL M n with
        | false => rfl
        | true => exact absurd (List.mem_filter.2 ⟨q, hp⟩) hn
      unfold pL at hp
      have := of_decide_eq_false hp
      exact (Decidable.not_not.1 this).symm
    · exact (subL_stays fun b hb e => q (by rw [← e]; exact h3 b hb)).symm
end Go.Proofs.YtikpipenhamdbaaGreat
