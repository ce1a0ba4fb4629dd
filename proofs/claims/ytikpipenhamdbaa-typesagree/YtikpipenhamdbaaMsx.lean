/- TypesMost, plain. TypesAgree, plain. -/
import Derived.Test.YtikpipenhamdbaaHr
import Derived.Test.YtikpipenhamdbaaMrx
namespace Go.Proofs.Ytikpipenhamdbaa

theorem applyE_zero {bs : List Bd} {d : Nat} {t : Tn d} (h : applyE bs d t = 0) : bs.length ≤ 100000 ∧ valE bs bs.length = 0 ∧ wrongT d t = 0 := by
  unfold applyE at h
  by_cases h1 : 100000 < bs.length
  · rw [if_pos h1] at h
    cases h
  · rw [if_neg h1] at h
    by_cases h2 : valE bs bs.length = 0
    · rw [if_pos h2] at h
      by_cases h3 : wrongT d t = 0
      · exact ⟨by omega, h2, h3⟩
      · rw [if_neg h3] at h
        exact absurd h h3
    · rw [if_neg h2] at h
      exact absurd h h2
theorem applyF_zero {bs : List Bd} {d : Nat} {t : Tn d} (h : applyE bs d t = 0) : applyF bs d t = subF (bdRow bs) (flat d t) := by
  unfold applyF
  rw [if_pos h]
theorem bd_sok {bs : List Bd} (h : valE bs bs.length = 0) : sok (bdRow bs) := fun n r e => by
  unfold bdRow at e
  obtain ⟨u, h1, rfl⟩ := Option.map_eq_some_iff.1 e
  obtain ⟨x, hx, _, rfl⟩ := says_mem h1
  obtain ⟨_, hg⟩ := valE_good (Nat.le_refl _) h
  rw [List.take_length] at hg
  have hf := (wrong_zero (hg x hx).2).1
  exact ⟨eats_flat _ _, ((ok_flat _ _).1 hf).vok⟩
/-- The bounds cs make all pairs one. -/
def AllOk (ps : List Pr) (cs : List Bd) : Prop := ∀ (i : Nat) (h : i < ps.length), applyE cs ps[i].1.1 ps[i].1.2 = 0 ∧ applyE cs ps[i].2.1 ps[i].2.2 = 0 ∧ applyF cs ps[i].1.1 ps[i].1.2 = applyF cs ps[i].2.1 ps[i].2.2
theorem AllOk.one {ps : List Pr} {cs : List Bd} (h : AllOk ps cs) : ∀ p ∈ ps.map prow, subF (bdRow cs) p.1 = subF (bdRow cs) p.2 := fun p hp => by
  obtain ⟨q, hq, rfl⟩ := List.mem_map.1 hp
  obtain ⟨i, hi, rfl⟩ := List.getElem_of_mem hq
  obtain ⟨h1, h2, h3⟩ := h i hi
  rw [applyF_zero h1, applyF_zero h2] at h3
  exact h3
theorem AllOk.sok {ps : List Pr} {cs : List Bd} (h : AllOk ps cs) (h0 : 0 < ps.length) : sok (bdRow cs) := bd_sok (applyE_zero (h 0 h0).1).2.1
theorem AllOk.fine {ps : List Pr} {cs : List Bd} (h : AllOk ps cs) (i : Nat) (hi : i < ps.length) : wrongs [ps[i].1, ps[i].2] = 0 := by
  obtain ⟨h1, h2, _⟩ := h i hi
  have w1 := (applyE_zero h1).2.2
  have w2 := (applyE_zero h2).2.2
  unfold wrongs
  rw [if_pos w1]
  unfold wrongs
  rw [if_pos w2]
  rfl
theorem PsOk.pok {ps : List Pr} (h : PsOk ps) : ∀ p ∈ ps.map prow, pok p := fun p hp => by
  obtain ⟨q, hq, rfl⟩ := List.mem_map.1 hp
  obtain ⟨h1, h2⟩ := wrongs_two (h.2 q hq)
  exact ⟨⟨eats_flat _ _, ((ok_flat _ _).1 (wrong_zero h1).1).vok⟩, eats_flat _ _, ((ok_flat _ _).1 (wrong_zero h2).1).vok⟩
/-- What makes all pairs one leaves two errors. -/
theorem most_err {ps : List Pr} {cs : List Bd} (h : AllOk ps cs) {n c : Int} (he : UErr ps n c) : c = 2 ∨ c = 4 := by
  rcases he with ⟨_, _, rfl⟩ | ⟨_, i, hi, _, rfl, hc, _⟩ | ⟨hp, _, k, hP, _⟩ | ⟨_, _, rfl, _⟩
  · exact .inl rfl
  · exact absurd (h.fine i hi) hc
  · exfalso
    obtain ⟨_, _, h2, _, _, h5⟩ := Prs.wrong _ [] 0 Lok.nil hp.pok hP
    have hl : 0 < ps.length := by simp at h2; omega
    exact h5 _ (h.sok hl) (Knows.nil _) fun p hp' => h.one p (List.mem_of_mem_take hp')
  · exact .inr rfl
/-- What makes all pairs one comes of what Unify says. -/
theorem most_knows {ps : List Pr} {cs : List Bd} (h : AllOk ps cs) (h0 : 0 < ps.length) (hp : PsOk ps) {M : List (List UInt8 × List Nd)} (hP : Prs (ps.map prow) [] 0 (.inr M)) : Knows (bdRow cs) M :=
  (Prs.right _ [] 0 Lok.nil hp.pok hP).2.2.2 _ (h.sok h0) (Knows.nil _) h.one
/-- Unify's bounds say what was bound. -/
theorem unify_says {bs : List Bd} {M : List (List UInt8 × List Nd)} {ns : List (List UInt8)} (h1 : bs.map (·.1) = ns.filter (pL M)) (h2 : ∀ x ∈ bs, flat x.2.1 x.2.2 = subL M [(2, x.1, 0)]) (h3 : ∀ y ∈ M, y.1 ∈ ns) (n : List UInt8) : subF (bdRow bs) [(2, n, 0)] = subL M [(2, n, 0)] := by
  rw [subF_var]
  unfold bdRow
  cases hs : bdSays bs n with
  | some u =>
    obtain ⟨x, hx, hn, hu⟩ := says_mem hs
    have := h2 x hx
    rw [hn, hu] at this
    exact this
  | none =>
    have hn : n ∉ bs.map (·.1) := by
      intro hm
      obtain ⟨x, hx, rfl⟩ := List.mem_map.1 hm
      unfold bdSays at hs
      have := List.find?_eq_none.1 (Option.map_eq_none_iff.1 hs) x hx
      simp at this
    rw [h1] at hn
    show [(2, n, 0)] = _
    by_cases q : n ∈ ns
    · have hp : pL M n = false := by
        cases hp : pL M n with
        | false => rfl
        | true => exact absurd (List.mem_filter.2 ⟨q, hp⟩) hn
      unfold pL at hp
      have := of_decide_eq_false hp
      exact (Decidable.not_not.1 this).symm
    · exact (subL_stays fun b hb e => q (by rw [← e]; exact h3 b hb)).symm
end Go.Proofs.Ytikpipenhamdbaa

namespace Go.Proofs.Ytikpipenhamdbaa
open Go.RowKit

/-- Unify's bounds. -/
structure UOk (ps : List Pr) (bs : List Bd) (M : List (List UInt8 × List Nd)) (ns : List (List UInt8)) : Prop where
  fine : PsOk ps
  prs : Prs (ps.map prow) [] 0 (.inr M)
  nod : ns.Nodup
  names : bs.map (·.1) = ns.filter (pL M)
  says : ∀ x ∈ bs, flat x.2.1 x.2.2 = subL M [(2, x.1, 0)]
  low : ∀ y ∈ M, y.1 ∈ ns
  small : ∀ n ∈ ns, varB n = true ∧ (subL M [(2, n, 0)]).length ≤ 500
theorem PsOk.okr {ps : List Pr} (h : PsOk ps) : ∀ p ∈ ps.map prow, Okr p.1 ∧ Okr p.2 := fun p hp => by
  obtain ⟨q, hq, rfl⟩ := List.mem_map.1 hp
  obtain ⟨h1, h2⟩ := wrongs_two (h.2 q hq)
  exact ⟨(ok_flat _ _).1 (wrong_zero h1).1, (ok_flat _ _).1 (wrong_zero h2).1⟩
theorem wrong_fine {d : Nat} {t : Tn d} (h : formB d t = true) (h5 : (flat d t).length ≤ 500) : wrongT d t = 0 := by
  unfold wrongT
  rw [if_pos h, if_neg (by omega)]
theorem valE_of {bs : List Bd} (h1 : (bs.map (·.1)).Nodup) (h2 : ∀ x ∈ bs, varB x.1 = true ∧ wrongT x.2.1 x.2.2 = 0) : ∀ j, j ≤ bs.length → valE bs j = 0
  | 0, _ => rfl
  | j + 1, hj => by
    have hj' : j < bs.length := hj
    refine valE_next (valE_of h1 h2 j (by omega)) ?_
    obtain ⟨q1, q2⟩ := h2 bs[j] (List.getElem_mem hj')
    have hn : bs[j].1 ∉ (bs.take j).map (·.1) := fun hm => by
      have e : bs = bs.take j ++ bs[j] :: bs.drop (j + 1) := by
        rw [← List.drop_eq_getElem_cons hj', List.take_append_drop]
      rw [e, List.map_append, List.map_cons, List.nodup_append] at h1
      exact h1.2.2 _ hm _ List.mem_cons_self rfl
    rw [badAt_of hj', if_pos ⟨q1, hn⟩]
    exact q2
section
variable {ps : List Pr} {bs : List Bd} {M : List (List UInt8 × List Nd)} {ns : List (List UInt8)}
theorem UOk.okl (h : UOk ps bs M ns) : Okl M := Prs.ok _ [] 0 Okl.nil h.fine.okr h.prs
theorem UOk.lok (h : UOk ps bs M ns) : Lok M := (Prs.right _ [] 0 Lok.nil h.fine.pok h.prs).1
theorem UOk.val (h : UOk ps bs M ns) : valE bs bs.length = 0 := by
  refine valE_of (by rw [h.names]; exact h.nod.filter _) (fun x hx => ?_) _ (Nat.le_refl _)
  have hm : x.1 ∈ ns := by
    have : x.1 ∈ bs.map (·.1) := List.mem_map.2 ⟨x, hx, rfl⟩
    rw [h.names] at this
    exact (List.mem_filter.1 this).1
  obtain ⟨s1, s2⟩ := h.small _ hm
  refine ⟨s1, wrong_fine ((ok_flat _ _).2 ?_) ?_⟩
  · rw [h.says x hx]
    exact h.okl.subL _ (Okr.cons.2 ⟨ok_two s1, Okr.nil⟩)
  · rw [h.says x hx]
    exact s2
theorem UOk.sub (h : UOk ps bs M ns) : ∀ r : List Nd, vok r → subF (bdRow bs) r = subL M r := says_all (unify_says h.names h.says h.low)
/-- What Apply answers with what Unify answered. -/
theorem UOk.apply (h : UOk ps bs M ns) {d : Nat} {t : Tn d} (hf : formB d t = true) (h5 : (flat d t).length ≤ 500) : applyE bs d t = (if 100000 < bs.length then 2 else if (subL M (flat d t)).length ≤ 500 then 0 else 4) ∧ applyF bs d t = (if applyE bs d t = 0 then subL M (flat d t) else [(0, [], 0)]) := by
  have hs := h.sub _ ((ok_flat _ _).1 hf).vok
  refine ⟨?_, by unfold applyF; rw [hs]⟩
  unfold applyE
  rw [if_pos h.val, if_pos (wrong_fine hf h5), hs]
theorem UOk.pair (h : UOk ps bs M ns) (i : Nat) (hi : i < ps.length) : applyE bs ps[i].1.1 ps[i].1.2 = applyE bs ps[i].2.1 ps[i].2.2 ∧ applyF bs ps[i].1.1 ps[i].1.2 = applyF bs ps[i].2.1 ps[i].2.2 ∧ (applyE bs ps[i].1.1 ps[i].1.2 = 0 ∨ applyE bs ps[i].1.1 ps[i].1.2 = 4 ∨ (applyE bs ps[i].1.1 ps[i].1.2 = 2 ∧ 100000 < bs.length)) ∧ ∀ (D : Nat) (tt : Tn D), flat D tt = applyF bs ps[i].1.1 ps[i].1.2 → applyE bs ps[i].1.1 ps[i].1.2 = 0 → applyE bs D tt = 0 ∧ applyF bs D tt = flat D tt := by
  have hp := List.getElem_mem hi
  obtain ⟨w1, w2⟩ := wrongs_two (h.fine.2 ps[i] hp)
  obtain ⟨f1, l1⟩ := wrong_zero w1
  obtain ⟨f2, l2⟩ := wrong_zero w2
  obtain ⟨a1, a2⟩ := h.apply f1 l1
  obtain ⟨b1, b2⟩ := h.apply f2 l2
  have hone : subL M (flat ps[i].1.1 ps[i].1.2) = subL M (flat ps[i].2.1 ps[i].2.2) := (Prs.right _ [] 0 Lok.nil h.fine.pok h.prs).2.2.1 (prow ps[i]) (List.mem_map.2 ⟨_, hp, rfl⟩)
  have e1 : applyE bs ps[i].1.1 ps[i].1.2 = applyE bs ps[i].2.1 ps[i].2.2 := by rw [a1, b1, hone]
  refine ⟨e1, by rw [a2, b2, ← e1, hone], ?_, fun D tt hf h0 => ?_⟩
  · rw [a1]
    by_cases q : 100000 < bs.length
    · rw [if_pos q]
      exact .inr (.inr ⟨rfl, q⟩)
    · rw [if_neg q]
      by_cases q2 : (subL M (flat ps[i].1.1 ps[i].1.2)).length ≤ 500
      · rw [if_pos q2]
        exact .inl rfl
      · rw [if_neg q2]
        exact .inr (.inl rfl)
  · rw [a2, if_pos h0] at hf
    have hq : ¬ 100000 < bs.length := fun q => by
      rw [a1, if_pos q] at h0
      cases h0
    have h5 : (subL M (flat ps[i].1.1 ps[i].1.2)).length ≤ 500 := by
      rcases Nat.lt_or_ge 500 (subL M (flat ps[i].1.1 ps[i].1.2)).length with q | q
      · rw [a1, if_neg hq, if_neg (by omega)] at h0
        cases h0
      · exact q
    have vA : vok (flat ps[i].1.1 ps[i].1.2) := ((ok_flat _ _).1 f1).vok
    have hff : formB D tt = true := (ok_flat _ _).2 (by rw [hf]; exact h.okl.subL _ ((ok_flat _ _).1 f1))
    obtain ⟨c1, c2⟩ := h.apply hff (by rw [hf]; exact h5)
    have htw : subL M (flat D tt) = flat D tt := by rw [hf]; exact h.lok.twice vA
    rw [htw] at c1 c2
    have c0 : applyE bs D tt = 0 := by rw [c1, if_neg hq, if_pos (by rw [hf]; exact h5)]
    exact ⟨c0, by rw [c2, if_pos c0]⟩
end
theorem wrongs_val (u v : Sigma Tn) : wrongs [u, v] = 0 ∨ wrongs [u, v] = 4 ∨ wrongs [u, v] = 53 := by
  have key : ∀ x : Sigma Tn, wrongT x.1 x.2 = 0 ∨ wrongT x.1 x.2 = 4 ∨ wrongT x.1 x.2 = 53 := fun x => by
    unfold wrongT
    split
    · split
      · exact .inr (.inl rfl)
      · exact .inl rfl
    · exact .inr (.inr rfl)
  unfold wrongs
  split
  · unfold wrongs
    split
    · exact .inl rfl
    · exact key v
  · exact key u
/-- An error of two: with which pair, and why. -/
theorem agree_err {ps : List Pr} {n c : Int} (he : UErr ps n c) (hc : c = 50 ∨ c = 51) : ∃ k : Nat, n = k ∧ k < ps.length ∧ PsOk ps ∧ Prs (ps.map prow) [] 0 (.inl (k, c)) := by
  rcases he with ⟨_, _, rfl⟩ | ⟨_, i, hi, _, rfl, _, _⟩ | ⟨hp, _, k, hP, rfl⟩ | ⟨_, _, rfl, _⟩
  · omega
  · have := wrongs_val ps[i].1 ps[i].2
    omega
  · obtain ⟨_, _, h2, _⟩ := Prs.wrong _ [] 0 Lok.nil hp.pok hP
    exact ⟨k, rfl, by simpa using h2, hp, hP⟩
  · omega
theorem PsOk.take {ps : List Pr} (h : PsOk ps) (k : Nat) : PsOk (ps.take k) := ⟨by rw [List.length_take]; have := h.1; omega, fun p hp => h.2 p (List.mem_of_mem_take hp)⟩
/-- The pairs ahead agree. -/
theorem agree_before {ps : List Pr} {k : Nat} {c : Int} (hp : PsOk ps) (hP : Prs (ps.map prow) [] 0 (.inl (k, c))) {n' c' : Int} (he : UErr (ps.take k) n' c') : c' = 4 := by
  obtain ⟨_, _, _, ⟨M, hM⟩, _⟩ := Prs.wrong _ [] 0 Lok.nil hp.pok hP
  rw [Nat.sub_zero, ← List.map_take] at hM
  have ht := hp.take k
  rcases he with ⟨h1, _⟩ | ⟨_, i, hi, _, rfl, hc, _⟩ | ⟨_, _, k', hP', _⟩ | ⟨_, _, rfl, _⟩
  · have := ht.1
    omega
  · exact absurd (ht.2 _ (List.getElem_mem hi)) hc
  · cases Prs.one _ [] 0 hM hP'
  · rfl
/-- And with that one they do not. -/
theorem agree_at {ps : List Pr} {k : Nat} {c : Int} (hp : PsOk ps) (hP : Prs (ps.map prow) [] 0 (.inl (k, c))) {n' c' : Int} (he : UErr (ps.take (k + 1)) n' c') : c' = c ∧ n' = k := by
  obtain ⟨_, _, _, _, hM, _⟩ := Prs.wrong _ [] 0 Lok.nil hp.pok hP
  rw [Nat.sub_zero, ← List.map_take] at hM
  have ht := hp.take (k + 1)
  rcases he with ⟨h1, _⟩ | ⟨_, i, hi, _, rfl, hc, _⟩ | ⟨_, _, k', hP', rfl⟩ | ⟨_, _, _, M, hM', _⟩
  · have := ht.1
    omega
  · exact absurd (ht.2 _ (List.getElem_mem hi)) hc
  · have := Prs.one _ [] 0 hM hP'
    injection this with this
    injection this with e1 e2
    exact ⟨e2.symm, by rw [e1]⟩
  · cases Prs.one _ [] 0 hM hM'
theorem agree_not {ps : List Pr} {k : Nat} {c : Int} (hp : PsOk ps) (hP : Prs (ps.map prow) [] 0 (.inl (k, c))) {M : List (List UInt8 × List Nd)} (hM : Prs ((ps.take (k + 1)).map prow) [] 0 (.inr M)) : False := by
  obtain ⟨_, _, _, _, hM', _⟩ := Prs.wrong _ [] 0 Lok.nil hp.pok hP
  rw [Nat.sub_zero, ← List.map_take] at hM'
  cases Prs.one _ [] 0 hM hM'
theorem PrAt.take {w : World} {B : Nat} {ad : Option Addr} {cap : Nat} {ps : List Pr} (h : PrAt w B (.slice ad ps.length cap) ps) (m : Nat) (hm : m ≤ ps.length) : PrAt w B (.slice ad m cap) (ps.take m) := by
  obtain ⟨ad', cap', hv, hl, h⟩ := h
  simp only [Value.slice.injEq, true_and] at hv
  obtain ⟨rfl, rfl⟩ := hv
  have hlen : (ps.take m).length = m := by rw [List.length_take]; omega
  refine ⟨ad, cap, by rw [hlen], by omega, fun h0 => ?_⟩
  obtain ⟨g, o, had, hc, hg, h⟩ := h (fun e => h0 (by rw [e]; simp))
  refine ⟨g, o, had, by omega, hg, fun j hj => ?_⟩
  obtain ⟨k, n, ad1, l1, c1, k', n', ad2, l2, c2, hcel, hA, hB2⟩ := h j (by omega)
  rw [List.getElem_take]
  exact ⟨k, n, ad1, l1, c1, k', n', ad2, l2, c2, hcel, hA, hB2⟩
end Go.Proofs.Ytikpipenhamdbaa
