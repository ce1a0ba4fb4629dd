/- The paths of a tree that Compile makes are short. -/
import Derived.Test.YtpdmkhnonbbhnaaVo
import Derived.Test.YtpdmkhnonbbhnaaWb
namespace Go.Proofs.Ytpdmkhnonbbhnaa
open Go.RowKit

theorem Short.zero : ∀ f, Short f (trZero f)
  | 0 => trivial
  | _ + 1 => ⟨by simp [trZero], fun c h => by simp [trZero] at h, fun c h => by simp [trZero] at h⟩
theorem treeP_short {k : Kn} {fs : List Fam} (hk : KnOk k fs) : ∀ (f n : Nat) (cols : List Col) (rows : List Nat) (m : Nat), (∀ c ∈ cols, Good k m c) → m + f < 140737488355328 → Short f (treeP k fs f n cols rows).1
  | 0, _, _, _, _, _, _ => trivial
  | f + 1, n, cols, rows, m, hg, hm => by
    by_cases hn : 5000 ≤ n
    · rw [treeP_big _ _ _ _ _ _ hn]; exact Short.zero _
    · cases rows with
      | nil => rw [treeP_none _ _ _ _ _ (by omega)]; exact ⟨by simp, fun c h => by simp at h, fun c h => by simp at h⟩
      | cons r rows =>
        cases hi : cols.findIdx? (hasRow r) with
        | none => rw [treeP_row _ _ _ _ _ _ _ (by omega) hi]; exact ⟨by simp, fun c h => by simp at h, fun c h => by simp at h⟩
        | some ax =>
          have ha : ax < cols.length := (List.findIdx?_eq_some_iff_getElem.1 hi).1
          rw [treeP_branch _ _ _ _ _ _ _ _ ha (by omega) hi]
          have hgc := hg _ (List.getElem_mem ha)
          have hkid : ∀ x ∈ casesOf k (ofRows cols[ax].2.2 (r :: rows)), ∀ q, Short f (stepP k fs f cols (r :: rows) ax (ofRows cols[ax].2.2 (r :: rows)) (cols[ax].1 ++ [cols[ax].2.1]) x q).1 := fun x hx q => by
            refine treeP_short hk f q _ _ (m + 1) (fun c hc => ?_) (by omega)
            rcases List.mem_append.1 hc with hc | hc
            · rcases List.mem_append.1 hc with hc | hc
              · exact (hg c (List.mem_of_mem_take hc)).up (by omega)
              · exact hgc.within hk (r :: rows) hx hc
            · exact (hg c (List.mem_of_mem_drop hc)).up (by omega)
          have hels : ∀ q, Short f (treeP k fs f q (cols.take ax ++ cols.drop (ax + 1)) (without (r :: rows) (ofRows cols[ax].2.2 (r :: rows)))).1 := fun q => by
            refine treeP_short hk f q _ _ m (fun c hc => ?_) (by omega)
            rcases List.mem_append.1 hc with hc | hc
            · exact hg c (List.mem_of_mem_take hc)
            · exact hg c (List.mem_of_mem_drop hc)
          have hpl : (cols[ax].1 ++ [cols[ax].2.1]).length < 140737488355328 := by
            have := hgc.path
            rw [List.length_append]
            simp
            omega
          unfold branchP
          simp only
          generalize ofRows cols[ax].2.2 (r :: rows) = spots at *
          generalize stepP k fs f cols (r :: rows) ax spots (cols[ax].1 ++ [cols[ax].2.1]) = step at *
          have h1 : ∀ c ∈ (casesOf k spots).zip (eachP step (casesOf k spots) (n + 1)).1, Short f c.2 := fun c hc => by
            obtain ⟨q1, q, q2⟩ := eachP_zip _ _ c.1 c.2 hc
            rw [q2]
            exact hkid _ q1 q
          split
          · exact ⟨hpl, h1, fun e he => by simp at he⟩
          · exact ⟨hpl, h1, fun e he => by rw [List.mem_singleton.1 he]; exact hels _⟩
theorem long_len {rows : List (List Pt)} (h : longP rows = false) : rows.length ≤ 200 ∧ ∀ r ∈ rows, r.length ≤ 16 := by
  unfold longP at h
  rw [Bool.or_eq_false_iff] at h
  refine ⟨by have := of_decide_eq_false h.1; omega, fun r hr => ?_⟩
  have := List.any_eq_false.1 h.2 r hr
  have : ¬ 16 < r.length := by simpa using this
  omega
/-- What is known of an answer without an error. -/
theorem comp_ok {F : Nat} {fs : List Fam} {rows : List (List Pt)} {t : Tr F} {c : Cv F} (h : CompIs F fs rows 0 (some (t, c))) : longP rows = false ∧ ∃ k, knowF 0 [] fs = some k ∧ RightR k rows ∧ (treeQ F k fs rows).2 ≤ 5000 ∧ nestP F (treeQ F k fs rows).1 ≤ 1000 ∧ deepP rows = false ∧ t = (treeQ F k fs rows).1 ∧ c = coverQ F k fs F (treeQ F k fs rows).1 rows := by
  rcases h with ⟨_, h, _⟩ | ⟨h0, ⟨_, h, _⟩ | ⟨k, h1, ⟨_, h, _⟩ | ⟨h2, ⟨_, h, _⟩ | ⟨h3, ⟨_, h, _⟩ | ⟨⟨h4, h5⟩, _, h⟩⟩⟩⟩⟩
  · exact absurd h (by decide)
  · exact absurd h (by decide)
  · exact absurd h (by decide)
  · exact absurd h (by decide)
  · exact absurd h (by decide)
  · injection h with h
    injection h with e1 e2
    exact ⟨h0, k, h1, h2, h3, h4, h5, e1, e2⟩
theorem comp_fine {F : Nat} (hF : F ≤ 100000) {fs : List Fam} {rows : List (List Pt)} {t : Tr F} {c : Cv F} (h : CompIs F fs rows 0 (some (t, c))) : Sm F t ∧ Short F t ∧ c.2.1.length ≤ 200 ∧ c.2.2.length ≤ 16 := by
  obtain ⟨h0, k, h1, h2, _, _, _, rfl, rfl⟩ := comp_ok h
  obtain ⟨hl, hw⟩ := long_len h0
  have hgood : ∀ c ∈ colsOf [] (rows.headD []).length (linesR rows), Good k 0 c := fun c hc => cols_good hl hc (h2.2 c hc _) 0
  refine ⟨treeP_sm k fs F 0 _ _ fun c hc => (hgood c hc).len, treeP_short (knowF_ok h1) F 0 _ _ 0 hgood (by omega), ?_, ?_⟩
  · unfold coverQ
    refine Nat.le_trans (List.length_filter_le _ _) ?_
    rw [List.length_range]
    exact hl
  · unfold coverQ
    dsimp only
    split
    · simp
    · split
      · simp
      · unfold missQ
        rw [List.length_map, List.length_range]
        exact hw _ (List.mem_cons_self ..)
end Go.Proofs.Ytpdmkhnonbbhnaa
