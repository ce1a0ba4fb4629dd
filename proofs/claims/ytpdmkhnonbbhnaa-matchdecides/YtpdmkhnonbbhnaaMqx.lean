/- A tree decides as the rows do (plain). What is told to be missing leads to a failure (plain). -/
import Derived.Test.YtpdmkhnonbbhnaaMpx
namespace Go.Proofs.Ytpdmkhnonbbhnaa

theorem nodup_fst {α β : Type} : ∀ {l : List (α × β)}, (l.map (·.1)).Nodup → ∀ {a b : α × β}, a ∈ l → b ∈ l → a.1 = b.1 → a = b
  | x :: l, h, a, b, ha, hb, e => by
    rw [List.map_cons, List.nodup_cons] at h
    rcases List.mem_cons.1 ha with ea | ha2 <;> rcases List.mem_cons.1 hb with eb | hb2
    · rw [ea, eb]
    · exact absurd (List.mem_map.2 ⟨b, hb2, by rw [← ea]; exact e.symm⟩) h.1
    · exact absurd (List.mem_map.2 ⟨a, ha2, by rw [← eb]; exact e⟩) h.1
    · exact nodup_fst h.2 ha2 hb2 e
theorem fold_max_ge : ∀ (l : List Nat) (a : Nat), a ≤ l.foldl max a ∧ ∀ x ∈ l, x ≤ l.foldl max a
  | [], a => ⟨Nat.le_refl _, fun x hx => by simp at hx⟩
  | b :: l, a => by
    obtain ⟨h1, h2⟩ := fold_max_ge l (max a b)
    refine ⟨by rw [List.foldl_cons]; omega, fun x hx => ?_⟩
    rw [List.foldl_cons]
    rcases List.mem_cons.1 hx with rfl | hx
    · omega
    · exact h2 x hx
theorem nest_case {f : Nat} {t : Tr (f + 1)} {c : Cs × Tr f} (hc : c ∈ t.2.1) : nestP f c.2 + 1 ≤ nestP (f + 1) t := by
  have h1 := (fold_max_ge (t.2.1.map fun c => nestP f c.2) 0).2 _ (List.mem_map.2 ⟨c, hc, rfl⟩)
  have h2 := (fold_max_ge (t.2.2.map (nestP f)) ((t.2.1.map fun c => nestP f c.2).foldl max 0)).1
  show _ ≤ _ + 1
  omega
theorem nest_else {f : Nat} {t : Tr (f + 1)} {e : Tr f} (he : e ∈ t.2.2) : nestP f e + 1 ≤ nestP (f + 1) t := by
  have h2 := (fold_max_ge (t.2.2.map (nestP f)) ((t.2.1.map fun c => nestP f c.2).foldl max 0)).2 _ (List.mem_map.2 ⟨e, he, rfl⟩)
  show _ ≤ _ + 1
  omega
theorem eachP_le {α β : Type} {step : α → Nat → β × Nat} (hm : ∀ x n, n ≤ (step x n).2) : ∀ (l : List α) (n : Nat), n ≤ (eachP step l n).2
  | [], _ => Nat.le_refl _
  | a :: l, n => Nat.le_trans (hm a n) (eachP_le hm l _)
theorem eachP_zip2 {α β : Type} {step : α → Nat → β × Nat} (hm : ∀ x n, n ≤ (step x n).2) : ∀ (l : List α) (n : Nat) (c : α) (t : β), (c, t) ∈ l.zip (eachP step l n).1 → c ∈ l ∧ ∃ m, t = (step c m).1 ∧ (step c m).2 ≤ (eachP step l n).2
  | [], n, c, t, h => by simp at h
  | a :: l, n, c, t, h => by
    rcases List.mem_cons.1 (show (c, t) ∈ (a, (step a n).1) :: l.zip (eachP step l (step a n).2).1 from h) with h | h
    · injection h with h1 h2
      subst h1
      exact ⟨List.mem_cons_self, n, h2, eachP_le hm l _⟩
    · obtain ⟨h1, m, h2, h3⟩ := eachP_zip2 hm l _ c t h
      exact ⟨List.mem_cons_of_mem _ h1, m, h2, h3⟩
theorem treeP_le (k : Kn) (fs : List Fam) : ∀ (f n : Nat) (cols : List Col) (rows : List Nat), n + 1 ≤ (treeP k fs f n cols rows).2
  | 0, n, _, _ => Nat.le_refl _
  | f + 1, n, cols, rows => by
    by_cases hn : 5000 ≤ n
    · rw [treeP_big _ _ _ _ _ _ hn]; exact Nat.le_refl _
    · cases rows with
      | nil => rw [treeP_none _ _ _ _ _ (by omega)]; exact Nat.le_refl _
      | cons r rows =>
        cases hi : cols.findIdx? (hasRow r) with
        | none => rw [treeP_row _ _ _ _ _ _ _ (by omega) hi]; exact Nat.le_refl _
        | some ax =>
          have ha : ax < cols.length := (List.findIdx?_eq_some_iff_getElem.1 hi).1
          rw [treeP_branch _ _ _ _ _ _ _ _ ha (by omega) hi]
          unfold branchP
          simp only
          have hm : ∀ x q, q ≤ (stepP k fs f cols (r :: rows) ax (ofRows cols[ax].2.2 (r :: rows)) (cols[ax].1 ++ [cols[ax].2.1]) x q).2 := fun x q => Nat.le_of_succ_le (treeP_le k fs f q _ _)
          have h1 := eachP_le hm (casesOf k (ofRows cols[ax].2.2 (r :: rows))) (n + 1)
          split
          · exact h1
          · exact Nat.le_trans h1 (Nat.le_of_succ_le (treeP_le k fs f _ _ _))
/-- Numbers that rise, as many as are below a bound: all are there. -/
theorem rise_all : ∀ (l : List Nat) (lo n : Nat), l.Pairwise (· < ·) → (∀ x ∈ l, lo ≤ x ∧ x < n) → n - lo ≤ l.length → ∀ j, lo ≤ j → j < n → j ∈ l
  | [], lo, n, _, _, hl, j, h1, h2 => by simp at hl; omega
  | a :: l, lo, n, hp, hb, hl, j, h1, h2 => by
    rw [List.pairwise_cons] at hp
    have ha := hb a List.mem_cons_self
    have hlen := rise_from l (a + 1) n hp.2 (fun x hx => ⟨hp.1 x hx, (hb x (List.mem_cons_of_mem _ hx)).2⟩)
    rw [List.length_cons] at hl
    have : a = lo := by omega
    subst this
    by_cases e : j = a
    · rw [e]; exact List.mem_cons_self
    · exact List.mem_cons_of_mem _ (rise_all l (a + 1) n hp.2 (fun x hx => ⟨hp.1 x hx, (hb x (List.mem_cons_of_mem _ hx)).2⟩) (by omega) j (by omega) h2)
/-- Where all constructors have a case, a value has one. -/
theorem full_hit {k : Kn} {fs : List Fam} (hk : KnOk k fs) (hp : KnPl k fs) {spots : List Sp} (ht : together k spots = true) {x : Pt} (hx : Suit k x (spots.map (·.2))) (hf : isFull k fs (casesOf k spots) = true) : ∃ c ∈ casesOf k spots, hit x c = true := by
  have hf0 := hf
  unfold isFull at hf
  split at hf
  · cases hf
  · rename_i c0 cs hcs
    rw [Bool.and_eq_true] at hf
    have hc0 : c0 ∈ casesOf k spots := by rw [hcs]; exact List.mem_cons_self
    have hne : c0.1 ≠ [] := by simpa using hf.1
    obtain ⟨s, hs, rfl, _⟩ := case_of hk ht hc0
    have h4 : s.2.kind = 4 := by
      rcases (spot_kind ht hs).1 with h3 | h4
      · exact absurd (by unfold csOf; rw [if_neg (by omega)]) hne
      · exact h4
    have hcn : (csOf s.2).1 = s.2.name := by unfold csOf; rw [if_pos h4]
    obtain ⟨hx4, e, f, he, hfx, hef, hl⟩ := ((Suit_iff k x _).1 hx).2.1 s.2 (List.mem_map.2 ⟨s, hs, rfl⟩) h4
    obtain ⟨fam, hfam, hpl⟩ := hp _ (look_mem hfx)
    have hlk : looks k s.2.name = e := by unfold looks; rw [he]; rfl
    have hlen : (casesOf k spots).length = fam.1.length := by
      have := eq_of_beq hf.2
      rw [hcn, hlk, hef] at this
      have hfam' : fs[f.1]? = some fam := hfam
      rw [hfam'] at this
      exact this
    have hrise := (casesOf_facts k spots (apart_of hk ht)).1
    have hcase : ∀ c ∈ casesOf k spots, ∃ d, look k c.1 = some d ∧ looks k c.1 = d ∧ d.1 = f.1 ∧ c.2 = 0 := fun c hc => by
      obtain ⟨t, htm, rfl, _⟩ := case_of hk ht hc
      obtain ⟨hkd, _, hfm⟩ := together_all ht t htm s hs
      have h4t : t.2.kind = 4 := hkd.trans h4
      obtain ⟨d, hd, _, hld⟩ := mayBe_con (spot_kind ht htm).2 h4t
      have hcn' : (csOf t.2).1 = t.2.name := by unfold csOf; rw [if_pos h4t]
      refine ⟨d, by rw [hcn']; exact hd, by rw [hcn']; exact hld, ?_, by unfold csOf; rw [if_pos h4t]⟩
      have := hfm h4
      rw [hld, hlk] at this
      rw [this, hef]
    have hr2 : ((casesOf k spots).map fun c => (looks k c.1).2.1).Pairwise (· < ·) := by
      rw [List.pairwise_map]
      refine hrise.imp_of_mem fun {a b} ha hb hab => ?_
      obtain ⟨da, _, ea, _, za⟩ := hcase a ha
      obtain ⟨db, _, eb, _, zb⟩ := hcase b hb
      rcases (csLt_iff k a b).1 hab with h | ⟨_, h⟩
      · exact h
      · omega
    have hb2 : ∀ y ∈ (casesOf k spots).map fun c => (looks k c.1).2.1, 0 ≤ y ∧ y < fam.1.length := fun y hy => by
      obtain ⟨c, hc, rfl⟩ := List.mem_map.1 hy
      obtain ⟨d, hd, ed, e1, _⟩ := hcase c hc
      obtain ⟨fam', hfam', hpl'⟩ := hp _ (look_mem hd)
      have e2 : fs[d.1]? = some fam' := hfam'
      have e3 : fs[f.1]? = some fam := hfam
      rw [e1, e3] at e2
      obtain rfl := Option.some.inj e2
      refine ⟨Nat.zero_le _, ?_⟩
      rw [ed]
      exact hpl'
    have hin := rise_all _ 0 fam.1.length hr2 hb2 (by rw [List.length_map, hlen]; omega) f.2.1 (Nat.zero_le _) hpl
    obtain ⟨c, hc, hcp⟩ := List.mem_map.1 hin
    obtain ⟨d, hd, ed, e1, e2⟩ := hcase c hc
    have hnm : c.1 = x.name := hk.place _ (look_mem hd) _ (look_mem hfx) e1 (by rw [ed] at hcp; exact hcp)
    refine ⟨c, hc, ?_⟩
    unfold hit
    rw [hx4, hnm]
    simp
theorem tree_down {k : Kn} {fs : List Fam} (hk : KnOk k fs) (hp : KnPl k fs) (vs : List Pt) (N : Nat) : ∀ (f n : Nat) (cols : List Col) (rows : List Nat) (m : Nat) (r : List Stp), (∀ c ∈ cols, Good k m c) → WayOk N r → (∀ c ∈ cols, Pok N r c) → (cols.map cpath).Nodup → (∀ c ∈ cols, ∃ x, valAt vs (cpath c) = some x ∧ Suit k x (c.2.2.map (·.2))) → (treeP k fs f n cols rows).2 ≤ 5000 → nestP f (treeP k fs f n cols rows).1 ≤ f →
    downP f (treeP k fs f n cols rows).1 vs (r.reverse.map (·.1)) = firstP cols vs rows
  | 0, _, _, _, _, _, _, _, _, _, _, _, h => by simp [nestP] at h
  | f + 1, n, cols, rows, m, r, hg, hr, hpk, hn, hv, hct, hne => by
    have hn5 : n < 5000 := by have := treeP_le k fs (f + 1) n cols rows; omega
    cases rows with
    | nil =>
      rw [treeP_none _ _ _ _ _ hn5]
      unfold downP
      rw [if_neg (by show ¬ ((1 : Int) = 3); decide), if_neg (by show ¬ ((1 : Int) = 2); decide), if_pos rfl]
      rfl
    | cons rw' rows =>
      cases hi : cols.findIdx? (hasRow rw') with
      | none =>
        rw [treeP_row _ _ _ _ _ _ _ hn5 hi]
        unfold downP
        rw [if_neg (by show ¬ ((2 : Int) = 3); decide), if_pos rfl]
        have : rowFit cols vs rw' = true := by
          unfold rowFit
          rw [List.all_eq_true]
          intro c hc
          obtain ⟨x, hx, _⟩ := hv c hc
          rw [colFit_iff hx]
          intro s hs e
          have := List.findIdx?_eq_none_iff.1 hi c hc
          unfold hasRow at this
          have h2 := List.any_eq_false.1 this s hs
          rw [e] at h2
          simp at h2
        unfold firstP
        rw [List.find?_cons, this]
      | some ax =>
        have ha : ax < cols.length := (List.findIdx?_eq_some_iff_getElem.1 hi).1
        rw [treeP_branch _ _ _ _ _ _ _ _ ha hn5 hi] at hct hne ⊢
        have hpc := hpk _ (List.getElem_mem ha)
        have hgc := hg _ (List.getElem_mem ha)
        obtain ⟨hn1, hn2⟩ := cut_nodup ha hn
        obtain ⟨x, hvx, hsx0⟩ := hv _ (List.getElem_mem ha)
        have hsub : ∀ c ∈ cols.take ax ++ cols.drop (ax + 1), c ∈ cols := fun c hc => by
          rcases List.mem_append.1 hc with hc | hc
          · exact List.mem_of_mem_take hc
          · exact List.mem_of_mem_drop hc
        have htg : together k (ofRows cols[ax].2.2 (rw' :: rows)) = true := (hgc.right.sub hk List.filter_sublist).together
        have hsx : Suit k x ((ofRows cols[ax].2.2 (rw' :: rows)).map (·.2)) := hsx0.mono fun q hq => by
          obtain ⟨s, hs, rfl⟩ := List.mem_map.1 hq
          exact List.mem_map.2 ⟨s, (List.mem_filter.1 hs).1, rfl⟩
        have hseen : cpath cols[ax] ∉ r.reverse.map (·.1) := fun h => by
          obtain ⟨y, hy, e⟩ := List.mem_map.1 h
          exact hpc.new y (List.mem_reverse.1 hy) e
        -- one step further
        have hkid : ∀ (c : Cs) (q : Nat), c ∈ casesOf k (ofRows cols[ax].2.2 (rw' :: rows)) → hit x c = true → (stepP k fs f cols (rw' :: rows) ax (ofRows cols[ax].2.2 (rw' :: rows)) (cols[ax].1 ++ [cols[ax].2.1]) c q).2 ≤ 5000 → nestP f (stepP k fs f cols (rw' :: rows) ax (ofRows cols[ax].2.2 (rw' :: rows)) (cols[ax].1 ++ [cols[ax].2.1]) c q).1 ≤ f →
            downP f (stepP k fs f cols (rw' :: rows) ax (ofRows cols[ax].2.2 (rw' :: rows)) (cols[ax].1 ++ [cols[ax].2.1]) c q).1 vs (r.reverse.map (·.1) ++ [cpath cols[ax]]) = firstP cols vs (rw' :: rows) := fun c q hc hh h1 h2 => by
          obtain ⟨hw1, hw2⟩ := colsOf_nums (cpath cols[ax]) (linesOf ((ofRows cols[ax].2.2 (rw' :: rows)).filter (isOf c))) (looks k c.1).2.2
          have es : r.reverse.map (·.1) ++ [cpath cols[ax]] = (((cpath cols[ax], patOf k c) : Stp) :: r).reverse.map (·.1) := by simp
          rw [es, first_case hk ha hvx htg hsx hc hh]
          refine tree_down hk hp vs N f q _ _ (m + 1) ((cpath cols[ax], patOf k c) :: r) (fun d hd => ?_) (hpc.ok hr rfl) (fun d hd => ?_) ?_ (fun d hd => ?_) h1 h2
          · rcases List.mem_append.1 hd with hd | hd
            · rcases List.mem_append.1 hd with hd | hd
              · exact (hg d (List.mem_of_mem_take hd)).up (by omega)
              · exact hgc.within hk (rw' :: rows) hc hd
            · exact (hg d (List.mem_of_mem_drop hd)).up (by omega)
          · rcases List.mem_append.1 hd with hd | hd
            · rcases List.mem_append.1 hd with hd | hd
              · exact (hpk d (List.mem_of_mem_take hd)).on fun e => hn2 d (List.mem_append.2 (.inl hd)) e.symm
              · obtain ⟨q1, q2⟩ := hw2 d hd
                exact hpc.inside hr rfl q1 (by rw [(patOf_cnt hk c).2]; exact q2)
            · exact (hpk d (List.mem_of_mem_drop hd)).on fun e => hn2 d (List.mem_append.2 (.inr hd)) e.symm
          · have hwn : ((within k ((ofRows cols[ax].2.2 (rw' :: rows)).filter (isOf c)) c.1 (cpath cols[ax])).map cpath).Nodup := by
              have e : (within k ((ofRows cols[ax].2.2 (rw' :: rows)).filter (isOf c)) c.1 (cpath cols[ax])).map cpath = ((within k ((ofRows cols[ax].2.2 (rw' :: rows)).filter (isOf c)) c.1 (cpath cols[ax])).map (·.2.1)).map fun i => cpath cols[ax] ++ [i] := by
                rw [List.map_map]
                refine List.map_congr_left fun d hd => ?_
                show d.1 ++ [d.2.1] = _
                rw [(hw2 d hd).1]
                rfl
              rw [e]
              refine List.Pairwise.map _ (fun a b hab => ?_) hw1
              intro q
              exact hab (by simpa using q)
            have hdis : ∀ a ∈ within k ((ofRows cols[ax].2.2 (rw' :: rows)).filter (isOf c)) c.1 (cpath cols[ax]), ∀ b ∈ cols.take ax ++ cols.drop (ax + 1), cpath a ≠ cpath b := fun a haa b hbb e => by
              have := path_apart hpc (hpk b (hsub b hbb)) a.2.1
              refine this ?_
              rw [← e]
              show a.1 ++ _ = _
              rw [(hw2 a haa).1]
            rw [List.map_append, List.map_append, List.append_assoc, List.nodup_append]
            rw [List.map_append, List.nodup_append] at hn1
            refine ⟨hn1.1, ?_, ?_⟩
            · rw [List.nodup_append]
              refine ⟨hwn, hn1.2.1, fun a ha b hb => ?_⟩
              obtain ⟨a', ha', rfl⟩ := List.mem_map.1 ha
              obtain ⟨b', hb', rfl⟩ := List.mem_map.1 hb
              exact hdis a' ha' b' (List.mem_append.2 (.inr hb'))
            · intro a ha b hb
              rcases List.mem_append.1 hb with hb | hb
              · obtain ⟨a', ha', rfl⟩ := List.mem_map.1 ha
                obtain ⟨b', hb', rfl⟩ := List.mem_map.1 hb
                exact fun q => hdis b' hb' a' (List.mem_append.2 (.inl ha')) q.symm
              · exact hn1.2.2 a ha b hb
          · rcases List.mem_append.1 hd with hd | hd
            · rcases List.mem_append.1 hd with hd | hd
              · exact hv d (List.mem_of_mem_take hd)
              · obtain ⟨j, hj, _, rfl⟩ := mem_colsOf.1 hd
                obtain ⟨hnm, hkl⟩ := case_kids hk htg hsx hc hh hj
                have hj' : j < x.kids.length := by omega
                refine ⟨x.kids[j], ?_, ?_⟩
                · show valAt vs (cpath cols[ax] ++ [j]) = _
                  rw [valAt_snoc _ _ _ (by unfold cpath; simp), hvx]
                  exact List.getElem?_eq_getElem hj'
                · refine (((Suit_iff k x _).1 hsx).2.2 j hj').mono fun p hp' => ?_
                  obtain ⟨s, hs, rfl⟩ := List.mem_map.1 hp'
                  obtain ⟨ln, hln, h3, _, _⟩ := mem_spotsOf.1 hs
                  obtain ⟨t, htm, rfl⟩ := List.mem_map.1 hln
                  rw [List.mem_filter] at htm
                  have hct' := (isOf_iff hk htg hc htm.1).1 htm.2
                  have h4t : t.2.kind = 4 := by
                    rcases (spot_kind htg htm.1).1 with h3' | h4'
                    · have : c.1 = [] := by rw [hct']; unfold csOf; rw [if_neg (by omega)]
                      rw [this, looks_nil hk] at hj
                      exact absurd hj (Nat.not_lt_zero _)
                    · exact h4'
                  refine mem_below.2 ⟨t.2, List.mem_map.2 ⟨t, htm.1, rfl⟩, h4t, ?_, h3⟩
                  rw [hnm, hct']
                  unfold csOf
                  rw [if_pos h4t]
            · exact hv d (List.mem_of_mem_drop hd)
        have hels : ∀ (q : Nat), (∀ c ∈ casesOf k (ofRows cols[ax].2.2 (rw' :: rows)), hit x c = false) → (treeP k fs f q (cols.take ax ++ cols.drop (ax + 1)) (without (rw' :: rows) (ofRows cols[ax].2.2 (rw' :: rows)))).2 ≤ 5000 → nestP f (treeP k fs f q (cols.take ax ++ cols.drop (ax + 1)) (without (rw' :: rows) (ofRows cols[ax].2.2 (rw' :: rows)))).1 ≤ f →
            downP f (treeP k fs f q (cols.take ax ++ cols.drop (ax + 1)) (without (rw' :: rows) (ofRows cols[ax].2.2 (rw' :: rows)))).1 vs (r.reverse.map (·.1) ++ [cpath cols[ax]]) = firstP cols vs (rw' :: rows) := fun q hno h1 h2 => by
          have es : r.reverse.map (·.1) ++ [cpath cols[ax]] = (((cpath cols[ax], ((0, [], 0), 0)) : Stp) :: r).reverse.map (·.1) := by simp
          rw [es, first_else hk ha hvx htg hsx hno]
          exact tree_down hk hp vs N f q _ _ m ((cpath cols[ax], ((0, [], 0), 0)) :: r) (fun d hd => hg d (hsub d hd)) (hpc.ok hr rfl) (fun d hd => (hpk d (hsub d hd)).on fun e => hn2 d hd e.symm) hn1 (fun d hd => hv d (hsub d hd)) h1 h2
        have hfull := full_hit (fs := fs) hk hp htg hsx
        have hone : ∀ c d, c ∈ casesOf k (ofRows cols[ax].2.2 (rw' :: rows)) → d ∈ casesOf k (ofRows cols[ax].2.2 (rw' :: rows)) → hit x c = true → hit x d = true → c = d := fun c d hc hd => hit_one hk htg hsx hc hd
        have hmono : ∀ y q, q ≤ (stepP k fs f cols (rw' :: rows) ax (ofRows cols[ax].2.2 (rw' :: rows)) (cols[ax].1 ++ [cols[ax].2.1]) y q).2 := fun y q => Nat.le_of_succ_le (treeP_le k fs f q _ _)
        have hnd : (casesOf k (ofRows cols[ax].2.2 (rw' :: rows))).Nodup := ((casesOf_facts k _ (apart_of hk htg)).1).imp fun {a b} hab e => by rw [e, csLt_irr] at hab; cases hab
        clear hn hn1 hn2 hsub hg hpk hv hsx hsx0
        have hcp : cpath cols[ax] = cols[ax].1 ++ [cols[ax].2.1] := rfl
        rw [hcp] at hkid hels hseen hvx
        unfold branchP at hct hne ⊢
        simp only at hct hne ⊢
        generalize ofRows cols[ax].2.2 (rw' :: rows) = spots at *
        generalize stepP k fs f cols (rw' :: rows) ax spots (cols[ax].1 ++ [cols[ax].2.1]) = step at *
        have hcase : ∀ (t : Tr (f + 1)) (mx : Nat), t.1 = (3, 0, cols[ax].1 ++ [cols[ax].2.1]) → t.2.1 = (casesOf k spots).zip (eachP step (casesOf k spots) (n + 1)).1 → (eachP step (casesOf k spots) (n + 1)).2 ≤ mx → mx ≤ 5000 → nestP (f + 1) t ≤ f + 1 → ((∀ c ∈ casesOf k spots, hit x c = false) → ∃ e, t.2.2 = [e] ∧ downP f e vs (r.reverse.map (·.1) ++ [cols[ax].1 ++ [cols[ax].2.1]]) = firstP cols vs (rw' :: rows)) → downP (f + 1) t vs (r.reverse.map (·.1)) = firstP cols vs (rw' :: rows) := fun t mx e1 e2 h1 h2 h3 h4 => by
          unfold downP
          have e3 : t.1.1 = 3 := by rw [e1]
          have e4 : t.1.2.2 = cols[ax].1 ++ [cols[ax].2.1] := by rw [e1]
          rw [if_pos e3, e4, hvx]
          simp only
          rw [if_neg hseen]
          by_cases hex : ∃ c ∈ casesOf k spots, hit x c = true
          · obtain ⟨c, hc, hh⟩ := hex
            have hfst := eachP_fst (step := step) (casesOf k spots) (n + 1)
            obtain ⟨u, hu⟩ : ∃ u, (c, u) ∈ (casesOf k spots).zip (eachP step (casesOf k spots) (n + 1)).1 := by
              have : c ∈ ((casesOf k spots).zip (eachP step (casesOf k spots) (n + 1)).1).map (·.1) := by rw [hfst]; exact hc
              obtain ⟨y, hy, rfl⟩ := List.mem_map.1 this
              exact ⟨y.2, hy⟩
            have huniq : ∀ d ∈ t.2.1, hit x d.1 = true → d = (c, u) := fun d hd hh' => by
              rw [e2] at hd
              have hdc : d.1 = c := hone _ _ (by rw [← hfst]; exact List.mem_map.2 ⟨d, hd, rfl⟩) hc hh' hh
              have hndz : (((casesOf k spots).zip (eachP step (casesOf k spots) (n + 1)).1).map (·.1)).Nodup := by rw [hfst]; exact hnd
              exact nodup_fst hndz hd hu hdc
            have hnx : nextP x t.2.1 = some u := nextP_some none (by rw [e2]; exact hu) hh huniq
            rw [hnx]
            simp only
            obtain ⟨_, q, hq, hq2⟩ := eachP_zip2 hmono _ _ c u hu
            have hns : nestP f u + 1 ≤ nestP (f + 1) t := nest_case (c := (c, u)) (by rw [e2]; exact hu)
            rw [hq] at hns ⊢
            exact hkid c q hc hh (by omega) (by omega)
          · have hno : ∀ c ∈ casesOf k spots, hit x c = false := fun c hc => by
              cases h : hit x c with
              | false => rfl
              | true => exact absurd ⟨c, hc, h⟩ hex
            have hnx : nextP x t.2.1 = none := nextP_none fun d hd => by
              rw [e2] at hd
              have hfst := eachP_fst (step := step) (casesOf k spots) (n + 1)
              exact hno _ (by rw [← hfst]; exact List.mem_map.2 ⟨d, hd, rfl⟩)
            obtain ⟨e, he, hd⟩ := h4 hno
            rw [hnx, he]
            exact hd
        split at hct
        · rename_i hfu
          rw [if_pos hfu] at hne ⊢
          refine hcase _ _ rfl rfl (Nat.le_refl _) hct hne fun hno => ?_
          obtain ⟨c, hc, hh⟩ := hfull hfu
          rw [hno c hc] at hh
          cases hh
        · rename_i hfu
          rw [if_neg hfu] at hne ⊢
          refine hcase _ _ rfl rfl (Nat.le_of_succ_le (treeP_le k fs f _ _ _)) hct hne fun hno => ⟨_, rfl, ?_⟩
          have hns : nestP f (treeP k fs f (eachP step (casesOf k spots) (n + 1)).2 (cols.take ax ++ cols.drop (ax + 1)) (without (rw' :: rows) spots)).1 + 1 ≤ _ := nest_else (f := f) (t := ((3, 0, cols[ax].1 ++ [cols[ax].2.1]), (casesOf k spots).zip (eachP step (casesOf k spots) (n + 1)).1, [(treeP k fs f (eachP step (casesOf k spots) (n + 1)).2 (cols.take ax ++ cols.drop (ax + 1)) (without (rw' :: rows) spots)).1])) (List.mem_singleton.2 rfl)
          have hns2 := Nat.le_trans hns hne
          exact hels _ hno hct (by omega)
end Go.Proofs.Ytpdmkhnonbbhnaa

namespace Go.Proofs.Ytpdmkhnonbbhnaa

/-- By what a gap is looked for. -/
def gkey (k : Kn) (con : Str) (c : Cs) : Int := if con = [] then c.2 else ((looks k c.1).2.1 : Int)
theorem gap_cond (k : Kn) (con : Str) (c : Cs) (g : Nat) : ((con = [] ∧ c.2 = (g : Int)) ∨ (con ≠ [] ∧ (looks k c.1).2.1 = g)) ↔ gkey k con c = g := by
  unfold gkey
  by_cases h : con = []
  · simp [h]
  · rw [if_neg h]
    constructor
    · rintro (⟨h1, _⟩ | ⟨_, h2⟩)
      · exact absurd h1 h
      · omega
    · intro h2; exact .inr ⟨h, by omega⟩
theorem gap_stay (k : Kn) (con : Str) : ∀ (cs : List Cs) (g : Nat), (∀ c ∈ cs, (g : Int) < gkey k con c) → gapP k con cs g = g
  | [], _, _ => rfl
  | c :: r, g, h => by
    have hc := h c List.mem_cons_self
    unfold gapP
    rw [if_neg (by rw [gap_cond]; omega)]
    exact gap_stay k con r g fun d hd => h d (List.mem_cons_of_mem _ hd)
theorem gap_out (k : Kn) (con : Str) : ∀ (cs : List Cs) (g : Nat), cs.Pairwise (fun a b => gkey k con a < gkey k con b) → g ≤ gapP k con cs g ∧ ∀ c ∈ cs, gkey k con c ≠ gapP k con cs g
  | [], g, _ => ⟨Nat.le_refl _, fun c hc => by simp at hc⟩
  | c :: r, g, h => by
    rw [List.pairwise_cons] at h
    unfold gapP
    by_cases hc : gkey k con c = g
    · rw [if_pos ((gap_cond k con c g).2 hc)]
      obtain ⟨h1, h2⟩ := gap_out k con r (g + 1) h.2
      refine ⟨by omega, fun d hd => ?_⟩
      rcases List.mem_cons.1 hd with rfl | hd
      · omega
      · exact h2 d hd
    · rw [if_neg (by rw [gap_cond]; exact hc)]
      obtain ⟨h1, h2⟩ := gap_out k con r g h.2
      refine ⟨h1, fun d hd => ?_⟩
      rcases List.mem_cons.1 hd with rfl | hd
      · by_cases hl : (g : Int) < gkey k con d
        · rw [gap_stay k con r g fun e he => by have := h.1 e he; omega]
          exact hc
        · omega
      · exact h2 d hd
theorem knowC_at {i : Nat} : ∀ (ns : List Str) (xs : List Int) (p : Nat) (k k' : Kn), knowC i k p ns xs = some k' → (∀ e ∈ k, e ∈ k') ∧ ((k.map (·.1)).Nodup → (k'.map (·.1)).Nodup) ∧ ∀ (j : Nat) (nm : Str), ns[j]? = some nm → ∃ y, xs[j]? = some y ∧ 0 ≤ y ∧ (nm, i, p + j, y.toNat) ∈ k'
  | [], _, p, k, k', h => by
    unfold knowC at h
    obtain rfl := Option.some.inj h
    exact ⟨fun e he => he, fun h => h, fun j nm hj => by simp at hj⟩
  | n :: ns, [], p, k, k', h => by unfold knowC at h; cases h
  | n :: ns, x :: xs, p, k, k', h => by
    unfold knowC at h
    split at h
    · cases h
    · rename_i hc
      obtain ⟨h1, h2, h3⟩ := knowC_at ns xs (p + 1) _ k' h
      refine ⟨fun e he => h1 e (List.mem_append_left _ he), fun hn => h2 ?_, fun j nm hj => ?_⟩
      · rw [List.map_append, List.nodup_append]
        refine ⟨hn, by simp, fun a ha b hb => ?_⟩
        obtain ⟨e, he, rfl⟩ := List.mem_map.1 ha
        obtain rfl : b = n := by simpa using hb
        exact fun q => hc (.inr (.inl ⟨e, he, q⟩))
      · cases j with
        | zero =>
          obtain rfl : n = nm := by simpa using hj
          exact ⟨x, rfl, by have := fun q => hc (.inr (.inr (.inl q))); omega, h1 _ (List.mem_append_right _ (by simp))⟩
        | succ j =>
          obtain ⟨y, h4, h5, h6⟩ := h3 j nm (by simpa using hj)
          exact ⟨y, by simpa using h4, h5, by rw [show p + (j + 1) = p + 1 + j by omega]; exact h6⟩
theorem knowF_at : ∀ (fs : List Fam) (i : Nat) (k k' : Kn), knowF i k fs = some k' → (∀ e ∈ k, e ∈ k') ∧ ((k.map (·.1)).Nodup → (k'.map (·.1)).Nodup) ∧ ∀ (a : Nat) (f : Fam), fs[a]? = some f → ∀ (j : Nat) (nm : Str), f.1[j]? = some nm → ∃ y, f.2[j]? = some y ∧ 0 ≤ y ∧ (nm, i + a, j, y.toNat) ∈ k'
  | [], i, k, k', h => by
    unfold knowF at h
    obtain rfl := Option.some.inj h
    exact ⟨fun e he => he, fun h => h, fun a f hf => by simp at hf⟩
  | f :: fs, i, k, k', h => by
    unfold knowF at h
    split at h
    · cases h
    · obtain ⟨k1, hk1, hk2⟩ := Option.bind_eq_some_iff.1 h
      obtain ⟨a1, a2, a3⟩ := knowC_at f.1 f.2 0 k k1 hk1
      obtain ⟨b1, b2, b3⟩ := knowF_at fs (i + 1) k1 k' hk2
      refine ⟨fun e he => b1 e (a1 e he), fun hn => b2 (a2 hn), fun a g hg j nm hj => ?_⟩
      cases a with
      | zero =>
        obtain rfl : f = g := by simpa using hg
        obtain ⟨y, h4, h5, h6⟩ := a3 j nm hj
        exact ⟨y, h4, h5, b1 _ (by rw [Nat.zero_add] at h6; exact h6)⟩
      | succ a =>
        obtain ⟨y, h4, h5, h6⟩ := b3 a g (by simpa using hg) j nm hj
        exact ⟨y, h4, h5, by rw [show i + (a + 1) = i + 1 + a by omega]; exact h6⟩
theorem look_only {k : Kn} (hn : (k.map (·.1)).Nodup) {nm : Str} {e : Nat × Nat × Nat} (h : (nm, e) ∈ k) : look k nm = some e := by
  obtain ⟨d, hd⟩ : ∃ d, look k nm = some d := by
    unfold look
    cases hq : k.find? fun e => e.1 == nm with
    | some e => exact ⟨_, rfl⟩
    | none => exact absurd (List.find?_eq_none.1 hq _ h) (by simp)
  rw [hd, (Prod.mk.inj (nodup_fst hn (look_mem hd) h rfl)).2]
/-- What is known of a name, and where it stands. -/
theorem know_look {fs : List Fam} {k : Kn} (h : knowF 0 [] fs = some k) {a j : Nat} {f : Fam} {nm : Str} (hf : fs[a]? = some f) (hj : f.1[j]? = some nm) : ∃ y, f.2[j]? = some y ∧ 0 ≤ y ∧ look k nm = some (a, j, y.toNat) := by
  obtain ⟨_, h2, h3⟩ := knowF_at fs 0 [] k h
  obtain ⟨y, h4, h5, h6⟩ := h3 a f hf j nm hj
  exact ⟨y, h4, h5, look_only (h2 List.nodup_nil) (by rw [Nat.zero_add] at h6; exact h6)⟩
/-- What a label says of a value. -/
def LabFits (q : Lb × Nat) (x : Pt) : Prop := (q.1.1 = 3 → x.kind = 3 ∧ x.num = q.1.2.2) ∧ (q.1.1 = 4 → x.kind = 4 ∧ x.name = q.1.2.1)
theorem lab_hit {k : Kn} {c : Cs} {x : Pt} (h : LabFits (patOf k c) x) : hit x c = true := by
  unfold patOf at h
  unfold hit
  by_cases hc : c.1 = []
  · rw [if_pos hc] at h
    obtain ⟨h1, h2⟩ := h.1 rfl
    rw [h1, hc]
    simp only at h2
    rw [h2]
    simp
  · rw [if_neg hc] at h
    obtain ⟨h1, h2⟩ := h.2 rfl
    simp only at h2
    rw [h1, h2]
    simp
theorem lab_one {k : Kn} {c d : Cs} {x : Pt} (h : LabFits (patOf k c) x) (hc : c.1 ≠ [] → c.2 = 0) (hd : d.1 ≠ [] → d.2 = 0) (hh : hit x d = true) : d = c := by
  unfold patOf at h
  unfold hit at hh
  by_cases hcn : c.1 = []
  · rw [if_pos hcn] at h
    obtain ⟨h1, h2⟩ := h.1 rfl
    simp only at h2
    rw [h1] at hh
    have hh : d.1 = [] ∧ d.2 = x.num := by simpa using hh
    exact Prod.ext (hh.1.trans hcn.symm) (hh.2.trans h2)
  · rw [if_neg hcn] at h
    obtain ⟨h1, h2⟩ := h.2 rfl
    simp only at h2
    rw [h1] at hh
    have hh : d.1 = x.name := by simpa using hh
    have e : d.1 = c.1 := hh.trans h2
    exact Prod.ext e ((hd (by rw [e]; exact hcn)).trans (hc hcn).symm)
theorem other_eq (k : Kn) (fs : List Fam) : ∀ (cs : List Cs) (h0 : 0 < cs.length), otherThan k fs cs = if cs[0].1 = [] then patOf k ([], (gapP k [] cs 0 : Nat)) else patOf k (match fs[(looks k cs[0].1).1]? with
        | some f => f.1.getD (gapP k cs[0].1 cs 0) []
        | none => [], 0)
  | [], h0 => by simp at h0
  | _ :: _, _ => rfl
theorem other_none {fs : List Fam} {k : Kn} (hkn : knowF 0 [] fs = some k) {spots : List Sp} (ht : together k spots = true) (h0 : 0 < (casesOf k spots).length) (hf : isFull k fs (casesOf k spots) = false) {x : Pt} (hx : LabFits (otherThan k fs (casesOf k spots)) x) : ∀ c ∈ casesOf k spots, hit x c = false := by
  have hk := knowF_ok hkn
  have hp := knowF_pl hkn
  obtain ⟨hr, _⟩ := casesOf_facts k spots (apart_of hk ht)
  have hcf : ∀ c ∈ casesOf k spots, (c.1 ≠ [] → c.2 = 0) := fun c hc => (case_facts hk ht hc).1
  have hall : ∀ c ∈ casesOf k spots, (c.1 = [] ↔ (casesOf k spots)[0].1 = []) := fun c hc => by
    obtain ⟨s, hs, hcs, _⟩ := case_of hk ht hc
    obtain ⟨s0, hs0, hcs0, _⟩ := case_of hk ht (List.getElem_mem h0)
    have hkd := (together_all ht s hs s0 hs0).1
    have nm : ∀ {t : Sp}, t ∈ spots → ((csOf t.2).1 = [] ↔ t.2.kind = 3) := fun {t} htm => by
      rcases (spot_kind ht htm).1 with h3 | h4
      · unfold csOf; rw [if_neg (by omega)]; simp [h3]
      · obtain ⟨c', hc', _⟩ := mayBe_con (spot_kind ht htm).2 h4
        have := hk.name _ (look_mem hc')
        unfold csOf
        rw [if_pos h4]
        constructor
        · intro e; exact absurd e this
        · intro e; omega
    rw [hcs, hcs0, nm hs, nm hs0, hkd]
  have hkey : (casesOf k spots).Pairwise fun a b => gkey k (casesOf k spots)[0].1 a < gkey k (casesOf k spots)[0].1 b := by
    refine hr.imp_of_mem fun {a b} ha hb hab => ?_
    unfold gkey
    by_cases hcn : (casesOf k spots)[0].1 = []
    · rw [if_pos hcn, if_pos hcn]
      rcases (csLt_iff k a b).1 hab with h | ⟨_, h⟩
      · rw [(hall a ha).2 hcn, (hall b hb).2 hcn] at h; omega
      · exact h
    · rw [if_neg hcn, if_neg hcn]
      rcases (csLt_iff k a b).1 hab with h | ⟨_, h⟩
      · omega
      · rw [hcf a ha fun q => hcn ((hall a ha).1 q), hcf b hb fun q => hcn ((hall b hb).1 q)] at h; omega
  obtain ⟨_, hout⟩ := gap_out k (casesOf k spots)[0].1 (casesOf k spots) 0 hkey
  intro c hc
  cases hh : hit x c with
  | false => rfl
  | true =>
    exfalso
    unfold hit at hh
    have hot := other_eq k fs (casesOf k spots) h0
    by_cases hcn : (casesOf k spots)[0].1 = []
    · rw [hot, if_pos hcn] at hx
      have := hout c hc
      rw [hcn] at this
      unfold gkey at this
      rw [if_pos rfl] at this
      unfold patOf at hx
      rw [if_pos rfl] at hx
      obtain ⟨h1, h2⟩ := hx.1 rfl
      simp only at h2
      rw [h1, h2] at hh
      have hh : c.1 = [] ∧ c.2 = ((gapP k [] (casesOf k spots) 0 : Nat) : Int) := by simpa using hh
      exact this hh.2
    · obtain ⟨hin, hlt⟩ := gap_lt hk hp ht h0 hcn hf
      rw [hot, if_neg hcn, List.getElem?_eq_getElem hin] at hx
      simp only at hx
      have hnm : fs[(looks k (casesOf k spots)[0].1).1].1[gapP k (casesOf k spots)[0].1 (casesOf k spots) 0]? = some (fs[(looks k (casesOf k spots)[0].1).1].1[gapP k (casesOf k spots)[0].1 (casesOf k spots) 0]) := List.getElem?_eq_getElem hlt
      obtain ⟨y, _, _, hly⟩ := know_look hkn (List.getElem?_eq_getElem hin) hnm
      have hget : fs[(looks k (casesOf k spots)[0].1).1].1.getD (gapP k (casesOf k spots)[0].1 (casesOf k spots) 0) [] = fs[(looks k (casesOf k spots)[0].1).1].1[gapP k (casesOf k spots)[0].1 (casesOf k spots) 0] := by rw [List.getD_eq_getElem?_getD, hnm]; rfl
      rw [hget] at hx
      have hne := hk.name _ (look_mem hly)
      unfold patOf at hx
      rw [if_neg hne] at hx
      obtain ⟨h1, h2⟩ := hx.2 rfl
      simp only at h2
      rw [h1] at hh
      have hh : c.1 = x.name := by simpa using hh
      have := hout c hc
      unfold gkey at this
      have hlk : looks k (fs[(looks k (casesOf k spots)[0].1).1].1[gapP k (casesOf k spots)[0].1 (casesOf k spots) 0]) = ((looks k (casesOf k spots)[0].1).1, gapP k (casesOf k spots)[0].1 (casesOf k spots) 0, y.toNat) := by
        show (look k _).getD _ = _
        rw [hly]
        rfl
      rw [if_neg hcn, hh, h2, hlk] at this
      exact this rfl
theorem fail_down {k : Kn} {fs : List Fam} (hkn : knowF 0 [] fs = some k) (vs : List Pt) (N : Nat) : ∀ (f n : Nat) (cols : List Col) (rows : List Nat) (m : Nat) (r way : List Stp), (∀ c ∈ cols, Good k m c) → WayOk N r → (∀ c ∈ cols, Pok N r c) → (cols.map cpath).Nodup → toFail k fs f (treeP k fs f n cols rows).1 = some way → (∀ s ∈ way, ∃ x, valAt vs s.1 = some x ∧ LabFits s.2 x) →
    downP f (treeP k fs f n cols rows).1 vs (r.reverse.map (·.1)) = -1
  | 0, _, _, _, _, _, _, _, _, _, _, h, _ => by cases h
  | f + 1, n, cols, rows, m, r, way, hg, hr, hpk, hn, h, hw => by
    have hk := knowF_ok hkn
    have hp := knowF_pl hkn
    by_cases hb : 5000 ≤ n
    · rw [treeP_big _ _ _ _ _ _ hb, toFail_eq] at h
      simp [failP, trZero] at h
    · cases rows with
      | nil =>
        rw [treeP_none _ _ _ _ _ (by omega)]
        unfold downP
        rw [if_neg (by show ¬ ((1 : Int) = 3); decide), if_neg (by show ¬ ((1 : Int) = 2); decide), if_pos rfl]
      | cons rw' rows =>
        cases hi : cols.findIdx? (hasRow rw') with
        | none =>
          rw [treeP_row _ _ _ _ _ _ _ (by omega) hi, toFail_eq] at h
          simp [failP] at h
        | some ax =>
          have ha : ax < cols.length := (List.findIdx?_eq_some_iff_getElem.1 hi).1
          rw [treeP_branch _ _ _ _ _ _ _ _ ha (by omega) hi] at h ⊢
          rw [toFail_eq] at h
          have hpc := hpk _ (List.getElem_mem ha)
          have hgc := hg _ (List.getElem_mem ha)
          obtain ⟨hn1, hn2⟩ := cut_nodup ha hn
          have hsub : ∀ c ∈ cols.take ax ++ cols.drop (ax + 1), c ∈ cols := fun c hc => by
            rcases List.mem_append.1 hc with hc | hc
            · exact List.mem_of_mem_take hc
            · exact List.mem_of_mem_drop hc
          have htg : together k (ofRows cols[ax].2.2 (rw' :: rows)) = true := (hgc.right.sub hk List.filter_sublist).together
          have hseen : cpath cols[ax] ∉ r.reverse.map (·.1) := fun h => by
            obtain ⟨y, hy, e⟩ := List.mem_map.1 h
            exact hpc.new y (List.mem_reverse.1 hy) e
          have hkid : ∀ (c : Cs) (q : Nat) (u : List Stp), c ∈ casesOf k (ofRows cols[ax].2.2 (rw' :: rows)) → toFail k fs f (stepP k fs f cols (rw' :: rows) ax (ofRows cols[ax].2.2 (rw' :: rows)) (cols[ax].1 ++ [cols[ax].2.1]) c q).1 = some u → (∀ s ∈ u, ∃ x, valAt vs s.1 = some x ∧ LabFits s.2 x) →
              downP f (stepP k fs f cols (rw' :: rows) ax (ofRows cols[ax].2.2 (rw' :: rows)) (cols[ax].1 ++ [cols[ax].2.1]) c q).1 vs (r.reverse.map (·.1) ++ [cpath cols[ax]]) = -1 := fun c q u hc h1 h2 => by
            obtain ⟨hw1, hw2⟩ := colsOf_nums (cpath cols[ax]) (linesOf ((ofRows cols[ax].2.2 (rw' :: rows)).filter (isOf c))) (looks k c.1).2.2
            have es : r.reverse.map (·.1) ++ [cpath cols[ax]] = (((cpath cols[ax], patOf k c) : Stp) :: r).reverse.map (·.1) := by simp
            rw [es]
            refine fail_down hkn vs N f q _ _ (m + 1) ((cpath cols[ax], patOf k c) :: r) u (fun d hd => ?_) (hpc.ok hr rfl) (fun d hd => ?_) ?_ h1 h2
            · rcases List.mem_append.1 hd with hd | hd
              · rcases List.mem_append.1 hd with hd | hd
                · exact (hg d (List.mem_of_mem_take hd)).up (by omega)
                · exact hgc.within hk (rw' :: rows) hc hd
              · exact (hg d (List.mem_of_mem_drop hd)).up (by omega)
            · rcases List.mem_append.1 hd with hd | hd
              · rcases List.mem_append.1 hd with hd | hd
                · exact (hpk d (List.mem_of_mem_take hd)).on fun e => hn2 d (List.mem_append.2 (.inl hd)) e.symm
                · obtain ⟨q1, q2⟩ := hw2 d hd
                  exact hpc.inside hr rfl q1 (by rw [(patOf_cnt hk c).2]; exact q2)
              · exact (hpk d (List.mem_of_mem_drop hd)).on fun e => hn2 d (List.mem_append.2 (.inr hd)) e.symm
            · have hwn : ((within k ((ofRows cols[ax].2.2 (rw' :: rows)).filter (isOf c)) c.1 (cpath cols[ax])).map cpath).Nodup := by
                have e : (within k ((ofRows cols[ax].2.2 (rw' :: rows)).filter (isOf c)) c.1 (cpath cols[ax])).map cpath = ((within k ((ofRows cols[ax].2.2 (rw' :: rows)).filter (isOf c)) c.1 (cpath cols[ax])).map (·.2.1)).map fun i => cpath cols[ax] ++ [i] := by
                  rw [List.map_map]
                  refine List.map_congr_left fun d hd => ?_
                  show d.1 ++ [d.2.1] = _
                  rw [(hw2 d hd).1]
                  rfl
                rw [e]
                refine List.Pairwise.map _ (fun a b hab => ?_) hw1
                intro q
                exact hab (by simpa using q)
              have hdis : ∀ a ∈ within k ((ofRows cols[ax].2.2 (rw' :: rows)).filter (isOf c)) c.1 (cpath cols[ax]), ∀ b ∈ cols.take ax ++ cols.drop (ax + 1), cpath a ≠ cpath b := fun a haa b hbb e => by
                have := path_apart hpc (hpk b (hsub b hbb)) a.2.1
                refine this ?_
                rw [← e]
                show a.1 ++ _ = _
                rw [(hw2 a haa).1]
              rw [List.map_append, List.map_append, List.append_assoc, List.nodup_append]
              rw [List.map_append, List.nodup_append] at hn1
              refine ⟨hn1.1, ?_, ?_⟩
              · rw [List.nodup_append]
                refine ⟨hwn, hn1.2.1, fun a ha b hb => ?_⟩
                obtain ⟨a', ha', rfl⟩ := List.mem_map.1 ha
                obtain ⟨b', hb', rfl⟩ := List.mem_map.1 hb
                exact hdis a' ha' b' (List.mem_append.2 (.inr hb'))
              · intro a ha b hb
                rcases List.mem_append.1 hb with hb | hb
                · obtain ⟨a', ha', rfl⟩ := List.mem_map.1 ha
                  obtain ⟨b', hb', rfl⟩ := List.mem_map.1 hb
                  exact fun q => hdis b' hb' a' (List.mem_append.2 (.inl ha')) q.symm
                · exact hn1.2.2 a ha b hb
          have hels : ∀ (q : Nat) (u : List Stp), toFail k fs f (treeP k fs f q (cols.take ax ++ cols.drop (ax + 1)) (without (rw' :: rows) (ofRows cols[ax].2.2 (rw' :: rows)))).1 = some u → (∀ s ∈ u, ∃ x, valAt vs s.1 = some x ∧ LabFits s.2 x) →
              downP f (treeP k fs f q (cols.take ax ++ cols.drop (ax + 1)) (without (rw' :: rows) (ofRows cols[ax].2.2 (rw' :: rows)))).1 vs (r.reverse.map (·.1) ++ [cpath cols[ax]]) = -1 := fun q u h1 h2 => by
            have es : r.reverse.map (·.1) ++ [cpath cols[ax]] = (((cpath cols[ax], ((0, [], 0), 0)) : Stp) :: r).reverse.map (·.1) := by simp
            rw [es]
            exact fail_down hkn vs N f q _ _ m ((cpath cols[ax], ((0, [], 0), 0)) :: r) u (fun d hd => hg d (hsub d hd)) (hpc.ok hr rfl) (fun d hd => (hpk d (hsub d hd)).on fun e => hn2 d hd e.symm) hn1 h1 h2
          have hnd : (casesOf k (ofRows cols[ax].2.2 (rw' :: rows))).Nodup := ((casesOf_facts k _ (apart_of hk htg)).1).imp fun {a b} hab e => by rw [e, csLt_irr] at hab; cases hab
          have hcf : ∀ c ∈ casesOf k (ofRows cols[ax].2.2 (rw' :: rows)), (c.1 ≠ [] → c.2 = 0) := fun c hc => (case_facts hk htg hc).1
          have h0 := cases_ne (fs := fs) hk htg (ofRows_ne (rows := rows) ha hi)
          have hoth : isFull k fs (casesOf k (ofRows cols[ax].2.2 (rw' :: rows))) = false → ∀ x, LabFits (otherThan k fs (casesOf k (ofRows cols[ax].2.2 (rw' :: rows)))) x → ∀ c ∈ casesOf k (ofRows cols[ax].2.2 (rw' :: rows)), hit x c = false := fun hf x hx => other_none hkn htg h0 hf hx
          clear hn hn1 hn2 hsub hg hpk
          have hcp : cpath cols[ax] = cols[ax].1 ++ [cols[ax].2.1] := rfl
          rw [hcp] at hkid hels hseen
          unfold branchP at h ⊢
          simp only at h ⊢
          generalize ofRows cols[ax].2.2 (rw' :: rows) = spots at *
          generalize stepP k fs f cols (rw' :: rows) ax spots (cols[ax].1 ++ [cols[ax].2.1]) = step at *
          have hfst := eachP_fst (step := step) (casesOf k spots) (n + 1)
          have main : ∀ (t : Tr (f + 1)) (l2 : List (Tr f)), t.1 = (3, 0, cols[ax].1 ++ [cols[ax].2.1]) → t.2.1 = (casesOf k spots).zip (eachP step (casesOf k spots) (n + 1)).1 → t.2.2 = l2 → (∀ e ∈ l2, l2 = [e] ∧ isFull k fs (casesOf k spots) = false ∧ ∃ q, e = (treeP k fs f q (cols.take ax ++ cols.drop (ax + 1)) (without (rw' :: rows) spots)).1) → failP k fs f 3 (cols[ax].1 ++ [cols[ax].2.1]) ((casesOf k spots).zip (eachP step (casesOf k spots) (n + 1)).1) l2 = some way → downP (f + 1) t vs (r.reverse.map (·.1)) = -1 := fun t l2 e1 e2 e5 hl2 h => by
            unfold downP
            have e3 : t.1.1 = 3 := by rw [e1]
            have e4 : t.1.2.2 = cols[ax].1 ++ [cols[ax].2.1] := by rw [e1]
            rw [if_pos e3, e4, e2, e5]
            unfold failP at h
            rw [if_neg (by decide)] at h
            split at h
            · rename_i z hz
              obtain rfl := Option.some.inj h
              obtain ⟨c, hc, hcz⟩ := List.exists_of_findSome?_eq_some hz
              obtain ⟨hcc, q, hq⟩ := eachP_zip _ _ c.1 c.2 hc
              cases hu : toFail k fs f c.2 with
              | none => rw [hu] at hcz; cases hcz
              | some u =>
                rw [hu] at hcz
                obtain rfl := Option.some.inj hcz
                obtain ⟨x, hx, hlx⟩ := hw _ (List.mem_append_right _ (List.mem_singleton.2 rfl))
                rw [hx]
                simp only
                rw [if_neg hseen]
                have hnx : nextP x ((casesOf k spots).zip (eachP step (casesOf k spots) (n + 1)).1) = some c.2 := nextP_some none hc (lab_hit hlx) fun d hd hh => by
                  have hdc : d.1 ∈ casesOf k spots := by rw [← hfst]; exact List.mem_map.2 ⟨d, hd, rfl⟩
                  exact nodup_fst (by rw [hfst]; exact hnd) hd hc (lab_one hlx (hcf _ hcc) (hcf _ hdc) hh)
                rw [hnx]
                simp only
                rw [hq] at hu ⊢
                exact hkid c.1 q u hcc hu fun s hs => hw s (List.mem_append_left _ hs)
            · obtain ⟨e, he, hez⟩ := List.exists_of_findSome?_eq_some h
              obtain ⟨hl, hfl, q, hq⟩ := hl2 e he
              cases hu : toFail k fs f e with
              | none => rw [hu] at hez; cases hez
              | some u =>
                rw [hu] at hez
                obtain rfl := Option.some.inj hez
                obtain ⟨x, hx, hlx⟩ := hw _ (List.mem_append_right _ (List.mem_singleton.2 rfl))
                rw [hx]
                simp only
                rw [if_neg hseen]
                rw [hfst] at hlx
                have hno := hoth hfl x hlx
                rw [nextP_none fun d hd => hno _ (by rw [← hfst]; exact List.mem_map.2 ⟨d, hd, rfl⟩), hl]
                simp only
                rw [hq] at hu ⊢
                exact hels q u hu fun s hs => hw s (List.mem_append_left _ hs)
          split at h
          · rename_i hfu
            rw [if_pos hfu]
            exact main _ [] rfl rfl rfl (fun e he => by simp at he) h
          · rename_i hfu
            rw [if_neg hfu]
            exact main _ _ rfl rfl rfl (fun e he => by rw [List.mem_singleton.1 he]; exact ⟨rfl, by simpa using hfu, _, rfl⟩) h
end Go.Proofs.Ytpdmkhnonbbhnaa
