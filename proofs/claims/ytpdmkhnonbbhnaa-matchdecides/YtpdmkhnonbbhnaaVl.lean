/- The tree of rows: what toFail asks of it; the way to a failure is one that missing takes. Plain. -/
import Derived.Test.YtpdmkhnonbbhnaaVh
import Derived.Test.YtpdmkhnonbbhnaaMnx
import Derived.Test.YtpdmkhnonbbhnaaMlx
import Derived.Test.YtpdmkhnonbbhnaaVf
import Derived.Test.YtpdmkhnonbbhnaaMix
namespace Go.Proofs.Ytpdmkhnonbbhnaa

theorem eachP_zip {α β : Type} {step : α → Nat → β × Nat} : ∀ (l : List α) (n : Nat) (c : α) (t : β), (c, t) ∈ l.zip (eachP step l n).1 → c ∈ l ∧ ∃ m, t = (step c m).1
  | [], _, _, _, h => by simp at h
  | a :: r, n, c, t, h => by
    unfold eachP at h
    rw [List.zip_cons_cons] at h
    rcases List.mem_cons.1 h with h | h
    · injection h with h1 h2
      subst h1
      exact ⟨by simp, n, h2⟩
    · obtain ⟨h1, h2⟩ := eachP_zip r _ c t h
      exact ⟨List.mem_cons_of_mem _ h1, h2⟩
theorem eachP_fst {α β : Type} {step : α → Nat → β × Nat} (l : List α) (n : Nat) : (l.zip (eachP step l n).1).map (·.1) = l := by
  rw [List.map_fst_zip]
  rw [eachP_len]
  exact Nat.le_refl _
/-- Every name's place lies in its family. -/
def KnPl (k : Kn) (fs : List Fam) : Prop := ∀ e ∈ k, ∃ f, fs[e.2.1]? = some f ∧ e.2.2.1 < f.1.length
theorem knowC_pl {i : Nat} {P : Str × Nat × Nat × Nat → Prop} : ∀ (ns : List Str) (xs : List Int) (p : Nat) (k k' : Kn), (∀ e ∈ k, P e) → (∀ n x j, j < ns.length → P (n, i, p + j, x)) → knowC i k p ns xs = some k' → ∀ e ∈ k', P e
  | [], _, p, k, k', h, _, e => by
    unfold knowC at e
    obtain rfl := Option.some.inj e
    exact h
  | n :: ns, [], p, k, k', h, _, e => by
    unfold knowC at e
    cases e
  | n :: ns, x :: xs, p, k, k', h, hp, e => by
    unfold knowC at e
    split at e
    · cases e
    · refine knowC_pl ns xs (p + 1) _ k' (fun a ha => ?_) (fun m y j hj => ?_) e
      · rcases List.mem_append.1 ha with ha | ha
        · exact h a ha
        · obtain rfl := List.mem_singleton.1 ha
          exact hp n x.toNat 0 (by simp)
      · have := hp m y (j + 1) (by simp; omega)
        rwa [show p + (j + 1) = p + 1 + j by omega] at this
theorem knowF_pl' {fs0 : List Fam} : ∀ (fs : List Fam) (i : Nat) (k k' : Kn), fs0.drop i = fs → KnPl k fs0 → knowF i k fs = some k' → KnPl k' fs0
  | [], i, k, k', _, h, e => by
    unfold knowF at e
    obtain rfl := Option.some.inj e
    exact h
  | f :: fs, i, k, k', hd, h, e => by
    unfold knowF at e
    split at e
    · cases e
    · cases hc : knowC i k 0 f.1 f.2 with
      | none => rw [hc] at e; cases e
      | some k1 =>
        rw [hc] at e
        have hf : fs0[i]? = some f := by
          have := congrArg (fun l : List Fam => l[0]?) hd
          simpa using this
        refine knowF_pl' fs (i + 1) k1 k' ?_ ?_ e
        · have := congrArg List.tail hd
          rw [List.tail_drop] at this
          simpa using this
        · refine knowC_pl (P := fun e => ∃ f, fs0[e.2.1]? = some f ∧ e.2.2.1 < f.1.length) f.1 f.2 0 k k1 h (fun n x j hj => ⟨f, hf, ?_⟩) hc
          show 0 + j < _
          omega
theorem knowF_pl {fs : List Fam} {k : Kn} (h : knowF 0 [] fs = some k) : KnPl k fs := knowF_pl' fs 0 [] k rfl (fun e he => by simp at he) h
theorem case_facts {k : Kn} {fs : List Fam} {spots : List Sp} (hk : KnOk k fs) (h : together k spots = true) {c : Cs} (hc : c ∈ casesOf k spots) : (c.1 ≠ [] → c.2 = 0) ∧ (c.1 ≠ [] → ∃ e, look k c.1 = some e ∧ (c.1, e) ∈ k ∧ looks k c.1 = e) := by
  obtain ⟨s, hs, rfl, _⟩ := case_of hk h hc
  obtain ⟨_, hm, _⟩ := together_all h s hs s hs
  rcases mayBe_kind hm with h3 | h4
  · have e : csOf s.2 = ([], s.2.num) := by unfold csOf; rw [if_neg (by omega)]
    rw [e]
    exact ⟨fun q => absurd rfl q, fun q => absurd rfl q⟩
  · have e : csOf s.2 = (s.2.name, 0) := by unfold csOf; rw [if_pos h4]
    rw [e]
    obtain ⟨c, h1, _, h3⟩ := mayBe_con hm h4
    exact ⟨fun _ => rfl, fun _ => ⟨c, h1, look_mem h1, h3⟩⟩
/-- Cases that are not all leave a constructor out. -/
theorem gap_lt {k : Kn} {fs : List Fam} {spots : List Sp} (hk : KnOk k fs) (hp : KnPl k fs) (h : together k spots = true) (h0 : 0 < (casesOf k spots).length) (hc : (casesOf k spots)[0].1 ≠ []) (hf : isFull k fs (casesOf k spots) = false) :
    ∃ hin : (looks k (casesOf k spots)[0].1).1 < fs.length, gapP k (casesOf k spots)[0].1 (casesOf k spots) 0 < fs[(looks k (casesOf k spots)[0].1).1].1.length := by
  obtain ⟨_, h2⟩ := case_facts hk h (List.getElem_mem h0)
  obtain ⟨e, h3, h4, h5⟩ := h2 hc
  have hin : (looks k (casesOf k spots)[0].1).1 < fs.length := by rw [h5]; exact hk.family _ h4
  refine ⟨hin, ?_⟩
  have hA := apart_of hk h
  obtain ⟨hr, hmem⟩ := casesOf_facts k spots hA
  have hall : ∀ c ∈ casesOf k spots, c.1 ≠ [] ∧ c.2 = 0 ∧ (looks k c.1).2.1 < fs[(looks k (casesOf k spots)[0].1).1].1.length := by
    intro c hcm
    obtain ⟨s, hs, hcs, _⟩ := case_of hk h hcm
    obtain ⟨s0, hs0, hcs0, _⟩ := case_of hk h (List.getElem_mem h0)
    obtain ⟨q1, q2, q3⟩ := together_all h s hs s0 hs0
    obtain ⟨_, q4, _⟩ := together_all h s0 hs0 s0 hs0
    have k0 : s0.2.kind = 4 := by
      rcases mayBe_kind q4 with e | e
      · exact absurd (by rw [hcs0]; unfold csOf; rw [if_neg (by omega)]) hc
      · exact e
    have e1 : c = (s.2.name, 0) := by rw [hcs]; unfold csOf; rw [if_pos (by omega)]
    have e0 : (casesOf k spots)[0] = (s0.2.name, 0) := by rw [hcs0]; unfold csOf; rw [if_pos k0]
    obtain ⟨d, d1, _, d3⟩ := mayBe_con q2 (by omega)
    have hd := look_mem d1
    rw [e1]
    refine ⟨hk.name _ hd, rfl, ?_⟩
    obtain ⟨f, f1, f2⟩ := hp _ hd
    have hfam : (looks k (casesOf k spots)[0].1).1 = d.1 := by rw [e0, ← q3 k0, d3]
    have : fs[(looks k (casesOf k spots)[0].1).1] = f := by
      have h7 : fs[d.1]? = some f := f1
      rw [← hfam, List.getElem?_eq_getElem hin] at h7
      exact Option.some.inj h7
    rw [this]
    show (looks k s.2.name).2.1 < _
    rw [d3]
    exact f2
  have hlen : (casesOf k spots).length ≤ fs[(looks k (casesOf k spots)[0].1).1].1.length := by
    have hri : ((casesOf k spots).map fun c => (looks k c.1).2.1).Pairwise (· < ·) := by
      rw [List.pairwise_map]
      refine hr.imp_of_mem fun {a b} ha hb hab => ?_
      rw [csLt_iff] at hab
      rcases hab with e | ⟨_, e⟩
      · exact e
      · rw [(hall a ha).2.1, (hall b hb).2.1] at e
        omega
    have := rise_len hri fs[(looks k (casesOf k spots)[0].1).1].1.length (fun x hx => by
      obtain ⟨c, hc, rfl⟩ := List.mem_map.1 hx
      exact (hall c hc).2.2)
    simpa using this
  have hne : (casesOf k spots).length ≠ fs[(looks k (casesOf k spots)[0].1).1].1.length := fun e => by
    have : isFull k fs (casesOf k spots) = true := by
      cases hcs : casesOf k spots with
      | nil => rw [hcs] at h0; simp at h0
      | cons a r =>
        have ea : (casesOf k spots)[0] = a := by simp [hcs]
        have e9 : fs[(looks k a.1).1]? = some fs[(looks k (casesOf k spots)[0].1).1] := by
          rw [← ea]
          exact List.getElem?_eq_getElem hin
        unfold isFull
        simp only
        rw [ea] at hc
        rw [e9]
        simp only [Bool.and_eq_true, bne_iff_ne, ne_eq, beq_iff_eq]
        refine ⟨hc, ?_⟩
        rw [← hcs]
        exact e
    rw [this] at hf
    cases hf
  have hg := gapP_le k (casesOf k spots)[0].1 (casesOf k spots) 0
  omega
theorem ofRows_ne {cols : List Col} {r : Nat} {rows : List Nat} {ax : Nat} (ha : ax < cols.length) (hi : cols.findIdx? (hasRow r) = some ax) : ofRows cols[ax].2.2 (r :: rows) ≠ [] := by
  have h1 := (List.findIdx?_eq_some_iff_getElem.1 hi).2.1
  unfold hasRow at h1
  obtain ⟨s, hs, he⟩ := List.any_eq_true.1 h1
  have : s ∈ ofRows cols[ax].2.2 (r :: rows) := List.mem_filter.2 ⟨hs, by
    rw [eq_of_beq he]
    simp⟩
  exact List.ne_nil_of_mem this
theorem treeP_tok {k : Kn} {fs : List Fam} (hk : KnOk k fs) (hp : KnPl k fs) : ∀ (f n : Nat) (cols : List Col) (rows : List Nat) (m : Nat), (∀ c ∈ cols, Good k m c) → Tok k fs f (treeP k fs f n cols rows).1
  | 0, _, _, _, _, _ => trivial
  | f + 1, n, cols, rows, m, hg => by
    by_cases hn : 5000 ≤ n
    · rw [treeP_big _ _ _ _ _ _ hn]; exact Tok.zero _ _ _
    · cases rows with
      | nil => rw [treeP_none _ _ _ _ _ (by omega)]; exact ⟨fun c h => by simp at h, fun h => by simp at h, fun c h => by simp at h, fun c h => by simp at h⟩
      | cons r rows =>
        cases hi : cols.findIdx? (hasRow r) with
        | none => rw [treeP_row _ _ _ _ _ _ _ (by omega) hi]; exact ⟨fun c h => by simp at h, fun h => by simp at h, fun c h => by simp at h, fun c h => by simp at h⟩
        | some ax =>
          have ha : ax < cols.length := (List.findIdx?_eq_some_iff_getElem.1 hi).1
          rw [treeP_branch _ _ _ _ _ _ _ _ ha (by omega) hi]
          have hgc := hg _ (List.getElem_mem ha)
          have hne := ofRows_ne (rows := rows) ha hi
          have htg : together k (ofRows cols[ax].2.2 (r :: rows)) = true := (hgc.right.sub hk List.filter_sublist).together
          have hkid : ∀ x ∈ casesOf k (ofRows cols[ax].2.2 (r :: rows)), ∀ q, Tok k fs f (stepP k fs f cols (r :: rows) ax (ofRows cols[ax].2.2 (r :: rows)) (cols[ax].1 ++ [cols[ax].2.1]) x q).1 := fun x hx q => by
            refine treeP_tok hk hp f q _ _ (m + 1) fun c hc => ?_
            rcases List.mem_append.1 hc with hc | hc
            · rcases List.mem_append.1 hc with hc | hc
              · exact (hg c (List.mem_of_mem_take hc)).up (by omega)
              · exact hgc.within hk (r :: rows) hx hc
            · exact (hg c (List.mem_of_mem_drop hc)).up (by omega)
          have hels : ∀ q, Tok k fs f (treeP k fs f q (cols.take ax ++ cols.drop (ax + 1)) (without (r :: rows) (ofRows cols[ax].2.2 (r :: rows)))).1 := fun q => by
            refine treeP_tok hk hp f q _ _ m fun c hc => ?_
            rcases List.mem_append.1 hc with hc | hc
            · exact hg c (List.mem_of_mem_take hc)
            · exact hg c (List.mem_of_mem_drop hc)
          unfold branchP
          simp only
          generalize ofRows cols[ax].2.2 (r :: rows) = spots at *
          generalize stepP k fs f cols (r :: rows) ax spots (cols[ax].1 ++ [cols[ax].2.1]) = step at *
          have h1 : ∀ c ∈ (casesOf k spots).zip (eachP step (casesOf k spots) (n + 1)).1, (c.1.1 ≠ [] → c.1.2 = 0) ∧ Tok k fs f c.2 := fun c hc => by
            obtain ⟨q1, q, q2⟩ := eachP_zip _ _ c.1 c.2 hc
            exact ⟨(case_facts hk htg q1).1, by rw [q2]; exact hkid _ q1 q⟩
          split
          · exact ⟨fun c hc => (h1 c hc).1, fun h => by simp at h, fun c hc => (h1 c hc).2, fun e he => by simp at he⟩
          · rename_i hf
            refine ⟨fun c hc => (h1 c hc).1, fun _ => ?_, fun c hc => (h1 c hc).2, fun e he => by rw [List.mem_singleton.1 he]; exact hels _⟩
            have hl : ((casesOf k spots).zip (eachP step (casesOf k spots) (n + 1)).1).length = (casesOf k spots).length := by rw [List.length_zip, eachP_len, Nat.min_self]
            have h0 := cases_ne (fs := fs) hk htg hne
            have e0 : ∀ h, ((casesOf k spots).zip (eachP step (casesOf k spots) (n + 1)).1)[0]'h = ((casesOf k spots)[0], (eachP step (casesOf k spots) (n + 1)).1[0]'(by rw [eachP_len]; exact h0)) := fun h => List.getElem_zip
            refine ⟨by show 0 < ((casesOf k spots).zip (eachP step (casesOf k spots) (n + 1)).1).length; omega, ?_⟩
            show (((casesOf k spots).zip (eachP step (casesOf k spots) (n + 1)).1)[0]'(by omega)).1.1 ≠ [] → _
            have hfst := eachP_fst (step := step) (casesOf k spots) (n + 1)
            simp only [e0, hfst]
            intro hc
            exact gap_lt hk hp htg h0 hc (by simpa using hf)
/-- A column's path. -/
def cpath (c : Col) : List Nat := c.1 ++ [c.2.1]
structure Pok (N : Nat) (r : List Stp) (c : Col) : Prop where
  reach : Reach N r (cpath c)
  new : ∀ y ∈ r, y.1 ≠ cpath c
  len : (cpath c).length ≤ r.length + 1
theorem Pok.on {N : Nat} {r : List Stp} {c : Col} (h : Pok N r c) {s : Stp} (hs : s.1 ≠ cpath c) : Pok N (s :: r) c := ⟨h.reach.more fun y hy => List.mem_cons_of_mem _ hy, fun y hy => by
    rcases List.mem_cons.1 hy with rfl | hy
    · exact hs
    · exact h.new y hy, by have := h.len; simp; omega⟩
theorem Pok.ok {N : Nat} {r : List Stp} {c : Col} (h : Pok N r c) (hr : WayOk N r) {s : Stp} (hs : s.1 = cpath c) : WayOk N (s :: r) := by
  refine ⟨hr, ?_, ?_, ?_, ?_⟩
  · rw [hs]; unfold cpath; simp
  · rw [hs]; exact h.len
  · rw [hs]; exact h.reach
  · rw [hs]; exact h.new
theorem Pok.inside {N : Nat} {r : List Stp} {c col : Col} (h : Pok N r c) (hr : WayOk N r) {s : Stp} (hs : s.1 = cpath c) (h1 : col.1 = cpath c) (h2 : col.2.1 < s.2.2) : Pok N (s :: r) col := by
  have hne : cpath c ≠ [] := by unfold cpath; simp
  have e : cpath col = cpath c ++ [col.2.1] := by show col.1 ++ _ = _; rw [h1]
  refine ⟨?_, ?_, ?_⟩
  · rw [e]
    exact h.reach.down hs hne _ h2
  · rw [e]
    intro y hy
    rcases List.mem_cons.1 hy with rfl | hy
    · rw [hs]
      intro q
      have := congrArg List.length q
      simp at this
    · exact hr.fresh hne h.new _ y hy
  · rw [e]
    have := h.len
    simp
    omega
theorem cut_nodup {cols : List Col} {ax : Nat} (ha : ax < cols.length) (hn : (cols.map cpath).Nodup) : ((cols.take ax ++ cols.drop (ax + 1)).map cpath).Nodup ∧ ∀ c ∈ cols.take ax ++ cols.drop (ax + 1), cpath c ≠ cpath cols[ax] := by
  have e : cols = cols.take ax ++ (cols[ax] :: cols.drop (ax + 1)) := by rw [← List.drop_eq_getElem_cons ha, List.take_append_drop]
  rw [e, List.map_append, List.map_cons] at hn
  rw [List.nodup_append] at hn
  obtain ⟨h1, h2, h3⟩ := hn
  rw [List.nodup_cons] at h2
  have ed : (List.take ax cols ++ cols[ax] :: List.drop (ax + 1) cols)[ax]'(by rw [← e]; exact ha) = cols[ax] := by
    congr 1
    exact e.symm
  refine ⟨?_, ?_⟩
  · rw [List.map_append, List.nodup_append]
    exact ⟨h1, h2.2, fun a ha b hb => h3 a ha b (List.mem_cons_of_mem _ hb)⟩
  · intro c hc
    rcases List.mem_append.1 hc with hc | hc
    · exact h3 _ (List.mem_map.2 ⟨c, hc, rfl⟩) _ (by simp)
    · exact fun q => h2.1 (by rw [← q]; exact List.mem_map.2 ⟨c, hc, rfl⟩)
theorem colsOf_nums (around : List Nat) (lines : List (Nat × List Pt)) : ∀ w, ((colsOf around w lines).map (·.2.1)).Nodup ∧ ∀ c ∈ colsOf around w lines, c.1 = around ∧ c.2.1 < w
  | 0 => ⟨by simp [colsOf], fun c hc => by simp [colsOf] at hc⟩
  | w + 1 => by
    obtain ⟨h1, h2⟩ := colsOf_nums around lines w
    rw [colsOf_succ]
    by_cases he : (spotsOf w lines).isEmpty = true
    · rw [if_pos he, List.append_nil]
      exact ⟨h1, fun c hc => ⟨(h2 c hc).1, by have := (h2 c hc).2; omega⟩⟩
    · rw [if_neg he, List.map_append, List.nodup_append]
      refine ⟨⟨h1, by simp, fun a ha b hb => ?_⟩, fun c hc => ?_⟩
      · obtain ⟨c, hc, rfl⟩ := List.mem_map.1 ha
        have := (h2 c hc).2
        simp at hb
        omega
      · rcases List.mem_append.1 hc with hc | hc
        · exact ⟨(h2 c hc).1, by have := (h2 c hc).2; omega⟩
        · obtain rfl := List.mem_singleton.1 hc
          exact ⟨rfl, by show w < w + 1; omega⟩
theorem patOf_cnt {k : Kn} {fs : List Fam} (hk : KnOk k fs) (c : Cs) : (patOf k c).2 ≤ 8 ∧ (patOf k c).2 = (looks k c.1).2.2 := by
  unfold patOf
  split
  · rename_i h
    rw [h, looks_nil hk]
    exact ⟨by show 0 ≤ 8; omega, rfl⟩
  · exact ⟨looks_fields hk _, rfl⟩
theorem otherThan_cnt {k : Kn} {fs : List Fam} (hk : KnOk k fs) (cs : List Cs) : (otherThan k fs cs).2 ≤ 8 := by
  cases cs with
  | nil => simp [otherThan]
  | cons c r =>
    unfold otherThan
    simp only
    split
    · exact (patOf_cnt hk _).1
    · exact (patOf_cnt hk _).1
theorem path_apart {N : Nat} {r : List Stp} {c d : Col} (hc : Pok N r c) (hd : Pok N r d) (i : Nat) : cpath d ≠ cpath c ++ [i] := fun e => by
  have hne : cpath c ≠ [] := by unfold cpath; simp
  have h1 := hd.reach
  rw [e] at h1
  rcases h1 (cpath c).length (by simp) with ⟨h0, _⟩ | ⟨_, z, hz, h5, _⟩
  · exact hne (List.eq_nil_of_length_eq_zero h0)
  · rw [List.take_left' rfl] at h5
    exact hc.new z hz h5
theorem tree_way {k : Kn} {fs : List Fam} (hk : KnOk k fs) (N : Nat) : ∀ (f n : Nat) (cols : List Col) (rows : List Nat) (r way : List Stp), WayOk N r → (∀ c ∈ cols, Pok N r c) → (cols.map cpath).Nodup → toFail k fs f (treeP k fs f n cols rows).1 = some way → WayOk N (way ++ r) ∧ ∀ s ∈ way, s.2.2 ≤ 8
  | 0, _, _, _, _, _, _, _, _, h => by cases h
  | f + 1, n, cols, rows, r, way, hr, hp, hn, h => by
    by_cases hb : 5000 ≤ n
    · rw [treeP_big _ _ _ _ _ _ hb, toFail_eq] at h
      simp [failP, trZero] at h
    · cases rows with
      | nil =>
        rw [treeP_none _ _ _ _ _ (by omega), toFail_eq] at h
        simp [failP] at h
        subst h
        exact ⟨hr, fun s hs => by simp at hs⟩
      | cons rw' rows =>
        cases hi : cols.findIdx? (hasRow rw') with
        | none =>
          rw [treeP_row _ _ _ _ _ _ _ (by omega) hi, toFail_eq] at h
          simp [failP] at h
        | some ax =>
          have ha : ax < cols.length := (List.findIdx?_eq_some_iff_getElem.1 hi).1
          rw [treeP_branch _ _ _ _ _ _ _ _ ha (by omega) hi, toFail_eq] at h
          have hpc := hp _ (List.getElem_mem ha)
          obtain ⟨hn1, hn2⟩ := cut_nodup ha hn
          have hsub : ∀ c ∈ cols.take ax ++ cols.drop (ax + 1), Pok N r c := fun c hc => by
            rcases List.mem_append.1 hc with hc | hc
            · exact hp c (List.mem_of_mem_take hc)
            · exact hp c (List.mem_of_mem_drop hc)
          have fin : ∀ (s : Stp), s.1 = cpath cols[ax] → s.2.2 ≤ 8 → ∀ (u : List Stp) (cols' : List Col) (rows' : List Nat) (q : Nat), (∀ c ∈ cols', Pok N (s :: r) c) → (cols'.map cpath).Nodup → toFail k fs f (treeP k fs f q cols' rows').1 = some u → WayOk N ((u ++ [s]) ++ r) ∧ ∀ t ∈ u ++ [s], t.2.2 ≤ 8 := fun s hs h8 u cols' rows' q h1 h2 h3 => by
            obtain ⟨q1, q2⟩ := tree_way hk N f q cols' rows' (s :: r) u (hpc.ok hr hs) h1 h2 h3
            refine ⟨by rw [List.append_assoc]; exact q1, fun t ht => ?_⟩
            rcases List.mem_append.1 ht with ht | ht
            · exact q2 t ht
            · rw [List.mem_singleton.1 ht]; exact h8
          have fin1 : ∀ (x : Cs) (q : Nat) (u : List Stp), toFail k fs f (stepP k fs f cols (rw' :: rows) ax (ofRows cols[ax].2.2 (rw' :: rows)) (cols[ax].1 ++ [cols[ax].2.1]) x q).1 = some u → WayOk N ((u ++ [(cols[ax].1 ++ [cols[ax].2.1], patOf k x)]) ++ r) ∧ ∀ t ∈ u ++ [(cols[ax].1 ++ [cols[ax].2.1], patOf k x)], t.2.2 ≤ 8 := fun x q u hu => by
            obtain ⟨hw1, hw2⟩ := colsOf_nums (cols[ax].1 ++ [cols[ax].2.1]) (linesOf ((ofRows cols[ax].2.2 (rw' :: rows)).filter (isOf x))) (looks k x.1).2.2
            refine fin (cols[ax].1 ++ [cols[ax].2.1], patOf k x) rfl (patOf_cnt hk x).1 u _ _ q (fun c hc => ?_) ?_ hu
            · rcases List.mem_append.1 hc with hc | hc
              · rcases List.mem_append.1 hc with hc | hc
                · exact (hsub c (List.mem_append.2 (.inl hc))).on fun e => hn2 c (List.mem_append.2 (.inl hc)) e.symm
                · obtain ⟨q1, q2⟩ := hw2 c hc
                  exact hpc.inside hr rfl q1 (by rw [(patOf_cnt hk x).2]; exact q2)
              · exact (hsub c (List.mem_append.2 (.inr hc))).on fun e => hn2 c (List.mem_append.2 (.inr hc)) e.symm
            · have hwn : ((within k ((ofRows cols[ax].2.2 (rw' :: rows)).filter (isOf x)) x.1 (cols[ax].1 ++ [cols[ax].2.1])).map cpath).Nodup := by
                have e : (within k ((ofRows cols[ax].2.2 (rw' :: rows)).filter (isOf x)) x.1 (cols[ax].1 ++ [cols[ax].2.1])).map cpath = ((within k ((ofRows cols[ax].2.2 (rw' :: rows)).filter (isOf x)) x.1 (cols[ax].1 ++ [cols[ax].2.1])).map (·.2.1)).map fun i => (cols[ax].1 ++ [cols[ax].2.1]) ++ [i] := by
                  rw [List.map_map]
                  refine List.map_congr_left fun c hc => ?_
                  show c.1 ++ [c.2.1] = _
                  rw [(hw2 c hc).1]
                  rfl
                rw [e]
                refine List.Pairwise.map _ (fun a b hab => ?_) hw1
                intro q
                exact hab (by simpa using q)
              have hdis : ∀ a ∈ within k ((ofRows cols[ax].2.2 (rw' :: rows)).filter (isOf x)) x.1 (cols[ax].1 ++ [cols[ax].2.1]), ∀ b ∈ cols.take ax ++ cols.drop (ax + 1), cpath a ≠ cpath b := fun a haa b hbb e => by
                have := path_apart hpc (hsub b hbb) a.2.1
                refine this ?_
                rw [← e]
                show a.1 ++ _ = _
                rw [(hw2 a haa).1]
                rfl
              rw [List.map_append, List.map_append, List.append_assoc, List.nodup_append]
              rw [List.map_append, List.nodup_append] at hn1
              refine ⟨hn1.1, ?_, ?_⟩
              · rw [List.nodup_append]
                refine ⟨hwn, hn1.2.1, fun a ha b hb => ?_⟩
                obtain ⟨a', ha', rfl⟩ := List.mem_map.1 ha
                obtain ⟨b', hb', rfl⟩ := List.mem_map.1 hb
                exact hdis a' ha' b' (List.mem_append.2 (.inr hb'))
              · intro a ha b hb
                rcases List.mem_append.1 hb with hb | hb
                · obtain ⟨a', ha', rfl⟩ := List.mem_map.1 ha
                  obtain ⟨b', hb', rfl⟩ := List.mem_map.1 hb
                  exact fun q => hdis b' hb' a' (List.mem_append.2 (.inl ha')) q.symm
                · exact hn1.2.2 a ha b hb
          have fin2 : ∀ (cs : List Cs) (q : Nat) (u : List Stp), toFail k fs f (treeP k fs f q (cols.take ax ++ cols.drop (ax + 1)) (without (rw' :: rows) (ofRows cols[ax].2.2 (rw' :: rows)))).1 = some u → WayOk N ((u ++ [(cols[ax].1 ++ [cols[ax].2.1], otherThan k fs cs)]) ++ r) ∧ ∀ t ∈ u ++ [(cols[ax].1 ++ [cols[ax].2.1], otherThan k fs cs)], t.2.2 ≤ 8 := fun cs q u hu => by
            refine fin (cols[ax].1 ++ [cols[ax].2.1], otherThan k fs cs) rfl (otherThan_cnt hk cs) u _ _ q (fun c hc => (hsub c hc).on fun e => hn2 c hc e.symm) hn1 hu
          clear fin hp hn hn1 hn2 hsub
          unfold branchP at h
          simp only at h
          generalize ofRows cols[ax].2.2 (rw' :: rows) = spots at *
          generalize stepP k fs f cols (rw' :: rows) ax spots (cols[ax].1 ++ [cols[ax].2.1]) = step at *
          have main : ∀ (l2 : List (Tr f)), (∀ e ∈ l2, ∃ q, e = (treeP k fs f q (cols.take ax ++ cols.drop (ax + 1)) (without (rw' :: rows) spots)).1) → failP k fs f 3 (cols[ax].1 ++ [cols[ax].2.1]) ((casesOf k spots).zip (eachP step (casesOf k spots) (n + 1)).1) l2 = some way → WayOk N (way ++ r) ∧ ∀ s ∈ way, s.2.2 ≤ 8 := fun l2 hl2 h => by
            unfold failP at h
            rw [if_neg (by decide)] at h
            split at h
            · rename_i z hz
              obtain rfl := Option.some.inj h
              obtain ⟨c, hc, hcz⟩ := List.exists_of_findSome?_eq_some hz
              obtain ⟨_, q, hq⟩ := eachP_zip _ _ c.1 c.2 hc
              cases hu : toFail k fs f c.2 with
              | none => rw [hu] at hcz; cases hcz
              | some u =>
                rw [hu] at hcz
                obtain rfl := Option.some.inj hcz
                rw [hq] at hu
                exact fin1 c.1 q u hu
            · obtain ⟨e, he, hez⟩ := List.exists_of_findSome?_eq_some h
              obtain ⟨q, rfl⟩ := hl2 e he
              cases hu : toFail k fs f (treeP k fs f q (cols.take ax ++ cols.drop (ax + 1)) (without (rw' :: rows) spots)).1 with
              | none => rw [hu] at hez; cases hez
              | some u =>
                rw [hu] at hez
                obtain rfl := Option.some.inj hez
                exact fin2 _ q u hu
          split at h
          · exact main [] (fun e he => by simp at he) h
          · exact main _ (fun e he => ⟨_, List.mem_singleton.1 he⟩) h
theorem start_way {k : Kn} {fs : List Fam} (hk : KnOk k fs) (f n width : Nat) (lines : List (Nat × List Pt)) (rows : List Nat) (way : List Stp) (h : toFail k fs f (treeP k fs f n (colsOf [] width lines) rows).1 = some way) : WayOk width way ∧ ∀ s ∈ way, s.2.2 ≤ 8 := by
  obtain ⟨h1, h2⟩ := colsOf_nums [] lines width
  have := tree_way hk width f n (colsOf [] width lines) rows [] way trivial (fun c hc => ?_) ?_ h
  · rw [List.append_nil] at this
    exact this
  · obtain ⟨q1, q2⟩ := h2 c hc
    have e : cpath c = [c.2.1] := by show c.1 ++ _ = _; rw [q1]; rfl
    refine ⟨?_, fun y hy => by simp at hy, by rw [e]; simp⟩
    rw [e]
    intro j hj
    obtain rfl : j = 0 := by simp at hj; omega
    exact .inl ⟨rfl, q2⟩
  · have e : (colsOf [] width lines).map cpath = ((colsOf [] width lines).map (·.2.1)).map fun i => [i] := by
      rw [List.map_map]
      refine List.map_congr_left fun c hc => ?_
      show c.1 ++ [c.2.1] = _
      rw [(h2 c hc).1]
      rfl
    rw [e]
    refine List.Pairwise.map _ (fun a b hab => ?_) h1
    intro q
    exact hab (by simpa using q)
end Go.Proofs.Ytpdmkhnonbbhnaa
