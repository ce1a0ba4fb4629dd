/- What Compile answers does not hang on the names of variables, nor on whether there are any (plain). What Compile answers does not hang on a family in front that nobody names (plain). The family that the law adds in front changes no answer (plain). Rows with other names are no heavier (plain). -/
import Derived.Test.YtpdmkhnonbbhnaaWc
import Derived.Test.YtpdmkhnonbbhnaaMpx
namespace Go.Proofs.Ytpdmkhnonbbhnaa

theorem all_on {α : Type} {p q : α → Bool} : ∀ {l : List α}, (∀ a ∈ l, p a = q a) → l.all p = l.all q
  | [], _ => rfl
  | a :: l, h => by
    rw [List.all_cons, List.all_cons, h a (List.mem_cons_self ..), all_on fun x hx => h x (List.mem_cons_of_mem _ hx)]
theorem any_on {α : Type} {p q : α → Bool} : ∀ {l : List α}, (∀ a ∈ l, p a = q a) → l.any p = l.any q
  | [], _ => rfl
  | a :: l, h => by
    rw [List.any_cons, List.any_cons, h a (List.mem_cons_self ..), any_on fun x hx => h x (List.mem_cons_of_mem _ hx)]
variable (nm : Str)
theorem renT_wilds (p : Pt) : wild (renT nm p) = wild p := by
  unfold wild Pt.kind
  by_cases h : p.kind = 2
  · have h' : p.lab.1 = 2 := h
    by_cases hn : nm = []
    · rw [(renT_wild nm hn p h).1, h']; rfl
    · rw [(renT_var nm hn p h).1, h']
  · rw [(renT_else nm p h).1]
theorem two_wild {p : Pt} (h : wild p = false) : p.kind ≠ 2 := fun e => by
  unfold wild at h
  rw [e] at h
  exact absurd h (by decide)
theorem renT_lab {p : Pt} (h : wild p = false) : (renT nm p).lab = p.lab := (renT_else nm p (two_wild h)).1
theorem renT_kids {p : Pt} (h : wild p = false) : (renT nm p).kids = p.kids.map (renT nm) := (renT_else nm p (two_wild h)).2
theorem renT_kind {p : Pt} (h : wild p = false) : (renT nm p).kind = p.kind := by unfold Pt.kind; rw [renT_lab nm h]
theorem renT_name {p : Pt} (h : wild p = false) : (renT nm p).name = p.name := by unfold Pt.name; rw [renT_lab nm h]
theorem renT_num {p : Pt} (h : wild p = false) : (renT nm p).num = p.num := by unfold Pt.num; rw [renT_lab nm h]
def rnS (s : Sp) : Sp := (s.1, renT nm s.2)
def rnL (l : Nat × List Pt) : Nat × List Pt := (l.1, l.2.map (renT nm))
def rnCol (c : Col) : Col := (c.1, c.2.1, c.2.2.map (rnS nm))
/-- None of some spots is wild. -/
def Nw0 (l : List Sp) : Prop := ∀ s ∈ l, wild s.2 = false
theorem Nw0.filter {l : List Sp} (h : Nw0 l) (q : Sp → Bool) : Nw0 (l.filter q) := fun s hs => h s (List.mem_filter.1 hs).1
theorem spotsOf_nw (n : Nat) (lines : List (Nat × List Pt)) : Nw0 (spotsOf n lines) := fun s hs => by
  unfold spotsOf at hs
  rw [List.mem_filterMap] at hs
  obtain ⟨l, _, h⟩ := hs
  cases hp : l.2[n]? with
  | none => rw [hp] at h; simp at h
  | some p =>
    rw [hp] at h
    dsimp only at h
    by_cases hw : wild p = true
    · rw [if_pos hw] at h; simp at h
    · rw [if_neg hw] at h
      injection h with h
      subst h
      simpa using hw
theorem spotsOf_ren (n : Nat) (lines : List (Nat × List Pt)) : spotsOf n (lines.map (rnL nm)) = (spotsOf n lines).map (rnS nm) := by
  unfold spotsOf
  rw [List.filterMap_map, List.map_filterMap]
  refine congrArg (fun g => List.filterMap g lines) (funext fun l => ?_)
  show (match (l.2.map (renT nm))[n]? with | some p => if wild p then none else some (l.1, p) | none => none) = _
  rw [List.getElem?_map]
  cases hp : l.2[n]? with
  | none => rfl
  | some p =>
    show (if wild (renT nm p) then none else some (l.1, renT nm p)) = _
    rw [renT_wilds]
    dsimp only
    split <;> rfl
theorem colsOf_ren (around : List Nat) (width : Nat) (lines : List (Nat × List Pt)) : colsOf around width (lines.map (rnL nm)) = (colsOf around width lines).map (rnCol nm) := by
  unfold colsOf
  rw [List.map_filterMap]
  refine congrArg (fun g => List.filterMap g (List.range width)) (funext fun n => ?_)
  rw [spotsOf_ren, List.isEmpty_map]
  split <;> rfl
theorem colsOf_nw (around : List Nat) (width : Nat) (lines : List (Nat × List Pt)) : ∀ c ∈ colsOf around width lines, Nw0 c.2.2 := fun c hc => by
  unfold colsOf at hc
  rw [List.mem_filterMap] at hc
  obtain ⟨n, _, h⟩ := hc
  split at h
  · simp at h
  · injection h with h
    subst h
    exact spotsOf_nw _ _
theorem linesOf_ren {spots : List Sp} (h : Nw0 spots) : linesOf (spots.map (rnS nm)) = (linesOf spots).map (rnL nm) := by
  unfold linesOf
  rw [List.map_map, List.map_map]
  refine List.map_congr_left fun s hs => ?_
  show (s.1, (renT nm s.2).kids) = (s.1, s.2.kids.map (renT nm))
  rw [renT_kids nm (h s hs)]
theorem within_ren (k : Kn) {spots : List Sp} (h : Nw0 spots) (con : Str) (path : List Nat) : within k (spots.map (rnS nm)) con path = (within k spots con path).map (rnCol nm) := by
  unfold within
  rw [linesOf_ren nm h, colsOf_ren]
theorem within_nw (k : Kn) (spots : List Sp) (con : Str) (path : List Nat) : ∀ c ∈ within k spots con path, Nw0 c.2.2 := colsOf_nw _ _ _
theorem csOf_ren {p : Pt} (h : wild p = false) : csOf (renT nm p) = csOf p := by
  unfold csOf
  rw [renT_kind nm h, renT_name nm h, renT_num nm h]
theorem casesOf_ren (k : Kn) : ∀ {spots : List Sp}, Nw0 spots → casesOf k (spots.map (rnS nm)) = casesOf k spots
  | [], _ => rfl
  | s :: l, h => by
    show putCs k (csOf (renT nm s.2)) (casesOf k (l.map (rnS nm))) = putCs k (csOf s.2) (casesOf k l)
    rw [casesOf_ren k (fun x hx => h x (List.mem_cons_of_mem _ hx)), csOf_ren nm (h s (List.mem_cons_self ..))]
theorem isOf_ren (c : Cs) {s : Sp} (h : wild s.2 = false) : isOf c (rnS nm s) = isOf c s := by
  unfold isOf rnS
  dsimp only
  rw [renT_num nm h, renT_name nm h]
theorem filter_ren (q q' : Sp → Bool) {l : List Sp} (h : ∀ s ∈ l, q' (rnS nm s) = q s) : (l.map (rnS nm)).filter q' = (l.filter q).map (rnS nm) := by
  induction l with
  | nil => rfl
  | cons a l ih =>
    rw [List.map_cons, List.filter_cons, List.filter_cons, h a (List.mem_cons_self ..), ih fun s hs => h s (List.mem_cons_of_mem _ hs)]
    split <;> rfl
theorem mayBe_ren (k : Kn) {p : Pt} (h : wild p = false) : mayBe k (renT nm p) = mayBe k p := by
  unfold mayBe
  rw [renT_kind nm h, renT_num nm h, renT_name nm h, renT_kids nm h, List.length_map]
theorem together_ren (k : Kn) {spots : List Sp} (h : Nw0 spots) : together k (spots.map (rnS nm)) = together k spots := by
  cases spots with
  | nil => rfl
  | cons f l =>
    unfold together
    rw [List.map_cons]
    dsimp only
    rw [← List.map_cons (f := rnS nm), List.all_map]
    have hf := h f (List.mem_cons_self ..)
    refine all_on fun s hs => ?_
    have hs' := h s hs
    show ((renT nm s.2).kind == (renT nm f.2).kind && mayBe k (renT nm s.2) && ((renT nm f.2).kind != 4 || (looks k (renT nm s.2).name).1 == (looks k (renT nm f.2).name).1)) = _
    rw [renT_kind nm hs', renT_kind nm hf, mayBe_ren nm k hs', renT_name nm hs', renT_name nm hf]
theorem right_ren (k : Kn) : ∀ (d : Nat) {spots : List Sp}, Nw0 spots → rightN k d (spots.map (rnS nm)) = rightN k d spots
  | 0, _, _ => rfl
  | d + 1, spots, h => by
    unfold rightN
    rw [together_ren nm k h, casesOf_ren nm k h]
    congr 1
    refine all_on fun c _ => ?_
    rw [filter_ren nm (isOf c) (isOf c) fun s hs => isOf_ren nm c (h s hs), within_ren nm k (h.filter _), List.all_map]
    refine all_on fun col hc => ?_
    exact right_ren k d (within_nw _ _ _ _ col hc)
theorem ofRows_ren (spots : List Sp) (rows : List Nat) : ofRows (spots.map (rnS nm)) rows = (ofRows spots rows).map (rnS nm) := filter_ren nm _ _ fun _ _ => rfl
theorem without_ren (rows : List Nat) (spots : List Sp) : without rows (spots.map (rnS nm)) = without rows spots := by
  unfold without
  refine congrArg (fun g => List.filter g rows) (funext fun r => ?_)
  rw [List.any_map]
  rfl
theorem hasRow_ren (r : Nat) (c : Col) : hasRow r (rnCol nm c) = hasRow r c := by
  unfold hasRow rnCol
  rw [List.any_map]
  rfl
theorem eachP_congr {α β : Type} {f g : α → Nat → β × Nat} : ∀ (l : List α) (n : Nat), (∀ x ∈ l, ∀ m, f x m = g x m) → eachP f l n = eachP g l n
  | [], _, _ => rfl
  | a :: r, n, h => by
    unfold eachP
    rw [h a (List.mem_cons_self ..) n, eachP_congr r _ fun x hx => h x (List.mem_cons_of_mem _ hx)]
theorem find_ren (cols : List Col) (r : Nat) : (cols.map (rnCol nm)).findIdx? (hasRow r) = cols.findIdx? (hasRow r) := by
  rw [List.findIdx?_map]
  congr 1
  exact funext fun c => hasRow_ren nm r c
theorem tree_ren (k : Kn) (fs : List Fam) : ∀ (f n : Nat) (cols : List Col) (rows : List Nat), (∀ c ∈ cols, Nw0 c.2.2) → treeP k fs f n (cols.map (rnCol nm)) rows = treeP k fs f n cols rows
  | 0, _, _, _, _ => rfl
  | f + 1, n, cols, rows, h => by
    by_cases hn : 5000 ≤ n
    · rw [treeP_big _ _ _ _ _ _ hn, treeP_big _ _ _ _ _ _ hn]
    · cases rows with
      | nil => rw [treeP_none _ _ _ _ _ (by omega), treeP_none _ _ _ _ _ (by omega)]
      | cons r rows =>
        have hf := find_ren nm cols r
        cases hi : cols.findIdx? (hasRow r) with
        | none => rw [treeP_row _ _ _ _ _ _ _ (by omega) hi, treeP_row _ _ _ _ _ _ _ (by omega) (hf.trans hi)]
        | some ax =>
          have ha : ax < cols.length := (List.findIdx?_eq_some_iff_getElem.1 hi).1
          rw [treeP_branch _ _ _ _ _ _ _ _ ha (by omega) hi, treeP_branch _ _ _ _ _ _ _ _ (by rw [List.length_map]; exact ha) (by omega) (hf.trans hi), List.getElem_map]
          have hc := h _ (List.getElem_mem ha)
          generalize cols[ax] = c at *
          have hs : Nw0 (ofRows c.2.2 (r :: rows)) := hc.filter _
          have e1 : ofRows (rnCol nm c).2.2 (r :: rows) = (ofRows c.2.2 (r :: rows)).map (rnS nm) := ofRows_ren nm _ _
          unfold branchP
          dsimp only
          rw [e1]
          generalize ofRows c.2.2 (r :: rows) = spots at *
          rw [casesOf_ren nm k hs]
          have hst : ∀ x ∈ casesOf k spots, ∀ m, stepP k fs f (cols.map (rnCol nm)) (r :: rows) ax (spots.map (rnS nm)) ((rnCol nm c).1 ++ [(rnCol nm c).2.1]) x m = stepP k fs f cols (r :: rows) ax spots (c.1 ++ [c.2.1]) x m := fun x _ m => by
            unfold stepP
            rw [filter_ren nm (isOf x) (isOf x) fun s hs' => isOf_ren nm x (hs s hs'), filter_ren nm (fun s => !isOf x s) (fun s => !isOf x s) fun s hs' => by rw [isOf_ren nm x (hs s hs')], within_ren nm k (hs.filter _), without_ren, ← List.map_take, ← List.map_drop, ← List.map_append, ← List.map_append]
            refine tree_ren k fs f m _ _ fun c' hc' => ?_
            rcases List.mem_append.1 hc' with hc' | hc'
            · rcases List.mem_append.1 hc' with hc' | hc'
              · exact h c' (List.mem_of_mem_take hc')
              · exact within_nw _ _ _ _ c' hc'
            · exact h c' (List.mem_of_mem_drop hc')
          have hel : ∀ m, treeP k fs f m ((cols.map (rnCol nm)).take ax ++ (cols.map (rnCol nm)).drop (ax + 1)) (without (r :: rows) (spots.map (rnS nm))) = treeP k fs f m (cols.take ax ++ cols.drop (ax + 1)) (without (r :: rows) spots) := fun m => by
            rw [without_ren, ← List.map_take, ← List.map_drop, ← List.map_append]
            refine tree_ren k fs f m _ _ fun c' hc' => ?_
            rcases List.mem_append.1 hc' with hc' | hc'
            · exact h c' (List.mem_of_mem_take hc')
            · exact h c' (List.mem_of_mem_drop hc')
          rw [eachP_congr _ _ hst, hel]
          rfl
theorem above_ren : ∀ (l : Nat) (p : Pt), above l (renT nm p) = above l p
  | 0, _ => rfl
  | l + 1, p => by
    unfold above
    by_cases h : p.kind = 2
    · have e : (renT nm p).kind ≠ 4 := by
        unfold Pt.kind
        by_cases hn : nm = []
        · rw [(renT_wild nm hn p h).1]; decide
        · rw [(renT_var nm hn p h).1]
          exact (by decide : (2 : Int) ≠ 4)
      rw [h]
      have : ((renT nm p).kind == 4) = false := by simpa using e
      rw [this]
      rfl
    · have e : (renT nm p).kind = p.kind := by unfold Pt.kind; rw [(renT_else nm p h).1]
      rw [e, (renT_else nm p h).2, List.any_map]
      congr 1
      refine any_on fun q _ => above_ren l q
/-- The rows, each with other names. -/
def rnR (rows : List (List Pt)) : List (List Pt) := rows.map fun r => r.map (renT nm)
theorem deep_ren (rows : List (List Pt)) : deepP (rnR nm rows) = deepP rows := by
  unfold deepP rnR
  rw [List.any_map]
  refine any_on fun r _ => ?_
  show (r.map (renT nm)).any (above 1000) = _
  rw [List.any_map]
  exact any_on fun p _ => above_ren nm 1000 p
theorem long_ren (rows : List (List Pt)) : longP (rnR nm rows) = longP rows := by
  unfold longP rnR
  rw [List.length_map, List.any_map]
  congr 1
  refine any_on fun r _ => ?_
  show decide (16 < (r.map (renT nm)).length) = _
  rw [List.length_map]
theorem head_ren (rows : List (List Pt)) : ((rnR nm rows).headD []).length = (rows.headD []).length := by
  cases rows with
  | nil => rfl
  | cons r l => exact List.length_map _
theorem lines_ren (rows : List (List Pt)) : linesR (rnR nm rows) = (linesR rows).map (rnL nm) := by
  unfold linesR rnR
  rw [List.length_map, List.zip_map_right]
  rfl
theorem treeQ_ren (F : Nat) (k : Kn) (fs : List Fam) (rows : List (List Pt)) : treeQ F k fs (rnR nm rows) = treeQ F k fs rows := by
  unfold treeQ
  rw [head_ren, lines_ren, colsOf_ren, tree_ren nm k fs F 0 _ _ (colsOf_nw _ _ _)]
  unfold rnR
  rw [List.length_map]
theorem right_rows_ren {k : Kn} {rows : List (List Pt)} (h : RightR k rows) : RightR k (rnR nm rows) := by
  refine ⟨fun x hx => ?_, fun c hc d => ?_⟩
  · rw [head_ren]
    obtain ⟨r, hr, rfl⟩ := List.mem_map.1 hx
    rw [List.length_map]
    exact h.1 r hr
  · rw [head_ren, lines_ren, colsOf_ren] at hc
    obtain ⟨c', hc', rfl⟩ := List.mem_map.1 hc
    show rightN k d (c'.2.2.map (rnS nm)) = true
    rw [right_ren nm k d (colsOf_nw _ _ _ c' hc')]
    exact h.2 c' hc' d
theorem cover_ren (F : Nat) (k : Kn) (fs : List Fam) (f : Nat) (t : Tr f) (rows : List (List Pt)) : coverQ F k fs f t (rnR nm rows) = coverQ F k fs f t rows := by
  unfold coverQ
  cases rows with
  | nil => rfl
  | cons r l =>
    show (_, (List.range ((r :: l).map fun r => r.map (renT nm)).length).filter _, match toFail k fs f t with | none => [] | some way => missQ F (r.map (renT nm)).length way) = _
    rw [List.length_map, List.length_map]
    cases toFail k fs f t <;> rfl
/-- An answer without an error stays what it is. -/
theorem comp_ren {F : Nat} {fs : List Fam} {rows : List (List Pt)} {t : Tr F} {c : Cv F} (h : CompIs F fs rows 0 (some (t, c))) : CompIs F fs (rnR nm rows) 0 (some (t, c)) := by
  obtain ⟨h0, k, h1, h2, h3, h4, h5, rfl, rfl⟩ := comp_ok h
  refine .inr ⟨by rw [long_ren]; exact h0, .inr ⟨k, h1, .inr ⟨right_rows_ren nm h2, .inr ⟨by rw [treeQ_ren]; exact h3, .inr ⟨⟨by rw [treeQ_ren]; exact h4, by rw [deep_ren]; exact h5⟩, rfl, ?_⟩⟩⟩⟩⟩
  rw [treeQ_ren, cover_ren]
end Go.Proofs.Ytpdmkhnonbbhnaa

namespace Go.Proofs.Ytpdmkhnonbbhnaa

/-- One family more in front: what is known is known, by one place later. -/
structure Sft (k k' : Kn) (fs fs' : List Fam) : Prop where
  seen : ∀ n e, look k n = some e → look k' n = some (e.1 + 1, e.2)
  fam : ∀ i, fs'[i + 1]? = fs[i]?
  bare : look k [] = none
  bare' : look k' [] = none
  names : ∀ f ∈ fs, ∀ n ∈ f.1, ∃ e, look k n = some e
/-- Nothing, or a name that is known. -/
def Kn1 (k : Kn) (n : Str) : Prop := n = [] ∨ ∃ e, look k n = some e
variable {k k' : Kn} {fs fs' : List Fam}
theorem Sft.two (h : Sft k k' fs fs') {n : Str} (hn : Kn1 k n) : (looks k' n).2 = (looks k n).2 := by
  unfold looks
  rcases hn with rfl | ⟨e, he⟩
  · rw [h.bare, h.bare']
  · rw [he, h.seen n e he]; rfl
theorem Sft.one (h : Sft k k' fs fs') {n : Str} {e : Nat × Nat × Nat} (he : look k n = some e) : (looks k' n).1 = (looks k n).1 + 1 := by
  unfold looks
  rw [he, h.seen n e he]; rfl
theorem Sft.lt (h : Sft k k' fs fs') {a b : Cs} (ha : Kn1 k a.1) (hb : Kn1 k b.1) : csLt k' a b = csLt k a b := by
  unfold csLt
  rw [h.two ha, h.two hb]
theorem Sft.put (h : Sft k k' fs fs') {c : Cs} (hc : Kn1 k c.1) : ∀ {l : List Cs}, (∀ a ∈ l, Kn1 k a.1) → putCs k' c l = putCs k c l
  | [], _ => rfl
  | a :: r, hl => by
    have ha := hl a (List.mem_cons_self ..)
    unfold putCs
    rw [h.lt hc ha, h.lt ha hc, h.put hc fun x hx => hl x (List.mem_cons_of_mem _ hx)]
theorem putCs_in (k : Kn) (c : Cs) : ∀ (l : List Cs) (x : Cs), x ∈ putCs k c l → x = c ∨ x ∈ l
  | [], x, hx => .inl (by simpa [putCs] using hx)
  | a :: r, x, hx => by
    unfold putCs at hx
    split at hx
    · rcases List.mem_cons.1 hx with e | e
      · exact .inl e
      · exact .inr e
    · split at hx
      · rcases List.mem_cons.1 hx with e | e
        · exact .inr (by rw [e]; exact List.mem_cons_self ..)
        · rcases putCs_in k c r x e with e | e
          · exact .inl e
          · exact .inr (List.mem_cons_of_mem _ e)
      · exact .inr hx
/-- The constructors of some spots are known. -/
def Knw (k : Kn) (l : List Sp) : Prop := ∀ s ∈ l, Kn1 k (csOf s.2).1
theorem casesOf_in (k : Kn) : ∀ (l : List Sp) (x : Cs), x ∈ casesOf k l → ∃ s ∈ l, x = csOf s.2
  | [], x, hx => by simp [casesOf] at hx
  | s :: l, x, hx => by
    rcases putCs_in k _ _ x hx with e | e
    · exact ⟨s, List.mem_cons_self .., e⟩
    · obtain ⟨y, hy, e⟩ := casesOf_in k l x e
      exact ⟨y, List.mem_cons_of_mem _ hy, e⟩
theorem Knw.cases {l : List Sp} (h : Knw k l) : ∀ x ∈ casesOf k l, Kn1 k x.1 := fun x hx => by
  obtain ⟨s, hs, rfl⟩ := casesOf_in k l x hx
  exact h s hs
theorem Sft.cases (h : Sft k k' fs fs') : ∀ {l : List Sp}, Knw k l → casesOf k' l = casesOf k l
  | [], _ => rfl
  | s :: l, hl => by
    have hl' : Knw k l := fun x hx => hl x (List.mem_cons_of_mem _ hx)
    show putCs k' (csOf s.2) (casesOf k' l) = putCs k (csOf s.2) (casesOf k l)
    rw [h.cases hl', h.put (hl s (List.mem_cons_self ..)) hl'.cases]
theorem Sft.within (h : Sft k k' fs fs') (spots : List Sp) {con : Str} (hc : Kn1 k con) (path : List Nat) : Ytpdmkhnonbbhnaa.within k' spots con path = Ytpdmkhnonbbhnaa.within k spots con path := by
  unfold Ytpdmkhnonbbhnaa.within
  rw [h.two hc]
theorem Sft.full (h : Sft k k' fs fs') {cs : List Cs} (hc : ∀ x ∈ cs, Kn1 k x.1) : isFull k' fs' cs = isFull k fs cs := by
  cases cs with
  | nil => rfl
  | cons c r =>
    unfold isFull
    dsimp only
    rcases hc c (List.mem_cons_self ..) with e | ⟨e, he⟩
    · rw [e]; rfl
    · rw [h.one he, h.fam]
/-- What stands together: its constructors are known. -/
theorem together_knw {l : List Sp} (h : together k l = true) : Knw k l := fun s hs => by
  cases l with
  | nil => simp at hs
  | cons f r =>
    unfold together at h
    have := List.all_eq_true.1 h s hs
    simp only [Bool.and_eq_true] at this
    have hm := this.1.2
    unfold mayBe at hm
    unfold csOf
    by_cases h4 : s.2.kind = 4
    · rw [if_pos h4]
      rw [if_neg (by rw [h4]; decide), if_pos h4] at hm
      cases hl : look k s.2.name with
      | none => rw [hl] at hm; cases hm
      | some e => exact .inr ⟨e, hl⟩
    · rw [if_neg h4]
      exact .inl rfl
theorem Sft.tree (h : Sft k k' fs fs') (hk : KnOk k fs) : ∀ (f n : Nat) (cols : List Col) (rows : List Nat) (m : Nat), (∀ c ∈ cols, Good k m c) → treeP k' fs' f n cols rows = treeP k fs f n cols rows
  | 0, _, _, _, _, _ => rfl
  | f + 1, n, cols, rows, m, hg => by
    by_cases hn : 5000 ≤ n
    · rw [treeP_big _ _ _ _ _ _ hn, treeP_big _ _ _ _ _ _ hn]
    · cases rows with
      | nil => rw [treeP_none _ _ _ _ _ (by omega), treeP_none _ _ _ _ _ (by omega)]
      | cons r rows =>
        cases hi : cols.findIdx? (hasRow r) with
        | none => rw [treeP_row _ _ _ _ _ _ _ (by omega) hi, treeP_row _ _ _ _ _ _ _ (by omega) hi]
        | some ax =>
          have ha : ax < cols.length := (List.findIdx?_eq_some_iff_getElem.1 hi).1
          rw [treeP_branch _ _ _ _ _ _ _ _ ha (by omega) hi, treeP_branch _ _ _ _ _ _ _ _ ha (by omega) hi]
          have hgc := hg _ (List.getElem_mem ha)
          have hkw : Knw k (ofRows cols[ax].2.2 (r :: rows)) := together_knw (hgc.right.sub hk List.filter_sublist).together
          have hst : ∀ x ∈ casesOf k (ofRows cols[ax].2.2 (r :: rows)), ∀ q, stepP k' fs' f cols (r :: rows) ax (ofRows cols[ax].2.2 (r :: rows)) (cols[ax].1 ++ [cols[ax].2.1]) x q = stepP k fs f cols (r :: rows) ax (ofRows cols[ax].2.2 (r :: rows)) (cols[ax].1 ++ [cols[ax].2.1]) x q := fun x hx q => by
            unfold stepP
            rw [h.within _ (hkw.cases x hx)]
            refine h.tree hk f q _ _ (m + 1) fun c hc => ?_
            rcases List.mem_append.1 hc with hc | hc
            · rcases List.mem_append.1 hc with hc | hc
              · exact (hg c (List.mem_of_mem_take hc)).up (by omega)
              · exact hgc.within hk (r :: rows) hx hc
            · exact (hg c (List.mem_of_mem_drop hc)).up (by omega)
          have hel : ∀ q, treeP k' fs' f q (cols.take ax ++ cols.drop (ax + 1)) (without (r :: rows) (ofRows cols[ax].2.2 (r :: rows))) = treeP k fs f q (cols.take ax ++ cols.drop (ax + 1)) (without (r :: rows) (ofRows cols[ax].2.2 (r :: rows))) := fun q => by
            refine h.tree hk f q _ _ m fun c hc => ?_
            rcases List.mem_append.1 hc with hc | hc
            · exact hg c (List.mem_of_mem_take hc)
            · exact hg c (List.mem_of_mem_drop hc)
          unfold branchP
          dsimp only
          rw [h.cases hkw, eachP_congr _ _ hst, hel, h.full hkw.cases]
theorem Sft.may (h : Sft k k' fs fs') {p : Pt} (hm : mayBe k p = true) : mayBe k' p = true := by
  unfold mayBe at hm ⊢
  by_cases h3 : p.kind = 3
  · rw [if_pos h3] at hm ⊢; exact hm
  · rw [if_neg h3] at hm ⊢
    by_cases h4 : p.kind = 4
    · rw [if_pos h4] at hm ⊢
      cases hl : look k p.name with
      | none => rw [hl] at hm; cases hm
      | some e =>
        rw [hl] at hm
        rw [h.seen _ _ hl]
        exact hm
    · rw [if_neg h4] at hm ⊢; exact hm
theorem Sft.same (h : Sft k k' fs fs') {l : List Sp} (ht : together k l = true) : together k' l = true := by
  cases l with
  | nil => rfl
  | cons f r =>
    unfold together at ht ⊢
    rw [List.all_eq_true] at ht ⊢
    intro s hs
    have h1 := ht s hs
    simp only [Bool.and_eq_true, Bool.or_eq_true] at h1 ⊢
    refine ⟨⟨h1.1.1, h.may h1.1.2⟩, ?_⟩
    rcases h1.2 with h2 | h2
    · exact .inl h2
    · by_cases h4 : f.2.kind = 4
      · refine .inr ?_
        have hs4 : s.2.kind = 4 := by have := h1.1.1; rw [beq_iff_eq] at this; rw [this]; exact h4
        have hm := (ht f (List.mem_cons_self ..))
        simp only [Bool.and_eq_true] at hm
        have known : ∀ {q : Pt}, q.kind = 4 → mayBe k q = true → ∃ e, look k q.name = some e := fun {q} hq hm => by
          unfold mayBe at hm
          rw [if_neg (by rw [hq]; decide), if_pos hq] at hm
          cases hl : look k q.name with
          | none => rw [hl] at hm; cases hm
          | some e => exact ⟨e, rfl⟩
        obtain ⟨e1, he1⟩ := known hs4 h1.1.2
        obtain ⟨e2, he2⟩ := known h4 hm.1.2
        rw [beq_iff_eq] at h2 ⊢
        rw [h.one he1, h.one he2, h2]
      · exact .inl (by simpa using h4)
theorem Sft.right (h : Sft k k' fs fs') : ∀ (d : Nat) (l : List Sp), rightN k d l = true → rightN k' d l = true
  | 0, _, _ => rfl
  | d + 1, l, hr => by
    unfold rightN at hr ⊢
    rw [Bool.and_eq_true, List.all_eq_true] at hr ⊢
    have hkw := together_knw hr.1
    refine ⟨h.same hr.1, fun c hc => ?_⟩
    rw [h.cases hkw] at hc
    rw [h.within _ (hkw.cases c hc), List.all_eq_true]
    intro col hcol
    exact h.right d _ (List.all_eq_true.1 (hr.2 c hc) col hcol)
/-- All names of cases in a tree are known. -/
def Tnm (k : Kn) : (f : Nat) → Tr f → Prop
  | 0, _ => True
  | f + 1, t => (∀ c ∈ t.2.1, Kn1 k c.1.1) ∧ (∀ c ∈ t.2.1, Tnm k f c.2) ∧ ∀ e ∈ t.2.2, Tnm k f e
theorem Tnm.zero (k : Kn) : ∀ f, Tnm k f (trZero f)
  | 0 => trivial
  | _ + 1 => ⟨fun c h => by simp [trZero] at h, fun c h => by simp [trZero] at h, fun c h => by simp [trZero] at h⟩
theorem treeP_tn (hk : KnOk k fs) : ∀ (f n : Nat) (cols : List Col) (rows : List Nat) (m : Nat), (∀ c ∈ cols, Good k m c) → Tnm k f (treeP k fs f n cols rows).1
  | 0, _, _, _, _, _ => trivial
  | f + 1, n, cols, rows, m, hg => by
    by_cases hn : 5000 ≤ n
    · rw [treeP_big _ _ _ _ _ _ hn]; exact Tnm.zero _ _
    · cases rows with
      | nil => rw [treeP_none _ _ _ _ _ (by omega)]; exact ⟨fun c h => by simp at h, fun c h => by simp at h, fun c h => by simp at h⟩
      | cons r rows =>
        cases hi : cols.findIdx? (hasRow r) with
        | none => rw [treeP_row _ _ _ _ _ _ _ (by omega) hi]; exact ⟨fun c h => by simp at h, fun c h => by simp at h, fun c h => by simp at h⟩
        | some ax =>
          have ha : ax < cols.length := (List.findIdx?_eq_some_iff_getElem.1 hi).1
          rw [treeP_branch _ _ _ _ _ _ _ _ ha (by omega) hi]
          have hgc := hg _ (List.getElem_mem ha)
          have hkw : Knw k (ofRows cols[ax].2.2 (r :: rows)) := together_knw (hgc.right.sub hk List.filter_sublist).together
          have hkid : ∀ x ∈ casesOf k (ofRows cols[ax].2.2 (r :: rows)), ∀ q, Tnm k f (stepP k fs f cols (r :: rows) ax (ofRows cols[ax].2.2 (r :: rows)) (cols[ax].1 ++ [cols[ax].2.1]) x q).1 := fun x hx q => by
            refine treeP_tn hk f q _ _ (m + 1) fun c hc => ?_
            rcases List.mem_append.1 hc with hc | hc
            · rcases List.mem_append.1 hc with hc | hc
              · exact (hg c (List.mem_of_mem_take hc)).up (by omega)
              · exact hgc.within hk (r :: rows) hx hc
            · exact (hg c (List.mem_of_mem_drop hc)).up (by omega)
          have hels : ∀ q, Tnm k f (treeP k fs f q (cols.take ax ++ cols.drop (ax + 1)) (without (r :: rows) (ofRows cols[ax].2.2 (r :: rows)))).1 := fun q => by
            refine treeP_tn hk f q _ _ m fun c hc => ?_
            rcases List.mem_append.1 hc with hc | hc
            · exact hg c (List.mem_of_mem_take hc)
            · exact hg c (List.mem_of_mem_drop hc)
          unfold branchP
          simp only
          generalize ofRows cols[ax].2.2 (r :: rows) = spots at *
          generalize stepP k fs f cols (r :: rows) ax spots (cols[ax].1 ++ [cols[ax].2.1]) = step at *
          have h1 : ∀ c ∈ (casesOf k spots).zip (eachP step (casesOf k spots) (n + 1)).1, Kn1 k c.1.1 ∧ Tnm k f c.2 := fun c hc => by
            obtain ⟨q1, q, q2⟩ := eachP_zip _ _ c.1 c.2 hc
            rw [q2]
            exact ⟨hkw.cases _ q1, hkid _ q1 q⟩
          split
          · exact ⟨fun c hc => (h1 c hc).1, fun c hc => (h1 c hc).2, fun e he => by simp at he⟩
          · exact ⟨fun c hc => (h1 c hc).1, fun c hc => (h1 c hc).2, fun e he => by rw [List.mem_singleton.1 he]; exact hels _⟩
theorem Sft.pat (h : Sft k k' fs fs') {c : Cs} (hc : Kn1 k c.1) : patOf k' c = patOf k c := by
  unfold patOf
  rw [h.two hc]
theorem Sft.gap (h : Sft k k' fs fs') (con : Str) : ∀ {cs : List Cs} (g : Nat), (∀ x ∈ cs, Kn1 k x.1) → gapP k' con cs g = gapP k con cs g
  | [], _, _ => rfl
  | c :: r, g, hc => by
    unfold gapP
    rw [h.two (hc c (List.mem_cons_self ..)), h.gap con _ fun x hx => hc x (List.mem_cons_of_mem _ hx)]
theorem Sft.other (h : Sft k k' fs fs') {cs : List Cs} (hc : ∀ x ∈ cs, Kn1 k x.1) : otherThan k' fs' cs = otherThan k fs cs := by
  cases cs with
  | nil => rfl
  | cons c r =>
    unfold otherThan
    dsimp only
    rcases hc c (List.mem_cons_self ..) with e | ⟨e, he⟩
    · rw [if_pos e, if_pos e, h.gap _ _ hc]
      exact h.pat (.inl rfl)
    · have hne : ¬ c.1 = [] := fun e' => by rw [e', h.bare] at he; cases he
      rw [if_neg hne, if_neg hne, h.one he, h.fam, h.gap _ _ hc]
      refine h.pat ?_
      show Kn1 k (match fs[(looks k c.1).1]? with | some f => f.1.getD (gapP k c.1 (c :: r) 0) [] | none => [])
      cases hf : fs[(looks k c.1).1]? with
      | none => exact .inl rfl
      | some f =>
        dsimp only
        generalize gapP k c.1 (c :: r) 0 = g
        by_cases hg : g < f.1.length
        · refine .inr ?_
          have : f.1.getD g [] = f.1[g] := by simp [List.getD, hg]
          rw [this]
          exact h.names f (List.mem_of_getElem? hf) _ (List.getElem_mem hg)
        · refine .inl ?_
          simp [List.getD, hg]
theorem findSome_on {α β : Type} {p q : α → Option β} : ∀ {l : List α}, (∀ a ∈ l, p a = q a) → l.findSome? p = l.findSome? q
  | [], _ => rfl
  | a :: l, h => by
    rw [List.findSome?_cons, List.findSome?_cons, h a (List.mem_cons_self ..), findSome_on fun x hx => h x (List.mem_cons_of_mem _ hx)]
theorem Sft.fail (h : Sft k k' fs fs') : ∀ (f : Nat) (t : Tr f), Tnm k f t → toFail k' fs' f t = toFail k fs f t
  | 0, _, _ => rfl
  | f + 1, t, ht => by
    unfold toFail
    have e1 : t.2.1.findSome? (fun c => (toFail k' fs' f c.2).map fun y => y ++ [(t.1.2.2, patOf k' c.1)]) = t.2.1.findSome? (fun c => (toFail k fs f c.2).map fun y => y ++ [(t.1.2.2, patOf k c.1)]) := findSome_on fun c hc => by
      rw [h.fail f c.2 (ht.2.1 c hc), h.pat (ht.1 c hc)]
    have e2 : t.2.2.findSome? (fun e => (toFail k' fs' f e).map fun y => y ++ [(t.1.2.2, otherThan k' fs' (t.2.1.map (·.1)))]) = t.2.2.findSome? (fun e => (toFail k fs f e).map fun y => y ++ [(t.1.2.2, otherThan k fs (t.2.1.map (·.1)))]) := findSome_on fun e he => by
      rw [h.fail f e (ht.2.2 e he), h.other fun x hx => by obtain ⟨c, hc, rfl⟩ := List.mem_map.1 hx; exact ht.1 c hc]
    rw [e1, e2]
end Go.Proofs.Ytpdmkhnonbbhnaa

namespace Go.Proofs.Ytpdmkhnonbbhnaa

def sh (e : Str × Nat × Nat × Nat) : Str × Nat × Nat × Nat := (e.1, e.2.1 + 1, e.2.2)
theorem knowC_sh (k0 : Kn) : ∀ (ns : List Str) (xs : List Int) (i : Nat) (k : Kn) (p : Nat) (k' : Kn), (∀ n ∈ ns, ∀ e ∈ k0, e.1 ≠ n) → knowC i k p ns xs = some k' → knowC (i + 1) (k0 ++ k.map sh) p ns xs = some (k0 ++ k'.map sh)
  | [], _, _, k, _, k', _, h => by
    unfold knowC at h ⊢
    obtain rfl := Option.some.inj h
    rfl
  | _ :: _, [], _, _, _, _, _, h => by unfold knowC at h; cases h
  | n :: ns, x :: xs, i, k, p, k', hn, h => by
    unfold knowC at h ⊢
    by_cases hc : n = [] ∨ (∃ e ∈ k, e.1 = n) ∨ x < 0 ∨ 8 < x
    · rw [if_pos hc] at h; cases h
    · rw [if_neg hc] at h
      have hc' : ¬ (n = [] ∨ (∃ e ∈ k0 ++ k.map sh, e.1 = n) ∨ x < 0 ∨ 8 < x) := by
        rintro (e | ⟨e, he, hen⟩ | e)
        · exact hc (.inl e)
        · rcases List.mem_append.1 he with he | he
          · exact hn n (List.mem_cons_self ..) e he hen
          · obtain ⟨e', he', rfl⟩ := List.mem_map.1 he
            exact hc (.inr (.inl ⟨e', he', hen⟩))
        · exact hc (.inr (.inr e))
      rw [if_neg hc']
      have := knowC_sh k0 ns xs i _ (p + 1) k' (fun m hm => hn m (List.mem_cons_of_mem _ hm)) h
      rw [List.map_append, ← List.append_assoc] at this
      exact this
theorem knowF_sh (k0 : Kn) : ∀ (fs : List Fam) (i : Nat) (k k' : Kn), (∀ f ∈ fs, ∀ n ∈ f.1, ∀ e ∈ k0, e.1 ≠ n) → knowF i k fs = some k' → knowF (i + 1) (k0 ++ k.map sh) fs = some (k0 ++ k'.map sh)
  | [], _, k, k', _, h => by
    unfold knowF at h ⊢
    obtain rfl := Option.some.inj h
    rfl
  | f :: fs, i, k, k', hn, h => by
    unfold knowF at h ⊢
    by_cases hc : f.1.length = 0 ∨ 24 < f.1.length ∨ f.2.length ≠ f.1.length
    · rw [if_pos hc] at h; cases h
    · rw [if_neg hc] at h ⊢
      rw [Option.bind_eq_some_iff] at h ⊢
      obtain ⟨k1, h1, h2⟩ := h
      exact ⟨_, knowC_sh k0 f.1 f.2 i k 0 k1 (hn f (List.mem_cons_self ..)) h1, knowF_sh k0 fs (i + 1) k1 k' (fun g hg => hn g (List.mem_cons_of_mem _ hg)) h2⟩
/-- All names of the families are known. -/
theorem knowC_names : ∀ (ns : List Str) (xs : List Int) (i : Nat) (k : Kn) (p : Nat) (k' : Kn), knowC i k p ns xs = some k' → (∀ e ∈ k, e ∈ k') ∧ ∀ n ∈ ns, ∃ e ∈ k', e.1 = n
  | [], _, _, k, _, k', h => by
    unfold knowC at h
    obtain rfl := Option.some.inj h
    exact ⟨fun _ h => h, fun n hn => by simp at hn⟩
  | _ :: _, [], _, _, _, _, h => by unfold knowC at h; cases h
  | n :: ns, x :: xs, i, k, p, k', h => by
    unfold knowC at h
    by_cases hc : n = [] ∨ (∃ e ∈ k, e.1 = n) ∨ x < 0 ∨ 8 < x
    · rw [if_pos hc] at h; cases h
    · rw [if_neg hc] at h
      obtain ⟨h1, h2⟩ := knowC_names ns xs i _ (p + 1) k' h
      refine ⟨fun e he => h1 e (List.mem_append_left _ he), fun m hm => ?_⟩
      rcases List.mem_cons.1 hm with e | e
      · exact ⟨_, h1 _ (List.mem_append_right _ (List.mem_singleton.2 rfl)), e.symm⟩
      · exact h2 m e
theorem knowF_names : ∀ (fs : List Fam) (i : Nat) (k k' : Kn), knowF i k fs = some k' → (∀ e ∈ k, e ∈ k') ∧ ∀ f ∈ fs, ∀ n ∈ f.1, ∃ e ∈ k', e.1 = n
  | [], _, k, k', h => by
    unfold knowF at h
    obtain rfl := Option.some.inj h
    exact ⟨fun _ h => h, fun n hn => by simp at hn⟩
  | f :: fs, i, k, k', h => by
    unfold knowF at h
    by_cases hc : f.1.length = 0 ∨ 24 < f.1.length ∨ f.2.length ≠ f.1.length
    · rw [if_pos hc] at h; cases h
    · rw [if_neg hc] at h
      rw [Option.bind_eq_some_iff] at h
      obtain ⟨k1, h1, h2⟩ := h
      obtain ⟨a1, a2⟩ := knowC_names _ _ _ _ _ _ h1
      obtain ⟨b1, b2⟩ := knowF_names fs _ _ _ h2
      refine ⟨fun e he => b1 e (a1 e he), fun g hg n hn => ?_⟩
      rcases List.mem_cons.1 hg with e | e
      · subst e
        obtain ⟨e, he, hen⟩ := a2 n hn
        exact ⟨e, b1 e he, hen⟩
      · exact b2 g e n hn
theorem knowC_from : ∀ (ns : List Str) (xs : List Int) (i : Nat) (k : Kn) (p : Nat) (k' : Kn), knowC i k p ns xs = some k' → ∀ e ∈ k', e ∈ k ∨ e.1 ∈ ns
  | [], _, _, k, _, k', h => by
    unfold knowC at h
    obtain rfl := Option.some.inj h
    exact fun e he => .inl he
  | _ :: _, [], _, _, _, _, h => by unfold knowC at h; cases h
  | n :: ns, x :: xs, i, k, p, k', h => by
    unfold knowC at h
    by_cases hc : n = [] ∨ (∃ e ∈ k, e.1 = n) ∨ x < 0 ∨ 8 < x
    · rw [if_pos hc] at h; cases h
    · rw [if_neg hc] at h
      intro e he
      rcases knowC_from ns xs i _ (p + 1) k' h e he with h1 | h1
      · rcases List.mem_append.1 h1 with h1 | h1
        · exact .inl h1
        · rw [List.mem_singleton.1 h1]
          exact .inr (List.mem_cons_self ..)
      · exact .inr (List.mem_cons_of_mem _ h1)
theorem knowF_from : ∀ (fs : List Fam) (i : Nat) (k k' : Kn), knowF i k fs = some k' → ∀ e ∈ k', e ∈ k ∨ ∃ f ∈ fs, e.1 ∈ f.1
  | [], _, k, k', h => by
    unfold knowF at h
    obtain rfl := Option.some.inj h
    exact fun e he => .inl he
  | f :: fs, i, k, k', h => by
    unfold knowF at h
    by_cases hc : f.1.length = 0 ∨ 24 < f.1.length ∨ f.2.length ≠ f.1.length
    · rw [if_pos hc] at h; cases h
    · rw [if_neg hc] at h
      rw [Option.bind_eq_some_iff] at h
      obtain ⟨k1, h1, h2⟩ := h
      intro e he
      rcases knowF_from fs _ _ _ h2 e he with h3 | ⟨g, hg, h3⟩
      · rcases knowC_from _ _ _ _ _ _ h1 e h3 with h4 | h4
        · exact .inl h4
        · exact .inr ⟨f, List.mem_cons_self .., h4⟩
      · exact .inr ⟨g, List.mem_cons_of_mem _ hg, h3⟩
theorem look_of {k : Kn} {n : Str} (h : ∃ e ∈ k, e.1 = n) : ∃ e, look k n = some e := by
  unfold look
  cases hf : k.find? (fun e => e.1 == n) with
  | some e => exact ⟨_, rfl⟩
  | none =>
    obtain ⟨e, he, hen⟩ := h
    exact absurd (List.find?_eq_none.1 hf e he) (by simp [hen])
theorem find_sh (n : Str) : ∀ k : Kn, (k.map sh).find? (fun e => e.1 == n) = (k.find? fun e => e.1 == n).map sh
  | [] => rfl
  | a :: k => by
    rw [List.map_cons, List.find?_cons, List.find?_cons, find_sh n k]
    show (match a.1 == n with | true => some (sh a) | false => _) = _
    cases a.1 == n <;> rfl
theorem look_sh {k0 k : Kn} {n : Str} (h : ∀ e ∈ k0, e.1 ≠ n) : look (k0 ++ k.map sh) n = (look k n).map fun e => (e.1 + 1, e.2) := by
  unfold look
  have : k0.find? (fun e => e.1 == n) = none := List.find?_eq_none.2 fun e he => by simpa using h e he
  rw [List.find?_append, this, Option.none_or, find_sh, Option.map_map, Option.map_map]
  rfl
def noA : Str := [78, 111, 98, 111, 100, 121, 39, 115, 65]
def noB : Str := [78, 111, 98, 111, 100, 121, 39, 115, 66]
def noF : Fam := ([noA, noB], [1, 0])
def noK : Kn := [(noA, 0, 0, 1), (noB, 0, 1, 0)]
theorem noF_known : knowC 0 [] 0 noF.1 noF.2 = some noK := by decide
theorem sft_of {fs : List Fam} {k : Kn} (h : knowF 0 [] fs = some k) (hno : ∀ f ∈ fs, ∀ n ∈ f.1, n ≠ noA ∧ n ≠ noB) : knowF 0 [] (noF :: fs) = some (noK ++ k.map sh) ∧ Sft k (noK ++ k.map sh) fs (noF :: fs) := by
  have hk := knowF_ok h
  have hnk : ∀ n, n ≠ noA → n ≠ noB → ∀ e ∈ noK, e.1 ≠ n := fun n h1 h2 e he => by
    rcases List.mem_cons.1 he with e1 | he
    · rw [e1]; exact h1.symm
    · rw [List.mem_singleton.1 he]; exact h2.symm
  have hkn : ∀ e ∈ k, e.1 ≠ noA ∧ e.1 ≠ noB := fun e he => by
    rcases knowF_from fs 0 [] k h e he with h1 | ⟨f, hf, h1⟩
    · simp at h1
    · exact hno f hf _ h1
  refine ⟨?_, fun n e he => ?_, fun i => rfl, ?_, ?_, fun f hf n hn => look_of ((knowF_names fs 0 [] k h).2 f hf n hn)⟩
  · show (if _ then none else (knowC 0 [] 0 noF.1 noF.2).bind fun k' => knowF 1 k' fs) = _
    rw [if_neg (by decide), noF_known]
    exact knowF_sh noK fs 0 [] k (fun f hf n hn => hnk n (hno f hf n hn).1 (hno f hf n hn).2) h
  · have := hkn _ (look_mem he)
    rw [look_sh (hnk n this.1 this.2), he]
    rfl
  · cases hl : look k [] with
    | none => rfl
    | some e => exact absurd rfl (hk.name _ (look_mem hl))
  · rw [look_sh (hnk [] (by decide) (by decide))]
    cases hl : look k [] with
    | none => rfl
    | some e => exact absurd rfl (hk.name _ (look_mem hl))
theorem Sft.treeQ {k k' : Kn} {fs fs' : List Fam} (h : Sft k k' fs fs') (hk : KnOk k fs) (F : Nat) {rows : List (List Pt)} (hl : rows.length ≤ 200) (hr : RightR k rows) : Ytpdmkhnonbbhnaa.treeQ F k' fs' rows = Ytpdmkhnonbbhnaa.treeQ F k fs rows :=
  h.tree hk F 0 _ _ 0 fun c hc => cols_good hl hc (hr.2 c hc _) 0
/-- An answer without an error stays what it is. -/
theorem comp_more {F : Nat} {fs : List Fam} {rows : List (List Pt)} {t : Tr F} {c : Cv F} (h : CompIs F fs rows 0 (some (t, c))) (hno : ∀ f ∈ fs, ∀ n ∈ f.1, n ≠ noA ∧ n ≠ noB) : CompIs F (noF :: fs) rows 0 (some (t, c)) := by
  obtain ⟨h0, k, h1, h2, h3, h4, h5, rfl, rfl⟩ := comp_ok h
  obtain ⟨hl, hw⟩ := long_len h0
  obtain ⟨h6, hs⟩ := sft_of h1 hno
  have hk := knowF_ok h1
  have e1 := hs.treeQ hk F hl h2
  have e2 := hs.fail F (treeQ F k fs rows).1 (treeP_tn hk F 0 _ _ 0 fun c hc => cols_good hl hc (h2.2 c hc _) 0)
  refine .inr ⟨h0, .inr ⟨_, h6, .inr ⟨⟨h2.1, fun c hc d => hs.right d _ (h2.2 c hc d)⟩, .inr ⟨by rw [e1]; exact h3, .inr ⟨⟨by rw [e1]; exact h4, h5⟩, rfl, ?_⟩⟩⟩⟩⟩
  rw [e1]
  unfold coverQ
  rw [e2]
/-- There is one answer alone. -/
theorem comp_one {F : Nat} {fs : List Fam} {rows : List (List Pt)} {t : Tr F} {c : Cv F} (h : CompIs F fs rows 0 (some (t, c))) {e : Int} {o : Option (Tr F × Cv F)} (h' : CompIs F fs rows e o) : e = 0 ∧ o = some (t, c) := by
  obtain ⟨h0, k, h1, h2, h3, h4, h5, rfl, rfl⟩ := comp_ok h
  rcases h' with ⟨g, _⟩ | ⟨_, ⟨g, _⟩ | ⟨k', g1, g⟩⟩
  · rw [h0] at g; cases g
  · rw [h1] at g; cases g
  · rw [h1] at g1
    obtain rfl := Option.some.inj g1
    rcases g with ⟨g, _⟩ | ⟨_, ⟨g, _⟩ | ⟨_, ⟨g | g, _⟩ | ⟨_, g1, g2⟩⟩⟩
    · exact absurd h2 g
    · omega
    · omega
    · rw [h5] at g; cases g
    · exact ⟨g1, g2⟩
/-- What the law compares: the answer to rows with other names, with a family more in front. -/
theorem comp_names (nm : Str) {F : Nat} {fs : List Fam} {rows : List (List Pt)} {t : Tr F} {c : Cv F} (h : CompIs F fs rows 0 (some (t, c))) : CompIs F fs (rnR nm rows) 0 (some (t, c)) ∧ ((∀ f ∈ fs, ∀ n ∈ f.1, n ≠ noA ∧ n ≠ noB) → CompIs F (noF :: fs) (rnR nm rows) 0 (some (t, c))) :=
  ⟨comp_ren nm h, fun hno => comp_more (comp_ren nm h) hno⟩
end Go.Proofs.Ytpdmkhnonbbhnaa

namespace Go.Proofs.Ytpdmkhnonbbhnaa

theorem szn_ren (nm : Str) : ∀ (d : Nat) (t : Pn d), szn d (renN nm d t) ≤ szn d t
  | 0, t => t.elim
  | d + 1, t => by
    have hs : ∀ l : List (Pn d), ((l.map (renN nm d)).map (szn d)).sum ≤ (l.map (szn d)).sum := fun l => by
      induction l with
      | nil => exact Nat.le_refl _
      | cons a l ih =>
        have := szn_ren nm d a
        simp only [List.map_cons, List.sum_cons]
        omega
    have e : ∀ u : Pn (d + 1), szn (d + 1) u = 1 + (u.2.map (szn d)).sum := fun _ => rfl
    rw [e, e]
    by_cases h : t.1.1 = 2
    · by_cases hn : nm = []
      · have : renN nm (d + 1) t = ((1, [], 0), []) := renL_wild nm _ _ h hn
        rw [this]
        simp
      · have : renN nm (d + 1) t = ((2, nm, t.1.2.2), t.2.map (renN nm d)) := renL_var nm _ _ h hn
        rw [this]
        have := hs t.2
        exact Nat.add_le_add_left this 1
    · have : renN nm (d + 1) t = (t.1, t.2.map (renN nm d)) := renL_else nm _ _ h
      rw [this]
      exact Nat.add_le_add_left (hs t.2) 1
theorem szs_ren (nm : Str) : ∀ l : List Pt, szs (l.map (renT nm)) ≤ szs l
  | [] => Nat.le_refl _
  | p :: l => by
    rw [List.map_cons, szs_cons, szs_cons]
    have h1 := szs_ren nm l
    have h2 : (renT nm p).sz ≤ p.sz := szn_ren nm p.1 p.2
    omega
theorem rows_ren (nm : Str) : ∀ rows : List (List Pt), ((rnR nm rows).map szs).sum ≤ (rows.map szs).sum
  | [] => Nat.le_refl _
  | r :: l => by
    have h1 := rows_ren nm l
    have h2 := szs_ren nm r
    show szs (r.map (renT nm)) + ((rnR nm l).map szs).sum ≤ szs r + (l.map szs).sum
    omega
end Go.Proofs.Ytpdmkhnonbbhnaa
