/- What Compile answers does not hang on the names of variables, nor on whether there are any (plain). -/
import Derived.Test.YtpdmkhnonbbhnaaMqx
import Derived.Test.YtpdmkhnonbbhnaaWe
namespace Go.Proofs.Ytpdmkhnonbbhnaa

theorem all_on {α : Type} {p q : α → Bool} : ∀ {l : List α}, (∀ a ∈ l, p a = q a) → l.all p = l.all q
  | [], _ => rfl
  | a :: l, h => by
    rw [List.all_cons, List.all_cons, h a (List.mem_cons_self ..), all_on fun x hx => h x (List.mem_cons_of_mem _ hx)]
theorem any_on {α : Type} {p q : α → Bool} : ∀ {l : List α}, (∀ a ∈ l, p a = q a) → l.any p = l.any q
  | [], _ => rfl
  | a :: l, h => by
    rw [List.any_cons, List.any_cons, h a (List.mem_cons_self ..), any_on fun x hx => h x (List.mem_cons_of_mem _ hx)]
variable (nm : Str)
theorem renT_wilds (p : Pt) : wild (renT nm p) = wild p := by
  unfold wild Pt.kind
  by_cases h : p.kind = 2
  · have h' : p.lab.1 = 2 := h
    by_cases hn : nm = []
    · rw [(renT_wild nm hn p h).1, h']; rfl
    · rw [(renT_var nm hn p h).1, h']
  · rw [(renT_else nm p h).1]
theorem two_wild {p : Pt} (h : wild p = false) : p.kind ≠ 2 := fun e => by
  unfold wild at h
  rw [e] at h
  exact absurd h (by decide)
theorem renT_lab {p : Pt} (h : wild p = false) : (renT nm p).lab = p.lab := (renT_else nm p (two_wild h)).1
theorem renT_kids {p : Pt} (h : wild p = false) : (renT nm p).kids = p.kids.map (renT nm) := (renT_else nm p (two_wild h)).2
theorem renT_kind {p : Pt} (h : wild p = false) : (renT nm p).kind = p.kind := by unfold Pt.kind; rw [renT_lab nm h]
theorem renT_name {p : Pt} (h : wild p = false) : (renT nm p).name = p.name := by unfold Pt.name; rw [renT_lab nm h]
theorem renT_num {p : Pt} (h : wild p = false) : (renT nm p).num = p.num := by unfold Pt.num; rw [renT_lab nm h]
def rnS (s : Sp) : Sp := (s.1, renT nm s.2)
def rnL (l : Nat × List Pt) : Nat × List Pt := (l.1, l.2.map (renT nm))
def rnCol (c : Col) : Col := (c.1, c.2.1, c.2.2.map (rnS nm))
/-- None of some spots is wild. -/
def Nw0 (l : List Sp) : Prop := ∀ s ∈ l, wild s.2 = false
theorem Nw0.filter {l : List Sp} (h : Nw0 l) (q : Sp → Bool) : Nw0 (l.filter q) := fun s hs => h s (List.mem_filter.1 hs).1
theorem spotsOf_nw (n : Nat) (lines : List (Nat × List Pt)) : Nw0 (spotsOf n lines) := fun s hs => by
  unfold spotsOf at hs
  rw [List.mem_filterMap] at hs
  obtain ⟨l, _, h⟩ := hs
  cases hp : l.2[n]? with
  | none => rw [hp] at h; simp at h
  | some p =>
    rw [hp] at h
    dsimp only at h
    by_cases hw : wild p = true
    · rw [if_pos hw] at h; simp at h
    · rw [if_neg hw] at h
      injection h with h
      subst h
      simpa using hw
theorem spotsOf_ren (n : Nat) (lines : List (Nat × List Pt)) : spotsOf n (lines.map (rnL nm)) = (spotsOf n lines).map (rnS nm) := by
  unfold spotsOf
  rw [List.filterMap_map, List.map_filterMap]
  refine congrArg (fun g => List.filterMap g lines) (funext fun l => ?_)
  show (match (l.2.map (renT nm))[n]? with | some p => if wild p then none else some (l.1, p) | none => none) = _
  rw [List.getElem?_map]
  cases hp : l.2[n]? with
  | none => rfl
  | some p =>
    show (if wild (renT nm p) then none else some (l.1, renT nm p)) = _
    rw [renT_wilds]
    dsimp only
    split <;> rfl
theorem colsOf_ren (around : List Nat) (width : Nat) (lines : List (Nat × List Pt)) : colsOf around width (lines.map (rnL nm)) = (colsOf around width lines).map (rnCol nm) := by
  unfold colsOf
  rw [List.map_filterMap]
  refine congrArg (fun g => List.filterMap g (List.range width)) (funext fun n => ?_)
  rw [spotsOf_ren, List.isEmpty_map]
  split <;> rfl
theorem colsOf_nw (around : List Nat) (width : Nat) (lines : List (Nat × List Pt)) : ∀ c ∈ colsOf around width lines, Nw0 c.2.2 := fun c hc => by
  unfold colsOf at hc
  rw [List.mem_filterMap] at hc
  obtain ⟨n, _, h⟩ := hc
  split at h
  · simp at h
  · injection h with h
    subst h
    exact spotsOf_nw _ _
theorem linesOf_ren {spots : List Sp} (h : Nw0 spots) : linesOf (spots.map (rnS nm)) = (linesOf spots).map (rnL nm) := by
  unfold linesOf
  rw [List.map_map, List.map_map]
  refine List.map_congr_left fun s hs => ?_
  show (s.1, (renT nm s.2).kids) = (s.1, s.2.kids.map (renT nm))
  rw [renT_kids nm (h s hs)]
theorem within_ren (k : Kn) {spots : List Sp} (h : Nw0 spots) (con : Str) (path : List Nat) : within k (spots.map (rnS nm)) con path = (within k spots con path).map (rnCol nm) := by
  unfold within
  rw [linesOf_ren nm h, colsOf_ren]
theorem within_nw (k : Kn) (spots : List Sp) (con : Str) (path : List Nat) : ∀ c ∈ within k spots con path, Nw0 c.2.2 := colsOf_nw _ _ _
theorem csOf_ren {p : Pt} (h : wild p = false) : csOf (renT nm p) = csOf p := by
  unfold csOf
  rw [renT_kind nm h, renT_name nm h, renT_num nm h]
theorem casesOf_ren (k : Kn) : ∀ {spots : List Sp}, Nw0 spots → casesOf k (spots.map (rnS nm)) = casesOf k spots
  | [], _ => rfl
  | s :: l, h => by
    show putCs k (csOf (renT nm s.2)) (casesOf k (l.map (rnS nm))) = putCs k (csOf s.2) (casesOf k l)
    rw [casesOf_ren k (fun x hx => h x (List.mem_cons_of_mem _ hx)), csOf_ren nm (h s (List.mem_cons_self ..))]
theorem isOf_ren (c : Cs) {s : Sp} (h : wild s.2 = false) : isOf c (rnS nm s) = isOf c s := by
  unfold isOf rnS
  dsimp only
  rw [renT_num nm h, renT_name nm h]
theorem filter_ren (q q' : Sp → Bool) {l : List Sp} (h : ∀ s ∈ l, q' (rnS nm s) = q s) : (l.map (rnS nm)).filter q' = (l.filter q).map (rnS nm) := by
  induction l with
  | nil => rfl
  | cons a l ih =>
    rw [List.map_cons, List.filter_cons, List.filter_cons, h a (List.mem_cons_self ..), ih fun s hs => h s (List.mem_cons_of_mem _ hs)]
    split <;> rfl
theorem mayBe_ren (k : Kn) {p : Pt} (h : wild p = false) : mayBe k (renT nm p) = mayBe k p := by
  unfold mayBe
  rw [renT_kind nm h, renT_num nm h, renT_name nm h, renT_kids nm h, List.length_map]
theorem together_ren (k : Kn) {spots : List Sp} (h : Nw0 spots) : together k (spots.map (rnS nm)) = together k spots := by
  cases spots with
  | nil => rfl
  | cons f l =>
    unfold together
    rw [List.map_cons]
    dsimp only
    rw [← List.map_cons (f := rnS nm), List.all_map]
    have hf := h f (List.mem_cons_self ..)
    refine all_on fun s hs => ?_
    have hs' := h s hs
    show ((renT nm s.2).kind == (renT nm f.2).kind && mayBe k (renT nm s.2) && ((renT nm f.2).kind != 4 || (looks k (renT nm s.2).name).1 == (looks k (renT nm f.2).name).1)) = _
    rw [renT_kind nm hs', renT_kind nm hf, mayBe_ren nm k hs', renT_name nm hs', renT_name nm hf]
theorem right_ren (k : Kn) : ∀ (d : Nat) {spots : List Sp}, Nw0 spots → rightN k d (spots.map (rnS nm)) = rightN k d spots
  | 0, _, _ => rfl
  | d + 1, spots, h => by
    unfold rightN
    rw [together_ren nm k h, casesOf_ren nm k h]
    congr 1
    refine all_on fun c _ => ?_
    rw [filter_ren nm (isOf c) (isOf c) fun s hs => isOf_ren nm c (h s hs), within_ren nm k (h.filter _), List.all_map]
    refine all_on fun col hc => ?_
    exact right_ren k d (within_nw _ _ _ _ col hc)
theorem ofRows_ren (spots : List Sp) (rows : List Nat) : ofRows (spots.map (rnS nm)) rows = (ofRows spots rows).map (rnS nm) := filter_ren nm _ _ fun _ _ => rfl
theorem without_ren (rows : List Nat) (spots : List Sp) : without rows (spots.map (rnS nm)) = without rows spots := by
  unfold without
  refine congrArg (fun g => List.filter g rows) (funext fun r => ?_)
  rw [List.any_map]
  rfl
theorem hasRow_ren (r : Nat) (c : Col) : hasRow r (rnCol nm c) = hasRow r c := by
  unfold hasRow rnCol
  rw [List.any_map]
  rfl
theorem eachP_congr {α β : Type} {f g : α → Nat → β × Nat} : ∀ (l : List α) (n : Nat), (∀ x ∈ l, ∀ m, f x m = g x m) → eachP f l n = eachP g l n
  | [], _, _ => rfl
  | a :: r, n, h => by
    unfold eachP
    rw [h a (List.mem_cons_self ..) n, eachP_congr r _ fun x hx => h x (List.mem_cons_of_mem _ hx)]
theorem find_ren (cols : List Col) (r : Nat) : (cols.map (rnCol nm)).findIdx? (hasRow r) = cols.findIdx? (hasRow r) := by
  rw [List.findIdx?_map]
  congr 1
  exact funext fun c => hasRow_ren nm r c
theorem tree_ren (k : Kn) (fs : List Fam) : ∀ (f n : Nat) (cols : List Col) (rows : List Nat), (∀ c ∈ cols, Nw0 c.2.2) → treeP k fs f n (cols.map (rnCol nm)) rows = treeP k fs f n cols rows
  | 0, _, _, _, _ => rfl
  | f + 1, n, cols, rows, h => by
    by_cases hn : 5000 ≤ n
    · rw [treeP_big _ _ _ _ _ _ hn, treeP_big _ _ _ _ _ _ hn]
    · cases rows with
      | nil => rw [treeP_none _ _ _ _ _ (by omega), treeP_none _ _ _ _ _ (by omega)]
      | cons r rows =>
        have hf := find_ren nm cols r
        cases hi : cols.findIdx? (hasRow r) with
        | none => rw [treeP_row _ _ _ _ _ _ _ (by omega) hi, treeP_row _ _ _ _ _ _ _ (by omega) (hf.trans hi)]
        | some ax =>
          have ha : ax < cols.length := (List.findIdx?_eq_some_iff_getElem.1 hi).1
          rw [treeP_branch _ _ _ _ _ _ _ _ ha (by omega) hi, treeP_branch _ _ _ _ _ _ _ _ (by rw [List.length_map]; exact ha) (by omega) (hf.trans hi), List.getElem_map]
          have hc := h _ (List.getElem_mem ha)
          generalize cols[ax] = c at *
          have hs : Nw0 (ofRows c.2.2 (r :: rows)) := hc.filter _
          have e1 : ofRows (rnCol nm c).2.2 (r :: rows) = (ofRows c.2.2 (r :: rows)).map (rnS nm) := ofRows_ren nm _ _
          unfold branchP
          dsimp only
          rw [e1]
          generalize ofRows c.2.2 (r :: rows) = spots at *
          rw [casesOf_ren nm k hs]
          have hst : ∀ x ∈ casesOf k spots, ∀ m, stepP k fs f (cols.map (rnCol nm)) (r :: rows) ax (spots.map (rnS nm)) ((rnCol nm c).1 ++ [(rnCol nm c).2.1]) x m = stepP k fs f cols (r :: rows) ax spots (c.1 ++ [c.2.1]) x m := fun x _ m => by
            unfold stepP
            rw [filter_ren nm (isOf x) (isOf x) fun s hs' => isOf_ren nm x (hs s hs'), filter_ren nm (fun s => !isOf x s) (fun s => !isOf x s) fun s hs' => by rw [isOf_ren nm x (hs s hs')], within_ren nm k (hs.filter _), without_ren, ← List.map_take, ← List.map_drop, ← List.map_append, ← List.map_append]
            refine tree_ren k fs f m _ _ fun c' hc' => ?_
            rcases List.mem_append.1 hc' with hc' | hc'
            · rcases List.mem_append.1 hc' with hc' | hc'
              · exact h c' (List.mem_of_mem_take hc')
              · exact within_nw _ _ _ _ c' hc'
            · exact h c' (List.mem_of_mem_drop hc')
          have hel : ∀ m, treeP k fs f m ((cols.map (rnCol nm)).take ax ++ (cols.map (rnCol nm)).drop (ax + 1)) (without (r :: rows) (spots.map (rnS nm))) = treeP k fs f m (cols.take ax ++ cols.drop (ax + 1)) (without (r :: rows) spots) := fun m => by
            rw [without_ren, ← List.map_take, ← List.map_drop, ← List.map_append]
            refine tree_ren k fs f m _ _ fun c' hc' => ?_
            rcases List.mem_append.1 hc' with hc' | hc'
            · exact h c' (List.mem_of_mem_take hc')
            · exact h c' (List.mem_of_mem_drop hc')
          rw [eachP_congr _ _ hst, hel]
          rfl
theorem above_ren : ∀ (l : Nat) (p : Pt), above l (renT nm p) = above l p
  | 0, _ => rfl
  | l + 1, p => by
    unfold above
    by_cases h : p.kind = 2
    · have e : (renT nm p).kind ≠ 4 := by
        unfold Pt.kind
        by_cases hn : nm = []
        · rw [(renT_wild nm hn p h).1]; decide
        · rw [(renT_var nm hn p h).1]
          exact (by decide : (2 : Int) ≠ 4)
      rw [h]
      have : ((renT nm p).kind == 4) = false := by simpa using e
      rw [this]
      rfl
    · have e : (renT nm p).kind = p.kind := by unfold Pt.kind; rw [(renT_else nm p h).1]
      rw [e, (renT_else nm p h).2, List.any_map]
      congr 1
      refine any_on fun q _ => above_ren l q
/-- The rows, each with other names. -/
def rnR (rows : List (List Pt)) : List (List Pt) := rows.map fun r => r.map (renT nm)
theorem deep_ren (rows : List (List Pt)) : deepP (rnR nm rows) = deepP rows := by
  unfold deepP rnR
  rw [List.any_map]
  refine any_on fun r _ => ?_
  show (r.map (renT nm)).any (above 1000) = _
  rw [List.any_map]
  exact any_on fun p _ => above_ren nm 1000 p
theorem long_ren (rows : List (List Pt)) : longP (rnR nm rows) = longP rows := by
  unfold longP rnR
  rw [List.length_map, List.any_map]
  congr 1
  refine any_on fun r _ => ?_
  show decide (16 < (r.map (renT nm)).length) = _
  rw [List.length_map]
theorem head_ren (rows : List (List Pt)) : ((rnR nm rows).headD []).length = (rows.headD []).length := by
  cases rows with
  | nil => rfl
  | cons r l => exact List.length_map _
theorem lines_ren (rows : List (List Pt)) : linesR (rnR nm rows) = (linesR rows).map (rnL nm) := by
  unfold linesR rnR
  rw [List.length_map, List.zip_map_right]
  rfl
theorem treeQ_ren (F : Nat) (k : Kn) (fs : List Fam) (rows : List (List Pt)) : treeQ F k fs (rnR nm rows) = treeQ F k fs rows := by
  unfold treeQ
  rw [head_ren, lines_ren, colsOf_ren, tree_ren nm k fs F 0 _ _ (colsOf_nw _ _ _)]
  unfold rnR
  rw [List.length_map]
theorem right_rows_ren {k : Kn} {rows : List (List Pt)} (h : RightR k rows) : RightR k (rnR nm rows) := by
  refine ⟨fun x hx => ?_, fun c hc d => ?_⟩
  · rw [head_ren]
    obtain ⟨r, hr, rfl⟩ := List.mem_map.1 hx
    rw [List.length_map]
    exact h.1 r hr
  · rw [head_ren, lines_ren, colsOf_ren] at hc
    obtain ⟨c', hc', rfl⟩ := List.mem_map.1 hc
    show rightN k d (c'.2.2.map (rnS nm)) = true
    rw [right_ren nm k d (colsOf_nw _ _ _ c' hc')]
    exact h.2 c' hc' d
theorem cover_ren (F : Nat) (k : Kn) (fs : List Fam) (f : Nat) (t : Tr f) (rows : List (List Pt)) : coverQ F k fs f t (rnR nm rows) = coverQ F k fs f t rows := by
  unfold coverQ
  cases rows with
  | nil => rfl
  | cons r l =>
    show (_, (List.range ((r :: l).map fun r => r.map (renT nm)).length).filter _, match toFail k fs f t with | none => [] | some way => missQ F (r.map (renT nm)).length way) = _
    rw [List.length_map, List.length_map]
    cases toFail k fs f t <;> rfl
/-- An answer without an error stays what it is. -/
theorem comp_ren {F : Nat} {fs : List Fam} {rows : List (List Pt)} {t : Tr F} {c : Cv F} (h : CompIs F fs rows 0 (some (t, c))) : CompIs F fs (rnR nm rows) 0 (some (t, c)) := by
  obtain ⟨h0, k, h1, h2, h3, h4, h5, rfl, rfl⟩ := comp_ok h
  refine .inr ⟨by rw [long_ren]; exact h0, .inr ⟨k, h1, .inr ⟨right_rows_ren nm h2, .inr ⟨by rw [treeQ_ren]; exact h3, .inr ⟨⟨by rw [treeQ_ren]; exact h4, by rw [deep_ren]; exact h5⟩, rfl, ?_⟩⟩⟩⟩⟩
  rw [treeQ_ren, cover_ren]
end Go.Proofs.Ytpdmkhnonbbhnaa
