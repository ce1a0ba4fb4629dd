/- The paths of a tree that Compile makes are short. Values, and what fits them (plain). A tree decides as the rows do (plain): one switch. -/
import Derived.Test.YtpdmkhnonbbhnaaVo
import Derived.Test.YtpdmkhnonbbhnaaWb
namespace Go.Proofs.Ytpdmkhnonbbhnaa
open Go.RowKit

theorem Short.zero : ∀ f, Short f (trZero f)
  | 0 => trivial
  | _ + 1 => ⟨by simp [trZero], fun c h => by simp [trZero] at h, fun c h => by simp [trZero] at h⟩
theorem treeP_short {k : Kn} {fs : List Fam} (hk : KnOk k fs) : ∀ (f n : Nat) (cols : List Col) (rows : List Nat) (m : Nat), (∀ c ∈ cols, Good k m c) → m + f < 140737488355328 → Short f (treeP k fs f n cols rows).1
  | 0, _, _, _, _, _, _ => trivial
  | f + 1, n, cols, rows, m, hg, hm => by
    by_cases hn : 5000 ≤ n
    · rw [treeP_big _ _ _ _ _ _ hn]; exact Short.zero _
    · cases rows with
      | nil => rw [treeP_none _ _ _ _ _ (by omega)]; exact ⟨by simp, fun c h => by simp at h, fun c h => by simp at h⟩
      | cons r rows =>
        cases hi : cols.findIdx? (hasRow r) with
        | none => rw [treeP_row _ _ _ _ _ _ _ (by omega) hi]; exact ⟨by simp, fun c h => by simp at h, fun c h => by simp at h⟩
        | some ax =>
          have ha : ax < cols.length := (List.findIdx?_eq_some_iff_getElem.1 hi).1
          rw [treeP_branch _ _ _ _ _ _ _ _ ha (by omega) hi]
          have hgc := hg _ (List.getElem_mem ha)
          have hkid : ∀ x ∈ casesOf k (ofRows cols[ax].2.2 (r :: rows)), ∀ q, Short f (stepP k fs f cols (r :: rows) ax (ofRows cols[ax].2.2 (r :: rows)) (cols[ax].1 ++ [cols[ax].2.1]) x q).1 := fun x hx q => by
            refine treeP_short hk f q _ _ (m + 1) (fun c hc => ?_) (by omega)
            rcases List.mem_append.1 hc with hc | hc
            · rcases List.mem_append.1 hc with hc | hc
              · exact (hg c (List.mem_of_mem_take hc)).up (by omega)
              · exact hgc.within hk (r :: rows) hx hc
            · exact (hg c (List.mem_of_mem_drop hc)).up (by omega)
          have hels : ∀ q, Short f (treeP k fs f q (cols.take ax ++ cols.drop (ax + 1)) (without (r :: rows) (ofRows cols[ax].2.2 (r :: rows)))).1 := fun q => by
            refine treeP_short hk f q _ _ m (fun c hc => ?_) (by omega)
            rcases List.mem_append.1 hc with hc | hc
            · exact hg c (List.mem_of_mem_take hc)
            · exact hg c (List.mem_of_mem_drop hc)
          have hpl : (cols[ax].1 ++ [cols[ax].2.1]).length < 140737488355328 := by
            have := hgc.path
            rw [List.length_append]
            simp
            omega
          unfold branchP
          simp only
          generalize ofRows cols[ax].2.2 (r :: rows) = spots at *
          generalize stepP k fs f cols (r :: rows) ax spots (cols[ax].1 ++ [cols[ax].2.1]) = step at *
          have h1 : ∀ c ∈ (casesOf k spots).zip (eachP step (casesOf k spots) (n + 1)).1, Short f c.2 := fun c hc => by
            obtain ⟨q1, q, q2⟩ := eachP_zip _ _ c.1 c.2 hc
            rw [q2]
            exact hkid _ q1 q
          split
          · exact ⟨hpl, h1, fun e he => by simp at he⟩
          · exact ⟨hpl, h1, fun e he => by rw [List.mem_singleton.1 he]; exact hels _⟩
theorem long_len {rows : List (List Pt)} (h : longP rows = false) : rows.length ≤ 200 ∧ ∀ r ∈ rows, r.length ≤ 16 := by
  unfold longP at h
  rw [Bool.or_eq_false_iff] at h
  refine ⟨by have := of_decide_eq_false h.1; omega, fun r hr => ?_⟩
  have := List.any_eq_false.1 h.2 r hr
  have : ¬ 16 < r.length := by simpa using this
  omega
/-- What is known of an answer without an error. -/
theorem comp_ok {F : Nat} {fs : List Fam} {rows : List (List Pt)} {t : Tr F} {c : Cv F} (h : CompIs F fs rows 0 (some (t, c))) : longP rows = false ∧ ∃ k, knowF 0 [] fs = some k ∧ RightR k rows ∧ (treeQ F k fs rows).2 ≤ 5000 ∧ nestP F (treeQ F k fs rows).1 ≤ 1000 ∧ deepP rows = false ∧ t = (treeQ F k fs rows).1 ∧ c = coverQ F k fs F (treeQ F k fs rows).1 rows := by
  rcases h with ⟨_, h, _⟩ | ⟨h0, ⟨_, h, _⟩ | ⟨k, h1, ⟨_, h, _⟩ | ⟨h2, ⟨_, h, _⟩ | ⟨h3, ⟨_, h, _⟩ | ⟨⟨h4, h5⟩, _, h⟩⟩⟩⟩⟩
  · exact absurd h (by decide)
  · exact absurd h (by decide)
  · exact absurd h (by decide)
  · exact absurd h (by decide)
  · exact absurd h (by decide)
  · injection h with h
    injection h with e1 e2
    exact ⟨h0, k, h1, h2, h3, h4, h5, e1, e2⟩
theorem comp_fine {F : Nat} (hF : F ≤ 100000) {fs : List Fam} {rows : List (List Pt)} {t : Tr F} {c : Cv F} (h : CompIs F fs rows 0 (some (t, c))) : Sm F t ∧ Short F t ∧ c.2.1.length ≤ 200 ∧ c.2.2.length ≤ 16 := by
  obtain ⟨h0, k, h1, h2, _, _, _, rfl, rfl⟩ := comp_ok h
  obtain ⟨hl, hw⟩ := long_len h0
  have hgood : ∀ c ∈ colsOf [] (rows.headD []).length (linesR rows), Good k 0 c := fun c hc => cols_good hl hc (h2.2 c hc _) 0
  refine ⟨treeP_sm k fs F 0 _ _ fun c hc => (hgood c hc).len, treeP_short (knowF_ok h1) F 0 _ _ 0 hgood (by omega), ?_, ?_⟩
  · unfold coverQ
    refine Nat.le_trans (List.length_filter_le _ _) ?_
    rw [List.length_range]
    exact hl
  · unfold coverQ
    dsimp only
    split
    · simp
    · split
      · simp
      · unfold missQ
        rw [List.length_map, List.length_range]
        exact hw _ (List.mem_cons_self ..)
end Go.Proofs.Ytpdmkhnonbbhnaa

namespace Go.Proofs.Ytpdmkhnonbbhnaa

/-- A pattern fits a value. -/
def fitN : (d : Nat) → Pn d → Pt → Bool
  | 0, t, _ => t.elim
  | d + 1, t, v => if t.1.1 = 1 ∨ t.1.1 = 2 then true else if t.1.1 = 3 then decide (v.kind = 3 ∧ v.num = t.1.2.2)
    else decide (v.kind = 4 ∧ v.name = t.1.2.1 ∧ v.kids.length = t.2.length) && (t.2.zip v.kids).all fun x => fitN d x.1 x.2
def fit (p v : Pt) : Bool := fitN p.1 p.2 v
def fitAll (row vs : List Pt) : Bool := (row.zip vs).all fun x => fit x.1 x.2
theorem fit_eq : ∀ p v : Pt, fit p v = if p.kind = 1 ∨ p.kind = 2 then true else if p.kind = 3 then decide (v.kind = 3 ∧ v.num = p.num)
    else decide (v.kind = 4 ∧ v.name = p.name ∧ v.kids.length = p.kids.length) && fitAll p.kids v.kids
  | ⟨0, t⟩, _ => t.elim
  | ⟨d + 1, t⟩, v => by
    show fitN (d + 1) t v = _
    unfold fitN fitAll
    show (if t.1.1 = 1 ∨ t.1.1 = 2 then true else if t.1.1 = 3 then _ else _) = if t.1.1 = 1 ∨ t.1.1 = 2 then true else if t.1.1 = 3 then _ else _
    have e : (Pt.kids ⟨d + 1, t⟩) = t.2.map fun u => (⟨d, u⟩ : Pt) := rfl
    rw [e, List.length_map, List.zip_map_left, List.all_map]
    rfl
theorem wild_iff (p : Pt) : wild p = true ↔ p.kind = 1 ∨ p.kind = 2 := by unfold wild; simp
theorem fit_wild {p : Pt} (h : wild p = true) (v : Pt) : fit p v = true := by rw [fit_eq, if_pos ((wild_iff p).1 h)]
/-- What stands at a path in a value. -/
def valK (x : Pt) : List Nat → Option Pt
  | [] => some x
  | i :: p => (x.kids[i]?).bind fun y => valK y p
def valAt (vs : List Pt) : List Nat → Option Pt
  | [] => none
  | i :: p => (vs[i]?).bind fun y => valK y p
theorem valK_snoc : ∀ (p : List Nat) (x : Pt) (n : Nat), valK x (p ++ [n]) = (valK x p).bind fun y => y.kids[n]?
  | [], x, n => by
    show (x.kids[n]?).bind (fun y => some y) = x.kids[n]?
    cases x.kids[n]? <;> rfl
  | i :: p, x, n => by
    show (x.kids[i]?).bind (fun y => valK y (p ++ [n])) = ((x.kids[i]?).bind fun y => valK y p).bind _
    cases x.kids[i]? with
    | none => rfl
    | some y => exact valK_snoc p y n
theorem valAt_snoc (vs : List Pt) (p : List Nat) (n : Nat) (h : p ≠ []) : valAt vs (p ++ [n]) = (valAt vs p).bind fun y => y.kids[n]? := by
  cases p with
  | nil => exact absurd rfl h
  | cons i p =>
    show (vs[i]?).bind (fun y => valK y (p ++ [n])) = ((vs[i]?).bind fun y => valK y p).bind _
    cases vs[i]? with
    | none => rfl
    | some y => exact valK_snoc p y n
/-- What stands in a field of those patterns that are of a name. -/
def below (n : Nat) (nm : Str) (ps : List Pt) : List Pt := ps.filterMap fun p => if p.kind = 4 ∧ p.name = nm then p.kids[n]? else none
theorem mem_below {n : Nat} {nm : Str} {ps : List Pt} {q : Pt} : q ∈ below n nm ps ↔ ∃ p ∈ ps, p.kind = 4 ∧ p.name = nm ∧ p.kids[n]? = some q := by
  unfold below
  rw [List.mem_filterMap]
  constructor
  · rintro ⟨p, hp, h⟩
    split at h
    · rename_i hc; exact ⟨p, hp, hc.1, hc.2, h⟩
    · cases h
  · rintro ⟨p, hp, h1, h2, h3⟩
    exact ⟨p, hp, by rw [if_pos ⟨h1, h2⟩]; exact h3⟩
/-- A value has the families of the patterns of a column. -/
def SuitN (k : Kn) : (d : Nat) → Pn d → List Pt → Prop
  | 0, t, _ => t.elim
  | d + 1, t, ps => (∀ p ∈ ps, p.kind = 3 → t.1.1 = 3 ∧ -4611686018427387904 ≤ t.1.2.2 ∧ t.1.2.2 ≤ 4611686018427387903) ∧
    (∀ p ∈ ps, p.kind = 4 → t.1.1 = 4 ∧ ∃ e f, look k p.name = some e ∧ look k t.1.2.1 = some f ∧ e.1 = f.1 ∧ t.2.length = f.2.2) ∧
    ∀ n (h : n < t.2.length), SuitN k d t.2[n] (below n t.1.2.1 ps)
def Suit (k : Kn) (v : Pt) (ps : List Pt) : Prop := SuitN k v.1 v.2 ps
theorem Suit_iff (k : Kn) : ∀ (v : Pt) (ps : List Pt), Suit k v ps ↔ (∀ p ∈ ps, p.kind = 3 → v.kind = 3 ∧ -4611686018427387904 ≤ v.num ∧ v.num ≤ 4611686018427387903) ∧
    (∀ p ∈ ps, p.kind = 4 → v.kind = 4 ∧ ∃ e f, look k p.name = some e ∧ look k v.name = some f ∧ e.1 = f.1 ∧ v.kids.length = f.2.2) ∧
    ∀ n (h : n < v.kids.length), Suit k v.kids[n] (below n v.name ps)
  | ⟨0, t⟩, _ => t.elim
  | ⟨d + 1, t⟩, ps => by
    have e : (Pt.kids ⟨d + 1, t⟩) = t.2.map fun u => (⟨d, u⟩ : Pt) := rfl
    show SuitN k (d + 1) t ps ↔ _
    unfold SuitN
    constructor
    · rintro ⟨h1, h2, h3⟩
      refine ⟨h1, fun p hp h4 => ?_, fun n h => ?_⟩
      · obtain ⟨a, x, y, b, c, d', l⟩ := h2 p hp h4
        exact ⟨a, x, y, b, c, d', by rw [e, List.length_map]; exact l⟩
      · have hn : n < t.2.length := by rw [e, List.length_map] at h; exact h
        have : (Pt.kids ⟨d + 1, t⟩)[n] = (⟨d, t.2[n]⟩ : Pt) := by simp [e]
        rw [this]
        exact h3 n hn
    · rintro ⟨h1, h2, h3⟩
      refine ⟨h1, fun p hp h4 => ?_, fun n h => ?_⟩
      · obtain ⟨a, x, y, b, c, d', l⟩ := h2 p hp h4
        exact ⟨a, x, y, b, c, d', by rw [e, List.length_map] at l; exact l⟩
      · have hn : n < (Pt.kids ⟨d + 1, t⟩).length := by rw [e, List.length_map]; exact h
        have := h3 n hn
        have e2 : (Pt.kids ⟨d + 1, t⟩)[n] = (⟨d, t.2[n]⟩ : Pt) := by simp [e]
        rw [e2] at this
        exact this
theorem suitN_mono (k : Kn) : ∀ (d : Nat) (t : Pn d) (ps qs : List Pt), (∀ q ∈ qs, q ∈ ps) → SuitN k d t ps → SuitN k d t qs
  | 0, t, _, _, _, _ => t.elim
  | d + 1, t, ps, qs, hs, ⟨h1, h2, h3⟩ => ⟨fun p hp => h1 p (hs p hp), fun p hp => h2 p (hs p hp), fun n h => suitN_mono k d _ _ _ (fun q hq => by
      obtain ⟨p, hp, h4⟩ := mem_below.1 hq
      exact mem_below.2 ⟨p, hs p hp, h4⟩) (h3 n h)⟩
theorem Suit.mono {k : Kn} {v : Pt} {ps qs : List Pt} (h : Suit k v ps) (hs : ∀ q ∈ qs, q ∈ ps) : Suit k v qs := suitN_mono k _ _ _ _ hs h
/-- A case is that of a value. -/
def hit (x : Pt) (c : Cs) : Bool := (x.kind == 4 && c.1 == x.name) || (x.kind == 3 && c.1 == [] && c.2 == x.num)
/-- The last case of a value. -/
def nextP {f : Nat} (x : Pt) (l : List (Cs × Tr f)) : Option (Tr f) := l.foldl (fun a c => if hit x c.1 then some c.2 else a) none
/-- The way down a tree: the row, -1: a failure, -2: it goes wrong. -/
def downP : (f : Nat) → Tr f → List Pt → List (List Nat) → Int
  | 0, _, _, _ => -2
  | f + 1, t, vs, seen => if t.1.1 = 3 then match valAt vs t.1.2.2 with
      | none => -2
      | some x => if t.1.2.2 ∈ seen then -2 else match nextP x t.2.1 with
        | some u => downP f u vs (seen ++ [t.1.2.2])
        | none => match t.2.2 with
          | [e] => downP f e vs (seen ++ [t.1.2.2])
          | _ => -2
    else if t.1.1 = 2 then t.1.2.1 else if t.1.1 = 1 then -1 else -2
theorem nextP_foldl {f : Nat} (x : Pt) : ∀ (l : List (Cs × Tr f)) (a : Option (Tr f)), (∀ c ∈ l, hit x c.1 = false) → l.foldl (fun a c => if hit x c.1 then some c.2 else a) a = a
  | [], _, _ => rfl
  | c :: l, a, h => by
    rw [List.foldl_cons, h c List.mem_cons_self]
    exact nextP_foldl x l a fun d hd => h d (List.mem_cons_of_mem _ hd)
theorem nextP_none {f : Nat} {x : Pt} {l : List (Cs × Tr f)} (h : ∀ c ∈ l, hit x c.1 = false) : nextP x l = none := nextP_foldl x l none h
theorem nextP_some {f : Nat} {x : Pt} : ∀ {l : List (Cs × Tr f)} (a : Option (Tr f)) {c : Cs × Tr f}, c ∈ l → hit x c.1 = true → (∀ d ∈ l, hit x d.1 = true → d = c) → l.foldl (fun a c => if hit x c.1 then some c.2 else a) a = some c.2
  | d :: l, a, c, hc, hh, hu => by
    rw [List.foldl_cons]
    by_cases hl : ∃ e ∈ l, hit x e.1 = true
    · obtain ⟨e, he, heh⟩ := hl
      have : e = c := hu e (List.mem_cons_of_mem _ he) heh
      subst this
      exact nextP_some _ he heh fun y hy => hu y (List.mem_cons_of_mem _ hy)
    · have hn : ∀ e ∈ l, hit x e.1 = false := fun e he => by
        cases h : hit x e.1 with
        | false => rfl
        | true => exact absurd ⟨e, he, h⟩ hl
      rw [nextP_foldl x l _ hn]
      rcases List.mem_cons.1 hc with rfl | hc
      · rw [hh]; rfl
      · exact absurd ⟨c, hc, hh⟩ hl
theorem nextP_mem {f : Nat} (x : Pt) : ∀ (l : List (Cs × Tr f)) (a : Option (Tr f)) (u : Tr f), l.foldl (fun a c => if hit x c.1 then some c.2 else a) a = some u → a = some u ∨ ∃ c ∈ l, hit x c.1 = true ∧ c.2 = u
  | [], a, u, h => .inl h
  | c :: l, a, u, h => by
    rw [List.foldl_cons] at h
    rcases nextP_mem x l _ u h with h | ⟨d, hd, h1, h2⟩
    · cases hh : hit x c.1 with
      | true => rw [hh] at h; exact .inr ⟨c, List.mem_cons_self, hh, Option.some.inj h⟩
      | false => rw [hh] at h; exact .inl h
    · exact .inr ⟨d, List.mem_cons_of_mem _ hd, h1, h2⟩
/-- A way down that comes to a failure: there is one in the tree. -/
theorem down_fail (k : Kn) (fs : List Fam) (vs : List Pt) : ∀ (f : Nat) (t : Tr f) (seen : List (List Nat)), downP f t vs seen = -1 → (toFail k fs f t).isSome = true
  | 0, _, _, h => by simp [downP] at h
  | f + 1, t, seen, h => by
    unfold downP at h
    rw [toFail_eq]
    unfold failP
    by_cases h3 : t.1.1 = 3
    · rw [if_pos h3] at h
      rw [if_neg (by rw [h3]; decide)]
      have key : ∀ (p : Lb × Nat) (u : Tr f) (seen : List (List Nat)), downP f u vs seen = -1 → ((toFail k fs f u).map fun y => y ++ [(t.1.2.2, p)]).isSome = true := fun p u s hu => by
        have := down_fail k fs vs f u s hu
        cases hq : toFail k fs f u with
        | none => rw [hq] at this; cases this
        | some z => rfl
      have some_of : ∀ {α : Type} {g : α → Option (List Stp)} {l : List α} {a : α}, a ∈ l → (g a).isSome = true → ∃ y, l.findSome? g = some y := fun {α g l a} ha hg => by
        cases hq : l.findSome? g with
        | some y => exact ⟨y, rfl⟩
        | none =>
          have := List.findSome?_eq_none_iff.1 hq a ha
          rw [this] at hg
          cases hg
      split at h
      · cases h
      · rename_i x hx
        split at h
        · cases h
        · split at h
          · rename_i u hu
            obtain ⟨c, hc, _, rfl⟩ := (nextP_mem x _ _ _ hu).resolve_left (by simp)
            obtain ⟨y, hy⟩ := some_of (g := fun c => (toFail k fs f c.2).map fun y => y ++ [(t.1.2.2, patOf k c.1)]) hc (key _ _ _ h)
            rw [hy]
            rfl
          · split at h
            · rename_i e he
              split
              · rfl
              · obtain ⟨y, hy⟩ := some_of (g := fun e => (toFail k fs f e).map fun y => y ++ [(t.1.2.2, otherThan k fs (t.2.1.map (·.1)))]) (l := t.2.2) (by rw [he]; exact List.mem_singleton.2 rfl) (key _ _ _ h)
                rw [hy]
                rfl
            · cases h
    · rw [if_neg h3] at h
      split at h
      · rename_i h2; have : (0 : Int) ≤ t.1.2.1 := Int.natCast_nonneg _; omega
      · split at h
        · rename_i h1; rw [if_pos h1]; rfl
        · cases h
/-- A way down that comes to a row: the tree has it. -/
theorem down_met (vs : List Pt) : ∀ (f : Nat) (t : Tr f) (seen : List (List Nat)) (r : Nat), downP f t vs seen = r → r ∈ metP f t
  | 0, _, _, r, h => by simp [downP] at h
  | f + 1, t, seen, r, h => by
    unfold downP at h
    unfold metP
    by_cases h3 : t.1.1 = 3
    · rw [if_pos h3] at h
      split at h
      · omega
      · rename_i x hx
        split at h
        · omega
        · split at h
          · rename_i u hu
            obtain ⟨c, hc, _, rfl⟩ := (nextP_mem x _ _ _ hu).resolve_left (by simp)
            have := down_met vs f c.2 _ r h
            exact List.mem_append_left _ (List.mem_append_right _ (List.mem_flatMap.2 ⟨c, hc, this⟩))
          · split at h
            · rename_i e he
              have := down_met vs f e _ r h
              exact List.mem_append_right _ (List.mem_flatMap.2 ⟨e, by rw [he]; exact List.mem_singleton.2 rfl, this⟩)
            · omega
    · rw [if_neg h3] at h
      split at h
      · rename_i h2
        have : t.1.2.1 = r := by omega
        rw [if_pos h2, this]
        simp
      · split at h
        · omega
        · omega
end Go.Proofs.Ytpdmkhnonbbhnaa

namespace Go.Proofs.Ytpdmkhnonbbhnaa

theorem fitAll_iff (row vs : List Pt) : fitAll row vs = true ↔ ∀ (n : Nat) (p y : Pt), row[n]? = some p → vs[n]? = some y → fit p y = true := by
  unfold fitAll
  rw [List.all_eq_true]
  constructor
  · intro h n p y hp hy
    refine h (p, y) (List.mem_iff_getElem?.2 ⟨n, ?_⟩)
    rw [List.getElem?_zip_eq_some]
    exact ⟨hp, hy⟩
  · intro h x hx
    obtain ⟨n, hn⟩ := List.mem_iff_getElem?.1 hx
    rw [List.getElem?_zip_eq_some] at hn
    exact h n x.1 x.2 hn.1 hn.2
section
variable {k : Kn} {fs : List Fam} {spots : List Sp} {x : Pt}
theorem spot_kind (ht : together k spots = true) {s : Sp} (hs : s ∈ spots) : (s.2.kind = 3 ∨ s.2.kind = 4) ∧ mayBe k s.2 = true := by
  obtain ⟨_, h, _⟩ := together_all ht s hs s hs
  exact ⟨mayBe_kind h, h⟩
theorem hit_num (hx : Suit k x (spots.map (·.2))) {s : Sp} (hs : s ∈ spots) (h3 : s.2.kind = 3) : hit x (csOf s.2) = decide (x.num = s.2.num) ∧ fit s.2 x = decide (x.num = s.2.num) := by
  have h := ((Suit_iff k x _).1 hx).1 s.2 (List.mem_map.2 ⟨s, hs, rfl⟩) h3
  constructor
  · unfold hit csOf
    rw [if_neg (by omega), h.1]
    by_cases e : x.num = s.2.num
    · rw [e]; simp
    · have e' : ¬ s.2.num = x.num := fun q => e q.symm
      simp [e, e']
  · rw [fit_eq, if_neg (by omega), if_pos h3, h.1]
    simp
theorem hit_con (hk : KnOk k fs) (ht : together k spots = true) (hx : Suit k x (spots.map (·.2))) {s : Sp} (hs : s ∈ spots) (h4 : s.2.kind = 4) : hit x (csOf s.2) = decide (x.name = s.2.name) ∧ fit s.2 x = (decide (x.name = s.2.name) && fitAll s.2.kids x.kids) ∧ (x.name = s.2.name → x.kids.length = s.2.kids.length) := by
  obtain ⟨hx4, e, f, he, hf, hef, hl⟩ := ((Suit_iff k x _).1 hx).2.1 s.2 (List.mem_map.2 ⟨s, hs, rfl⟩) h4
  obtain ⟨c, hc, hcl, _⟩ := mayBe_con (spot_kind ht hs).2 h4
  have hne : s.2.name ≠ [] := hk.name _ (look_mem hc)
  have hlen : x.name = s.2.name → x.kids.length = s.2.kids.length := fun q => by
    rw [q, hc] at hf
    obtain rfl := Option.some.inj hf
    rw [hl, hcl]
  refine ⟨?_, ?_, hlen⟩
  · unfold hit csOf
    rw [if_pos h4, hx4]
    by_cases q : x.name = s.2.name
    · rw [q]; simp
    · have q' : ¬ s.2.name = x.name := fun z => q z.symm
      simp [q, q']
  · rw [fit_eq, if_neg (by omega), if_neg (by omega)]
    by_cases q : x.name = s.2.name
    · have := hlen q
      simp [q, hx4, this]
    · simp [q]
theorem hit_one (hk : KnOk k fs) (ht : together k spots = true) (hx : Suit k x (spots.map (·.2))) {c d : Cs} (hc : c ∈ casesOf k spots) (hd : d ∈ casesOf k spots) (h1 : hit x c = true) (h2 : hit x d = true) : c = d := by
  obtain ⟨s, hs, rfl, _⟩ := case_of hk ht hc
  obtain ⟨t, htm, rfl, _⟩ := case_of hk ht hd
  have hkd := (together_all ht s hs t htm).1
  rcases (spot_kind ht hs).1 with h3 | h4
  · rw [(hit_num hx hs h3).1] at h1
    rw [(hit_num hx htm (hkd.symm.trans h3)).1] at h2
    have e1 := of_decide_eq_true h1
    have e2 := of_decide_eq_true h2
    unfold csOf
    rw [if_neg (by omega), if_neg (by omega), ← e1, ← e2]
  · have h4' := hkd.symm.trans h4
    rw [(hit_con hk ht hx hs h4).1] at h1
    rw [(hit_con hk ht hx htm h4').1] at h2
    have e1 := of_decide_eq_true h1
    have e2 := of_decide_eq_true h2
    unfold csOf
    rw [if_pos h4, if_pos h4', ← e1, ← e2]
/-- The case of a value: a spot fits just if it is of that case and its fields fit. -/
theorem fit_case (hk : KnOk k fs) (ht : together k spots = true) (hx : Suit k x (spots.map (·.2))) {c : Cs} (hc : c ∈ casesOf k spots) (hh : hit x c = true) {s : Sp} (hs : s ∈ spots) :
    fit s.2 x = true ↔ isOf c s = true ∧ ∀ n, n < (looks k c.1).2.2 → ∀ p, s.2.kids[n]? = some p → ∀ y, x.kids[n]? = some y → fit p y = true := by
  have hio := isOf_iff hk ht hc hs
  have hcs : csOf s.2 ∈ casesOf k spots := ((casesOf_facts k spots (apart_of hk ht)).2 _).2 (List.mem_map.2 ⟨s, hs, rfl⟩)
  have hone : hit x (csOf s.2) = true ↔ isOf c s = true := by
    rw [hio]
    constructor
    · intro h; exact hit_one hk ht hx hc hcs hh h
    · intro e; rw [← e]; exact hh
  rw [← hone]
  rcases (spot_kind ht hs).1 with h3 | h4
  · obtain ⟨e1, e2⟩ := hit_num hx hs h3
    rw [e1, e2]
    constructor
    · intro h
      refine ⟨h, fun n hn => ?_⟩
      have hi : isOf c s = true := hone.1 (e1.trans h)
      have : c.1 = [] := by rw [hio.1 hi]; unfold csOf; rw [if_neg (by omega)]
      rw [this, looks_nil hk] at hn
      exact absurd hn (Nat.not_lt_zero _)
    · exact fun h => h.1
  · obtain ⟨e1, e2, e3⟩ := hit_con hk ht hx hs h4
    rw [e1, e2, Bool.and_eq_true, fitAll_iff]
    constructor
    · rintro ⟨h1, h2⟩
      exact ⟨h1, fun n _ p hp y hy => h2 n p y hp hy⟩
    · rintro ⟨h1, h2⟩
      refine ⟨h1, fun n p y hp hy => ?_⟩
      have hi : isOf c s = true := hone.1 (e1.trans h1)
      have hcn : c.1 = s.2.name := by rw [hio.1 hi]; unfold csOf; rw [if_pos h4]
      obtain ⟨c', hc', hcl, hlk⟩ := mayBe_con (spot_kind ht hs).2 h4
      refine h2 n ?_ p hp y hy
      rw [hcn, hlk, ← hcl]
      exact (List.getElem?_eq_some_iff.1 hp).1
/-- No case is that of a value: no spot fits. -/
theorem fit_none (hk : KnOk k fs) (ht : together k spots = true) (hx : Suit k x (spots.map (·.2))) (hn : ∀ c ∈ casesOf k spots, hit x c = false) {s : Sp} (hs : s ∈ spots) : fit s.2 x = false := by
  have hcs : csOf s.2 ∈ casesOf k spots := ((casesOf_facts k spots (apart_of hk ht)).2 _).2 (List.mem_map.2 ⟨s, hs, rfl⟩)
  have h := hn _ hcs
  rcases (spot_kind ht hs).1 with h3 | h4
  · obtain ⟨e1, e2⟩ := hit_num hx hs h3
    rw [e2, ← e1]
    exact h
  · obtain ⟨e1, e2, e3⟩ := hit_con hk ht hx hs h4
    rw [e2, ← e1, h]
    rfl
/-- The fields of a value are as many as its case says. -/
theorem case_kids (hk : KnOk k fs) (ht : together k spots = true) (hx : Suit k x (spots.map (·.2))) {c : Cs} (hc : c ∈ casesOf k spots) (hh : hit x c = true) {n : Nat} (hn : n < (looks k c.1).2.2) : x.name = c.1 ∧ x.kids.length = (looks k c.1).2.2 := by
  obtain ⟨s, hs, rfl, _⟩ := case_of hk ht hc
  rcases (spot_kind ht hs).1 with h3 | h4
  · have : (csOf s.2).1 = [] := by unfold csOf; rw [if_neg (by omega)]
    rw [this, looks_nil hk] at hn
    exact absurd hn (Nat.not_lt_zero _)
  · obtain ⟨e1, e2, e3⟩ := hit_con hk ht hx hs h4
    have q := of_decide_eq_true (e1.symm.trans hh)
    obtain ⟨c', hc', hcl, hlk⟩ := mayBe_con (spot_kind ht hs).2 h4
    have : (csOf s.2).1 = s.2.name := by unfold csOf; rw [if_pos h4]
    rw [this, hlk, e3 q]
    exact ⟨q, hcl⟩
end
theorem mem_spotsOf {n : Nat} {lines : List (Nat × List Pt)} {s : Sp} : s ∈ spotsOf n lines ↔ ∃ l ∈ lines, l.2[n]? = some s.2 ∧ wild s.2 = false ∧ s.1 = l.1 := by
  unfold spotsOf
  rw [List.mem_filterMap]
  constructor
  · rintro ⟨l, hl, h⟩
    split at h
    · rename_i p hp
      split at h
      · cases h
      · rename_i hw
        obtain rfl := Option.some.inj h
        exact ⟨l, hl, hp, by simpa using hw, rfl⟩
    · cases h
  · rintro ⟨l, hl, h1, h2, h3⟩
    refine ⟨l, hl, ?_⟩
    rw [h1]
    simp only [h2]
    rw [← h3]
    rfl
/-- A column says nothing against a row. -/
def colFit (vs : List Pt) (r : Nat) (c : Col) : Bool := c.2.2.all fun s => s.1 != r || (match valAt vs (cpath c) with | some x => fit s.2 x | none => false)
def rowFit (cols : List Col) (vs : List Pt) (r : Nat) : Bool := cols.all (colFit vs r)
def firstP (cols : List Col) (vs : List Pt) (rows : List Nat) : Int := match rows.find? (rowFit cols vs) with | some r => (r : Int) | none => -1
theorem colFit_iff {vs : List Pt} {r : Nat} {c : Col} {x : Pt} (hv : valAt vs (cpath c) = some x) : colFit vs r c = true ↔ ∀ s ∈ c.2.2, s.1 = r → fit s.2 x = true := by
  unfold colFit
  rw [List.all_eq_true]
  simp only [hv, Bool.or_eq_true, bne_iff_ne]
  constructor
  · intro h s hs e
    exact (h s hs).resolve_left fun q => q e
  · intro h s hs
    by_cases e : s.1 = r
    · exact .inr (h s hs e)
    · exact .inl e
theorem rowFit_split {cols : List Col} {ax : Nat} (ha : ax < cols.length) (vs : List Pt) (r : Nat) : rowFit cols vs r = (rowFit (cols.take ax) vs r && colFit vs r cols[ax] && rowFit (cols.drop (ax + 1)) vs r) := by
  have e : cols = cols.take ax ++ (cols[ax] :: cols.drop (ax + 1)) := by rw [← List.drop_eq_getElem_cons ha, List.take_append_drop]
  unfold rowFit
  conv => lhs; rw [e, List.all_append, List.all_cons]
  rw [Bool.and_assoc]
theorem find_cut {rows : List Nat} {p q p' : Nat → Bool} (h : ∀ r ∈ rows, p r = (q r && p' r)) : rows.find? p = (rows.filter q).find? p' := by
  rw [List.find?_filter]
  induction rows with
  | nil => rfl
  | cons a l ih =>
    rw [List.find?_cons, List.find?_cons, h a List.mem_cons_self, ih fun r hr => h r (List.mem_cons_of_mem _ hr)]
    cases q a <;> cases p' a <;> rfl
theorem first_case {k : Kn} {fs : List Fam} (hk : KnOk k fs) {vs : List Pt} {cols : List Col} {rows : List Nat} {ax : Nat} (ha : ax < cols.length) {x : Pt} (hv : valAt vs (cpath cols[ax]) = some x) (ht : together k (ofRows cols[ax].2.2 rows) = true) (hx : Suit k x ((ofRows cols[ax].2.2 rows).map (·.2))) {c : Cs} (hc : c ∈ casesOf k (ofRows cols[ax].2.2 rows)) (hh : hit x c = true) :
    firstP cols vs rows = firstP (cols.take ax ++ within k ((ofRows cols[ax].2.2 rows).filter (isOf c)) c.1 (cpath cols[ax]) ++ cols.drop (ax + 1)) vs (without rows ((ofRows cols[ax].2.2 rows).filter fun s => !isOf c s)) := by
  unfold firstP without
  rw [find_cut]
  intro r hr
  rw [rowFit_split ha]
  have e : rowFit (cols.take ax ++ within k ((ofRows cols[ax].2.2 rows).filter (isOf c)) c.1 (cpath cols[ax]) ++ cols.drop (ax + 1)) vs r = (rowFit (cols.take ax) vs r && rowFit (within k ((ofRows cols[ax].2.2 rows).filter (isOf c)) c.1 (cpath cols[ax])) vs r && rowFit (cols.drop (ax + 1)) vs r) := by
    unfold rowFit
    rw [List.all_append, List.all_append]
  rw [e]
  have hof : ∀ s, s ∈ ofRows cols[ax].2.2 rows ↔ s ∈ cols[ax].2.2 ∧ s.1 ∈ rows := fun s => by
    unfold ofRows
    rw [List.mem_filter]
    simp
  have main : colFit vs r cols[ax] = ((!((ofRows cols[ax].2.2 rows).filter fun s => !isOf c s).any fun s => s.1 == r) && rowFit (within k ((ofRows cols[ax].2.2 rows).filter (isOf c)) c.1 (cpath cols[ax])) vs r) := by
    rw [Bool.eq_iff_iff, colFit_iff hv, Bool.and_eq_true]
    have h1 : (!((ofRows cols[ax].2.2 rows).filter fun s => !isOf c s).any fun s => s.1 == r) = true ↔ ∀ s ∈ ofRows cols[ax].2.2 rows, s.1 = r → isOf c s = true := by
      rw [Bool.not_eq_true', List.any_eq_false]
      constructor
      · intro h s hs e
        cases hi : isOf c s with
        | true => rfl
        | false =>
          have := h s (List.mem_filter.2 ⟨hs, by rw [hi]; rfl⟩)
          rw [e] at this
          simp at this
      · intro h s hs
        rw [List.mem_filter] at hs
        intro q
        have q : s.1 = r := eq_of_beq q
        have := h s hs.1 q
        rw [this] at hs
        simp at hs
    have hcv : ∀ n, n < (looks k c.1).2.2 → ∃ y, x.kids[n]? = some y ∧ valAt vs (cpath cols[ax] ++ [n]) = some y := fun n hn => by
      have hl := (case_kids hk ht hx hc hh hn).2
      have hn' : n < x.kids.length := by omega
      refine ⟨x.kids[n], List.getElem?_eq_getElem hn', ?_⟩
      rw [valAt_snoc _ _ _ (by unfold cpath; simp), hv]
      exact List.getElem?_eq_getElem hn'
    have h2 : rowFit (within k ((ofRows cols[ax].2.2 rows).filter (isOf c)) c.1 (cpath cols[ax])) vs r = true ↔ ∀ s ∈ ofRows cols[ax].2.2 rows, s.1 = r → isOf c s = true → ∀ n, n < (looks k c.1).2.2 → ∀ p, s.2.kids[n]? = some p → ∀ y, x.kids[n]? = some y → fit p y = true := by
      unfold rowFit
      rw [List.all_eq_true]
      constructor
      · intro h s hs e hi n hn p hp y hy
        by_cases hw : wild p = true
        · exact fit_wild hw y
        · have hw : wild p = false := by simpa using hw
          obtain ⟨y', hy', hvy⟩ := hcv n hn
          have hmem : (r, p) ∈ spotsOf n (linesOf ((ofRows cols[ax].2.2 rows).filter (isOf c))) := mem_spotsOf.2 ⟨(s.1, s.2.kids), List.mem_map.2 ⟨s, List.mem_filter.2 ⟨hs, hi⟩, rfl⟩, hp, hw, e.symm⟩
          have := h (cpath cols[ax], n, spotsOf n (linesOf ((ofRows cols[ax].2.2 rows).filter (isOf c)))) (mem_colsOf.2 ⟨n, hn, List.ne_nil_of_mem hmem, rfl⟩)
          rw [colFit_iff (x := y') hvy] at this
          have := this (r, p) hmem rfl
          rw [hy] at hy'
          rw [Option.some.inj hy']
          exact this
      · intro h col hcol
        obtain ⟨n, hn, _, rfl⟩ := mem_colsOf.1 hcol
        obtain ⟨y', hy', hvy⟩ := hcv n hn
        rw [colFit_iff (x := y') hvy]
        intro s hs e
        obtain ⟨l, hl, h3, _, h5⟩ := mem_spotsOf.1 hs
        obtain ⟨t, ht', rfl⟩ := List.mem_map.1 hl
        rw [List.mem_filter] at ht'
        exact h t ht'.1 (h5.symm.trans e) ht'.2 n hn s.2 h3 y' hy'
    rw [h1, h2]
    constructor
    · intro h
      exact ⟨fun s hs e => ((fit_case hk ht hx hc hh hs).1 (h s ((hof s).1 hs).1 e)).1, fun s hs e _ => ((fit_case hk ht hx hc hh hs).1 (h s ((hof s).1 hs).1 e)).2⟩
    · rintro ⟨h3, h4⟩ s hs e
      have hs' := (hof s).2 ⟨hs, by rw [e]; exact hr⟩
      exact (fit_case hk ht hx hc hh hs').2 ⟨h3 s hs' e, h4 s hs' e (h3 s hs' e)⟩
  rw [main]
  generalize rowFit (cols.take ax) vs r = b1
  generalize rowFit (cols.drop (ax + 1)) vs r = b2
  generalize rowFit (within k ((ofRows cols[ax].2.2 rows).filter (isOf c)) c.1 (cpath cols[ax])) vs r = b3
  generalize (!((ofRows cols[ax].2.2 rows).filter fun s => !isOf c s).any fun s => s.1 == r) = b4
  cases b1 <;> cases b2 <;> cases b3 <;> cases b4 <;> rfl
theorem first_else {k : Kn} {fs : List Fam} (hk : KnOk k fs) {vs : List Pt} {cols : List Col} {rows : List Nat} {ax : Nat} (ha : ax < cols.length) {x : Pt} (hv : valAt vs (cpath cols[ax]) = some x) (ht : together k (ofRows cols[ax].2.2 rows) = true) (hx : Suit k x ((ofRows cols[ax].2.2 rows).map (·.2))) (hn : ∀ c ∈ casesOf k (ofRows cols[ax].2.2 rows), hit x c = false) :
    firstP cols vs rows = firstP (cols.take ax ++ cols.drop (ax + 1)) vs (without rows (ofRows cols[ax].2.2 rows)) := by
  unfold firstP without
  rw [find_cut]
  intro r hr
  rw [rowFit_split ha]
  have e : rowFit (cols.take ax ++ cols.drop (ax + 1)) vs r = (rowFit (cols.take ax) vs r && rowFit (cols.drop (ax + 1)) vs r) := by
    unfold rowFit
    rw [List.all_append]
  rw [e]
  have hof : ∀ s, s ∈ ofRows cols[ax].2.2 rows ↔ s ∈ cols[ax].2.2 ∧ s.1 ∈ rows := fun s => by
    unfold ofRows
    rw [List.mem_filter]
    simp
  have main : colFit vs r cols[ax] = !(ofRows cols[ax].2.2 rows).any fun s => s.1 == r := by
    rw [Bool.eq_iff_iff, colFit_iff hv, Bool.not_eq_true', List.any_eq_false]
    constructor
    · intro h s hs q
      have q : s.1 = r := eq_of_beq q
      have := h s ((hof s).1 hs).1 q
      rw [fit_none hk ht hx hn hs] at this
      cases this
    · intro h s hs q
      have := h s ((hof s).2 ⟨hs, by rw [q]; exact hr⟩)
      rw [q] at this
      simp at this
  rw [main]
  generalize rowFit (cols.take ax) vs r = b1
  generalize rowFit (cols.drop (ax + 1)) vs r = b2
  generalize (!(ofRows cols[ax].2.2 rows).any fun s => s.1 == r) = b4
  cases b1 <;> cases b2 <;> cases b4 <;> rfl
end Go.Proofs.Ytpdmkhnonbbhnaa
