/- toFail: the way to the first failure: plain, and in memory. missing: the patterns that a way says: plain, and in memory. -/
import Derived.Test.YtpdmkhnonbbhnaaMmx
import Derived.Test.YtpdmkhnonbbhnaaTk
import Derived.Deep.CutRange
namespace Go.Proofs.Ytpdmkhnonbbhnaa
open Go.RowKit Go.Maps

/-- The way to a failure, part by part. -/
def failP (k : Kn) (fs : List Fam) (f : Nat) (t0 : Int) (path : List Nat) (l1 : List (Cs × Tr f)) (l2 : List (Tr f)) : Option (List Stp) := if t0 = 1 then some [] else
    match l1.findSome? (fun c => (toFail k fs f c.2).map fun y => y ++ [(path, patOf k c.1)]) with
    | some y => some y
    | none => l2.findSome? fun e => (toFail k fs f e).map fun y => y ++ [(path, otherThan k fs (l1.map (·.1)))]
theorem toFail_eq (k : Kn) (fs : List Fam) (f : Nat) (t : Tr (f + 1)) : toFail k fs (f + 1) t = failP k fs f t.1.1 t.1.2.2 t.2.1 t.2.2 := rfl
theorem find_first {α β : Type} (g : α → Option β) : ∀ (l : List α) (i : Nat) (h : i < l.length), (∀ j (hj : j < l.length), j < i → g l[j] = none) → ∀ y, g l[i] = some y → l.findSome? g = some y
  | a :: r, 0, _, _, y, hy => by
    rw [List.findSome?_cons]
    simp only [List.getElem_cons_zero] at hy
    rw [hy]
  | a :: r, i + 1, h, hj, y, hy => by
    rw [List.findSome?_cons]
    have h0 := hj 0 (by simp) (by omega)
    simp only [List.getElem_cons_zero] at h0
    rw [h0]
    exact find_first g r i (by simpa using h) (fun j hjr hji => by
      have := hj (j + 1) (by simpa using hjr) (by omega)
      simpa using this) y (by simpa using hy)
theorem find_none {α β : Type} (g : α → Option β) (l : List α) (h : ∀ j (hj : j < l.length), g l[j] = none) : l.findSome? g = none := by
  rw [List.findSome?_eq_none_iff]
  intro x hx
  obtain ⟨j, hj, rfl⟩ := List.getElem_of_mem hx
  exact h j hj
theorem failP_case {k : Kn} {fs : List Fam} {f : Nat} {t0 : Int} {path : List Nat} {l1 : List (Cs × Tr f)} {l2 : List (Tr f)} (h0 : t0 ≠ 1) (i : Nat) (hi : i < l1.length) (hn : ∀ j (hj : j < l1.length), j < i → toFail k fs f l1[j].2 = none) {y : List Stp} (hy : toFail k fs f l1[i].2 = some y) : failP k fs f t0 path l1 l2 = some (y ++ [(path, patOf k l1[i].1)]) := by
  unfold failP
  rw [if_neg h0, find_first _ l1 i hi (fun j hj hji => by rw [hn j hj hji]; rfl) (y ++ [(path, patOf k l1[i].1)]) (by rw [hy]; rfl)]
theorem failP_else {k : Kn} {fs : List Fam} {f : Nat} {t0 : Int} {path : List Nat} {l1 : List (Cs × Tr f)} {l2 : List (Tr f)} (h0 : t0 ≠ 1) (h1 : ∀ j (hj : j < l1.length), toFail k fs f l1[j].2 = none) (i : Nat) (hi : i < l2.length) (hn : ∀ j (hj : j < l2.length), j < i → toFail k fs f l2[j] = none) {y : List Stp} (hy : toFail k fs f l2[i] = some y) : failP k fs f t0 path l1 l2 = some (y ++ [(path, otherThan k fs (l1.map (·.1)))]) := by
  unfold failP
  rw [if_neg h0, find_none _ l1 (fun j hj => by rw [h1 j hj]; rfl)]
  exact find_first _ l2 i hi (fun j hj hji => by rw [hn j hj hji]; rfl) _ (by rw [hy]; rfl)
theorem failP_none {k : Kn} {fs : List Fam} {f : Nat} {t0 : Int} {path : List Nat} {l1 : List (Cs × Tr f)} {l2 : List (Tr f)} (h0 : t0 ≠ 1) (h1 : ∀ j (hj : j < l1.length), toFail k fs f l1[j].2 = none) (h2 : ∀ j (hj : j < l2.length), toFail k fs f l2[j] = none) : failP k fs f t0 path l1 l2 = none := by
  unfold failP
  rw [if_neg h0, find_none _ l1 (fun j hj => by rw [h1 j hj]; rfl)]
  exact find_none _ l2 (fun j hj => by rw [h2 j hj]; rfl)
/-- A step in memory: what it is, where its path lies, where its fields lie. -/
abbrev Rs := Stp × (Option Addr × Nat) × (Option Addr × Nat)
def rsC (x : Rs) : List Value := [.slice x.2.1.1 x.1.1.length x.2.1.2, .int .i64 x.1.2.1.1, .string ⟨x.1.2.1.2.1.toArray⟩, .int .i64 x.1.2.1.2.2, .slice x.2.2.1 x.1.2.2 x.2.2.2]
def ArgsAt (w : World) (lo : Nat) (own : Option Nat) (x : Rs) : Prop := (x.2.2.1 = none ∧ x.1.2.2 = 0 ∧ x.2.2.2 = 0) ∨ ∃ B, x.2.2.1 = some ⟨B, 0, none⟩ ∧ x.2.2.2 = x.1.2.2 ∧ lo ≤ B ∧ B < w.heap.size ∧ Wild w B x.1.2.2 ∧ own ≠ some B
/-- Steps in memory, in a row of the call's own, each with fields of its own. -/
structure WayAt (w : World) (S : Nat → Prop) (lo : Nat) (v : Value) (l : List Rs) : Prop where
  own : w.ownsRow lo 123 5 v l.length (l.flatMap rsC)
  path : ∀ x ∈ l, Nats w S (.slice x.2.1.1 x.1.1.length x.2.1.2) x.1.1
  args : ∀ x ∈ l, ArgsAt w lo v.ownBlock x
  apart : l.Pairwise fun x y => ∀ B, x.2.2.1 = some ⟨B, 0, none⟩ → y.2.2.1 ≠ some ⟨B, 0, none⟩
  name : ∀ x ∈ l, x.1.2.1.2.1.length < 140737488355328
theorem Wild.on {w w' : World} {B n : Nat} (h : Wild w B n) (hb : w'.heap[B]? = w.heap[B]?) : Wild w' B n := by
  obtain ⟨cur, h1, h2⟩ := h
  exact ⟨cur, hb.trans h1, h2⟩
theorem WayAt.mono {w : World} {S : Nat → Prop} {lo lo' : Nat} {v : Value} {l : List Rs} (h : WayAt w S lo v l) (hl : lo' ≤ lo) : WayAt w S lo' v l := by
  refine ⟨⟨h.own.1, h.own.2.imp_right ?_⟩, h.path, fun x hx => (h.args x hx).imp_right ?_, h.apart, h.name⟩
  · rintro ⟨g, cap, cur, h1, h2, h3⟩
    exact ⟨g, cap, cur, h1, by omega, h3⟩
  · rintro ⟨B, h1, h2, h3, h4⟩
    exact ⟨B, h1, h2, by omega, h4⟩
theorem WayAt.on {w w' : World} {S : Nat → Prop} {lo : Nat} {v : Value} {l : List Rs} (h : WayAt w S lo v l) (hS : ∀ x, S x → x < w.heap.size) (hb : Below w.heap.size w w') : WayAt w' S lo v l := by
  refine ⟨⟨h.own.1, h.own.2.imp_right ?_⟩, fun x hx => (h.path x hx).on (Keeps.of hb hS), fun x hx => (h.args x hx).imp_right ?_, h.apart, h.name⟩
  · rintro ⟨g, cap, cur, h1, h2, h3, h4⟩
    exact ⟨g, cap, cur, h1, h2, (hb.block _ (lt_of_heap h3)).trans h3, h4⟩
  · rintro ⟨B, h1, h2, h3, h4, h5, h6⟩
    exact ⟨B, h1, h2, h3, Nat.lt_of_lt_of_le h4 hb.size, h5.on (hb.block _ h4), h6⟩
/-- One step more. -/
theorem WayAt.snoc {w w5 w7 : World} {S : Nat → Prop} {lo : Nat} {v v' : Value} {l : List Rs} {x : Rs} (h : WayAt w S lo v l) (hS : ∀ x, S x → x < lo) (hlo : lo ≤ w.heap.size) (hb : Below w.heap.size w w5) (hp : Nats w S (.slice x.2.1.1 x.1.1.length x.2.1.2) x.1.1) (hn : x.1.2.1.2.1.length < 140737488355328)
    (ha : (x.2.2.1 = none ∧ x.1.2.2 = 0 ∧ x.2.2.2 = 0) ∨ ∃ B, x.2.2.1 = some ⟨B, 0, none⟩ ∧ x.2.2.2 = x.1.2.2 ∧ w.heap.size ≤ B ∧ B < w5.heap.size ∧ Wild w5 B x.1.2.2) (ho : w7.ownsRow lo 123 5 v' (l.length + 1) (l.flatMap rsC ++ rsC x)) (hg : w5.grownBy w7 v.ownBlock) (hv : v'.ownBlock = v.ownBlock ∨ v'.ownBlock = some w5.heap.size) : WayAt w7 S lo v' (l ++ [x]) := by
  have h5 := h.on (fun y hy => by have := hS y hy; omega) hb
  have hs := hb.size
  have hvl : ∀ g, v.ownBlock = some g → lo ≤ g ∧ g < w.heap.size := fun g e => h.own.lt g e
  have hk : Keeps S w5 w7 := fun y hy => hg.block y (by have := hS y hy; omega) (fun e => by have := hvl y e.symm; have := hS y hy; omega)
  have hnb : ∀ B, B < w5.heap.size → v.ownBlock ≠ some B → v'.ownBlock ≠ some B := fun B hB hne => by
    rcases hv with e | e
    · rw [e]; exact hne
    · rw [e]; intro e2; injection e2 with e2; omega
  refine ⟨?_, fun y hy => ?_, fun y hy => ?_, ?_, fun y hy => ?_⟩
  · rw [List.length_append, List.flatMap_append]
    simpa using ho
  · rcases List.mem_append.1 hy with hy | hy
    · exact (h5.path y hy).on hk
    · obtain rfl := List.mem_singleton.1 hy
      exact (hp.on (Keeps.of hb fun z hz => by have := hS z hz; omega)).on hk
  · rcases List.mem_append.1 hy with hy | hy
    · refine (h5.args y hy).imp_right ?_
      rintro ⟨B, h1, h2, h3, h4, h6, h7⟩
      exact ⟨B, h1, h2, h3, Nat.lt_of_lt_of_le h4 hg.size, h6.on (hg.block B h4 fun e => h7 e.symm), hnb B h4 h7⟩
    · obtain rfl := List.mem_singleton.1 hy
      refine ha.imp_right ?_
      rintro ⟨B, h1, h2, h3, h4, h6⟩
      have h7 : v.ownBlock ≠ some B := fun e => by have := hvl B e; omega
      exact ⟨B, h1, h2, by omega, Nat.lt_of_lt_of_le h4 hg.size, h6.on (hg.block B h4 fun e => h7 e.symm), hnb B h4 h7⟩
  · rw [List.pairwise_append]
    refine ⟨h.apart, List.pairwise_singleton _ _, fun y hy z hz B hB hB2 => ?_⟩
    obtain rfl := List.mem_singleton.1 hz
    have h1 : B < w.heap.size := by
      rcases h.args y hy with ⟨e, _⟩ | ⟨B', e, _, _, h4, _⟩
      · rw [e] at hB; cases hB
      · rw [e] at hB; injection hB with hB; injection hB with hB; omega
    rcases ha with ⟨e, _⟩ | ⟨B', e, _, h3, _⟩
    · rw [e] at hB2; cases hB2
    · rw [e] at hB2; injection hB2 with hB2; injection hB2 with hB2; omega
  · rcases List.mem_append.1 hy with hy | hy
    · exact h.name y hy
    · obtain rfl := List.mem_singleton.1 hy
      exact hn
theorem WayAt.nil (w : World) (S : Nat → Prop) (lo : Nat) : WayAt w S lo (.slice none 0 0) [] := ⟨World.ownsRow_nil _ _ _ _, fun x hx => by simp at hx, fun x hx => by simp at hx, List.Pairwise.nil, fun x hx => by simp at hx⟩
def FailPost (S : Nat → Prop) (res : Option (List Stp)) (w : World) (r : Ending) (w' : World) : Prop := Below w.heap.size w w' ∧ ((res = none ∧ r = .returned (.tuple #[.slice none 0 0, .bool false])) ∨ ∃ y v l, res = some y ∧ r = .returned (.tuple #[v, .bool true]) ∧ l.map (·.1) = y ∧ WayAt w' S w.heap.size v l)
end Go.Proofs.Ytpdmkhnonbbhnaa

namespace Go.Proofs.Ytpdmkhnonbbhnaa
open Go.RowKit Go.Maps

/-- A path leads, step by step, into what the steps of a way have laid. -/
def Reach (n : Nat) (st : List Stp) (p : List Nat) : Prop := ∀ j (h : j < p.length), (j = 0 ∧ p[j] < n) ∨ (0 < j ∧ ∃ y ∈ st, y.1 = p.take j ∧ p[j] < y.2.2)
/-- A way (its last step first) whose paths lead into what was laid before, no path twice. -/
def WayOk (n : Nat) : List Stp → Prop
  | [] => True
  | x :: r => WayOk n r ∧ x.1 ≠ [] ∧ x.1.length ≤ r.length + 1 ∧ Reach n r x.1 ∧ ∀ y ∈ r, y.1 ≠ x.1
theorem Reach.more {n : Nat} {st st' : List Stp} {p : List Nat} (h : Reach n st p) (hs : ∀ y ∈ st, y ∈ st') : Reach n st' p := fun j hj => by
  rcases h j hj with h | ⟨h0, y, hy, h1⟩
  · exact .inl h
  · exact .inr ⟨h0, y, hs y hy, h1⟩
theorem Reach.down {n : Nat} {st : List Stp} {p : List Nat} (h : Reach n st p) {x : Stp} (hx : x.1 = p) (hp : p ≠ []) (i : Nat) (hi : i < x.2.2) : Reach n (x :: st) (p ++ [i]) := fun j hj => by
  have hl : j ≤ p.length := by simp at hj; omega
  by_cases e : j = p.length
  · subst e
    right
    refine ⟨List.length_pos_iff.2 hp, x, by simp, by rw [List.take_left' rfl]; exact hx, ?_⟩
    simpa using hi
  · have hj2 : j < p.length := by omega
    have e1 : (p ++ [i])[j] = p[j] := List.getElem_append_left hj2
    have e2 : (p ++ [i]).take j = p.take j := List.take_append_of_le_length (by omega)
    rw [e1, e2]
    rcases h j hj2 with h | ⟨h0, y, hy, h1⟩
    · exact .inl h
    · exact .inr ⟨h0, y, List.mem_cons_of_mem _ hy, h1⟩
/-- What was not laid has nothing within it. -/
theorem WayOk.fresh {n : Nat} : ∀ {st : List Stp}, WayOk n st → ∀ {p : List Nat}, p ≠ [] → (∀ y ∈ st, y.1 ≠ p) → ∀ i, ∀ y ∈ st, y.1 ≠ p ++ [i]
  | x :: r, h, p, hp, hn, i, y, hy => by
    obtain ⟨h1, _, _, h4, _⟩ := h
    have hr : ∀ y ∈ r, y.1 ≠ p := fun y hy => hn y (List.mem_cons_of_mem _ hy)
    rcases List.mem_cons.1 hy with rfl | hy
    · intro e
      rw [e] at h4
      rcases h4 p.length (by simp) with ⟨h0, _⟩ | ⟨_, z, hz, h5, _⟩
      · exact hp (List.eq_nil_of_length_eq_zero h0)
      · rw [List.take_left' rfl] at h5
        exact hr z hz h5
    · exact WayOk.fresh h1 hp hr i y hy
def stepAt (st : List Rs) (p : List Nat) : Option Rs := st.find? fun x => x.1.1 == p
theorem stepAt_cons (x : Rs) (st : List Rs) (p : List Nat) : stepAt (x :: st) p = if x.1.1 = p then some x else stepAt st p := by
  unfold stepAt
  rw [List.find?_cons]
  by_cases h : x.1.1 = p
  · rw [if_pos h]
    have : (x.1.1 == p) = true := by rw [h]; exact beq_self_eq_true _
    rw [this]
  · rw [if_neg h]
    have : (x.1.1 == p) = false := beq_eq_false_iff_ne.2 h
    rw [this]
theorem stepAt_none {st : List Rs} {p : List Nat} (h : ∀ y ∈ st, y.1.1 ≠ p) : stepAt st p = none := by
  unfold stepAt
  rw [List.find?_eq_none]
  intro x hx e
  exact h x hx (eq_of_beq e)
theorem stepAt_some {st : List Rs} {p : List Nat} {x : Rs} (h : stepAt st p = some x) : x ∈ st ∧ x.1.1 = p := by
  unfold stepAt at h
  have h2 : (x.1.1 == p) = true := List.find?_some (p := fun x : Rs => x.1.1 == p) h
  exact ⟨List.mem_of_find?_eq_some h, eq_of_beq h2⟩
theorem stepAt_mem {n : Nat} : ∀ {st : List Rs}, WayOk n (st.map (·.1)) → ∀ {x : Rs}, x ∈ st → stepAt st x.1.1 = some x
  | y :: r, h, x, hx => by
    obtain ⟨h1, _, _, _, h5⟩ := h
    rw [stepAt_cons]
    rcases List.mem_cons.1 hx with rfl | hx
    · rw [if_pos rfl]
    · rw [if_neg fun e => h5 x.1 (List.mem_map.2 ⟨x, hx, rfl⟩) e.symm]
      exact stepAt_mem h1 hx
/-- What stands at a path: its four cells. -/
def contC (st : List Rs) (p : List Nat) : List Value := match stepAt st p with
  | some x => [.int .i64 x.1.2.1.1, .string ⟨x.1.2.1.2.1.toArray⟩, .int .i64 x.1.2.1.2.2, .slice x.2.2.1 x.1.2.2 x.2.2.2]
  | none => [.int .i64 1, .string ⟨#[]⟩, .int .i64 0, .slice none 0 0]
theorem contC_len (st : List Rs) (p : List Nat) : (contC st p).length = 4 := by
  unfold contC
  split <;> rfl
/-- Block B holds so many patterns, those behind the path p. -/
def GrpAt (W : World) (B cnt : Nat) (st : List Rs) (p : List Nat) : Prop := ∃ cur, W.heap[B]? = some (.cells cur 39 (0, 0)) ∧ cur.size = cnt * 4 ∧ ∀ i, i < cnt → ∀ c, c < 4 → cur[i * 4 + c]? = (contC st (p ++ [i]))[c]?
theorem GrpAt.on {W W' : World} {B cnt : Nat} {st : List Rs} {p : List Nat} (h : GrpAt W B cnt st p) (hb : W'.heap[B]? = W.heap[B]?) : GrpAt W' B cnt st p := by
  obtain ⟨cur, h1, h2⟩ := h
  exact ⟨cur, hb.trans h1, h2⟩
theorem GrpAt.of_wild {W : World} {B cnt : Nat} {st : List Rs} {p : List Nat} (h : Wild W B cnt) (hn : ∀ i, stepAt st (p ++ [i]) = none) : GrpAt W B cnt st p := by
  obtain ⟨cur, h1, h2, h3⟩ := h
  refine ⟨cur, h1, h2, fun i hi c hc => ?_⟩
  obtain ⟨q0, q1, q2, q3⟩ := h3 i hi
  unfold contC
  rw [hn i]
  rcases Nat.lt_or_ge c 1 with e | e
  · obtain rfl : c = 0 := by omega
    exact q0
  · rcases Nat.lt_or_ge c 2 with e2 | e2
    · obtain rfl : c = 1 := by omega
      exact q1
    · rcases Nat.lt_or_ge c 3 with e3 | e3
      · obtain rfl : c = 2 := by omega
        exact q2
      · obtain rfl : c = 3 := by omega
        exact q3
theorem GrpAt.same {W : World} {B cnt : Nat} {st : List Rs} {x : Rs} {p : List Nat} (h : GrpAt W B cnt st p) (hn : ∀ i, x.1.1 ≠ p ++ [i]) : GrpAt W B cnt (x :: st) p := by
  obtain ⟨cur, h1, h2, h3⟩ := h
  refine ⟨cur, h1, h2, fun i hi c hc => ?_⟩
  rw [h3 i hi c hc]
  unfold contC
  rw [stepAt_cons, if_neg (hn i)]
def set4 (W : World) (B i : Nat) (a b c d : Value) : World := (((W.setCell ⟨B, i * 4, none⟩ a).setCell ⟨B, i * 4 + 1, none⟩ b).setCell ⟨B, i * 4 + 2, none⟩ c).setCell ⟨B, i * 4 + 3, none⟩ d
theorem set4_other (W : World) (B i : Nat) (a b c d : Value) (y : Nat) (h : y ≠ B) : (set4 W B i a b c d).heap[y]? = W.heap[y]? := by
  unfold set4
  rw [Below.heap_setCell _ _ _ _ h, Below.heap_setCell _ _ _ _ h, Below.heap_setCell _ _ _ _ h, Below.heap_setCell _ _ _ _ h]
theorem set4_size (W : World) (B i : Nat) (a b c d : Value) : (set4 W B i a b c d).heap.size = W.heap.size := by simp [set4, World.setCell]
theorem GrpAt.put {W : World} {B cnt : Nat} {st : List Rs} {x : Rs} {p : List Nat} {i : Nat} (h : GrpAt W B cnt st p) (hx : x.1.1 = p ++ [i]) (hi : i < cnt) : GrpAt (set4 W B i (.int .i64 x.1.2.1.1) (.string ⟨x.1.2.1.2.1.toArray⟩) (.int .i64 x.1.2.1.2.2) (.slice x.2.2.1 x.1.2.2 x.2.2.2)) B cnt (x :: st) p := by
  obtain ⟨cur, h1, h2, h3⟩ := h
  have a0 := setCell_block (i := i * 4) (v := .int .i64 x.1.2.1.1) h1
  have a1 := setCell_block (i := i * 4 + 1) (v := .string ⟨x.1.2.1.2.1.toArray⟩) a0
  have a2 := setCell_block (i := i * 4 + 2) (v := .int .i64 x.1.2.1.2.2) a1
  have a3 := setCell_block (i := i * 4 + 3) (v := .slice x.2.2.1 x.1.2.2 x.2.2.2) a2
  refine ⟨_, a3, by simpa using h2, fun j hj c hc => ?_⟩
  by_cases e : j = i
  · subst e
    have hcx : contC (x :: st) (p ++ [j]) = [.int .i64 x.1.2.1.1, .string ⟨x.1.2.1.2.1.toArray⟩, .int .i64 x.1.2.1.2.2, .slice x.2.2.1 x.1.2.2 x.2.2.2] := by
      unfold contC
      rw [stepAt_cons, if_pos hx]
    rw [hcx]
    have hb : j * 4 + 3 < cur.size := by omega
    rcases Nat.lt_or_ge c 1 with e | e
    · obtain rfl : c = 0 := by omega
      rw [Array.getElem?_setIfInBounds, if_neg (by omega), Array.getElem?_setIfInBounds, if_neg (by omega), Array.getElem?_setIfInBounds, if_neg (by omega), Array.getElem?_setIfInBounds, if_pos (by omega), if_pos (by omega)]
      rfl
    · rcases Nat.lt_or_ge c 2 with e2 | e2
      · obtain rfl : c = 1 := by omega
        rw [Array.getElem?_setIfInBounds, if_neg (by omega), Array.getElem?_setIfInBounds, if_neg (by omega), Array.getElem?_setIfInBounds, if_pos rfl, if_pos (by simp; omega)]
        rfl
      · rcases Nat.lt_or_ge c 3 with e3 | e3
        · obtain rfl : c = 2 := by omega
          rw [Array.getElem?_setIfInBounds, if_neg (by omega), Array.getElem?_setIfInBounds, if_pos rfl, if_pos (by simp; omega)]
          rfl
        · obtain rfl : c = 3 := by omega
          rw [Array.getElem?_setIfInBounds, if_pos rfl, if_pos (by simp; omega)]
          rfl
  · rw [Array.getElem?_setIfInBounds, if_neg (by omega), Array.getElem?_setIfInBounds, if_neg (by omega), Array.getElem?_setIfInBounds, if_neg (by omega), Array.getElem?_setIfInBounds, if_neg (by omega), h3 j hj c hc]
    unfold contC
    rw [stepAt_cons, if_neg (by rw [hx]; intro q; exact e (by simpa using (List.append_cancel_left q).symm))]
/-- The block of what stands at a path. -/
def blkAt (st : List Rs) (Lb : Nat) (q : List Nat) : Nat := if q = [] then Lb else match stepAt st q with
  | some x => match x.2.2.1 with
    | some a => a.block
    | none => 0
  | none => 0
/-- Between the rounds of missing: k steps are done. -/
structure Mi (w : World) (lo Lb n : Nat) (l : List Rs) (k : Nat) (W : World) : Prop where
  below : Below lo w W
  root : GrpAt W Lb n (l.drop (l.length - k)) []
  done : ∀ x ∈ l.drop (l.length - k), ∀ B, x.2.2.1 = some ⟨B, 0, none⟩ → GrpAt W B x.1.2.2 (l.drop (l.length - k)) x.1.1
  todo : ∀ x ∈ l.take (l.length - k), ∀ B, x.2.2.1 = some ⟨B, 0, none⟩ → Wild W B x.1.2.2
/-- What is known of the steps of a way in memory. -/
structure Mw (w : World) (lo Lb n : Nat) (l : List Rs) : Prop where
  ok : WayOk n (l.map (·.1))
  args : ∀ x ∈ l, (x.2.2.1 = none ∧ x.1.2.2 = 0 ∧ x.2.2.2 = 0) ∨ ∃ B, x.2.2.1 = some ⟨B, 0, none⟩ ∧ x.2.2.2 = x.1.2.2 ∧ lo ≤ B ∧ B < w.heap.size
  apart : l.Pairwise fun x y => ∀ B, x.2.2.1 = some ⟨B, 0, none⟩ → y.2.2.1 ≠ some ⟨B, 0, none⟩
  root : w.heap.size ≤ Lb
  low : lo ≤ w.heap.size
theorem WayOk.ne {n : Nat} : ∀ {st : List Stp}, WayOk n st → ∀ z ∈ st, z.1 ≠ []
  | _ :: _, h, z, hz => by
    rcases List.mem_cons.1 hz with rfl | hz
    · exact h.2.1
    · exact WayOk.ne h.1 z hz
theorem WayOk.drop {n : Nat} : ∀ {l : List Stp} (j : Nat), WayOk n l → WayOk n (l.drop j)
  | _, 0, h => h
  | [], _ + 1, h => h
  | _ :: _, j + 1, h => WayOk.drop j h.1
theorem drop_snoc (l : List Rs) (k : Nat) (h : k < l.length) : l.drop (l.length - (k + 1)) = l[l.length - 1 - k] :: l.drop (l.length - k) := by
  have e : l.length - (k + 1) = l.length - 1 - k := by omega
  rw [e, List.drop_eq_getElem_cons (by omega)]
  congr 2
  omega
theorem Mw.suf {w : World} {lo Lb n : Nat} {l : List Rs} (h : Mw w lo Lb n l) (j : Nat) : WayOk n ((l.drop j).map (·.1)) := by
  rw [List.map_drop]
  exact h.ok.drop j
/-- Where a path leads. -/
theorem Mi.at {w : World} {lo Lb n : Nat} {l : List Rs} {k : Nat} {W : World} (hm : Mw w lo Lb n l) (h : Mi w lo Lb n l k W) {p : List Nat} (hr : Reach n ((l.drop (l.length - k)).map (·.1)) p) (j : Nat) (hj : j < p.length) :
    ∃ cnt, GrpAt W (blkAt (l.drop (l.length - k)) Lb (p.take j)) cnt (l.drop (l.length - k)) (p.take j) ∧ p[j] < cnt ∧ ((p.take j = [] ∧ blkAt (l.drop (l.length - k)) Lb (p.take j) = Lb) ∨ ∃ y ∈ l.drop (l.length - k), y.1.1 = p.take j ∧ y.2.2.1 = some ⟨blkAt (l.drop (l.length - k)) Lb (p.take j), 0, none⟩ ∧ y.2.2.2 = y.1.2.2 ∧ y.1.2.2 = cnt ∧ stepAt (l.drop (l.length - k)) (p.take j) = some y) := by
  rcases hr j hj with ⟨h0, h1⟩ | ⟨h0, y, hy, h1, h2⟩
  · subst h0
    refine ⟨n, ?_, h1, .inl ⟨rfl, rfl⟩⟩
    exact h.root
  · obtain ⟨z, hz, rfl⟩ := List.mem_map.1 hy
    have hsa := stepAt_mem (hm.suf _) hz
    have hne : p.take j ≠ [] := by
      intro e
      have : (p.take j).length = 0 := by rw [e]; rfl
      rw [List.length_take] at this
      omega
    rcases hm.args z (List.mem_of_mem_drop hz) with ⟨_, e, _⟩ | ⟨B, e1, e2, e3, e4⟩
    · omega
    · have hb : blkAt (l.drop (l.length - k)) Lb (p.take j) = B := by
        unfold blkAt
        rw [if_neg hne, ← h1, hsa]
        simp only [e1]
      rw [hb]
      refine ⟨z.1.2.2, ?_, h2, .inr ⟨z, hz, h1, e1, e2, rfl, by rw [← h1]; exact hsa⟩⟩
      rw [← h1]
      exact h.done z hz B e1
theorem take_next (p : List Nat) (j : Nat) (h : j < p.length) : p.take j ++ [p[j]] = p.take (j + 1) := (take_snoc p j h).symm
theorem Mi.next {w : World} {lo Lb n : Nat} {l : List Rs} {k : Nat} {W : World} (hm : Mw w lo Lb n l) (h : Mi w lo Lb n l k W) {p : List Nat} (hr : Reach n ((l.drop (l.length - k)).map (·.1)) p) (j : Nat) (hj : j + 1 < p.length) :
    ∃ cnt, W.cell? ⟨blkAt (l.drop (l.length - k)) Lb (p.take j), p[j] * 4 + 3, none⟩ = some (.slice (some ⟨blkAt (l.drop (l.length - k)) Lb (p.take (j + 1)), 0, none⟩) cnt cnt) ∧ p[j + 1] < cnt := by
  obtain ⟨c1, ⟨cur, g1, g2, g3⟩, hlt, _⟩ := h.at hm hr j (by omega)
  obtain ⟨c2, _, hlt2, hy⟩ := h.at hm hr (j + 1) hj
  rcases hy with ⟨e, _⟩ | ⟨y, hy, e1, e2, e3, e4, e5⟩
  · have : (p.take (j + 1)).length = 0 := by rw [e]; rfl
    rw [List.length_take] at this
    omega
  · refine ⟨c2, ?_, hlt2⟩
    refine heap_cell' g1 ?_
    rw [g3 _ hlt 3 (by omega), take_next p j (by omega)]
    unfold contC
    rw [e5]
    show some (Value.slice y.2.2.1 y.1.2.2 y.2.2.2) = _
    rw [e2, e3, e4]
set_option maxHeartbeats 2000000 in
theorem Mi.put {w : World} {lo Lb n : Nat} {l : List Rs} {k : Nat} {W : World} (hm : Mw w lo Lb n l) (h : Mi w lo Lb n l k W) (hk : k < l.length) {p : List Nat} {x : Rs} (hx : x = l[l.length - 1 - k]) (hp : x.1.1 = p) (m : Nat) (hml : m + 1 = p.length) (hmp : m < p.length) :
    (∀ c, c < 4 → ∃ v, W.cell? ⟨blkAt (l.drop (l.length - k)) Lb (p.take m), p[m] * 4 + c, none⟩ = some v ∧ W.frozen? ⟨blkAt (l.drop (l.length - k)) Lb (p.take m), p[m] * 4 + c, none⟩ = false) ∧ lo ≤ blkAt (l.drop (l.length - k)) Lb (p.take m) ∧ (blkAt (l.drop (l.length - k)) Lb (p.take m) = Lb ∨ ∃ y ∈ l, y.2.2.1 = some ⟨blkAt (l.drop (l.length - k)) Lb (p.take m), 0, none⟩) ∧
    Mi w lo Lb n l (k + 1) (set4 W (blkAt (l.drop (l.length - k)) Lb (p.take m)) p[m] (.int .i64 x.1.2.1.1) (.string ⟨x.1.2.1.2.1.toArray⟩) (.int .i64 x.1.2.1.2.2) (.slice x.2.2.1 x.1.2.2 x.2.2.2)) := by
  have hW := hm.suf (l.length - (k + 1))
  rw [drop_snoc l k hk, ← hx] at hW
  obtain ⟨hW1, hne, _, hr, hfr⟩ := hW
  rw [hp] at hr hfr hne
  obtain ⟨cnt, hg, hlt, hb⟩ := h.at hm hr m hmp
  have htk : p.take m ++ [p[m]] = p := by rw [take_next p m hmp, hml, List.take_length]
  have hxm : x ∈ l := by rw [hx]; exact List.getElem_mem _
  have hfr2 : ∀ y ∈ l.drop (l.length - k), y.1.1 ≠ p := fun y hy => hfr y.1 (List.mem_map.2 ⟨y, hy, rfl⟩)
  have hsp : (l.take (l.length - k)).Pairwise (fun x y => ∀ B, x.2.2.1 = some ⟨B, 0, none⟩ → y.2.2.1 ≠ some ⟨B, 0, none⟩) ∧ (l.drop (l.length - k)).Pairwise (fun x y => ∀ B, x.2.2.1 = some ⟨B, 0, none⟩ → y.2.2.1 ≠ some ⟨B, 0, none⟩) ∧ ∀ a ∈ l.take (l.length - k), ∀ b ∈ l.drop (l.length - k), ∀ B, a.2.2.1 = some ⟨B, 0, none⟩ → b.2.2.1 ≠ some ⟨B, 0, none⟩ := by
    have := hm.apart
    rw [← List.take_append_drop (l.length - k) l, List.pairwise_append] at this
    exact this
  have hxt : x ∈ l.take (l.length - k) := by
    rw [hx]
    refine List.mem_iff_getElem.2 ⟨l.length - 1 - k, by rw [List.length_take]; omega, ?_⟩
    rw [List.getElem_take]
  generalize hB : blkAt (l.drop (l.length - k)) Lb (p.take m) = Bw at *
  have hlo : lo ≤ Bw := by
    rcases hb with ⟨_, e⟩ | ⟨y, hy, _, e, _⟩
    · rw [e]; exact Nat.le_trans hm.low hm.root
    · rcases hm.args y (List.mem_of_mem_drop hy) with ⟨e2, _⟩ | ⟨B, e2, _, e3, _⟩
      · rw [e2] at e; cases e
      · rw [e2] at e; injection e with e; injection e with e; omega
  have hoth : ∀ z ∈ l, ∀ B, z.2.2.1 = some ⟨B, 0, none⟩ → (∀ y ∈ l.drop (l.length - k), y.2.2.1 = some ⟨Bw, 0, none⟩ → z.2.2.1 ≠ some ⟨Bw, 0, none⟩) → B ≠ Bw := fun z hz B hzB hne e => by
    rcases hb with ⟨_, e2⟩ | ⟨y, hy, _, e2, _⟩
    · rcases hm.args z hz with ⟨e3, _⟩ | ⟨B', e3, _, _, e4⟩
      · rw [e3] at hzB; cases hzB
      · rw [e3] at hzB; injection hzB with hzB; injection hzB with hzB
        have := hm.root
        omega
    · exact hne y hy e2 (by rw [hzB, e])
  refine ⟨fun c hc => ?_, hlo, ?_, ?_⟩
  · obtain ⟨cur, g1, g2, g3⟩ := hg
    have hlt2 : p[m] * 4 + c < cur.size := by omega
    exact ⟨cur[p[m] * 4 + c], heap_cell' g1 (Array.getElem?_eq_getElem hlt2), heap_frozen g1⟩
  · rcases hb with ⟨_, e⟩ | ⟨y, hy, _, e, _⟩
    · exact .inl e
    · exact .inr ⟨y, List.mem_of_mem_drop hy, e⟩
  · refine ⟨?_, ?_, ?_, ?_⟩
    · unfold set4
      exact (((h.below.setCell (p := ⟨Bw, p[m] * 4, none⟩) hlo _).setCell (p := ⟨Bw, p[m] * 4 + 1, none⟩) hlo _).setCell (p := ⟨Bw, p[m] * 4 + 2, none⟩) hlo _).setCell (p := ⟨Bw, p[m] * 4 + 3, none⟩) hlo _
    · rw [drop_snoc l k hk, ← hx]
      rcases hb with ⟨e1, e2⟩ | ⟨y, hy, e1, e2, _⟩
      · rw [e1] at hg htk
        have hcn : cnt = n := by
          obtain ⟨c1, g1, g2, _⟩ := hg
          obtain ⟨c2, g3, g4, _⟩ := h.root
          rw [e2] at g1
          rw [g1] at g3
          injection g3 with g3
          injection g3 with g3
          subst g3
          omega
        rw [hcn] at hg hlt
        rw [← e2]
        exact hg.put (by rw [hp]; exact htk.symm) hlt
      · have hne2 : Lb ≠ Bw := fun e => by
          rcases hm.args y (List.mem_of_mem_drop hy) with ⟨e3, _⟩ | ⟨B', e3, _, _, e4⟩
          · rw [e3] at e2; cases e2
          · rw [e3] at e2; injection e2 with e2; injection e2 with e2
            have := hm.root
            omega
        refine (h.root.on (set4_other _ _ _ _ _ _ _ _ hne2)).same fun i e => ?_
        rw [hp, ← htk] at e
        have h1 : p.take m = [] := (List.append_inj' e rfl).1
        rw [h1] at e1
        exact (hm.suf (l.length - k)).ne y.1 (List.mem_map.2 ⟨y, hy, rfl⟩) e1
    · rw [drop_snoc l k hk, ← hx]
      intro z hz B hzB
      rcases List.mem_cons.1 hz with rfl | hz
      · have hBne := hoth z hxm B hzB fun y hy e1 e2 => hsp.2.2 z hxt y hy Bw e2 e1
        refine GrpAt.of_wild ((h.todo z hxt B hzB).on (set4_other _ _ _ _ _ _ _ _ hBne)) fun i => ?_
        rw [stepAt_cons, if_neg (by intro e; have := congrArg List.length e; simp at this)]
        refine stepAt_none fun y hy => ?_
        rw [hp]
        exact WayOk.fresh hW1 hne (fun y hy => hfr y hy) i y.1 (List.mem_map.2 ⟨y, hy, rfl⟩)
      · by_cases e : z.1.1 = p.take m
        · rcases hb with ⟨e1, _⟩ | ⟨y, hy, e1, e2, e3, e4, e5⟩
          · exact absurd (e.trans e1) ((hm.suf (l.length - k)).ne z.1 (List.mem_map.2 ⟨z, hz, rfl⟩))
          · have h1 := stepAt_mem (hm.suf (l.length - k)) hz
            rw [e, e5] at h1
            obtain rfl := Option.some.inj h1
            rw [hzB] at e2
            injection e2 with e2
            injection e2 with e2
            subst e2
            have hg2 := hg
            rw [← e4] at hg2 hlt
            rw [e]
            exact hg2.put (by rw [hp]; exact htk.symm) hlt
        · have hBne : B ≠ Bw := by
            rcases hb with ⟨e1, e2⟩ | ⟨y, hy, e1, e2, _⟩
            · rcases hm.args z (List.mem_of_mem_drop hz) with ⟨e3, _⟩ | ⟨B', e3, _, _, e4⟩
              · rw [e3] at hzB; cases hzB
              · rw [e3] at hzB; injection hzB with hzB; injection hzB with hzB
                have := hm.root
                omega
            · intro e6
              subst e6
              have hyz : y ≠ z := fun q => e (by rw [← q]; exact e1)
              have := hsp.2.1
              rw [List.pairwise_iff_forall_sublist] at this
              rcases List.mem_iff_getElem.1 hy with ⟨a, ha, rfl⟩
              rcases List.mem_iff_getElem.1 hz with ⟨b, hb2, rfl⟩
              have hpw := List.pairwise_iff_getElem.1 hsp.2.1
              rcases Nat.lt_trichotomy a b with hab | hab | hab
              · exact hpw a b ha hb2 hab _ e2 hzB
              · subst hab; exact hyz rfl
              · exact hpw b a hb2 ha hab _ hzB e2
          refine ((h.done z hz B hzB).on (set4_other _ _ _ _ _ _ _ _ hBne)).same fun i q => ?_
          rw [hp, ← htk] at q
          exact e (List.append_inj' q rfl).1.symm
    · intro z hz B hzB
      have hz2 : z ∈ l.take (l.length - k) := by
        have e : l.length - (k + 1) = l.length - k - 1 := by omega
        rw [e] at hz
        exact (List.take_sublist_take_left (by omega)).subset hz
      have hBne := hoth z (List.mem_of_mem_take hz2) B hzB fun y hy e1 e2 => hsp.2.2 z hz2 y hy Bw e2 e1
      exact (h.todo z hz2 B hzB).on (set4_other _ _ _ _ _ _ _ _ hBne)
end Go.Proofs.Ytpdmkhnonbbhnaa
