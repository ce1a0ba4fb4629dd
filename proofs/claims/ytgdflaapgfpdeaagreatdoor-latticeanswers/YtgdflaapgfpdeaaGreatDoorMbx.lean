/- Rows of things of some cells each: to read them, to make them by append. A drawn region whose last operation writes what others read: these may be taken first all the same. -/
import Derived.Test.YtgdflaapgfpdeaaGreatDoorMax
import Derived.Deep.AppendLies
import Derived.Laws.OwnMore
import Derived.Lib.AppendZeros
namespace Go.Proofs.YtgdflaapgfpdeaaGreatDoor
open Go.RowKit

/-- The slice v is a row of things of k cells, of each of which Q says what it is. -/
def RowK {α : Type} (k : Nat) (Q : Nat → Nat → α → Prop) (v : Value) (ps : List α) : Prop :=
  (ps = [] ∧ ∃ ad cap, v = .slice ad 0 cap) ∨ ∃ g o cap, v = .slice (some ⟨g, o, none⟩) ps.length cap ∧ ps ≠ [] ∧ ps.length ≤ cap ∧ ∀ j (h : j < ps.length), Q g (o + j * k) ps[j]
theorem RowK.mono {α : Type} {k : Nat} {Q Q' : Nat → Nat → α → Prop} {v : Value} {ps : List α} (hQ : ∀ g o, ∀ p ∈ ps, Q g o p → Q' g o p) (h : RowK k Q v ps) : RowK k Q' v ps := by
  rcases h with h | ⟨g, o, cap, h1, h2, h3, h4⟩
  · exact .inl h
  · exact .inr ⟨g, o, cap, h1, h2, h3, fun j hj => hQ _ _ _ (List.getElem_mem hj) (h4 j hj)⟩
theorem RowK.len {α : Type} {k : Nat} {Q : Nat → Nat → α → Prop} {v : Value} {ps : List α} (h : RowK k Q v ps) : ∃ ad cap, v = .slice ad ps.length cap := by
  rcases h with ⟨h0, ad, cap, rfl⟩ | ⟨g, o, cap, rfl, _⟩
  · exact ⟨ad, cap, by rw [h0]; rfl⟩
  · exact ⟨_, cap, rfl⟩
theorem RowK.map {α β : Type} {k : Nat} {Q : Nat → Nat → α → Prop} {Q' : Nat → Nat → β → Prop} {v : Value} {ps : List α} (f : α → β) (hQ : ∀ g o p, Q g o p → Q' g o (f p)) (h : RowK k Q v ps) : RowK k Q' v (ps.map f) := by
  rcases h with ⟨h0, h⟩ | ⟨g, o, cap, hv, h0, hc, h⟩
  · exact .inl ⟨by rw [h0]; rfl, h⟩
  · refine .inr ⟨g, o, cap, by rw [hv, List.length_map], by simpa using h0, by rw [List.length_map]; exact hc, fun j hj => ?_⟩
    rw [List.getElem_map]
    exact hQ _ _ _ (h j (by simpa using hj))
/-- A slice of a row, as the walk wants it. -/
theorem RowK.open {α : Type} {k : Nat} {Q : Nat → Nat → α → Prop} {v : Value} {ps : List α} (h : RowK k Q v ps) : ∃ ad cap, v = .slice ad ps.length cap ∧ (ps ≠ [] → ∃ g o, ad = some ⟨g, o, none⟩ ∧ ps.length ≤ cap ∧ ∀ j (h : j < ps.length), Q g (o + j * k) ps[j]) := by
  rcases h with ⟨h0, ad, cap, rfl⟩ | ⟨g, o, cap, rfl, h0, hc, h⟩
  · exact ⟨ad, cap, by rw [h0]; rfl, fun h => absurd h0 h⟩
  · exact ⟨_, cap, rfl, fun _ => ⟨g, o, rfl, hc, h⟩⟩
/-- The blocks of S are as they were. -/
def Keeps (S : Nat → Prop) (w w' : World) : Prop := ∀ b, S b → w'.heap[b]? = w.heap[b]?
theorem Keeps.refl (S : Nat → Prop) (w : World) : Keeps S w w := fun _ _ => rfl
theorem Keeps.trans {S : Nat → Prop} {a b c : World} (h : Keeps S a b) (k : Keeps S b c) : Keeps S a c := fun i hi => (k i hi).trans (h i hi)
theorem Keeps.cell {S : Nat → Prop} {w w' : World} (h : Keeps S w w') {p : Addr} (hp : S p.block) : w'.cell? p = w.cell? p := by
  unfold World.cell?
  rw [h _ hp]
theorem Keeps.of {S : Nat → Prop} {B : Nat} {w w' : World} (h : Below B w w') (hS : ∀ b, S b → b < B) : Keeps S w w' := fun b hb => h.block b (hS b hb)
theorem Keeps.less {S T : Nat → Prop} {w w' : World} (h : Keeps T w w') (hS : ∀ b, S b → T b) : Keeps S w w' := fun b hb => h b (hS b hb)
theorem lt_heap {w : World} {b : Nat} {o : Obj} (h : w.heap[b]? = some o) : b < w.heap.size := by
  rcases Nat.lt_or_ge b w.heap.size with h1 | h1
  · exact h1
  · rw [Array.getElem?_eq_none h1] at h
    cases h
theorem new_blk (w : World) (o : Obj) : (w.alloc o).heap[w.heap.size]? = some o := by
  show (w.heap.push o)[w.heap.size]? = _
  simp
theorem heap_cl {w : World} {b i : Nat} {c : Array Value} {t : TypeId} {f : Nat × Nat} {u : Value} (h : w.heap[b]? = some (.cells c t f)) (hu : c[i]? = some u) : w.cell? ⟨b, i, none⟩ = some u := by
  simp only [World.cell?, h]
  exact hu
theorem cell_on {w w' : World} {g : Nat} (h : w'.heap[g]? = w.heap[g]?) (o : Nat) : w'.cell? ⟨g, o, none⟩ = w.cell? ⟨g, o, none⟩ := by
  unfold World.cell?
  rw [h]
theorem owns_on {w w' : World} {B e k : Nat} {v : Value} {n : Nat} {xs : List Value} (h : w.ownsRow B e k v n xs) (hk : ∀ y, v.ownBlock = some y → w'.heap[y]? = w.heap[y]?) : w'.ownsRow B e k v n xs := by
  obtain ⟨h1, h2⟩ := h
  refine ⟨h1, ?_⟩
  rcases h2 with h2 | ⟨g, cap, cur, rfl, h3, h4, h5⟩
  · exact .inl h2
  · exact .inr ⟨g, cap, cur, rfl, h3, (hk g rfl).trans h4, h5⟩
/-- How a thing lies in memory: in k cells; the blocks that it leads to are of S. -/
structure Elt (α : Type) where
  k : Nat
  C : World → (Nat → Prop) → List Value → α → Prop
  len : ∀ {w : World} {S : Nat → Prop} {cs : List Value} {x : α}, C w S cs x → cs.length = k
  one : ∀ {w : World} {S : Nat → Prop} {cs : List Value} {x : α}, C w S cs x → ∀ u ∈ cs, u.oneCell' = true
  on : ∀ {w w' : World} {S S' : Nat → Prop} {cs : List Value} {x : α}, Keeps S w w' → (∀ b, S b → S' b) → C w S cs x → C w' S' cs x
/-- A type of slices, of its elements, their cells, their bytes. -/
structure Ty (t e k b : Nat) : Prop where
  slice : Tryz.prog.underlying t = some (.slice e)
  info : ∃ (i : TypeInfo) (z : Value), Tryz.prog.info? e = some i ∧ i.zero = some z ∧ i.size = k ∧ i.bytes = b ∧ z.cells.size = k
  pos : 0 < k
  small : b ≤ 1000
def Css {α : Type} (E : Elt α) (w : World) (S : Nat → Prop) (css : List (List Value)) (l : List α) : Prop := css.length = l.length ∧ ∀ i (h : i < css.length) (h' : i < l.length), E.C w S css[i] l[i]
theorem Css.nil {α : Type} (E : Elt α) (w : World) (S : Nat → Prop) : Css E w S [] [] := ⟨rfl, fun _ h => by simp at h⟩
theorem Css.on {α : Type} {E : Elt α} {w w' : World} {S S' : Nat → Prop} {css : List (List Value)} {l : List α} (h : Css E w S css l) (hk : Keeps S w w') (hS : ∀ b, S b → S' b) : Css E w' S' css l := ⟨h.1, fun i a b => E.on hk hS (h.2 i a b)⟩
theorem Css.append {α : Type} {E : Elt α} {w : World} {S : Nat → Prop} {css dss : List (List Value)} {l m : List α} (h : Css E w S css l) (k : Css E w S dss m) : Css E w S (css ++ dss) (l ++ m) := by
  have h1 := h.1
  have k1 := k.1
  refine ⟨by simp [h1, k1], fun i a b => ?_⟩
  rcases Nat.lt_or_ge i css.length with hi | hi
  · rw [List.getElem_append_left hi, List.getElem_append_left (by omega)]
    exact h.2 i _ _
  · have e : (l ++ m)[i] = m[i - css.length]'(by rw [List.length_append] at b; omega) := by
      rw [List.getElem_append_right (by omega)]
      congr 1
      omega
    rw [List.getElem_append_right hi, e]
    exact k.2 _ _ _
theorem Css.one {α : Type} {E : Elt α} {w : World} {S : Nat → Prop} {cs : List Value} {x : α} (h : E.C w S cs x) : Css E w S [cs] [x] := ⟨rfl, fun i a b => by
  obtain rfl : i = 0 := by simpa using a
  exact h⟩
theorem Css.lens {α : Type} {E : Elt α} {w : World} {S : Nat → Prop} {css : List (List Value)} {l : List α} (h : Css E w S css l) : ∀ c ∈ css, c.length = E.k := by
  intro c hc
  obtain ⟨i, hi, rfl⟩ := List.getElem_of_mem hc
  exact E.len (h.2 i hi (by have := h.1; omega))
theorem Css.ones {α : Type} {E : Elt α} {w : World} {S : Nat → Prop} {css : List (List Value)} {l : List α} (h : Css E w S css l) : ∀ u ∈ css.flatten, u.oneCell' = true := by
  intro u hu
  obtain ⟨c, hc, hu⟩ := List.mem_flatten.1 hu
  obtain ⟨i, hi, rfl⟩ := List.getElem_of_mem hc
  exact E.one (h.2 i hi (by have := h.1; omega)) u hu
theorem flatC_len {k : Nat} : ∀ (css : List (List Value)), (∀ c ∈ css, c.length = k) → css.flatten.length = css.length * k
  | [], _ => by simp
  | a :: r, h => by
    rw [List.flatten_cons, List.length_append, flatC_len r fun c hc => h c (by simp [hc]), h a (by simp), List.length_cons, Nat.add_mul]
    omega
theorem flatC_get {k : Nat} : ∀ (css : List (List Value)), (∀ c ∈ css, c.length = k) → ∀ j c (hj : j < css.length), c < k → css.flatten[j * k + c]? = css[j][c]?
  | a :: r, h, 0, c, _, hc => by
    rw [List.flatten_cons, List.getElem?_append_left (by rw [h a (by simp)]; omega)]
    simp
  | a :: r, h, j + 1, c, hj, hc => by
    have ha := h a (by simp)
    have e : (j + 1) * k + c = a.length + (j * k + c) := by rw [ha, Nat.add_mul]; omega
    rw [List.flatten_cons, e, List.getElem?_append_right (by omega), Nat.add_sub_cancel_left, flatC_get r (fun c hc => h c (by simp [hc])) j c (by simpa using hj) hc]
    rfl
/-- The slice v is the row l: its blocks are of Z, what it leads to of S. -/
def RowE {α : Type} (E : Elt α) (w : World) (Z S : Nat → Prop) (v : Value) (l : List α) : Prop := RowK E.k (fun g o x => Z g ∧ ∃ cs, E.C w S cs x ∧ ∀ j, j < E.k → w.cell? ⟨g, o + j, none⟩ = cs[j]?) v l
theorem RowE.on {α : Type} {E : Elt α} {w w' : World} {Z Z' S S' : Nat → Prop} {v : Value} {l : List α} (h : RowE E w Z S v l) (hz : Keeps Z w w') (hk : Keeps S w w') (hZ : ∀ b, Z b → Z' b) (hS : ∀ b, S b → S' b) : RowE E w' Z' S' v l :=
  h.mono fun g o _ _ ⟨h1, cs, h2, h3⟩ => ⟨hZ _ h1, cs, E.on hk hS h2, fun j hj => (hz.cell (p := ⟨g, o + j, none⟩) h1).trans (h3 j hj)⟩
theorem RowE.cells {α : Type} {E : Elt α} {w : World} {Z S : Nat → Prop} {v : Value} {l : List α} (hp : 0 < E.k) (h : RowE E w Z S v l) : ∃ ad cap css, v = .slice ad l.length cap ∧ Css E w S css l ∧ (l ≠ [] → ∃ g o, ad = some ⟨g, o, none⟩ ∧ Z g ∧ l.length ≤ cap ∧ ∀ j u, css.flatten[j]? = some u → w.cell? ⟨g, o + j, none⟩ = some u) := by
  rcases h with ⟨rfl, ad, cap, rfl⟩ | ⟨g, o, cap, rfl, h0, hc, h⟩
  · exact ⟨ad, cap, [], rfl, Css.nil _ _ _, fun h => absurd rfl h⟩
  · obtain ⟨f, hf⟩ := Classical.axiomOfChoice (fun j : Fin l.length => (h j.1 j.2).2)
    have hcs : Css E w S (List.ofFn f) l := ⟨by simp, fun i a b => by
      rw [List.getElem_ofFn]
      exact (hf ⟨i, b⟩).1⟩
    refine ⟨_, cap, List.ofFn f, rfl, hcs, fun _ => ⟨g, o, rfl, ?_, hc, fun j u hu => ?_⟩⟩
    · cases l with
      | nil => exact absurd rfl h0
      | cons a r => exact (h 0 (by simp)).1
    · have hlen := flatC_len _ hcs.lens
      have hj : j < l.length * E.k := by
        have := (List.getElem?_eq_some_iff.1 hu).1
        rw [hlen, hcs.1] at this
        exact this
      have hq : j / E.k < l.length := Nat.div_lt_of_lt_mul (by rw [Nat.mul_comm]; exact hj)
      have hr : j % E.k < E.k := Nat.mod_lt _ hp
      have he : j = j / E.k * E.k + j % E.k := by rw [Nat.mul_comm]; exact (Nat.div_add_mod j E.k).symm
      have hg := flatC_get _ hcs.lens (j / E.k) (j % E.k) (by rw [hcs.1]; exact hq) hr
      rw [← he, hu, List.getElem_ofFn] at hg
      have h2 := (hf ⟨j / E.k, hq⟩).2 (j % E.k) hr
      have he2 : o + j = o + j / E.k * E.k + j % E.k := by rw [Nat.add_assoc, ← he]
      rw [he2]
      exact h2.trans hg.symm
/-- The slice v is a row that was made: its block is its alone, and none of S. -/
structure Own {α : Type} (E : Elt α) (e B : Nat) (w : World) (S : Nat → Prop) (v : Value) (l : List α) : Prop where
  row : ∃ css, Css E w S css l ∧ w.ownsRow B e E.k v l.length css.flatten
  out : ∀ b, S b → v.ownBlock ≠ some b
theorem Own.nil {α : Type} (E : Elt α) (e B : Nat) (w : World) (S : Nat → Prop) : Own E e B w S (.slice none 0 0) ([] : List α) := ⟨⟨[], Css.nil _ _ _, World.ownsRow_nil _ _ _ _⟩, fun _ _ h => by cases h⟩
theorem Own.lt {α : Type} {E : Elt α} {e B : Nat} {w : World} {S : Nat → Prop} {v : Value} {l : List α} (h : Own E e B w S v l) : ∀ g, v.ownBlock = some g → B ≤ g ∧ g < w.heap.size := by
  obtain ⟨css, _, h2⟩ := h.row
  exact h2.lt
theorem Own.on {α : Type} {E : Elt α} {e B : Nat} {w w' : World} {S : Nat → Prop} {v : Value} {l : List α} (h : Own E e B w S v l) (hk : Keeps S w w') (hb : ∀ g, v.ownBlock = some g → w'.heap[g]? = w.heap[g]?) : Own E e B w' S v l := by
  obtain ⟨css, h1, h2, h3⟩ := h.row
  refine ⟨⟨css, h1.on hk fun _ h => h, h2, ?_⟩, h.out⟩
  rcases h3 with h3 | ⟨g, cap, cur, rfl, h4, h5, h6⟩
  · exact .inl h3
  · exact .inr ⟨g, cap, cur, rfl, h4, (hb g rfl).trans h5, h6⟩
theorem Own.up {α : Type} {E : Elt α} {e B : Nat} {w : World} {S S' : Nat → Prop} {v : Value} {l : List α} (h : Own E e B w S v l) (hS : ∀ b, S b → S' b) (ho : ∀ b, S' b → v.ownBlock ≠ some b) : Own E e B w S' v l := by
  obtain ⟨css, h1, h2⟩ := h.row
  exact ⟨⟨css, h1.on (Keeps.refl _ _) hS, h2⟩, ho⟩
theorem Own.below {α : Type} {E : Elt α} {e B B' : Nat} {w : World} {S : Nat → Prop} {v : Value} {l : List α} (h : Own E e B w S v l) (hB : B' ≤ B) : Own E e B' w S v l := by
  obtain ⟨css, h1, h2, h3⟩ := h.row
  refine ⟨⟨css, h1, h2, ?_⟩, h.out⟩
  rcases h3 with h3 | ⟨g, cap, cur, rfl, h4, h5⟩
  · exact .inl h3
  · exact .inr ⟨g, cap, cur, rfl, Nat.le_trans hB h4, h5⟩
theorem Own.len {α : Type} {E : Elt α} {e B : Nat} {w : World} {S : Nat → Prop} {v : Value} {l : List α} (h : Own E e B w S v l) : ∃ ad cap, v = .slice ad l.length cap := by
  obtain ⟨css, _, _, ⟨h1, h2⟩ | ⟨g, cap, cur, rfl, _⟩⟩ := h.row
  · exact ⟨none, 0, by rw [h1, h2]⟩
  · exact ⟨_, cap, rfl⟩
theorem Own.rowE {α : Type} {E : Elt α} {e B : Nat} {w : World} {S : Nat → Prop} {v : Value} {l : List α} (h : Own E e B w S v l) : RowE E w (fun y => v.ownBlock = some y) S v l := by
  obtain ⟨css, h1, h2⟩ := h.row
  by_cases hl : l = []
  · obtain ⟨ad, cap, hv⟩ := h.len
    exact .inl ⟨hl, ad, cap, by rw [hv, hl]; rfl⟩
  · rcases id h2.2 with ⟨_, h3⟩ | ⟨g, cap, cur, rfl, h4, h5, h6, _⟩
    · exact absurd (List.length_eq_zero_iff.1 h3) hl
    · refine .inr ⟨g, 0, cap, rfl, hl, h6, fun j hj => ⟨rfl, css[j]'(by rw [h1.1]; exact hj), h1.2 j _ hj, fun c hc => ?_⟩⟩
      rw [← flatC_get css h1.lens j c (by rw [h1.1]; exact hj) hc, Nat.zero_add]
      refine h2.cellAt (j * E.k + c) ?_
      have : (j + 1) * E.k ≤ l.length * E.k := Nat.mul_le_mul_right _ hj
      rw [Nat.add_mul] at this
      omega
theorem append_empty' {w : World} {base t ty e n size : Nat} {i : TypeInfo} (ht : Tryz.prog.underlying t = some (.slice e)) (hi : Tryz.prog.info? e = some i) {v : Value} {xs : List Value} (hown : w.ownsRow base e size v n xs) (ad : Option Addr) (c : Nat) :
    (Builtin.append_ #[t, t] ty #[v, .slice ad 0 c]).run Tryz.prog w = .ok v w := by
  have hld : ∀ a, (loadCells a 0).run Tryz.prog w = .ok #[] w := fun a => by simp [loadCells, loadCellsFrom]
  rcases hown.2 with ⟨rfl, rfl⟩ | ⟨g, cap, cur, rfl, _, _, hnc, _⟩
  · cases ad <;> simp [hld, Builtin.append_, run_underlying ht, sizeOf, typeInfo, hi, Builtin.lenOf, Builtin.firstCells]
  · cases ad <;> simp [hld, Builtin.append_, run_underlying ht, sizeOf, typeInfo, hi, Builtin.lenOf, Builtin.firstCells, hnc, storeCells]
/-- append(x, y...): a row that was made, and another that can be read. -/
theorem wpList_append_E {α : Type} {E : Elt α} {ops : Array Oper} {rest : List Oper} {o : Oper} {a : Act} {Q : Exit → Act → World → Prop} {w : World} {Z S : Nat → Prop} {B t e b : Nat} (T : Ty t e E.k b) (hgd : o.guard = none) (s x : Operand)
    (ho : o.op = .call { callee := .builtin .append, args := #[s, x], argTypes := #[t, t] }) {v u : Value} {l m : List α} (hs : a.eval s = v) (hown : Own E e B w S v l) (hx : a.eval x = u) (hm : RowE E w Z S u m) (hl : l.length + m.length ≤ 10000000) (hB : B ≤ w.heap.size) (hS : ∀ y, S y → y < w.heap.size)
    (h : ∀ v' w', Own E e B w' S v' (l ++ m) → Below B w w' → (∀ y, y < w.heap.size → v.ownBlock ≠ some y → w'.heap[y]? = w.heap[y]?) → (v'.ownBlock = v.ownBlock ∨ ∃ g, v'.ownBlock = some g ∧ w.heap.size ≤ g) → wpList Tryz.prog ops Q rest (a.put o.dst v') w') : wpList Tryz.prog ops Q (o :: rest) a w := by
  obtain ⟨css, hcs, hro⟩ := hown.row
  obtain ⟨i, z, hi, hz, hk, hby, hzs⟩ := T.info
  obtain ⟨ad, cap, dss, rfl, hds, hlie⟩ := hm.cells T.pos
  by_cases h0 : m = []
  · subst h0
    have hr := append_empty' (t := t) (ty := o.type) T.slice hi hro ad cap
    refine Lib.wpList_append_run w hgd s x t t ho _ _ hs hx _ _ hr ?_
    refine h v w (by rw [List.append_nil]; exact hown) (Below.refl _ _) (fun _ _ _ => rfl) (.inl rfl)
  · obtain ⟨g, o', rfl, _, hmc, hc⟩ := hlie h0
    have hm0 : 0 < m.length := List.length_pos_iff.2 h0
    have hsm := T.small
    have hfl : dss.flatten.length = m.length * E.k := by rw [flatC_len _ hds.lens, hds.1]
    have hbytes : (l.length + m.length) * b ≤ 140737488355328 := by
      have := Nat.mul_le_mul hl hsm
      omega
    refine wpList_append_lies w hgd s x t ho B e i z E.k b T.slice hi hz hk hby hzs T.pos v l.length css.flatten hs hro ⟨g, o', none⟩ m.length cap dss.flatten hx hfl (fun j u hu => by
      have h := hc j u hu
      by_cases e : j = 0
      · subst e
        simpa [Addr.add] using h
      · simpa [Addr.add, e] using h) hds.ones hm0 (by unfold maxLen; omega) hbytes hB _ rfl ?_
    intro g' cap' w' h1 h2 h3 h4
    have hk' : Keeps S w w' := fun y hy => h2.block y (hS y hy) fun e => hown.out y hy e.symm
    refine h _ w' ⟨⟨css ++ dss, (hcs.on hk' fun _ h => h).append (hds.on hk' fun _ h => h), ?_⟩, fun y hy e => ?_⟩ ((Below.refl B w).grown h2 hB fun k hk => (hown.lt k hk).1) (fun y hy hne => h2.block y hy fun e => hne e.symm) ?_
    · rw [List.flatten_append, List.length_append]
      exact h1
    · injection e with e
      rcases h3 with h3 | h3
      · exact hown.out y hy (by rw [h3]; exact congrArg some e)
      · have := hS y hy
        have : g' = y := e
        omega
    · rcases h3 with h3 | h3
      · exact .inl (by rw [h3]; rfl)
      · exact .inr ⟨g', rfl, by omega⟩
/-- append(x, y): one thing more, which stands in a new block T. -/
theorem RowE.new {α : Type} {E : Elt α} {w : World} {S : Nat → Prop} {T e : Nat} {cs : List Value} {x : α} {cap : Nat} (h : E.C w S cs x) (hT : w.heap[T]? = some (.cells cs.toArray e (0, 0))) (hc : 1 ≤ cap) : RowE E w (fun y => y = T) S (.slice (some ⟨T, 0, none⟩) 1 cap) [x] := by
  refine .inr ⟨T, 0, cap, rfl, by simp, hc, fun j hj => ?_⟩
  obtain rfl : j = 0 := by simpa using hj
  refine ⟨rfl, cs, h, fun j hj => ?_⟩
  have hl := E.len h
  unfold World.cell?
  rw [hT]
  simp
/-- What a row that is made may lead to: S, and what is new but its own block. -/
def Nwr (S : Nat → Prop) (B : Nat) (w : World) (v : Value) (y : Nat) : Prop := S y ∨ (B ≤ y ∧ y < w.heap.size ∧ v.ownBlock ≠ some y)
def OwnN {α : Type} (E : Elt α) (e B : Nat) (S : Nat → Prop) (w : World) (v : Value) (l : List α) : Prop := Own E e B w (Nwr S B w v) v l
theorem OwnN.nil {α : Type} (E : Elt α) (e B : Nat) (S : Nat → Prop) (w : World) : OwnN E e B S w (.slice none 0 0) ([] : List α) := Own.nil _ _ _ _ _
theorem Nwr.lt {S : Nat → Prop} {B : Nat} {w : World} {v : Value} (hS : ∀ y, S y → y < B) (hB : B ≤ w.heap.size) : ∀ y, Nwr S B w v y → y < w.heap.size := fun y h => by
  rcases h with h | h
  · have := hS y h; omega
  · exact h.2.1
theorem OwnN.on {α : Type} {E : Elt α} {e B : Nat} {S : Nat → Prop} {w w' : World} {v : Value} {l : List α} (h : OwnN E e B S w v l) (hS : ∀ y, S y → y < B) (hB : B ≤ w.heap.size) (hb : Below w.heap.size w w') : OwnN E e B S w' v l := by
  have h1 : Own E e B w' (Nwr S B w v) v l := Own.on h (Keeps.of hb (Nwr.lt hS hB)) fun g e => hb.block g (h.lt g e).2
  refine h1.up (fun y hy => hy.imp id fun h => ⟨h.1, Nat.lt_of_lt_of_le h.2.1 hb.size, h.2.2⟩) fun y hy e => ?_
  rcases hy with hy | hy
  · have := (h.lt y e).1
    have := hS y hy
    omega
  · exact hy.2.2 e
theorem OwnN.rowE {α : Type} {E : Elt α} {e B : Nat} {S : Nat → Prop} {w : World} {v : Value} {l : List α} (h : OwnN E e B S w v l) : RowE E w (fun y => B ≤ y ∧ y < w.heap.size) (fun y => S y ∨ (B ≤ y ∧ y < w.heap.size)) v l :=
  (Own.rowE h).on (Keeps.refl _ _) (Keeps.refl _ _) (fun y e => h.lt y e) fun _ hy => hy.imp id fun h => ⟨h.1, h.2.1⟩
/-- append(x, y...), x being made. -/
theorem wpList_append_N {α : Type} {E : Elt α} {ops : Array Oper} {rest : List Oper} {o : Oper} {a : Act} {Q : Exit → Act → World → Prop} {w1 w2 : World} {Z S : Nat → Prop} {B t e b : Nat} (T : Ty t e E.k b) (hgd : o.guard = none) (s x : Operand)
    (ho : o.op = .call { callee := .builtin .append, args := #[s, x], argTypes := #[t, t] }) {v u : Value} {l m : List α} (hs : a.eval s = v) (hown : OwnN E e B S w1 v l) (hS : ∀ y, S y → y < B) (hB : B ≤ w1.heap.size) (hb : Below w1.heap.size w1 w2) (hx : a.eval x = u) (hm : RowE E w2 Z (Nwr S B w2 v) u m) (hl : l.length + m.length ≤ 10000000)
    (h : ∀ v' w', OwnN E e B S w' v' (l ++ m) → Below B w1 w' → w2.heap.size ≤ w'.heap.size → wpList Tryz.prog ops Q rest (a.put o.dst v') w') : wpList Tryz.prog ops Q (o :: rest) a w2 := by
  have h2 := hown.on hS hB hb
  have hB2 : B ≤ w2.heap.size := Nat.le_trans hB hb.size
  refine wpList_append_E T hgd s x ho hs h2 hx hm hl hB2 (Nwr.lt hS hB2) ?_
  intro v' w' O K1 _ G
  refine h v' w' ?_ ((hb.mono hB).trans K1) K1.size
  refine O.up (fun y hy => hy.imp id fun h => ⟨h.1, Nat.lt_of_lt_of_le h.2.1 K1.size, ?_⟩) fun y hy e => ?_
  · rcases G with G | ⟨g, G, hg⟩
    · rw [G]; exact h.2.2
    · rw [G]; intro e; injection e with e; have := h.2.1; omega
  · rcases hy with hy | hy
    · have := (O.lt y e).1
      have := hS y hy
      omega
    · exact hy.2.2 e
/-- append(x, y), x being made: one thing more, which was just laid. -/
theorem wpList_append_N1 {α : Type} {E : Elt α} {ops : Array Oper} {rest : List Oper} {o : Oper} {a : Act} {Q : Exit → Act → World → Prop} {w1 w2 : World} {S : Nat → Prop} {B t e b : Nat} (T : Ty t e E.k b) (hgd : o.guard = none) (s x : Operand)
    (ho : o.op = .call { callee := .builtin .append, args := #[s, x], argTypes := #[t, t] }) {v : Value} {l : List α} {cs : List Value} {p : α} {cap : Nat} (hs : a.eval s = v) (hown : OwnN E e B S w1 v l) (hS : ∀ y, S y → y < B) (hB : B ≤ w1.heap.size) (hb : Below w1.heap.size w1 w2) (hx : a.eval x = .slice (some ⟨w2.heap.size, 0, none⟩) 1 cap) (hC : E.C w2 (Nwr S B w2 v) cs p) (hcap : 1 ≤ cap) (hl : l.length + 1 ≤ 10000000)
    (h : ∀ v' w', OwnN E e B S w' v' (l ++ [p]) → Below B w1 w' → w2.heap.size ≤ w'.heap.size → wpList Tryz.prog ops Q rest (a.put o.dst v') w') : wpList Tryz.prog ops Q (o :: rest) a (w2.alloc (.cells cs.toArray e)) := by
  have hb2 : Below w2.heap.size w2 (w2.alloc (.cells cs.toArray e)) := (Below.refl _ _).alloc (Nat.le_refl _) _
  have hB2 : B ≤ w2.heap.size := Nat.le_trans hB hb.size
  refine wpList_append_N (Z := fun y => y = w2.heap.size) T hgd s x ho hs hown hS hB (hb.trans (hb2.mono hb.size)) hx (RowE.new (E.on (Keeps.of hb2 (Nwr.lt hS hB2)) (fun y hy => hy.imp id fun h => ⟨h.1, Nat.lt_of_lt_of_le h.2.1 hb2.size, h.2.2⟩) hC) (new_blk _ _) hcap) hl ?_
  intro v' w' O K1 K2
  exact h v' w' O K1 (Nat.le_trans hb2.size K2)

def ENat : Elt Nat where
  k := 1
  C _ _ cs x := cs = [.int .i64 x]
  len := by rintro _ _ _ _ rfl; rfl
  one := by rintro _ _ _ _ rfl u hu; rw [List.mem_singleton.1 hu]; rfl
  on := fun _ _ h => h
def ESet : Elt Nat where
  k := 1
  C _ _ cs x := cs = [.int .u64 x]
  len := by rintro _ _ _ _ rfl; rfl
  one := by rintro _ _ _ _ rfl u hu; rw [List.mem_singleton.1 hu]; rfl
  on := fun _ _ h => h
end Go.Proofs.YtgdflaapgfpdeaaGreatDoor

namespace Go.Proofs.YtgdflaapgfpdeaaGreatDoor
open Go
section
variable {P : Program} {ops : Array Oper} {Q : Exit → Act → World → Prop} {md : Region.Mode} {S : World → Prop} {L : Nat}
/-- Whatever order is picked from here on; S holds behind every operation but L. -/
def wpAnyK (P : Program) (md : Region.Mode) (ops : Array Oper) (Q : Exit → Act → World → Prop) (S : World → Prop) (L : Nat) : Nat → Array Bool → Act → World → Prop
  | 0, listed, a, w => Region.ready md ops listed = [] ∧ Q .normal a w
  | fuel + 1, listed, a, w => (Region.ready md ops listed = [] → Q .normal a w) ∧ ∀ i ∈ Region.ready md ops listed, wpOp P ops Q i (fun a' w' => (i ≠ L → S w') ∧ wpAnyK P md ops Q S L fuel (listed.setIfInBounds i true) a' w') a w
theorem wpAny_of_K : ∀ (fuel : Nat) (listed : Array Bool) (a : Act) (w : World), wpAnyK P md ops Q S L fuel listed a w → wpAny P md ops Q fuel listed a w
  | 0, _, _, _, h => h
  | fuel + 1, _, _, _, h => ⟨h.1, fun i hi => wpOp_mono (fun a' w' h' => wpAny_of_K fuel _ a' w' h'.2) (h.2 i hi)⟩
theorem wpAnyK_first {i : Nat} {oi : Oper} {v : Value} (hi : ops[i]? = some oi) (hsel : ∀ (j : Nat) (o : Oper) cs b, ops[j]? = some o → o.op ≠ .select cs b)
    (hQ : ∀ c a w, Q (.panic c) (a.put oi.dst v) w → Q (.panic c) a w) (hL : ∀ oL, ops[L]? = some oL → ∃ e ∈ oL.after, Region.binds md e = true ∧ e.on = i) :
    ∀ (fuel : Nat) (listed : Array Bool) (a : Act) (w : World),
      (∀ j oj, ops[j]? = some oj → j ≠ i → listed.getD j true = false → (∀ e ∈ oj.after, Region.binds md e = true → e.on ≠ i) → oi.apart ops oj = true) →
      i ∈ Region.ready md ops listed → YieldsIf P ops S oi v a → S w →
      wpAnyK P md ops Q S L fuel (listed.setIfInBounds i true) (a.put oi.dst v) w → wpAnyK P md ops Q S L (fuel + 1) listed a w := by
  intro fuel
  induction fuel with
  | zero =>
    intro listed a w _ hr hy hS H
    refine ⟨fun h => (by rw [h] at hr; cases hr), fun j hj => ?_⟩
    by_cases hji : j = i
    · subst hji; exact hy.wpOp hi hS ⟨fun _ => hS, H⟩
    · have := ready_mono hj hji
      rw [H.1] at this
      cases this
  | succ fuel ih =>
    intro listed a w hfree hr hy hS H
    refine ⟨fun h => (by rw [h] at hr; cases hr), fun j hj => ?_⟩
    by_cases hji : j = i
    · subst hji; exact hy.wpOp hi hS ⟨fun _ => hS, H⟩
    · have h1 := H.2 j (ready_mono hj hji)
      obtain ⟨hjun, oj, hoj, hall⟩ := mem_ready.1 hj
      have hnot : ∀ e ∈ oj.after, Region.binds md e = true → e.on ≠ i := fun e he hb heq => by
        have h1 := hall e he hb
        have h0 := (mem_ready.1 hr).1
        rw [heq] at h1
        rcases Nat.lt_or_ge i listed.size with h' | h'
        · simp [h'] at h0 h1; rw [h0] at h1; cases h1
        · simp [Array.getElem?_eq_none h'] at h1
      have hjL : j ≠ L := fun e => by
        subst e
        obtain ⟨e, he, hb, ho⟩ := hL oj hoj
        exact hnot e he hb ho
      have h2 := wpOp_putIf hoj (hfree j oj hoj hji hjun hnot) (fun cs b => hsel i oi cs b hi) (fun cs b => hsel j oj cs b hoj) hQ hy h1
      have hfree' : ∀ k ok, ops[k]? = some ok → k ≠ i → (listed.setIfInBounds j true).getD k true = false →
          (∀ e ∈ ok.after, Region.binds md e = true → e.on ≠ i) → oi.apart ops ok = true := fun k ok hk hki hun hno => by
        refine hfree k ok hk hki ?_ hno
        by_cases hjk : j = k
        · subst hjk; exact hjun
        · rw [getD_set_ne true hjk] at hun; exact hun
      refine wpOp_mono (fun a' w' h3 => ⟨fun _ => h3.2.1 hjL, ih (listed.setIfInBounds j true) a' w' hfree' (ready_mono hr (Ne.symm hji)) h3.1 (h3.2.1 hjL) ?_⟩) h2
      rw [Array.setIfInBounds_comm _ _ hji]
      exact h3.2.2
def waits (md : Region.Mode) (ops : Array Oper) (L i : Nat) : Bool := match ops[L]? with
  | some o => o.after.any fun e => Region.binds md e && e.on == i
  | none => true
theorem wpAnyK_take {i : Nat} {oi : Oper} {v : Value} {fuel : Nat} {listed : Array Bool} {a : Act} {w : World} (hi : ops[i]? = some oi)
    (hs : Region.noSelect ops = true) (hf : Region.free md ops listed i = true) (hr : (Region.ready md ops listed).contains i = true) (hL : waits md ops L i = true)
    (hQ : ∀ c a w, Q (.panic c) (a.put oi.dst v) w → Q (.panic c) a w) (hy : YieldsIf P ops S oi v a) (hS : S w)
    (h : wpAnyK P md ops Q S L fuel (listed.setIfInBounds i true) (a.put oi.dst v) w) : wpAnyK P md ops Q S L (fuel + 1) listed a w :=
  wpAnyK_first hi (Region.noSelect_spec hs) hQ (fun oL ho => by
    unfold waits at hL
    rw [ho] at hL
    obtain ⟨e, he, hb⟩ := Array.any_eq_true'.1 hL
    simp only [Bool.and_eq_true, beq_iff_eq] at hb
    exact ⟨e, he, hb.1, hb.2⟩) fuel listed a w (Region.free_spec hi hf) (by simpa using hr) hy hS h
/-- The first k of n have come up. -/
def lst (k n : Nat) : Array Bool := (List.replicate k true ++ List.replicate (n - k) false).toArray
theorem wpAnyK_next {i n : Nat} {oi : Oper} {v : Value} {fuel : Nat} {a : Act} {w : World} (d : Option Tmp) (hi : ops[i]? = some oi) (hd : oi.dst = d) (hl : (lst i n).setIfInBounds i true = lst (i + 1) n)
    (hs : Region.noSelect ops = true) (hf : Region.free md ops (lst i n) i = true) (hr : (Region.ready md ops (lst i n)).contains i = true) (hL : waits md ops L i = true)
    (hQ : ∀ c a w, Q (.panic c) (a.put d v) w → Q (.panic c) a w) (hy : YieldsIf P ops S oi v a) (hS : S w)
    (h : wpAnyK P md ops Q S L fuel (lst (i + 1) n) (a.put d v) w) : wpAnyK P md ops Q S L (fuel + 1) (lst i n) a w := by
  subst hd
  exact wpAnyK_take hi hs hf hr hL hQ hy hS (by rw [hl]; exact h)
/-- One alone may come up. -/
theorem wpAnyK_one {i n : Nat} {o : Oper} {fuel : Nat} {a : Act} {w : World} (hr : Region.ready md ops (lst i n) = [i]) (ho : ops[i]? = some o) (hl : (lst i n).setIfInBounds i true = lst (i + 1) n)
    (h : ∀ K' : Act → World → Prop, Shut (∀ a w, (i ≠ L → S w) → wpAnyK P md ops Q S L fuel (lst (i + 1) n) a w → K' a w) → if Region.wanted o (yielded ops a.tmps) = true then Oper.wp P o a w K' Q else K' (a.put o.dst undef) w) : wpAnyK P md ops Q S L (fuel + 1) (lst i n) a w := by
  refine ⟨fun h0 => ?_, fun j hj => ?_⟩
  · rw [hr] at h0
    cases h0
  · rw [hr] at hj
    obtain rfl := List.mem_singleton.1 hj
    exact wpOp_step ho fun K' hK => h K' fun a w hS hW => hK a w ⟨hS, by rw [hl]; exact hW⟩
theorem wpAnyK_done {listed : Array Bool} {a : Act} {w : World} (hr : Region.ready md ops listed = []) (h : Q .normal a w) : ∀ fuel, wpAnyK P md ops Q S L fuel listed a w
  | 0 => ⟨hr, h⟩
  | _ + 1 => ⟨fun _ => h, by rw [hr]; simp⟩
theorem wp_region_K {id n : Nat} {a : Act} {w : World} (hm : P.follows .mixedOrders = true) (hn : ops.size = n) (hl : Array.replicate n false = lst 0 n) (h : wpAnyK P .any ops Q S L n (lst 0 n) a w.drew) : (Code.region id ops true).wp P Q a w := by
  subst hn
  exact wp_region_any hm (wpAny_of_K _ _ _ _ (by rw [hl]; exact h))
end
open Go.RowKit
section
variable {P : Program} {ops : Array Oper} {Q : Exit → Act → World → Prop} {md : Region.Mode} {S : World → Prop} {L : Nat}
/-- Those have come up whose bit is set. -/
def lsm (m n : Nat) : Array Bool := ((List.range n).map fun i => m.testBit i).toArray
theorem wpAnyK_go {i n m m' : Nat} {oi : Oper} {v : Value} {fuel : Nat} {a : Act} {w : World} (d : Option Tmp) (hi : ops[i]? = some oi) (hd : oi.dst = d) (hl : (lsm m n).setIfInBounds i true = lsm m' n)
    (hs : Region.noSelect ops = true) (hf : Region.free md ops (lsm m n) i = true) (hr : (Region.ready md ops (lsm m n)).contains i = true) (hL : waits md ops L i = true)
    (hQ : ∀ c a w, Q (.panic c) (a.put d v) w → Q (.panic c) a w) (hy : YieldsIf P ops S oi v a) (hS : S w)
    (h : wpAnyK P md ops Q S L fuel (lsm m' n) (a.put d v) w) : wpAnyK P md ops Q S L (fuel + 1) (lsm m n) a w := by
  subst hd
  exact wpAnyK_take hi hs hf hr hL hQ hy hS (by rw [hl]; exact h)
theorem wpAnyK_only {i n m m' : Nat} {o : Oper} {fuel : Nat} {a : Act} {w : World} (hr : Region.ready md ops (lsm m n) = [i]) (ho : ops[i]? = some o) (hl : (lsm m n).setIfInBounds i true = lsm m' n)
    (h : ∀ K' : Act → World → Prop, Shut (∀ a w, (i ≠ L → S w) → wpAnyK P md ops Q S L fuel (lsm m' n) a w → K' a w) → if Region.wanted o (yielded ops a.tmps) = true then Oper.wp P o a w K' Q else K' (a.put o.dst undef) w) : wpAnyK P md ops Q S L (fuel + 1) (lsm m n) a w := by
  refine ⟨fun h0 => ?_, fun j hj => ?_⟩
  · rw [hr] at h0
    cases h0
  · rw [hr] at hj
    obtain rfl := List.mem_singleton.1 hj
    exact wpOp_step ho fun K' hK => h K' fun a w hS hW => hK a w ⟨hS, by rw [hl]; exact hW⟩
theorem wpAnyK_two {i j n m mi mj : Nat} {oi oj : Oper} {fuel : Nat} {a : Act} {w : World} (hr : Region.ready md ops (lsm m n) = [i, j]) (hoi : ops[i]? = some oi) (hoj : ops[j]? = some oj) (hli : (lsm m n).setIfInBounds i true = lsm mi n) (hlj : (lsm m n).setIfInBounds j true = lsm mj n)
    (h1 : ∀ K' : Act → World → Prop, Shut (∀ a w, (i ≠ L → S w) → wpAnyK P md ops Q S L fuel (lsm mi n) a w → K' a w) → if Region.wanted oi (yielded ops a.tmps) = true then Oper.wp P oi a w K' Q else K' (a.put oi.dst undef) w)
    (h2 : ∀ K' : Act → World → Prop, Shut (∀ a w, (j ≠ L → S w) → wpAnyK P md ops Q S L fuel (lsm mj n) a w → K' a w) → if Region.wanted oj (yielded ops a.tmps) = true then Oper.wp P oj a w K' Q else K' (a.put oj.dst undef) w) : wpAnyK P md ops Q S L (fuel + 1) (lsm m n) a w := by
  refine ⟨fun h0 => ?_, fun k hk => ?_⟩
  · rw [hr] at h0
    cases h0
  · rw [hr] at hk
    rcases List.mem_cons.1 hk with rfl | hk
    · exact wpOp_step hoi fun K' hK => h1 K' fun a w hS hW => hK a w ⟨hS, by rw [hli]; exact hW⟩
    · obtain rfl := List.mem_singleton.1 hk
      exact wpOp_step hoj fun K' hK => h2 K' fun a w hS hW => hK a w ⟨hS, by rw [hlj]; exact hW⟩
theorem wp_region_M {id n : Nat} {a : Act} {w : World} (hm : P.follows .mixedOrders = true) (hn : ops.size = n) (hl : Array.replicate n false = lsm 0 n) (h : wpAnyK P .any ops Q S L n (lsm 0 n) a w.drew) : (Code.region id ops true).wp P Q a w := by
  subst hn
  exact wp_region_any hm (wpAny_of_K _ _ _ _ (by rw [hl]; exact h))
end
/-- append(x, y...) of single cells, at a step of a region that draws its order. -/
theorem step_append_one {e b t : Nat} (T : Ty t e 1 b) {ops : Array Oper} {o : Oper} {a : Act} {K : Act → World → Prop} {Q : Exit → Act → World → Prop} {E : Prop} {w : World} (hgd : o.guard = none) (s x : Operand)
    (ho : o.op = .call { callee := .builtin .append, args := #[s, x], argTypes := #[t, t] }) {base n : Nat} {v : Value} {xs ys : List Value} {ad : Option Addr} {c : Nat} (hs : a.eval s = v) (hown : w.ownsRow base e 1 v n xs) (hx : a.eval x = .slice ad ys.length c)
    (hlie : ys = [] ∨ ∃ g q, ad = some ⟨g, q, none⟩ ∧ ∀ j (h : j < ys.length), w.cell? ⟨g, q + j, none⟩ = some ys[j]) (h1 : ∀ u ∈ ys, u.oneCell' = true) (hl : n + ys.length ≤ 1000000) (hbase : base ≤ w.heap.size)
    (h : ∀ v' w', w'.ownsRow base e 1 v' (n + ys.length) (xs ++ ys) → w.grownBy w' v.ownBlock → (v'.ownBlock = v.ownBlock ∨ ∃ g, v'.ownBlock = some g ∧ w.heap.size ≤ g) → K (a.put o.dst v') w') :
    if Region.wanted o (yielded ops a.tmps) = true then Oper.wp Tryz.prog o a w K Q else E := by
  obtain ⟨i, z, hi, hz, hk, hby, hzs⟩ := T.info
  by_cases h0 : ys = []
  · subst h0
    have hr := append_empty' (t := t) (ty := o.type) T.slice hi hown ad c
    have hw : Region.wanted o (yielded ops a.tmps) = true := by simp [Region.wanted, hgd]
    rw [if_pos hw]
    unfold Oper.wp execOp
    simp only [ho, resolve, invoke, builtin, Sem.run_bind, Sem.run_pure, Result.andThen_ok, List.map_toArray, List.map_cons, List.map_nil, hs, hx, List.length_nil, hr]
    exact h v w (by simpa using hown) ⟨rfl, rfl, rfl, Nat.le_refl _, fun _ _ _ => rfl⟩ (.inl rfl)
  · rcases hlie with hlie | ⟨g, q, rfl, hc⟩
    · exact absurd hlie h0
    · have hsm := T.small
      have hbytes : (n + ys.length) * b ≤ 140737488355328 := by
        have := Nat.mul_le_mul hl hsm
        omega
      refine step_append_lies w hgd s x t ho base e i z 1 b T.slice hi hz hk hby hzs (by decide) v n xs hs hown ⟨g, q, none⟩ ys.length c ys hx (by omega) (fun j u hu => ?_) h1 (List.length_pos_iff.2 h0) (by unfold maxLen; omega) hbytes hbase _ rfl ?_
      · have hj : j < ys.length := by
          rcases Nat.lt_or_ge j ys.length with h | h
          · exact h
          · rw [List.getElem?_eq_none h] at hu; cases hu
        rw [List.getElem?_eq_getElem hj] at hu
        have := hc j hj
        rw [Option.some.inj hu] at this
        by_cases ej : j = 0
        · subst ej
          simpa [Addr.add] using this
        · simpa [Addr.add, ej] using this
      · intro g' cap' w' k1 k2 k3 _
        refine h _ w' k1 k2 ?_
        rcases k3 with k3 | k3
        · exact .inl k3.symm
        · exact .inr ⟨g', rfl, Nat.le_of_eq k3.symm⟩
/-- A row with room, just made. -/
theorem made_own {e : Nat} (w : World) (base : Nat) (hb : base ≤ w.heap.size) (c : Array Value) (n : Nat) (hc : c.size = n) (hn : n ≤ 1000000) : (w.alloc (.cells c e)).ownsRow base e 1 (.slice (some ⟨w.heap.size, 0, none⟩) 0 n) 0 [] := by
  refine ⟨rfl, .inr ⟨w.heap.size, n, c, rfl, hb, new_blk w _, Nat.zero_le _, by unfold maxLen; omega, by omega, by simp⟩⟩
theorem make_one {e b t : Nat} (T : Ty t e 1 b) (w : World) (n : Nat) (hn : n ≤ 1000000) : ∃ c, (Instr.makeSlice t (.int .i64 0) (.int .i64 n)).run Tryz.prog w = .ok (.slice (some ⟨w.heap.size, 0, none⟩) 0 n) (w.alloc (.cells c e)) ∧ c.size = n := by
  obtain ⟨i, z, hi, hz, hk, hby, hzs⟩ := T.info
  have hbn : b * n ≤ 1000 * 1000000 := Nat.mul_le_mul T.small hn
  have hbi : (b : Int) * (n : Int) ≤ 281474976710656 := by
    rw [← Int.natCast_mul]
    omega
  have := run_makeSlice (P := Tryz.prog) w t e i z T.slice hi hz .i64 .i64 0 n (by omega) (by omega) (by rw [hk]; simp; omega) (by rw [hby]; exact hbi) (by omega)
  rw [hk] at this
  refine ⟨_, this, ?_⟩
  simp [madeCells, hzs]
/-- append(x, y), x being made, at a step of a region that draws its order. -/
theorem step_append_N1 {α : Type} {E : Elt α} {ops : Array Oper} {o : Oper} {a : Act} {K : Act → World → Prop} {Q : Exit → Act → World → Prop} {P : Prop} {w1 w2 : World} {S : Nat → Prop} {B t e b : Nat} (T : Ty t e E.k b) (hgd : o.guard = none) (s x : Operand)
    (ho : o.op = .call { callee := .builtin .append, args := #[s, x], argTypes := #[t, t] }) {v : Value} {l : List α} {cs : List Value} {p : α} {cap : Nat} (hs : a.eval s = v) (hown : OwnN E e B S w1 v l) (hS : ∀ y, S y → y < B) (hB : B ≤ w1.heap.size) (hb : Below w1.heap.size w1 w2) (H : Nat) (hx : a.eval x = .slice (some ⟨H, 0, none⟩) 1 cap) (hH : w2.heap.size = H) (hC : E.C w2 (Nwr S B w2 v) cs p) (hl : l.length + 1 ≤ 10000000)
    (h : ∀ g cap' w', OwnN E e B S w' (.slice (some ⟨g, 0, none⟩) (l.length + 1) cap') (l ++ [p]) → Hid (Below B w1 w' ∧ ∀ y, y < w2.heap.size → v.ownBlock ≠ some y → w'.heap[y]? = w2.heap[y]?) → K (a.put o.dst (.slice (some ⟨g, 0, none⟩) (l.length + 1) cap')) w') :
    if Region.wanted o (yielded ops a.tmps) = true then Oper.wp Tryz.prog o a (w2.alloc (.cells cs.toArray e)) K Q else P := by
  subst hH
  obtain ⟨i, z, hi, hz, hk, hby, hzs⟩ := T.info
  have hB2 : B ≤ w2.heap.size := Nat.le_trans hB hb.size
  have hb2 : Below w2.heap.size w2 (w2.alloc (.cells cs.toArray e)) := (Below.refl _ _).alloc (Nat.le_refl _) _
  have hbb : Below w1.heap.size w1 (w2.alloc (.cells cs.toArray e)) := hb.trans (hb2.mono hb.size)
  have h2 := hown.on hS hB hbb
  obtain ⟨css, hcs, hro⟩ := id h2.row
  have hC2 := E.on (Keeps.of hb2 (Nwr.lt hS hB2)) (S' := Nwr S B (w2.alloc (.cells cs.toArray e)) v) (fun y hy => hy.imp id fun h => ⟨h.1, Nat.lt_of_lt_of_le h.2.1 hb2.size, h.2.2⟩) hC
  have hsm := T.small
  have hlen : cs.length = 1 * E.k := by rw [E.len hC, Nat.one_mul]
  have hbytes : (l.length + 1) * b ≤ 140737488355328 := by
    have := Nat.mul_le_mul hl hsm
    omega
  have hnb := new_blk w2 (.cells cs.toArray e)
  refine step_append_lies _ hgd s x t ho B e i z E.k b T.slice hi hz hk hby hzs T.pos v l.length css.flatten hs hro ⟨w2.heap.size, 0, none⟩ 1 cap cs hx hlen (World.news_of_block (cs := cs.toArray) hnb) (E.one hC) (by omega) (by unfold maxLen; omega) hbytes (Nat.le_trans hB2 hb2.size) _ rfl ?_
  intro g' cap' w' h1 h3 h4 h5
  have hSl := Nwr.lt (v := v) hS (Nat.le_trans hB2 hb2.size)
  have hk' : Keeps (Nwr S B (w2.alloc (.cells cs.toArray e)) v) (w2.alloc (.cells cs.toArray e)) w' := fun y hy => h3.block y (hSl y hy) fun e => h2.out y hy e.symm
  have hgB : B ≤ g' := (h1.lt g' rfl).1
  have hbw : Below B w1 w' := ((hb.mono hB).trans (hb2.mono hB2)).grown h3 (Nat.le_trans hB2 hb2.size) fun k hk => (h2.lt k hk).1
  refine h g' cap' w' ?_ ⟨hbw, fun y hy hne => (h3.block y (Nat.lt_of_lt_of_le hy hb2.size) fun e => hne e.symm).trans (hb2.block y hy)⟩
  · refine ⟨⟨css ++ [cs], ?_, ?_⟩, fun y hy e => ?_⟩
    · have hup : ∀ y, Nwr S B (w2.alloc (.cells cs.toArray e)) v y → Nwr S B w' (.slice (some ⟨g', 0, none⟩) (l.length + 1) cap') y := fun y hy => hy.imp id fun h => ⟨h.1, Nat.lt_of_lt_of_le h.2.1 h3.size, fun e => by
        injection e with e
        have e : g' = y := e
        rcases h4 with h4 | h4
        · exact h.2.2 (by rw [h4, e])
        · have := h.2.1
          omega⟩
      exact (hcs.on hk' hup).append (Css.one (E.on hk' hup hC2))
    · rw [List.flatten_append, List.length_append]
      simpa using h1
    · rcases hy with hy | hy
      · injection e with e
        have e : g' = y := e
        have := hS y hy
        omega
      · exact hy.2.2 e
end Go.Proofs.YtgdflaapgfpdeaaGreatDoor
