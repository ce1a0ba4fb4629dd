/- Rows of things of some cells each: to read them, to make them by append. -/
import Derived.Test.YtlpnegnpejpdkaaGreatDoorProg
import Derived.ProofKit
import Derived.Below
import Derived.Deep.AppendLies
import Derived.Laws.OwnMore
import Derived.Lib.AppendZeros
namespace Go.Proofs.YtlpnegnpejpdkaaGreatDoor
open Go.RowKit

/-- The slice v is a row of things of k cells, of each of which Q says what it is. -/
def RowK {α : Type} (k : Nat) (Q : Nat → Nat → α → Prop) (v : Value) (ps : List α) : Prop :=
  (ps = [] ∧ ∃ ad cap, v = .slice ad 0 cap) ∨ ∃ g o cap, v = .slice (some ⟨g, o, none⟩) ps.length cap ∧ ps ≠ [] ∧ ps.length ≤ cap ∧ ∀ j (h : j < ps.length), Q g (o + j * k) ps[j]
theorem RowK.mono {α : Type} {k : Nat} {Q Q' : Nat → Nat → α → Prop} {v : Value} {ps : List α} (hQ : ∀ g o, ∀ p ∈ ps, Q g o p → Q' g o p) (h : RowK k Q v ps) : RowK k Q' v ps := by
  rcases h with h | ⟨g, o, cap, h1, h2, h3, h4⟩
  · exact .inl h
  · exact .inr ⟨g, o, cap, h1, h2, h3, fun j hj => hQ _ _ _ (List.getElem_mem hj) (h4 j hj)⟩
theorem RowK.len {α : Type} {k : Nat} {Q : Nat → Nat → α → Prop} {v : Value} {ps : List α} (h : RowK k Q v ps) : ∃ ad cap, v = .slice ad ps.length cap := by
  rcases h with ⟨h0, ad, cap, rfl⟩ | ⟨g, o, cap, rfl, _⟩
  · exact ⟨ad, cap, by rw [h0]; rfl⟩
  · exact ⟨_, cap, rfl⟩
theorem RowK.map {α β : Type} {k : Nat} {Q : Nat → Nat → α → Prop} {Q' : Nat → Nat → β → Prop} {v : Value} {ps : List α} (f : α → β) (hQ : ∀ g o p, Q g o p → Q' g o (f p)) (h : RowK k Q v ps) : RowK k Q' v (ps.map f) := by
  rcases h with ⟨h0, h⟩ | ⟨g, o, cap, hv, h0, hc, h⟩
  · exact .inl ⟨by rw [h0]; rfl, h⟩
  · refine .inr ⟨g, o, cap, by rw [hv, List.length_map], by simpa using h0, by rw [List.length_map]; exact hc, fun j hj => ?_⟩
    rw [List.getElem_map]
    exact hQ _ _ _ (h j (by simpa using hj))
/-- A slice of a row, as the walk wants it. -/
theorem RowK.open {α : Type} {k : Nat} {Q : Nat → Nat → α → Prop} {v : Value} {ps : List α} (h : RowK k Q v ps) : ∃ ad cap, v = .slice ad ps.length cap ∧ (ps ≠ [] → ∃ g o, ad = some ⟨g, o, none⟩ ∧ ps.length ≤ cap ∧ ∀ j (h : j < ps.length), Q g (o + j * k) ps[j]) := by
  rcases h with ⟨h0, ad, cap, rfl⟩ | ⟨g, o, cap, rfl, h0, hc, h⟩
  · exact ⟨ad, cap, by rw [h0]; rfl, fun h => absurd h0 h⟩
  · exact ⟨_, cap, rfl, fun _ => ⟨g, o, rfl, hc, h⟩⟩
/-- The blocks of S are as they were. -/
def Keeps (S : Nat → Prop) (w w' : World) : Prop := ∀ b, S b → w'.heap[b]? = w.heap[b]?
theorem Keeps.refl (S : Nat → Prop) (w : World) : Keeps S w w := fun _ _ => rfl
theorem Keeps.trans {S : Nat → Prop} {a b c : World} (h : Keeps S a b) (k : Keeps S b c) : Keeps S a c := fun i hi => (k i hi).trans (h i hi)
theorem Keeps.cell {S : Nat → Prop} {w w' : World} (h : Keeps S w w') {p : Addr} (hp : S p.block) : w'.cell? p = w.cell? p := by
  unfold World.cell?
  rw [h _ hp]
theorem Keeps.of {S : Nat → Prop} {B : Nat} {w w' : World} (h : Below B w w') (hS : ∀ b, S b → b < B) : Keeps S w w' := fun b hb => h.block b (hS b hb)
theorem Keeps.less {S T : Nat → Prop} {w w' : World} (h : Keeps T w w') (hS : ∀ b, S b → T b) : Keeps S w w' := fun b hb => h b (hS b hb)
theorem lt_heap {w : World} {b : Nat} {o : Obj} (h : w.heap[b]? = some o) : b < w.heap.size := by
  rcases Nat.lt_or_ge b w.heap.size with h1 | h1
  · exact h1
  · rw [Array.getElem?_eq_none h1] at h
    cases h
theorem new_blk (w : World) (o : Obj) : (w.alloc o).heap[w.heap.size]? = some o := by
  show (w.heap.push o)[w.heap.size]? = _
  simp
theorem heap_cl {w : World} {b i : Nat} {c : Array Value} {t : TypeId} {f : Nat × Nat} {u : Value} (h : w.heap[b]? = some (.cells c t f)) (hu : c[i]? = some u) : w.cell? ⟨b, i, none⟩ = some u := by
  simp only [World.cell?, h]
  exact hu
theorem cell_on {w w' : World} {g : Nat} (h : w'.heap[g]? = w.heap[g]?) (o : Nat) : w'.cell? ⟨g, o, none⟩ = w.cell? ⟨g, o, none⟩ := by
  unfold World.cell?
  rw [h]
theorem owns_on {w w' : World} {B e k : Nat} {v : Value} {n : Nat} {xs : List Value} (h : w.ownsRow B e k v n xs) (hk : ∀ y, v.ownBlock = some y → w'.heap[y]? = w.heap[y]?) : w'.ownsRow B e k v n xs := by
  obtain ⟨h1, h2⟩ := h
  refine ⟨h1, ?_⟩
  rcases h2 with h2 | ⟨g, cap, cur, rfl, h3, h4, h5⟩
  · exact .inl h2
  · exact .inr ⟨g, cap, cur, rfl, h3, (hk g rfl).trans h4, h5⟩
/-- How a thing lies in memory: in k cells; the blocks that it leads to are of S. -/
structure Elt (α : Type) where
  k : Nat
  C : World → (Nat → Prop) → List Value → α → Prop
  len : ∀ {w : World} {S : Nat → Prop} {cs : List Value} {x : α}, C w S cs x → cs.length = k
  one : ∀ {w : World} {S : Nat → Prop} {cs : List Value} {x : α}, C w S cs x → ∀ u ∈ cs, u.oneCell' = true
  on : ∀ {w w' : World} {S S' : Nat → Prop} {cs : List Value} {x : α}, Keeps S w w' → (∀ b, S b → S' b) → C w S cs x → C w' S' cs x
/-- A type of slices, of its elements, their cells, their bytes. -/
structure Ty (t e k b : Nat) : Prop where
  slice : Tryz.prog.underlying t = some (.slice e)
  info : ∃ (i : TypeInfo) (z : Value), Tryz.prog.info? e = some i ∧ i.zero = some z ∧ i.size = k ∧ i.bytes = b ∧ z.cells.size = k
  pos : 0 < k
  small : b ≤ 1000
def Css {α : Type} (E : Elt α) (w : World) (S : Nat → Prop) (css : List (List Value)) (l : List α) : Prop := css.length = l.length ∧ ∀ i (h : i < css.length) (h' : i < l.length), E.C w S css[i] l[i]
theorem Css.nil {α : Type} (E : Elt α) (w : World) (S : Nat → Prop) : Css E w S [] [] := ⟨rfl, fun _ h => by simp at h⟩
theorem Css.on {α : Type} {E : Elt α} {w w' : World} {S S' : Nat → Prop} {css : List (List Value)} {l : List α} (h : Css E w S css l) (hk : Keeps S w w') (hS : ∀ b, S b → S' b) : Css E w' S' css l := ⟨h.1, fun i a b => E.on hk hS (h.2 i a b)⟩
theorem Css.append {α : Type} {E : Elt α} {w : World} {S : Nat → Prop} {css dss : List (List Value)} {l m : List α} (h : Css E w S css l) (k : Css E w S dss m) : Css E w S (css ++ dss) (l ++ m) := by
  have h1 := h.1
  have k1 := k.1
  refine ⟨by simp [h1, k1], fun i a b => ?_⟩
  rcases Nat.lt_or_ge i css.length with hi | hi
  · rw [List.getElem_append_left hi, List.getElem_append_left (by omega)]
    exact h.2 i _ _
  · have e : (l ++ m)[i] = m[i - css.length]'(by rw [List.length_append] at b; omega) := by
      rw [List.getElem_append_right (by omega)]
      congr 1
      omega
    rw [List.getElem_append_right hi, e]
    exact k.2 _ _ _
theorem Css.one {α : Type} {E : Elt α} {w : World} {S : Nat → Prop} {cs : List Value} {x : α} (h : E.C w S cs x) : Css E w S [cs] [x] := ⟨rfl, fun i a b => by
  obtain rfl : i = 0 := by simpa using a
  exact h⟩
theorem Css.lens {α : Type} {E : Elt α} {w : World} {S : Nat → Prop} {css : List (List Value)} {l : List α} (h : Css E w S css l) : ∀ c ∈ css, c.length = E.k := by
  intro c hc
  obtain ⟨i, hi, rfl⟩ := List.getElem_of_mem hc
  exact E.len (h.2 i hi (by have := h.1; omega))
theorem Css.ones {α : Type} {E : Elt α} {w : World} {S : Nat → Prop} {css : List (List Value)} {l : List α} (h : Css E w S css l) : ∀ u ∈ css.flatten, u.oneCell' = true := by
  intro u hu
  obtain ⟨c, hc, hu⟩ := List.mem_flatten.1 hu
  obtain ⟨i, hi, rfl⟩ := List.getElem_of_mem hc
  exact E.one (h.2 i hi (by have := h.1; omega)) u hu
theorem flatC_len {k : Nat} : ∀ (css : List (List Value)), (∀ c ∈ css, c.length = k) → css.flatten.length = css.length * k
  | [], _ => by simp
  | a :: r, h => by
    rw [List.flatten_cons, List.length_append, flatC_len r fun c hc => h c (by simp [hc]), h a (by simp), List.length_cons, Nat.add_mul]
    omega
theorem flatC_get {k : Nat} : ∀ (css : List (List Value)), (∀ c ∈ css, c.length = k) → ∀ j c (hj : j < css.length), c < k → css.flatten[j * k + c]? = css[j][c]?
  | a :: r, h, 0, c, _, hc => by
    rw [List.flatten_cons, List.getElem?_append_left (by rw [h a (by simp)]; omega)]
    simp
  | a :: r, h, j + 1, c, hj, hc => by
    have ha := h a (by simp)
    have e : (j + 1) * k + c = a.length + (j * k + c) := by rw [ha, Nat.add_mul]; omega
    rw [List.flatten_cons, e, List.getElem?_append_right (by omega), Nat.add_sub_cancel_left, flatC_get r (fun c hc => h c (by simp [hc])) j c (by simpa using hj) hc]
    rfl
/-- The slice v is the row l: its blocks are of Z, what it leads to of S. -/
def RowE {α : Type} (E : Elt α) (w : World) (Z S : Nat → Prop) (v : Value) (l : List α) : Prop := RowK E.k (fun g o x => Z g ∧ ∃ cs, E.C w S cs x ∧ ∀ j, j < E.k → w.cell? ⟨g, o + j, none⟩ = cs[j]?) v l
theorem RowE.on {α : Type} {E : Elt α} {w w' : World} {Z Z' S S' : Nat → Prop} {v : Value} {l : List α} (h : RowE E w Z S v l) (hz : Keeps Z w w') (hk : Keeps S w w') (hZ : ∀ b, Z b → Z' b) (hS : ∀ b, S b → S' b) : RowE E w' Z' S' v l :=
  h.mono fun g o _ _ ⟨h1, cs, h2, h3⟩ => ⟨hZ _ h1, cs, E.on hk hS h2, fun j hj => (hz.cell (p := ⟨g, o + j, none⟩) h1).trans (h3 j hj)⟩
theorem RowE.cells {α : Type} {E : Elt α} {w : World} {Z S : Nat → Prop} {v : Value} {l : List α} (hp : 0 < E.k) (h : RowE E w Z S v l) : ∃ ad cap css, v = .slice ad l.length cap ∧ Css E w S css l ∧ (l ≠ [] → ∃ g o, ad = some ⟨g, o, none⟩ ∧ Z g ∧ l.length ≤ cap ∧ ∀ j u, css.flatten[j]? = some u → w.cell? ⟨g, o + j, none⟩ = some u) := by
  rcases h with ⟨rfl, ad, cap, rfl⟩ | ⟨g, o, cap, rfl, h0, hc, h⟩
  · exact ⟨ad, cap, [], rfl, Css.nil _ _ _, fun h => absurd rfl h⟩
  · obtain ⟨f, hf⟩ := Classical.axiomOfChoice (fun j : Fin l.length => (h j.1 j.2).2)
    have hcs : Css E w S (List.ofFn f) l := ⟨by simp, fun i a b => by
      rw [List.getElem_ofFn]
      exact (hf ⟨i, b⟩).1⟩
    refine ⟨_, cap, List.ofFn f, rfl, hcs, fun _ => ⟨g, o, rfl, ?_, hc, fun j u hu => ?_⟩⟩
    · cases l with
      | nil => exact absurd rfl h0
      | cons a r => exact (h 0 (by simp)).1
    · have hlen := flatC_len _ hcs.lens
      have hj : j < l.length * E.k := by
        have := (List.getElem?_eq_some_iff.1 hu).1
        rw [hlen, hcs.1] at this
        exact this
      have hq : j / E.k < l.length := Nat.div_lt_of_lt_mul (by rw [Nat.mul_comm]; exact hj)
      have hr : j % E.k < E.k := Nat.mod_lt _ hp
      have he : j = j / E.k * E.k + j % E.k := by rw [Nat.mul_comm]; exact (Nat.div_add_mod j E.k).symm
      have hg := flatC_get _ hcs.lens (j / E.k) (j % E.k) (by rw [hcs.1]; exact hq) hr
      rw [← he, hu, List.getElem_ofFn] at hg
      have h2 := (hf ⟨j / E.k, hq⟩).2 (j % E.k) hr
      have he2 : o + j = o + j / E.k * E.k + j % E.k := by rw [Nat.add_assoc, ← he]
      rw [he2]
      exact h2.trans hg.symm
/-- The slice v is a row that was made: its block is its alone, and none of S. -/
structure Own {α : Type} (E : Elt α) (e B : Nat) (w : World) (S : Nat → Prop) (v : Value) (l : List α) : Prop where
  row : ∃ css, Css E w S css l ∧ w.ownsRow B e E.k v l.length css.flatten
  out : ∀ b, S b → v.ownBlock ≠ some b
theorem Own.nil {α : Type} (E : Elt α) (e B : Nat) (w : World) (S : Nat → Prop) : Own E e B w S (.slice none 0 0) ([] : List α) := ⟨⟨[], Css.nil _ _ _, World.ownsRow_nil _ _ _ _⟩, fun _ _ h => by cases h⟩
theorem Own.lt {α : Type} {E : Elt α} {e B : Nat} {w : World} {S : Nat → Prop} {v : Value} {l : List α} (h : Own E e B w S v l) : ∀ g, v.ownBlock = some g → B ≤ g ∧ g < w.heap.size := by
  obtain ⟨css, _, h2⟩ := h.row
  exact h2.lt
theorem Own.on {α : Type} {E : Elt α} {e B : Nat} {w w' : World} {S : Nat → Prop} {v : Value} {l : List α} (h : Own E e B w S v l) (hk : Keeps S w w') (hb : ∀ g, v.ownBlock = some g → w'.heap[g]? = w.heap[g]?) : Own E e B w' S v l := by
  obtain ⟨css, h1, h2, h3⟩ := h.row
  refine ⟨⟨css, h1.on hk fun _ h => h, h2, ?_⟩, h.out⟩
  rcases h3 with h3 | ⟨g, cap, cur, rfl, h4, h5, h6⟩
  · exact .inl h3
  · exact .inr ⟨g, cap, cur, rfl, h4, (hb g rfl).trans h5, h6⟩
theorem Own.up {α : Type} {E : Elt α} {e B : Nat} {w : World} {S S' : Nat → Prop} {v : Value} {l : List α} (h : Own E e B w S v l) (hS : ∀ b, S b → S' b) (ho : ∀ b, S' b → v.ownBlock ≠ some b) : Own E e B w S' v l := by
  obtain ⟨css, h1, h2⟩ := h.row
  exact ⟨⟨css, h1.on (Keeps.refl _ _) hS, h2⟩, ho⟩
theorem Own.below {α : Type} {E : Elt α} {e B B' : Nat} {w : World} {S : Nat → Prop} {v : Value} {l : List α} (h : Own E e B w S v l) (hB : B' ≤ B) : Own E e B' w S v l := by
  obtain ⟨css, h1, h2, h3⟩ := h.row
  refine ⟨⟨css, h1, h2, ?_⟩, h.out⟩
  rcases h3 with h3 | ⟨g, cap, cur, rfl, h4, h5⟩
  · exact .inl h3
  · exact .inr ⟨g, cap, cur, rfl, Nat.le_trans hB h4, h5⟩
theorem Own.len {α : Type} {E : Elt α} {e B : Nat} {w : World} {S : Nat → Prop} {v : Value} {l : List α} (h : Own E e B w S v l) : ∃ ad cap, v = .slice ad l.length cap := by
  obtain ⟨css, _, _, ⟨h1, h2⟩ | ⟨g, cap, cur, rfl, _⟩⟩ := h.row
  · exact ⟨none, 0, by rw [h1, h2]⟩
  · exact ⟨_, cap, rfl⟩
theorem Own.rowE {α : Type} {E : Elt α} {e B : Nat} {w : World} {S : Nat → Prop} {v : Value} {l : List α} (h : Own E e B w S v l) : RowE E w (fun y => v.ownBlock = some y) S v l := by
  obtain ⟨css, h1, h2⟩ := h.row
  by_cases hl : l = []
  · obtain ⟨ad, cap, hv⟩ := h.len
    exact .inl ⟨hl, ad, cap, by rw [hv, hl]; rfl⟩
  · rcases id h2.2 with ⟨_, h3⟩ | ⟨g, cap, cur, rfl, h4, h5, h6, _⟩
    · exact absurd (List.length_eq_zero_iff.1 h3) hl
    · refine .inr ⟨g, 0, cap, rfl, hl, h6, fun j hj => ⟨rfl, css[j]'(by rw [h1.1]; exact hj), h1.2 j _ hj, fun c hc => ?_⟩⟩
      rw [← flatC_get css h1.lens j c (by rw [h1.1]; exact hj) hc, Nat.zero_add]
      refine h2.cellAt (j * E.k + c) ?_
      have : (j + 1) * E.k ≤ l.length * E.k := Nat.mul_le_mul_right _ hj
      rw [Nat.add_mul] at this
      omega
theorem append_empty' {w : World} {base t ty e n size : Nat} {i : TypeInfo} (ht : Tryz.prog.underlying t = some (.slice e)) (hi : Tryz.prog.info? e = some i) {v : Value} {xs : List Value} (hown : w.ownsRow base e size v n xs) (ad : Option Addr) (c : Nat) :
    (Builtin.append_ #[t, t] ty #[v, .slice ad 0 c]).run Tryz.prog w = .ok v w := by
  have hld : ∀ a, (loadCells a 0).run Tryz.prog w = .ok #[] w := fun a => by simp [loadCells, loadCellsFrom]
  rcases hown.2 with ⟨rfl, rfl⟩ | ⟨g, cap, cur, rfl, _, _, hnc, _⟩
  · cases ad <;> simp [hld, Builtin.append_, run_underlying ht, sizeOf, typeInfo, hi, Builtin.lenOf, Builtin.firstCells]
  · cases ad <;> simp [hld, Builtin.append_, run_underlying ht, sizeOf, typeInfo, hi, Builtin.lenOf, Builtin.firstCells, hnc, storeCells]
/-- append(x, y...): a row that was made, and another that can be read. -/
theorem wpList_append_E {α : Type} {E : Elt α} {ops : Array Oper} {rest : List Oper} {o : Oper} {a : Act} {Q : Exit → Act → World → Prop} {w : World} {Z S : Nat → Prop} {B t e b : Nat} (T : Ty t e E.k b) (hgd : o.guard = none) (s x : Operand)
    (ho : o.op = .call { callee := .builtin .append, args := #[s, x], argTypes := #[t, t] }) {v u : Value} {l m : List α} (hs : a.eval s = v) (hown : Own E e B w S v l) (hx : a.eval x = u) (hm : RowE E w Z S u m) (hl : l.length + m.length ≤ 100000000) (hB : B ≤ w.heap.size) (hS : ∀ y, S y → y < w.heap.size)
    (h : ∀ v' w', Own E e B w' S v' (l ++ m) → Below B w w' → (∀ y, y < w.heap.size → v.ownBlock ≠ some y → w'.heap[y]? = w.heap[y]?) → (v'.ownBlock = v.ownBlock ∨ ∃ g, v'.ownBlock = some g ∧ w.heap.size ≤ g) → wpList Tryz.prog ops Q rest (a.put o.dst v') w') : wpList Tryz.prog ops Q (o :: rest) a w := by
  obtain ⟨css, hcs, hro⟩ := hown.row
  obtain ⟨i, z, hi, hz, hk, hby, hzs⟩ := T.info
  obtain ⟨ad, cap, dss, rfl, hds, hlie⟩ := hm.cells T.pos
  by_cases h0 : m = []
  · subst h0
    have hr := append_empty' (t := t) (ty := o.type) T.slice hi hro ad cap
    refine Lib.wpList_append_run w hgd s x t t ho _ _ hs hx _ _ hr ?_
    refine h v w (by rw [List.append_nil]; exact hown) (Below.refl _ _) (fun _ _ _ => rfl) (.inl rfl)
  · obtain ⟨g, o', rfl, _, hmc, hc⟩ := hlie h0
    have hm0 : 0 < m.length := List.length_pos_iff.2 h0
    have hsm := T.small
    have hfl : dss.flatten.length = m.length * E.k := by rw [flatC_len _ hds.lens, hds.1]
    have hbytes : (l.length + m.length) * b ≤ 140737488355328 := by
      have := Nat.mul_le_mul hl hsm
      omega
    refine wpList_append_lies w hgd s x t ho B e i z E.k b T.slice hi hz hk hby hzs T.pos v l.length css.flatten hs hro ⟨g, o', none⟩ m.length cap dss.flatten hx hfl (fun j u hu => by
      have h := hc j u hu
      by_cases e : j = 0
      · subst e
        simpa [Addr.add] using h
      · simpa [Addr.add, e] using h) hds.ones hm0 (by unfold maxLen; omega) hbytes hB _ rfl ?_
    intro g' cap' w' h1 h2 h3 h4
    have hk' : Keeps S w w' := fun y hy => h2.block y (hS y hy) fun e => hown.out y hy e.symm
    refine h _ w' ⟨⟨css ++ dss, (hcs.on hk' fun _ h => h).append (hds.on hk' fun _ h => h), ?_⟩, fun y hy e => ?_⟩ ((Below.refl B w).grown h2 hB fun k hk => (hown.lt k hk).1) (fun y hy hne => h2.block y hy fun e => hne e.symm) ?_
    · rw [List.flatten_append, List.length_append]
      exact h1
    · injection e with e
      rcases h3 with h3 | h3
      · exact hown.out y hy (by rw [h3]; exact congrArg some e)
      · have := hS y hy
        have : g' = y := e
        omega
    · rcases h3 with h3 | h3
      · exact .inl (by rw [h3]; rfl)
      · exact .inr ⟨g', rfl, by omega⟩
/-- append(x, y): one thing more, which stands in a new block T. -/
theorem RowE.new {α : Type} {E : Elt α} {w : World} {S : Nat → Prop} {T e : Nat} {cs : List Value} {x : α} {cap : Nat} (h : E.C w S cs x) (hT : w.heap[T]? = some (.cells cs.toArray e (0, 0))) (hc : 1 ≤ cap) : RowE E w (fun y => y = T) S (.slice (some ⟨T, 0, none⟩) 1 cap) [x] := by
  refine .inr ⟨T, 0, cap, rfl, by simp, hc, fun j hj => ?_⟩
  obtain rfl : j = 0 := by simpa using hj
  refine ⟨rfl, cs, h, fun j hj => ?_⟩
  have hl := E.len h
  unfold World.cell?
  rw [hT]
  simp
/-- What a row that is made may lead to: S, and what is new but its own block. -/
def Nwr (S : Nat → Prop) (B : Nat) (w : World) (v : Value) (y : Nat) : Prop := S y ∨ (B ≤ y ∧ y < w.heap.size ∧ v.ownBlock ≠ some y)
def OwnN {α : Type} (E : Elt α) (e B : Nat) (S : Nat → Prop) (w : World) (v : Value) (l : List α) : Prop := Own E e B w (Nwr S B w v) v l
theorem OwnN.nil {α : Type} (E : Elt α) (e B : Nat) (S : Nat → Prop) (w : World) : OwnN E e B S w (.slice none 0 0) ([] : List α) := Own.nil _ _ _ _ _
theorem Nwr.lt {S : Nat → Prop} {B : Nat} {w : World} {v : Value} (hS : ∀ y, S y → y < B) (hB : B ≤ w.heap.size) : ∀ y, Nwr S B w v y → y < w.heap.size := fun y h => by
  rcases h with h | h
  · have := hS y h; omega
  · exact h.2.1
theorem OwnN.on {α : Type} {E : Elt α} {e B : Nat} {S : Nat → Prop} {w w' : World} {v : Value} {l : List α} (h : OwnN E e B S w v l) (hS : ∀ y, S y → y < B) (hB : B ≤ w.heap.size) (hb : Below w.heap.size w w') : OwnN E e B S w' v l := by
  have h1 : Own E e B w' (Nwr S B w v) v l := Own.on h (Keeps.of hb (Nwr.lt hS hB)) fun g e => hb.block g (h.lt g e).2
  refine h1.up (fun y hy => hy.imp id fun h => ⟨h.1, Nat.lt_of_lt_of_le h.2.1 hb.size, h.2.2⟩) fun y hy e => ?_
  rcases hy with hy | hy
  · have := (h.lt y e).1
    have := hS y hy
    omega
  · exact hy.2.2 e
theorem OwnN.rowE {α : Type} {E : Elt α} {e B : Nat} {S : Nat → Prop} {w : World} {v : Value} {l : List α} (h : OwnN E e B S w v l) : RowE E w (fun y => B ≤ y ∧ y < w.heap.size) (fun y => S y ∨ (B ≤ y ∧ y < w.heap.size)) v l :=
  (Own.rowE h).on (Keeps.refl _ _) (Keeps.refl _ _) (fun y e => h.lt y e) fun _ hy => hy.imp id fun h => ⟨h.1, h.2.1⟩
/-- append(x, y...), x being made. -/
theorem wpList_append_N {α : Type} {E : Elt α} {ops : Array Oper} {rest : List Oper} {o : Oper} {a : Act} {Q : Exit → Act → World → Prop} {w1 w2 : World} {Z S : Nat → Prop} {B t e b : Nat} (T : Ty t e E.k b) (hgd : o.guard = none) (s x : Operand)
    (ho : o.op = .call { callee := .builtin .append, args := #[s, x], argTypes := #[t, t] }) {v u : Value} {l m : List α} (hs : a.eval s = v) (hown : OwnN E e B S w1 v l) (hS : ∀ y, S y → y < B) (hB : B ≤ w1.heap.size) (hb : Below w1.heap.size w1 w2) (hx : a.eval x = u) (hm : RowE E w2 Z (Nwr S B w2 v) u m) (hl : l.length + m.length ≤ 100000000)
    (h : ∀ v' w', OwnN E e B S w' v' (l ++ m) → Below B w1 w' → w2.heap.size ≤ w'.heap.size → wpList Tryz.prog ops Q rest (a.put o.dst v') w') : wpList Tryz.prog ops Q (o :: rest) a w2 := by
  have h2 := hown.on hS hB hb
  have hB2 : B ≤ w2.heap.size := Nat.le_trans hB hb.size
  refine wpList_append_E T hgd s x ho hs h2 hx hm hl hB2 (Nwr.lt hS hB2) ?_
  intro v' w' O K1 _ G
  refine h v' w' ?_ ((hb.mono hB).trans K1) K1.size
  refine O.up (fun y hy => hy.imp id fun h => ⟨h.1, Nat.lt_of_lt_of_le h.2.1 K1.size, ?_⟩) fun y hy e => ?_
  · rcases G with G | ⟨g, G, hg⟩
    · rw [G]; exact h.2.2
    · rw [G]; intro e; injection e with e; have := h.2.1; omega
  · rcases hy with hy | hy
    · have := (O.lt y e).1
      have := hS y hy
      omega
    · exact hy.2.2 e
/-- append(x, y), x being made: one thing more, which was just laid. -/
theorem wpList_append_N1 {α : Type} {E : Elt α} {ops : Array Oper} {rest : List Oper} {o : Oper} {a : Act} {Q : Exit → Act → World → Prop} {w1 w2 : World} {S : Nat → Prop} {B t e b : Nat} (T : Ty t e E.k b) (hgd : o.guard = none) (s x : Operand)
    (ho : o.op = .call { callee := .builtin .append, args := #[s, x], argTypes := #[t, t] }) {v : Value} {l : List α} {cs : List Value} {p : α} {cap : Nat} (hs : a.eval s = v) (hown : OwnN E e B S w1 v l) (hS : ∀ y, S y → y < B) (hB : B ≤ w1.heap.size) (hb : Below w1.heap.size w1 w2) (hx : a.eval x = .slice (some ⟨w2.heap.size, 0, none⟩) 1 cap) (hC : E.C w2 (Nwr S B w2 v) cs p) (hcap : 1 ≤ cap) (hl : l.length + 1 ≤ 100000000)
    (h : ∀ v' w', OwnN E e B S w' v' (l ++ [p]) → Below B w1 w' → w2.heap.size ≤ w'.heap.size → wpList Tryz.prog ops Q rest (a.put o.dst v') w') : wpList Tryz.prog ops Q (o :: rest) a (w2.alloc (.cells cs.toArray e)) := by
  have hb2 : Below w2.heap.size w2 (w2.alloc (.cells cs.toArray e)) := (Below.refl _ _).alloc (Nat.le_refl _) _
  have hB2 : B ≤ w2.heap.size := Nat.le_trans hB hb.size
  refine wpList_append_N (Z := fun y => y = w2.heap.size) T hgd s x ho hs hown hS hB (hb.trans (hb2.mono hb.size)) hx (RowE.new (E.on (Keeps.of hb2 (Nwr.lt hS hB2)) (fun y hy => hy.imp id fun h => ⟨h.1, Nat.lt_of_lt_of_le h.2.1 hb2.size, h.2.2⟩) hC) (new_blk _ _) hcap) hl ?_
  intro v' w' O K1 K2
  exact h v' w' O K1 (Nat.le_trans hb2.size K2)

def ENat : Elt Nat where
  k := 1
  C _ _ cs x := cs = [.int .i64 x]
  len := by rintro _ _ _ _ rfl; rfl
  one := by rintro _ _ _ _ rfl u hu; rw [List.mem_singleton.1 hu]; rfl
  on := fun _ _ h => h
def ESet : Elt Nat where
  k := 1
  C _ _ cs x := cs = [.int .u64 x]
  len := by rintro _ _ _ _ rfl; rfl
  one := by rintro _ _ _ _ rfl u hu; rw [List.mem_singleton.1 hu]; rfl
  on := fun _ _ h => h
end Go.Proofs.YtlpnegnpejpdkaaGreatDoor
