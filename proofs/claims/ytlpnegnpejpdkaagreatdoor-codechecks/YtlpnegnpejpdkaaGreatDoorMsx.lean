/- Rows in a block of their own, thing by thing: what the law lends. kept: behind each row of a table that was lent the marks still stand. turn: a table that was lent is made another one. turn: its walk. -/
import Derived.Test.YtlpnegnpejpdkaaGreatDoorXj
import Derived.Test.YtlpnegnpejpdkaaGreatDoorMjx
import Derived.Laws.MakeOwn
namespace Go.Proofs.YtlpnegnpejpdkaaGreatDoor
open Go.RowKit

theorem rowK_at {α : Type} {k : Nat} {Q : Nat → Nat → α → Prop} {g o cap : Nat} {ps : List α} (hc : ps.length ≤ cap) (h : ∀ j (h : j < ps.length), Q g (o + j * k) ps[j]) : RowK k Q (.slice (some ⟨g, o, none⟩) ps.length cap) ps := by
  by_cases e : ps = []
  · subst e
    exact .inl ⟨rfl, _, _, rfl⟩
  · exact .inr ⟨g, o, cap, rfl, e, hc, h⟩
theorem cell_blk {w : World} {g o : Nat} {c : Array Value} {t : TypeId} {f : Nat × Nat} (h : w.heap[g]? = some (.cells c t f)) : w.cell? ⟨g, o, none⟩ = c[o]? := by
  simp only [World.cell?, h]
  rfl
/-- The block g holds N things of k cells, f says which. -/
def RowL (w : World) (e k g N : Nat) (f : Nat → List Value) : Prop := ∃ cur, w.heap[g]? = some (.cells cur e (0, 0)) ∧ cur.size = N * k ∧ ∀ i, i < N → (f i).length = k ∧ ∀ x, x < k → cur[i * k + x]? = (f i)[x]?
theorem RowL.lt {w : World} {e k g N : Nat} {f : Nat → List Value} (h : RowL w e k g N f) : g < w.heap.size := by
  obtain ⟨cur, h1, _⟩ := h
  exact lt_heap h1
theorem RowL.on {w w' : World} {e k g N : Nat} {f : Nat → List Value} (h : RowL w e k g N f) (hb : w'.heap[g]? = w.heap[g]?) : RowL w' e k g N f := by
  obtain ⟨cur, h1, h2⟩ := h
  exact ⟨cur, hb.trans h1, h2⟩
theorem RowL.below {w w' : World} {e k g N B : Nat} {f : Nat → List Value} (h : RowL w e k g N f) (hb : Below B w w') (hg : g < B) : RowL w' e k g N f := h.on (hb.block g hg)
theorem RowL.made {w : World} {e k g N : Nat} {cur : Array Value} (h : w.heap[g]? = some (.cells cur e (0, 0))) (hs : cur.size = N * k) : ∃ f, RowL w e k g N f := by
  refine ⟨fun i => (cur.toList.drop (i * k)).take k, cur, h, hs, fun i hi => ⟨?_, fun x hx => ?_⟩⟩
  · have h3 : i * k + k ≤ N * k := by
      have := Nat.mul_le_mul_right k (show i + 1 ≤ N from hi)
      rw [Nat.add_mul] at this
      omega
    simp
    omega
  · rw [List.getElem?_take_of_lt hx, List.getElem?_drop, Array.getElem?_toList]
theorem RowL.cell {w : World} {e k g N : Nat} {f : Nat → List Value} (h : RowL w e k g N f) {i x : Nat} (hi : i < N) (hx : x < k) : w.cell? ⟨g, i * k + x, none⟩ = (f i)[x]? := by
  obtain ⟨cur, h1, _, h3⟩ := h
  rw [cell_blk h1]
  exact (h3 i hi).2 x hx
theorem RowL.frozen {w : World} {e k g N : Nat} {f : Nat → List Value} (h : RowL w e k g N f) (x : Nat) : w.frozen? ⟨g, x, none⟩ = false := by
  obtain ⟨cur, h1, _⟩ := h
  exact heap_frozen h1
theorem RowL.some {w : World} {e k g N : Nat} {f : Nat → List Value} (h : RowL w e k g N f) {i x : Nat} (hi : i < N) (hx : x < k) : ∃ v, w.cell? ⟨g, i * k + x, none⟩ = Option.some v := by
  have h2 := h.cell hi hx
  obtain ⟨cur, _, _, h3⟩ := h
  have h4 := (h3 i hi).1
  exact ⟨(f i)[x]'(by omega), by rw [h2]; exact List.getElem?_eq_getElem (by omega)⟩
theorem RowL.congr {w : World} {e k g N : Nat} {f f' : Nat → List Value} (h : RowL w e k g N f) (hf : ∀ i, i < N → f' i = f i) : RowL w e k g N f' := by
  obtain ⟨cur, h1, h2, h3⟩ := h
  exact ⟨cur, h1, h2, fun i hi => by rw [hf i hi]; exact h3 i hi⟩
theorem place_ne {k i j x y : Nat} (hx : x < k) (hy : y < k) (h : ¬ (i = j ∧ x = y)) : i * k + x ≠ j * k + y := by
  intro e
  rcases Nat.lt_trichotomy i j with h1 | h1 | h1
  · have := Nat.mul_le_mul_right k (show i + 1 ≤ j from h1)
    rw [Nat.add_mul] at this
    omega
  · subst h1
    exact h ⟨rfl, by omega⟩
  · have := Nat.mul_le_mul_right k (show j + 1 ≤ i from h1)
    rw [Nat.add_mul] at this
    omega
theorem RowL.one {U : World} {e k g N : Nat} {f : Nat → List Value} (h : RowL U e k g N f) {i x : Nat} (hi : i < N) (hx : x < k) (v : Value) : RowL (U.setCell ⟨g, i * k + x, none⟩ v) e k g N (fun y => if y = i then (f i).set x v else f y) := by
  obtain ⟨cur, h1, h2, h3⟩ := h
  refine ⟨_, setCell_block h1, by rw [Array.size_setIfInBounds]; exact h2, fun y hy => ⟨?_, fun z hz => ?_⟩⟩
  · by_cases e1 : y = i
    · simp only [if_pos e1, List.length_set]
      exact (h3 i hi).1
    · simp only [if_neg e1]
      exact (h3 y hy).1
  · by_cases e1 : y = i
    · simp only [if_pos e1]
      subst e1
      by_cases e2 : z = x
      · subst e2
        have h4 := (h3 y hy).2 z hz
        have h5 := (h3 y hy).1
        rw [Array.getElem?_setIfInBounds_self_of_lt, List.getElem?_set_self (by omega)]
        rw [List.getElem?_eq_getElem (by omega)] at h4
        exact (Array.getElem?_eq_some_iff.1 h4).1
      · rw [Array.getElem?_setIfInBounds_ne (place_ne hx hz (fun q => e2 q.2.symm)), List.getElem?_set_ne (fun q => e2 q.symm)]
        exact (h3 y hy).2 z hz
    · simp only [if_neg e1]
      rw [Array.getElem?_setIfInBounds_ne (place_ne hx hz (fun q => e1 q.1.symm))]
      exact (h3 y hy).2 z hz
/-- Two cells are written. -/
theorem RowL.set2 {U W : World} {e g N : Nat} {f : Nat → List Value} (h : RowL U e 2 g N f) {i : Nat} (hi : i < N) (a b : Value) (hW : W = (U.setCell ⟨g, i * 2, none⟩ a).setCell ⟨g, i * 2 + 1, none⟩ b) : RowL W e 2 g N (fun y => if y = i then [a, b] else f y) ∧ Below g U W ∧ W.heap.size = U.heap.size := by
  subst hW
  have hl : (f i).length = 2 := by obtain ⟨cur, _, _, h3⟩ := h; exact (h3 i hi).1
  refine ⟨((h.one hi (x := 0) (by decide) a).one hi (x := 1) (by decide) b).congr fun y _ => ?_, ((Below.refl g U).setCell (Nat.le_refl _) a).setCell (Nat.le_refl _) b, by simp [World.setCell]⟩
  by_cases e1 : y = i
  · simp only [if_pos e1]
    match hf : f i, hl with
    | [p, q], _ => simp
  · simp only [if_neg e1]
/-- Three cells are written. -/
theorem RowL.set3 {U W : World} {e g N : Nat} {f : Nat → List Value} (h : RowL U e 3 g N f) {i : Nat} (hi : i < N) (a b c : Value) (hW : W = ((U.setCell ⟨g, i * 3, none⟩ a).setCell ⟨g, i * 3 + 1, none⟩ b).setCell ⟨g, i * 3 + 2, none⟩ c) : RowL W e 3 g N (fun y => if y = i then [a, b, c] else f y) ∧ Below g U W ∧ W.heap.size = U.heap.size := by
  subst hW
  have hl : (f i).length = 3 := by obtain ⟨cur, _, _, h3⟩ := h; exact (h3 i hi).1
  refine ⟨(((h.one hi (x := 0) (by decide) a).one hi (x := 1) (by decide) b).one hi (x := 2) (by decide) c).congr fun y _ => ?_, (((Below.refl g U).setCell (Nat.le_refl _) a).setCell (Nat.le_refl _) b).setCell (Nat.le_refl _) c, by simp [World.setCell]⟩
  by_cases e1 : y = i
  · simp only [if_pos e1]
    match hf : f i, hl with
    | [p, q, r], _ => simp
  · simp only [if_neg e1]
theorem RowL.two {w : World} {e g N : Nat} {f : Nat → List Value} (h : RowL w e 2 g N f) {i : Nat} (hi : i < N) : (∃ a b, w.cell? ⟨g, i * 2, none⟩ = Option.some a ∧ w.cell? ⟨g, i * 2 + 1, none⟩ = Option.some b) ∧ w.frozen? ⟨g, i * 2, none⟩ = false ∧ w.frozen? ⟨g, i * 2 + 1, none⟩ = false := by
  obtain ⟨a, ha⟩ := h.some hi (x := 0) (by decide)
  obtain ⟨b, hb⟩ := h.some hi (x := 1) (by decide)
  exact ⟨⟨a, b, ha, hb⟩, h.frozen _, h.frozen _⟩
theorem RowL.three {w : World} {e g N : Nat} {f : Nat → List Value} (h : RowL w e 3 g N f) {i : Nat} (hi : i < N) : (∃ a b c, w.cell? ⟨g, i * 3, none⟩ = Option.some a ∧ w.cell? ⟨g, i * 3 + 1, none⟩ = Option.some b ∧ w.cell? ⟨g, i * 3 + 2, none⟩ = Option.some c) ∧ w.frozen? ⟨g, i * 3, none⟩ = false ∧ w.frozen? ⟨g, i * 3 + 1, none⟩ = false ∧ w.frozen? ⟨g, i * 3 + 2, none⟩ = false := by
  obtain ⟨a, ha⟩ := h.some hi (x := 0) (by decide)
  obtain ⟨b, hb⟩ := h.some hi (x := 1) (by decide)
  obtain ⟨c, hc⟩ := h.some hi (x := 2) (by decide)
  exact ⟨⟨a, b, c, ha, hb, hc⟩, h.frozen _, h.frozen _, h.frozen _⟩
/-- A write into a block above leaves a row as it was. -/
theorem RowL.far {U : World} {e k g N : Nat} {f : Nat → List Value} (h : RowL U e k g N f) {b : Nat} (hb : b ≠ g) (o : Nat) (v : Value) : RowL (U.setCell ⟨b, o, none⟩ v) e k g N f := h.on (Below.heap_setCell _ _ _ _ (fun q => hb q.symm))
/-- 'make' with room behind the length. -/
theorem wpList_make_room {P : Program} (w : World) {ops : Array Oper} {rest : List Oper} {o : Oper} {a : Act} {Q : Exit → Act → World → Prop}
    (hg : o.guard = none) (l c : Operand) (t : TypeId) (hop : o.op = Op.makeSlice t l c)
    (e : TypeId) (i : TypeInfo) (z : Value) (size : Nat) (h1 : P.underlying t = some (.slice e)) (h2 : P.info? e = some i) (h3 : i.zero = some z) (h4 : i.size = size)
    (kl kc : IntKind) (L C : Int) (n m : Nat) (hl : a.eval l = .int kl L) (hc : a.eval c = .int kc C) (hL : L = (n : Int)) (hC : C = (m : Int)) (b1 : n ≤ m) (b2 : i.bytes * m ≤ 281474976710656) (b3 : m ≤ maxLen)
    (hK : ∀ w' g, g = w.heap.size → w'.heap.size = w.heap.size + 1 → Below w.heap.size w w' → (∃ f, RowL w' e size g m f) → wpList P ops Q rest (a.put o.dst (.slice (some ⟨g, 0, none⟩) n m)) w') :
    wpList P ops Q (o :: rest) a w := by
  refine wpList_plain hg fun K hK' => ?_
  subst hL
  subst hC
  subst h4
  have h63' : (m : Int) ≤ 9223372036854775807 := by
    have h := b3
    simp [maxLen] at h
    omega
  have hb' : (i.bytes : Int) * (m : Int) ≤ 281474976710656 := by
    have h : ((i.bytes * m : Nat) : Int) ≤ 281474976710656 := by omega
    rwa [Int.natCast_mul] at h
  have hrun := run_make (P := P) w t e i z h1 h2 h3 kl kc n m (by omega) (by omega) hb' h63'
  simp only [Int.toNat_natCast] at hrun
  unfold Oper.wp
  simp [execOp, hop, hl, hc, hrun, Result.andThen]
  refine hK' _ _ (hK _ _ rfl (by simp) ((Below.refl _ _).alloc (Nat.le_refl _) _) (RowL.made (cur := madeCells z.cells (m * i.size)) ?_ (size_madeCells _ _)))
  show (w.heap.push _)[w.heap.size]? = _
  simp
def behindB : Byt := [98, 101, 104, 105, 110, 100]
theorem mark_at {f : Nat → List Value} {F : Nat → List Value} {j : Nat} {cs : List Value} (h : ∀ i, i < j → f i = F i) (hc : cs = F j) : ∀ i, i < j + 1 → (if i = j then cs else f i) = F i := fun i hi => by
  by_cases e : i = j
  · rw [if_pos e, hc, e]
  · rw [if_neg e]
    exact h i (by omega)
theorem mark_on {f : Nat → List Value} {F : Nat → List Value} {j : Nat} {cs : List Value} (h : ∀ i, i < j → f i = F i) : ∀ i, i < j → (if i = j then cs else f i) = F i := fun i hi => by
  rw [if_neg (by omega)]
  exact h i hi
def shpC (l : List Shp) (i : Nat) : List Value := match l[i]? with
  | some s => [.string ⟨s.1.toArray⟩, .int .i64 s.2]
  | none => [.string ⟨behindB.toArray⟩, .int .i64 0]
def insL (l : List Ins) (i : Nat) : List Value := match l[i]? with
  | some x => [.int .i64 x.1, .int .i64 x.2.1, .int .i64 x.2.2]
  | none => [.int .i64 (-77), .int .i64 0, .int .i64 0]
def glbC (G : Nat) (l : List Glb) (i : Nat) : List Value := match l[i]? with
  | some g => [.string ⟨g.1.toArray⟩, .int .i64 g.2.1, .slice (some ⟨G + 1 + i, 0, none⟩) g.2.2.length (g.2.2.length + 2)]
  | none => [.string ⟨behindB.toArray⟩, .int .i64 0, .slice none 0 0]
theorem shpC_in {l : List Shp} {i : Nat} (h : i < l.length) : shpC l i = [.string ⟨l[i].1.toArray⟩, .int .i64 l[i].2] := by
  unfold shpC
  rw [List.getElem?_eq_getElem h]
theorem shpC_out {l : List Shp} {i : Nat} (h : l.length ≤ i) : shpC l i = [.string ⟨#[98, 101, 104, 105, 110, 100]⟩, .int .i64 0] := by
  unfold shpC
  rw [List.getElem?_eq_none h]
  rfl
theorem insL_in {l : List Ins} {i : Nat} (h : i < l.length) : insL l i = [.int .i64 l[i].1, .int .i64 l[i].2.1, .int .i64 l[i].2.2] := by
  unfold insL
  rw [List.getElem?_eq_getElem h]
theorem insL_out {l : List Ins} {i : Nat} (h : l.length ≤ i) : insL l i = [.int .i64 (-77), .int .i64 0, .int .i64 0] := by
  unfold insL
  rw [List.getElem?_eq_none h]
theorem glbC_in {G : Nat} {l : List Glb} {i : Nat} (h : i < l.length) : glbC G l i = [.string ⟨l[i].1.toArray⟩, .int .i64 l[i].2.1, .slice (some ⟨G + 1 + i, 0, none⟩) l[i].2.2.length (l[i].2.2.length + 2)] := by
  unfold glbC
  rw [List.getElem?_eq_getElem h]
theorem glbC_out {G : Nat} {l : List Glb} {i : Nat} (h : l.length ≤ i) : glbC G l i = [.string ⟨#[98, 101, 104, 105, 110, 100]⟩, .int .i64 0, .slice none 0 0] := by
  unfold glbC
  rw [List.getElem?_eq_none h]
  rfl
/-- A table that was lent: its rows, and two marks behind each. -/
structure LentT (w : World) (A G : Nat) (t : Tab) : Prop where
  shp : RowL w 48 2 A (t.1.length + 2) (shpC t.1)
  glb : RowL w 51 3 G (t.2.length + 2) (glbC G t.2)
  cod : ∀ i (h : i < t.2.length), RowL w 53 3 (G + 1 + i) (t.2[i].2.2.length + 2) (insL t.2[i].2.2)
  ag : A < G
/-- How long the rows of a table that is lent may be. -/
structure Room (t : Tab) : Prop where
  shp : t.1.length ≤ 5864062014700
  glb : t.2.length ≤ 2932031007400
  cod : ∀ g ∈ t.2, g.2.2.length ≤ 5864062014700
  sn : ∀ s ∈ t.1, s.1.length < 140737488355328
  gn : ∀ g ∈ t.2, g.1.length < 140737488355328
theorem LentT.below {w w' : World} {A G : Nat} {t : Tab} (h : LentT w A G t) (hb : Below w.heap.size w w') : LentT w' A G t := ⟨h.shp.below hb h.shp.lt, h.glb.below hb h.glb.lt, fun i hi => (h.cod i hi).below hb (h.cod i hi).lt, h.ag⟩
theorem LentT.code {w : World} {A G : Nat} {t : Tab} (h : LentT w A G t) {i : Nat} (hi : i < t.2.length) : RowE EIns w (fun y => y < w.heap.size) (fun _ => False) (.slice (some ⟨G + 1 + i, 0, none⟩) t.2[i].2.2.length (t.2[i].2.2.length + 2)) t.2[i].2.2 := by
  have hc := h.cod i hi
  refine rowK_at (by omega) fun j hj => ⟨hc.lt, _, rfl, fun x hx => ?_⟩
  have hx3 : x < 3 := hx
  have h1 := hc.cell (i := j) (x := x) (by omega) hx3
  have e : insL t.2[i].2.2 j = [.int .i64 t.2[i].2.2[j].1, .int .i64 t.2[i].2.2[j].2.1, .int .i64 t.2[i].2.2[j].2.2] := by
    unfold insL
    rw [List.getElem?_eq_getElem hj]
  rw [e] at h1
  rw [← h1]
  rw [Nat.zero_add]
  rfl
theorem LentT.tab {w : World} {A G : Nat} {t : Tab} (h : LentT w A G t) (hr : Room t) : TabV w (fun y => y < w.heap.size) (.slice (some ⟨A, 0, none⟩) t.1.length (t.1.length + 2)) (.slice (some ⟨G, 0, none⟩) t.2.length (t.2.length + 2)) t := by
  have r1 := hr.shp
  have r2 := hr.glb
  refine ⟨rowK_at (by omega) fun j hj => ⟨h.shp.lt, _, ⟨rfl, hr.sn _ (List.getElem_mem hj)⟩, fun x hx => ?_⟩, rowK_at (by omega) fun j hj => ⟨h.glb.lt, _, ⟨_, rfl, hr.gn _ (List.getElem_mem hj), ?_, h.code hj⟩, fun x hx => ?_⟩, by omega, by omega⟩
  · have hx3 : x < 2 := hx
    have h1 := h.shp.cell (i := j) (x := x) (by omega) hx3
    have e : shpC t.1 j = [.string ⟨t.1[j].1.toArray⟩, .int .i64 t.1[j].2] := by
      unfold shpC
      rw [List.getElem?_eq_getElem hj]
    rw [e] at h1
    rw [← h1, Nat.zero_add]
    rfl
  · have := hr.cod _ (List.getElem_mem hj)
    omega
  · have hx3 : x < 3 := hx
    have h1 := h.glb.cell (i := j) (x := x) (by omega) hx3
    have e : glbC G t.2 j = [.string ⟨t.2[j].1.toArray⟩, .int .i64 t.2[j].2.1, .slice (some ⟨G + 1 + j, 0, none⟩) t.2[j].2.2.length (t.2[j].2.2.length + 2)] := by
      unfold glbC
      rw [List.getElem?_eq_getElem hj]
    rw [e] at h1
    rw [← h1, Nat.zero_add]
    rfl
end Go.Proofs.YtlpnegnpejpdkaaGreatDoor

namespace Go.Proofs.YtlpnegnpejpdkaaGreatDoor
open Go.RowKit

set_option maxHeartbeats 16000000 in
set_option maxRecDepth 10000 in
theorem kept_any {w : World} {A G : Nat} {t : Tab} (h : LentT w A G t) (hr : Room t) : Calls Tryz.prog 14 #[.agg #[.slice (some ⟨A, 0, none⟩) t.1.length (t.1.length + 2), .slice (some ⟨G, 0, none⟩) t.2.length (t.2.length + 2)]] w fun r w' => r = .returned (.bool true) ∧ Hid (Below w.heap.size w w') := by
  obtain ⟨X, hX⟩ : ∃ X, X = w.heap.size := ⟨_, rfl⟩
  obtain ⟨ns, hns⟩ : ∃ n, n = t.1.length := ⟨_, rfl⟩
  obtain ⟨ng, hng⟩ : ∃ n, n = t.2.length := ⟨_, rfl⟩
  obtain ⟨W, hW⟩ : ∃ W, W = w.alloc (.cells #[.slice (some ⟨A, 0, none⟩) ns (ns + 2), .slice (some ⟨G, 0, none⟩) ng (ng + 2)] 25) := ⟨_, rfl⟩
  have hBW : Below w.heap.size w W := by rw [hW]; exact (Below.refl _ _).alloc (Nat.le_refl _) _
  have hXW : W.heap[X]? = some (.cells #[.slice (some ⟨A, 0, none⟩) ns (ns + 2), .slice (some ⟨G, 0, none⟩) ng (ng + 2)] 25 (0, 0)) := by rw [hW, hX]; exact new_blk _ _
  have x0 : W.cell? ⟨X, 0, none⟩ = some (.slice (some ⟨A, 0, none⟩) ns (ns + 2)) := heap_cl hXW rfl
  have x1 : W.cell? ⟨X, 1, none⟩ = some (.slice (some ⟨G, 0, none⟩) ng (ng + 2)) := heap_cl hXW rfl
  have hL := h.below hBW
  have a0 : W.cell? ⟨A, ns * 2, none⟩ = some (.string ⟨#[98, 101, 104, 105, 110, 100]⟩) := by
    have q := hL.shp.cell (i := ns) (x := 0) (by omega) (by decide)
    rw [shpC_out (by omega)] at q
    exact q
  have a1 : W.cell? ⟨A, (ns + 1) * 2, none⟩ = some (.string ⟨#[98, 101, 104, 105, 110, 100]⟩) := by
    have q := hL.shp.cell (i := ns + 1) (x := 0) (by omega) (by decide)
    rw [shpC_out (by omega)] at q
    exact q
  have g0 : W.cell? ⟨G, ng * 3, none⟩ = some (.string ⟨#[98, 101, 104, 105, 110, 100]⟩) := by
    have q := hL.glb.cell (i := ng) (x := 0) (by omega) (by decide)
    rw [glbC_out (by omega)] at q
    exact q
  have g1 : W.cell? ⟨G, (ng + 1) * 3, none⟩ = some (.string ⟨#[98, 101, 104, 105, 110, 100]⟩) := by
    have q := hL.glb.cell (i := ng + 1) (x := 0) (by omega) (by decide)
    rw [glbC_out (by omega)] at q
    exact q
  have HAT : Hid (∀ i, i < ng → ∃ n, n ≤ 5864062014700 ∧ W.cell? ⟨G, i * 3 + 2, none⟩ = some (.slice (some ⟨G + 1 + i, 0, none⟩) n (n + 2)) ∧ W.cell? ⟨G + 1 + i, n * 3, none⟩ = some (.int .i64 (-77)) ∧ W.cell? ⟨G + 1 + i, (n + 1) * 3, none⟩ = some (.int .i64 (-77))) := fun i hi => by
    have hi2 : i < t.2.length := by omega
    refine ⟨t.2[i].2.2.length, hr.cod _ (List.getElem_mem hi2), ?_, ?_, ?_⟩
    · have q := hL.glb.cell (i := i) (x := 2) (by omega) (by decide)
      rw [glbC_in hi2] at q
      exact q
    · have q := (hL.cod i hi2).cell (i := t.2[i].2.2.length) (x := 0) (by omega) (by decide)
      rw [insL_out (Nat.le_refl _)] at q
      exact q
    · have q := (hL.cod i hi2).cell (i := t.2[i].2.2.length + 1) (x := 0) (by omega) (by decide)
      rw [insL_out (by omega)] at q
      exact q
  have r1 : ns ≤ 5864062014700 := by rw [hns]; exact hr.shp
  have r2 : ng ≤ 2932031007400 := by rw [hng]; exact hr.glb
  have HXE : Hid (X = w.heap.size) := hX
  have HBW : Hid (Below w.heap.size w W) := hBW
  rw [← hns, ← hng]
  have s1 : (ns : Int) + 2 ≤ ((ns + 2 : Nat) : Int) := by omega
  have s2 : (ng : Int) + 2 ≤ ((ng + 2 : Nat) : Int) := by omega
  have s3 : (ns : Int) < ((ns + 2 : Nat) : Int) := by omega
  have s4 : (ng : Int) < ((ng + 2 : Nat) : Int) := by omega
  have s5 : (ns : Int) + 1 < ((ns + 2 : Nat) : Int) := by omega
  have s6 : (ng : Int) + 1 < ((ng + 2 : Nat) : Int) := by omega
  clear hX hBW hXW hns hng hL h hr
  go_enter Tryz.func14, Tryz.ntmps14
  go_upto_region 1 with fail
  rw [← hW, ← HXE.out]
  clear hW
  go_upto_region 7 with fail
  clear a0 a1 g0 g1 s1 s2 s3 s4 s5 s6
  go_upto_region 8 with fail
  go_loopw [7, 8, 9] (fun iv _ _ wr => ∃ i : Nat, i ≤ ng ∧ iv = .int .i64 i ∧ wr = W) (fun iv _ _ _ => ng - (intOf iv).toNat)
  case atStart => exact ⟨0, by omega, by go_num, rfl⟩
  case round =>
    obtain ⟨i, hi, rfl, rfl⟩ := hrel
    by_cases hin : i < ng
    · obtain ⟨n, hn5, c2, m0, m1⟩ := HAT.out i hin
      have i1 : (0 : Int) ≤ (i : Int) := by omega
      have i2 : (i : Int) < (ng : Int) := by omega
      have s1 : (n : Int) + 2 ≤ ((n + 2 : Nat) : Int) := by omega
      have s3 : (n : Int) < ((n + 2 : Nat) : Int) := by omega
      have s5 : (n : Int) + 1 < ((n + 2 : Nat) : Int) := by omega
      go_wp2
      go_roundw
      case rel => exact ⟨i + 1, hin, by go_num, by first | rfl | trivial⟩
      case measure => simp [intOf]; omega
    · have e3 : ¬ ((i : Int) < (ng : Int)) := by omega
      go_wp2
      go_ret
      exact ⟨rfl, HBW.out⟩
end Go.Proofs.YtlpnegnpejpdkaaGreatDoor

namespace Go.Proofs.YtlpnegnpejpdkaaGreatDoor
open Go.RowKit

def turnT (t : Tab) (i k : Nat) (x : Ins) : Tab := (t.1, t.2.modify i fun g => (g.1, g.2.1, g.2.2.set k x))
theorem turnT_len (t : Tab) (i k : Nat) (x : Ins) : (turnT t i k x).2.length = t.2.length := by simp [turnT]
theorem turnT_at {t : Tab} {i k j : Nat} {x : Ins} (hj : j < (turnT t i k x).2.length) (hj2 : j < t.2.length) : (turnT t i k x).2[j] = if i = j then (t.2[j].1, t.2[j].2.1, t.2[j].2.2.set k x) else t.2[j] := by
  simp only [turnT, List.getElem_modify]
theorem insL_set {l : List Ins} {k : Nat} {x : Ins} (hk : k < l.length) (y : Nat) : insL (l.set k x) y = if y = k then [.int .i64 x.1, .int .i64 x.2.1, .int .i64 x.2.2] else insL l y := by
  unfold insL
  by_cases e : y = k
  · subst e
    rw [List.getElem?_set_self hk, if_pos rfl]
  · rw [List.getElem?_set_ne (fun z => e z.symm), if_neg e]
/-- A number of an instruction is written. -/
theorem LentT.turn {w : World} {A G : Nat} {t : Tab} (h : LentT w A G t) {i k : Nat} (hi : i < t.2.length) (hk : k < t.2[i].2.2.length) (a : Int) : LentT (w.setCell ⟨G + 1 + i, k * 3 + 1, none⟩ (.int .i64 a)) A G (turnT t i k (t.2[i].2.2[k].1, a, t.2[i].2.2[k].2.2)) := by
  have hl := turnT_len t i k (t.2[i].2.2[k].1, a, t.2[i].2.2[k].2.2)
  have hag := h.ag
  refine ⟨h.shp.far (by omega) _ _, ?_, fun j hj => ?_, hag⟩
  · rw [hl]
    refine (h.glb.far (by omega) _ _).congr fun j hj => ?_
    by_cases hjl : j < t.2.length
    · rw [glbC_in (by rw [hl]; exact hjl), glbC_in hjl, turnT_at (by rw [hl]; exact hjl) hjl]
      by_cases e : i = j
      · subst e
        simp
      · rw [if_neg e]
    · rw [glbC_out (by rw [hl]; omega), glbC_out (by omega)]
  · have hjl : j < t.2.length := by rw [hl] at hj; exact hj
    rw [turnT_at hj hjl]
    by_cases e : i = j
    · subst e
      rw [if_pos rfl, List.length_set]
      refine ((h.cod i hjl).one (i := k) (x := 1) (by omega) (by decide) (.int .i64 a)).congr fun y hy => ?_
      rw [insL_set hk, insL_in hk]
      rfl
    · rw [if_neg e]
      exact (h.cod j hjl).far (by omega) _ _
theorem turnT_room {t : Tab} (h : Room t) (i k : Nat) (x : Ins) : Room (turnT t i k x) := by
  have hall : ∀ g ∈ (turnT t i k x).2, ∃ g' ∈ t.2, g.1 = g'.1 ∧ g.2.2.length = g'.2.2.length := fun g hg => by
    obtain ⟨j, hj, rfl⟩ := List.getElem_of_mem hg
    have hjl : j < t.2.length := by rw [turnT_len] at hj; exact hj
    refine ⟨t.2[j], List.getElem_mem hjl, ?_⟩
    rw [turnT_at hj hjl]
    by_cases e : i = j
    · rw [if_pos e]; exact ⟨rfl, List.length_set⟩
    · rw [if_neg e]; exact ⟨rfl, rfl⟩
  refine ⟨h.shp, by rw [turnT_len]; exact h.glb, fun g hg => ?_, h.sn, fun g hg => ?_⟩
  · obtain ⟨g', h1, _, h2⟩ := hall g hg
    rw [h2]
    exact h.cod _ h1
  · obtain ⟨g', h1, h2, _⟩ := hall g hg
    rw [h2]
    exact h.gn _ h1
theorem turnT_small {t : Tab} (h : Small t) {i k : Nat} (hi : i < t.2.length) (hk : k < t.2[i].2.2.length) {a : Int} (ha : a < 9223372036854775808) : Small (turnT t i k (t.2[i].2.2[k].1, a, t.2[i].2.2[k].2.2)) := by
  intro g hg x hx
  obtain ⟨j, hj, rfl⟩ := List.getElem_of_mem hg
  have hjl : j < t.2.length := by rw [turnT_len] at hj; exact hj
  rw [turnT_at hj hjl] at hx
  by_cases e : i = j
  · subst e
    rw [if_pos rfl] at hx
    rcases List.mem_or_eq_of_mem_set hx with hx | hx
    · exact h _ (List.getElem_mem hi) x hx
    · rw [hx]
      exact ⟨ha, (h _ (List.getElem_mem hi) _ (List.getElem_mem hk)).2⟩
  · rw [if_neg e] at hx
    exact h _ (List.getElem_mem hjl) x hx
def lastT (t : Tab) (i : Nat) (c : List Ins) : Tab := (t.1, t.2.modify i fun g => (g.1, g.2.1, c))
/-- A global is given the code of another one. -/
theorem LentT.last {w : World} {A G : Nat} {t : Tab} (h : LentT w A G t) (hr : Room t) {i q : Nat} (hi : i < t.2.length) (hq : q < t.2.length) : TabV (w.setCell ⟨G, i * 3 + 2, none⟩ (.slice (some ⟨G + 1 + q, 0, none⟩) t.2[q].2.2.length (t.2[q].2.2.length + 2))) (fun y => y < (w.setCell ⟨G, i * 3 + 2, none⟩ (.slice (some ⟨G + 1 + q, 0, none⟩) t.2[q].2.2.length (t.2[q].2.2.length + 2))).heap.size) (.slice (some ⟨A, 0, none⟩) t.1.length (t.1.length + 2)) (.slice (some ⟨G, 0, none⟩) t.2.length (t.2.length + 2)) (lastT t i t.2[q].2.2) := by
  obtain ⟨W, hW⟩ : ∃ W, W = w.setCell ⟨G, i * 3 + 2, none⟩ (.slice (some ⟨G + 1 + q, 0, none⟩) t.2[q].2.2.length (t.2[q].2.2.length + 2)) := ⟨_, rfl⟩
  have hs : W.heap.size = w.heap.size := by rw [hW]; simp [World.setCell]
  have hag := h.ag
  have hG : RowL W 51 3 G (t.2.length + 2) (fun y => if y = i then (glbC G t.2 i).set 2 (.slice (some ⟨G + 1 + q, 0, none⟩) t.2[q].2.2.length (t.2[q].2.2.length + 2)) else glbC G t.2 y) := by rw [hW]; exact h.glb.one (i := i) (x := 2) (by omega) (by decide) _
  have hA : RowL W 48 2 A (t.1.length + 2) (shpC t.1) := by rw [hW]; exact h.shp.far (by omega) _ _
  have hC : ∀ j (hj : j < t.2.length), RowE EIns W (fun y => y < W.heap.size) (fun _ => False) (.slice (some ⟨G + 1 + j, 0, none⟩) t.2[j].2.2.length (t.2[j].2.2.length + 2)) t.2[j].2.2 := fun j hj => by
    have hc : RowL W 53 3 (G + 1 + j) (t.2[j].2.2.length + 2) (insL t.2[j].2.2) := by rw [hW]; exact (h.cod j hj).far (by omega) _ _
    refine rowK_at (by omega) fun k hk => ⟨hc.lt, _, rfl, fun x hx => ?_⟩
    have hx3 : x < 3 := hx
    have h1 := hc.cell (i := k) (x := x) (by omega) hx3
    rw [insL_in hk] at h1
    rw [← h1, Nat.zero_add]
    rfl
  rw [← hW]
  have r1 := hr.shp
  have r2 := hr.glb
  have hl : (lastT t i t.2[q].2.2).2.length = t.2.length := by simp [lastT]
  refine ⟨rowK_at (by omega) fun j hj => ⟨hA.lt, _, ⟨rfl, hr.sn _ (List.getElem_mem hj)⟩, fun x hx => ?_⟩, ?_, by show t.1.length < _; omega, by rw [hl]; omega⟩
  · have hx3 : x < 2 := hx
    have h1 := hA.cell (i := j) (x := x) (by omega) hx3
    have e : shpC t.1 j = [.string ⟨t.1[j].1.toArray⟩, .int .i64 t.1[j].2] := shpC_in hj
    rw [e] at h1
    rw [← h1, Nat.zero_add]
    rfl
  · rw [← hl]
    refine rowK_at (by omega) fun j hj => ?_
    have hjl : j < t.2.length := by rw [hl] at hj; exact hj
    have e : (lastT t i t.2[q].2.2).2[j] = if i = j then (t.2[j].1, t.2[j].2.1, t.2[q].2.2) else t.2[j] := by simp only [lastT, List.getElem_modify]
    rw [e]
    have hcell : ∀ x, x < 3 → W.cell? ⟨G, j * 3 + x, none⟩ = ((if j = i then (glbC G t.2 i).set 2 (.slice (some ⟨G + 1 + q, 0, none⟩) t.2[q].2.2.length (t.2[q].2.2.length + 2)) else glbC G t.2 j) : List Value)[x]? := fun x hx => hG.cell (i := j) (x := x) (by omega) hx
    by_cases e1 : i = j
    · subst e1
      rw [if_pos rfl]
      have hm := hr.cod _ (List.getElem_mem hq)
      refine ⟨hG.lt, _, ⟨.slice (some ⟨G + 1 + q, 0, none⟩) t.2[q].2.2.length (t.2[q].2.2.length + 2), rfl, hr.gn t.2[i] (List.getElem_mem hi), by show t.2[q].2.2.length < _; omega, hC q hq⟩, fun x hx => ?_⟩
      have hx3 : x < 3 := hx
      have h1 := hcell x hx3
      rw [if_pos rfl, glbC_in hi] at h1
      rw [Nat.zero_add]
      exact h1
    · rw [if_neg e1]
      have hm := hr.cod _ (List.getElem_mem hjl)
      refine ⟨hG.lt, _, ⟨.slice (some ⟨G + 1 + j, 0, none⟩) t.2[j].2.2.length (t.2[j].2.2.length + 2), rfl, hr.gn _ (List.getElem_mem hjl), by omega, hC j hjl⟩, fun x hx => ?_⟩
      have hx3 : x < 3 := hx
      have h1 := hcell x hx3
      rw [if_neg (fun z => e1 z.symm), glbC_in hjl] at h1
      rw [Nat.zero_add]
      exact h1
theorem lastT_small {t : Tab} (h : Small t) {i q : Nat} (hq : q < t.2.length) : Small (lastT t i t.2[q].2.2) := by
  intro g hg x hx
  obtain ⟨j, hj, rfl⟩ := List.getElem_of_mem hg
  have hjl : j < t.2.length := by simpa [lastT] using hj
  have e : (lastT t i t.2[q].2.2).2[j] = if i = j then (t.2[j].1, t.2[j].2.1, t.2[q].2.2) else t.2[j] := by simp only [lastT, List.getElem_modify]
  rw [e] at hx
  by_cases e1 : i = j
  · rw [if_pos e1] at hx
    exact h _ (List.getElem_mem hq) x hx
  · rw [if_neg e1] at hx
    exact h _ (List.getElem_mem hjl) x hx
theorem xor_small (a b : Int) : bits .xor .i64 a b < 9223372036854775808 := by
  unfold bits
  simp only [IntKind.wrap_i64]
  omega
theorem lastT_len (t : Tab) (i : Nat) (c : List Ins) : (lastT t i c).2.length = t.2.length := by simp [lastT]
/-- What turn leaves as it was: all blocks below the table's, and all but its globals and codes. -/
def FarT (w wr : World) (A G ng : Nat) : Prop := Below A w wr ∧ ∀ y, y < w.heap.size → y < G ∨ G + ng < y → wr.heap[y]? = w.heap[y]?
theorem FarT.set {w wr : World} {A G ng : Nat} (h : FarT w wr A G ng) {b : Nat} (hA : A < G) (h1 : G ≤ b) (h2 : b ≤ G + ng) (o : Nat) (v : Value) : FarT w (wr.setCell ⟨b, o, none⟩ v) A G ng := ⟨h.1.setCell (by show A ≤ b; omega) _, fun y hy hf => (Below.heap_setCell _ _ _ _ (by show y ≠ b; omega)).trans (h.2 y hy hf)⟩
/-- Between the writes of turn. -/
structure TnO (w wr : World) (X A G ns ng : Nat) : Prop where
  box : wr.heap[X]? = some (.cells #[.slice (some ⟨A, 0, none⟩) ns (ns + 2), .slice (some ⟨G, 0, none⟩) ng (ng + 2)] 25 (0, 0))
  bel : FarT w wr A G ng
  tab : ∃ t : Tab, t.1.length = ns ∧ t.2.length = ng ∧ LentT wr A G t ∧ Room t ∧ Small t
/-- The same within a code of l instructions. -/
structure TnW (w wr : World) (X A G ns ng i l : Nat) : Prop where
  box : wr.heap[X]? = some (.cells #[.slice (some ⟨A, 0, none⟩) ns (ns + 2), .slice (some ⟨G, 0, none⟩) ng (ng + 2)] 25 (0, 0))
  bel : FarT w wr A G ng
  tab : ∃ t : Tab, t.1.length = ns ∧ t.2.length = ng ∧ LentT wr A G t ∧ Room t ∧ Small t ∧ ∃ h : i < t.2.length, t.2[i].2.2.length = l
theorem TnO.within {w wr : World} {X A G ns ng i : Nat} (h : TnO w wr X A G ns ng) (hi : i < ng) : ∃ l, l ≤ 5864062014700 ∧ TnW w wr X A G ns ng i l := by
  obtain ⟨t, h1, h2, h3, h4, h5⟩ := h.tab
  exact ⟨t.2[i].2.2.length, h4.cod _ (List.getElem_mem _), h.box, h.bel, t, h1, h2, h3, h4, h5, by omega, rfl⟩
theorem TnW.out {w wr : World} {X A G ns ng i l : Nat} (h : TnW w wr X A G ns ng i l) : TnO w wr X A G ns ng := by
  obtain ⟨t, h1, h2, h3, h4, h5, _⟩ := h.tab
  exact ⟨h.box, h.bel, t, h1, h2, h3, h4, h5⟩
theorem TnO.drew {w wr : World} {X A G ns ng : Nat} (h : TnO w wr X A G ns ng) : TnO w wr.drew X A G ns ng := by
  obtain ⟨t, h1, h2, h3, h4, h5⟩ := h.tab
  exact ⟨h.box, ⟨h.bel.1.drew, h.bel.2⟩, t, h1, h2, h3.below (Below.refl _ _).drew, h4, h5⟩
theorem TnW.drew {w wr : World} {X A G ns ng i l : Nat} (h : TnW w wr X A G ns ng i l) : TnW w wr.drew X A G ns ng i l := by
  obtain ⟨t, h1, h2, h3, h4, h5⟩ := h.tab
  exact ⟨h.box, ⟨h.bel.1.drew, h.bel.2⟩, t, h1, h2, h3.below (Below.refl _ _).drew, h4, h5⟩
theorem TnO.cells {w wr : World} {X A G ns ng : Nat} (h : TnO w wr X A G ns ng) : wr.cell? ⟨X, 0, none⟩ = some (.slice (some ⟨A, 0, none⟩) ns (ns + 2)) ∧ wr.cell? ⟨X, 1, none⟩ = some (.slice (some ⟨G, 0, none⟩) ng (ng + 2)) := ⟨heap_cl h.box rfl, heap_cl h.box rfl⟩
theorem TnW.row {w wr : World} {X A G ns ng i l : Nat} (h : TnW w wr X A G ns ng i l) : wr.cell? ⟨G, i * 3 + 2, none⟩ = some (.slice (some ⟨G + 1 + i, 0, none⟩) l (l + 2)) := by
  obtain ⟨t, h1, h2, h3, h4, h5, h6, h7⟩ := h.tab
  have q := h3.glb.cell (i := i) (x := 2) (by omega) (by decide)
  rw [glbC_in h6, h7] at q
  exact q
theorem TnW.at {w wr : World} {X A G ns ng i l k : Nat} (h : TnW w wr X A G ns ng i l) (hk : k < l) (hX : G + 1 + i < X) : ∃ op a : Int, wr.cell? ⟨G + 1 + i, k * 3, none⟩ = some (.int .i64 op) ∧ wr.cell? ⟨G + 1 + i, k * 3 + 1, none⟩ = some (.int .i64 a) ∧ wr.frozen? ⟨G + 1 + i, k * 3 + 1, none⟩ = false ∧
    ∀ a' : Int, a' < 9223372036854775808 → TnW w (wr.setCell ⟨G + 1 + i, k * 3 + 1, none⟩ (.int .i64 a')) X A G ns ng i l := by
  obtain ⟨t, h1, h2, h3, h4, h5, h6, h7⟩ := h.tab
  have hk2 : k < t.2[i].2.2.length := by omega
  have hag := h3.ag
  refine ⟨t.2[i].2.2[k].1, t.2[i].2.2[k].2.1, ?_, ?_, (h3.cod i h6).frozen _, fun a' ha => ⟨?_, h.bel.set hag (by omega) (by omega) _ _, turnT t i k (t.2[i].2.2[k].1, a', t.2[i].2.2[k].2.2), h1, by rw [turnT_len]; exact h2, h3.turn h6 hk2 a', turnT_room h4 _ _ _, turnT_small h5 h6 hk2 ha, by rw [turnT_len]; exact h6, ?_⟩⟩
  · have q := (h3.cod i h6).cell (i := k) (x := 0) (by omega) (by decide)
    rw [insL_in hk2] at q
    exact q
  · have q := (h3.cod i h6).cell (i := k) (x := 1) (by omega) (by decide)
    rw [insL_in hk2] at q
    exact q
  · rw [Below.heap_setCell _ _ _ _ (by show X ≠ G + 1 + i; omega)]
    exact h.box
  · rw [turnT_at (by rw [turnT_len]; exact h6) h6, if_pos rfl, List.length_set]
    exact h7
theorem TnO.two {w wr : World} {X A G ns ng i q : Nat} (h : TnO w wr X A G ns ng) (hi : i < ng) (hq : q < ng) : ∃ (ar aq : Int) (l : Nat) (v : Value), wr.cell? ⟨G, i * 3 + 1, none⟩ = some (.int .i64 ar) ∧ wr.cell? ⟨G, q * 3 + 1, none⟩ = some (.int .i64 aq) ∧ wr.cell? ⟨G, q * 3 + 2, none⟩ = some (.slice (some ⟨G + 1 + q, 0, none⟩) l (l + 2)) ∧ wr.cell? ⟨G, i * 3 + 2, none⟩ = some v ∧ wr.frozen? ⟨G, i * 3 + 2, none⟩ = false ∧
    FarT w (wr.setCell ⟨G, i * 3 + 2, none⟩ (.slice (some ⟨G + 1 + q, 0, none⟩) l (l + 2))) A G ng ∧ ∃ t', TabV (wr.setCell ⟨G, i * 3 + 2, none⟩ (.slice (some ⟨G + 1 + q, 0, none⟩) l (l + 2))) (fun y => y < (wr.setCell ⟨G, i * 3 + 2, none⟩ (.slice (some ⟨G + 1 + q, 0, none⟩) l (l + 2))).heap.size) (.slice (some ⟨A, 0, none⟩) ns (ns + 2)) (.slice (some ⟨G, 0, none⟩) ng (ng + 2)) t' ∧ Small t' := by
  obtain ⟨t, h1, h2, h3, h4, h5⟩ := h.tab
  have hi2 : i < t.2.length := by omega
  have hq2 : q < t.2.length := by omega
  have hag := h3.ag
  have hT := h3.last h4 hi2 hq2
  rw [h1, h2] at hT
  refine ⟨t.2[i].2.1, t.2[q].2.1, t.2[q].2.2.length, .slice (some ⟨G + 1 + i, 0, none⟩) t.2[i].2.2.length (t.2[i].2.2.length + 2), ?_, ?_, ?_, ?_, h3.glb.frozen _, h.bel.set hag (by omega) (by omega) _ _, _, hT, lastT_small h5 hq2⟩
  · have z := h3.glb.cell (i := i) (x := 1) (by omega) (by decide)
    rw [glbC_in hi2] at z
    exact z
  · have z := h3.glb.cell (i := q) (x := 1) (by omega) (by decide)
    rw [glbC_in hq2] at z
    exact z
  · have z := h3.glb.cell (i := q) (x := 2) (by omega) (by decide)
    rw [glbC_in hq2] at z
    exact z
  · have z := h3.glb.cell (i := i) (x := 2) (by omega) (by decide)
    rw [glbC_in hi2] at z
    exact z
theorem TnO.done {w wr : World} {X A G ns ng : Nat} (h : TnO w wr X A G ns ng) : FarT w wr A G ng ∧ ∃ t', TabV wr (fun y => y < wr.heap.size) (.slice (some ⟨A, 0, none⟩) ns (ns + 2)) (.slice (some ⟨G, 0, none⟩) ng (ng + 2)) t' ∧ Small t' := by
  obtain ⟨t, h1, h2, h3, h4, h5⟩ := h.tab
  have hT := h3.tab h4
  rw [h1, h2] at hT
  exact ⟨h.bel, t, hT, h5⟩
end Go.Proofs.YtlpnegnpejpdkaaGreatDoor

namespace Go.Proofs.YtlpnegnpejpdkaaGreatDoor
open Go.RowKit

set_option maxHeartbeats 16000000 in
set_option maxRecDepth 10000 in
theorem turn_any {w : World} {A G : Nat} {t : Tab} (h : LentT w A G t) (hr : Room t) (hs : Small t) : Calls Tryz.prog 15 #[.agg #[.slice (some ⟨A, 0, none⟩) t.1.length (t.1.length + 2), .slice (some ⟨G, 0, none⟩) t.2.length (t.2.length + 2)]] w fun r w' => r = .returned (.tuple #[]) ∧ Hid (FarT w w' A G t.2.length ∧ ∃ t', TabV w' (fun y => y < w'.heap.size) (.slice (some ⟨A, 0, none⟩) t.1.length (t.1.length + 2)) (.slice (some ⟨G, 0, none⟩) t.2.length (t.2.length + 2)) t' ∧ Small t') := by
  obtain ⟨X, hX⟩ : ∃ X, X = w.heap.size := ⟨_, rfl⟩
  obtain ⟨ns, hns⟩ : ∃ n, n = t.1.length := ⟨_, rfl⟩
  obtain ⟨ng, hng⟩ : ∃ n, n = t.2.length := ⟨_, rfl⟩
  obtain ⟨W, hW⟩ : ∃ W, W = w.alloc (.cells #[.slice (some ⟨A, 0, none⟩) ns (ns + 2), .slice (some ⟨G, 0, none⟩) ng (ng + 2)] 25) := ⟨_, rfl⟩
  have hBW : Below w.heap.size w W := by rw [hW]; exact (Below.refl _ _).alloc (Nat.le_refl _) _
  have hXW : W.heap[X]? = some (.cells #[.slice (some ⟨A, 0, none⟩) ns (ns + 2), .slice (some ⟨G, 0, none⟩) ng (ng + 2)] 25 (0, 0)) := by rw [hW, hX]; exact new_blk _ _
  have hA : A < w.heap.size := h.shp.lt
  have H0 : Hid (TnO w W X A G ns ng) := ⟨hXW, ⟨hBW.mono (by omega), fun y hy _ => hBW.block y hy⟩, t, hns.symm, hng.symm, h.below hBW, hr, hs⟩
  have HLT : Hid (∀ i, i < ng → G + 1 + i < X) := fun i hi => by rw [hX]; exact (h.cod i (by omega)).lt
  have r2 : ng ≤ 2932031007400 := by rw [hng]; exact hr.glb
  have HXE : Hid (X = w.heap.size) := hX
  obtain ⟨F, hF⟩ : ∃ F : Ending → World → Prop, F = fun r w' => r = .returned (.tuple #[]) ∧ Hid (FarT w w' A G t.2.length ∧ ∃ t', TabV w' (fun y => y < w'.heap.size) (.slice (some ⟨A, 0, none⟩) t.1.length (t.1.length + 2)) (.slice (some ⟨G, 0, none⟩) t.2.length (t.2.length + 2)) t' ∧ Small t') := ⟨_, rfl⟩
  rw [← hF]
  have HF : Hid (∀ w', (FarT w w' A G ng ∧ ∃ t', TabV w' (fun y => y < w'.heap.size) (.slice (some ⟨A, 0, none⟩) ns (ns + 2)) (.slice (some ⟨G, 0, none⟩) ng (ng + 2)) t' ∧ Small t') → F (.returned (.tuple #[])) w') := fun w' h1 => by
    rw [hns, hng] at h1
    rw [hF]
    exact ⟨rfl, h1⟩
  rw [← hns, ← hng]
  obtain ⟨x0, x1⟩ := H0.out.cells
  clear hX hBW hXW hns hng h hr hs hA hF x0
  go_enter Tryz.func15, Tryz.ntmps15
  go_upto_region 1 with fail
  rw [← hW, ← HXE.out]
  clear hW
  go_upto_region 3 with fail
  clear x1
  go_loopw [3, 4] (fun iv _ wr => ∃ i : Nat, i ≤ ng ∧ iv = .int .i64 i ∧ Hid (TnO w wr X A G ns ng)) (fun iv _ _ => ng - (intOf iv).toNat)
  case atStart => exact ⟨0, by omega, by go_num, H0.out⟩
  case round =>
    clear H0
    obtain ⟨i, hi, rfl, HR⟩ := hrel
    by_cases hin : i < ng
    · have i1 : (0 : Int) ≤ (i : Int) := by omega
      have i2 : (i : Int) < (ng : Int) := by omega
      obtain ⟨l, hl, h0⟩ := HR.out.within hin
      have H0 : Hid (TnW w wr X A G ns ng i l) := h0
      have hC : Hid (G + 1 + i < X) := HLT.out i hin
      clear HR h0
      go_upto_region 6 with fail
      go_loopw [4] (fun kv wr => ∃ k : Nat, k ≤ l ∧ kv = .int .i64 k ∧ Hid (TnW w wr X A G ns ng i l)) (fun kv _ => l - (intOf kv).toNat)
      case atStart => exact ⟨0, by omega, by go_num, H0.out⟩
      case round =>
        clear H0
        obtain ⟨k, hk, rfl, HK⟩ := hrel
        have x1 := HK.out.out.cells.2
        have c2 := HK.out.row
        by_cases hkl : k < l
        · have k1 : (0 : Int) ≤ (k : Int) := by omega
          have k2 : (k : Int) < (l : Int) := by omega
          obtain ⟨op, a, m0, m1, fz, hnew⟩ := HK.out.at hkl hC.out
          clear fz hnew
          by_cases h3 : op = 3
          case neg =>
            have e3 : (op == 3) = false := by simpa using h3
            go_wp2
            go_roundw
            case rel => exact ⟨k + 1, hkl, by go_num, HK.out⟩
            case measure => simp [intOf]; omega
          subst h3
          go_upto_region 9 with fail
          clear x1 c2 m0 m1
          obtain ⟨D, hD⟩ : ∃ D : World, D = wr.drew := ⟨_, rfl⟩
          have HD : Hid (TnW w D X A G ns ng i l) := by rw [hD]; exact HK.out.drew
          have x1 := HD.out.out.cells.2
          have c2 := HD.out.row
          obtain ⟨op2, a, _, m1, fz, hnew⟩ := HD.out.at hkl hC.out
          have HNEW : Hid (∀ a' : Int, a' < 9223372036854775808 → TnW w (D.setCell ⟨G + 1 + i, k * 3 + 1, none⟩ (.int .i64 a')) X A G ns ng i l) := hnew
          have hS0 : (fun w' : World => w'.cell? ⟨X, 1, none⟩ = some (.slice (some ⟨G, 0, none⟩) ng (ng + 2)) ∧ w'.cell? ⟨G, i * 3 + 2, none⟩ = some (.slice (some ⟨G + 1 + i, 0, none⟩) l (l + 2)) ∧ w'.cell? ⟨G + 1 + i, k * 3 + 1, none⟩ = some (.int .i64 a)) D := ⟨x1, c2, m1⟩
          clear x1 c2 hnew
          refine wp_region_M (S := (fun w' : World => w'.cell? ⟨X, 1, none⟩ = some (.slice (some ⟨G, 0, none⟩) ng (ng + 2)) ∧ w'.cell? ⟨G, i * 3 + 2, none⟩ = some (.slice (some ⟨G + 1 + i, 0, none⟩) l (l + 2)) ∧ w'.cell? ⟨G + 1 + i, k * 3 + 1, none⟩ = some (.int .i64 a))) (L := 20) (n := 21) (by kernel_rfl) rfl (by kernel_rfl) ?_
          rw [← hD]
          clear hD
          refine wpAnyK_go (i := 0) (m' := 1) (some 36) (v := .pointer (some ⟨X, 1, none⟩)) rfl rfl (by kernel_rfl) (by kernel_rfl) (by kernel_rfl) (by kernel_rfl) (by kernel_rfl) (fun _ _ _ h => h) (Or.inl ⟨by rfl, ?_⟩) hS0 ?_
          · intro w' hSw
            go_simp
          simp only [Act.put, List.setIfInBounds_toArray, List.set_cons_zero, List.set_cons_succ]
          refine wpAnyK_go (i := 1) (m' := 3) (some 37) (v := .slice (some ⟨G, 0, none⟩) ng (ng + 2)) rfl rfl (by kernel_rfl) (by kernel_rfl) (by kernel_rfl) (by kernel_rfl) (by kernel_rfl) (fun _ _ _ h => h) (Or.inl ⟨by rfl, ?_⟩) hS0 ?_
          · intro w' hSw
            obtain ⟨p1, p2, p3⟩ := hSw
            go_simp
          simp only [Act.put, List.setIfInBounds_toArray, List.set_cons_zero, List.set_cons_succ]
          refine wpAnyK_go (i := 2) (m' := 7) (some 38) (v := .int .i64 (i : Int)) rfl rfl (by kernel_rfl) (by kernel_rfl) (by kernel_rfl) (by kernel_rfl) (by kernel_rfl) (fun _ _ _ h => h) (Or.inl ⟨by rfl, ?_⟩) hS0 ?_
          · intro w' hSw
            go_simp
          simp only [Act.put, List.setIfInBounds_toArray, List.set_cons_zero, List.set_cons_succ]
          refine wpAnyK_go (i := 3) (m' := 15) (some 39) (v := .pointer (some ⟨G, i * 3, none⟩)) rfl rfl (by kernel_rfl) (by kernel_rfl) (by kernel_rfl) (by kernel_rfl) (by kernel_rfl) (fun _ _ _ h => h) (Or.inl ⟨by rfl, ?_⟩) hS0 ?_
          · intro w' hSw
            go_simp
          simp only [Act.put, List.setIfInBounds_toArray, List.set_cons_zero, List.set_cons_succ]
          refine wpAnyK_go (i := 4) (m' := 31) (some 40) (v := .pointer (some ⟨G, i * 3 + 2, none⟩)) rfl rfl (by kernel_rfl) (by kernel_rfl) (by kernel_rfl) (by kernel_rfl) (by kernel_rfl) (fun _ _ _ h => h) (Or.inl ⟨by rfl, ?_⟩) hS0 ?_
          · intro w' hSw
            go_simp
          simp only [Act.put, List.setIfInBounds_toArray, List.set_cons_zero, List.set_cons_succ]
          refine wpAnyK_go (i := 5) (m' := 63) (some 41) (v := .slice (some ⟨G + 1 + i, 0, none⟩) l (l + 2)) rfl rfl (by kernel_rfl) (by kernel_rfl) (by kernel_rfl) (by kernel_rfl) (by kernel_rfl) (fun _ _ _ h => h) (Or.inl ⟨by rfl, ?_⟩) hS0 ?_
          · intro w' hSw
            obtain ⟨p1, p2, p3⟩ := hSw
            go_simp
          simp only [Act.put, List.setIfInBounds_toArray, List.set_cons_zero, List.set_cons_succ]
          refine wpAnyK_go (i := 6) (m' := 127) (some 42) (v := .int .i64 (k : Int)) rfl rfl (by kernel_rfl) (by kernel_rfl) (by kernel_rfl) (by kernel_rfl) (by kernel_rfl) (fun _ _ _ h => h) (Or.inl ⟨by rfl, ?_⟩) hS0 ?_
          · intro w' hSw
            go_simp
          simp only [Act.put, List.setIfInBounds_toArray, List.set_cons_zero, List.set_cons_succ]
          refine wpAnyK_go (i := 7) (m' := 255) (some 43) (v := .pointer (some ⟨X, 1, none⟩)) rfl rfl (by kernel_rfl) (by kernel_rfl) (by kernel_rfl) (by kernel_rfl) (by kernel_rfl) (fun _ _ _ h => h) (Or.inl ⟨by rfl, ?_⟩) hS0 ?_
          · intro w' hSw
            go_simp
          simp only [Act.put, List.setIfInBounds_toArray, List.set_cons_zero, List.set_cons_succ]
          refine wpAnyK_go (i := 8) (m' := 511) (some 44) (v := .slice (some ⟨G, 0, none⟩) ng (ng + 2)) rfl rfl (by kernel_rfl) (by kernel_rfl) (by kernel_rfl) (by kernel_rfl) (by kernel_rfl) (fun _ _ _ h => h) (Or.inl ⟨by rfl, ?_⟩) hS0 ?_
          · intro w' hSw
            obtain ⟨p1, p2, p3⟩ := hSw
            go_simp
          simp only [Act.put, List.setIfInBounds_toArray, List.set_cons_zero, List.set_cons_succ]
          refine wpAnyK_go (i := 9) (m' := 1023) (some 45) (v := .int .i64 (i : Int)) rfl rfl (by kernel_rfl) (by kernel_rfl) (by kernel_rfl) (by kernel_rfl) (by kernel_rfl) (fun _ _ _ h => h) (Or.inl ⟨by rfl, ?_⟩) hS0 ?_
          · intro w' hSw
            go_simp
          simp only [Act.put, List.setIfInBounds_toArray, List.set_cons_zero, List.set_cons_succ]
          refine wpAnyK_go (i := 10) (m' := 2047) (some 46) (v := .pointer (some ⟨G, i * 3, none⟩)) rfl rfl (by kernel_rfl) (by kernel_rfl) (by kernel_rfl) (by kernel_rfl) (by kernel_rfl) (fun _ _ _ h => h) (Or.inl ⟨by rfl, ?_⟩) hS0 ?_
          · intro w' hSw
            go_simp
          simp only [Act.put, List.setIfInBounds_toArray, List.set_cons_zero, List.set_cons_succ]
          refine wpAnyK_go (i := 11) (m' := 4095) (some 47) (v := .pointer (some ⟨G, i * 3 + 2, none⟩)) rfl rfl (by kernel_rfl) (by kernel_rfl) (by kernel_rfl) (by kernel_rfl) (by kernel_rfl) (fun _ _ _ h => h) (Or.inl ⟨by rfl, ?_⟩) hS0 ?_
          · intro w' hSw
            go_simp
          simp only [Act.put, List.setIfInBounds_toArray, List.set_cons_zero, List.set_cons_succ]
          refine wpAnyK_go (i := 12) (m' := 8191) (some 48) (v := .slice (some ⟨G + 1 + i, 0, none⟩) l (l + 2)) rfl rfl (by kernel_rfl) (by kernel_rfl) (by kernel_rfl) (by kernel_rfl) (by kernel_rfl) (fun _ _ _ h => h) (Or.inl ⟨by rfl, ?_⟩) hS0 ?_
          · intro w' hSw
            obtain ⟨p1, p2, p3⟩ := hSw
            go_simp
          simp only [Act.put, List.setIfInBounds_toArray, List.set_cons_zero, List.set_cons_succ]
          refine wpAnyK_go (i := 13) (m' := 16383) (some 49) (v := .int .i64 (k : Int)) rfl rfl (by kernel_rfl) (by kernel_rfl) (by kernel_rfl) (by kernel_rfl) (by kernel_rfl) (fun _ _ _ h => h) (Or.inl ⟨by rfl, ?_⟩) hS0 ?_
          · intro w' hSw
            go_simp
          simp only [Act.put, List.setIfInBounds_toArray, List.set_cons_zero, List.set_cons_succ]
          refine wpAnyK_go (i := 14) (m' := 32767) (some 50) (v := .pointer (some ⟨G + 1 + i, k * 3, none⟩)) rfl rfl (by kernel_rfl) (by kernel_rfl) (by kernel_rfl) (by kernel_rfl) (by kernel_rfl) (fun _ _ _ h => h) (Or.inl ⟨by rfl, ?_⟩) hS0 ?_
          · intro w' hSw
            go_simp
          simp only [Act.put, List.setIfInBounds_toArray, List.set_cons_zero, List.set_cons_succ]
          refine wpAnyK_go (i := 15) (m' := 65535) (some 51) (v := .pointer (some ⟨G + 1 + i, k * 3 + 1, none⟩)) rfl rfl (by kernel_rfl) (by kernel_rfl) (by kernel_rfl) (by kernel_rfl) (by kernel_rfl) (fun _ _ _ h => h) (Or.inl ⟨by rfl, ?_⟩) hS0 ?_
          · intro w' hSw
            go_simp
          simp only [Act.put, List.setIfInBounds_toArray, List.set_cons_zero, List.set_cons_succ]
          refine wpAnyK_go (i := 16) (m' := 131071) (some 52) (v := .int .i64 a) rfl rfl (by kernel_rfl) (by kernel_rfl) (by kernel_rfl) (by kernel_rfl) (by kernel_rfl) (fun _ _ _ h => h) (Or.inl ⟨by rfl, ?_⟩) hS0 ?_
          · intro w' hSw
            obtain ⟨p1, p2, p3⟩ := hSw
            go_simp
          simp only [Act.put, List.setIfInBounds_toArray, List.set_cons_zero, List.set_cons_succ]
          refine wpAnyK_go (i := 17) (m' := 262143) (some 53) (v := .int .i64 (bits .xor .i64 a 1)) rfl rfl (by kernel_rfl) (by kernel_rfl) (by kernel_rfl) (by kernel_rfl) (by kernel_rfl) (fun _ _ _ h => h) (Or.inl ⟨by rfl, ?_⟩) hS0 ?_
          · intro w' hSw
            go_simp
          simp only [Act.put, List.setIfInBounds_toArray, List.set_cons_zero, List.set_cons_succ]
          refine wpAnyK_only (i := 18) (m' := 524287) (by kernel_rfl) rfl (by kernel_rfl) fun K hK => ?_
          go_simp
          refine hK.out _ _ (fun _ => hS0) ?_
          clear hK K
          try simp only [Act.put, List.setIfInBounds_toArray, List.set_cons_zero, List.set_cons_succ]
          refine wpAnyK_only (i := 19) (m' := 1048575) (by kernel_rfl) rfl (by kernel_rfl) fun K hK => ?_
          go_simp
          refine hK.out _ _ (fun _ => hS0) ?_
          clear hK K
          try simp only [Act.put, List.setIfInBounds_toArray, List.set_cons_zero, List.set_cons_succ]
          refine wpAnyK_only (i := 20) (m' := 2097151) (by kernel_rfl) rfl (by kernel_rfl) fun K hK => ?_
          go_simp
          refine hK.out _ _ (fun h => absurd h (by decide)) ?_
          clear hK K hS0 m1 fz
          have HN : Hid (TnW w (D.setCell ⟨G + 1 + i, k * 3 + 1, none⟩ (.int .i64 (bits .xor .i64 a 1))) X A G ns ng i l) := HNEW.out _ (xor_small _ _)
          generalize D.setCell ⟨G + 1 + i, k * 3 + 1, none⟩ (.int .i64 (bits .xor .i64 a 1)) = W9 at *
          refine wpAnyK_done (by kernel_rfl) ?_ _
          go_wp2
          go_roundw
          case rel => exact ⟨k + 1, hkl, by go_num, HN.out⟩
          case measure => simp [intOf]; omega
        · have e4 : ¬ (k : Int) < (l : Int) := by omega
          have HO : Hid (TnO w wr X A G ns ng) := HK.out.out
          clear HK
          go_wp2
          go_roundw
          case rel => exact ⟨i + 1, hin, by go_num, HO.out⟩
          case measure => simp [intOf]; omega
    · have e4 : ¬ (i : Int) < (ng : Int) := by omega
      clear hi hin
      go_upto_region 10 with fail
      clear e4
      go_upto_region 11 with fail
      clear HLT
      go_loopw [5] (fun iv wr => ∃ i : Nat, i ≤ ng ∧ iv = .int .i64 i ∧ Hid (TnO w wr X A G ns ng)) (fun iv _ => ng - (intOf iv).toNat)
      case atStart => exact ⟨0, by omega, by go_num, HR.out⟩
      case round =>
        clear HR
        obtain ⟨i, hi, rfl, HR⟩ := hrel
        by_cases hin : i < ng
        case neg =>
          have e4 : ¬ (i : Int) < (ng : Int) := by omega
          go_wp2
          refine bodyPost_end (v := .tuple #[]) (by simp [results, Tryz.results15, go_sem]) rfl ?_
          exact HF.out _ HR.out.done
        obtain ⟨q, hq⟩ : ∃ q, ng = q + 1 := ⟨ng - 1, by omega⟩
        subst hq
        have i1 : (0 : Int) ≤ (i : Int) := by omega
        have i2 : (i : Int) < ((q + 1 : Nat) : Int) := by omega
        have i3 : (i : Int) < (q : Int) + 1 := by omega
        have q1 : (0 : Int) ≤ (q : Int) := by omega
        have q2 : (q : Int) < (q : Int) + 1 := by omega
        have q3 : (q : Int) < ((q + 1 : Nat) : Int) := by omega
        have q4 : ((q + 1 : Nat) : Int) - 1 = (q : Int) := by omega
        obtain ⟨D, hD⟩ : ∃ D : World, D = wr.drew := ⟨_, rfl⟩
        have HD : Hid (TnO w D X A G ns (q + 1)) := by rw [hD]; exact HR.out.drew
        obtain ⟨ar, aq, l, v, c0, c1, c2, c3, fz, hpost⟩ := HD.out.two hin (Nat.lt_succ_self q)
        have x1 := HD.out.cells.2
        have hS0 : (fun w' : World => w'.cell? ⟨X, 1, none⟩ = some (.slice (some ⟨G, 0, none⟩) (q + 1) (q + 1 + 2)) ∧ w'.cell? ⟨G, i * 3 + 1, none⟩ = some (.int .i64 ar) ∧ w'.cell? ⟨G, q * 3 + 1, none⟩ = some (.int .i64 aq) ∧ w'.cell? ⟨G, q * 3 + 2, none⟩ = some (.slice (some ⟨G + 1 + q, 0, none⟩) l (l + 2))) D := ⟨x1, c0, c1, c2⟩
        clear x1 c0 c1 c2 c3 fz hpost
        go_upto_region 13 with fail
        refine wp_region_M (S := (fun w' : World => w'.cell? ⟨X, 1, none⟩ = some (.slice (some ⟨G, 0, none⟩) (q + 1) (q + 1 + 2)) ∧ w'.cell? ⟨G, i * 3 + 1, none⟩ = some (.int .i64 ar) ∧ w'.cell? ⟨G, q * 3 + 1, none⟩ = some (.int .i64 aq) ∧ w'.cell? ⟨G, q * 3 + 2, none⟩ = some (.slice (some ⟨G + 1 + q, 0, none⟩) l (l + 2)))) (L := 100) (n := 14) (by kernel_rfl) rfl (by kernel_rfl) ?_
        rw [← hD]
        clear hD
        refine wpAnyK_go (i := 0) (m' := 1) (some 61) (v := .pointer (some ⟨X, 1, none⟩)) rfl rfl (by kernel_rfl) (by kernel_rfl) (by kernel_rfl) (by kernel_rfl) (by kernel_rfl) (fun _ _ _ h => h) (Or.inl ⟨by rfl, ?_⟩) hS0 ?_
        · intro w' hSw
          go_simp
        simp only [Act.put, List.setIfInBounds_toArray, List.set_cons_zero, List.set_cons_succ]
        refine wpAnyK_go (i := 1) (m' := 3) (some 62) (v := .slice (some ⟨G, 0, none⟩) (q + 1) (q + 1 + 2)) rfl rfl (by kernel_rfl) (by kernel_rfl) (by kernel_rfl) (by kernel_rfl) (by kernel_rfl) (fun _ _ _ h => h) (Or.inl ⟨by rfl, ?_⟩) hS0 ?_
        · intro w' hSw
          obtain ⟨p1, p2, p3, p4⟩ := hSw
          go_simp
        simp only [Act.put, List.setIfInBounds_toArray, List.set_cons_zero, List.set_cons_succ]
        refine wpAnyK_go (i := 2) (m' := 7) (some 63) (v := .int .i64 (i : Int)) rfl rfl (by kernel_rfl) (by kernel_rfl) (by kernel_rfl) (by kernel_rfl) (by kernel_rfl) (fun _ _ _ h => h) (Or.inl ⟨by rfl, ?_⟩) hS0 ?_
        · intro w' hSw
          go_simp
        simp only [Act.put, List.setIfInBounds_toArray, List.set_cons_zero, List.set_cons_succ]
        refine wpAnyK_go (i := 3) (m' := 15) (some 64) (v := .pointer (some ⟨G, i * 3, none⟩)) rfl rfl (by kernel_rfl) (by kernel_rfl) (by kernel_rfl) (by kernel_rfl) (by kernel_rfl) (fun _ _ _ h => h) (Or.inl ⟨by rfl, ?_⟩) hS0 ?_
        · intro w' hSw
          go_simp
        simp only [Act.put, List.setIfInBounds_toArray, List.set_cons_zero, List.set_cons_succ]
        refine wpAnyK_go (i := 4) (m' := 31) (some 65) (v := .pointer (some ⟨G, i * 3 + 1, none⟩)) rfl rfl (by kernel_rfl) (by kernel_rfl) (by kernel_rfl) (by kernel_rfl) (by kernel_rfl) (fun _ _ _ h => h) (Or.inl ⟨by rfl, ?_⟩) hS0 ?_
        · intro w' hSw
          go_simp
        simp only [Act.put, List.setIfInBounds_toArray, List.set_cons_zero, List.set_cons_succ]
        refine wpAnyK_go (i := 5) (m' := 63) (some 66) (v := .int .i64 ar) rfl rfl (by kernel_rfl) (by kernel_rfl) (by kernel_rfl) (by kernel_rfl) (by kernel_rfl) (fun _ _ _ h => h) (Or.inl ⟨by rfl, ?_⟩) hS0 ?_
        · intro w' hSw
          obtain ⟨p1, p2, p3, p4⟩ := hSw
          go_simp
        simp only [Act.put, List.setIfInBounds_toArray, List.set_cons_zero, List.set_cons_succ]
        refine wpAnyK_go (i := 6) (m' := 127) (some 67) (v := .pointer (some ⟨X, 1, none⟩)) rfl rfl (by kernel_rfl) (by kernel_rfl) (by kernel_rfl) (by kernel_rfl) (by kernel_rfl) (fun _ _ _ h => h) (Or.inl ⟨by rfl, ?_⟩) hS0 ?_
        · intro w' hSw
          go_simp
        simp only [Act.put, List.setIfInBounds_toArray, List.set_cons_zero, List.set_cons_succ]
        refine wpAnyK_go (i := 7) (m' := 255) (some 68) (v := .slice (some ⟨G, 0, none⟩) (q + 1) (q + 1 + 2)) rfl rfl (by kernel_rfl) (by kernel_rfl) (by kernel_rfl) (by kernel_rfl) (by kernel_rfl) (fun _ _ _ h => h) (Or.inl ⟨by rfl, ?_⟩) hS0 ?_
        · intro w' hSw
          obtain ⟨p1, p2, p3, p4⟩ := hSw
          go_simp
        simp only [Act.put, List.setIfInBounds_toArray, List.set_cons_zero, List.set_cons_succ]
        refine wpAnyK_go (i := 8) (m' := 511) (some 69) (v := .int .i64 ((q + 1 : Nat) : Int)) rfl rfl (by kernel_rfl) (by kernel_rfl) (by kernel_rfl) (by kernel_rfl) (by kernel_rfl) (fun _ _ _ h => h) (Or.inl ⟨by rfl, ?_⟩) hS0 ?_
        · intro w' hSw
          go_simp
        simp only [Act.put, List.setIfInBounds_toArray, List.set_cons_zero, List.set_cons_succ]
        refine wpAnyK_go (i := 9) (m' := 1023) (some 70) (v := .int .i64 (q : Int)) rfl rfl (by kernel_rfl) (by kernel_rfl) (by kernel_rfl) (by kernel_rfl) (by kernel_rfl) (fun _ _ _ h => h) (Or.inl ⟨by rfl, ?_⟩) hS0 ?_
        · intro w' hSw
          go_simp
          rw [IntKind.wrap_i64]; omega
        simp only [Act.put, List.setIfInBounds_toArray, List.set_cons_zero, List.set_cons_succ]
        refine wpAnyK_go (i := 10) (m' := 2047) (some 71) (v := .pointer (some ⟨G, q * 3, none⟩)) rfl rfl (by kernel_rfl) (by kernel_rfl) (by kernel_rfl) (by kernel_rfl) (by kernel_rfl) (fun _ _ _ h => h) (Or.inl ⟨by rfl, ?_⟩) hS0 ?_
        · intro w' hSw
          go_simp
        simp only [Act.put, List.setIfInBounds_toArray, List.set_cons_zero, List.set_cons_succ]
        refine wpAnyK_go (i := 11) (m' := 4095) (some 72) (v := .pointer (some ⟨G, q * 3 + 1, none⟩)) rfl rfl (by kernel_rfl) (by kernel_rfl) (by kernel_rfl) (by kernel_rfl) (by kernel_rfl) (fun _ _ _ h => h) (Or.inl ⟨by rfl, ?_⟩) hS0 ?_
        · intro w' hSw
          go_simp
        simp only [Act.put, List.setIfInBounds_toArray, List.set_cons_zero, List.set_cons_succ]
        refine wpAnyK_go (i := 12) (m' := 8191) (some 73) (v := .int .i64 aq) rfl rfl (by kernel_rfl) (by kernel_rfl) (by kernel_rfl) (by kernel_rfl) (by kernel_rfl) (fun _ _ _ h => h) (Or.inl ⟨by rfl, ?_⟩) hS0 ?_
        · intro w' hSw
          obtain ⟨p1, p2, p3, p4⟩ := hSw
          go_simp
        simp only [Act.put, List.setIfInBounds_toArray, List.set_cons_zero, List.set_cons_succ]
        refine wpAnyK_go (i := 13) (m' := 16383) (some 74) (v := .bool (ar == aq)) rfl rfl (by kernel_rfl) (by kernel_rfl) (by kernel_rfl) (by kernel_rfl) (by kernel_rfl) (fun _ _ _ h => h) (Or.inl ⟨by rfl, ?_⟩) hS0 ?_
        · intro w' hSw
          go_simp
        simp only [Act.put, List.setIfInBounds_toArray, List.set_cons_zero, List.set_cons_succ]
        refine wpAnyK_done (by kernel_rfl) ?_ _
        by_cases he : ar = aq
        case neg =>
          have e5 : (ar == aq) = false := by simpa using he
          clear hS0
          go_wp2
          go_roundw
          case rel => exact ⟨i + 1, hin, by go_num, HD.out⟩
          case measure => simp [intOf]; omega
        subst he
        clear hS0
        go_upto_region 14 with fail
        obtain ⟨E, hE⟩ : ∃ E : World, E = D.drew := ⟨_, rfl⟩
        have HE : Hid (TnO w E X A G ns (q + 1)) := by rw [hE]; exact HD.out.drew
        obtain ⟨ar2, aq, l, v, c0, c1, c2, c3, fz, hpost⟩ := HE.out.two hin (Nat.lt_succ_self q)
        have HPOST : Hid (FarT w (E.setCell ⟨G, i * 3 + 2, none⟩ (.slice (some ⟨G + 1 + q, 0, none⟩) l (l + 2))) A G (q + 1) ∧ ∃ t', TabV (E.setCell ⟨G, i * 3 + 2, none⟩ (.slice (some ⟨G + 1 + q, 0, none⟩) l (l + 2))) (fun y => y < (E.setCell ⟨G, i * 3 + 2, none⟩ (.slice (some ⟨G + 1 + q, 0, none⟩) l (l + 2))).heap.size) (.slice (some ⟨A, 0, none⟩) ns (ns + 2)) (.slice (some ⟨G, 0, none⟩) (q + 1) (q + 1 + 2)) t' ∧ Small t') := hpost
        have x1 := HE.out.cells.2
        have hS0 : (fun w' : World => w'.cell? ⟨X, 1, none⟩ = some (.slice (some ⟨G, 0, none⟩) (q + 1) (q + 1 + 2)) ∧ w'.cell? ⟨G, i * 3 + 1, none⟩ = some (.int .i64 ar2) ∧ w'.cell? ⟨G, q * 3 + 1, none⟩ = some (.int .i64 aq) ∧ w'.cell? ⟨G, q * 3 + 2, none⟩ = some (.slice (some ⟨G + 1 + q, 0, none⟩) l (l + 2))) E := ⟨x1, c0, c1, c2⟩
        clear x1 c0 c1 c2 hpost
        refine wp_region_M (S := (fun w' : World => w'.cell? ⟨X, 1, none⟩ = some (.slice (some ⟨G, 0, none⟩) (q + 1) (q + 1 + 2)) ∧ w'.cell? ⟨G, i * 3 + 1, none⟩ = some (.int .i64 ar2) ∧ w'.cell? ⟨G, q * 3 + 1, none⟩ = some (.int .i64 aq) ∧ w'.cell? ⟨G, q * 3 + 2, none⟩ = some (.slice (some ⟨G + 1 + q, 0, none⟩) l (l + 2)))) (L := 12) (n := 13) (by kernel_rfl) rfl (by kernel_rfl) ?_
        rw [← hE]
        clear hE
        refine wpAnyK_go (i := 0) (m' := 1) (some 75) (v := .pointer (some ⟨X, 1, none⟩)) rfl rfl (by kernel_rfl) (by kernel_rfl) (by kernel_rfl) (by kernel_rfl) (by kernel_rfl) (fun _ _ _ h => h) (Or.inl ⟨by rfl, ?_⟩) hS0 ?_
        · intro w' hSw
          go_simp
        simp only [Act.put, List.setIfInBounds_toArray, List.set_cons_zero, List.set_cons_succ]
        refine wpAnyK_go (i := 1) (m' := 3) (some 76) (v := .slice (some ⟨G, 0, none⟩) (q + 1) (q + 1 + 2)) rfl rfl (by kernel_rfl) (by kernel_rfl) (by kernel_rfl) (by kernel_rfl) (by kernel_rfl) (fun _ _ _ h => h) (Or.inl ⟨by rfl, ?_⟩) hS0 ?_
        · intro w' hSw
          obtain ⟨p1, p2, p3, p4⟩ := hSw
          go_simp
        simp only [Act.put, List.setIfInBounds_toArray, List.set_cons_zero, List.set_cons_succ]
        refine wpAnyK_go (i := 2) (m' := 7) (some 77) (v := .int .i64 (i : Int)) rfl rfl (by kernel_rfl) (by kernel_rfl) (by kernel_rfl) (by kernel_rfl) (by kernel_rfl) (fun _ _ _ h => h) (Or.inl ⟨by rfl, ?_⟩) hS0 ?_
        · intro w' hSw
          go_simp
        simp only [Act.put, List.setIfInBounds_toArray, List.set_cons_zero, List.set_cons_succ]
        refine wpAnyK_go (i := 3) (m' := 15) (some 78) (v := .pointer (some ⟨X, 1, none⟩)) rfl rfl (by kernel_rfl) (by kernel_rfl) (by kernel_rfl) (by kernel_rfl) (by kernel_rfl) (fun _ _ _ h => h) (Or.inl ⟨by rfl, ?_⟩) hS0 ?_
        · intro w' hSw
          go_simp
        simp only [Act.put, List.setIfInBounds_toArray, List.set_cons_zero, List.set_cons_succ]
        refine wpAnyK_go (i := 4) (m' := 31) (some 79) (v := .slice (some ⟨G, 0, none⟩) (q + 1) (q + 1 + 2)) rfl rfl (by kernel_rfl) (by kernel_rfl) (by kernel_rfl) (by kernel_rfl) (by kernel_rfl) (fun _ _ _ h => h) (Or.inl ⟨by rfl, ?_⟩) hS0 ?_
        · intro w' hSw
          obtain ⟨p1, p2, p3, p4⟩ := hSw
          go_simp
        simp only [Act.put, List.setIfInBounds_toArray, List.set_cons_zero, List.set_cons_succ]
        refine wpAnyK_go (i := 5) (m' := 63) (some 80) (v := .int .i64 ((q + 1 : Nat) : Int)) rfl rfl (by kernel_rfl) (by kernel_rfl) (by kernel_rfl) (by kernel_rfl) (by kernel_rfl) (fun _ _ _ h => h) (Or.inl ⟨by rfl, ?_⟩) hS0 ?_
        · intro w' hSw
          go_simp
        simp only [Act.put, List.setIfInBounds_toArray, List.set_cons_zero, List.set_cons_succ]
        refine wpAnyK_go (i := 6) (m' := 127) (some 81) (v := .int .i64 (q : Int)) rfl rfl (by kernel_rfl) (by kernel_rfl) (by kernel_rfl) (by kernel_rfl) (by kernel_rfl) (fun _ _ _ h => h) (Or.inl ⟨by rfl, ?_⟩) hS0 ?_
        · intro w' hSw
          go_simp
          rw [IntKind.wrap_i64]; omega
        simp only [Act.put, List.setIfInBounds_toArray, List.set_cons_zero, List.set_cons_succ]
        refine wpAnyK_go (i := 7) (m' := 255) (some 82) (v := .pointer (some ⟨G, q * 3, none⟩)) rfl rfl (by kernel_rfl) (by kernel_rfl) (by kernel_rfl) (by kernel_rfl) (by kernel_rfl) (fun _ _ _ h => h) (Or.inl ⟨by rfl, ?_⟩) hS0 ?_
        · intro w' hSw
          go_simp
        simp only [Act.put, List.setIfInBounds_toArray, List.set_cons_zero, List.set_cons_succ]
        refine wpAnyK_go (i := 8) (m' := 511) (some 83) (v := .pointer (some ⟨G, q * 3 + 2, none⟩)) rfl rfl (by kernel_rfl) (by kernel_rfl) (by kernel_rfl) (by kernel_rfl) (by kernel_rfl) (fun _ _ _ h => h) (Or.inl ⟨by rfl, ?_⟩) hS0 ?_
        · intro w' hSw
          go_simp
        simp only [Act.put, List.setIfInBounds_toArray, List.set_cons_zero, List.set_cons_succ]
        refine wpAnyK_go (i := 9) (m' := 1023) (some 84) (v := .slice (some ⟨G + 1 + q, 0, none⟩) l (l + 2)) rfl rfl (by kernel_rfl) (by kernel_rfl) (by kernel_rfl) (by kernel_rfl) (by kernel_rfl) (fun _ _ _ h => h) (Or.inl ⟨by rfl, ?_⟩) hS0 ?_
        · intro w' hSw
          obtain ⟨p1, p2, p3, p4⟩ := hSw
          go_simp
        simp only [Act.put, List.setIfInBounds_toArray, List.set_cons_zero, List.set_cons_succ]
        refine wpAnyK_only (i := 10) (m' := 2047) (by kernel_rfl) rfl (by kernel_rfl) fun K hK => ?_
        go_simp
        refine hK.out _ _ (fun _ => hS0) ?_
        clear hK K
        try simp only [Act.put, List.setIfInBounds_toArray, List.set_cons_zero, List.set_cons_succ]
        refine wpAnyK_only (i := 11) (m' := 4095) (by kernel_rfl) rfl (by kernel_rfl) fun K hK => ?_
        go_simp
        refine hK.out _ _ (fun _ => hS0) ?_
        clear hK K
        try simp only [Act.put, List.setIfInBounds_toArray, List.set_cons_zero, List.set_cons_succ]
        refine wpAnyK_only (i := 12) (m' := 8191) (by kernel_rfl) rfl (by kernel_rfl) fun K hK => ?_
        go_simp
        refine hK.out _ _ (fun h => absurd h (by decide)) ?_
        clear hK K hS0 c3 fz
        generalize E.setCell ⟨G, i * 3 + 2, none⟩ (.slice (some ⟨G + 1 + q, 0, none⟩) l (l + 2)) = W9 at *
        refine wpAnyK_done (by kernel_rfl) ?_ _
        go_wp2
        exact bodyPost_ret (v := .tuple #[]) (by simp [results, Tryz.results15, go_sem]) rfl (HF.out _ HPOST.out)
end Go.Proofs.YtlpnegnpejpdkaaGreatDoor
