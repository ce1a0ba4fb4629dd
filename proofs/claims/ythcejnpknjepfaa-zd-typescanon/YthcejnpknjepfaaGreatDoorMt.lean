/- Types as trees of plain data: a tree of depth at most d; its nodes in a row, from the outside, from the left. Types in memory: a value of the program's type Type and the tree that it is. The names of a tree's variables. What types may be, and their texts: two types of one text are one. What of the plain side of types is used besides: looks at names, what is wrong with a type, what is printed, how a text begins. Nothing of the program stands here. -/
import Derived.Test.YthcejnpknjepfaaGreatDoorProg
import Derived.Below
import Derived.WalkKit
import Derived.WalkSpells
import Derived.WalkLawsBesides
import Derived.WalkMore
namespace Go.Proofs.YthcejnpknjepfaaGreatDoor

/-- A node's kind and name. -/
abbrev Lb := Int × List UInt8
/-- A node in a row: kind, name, number of arguments. -/
abbrev Nd := Int × List UInt8 × Nat
/-- Trees of at most so many levels. -/
def Tn : Nat → Type
  | 0 => Empty
  | d + 1 => Lb × List (Tn d)
/-- The nodes of a tree in a row. -/
def flat : (d : Nat) → Tn d → List Nd
  | 0, t => t.elim
  | d + 1, t => (t.1.1, t.1.2, t.2.length) :: (t.2.map (flat d)).flatten
/-- The nodes of some trees in a row. -/
def flats (d : Nat) (ts : List (Tn d)) : List Nd := (ts.map (flat d)).flatten
theorem flats_nil (d : Nat) : flats d [] = [] := rfl
theorem flats_cons (d : Nat) (t : Tn d) (ts : List (Tn d)) : flats d (t :: ts) = flat d t ++ flats d ts := rfl
theorem flat_succ (d : Nat) (k : Int) (n : List UInt8) (ts : List (Tn d)) : flat (d + 1) ((k, n), ts) = (k, n, ts.length) :: flats d ts := rfl
theorem flat_pos : ∀ (d : Nat) (t : Tn d), 0 < (flat d t).length
  | 0, t => t.elim
  | _ + 1, _ => by simp [flat]
/-- Rows of one number of trees, equal up to what is behind them. -/
theorem flats_inj (d e : Nat) (ih : ∀ (t : Tn d) (u : Tn e) (r s : List Nd), flat d t ++ r = flat e u ++ s → flat d t = flat e u ∧ r = s) :
    ∀ (ts : List (Tn d)) (us : List (Tn e)) (r s : List Nd), ts.length = us.length → flats d ts ++ r = flats e us ++ s → (∀ i (h : i < ts.length) (h' : i < us.length), flat d ts[i] = flat e us[i]) ∧ flats d ts = flats e us ∧ r = s
  | [], [], r, s, _, h => ⟨fun i h => by simp at h, rfl, by simpa [flats] using h⟩
  | [], _ :: _, _, _, h, _ => by simp at h
  | _ :: _, [], _, _, h, _ => by simp at h
  | t :: ts, u :: us, r, s, hl, h => by
    rw [flats_cons, flats_cons, List.append_assoc, List.append_assoc] at h
    obtain ⟨h1, h2⟩ := ih t u _ _ h
    obtain ⟨h3, h4, h5⟩ := flats_inj d e ih ts us r s (by simpa using hl) h2
    refine ⟨fun i hi hi' => ?_, by rw [flats_cons, flats_cons, h1, h4], h5⟩
    cases i with
    | zero => exact h1
    | succ i => simpa using h3 i (by simpa using hi) (by simpa using hi')
/-- A tree's row says where it ends. -/
theorem flat_inj : ∀ (d : Nat) (t : Tn d) (e : Nat) (u : Tn e) (r s : List Nd), flat d t ++ r = flat e u ++ s → flat d t = flat e u ∧ r = s
  | 0, t, _, _, _, _, _ => t.elim
  | _ + 1, _, 0, u, _, _, _ => u.elim
  | d + 1, ((k, n), ts), e + 1, ((k', n'), us), r, s, h => by
    rw [flat_succ, flat_succ, List.cons_append, List.cons_append] at h
    injection h with h1 h2
    obtain ⟨_, h3, h4⟩ := flats_inj d e (fun t u => flat_inj d t e u) ts us r s (by simpa using congrArg (fun x => x.2.2) h1) h2
    exact ⟨by rw [flat_succ, flat_succ, h1, h3], h4⟩
theorem flat_eq_iff (d e : Nat) (k k' : Int) (n n' : List UInt8) (ts : List (Tn d)) (us : List (Tn e)) :
    flat (d + 1) ((k, n), ts) = flat (e + 1) ((k', n'), us) ↔ k = k' ∧ n = n' ∧ ts.length = us.length ∧ ∀ i (h : i < ts.length) (h' : i < us.length), flat d ts[i] = flat e us[i] := by
  constructor
  · intro h
    rw [flat_succ, flat_succ] at h
    injection h with h1 h2
    have hl : ts.length = us.length := by simpa using congrArg (fun x => x.2.2) h1
    obtain ⟨h3, _, _⟩ := flats_inj d e (fun t u => flat_inj d t e u) ts us [] [] hl (by rw [h2])
    exact ⟨by simpa using congrArg (fun x => x.1) h1, by simpa using congrArg (fun x => x.2.1) h1, hl, h3⟩
  · rintro ⟨rfl, rfl, hl, h⟩
    rw [flat_succ, flat_succ, hl]
    congr 1
    unfold flats
    congr 1
    apply List.ext_getElem
    · simpa using hl
    · intro i h1 h2
      simpa using h i (by simpa using h1) (by simpa using h2)
end Go.Proofs.YthcejnpknjepfaaGreatDoor

namespace Go.Proofs.YthcejnpknjepfaaGreatDoor
open Go.RowKit

/-- The slice v is a row of values of type Type, of each of which P says what it is; the row's block is below B. -/
def RowP {α : Type} (w : World) (B : Nat) (P : Value → α → Prop) (v : Value) (ts : List α) : Prop :=
  (ts = [] ∧ ∃ ad cap, v = .slice ad 0 cap) ∨ ∃ g o cap, v = .slice (some ⟨g, o, none⟩) ts.length cap ∧ ts ≠ [] ∧ ts.length ≤ cap ∧ g < B ∧
    ∀ j (h : j < ts.length), ∃ k n u, w.cell? ⟨g, o + j * 3, none⟩ = some (.int .i64 k) ∧ w.cell? ⟨g, o + j * 3 + 1, none⟩ = some (.string n) ∧ w.cell? ⟨g, o + j * 3 + 2, none⟩ = some u ∧ P (.agg #[.int .i64 k, .string n, u]) ts[j]
/-- The value x is the tree t; the blocks that it leads to are below B. -/
def TyAt (w : World) (B : Nat) : (d : Nat) → Value → Tn d → Prop
  | 0, _, _ => False
  | d + 1, x, t => ∃ v, x = .agg #[.int .i64 t.1.1, .string ⟨t.1.2.toArray⟩, v] ∧ t.1.2.length < 140737488355328 ∧ t.2.length < 140737488355328 ∧ RowP w B (TyAt w B d) v t.2
theorem RowP.below {α : Type} {w w' : World} {B B' : Nat} {P P' : Value → α → Prop} {v : Value} {ts : List α} (hb : Below B w w') (hB : B ≤ B') (hP : ∀ x, ∀ t ∈ ts, P x t → P' x t) (h : RowP w B P v ts) : RowP w' B' P' v ts := by
  rcases h with h | ⟨g, o, cap, hv, h0, hc, hg, h⟩
  · exact .inl h
  · refine .inr ⟨g, o, cap, hv, h0, hc, Nat.lt_of_lt_of_le hg hB, fun j hj => ?_⟩
    obtain ⟨k, n, u, c0, c1, c2, ht⟩ := h j hj
    exact ⟨k, n, u, (hb.cell (p := ⟨g, o + j * 3, none⟩) hg).trans c0, (hb.cell (p := ⟨g, o + j * 3 + 1, none⟩) hg).trans c1, (hb.cell (p := ⟨g, o + j * 3 + 2, none⟩) hg).trans c2, hP _ _ (List.getElem_mem hj) ht⟩
theorem TyAt.below {w w' : World} {B B' : Nat} (hb : Below B w w') (hB : B ≤ B') : ∀ (d : Nat) (x : Value) (t : Tn d), TyAt w B d x t → TyAt w' B' d x t
  | 0, _, _, h => h
  | d + 1, _, _, ⟨v, hx, h1, h2, h⟩ => ⟨v, hx, h1, h2, h.below hb hB fun x t _ => TyAt.below hb hB d x t⟩
/-- Behind a call whose own blocks lie from the heap's end on. -/
theorem TyAt.on {w w' : World} {B d : Nat} {x : Value} {t : Tn d} (h : TyAt w B d x t) (hb : Below B w w') : TyAt w' B d x t := TyAt.below hb (Nat.le_refl _) d x t h
theorem RowP.len {α : Type} {w : World} {B : Nat} {P : Value → α → Prop} {v : Value} {ts : List α} (h : RowP w B P v ts) : ∃ ad cap, v = .slice ad ts.length cap := by
  rcases h with ⟨h0, ad, cap, rfl⟩ | ⟨g, o, cap, rfl, _⟩
  · exact ⟨ad, cap, by rw [h0]; rfl⟩
  · exact ⟨_, cap, rfl⟩
/-- The third part of a value that is a tree is a slice. -/
theorem TyAt.slice {w : World} {B d : Nat} {a b u : Value} {t : Tn d} (h : TyAt w B d (.agg #[a, b, u]) t) : ∃ ad len cap, u = .slice ad len cap := by
  cases d with
  | zero => exact h.elim
  | succ d =>
    obtain ⟨v, e, _, _, h⟩ := h
    have e : u = v := by
      simp only [Value.agg.injEq, Array.mk.injEq, List.cons.injEq, and_true] at e
      exact e.2.2
    obtain ⟨ad, cap, hv⟩ := h.len
    exact ⟨ad, _, cap, e.trans hv⟩
/-- A row of trees of which there is one at least: its cells, in whatever world has what was below B. -/
theorem RowP.cells {w : World} {B d : Nat} {v : Value} {ts : List (Tn d)} (h : RowP w B (TyAt w B d) v ts) : ∃ ad cap, v = .slice ad ts.length cap ∧ (ts ≠ [] → ∃ g o, ad = some ⟨g, o, none⟩ ∧ ts.length ≤ cap ∧ g < B ∧
    ∀ j (h : j < ts.length), ∃ k n ad' len' cap', (∀ w', Below B w w' → w'.cell? ⟨g, o + j * 3, none⟩ = some (.int .i64 k) ∧ w'.cell? ⟨g, o + j * 3 + 1, none⟩ = some (.string n) ∧ w'.cell? ⟨g, o + j * 3 + 2, none⟩ = some (.slice ad' len' cap')) ∧ TyAt w B d (.agg #[.int .i64 k, .string n, .slice ad' len' cap']) ts[j]) := by
  rcases h with ⟨h0, ad, cap, rfl⟩ | ⟨g, o, cap, rfl, h0, hc, hg, h⟩
  · exact ⟨ad, cap, by rw [h0]; rfl, fun h => absurd h0 h⟩
  · refine ⟨_, cap, rfl, fun _ => ⟨g, o, rfl, hc, hg, fun j hj => ?_⟩⟩
    obtain ⟨k, n, u, c0, c1, c2, ht⟩ := h j hj
    obtain ⟨ad', len', cap', rfl⟩ := ht.slice
    exact ⟨k, n, ad', len', cap', fun w' hb => ⟨(hb.cell (p := ⟨g, o + j * 3, none⟩) hg).trans c0, (hb.cell (p := ⟨g, o + j * 3 + 1, none⟩) hg).trans c1, (hb.cell (p := ⟨g, o + j * 3 + 2, none⟩) hg).trans c2⟩, ht⟩
/-- Two trees, side by side: their places, from the left, as far as both go. -/
theorem flat_both {d e : Nat} {k k' : Int} {n n' : List UInt8} {ts : List (Tn d)} {us : List (Tn e)} (h : ¬ (k = k' ∧ n = n' ∧ ts.length = us.length)) :
    flat (d + 1) ((k, n), ts) ≠ flat (e + 1) ((k', n'), us) := by
  intro h1
  obtain ⟨a, b, c, _⟩ := (flat_eq_iff d e k k' n n' ts us).1 h1
  exact h ⟨a, b, c⟩
/-- A new block's cells. -/
theorem cells_new (w : World) (a b c : Value) (t : TypeId) : (w.alloc (Obj.cells #[a, b, c] t)).cell? ⟨w.heap.size, 0, none⟩ = some a ∧ (w.alloc (Obj.cells #[a, b, c] t)).cell? ⟨w.heap.size, 1, none⟩ = some b ∧ (w.alloc (Obj.cells #[a, b, c] t)).cell? ⟨w.heap.size, 2, none⟩ = some c := by
  have h : (w.alloc (Obj.cells #[a, b, c] t)).heap[w.heap.size]? = some (Obj.cells #[a, b, c] t) := by
    show (w.heap.push _)[w.heap.size]? = _
    simp
  refine ⟨?_, ?_, ?_⟩ <;> (simp only [World.cell?, h]; rfl)
/-- Two boxes of three cells, side by side. -/
theorem cells_boxes (w : World) (a b c a' b' c' : Value) (t : TypeId) : ∃ W, W = (w.alloc (Obj.cells #[a, b, c] t)).alloc (Obj.cells #[a', b', c'] t) ∧ Below w.heap.size w W ∧ W.heap.size = w.heap.size + 2 ∧
    W.cell? ⟨w.heap.size, 0, none⟩ = some a ∧ W.cell? ⟨w.heap.size, 1, none⟩ = some b ∧ W.cell? ⟨w.heap.size, 2, none⟩ = some c ∧
    W.cell? ⟨w.heap.size + 1, 0, none⟩ = some a' ∧ W.cell? ⟨w.heap.size + 1, 1, none⟩ = some b' ∧ W.cell? ⟨w.heap.size + 1, 2, none⟩ = some c' := by
  refine ⟨_, rfl, ((Below.refl _ _).alloc (Nat.le_refl _) _).alloc (by simp) _, by simp, ?_⟩
  have hb := (Below.refl (w.heap.size + 1) (w.alloc (Obj.cells #[a, b, c] t))).alloc (by simp) (Obj.cells #[a', b', c'] t)
  obtain ⟨h1, h2, h3⟩ := cells_new w a b c t
  have hn := cells_new (w.alloc (Obj.cells #[a, b, c] t)) a' b' c' t
  rw [show (w.alloc (Obj.cells #[a, b, c] t)).heap.size = w.heap.size + 1 by simp] at hn
  exact ⟨(hb.cell (by simp)).trans h1, (hb.cell (by simp)).trans h2, (hb.cell (by simp)).trans h3, hn⟩
/-- One box of three cells. -/
theorem cells_box (w : World) (a b c : Value) (t : TypeId) : ∃ W, W = w.alloc (Obj.cells #[a, b, c] t) ∧ Below w.heap.size w W ∧ W.heap.size = w.heap.size + 1 ∧
    W.cell? ⟨w.heap.size, 0, none⟩ = some a ∧ W.cell? ⟨w.heap.size, 1, none⟩ = some b ∧ W.cell? ⟨w.heap.size, 2, none⟩ = some c :=
  ⟨_, rfl, (Below.refl _ _).alloc (Nat.le_refl _) _, by simp, cells_new w a b c t⟩
end Go.Proofs.YthcejnpknjepfaaGreatDoor

namespace Go.Proofs.YthcejnpknjepfaaGreatDoor

/-- The names of a tree's variables, in order, each as often as it stands. -/
def namesT : (d : Nat) → Tn d → List (List UInt8)
  | 0, t => t.elim
  | d + 1, t => if t.1.1 = 2 then [t.1.2] else t.2.flatMap (namesT d)
theorem names_var (d : Nat) (n : List UInt8) (ts : List (Tn d)) : namesT (d + 1) ((2, n), ts) = [n] := rfl
theorem names_node (d : Nat) (k : Int) (n : List UInt8) (ts : List (Tn d)) (h : k ≠ 2) : namesT (d + 1) ((k, n), ts) = ts.flatMap (namesT d) := by
  show (if k = 2 then [n] else ts.flatMap (namesT d)) = _
  rw [if_neg h]
end Go.Proofs.YthcejnpknjepfaaGreatDoor

namespace Go.Proofs.YthcejnpknjepfaaGreatDoor

def smallB (c : UInt8) : Bool := decide (97 ≤ c.toNat) && decide (c.toNat ≤ 122)
def capB (c : UInt8) : Bool := decide (65 ≤ c.toNat) && decide (c.toNat ≤ 90)
def signB (c : UInt8) : Bool := smallB c || capB c || (decide (48 ≤ c.toNat) && decide (c.toNat ≤ 57)) || decide (c.toNat = 95) || decide (c.toNat = 39)
/-- A small letter and signs behind it. -/
def varB (n : List UInt8) : Bool := decide (n.length ≤ 4096) && match n with | [] => false | c :: r => smallB c && r.all signB
def upperB (n : List UInt8) : Bool := match n with | [] => false | c :: r => capB c && r.all signB
def dataB (n : List UInt8) : Bool := decide (n ≠ [73, 110, 116]) && decide (n.length ≤ 4096) && (upperB n || (upperB (n.takeWhile (· ≠ 46)) && decide (n.dropWhile (· ≠ 46) ≠ []) && upperB ((n.dropWhile (· ≠ 46)).drop 1)))
/-- May a tree be, of however many nodes? -/
def formB : (d : Nat) → Tn d → Bool
  | 0, _ => false
  | d + 1, t => (if t.1.1 = 1 then t.1.2.isEmpty && t.2.isEmpty else if t.1.1 = 2 then varB t.1.2 && t.2.isEmpty else if t.1.1 = 3 then t.1.2.isEmpty && decide (t.2.length = 2) else if t.1.1 = 4 then dataB t.1.2 && decide (t.2.length ≤ 6) else false) && t.2.all (formB d)
/-- The text of a tree. -/
def textT : (d : Nat) → Tn d → List UInt8
  | 0, _ => []
  | d + 1, t => if t.1.1 = 1 then [73, 110, 116] else if t.1.1 = 3 then match t.2 with
      | [a, b] => 40 :: (textT d a ++ ([32, 45, 62, 32] ++ (textT d b ++ [41])))
      | _ => []
    else if t.2 = [] then t.1.2 else 40 :: (t.1.2 ++ ((t.2.map fun a => 32 :: textT d a).flatten ++ [41]))
/-- A byte that ends a word. -/
def endB (c : UInt8) : Bool := c == 32 || c == 40 || c == 41
theorem sign_end {c : UInt8} (h : signB c = true) : endB c = false := by
  unfold endB
  unfold signB smallB capB at h
  have e : ∀ x : UInt8, c = x → c.toNat = x.toNat := fun x h => by rw [h]
  simp only [Bool.or_eq_false_iff, beq_eq_false_iff_ne, ne_eq]
  refine ⟨⟨?_, ?_⟩, ?_⟩ <;> intro hc <;> have := e _ hc <;> simp at this <;> simp [this] at h
theorem small_sign {c : UInt8} (h : smallB c = true) : signB c = true := by unfold signB; simp [h]
theorem cap_sign {c : UInt8} (h : capB c = true) : signB c = true := by unfold signB; simp [h]
theorem upper_plain {n : List UInt8} (h : upperB n = true) : n ≠ [] ∧ ∀ c ∈ n, endB c = false := by
  cases n with
  | nil => simp [upperB] at h
  | cons c r =>
    simp only [upperB, Bool.and_eq_true, List.all_eq_true] at h
    refine ⟨by simp, fun x hx => ?_⟩
    rcases List.mem_cons.1 hx with rfl | hx
    · exact sign_end (cap_sign h.1)
    · exact sign_end (h.2 x hx)
theorem var_plain {n : List UInt8} (h : varB n = true) : n ≠ [] ∧ ∀ c ∈ n, endB c = false := by
  cases n with
  | nil => simp [varB] at h
  | cons c r =>
    simp only [varB, Bool.and_eq_true, List.all_eq_true] at h
    refine ⟨by simp, fun x hx => ?_⟩
    rcases List.mem_cons.1 hx with rfl | hx
    · exact sign_end (small_sign h.2.1)
    · exact sign_end (h.2.2 x hx)
theorem data_plain {n : List UInt8} (h : dataB n = true) : n ≠ [] ∧ ∀ c ∈ n, endB c = false := by
  simp only [dataB, Bool.and_eq_true, Bool.or_eq_true] at h
  rcases h.2 with h | ⟨⟨h1, h2⟩, h3⟩
  · exact upper_plain h
  · obtain ⟨a1, a2⟩ := upper_plain h1
    obtain ⟨b1, b2⟩ := upper_plain h3
    have e : n = n.takeWhile (· ≠ 46) ++ n.dropWhile (· ≠ 46) := List.takeWhile_append_dropWhile.symm
    refine ⟨fun h0 => by simp [h0] at a1, fun c hc => ?_⟩
    rw [e] at hc
    rcases List.mem_append.1 hc with hc | hc
    · exact a2 c hc
    · cases hd : n.dropWhile (· ≠ 46) with
      | nil => rw [hd] at hc; cases hc
      | cons x r =>
        have hx : x = 46 := by
          have := List.head_dropWhile_not (fun x : UInt8 => decide (x ≠ 46)) (l := n) (by rw [hd]; simp)
          simp only [hd] at this
          exact Classical.not_not.1 (of_decide_eq_false this)
        rw [hd] at hc b2
        rcases List.mem_cons.1 hc with rfl | hc
        · rw [hx]; rfl
        · exact b2 c (by simpa using hc)
theorem data_head {n : List UInt8} (h : dataB n = true) : ∃ c r, n = c :: r ∧ capB c = true := by
  simp only [dataB, Bool.and_eq_true, Bool.or_eq_true] at h
  rcases h.2 with h | ⟨⟨h1, _⟩, _⟩
  · cases n with
    | nil => simp [upperB] at h
    | cons c r => simp only [upperB, Bool.and_eq_true] at h; exact ⟨c, r, rfl, h.1⟩
  · cases n with
    | nil => simp [upperB] at h1
    | cons c r =>
      rw [List.takeWhile_cons] at h1
      split at h1
      · simp only [upperB, Bool.and_eq_true] at h1; exact ⟨c, r, rfl, h1.1⟩
      · simp [upperB] at h1
theorem var_head {n : List UInt8} (h : varB n = true) : ∃ c r, n = c :: r ∧ smallB c = true := by
  cases n with
  | nil => simp [varB] at h
  | cons c r => simp only [varB, Bool.and_eq_true] at h; exact ⟨c, r, rfl, h.2.1⟩
/-- What stands behind a word: nothing, or a byte that ends it. -/
def Ends (r : List UInt8) : Prop := ∀ c ∈ r.head?, endB c = true
theorem word_eq : ∀ {a b r s : List UInt8}, (∀ c ∈ a, endB c = false) → (∀ c ∈ b, endB c = false) → Ends r → Ends s → a ++ r = b ++ s → a = b ∧ r = s
  | [], [], _, _, _, _, _, _, h => ⟨rfl, by simpa using h⟩
  | [], c :: b, r, s, _, hb, hr, _, h => by
    have h : r = c :: (b ++ s) := by simpa using h
    have := hr c (by rw [h]; rfl)
    rw [hb c (by simp)] at this
    cases this
  | c :: a, [], r, s, ha, _, _, hs, h => by
    have h : c :: (a ++ r) = s := by simpa using h
    have := hs c (by rw [← h]; rfl)
    rw [ha c (by simp)] at this
    cases this
  | c :: a, x :: b, r, s, ha, hb, hr, hs, h => by
    simp only [List.cons_append] at h
    injection h with h1 h2
    obtain ⟨h3, h4⟩ := word_eq (fun c hc => ha c (by simp [hc])) (fun c hc => hb c (by simp [hc])) hr hs h2
    exact ⟨by rw [h1, h3], h4⟩
/-- The four kinds of a tree that may be. -/
theorem form_cases {d : Nat} {t : Tn (d + 1)} (h : formB (d + 1) t = true) :
    t = ((1, []), []) ∨ (∃ n, varB n = true ∧ t = ((2, n), [])) ∨ (∃ a b, formB d a = true ∧ formB d b = true ∧ t = ((3, []), [a, b])) ∨ ∃ n ts, dataB n = true ∧ ts.length ≤ 6 ∧ (∀ a ∈ ts, formB d a = true) ∧ t = ((4, n), ts) := by
  obtain ⟨⟨k, n⟩, ts⟩ := t
  simp only [formB, Bool.and_eq_true, List.all_eq_true] at h
  obtain ⟨h, ha⟩ := h
  split at h
  · rename_i hk
    simp only [Bool.and_eq_true, List.isEmpty_iff] at h
    exact .inl (by rw [hk, h.1, h.2])
  split at h
  · rename_i hk
    simp only [Bool.and_eq_true, List.isEmpty_iff] at h
    exact .inr (.inl ⟨n, h.1, by rw [hk, h.2]⟩)
  split at h
  · rename_i hk
    simp only [Bool.and_eq_true, List.isEmpty_iff, decide_eq_true_eq] at h
    obtain ⟨h1, h2⟩ := h
    match ts, h2, ha with
    | [a, b], _, ha => exact .inr (.inr (.inl ⟨a, b, ha a (by simp), ha b (by simp), by rw [hk, h1]⟩))
  split at h
  · rename_i hk
    simp only [Bool.and_eq_true, decide_eq_true_eq] at h
    exact .inr (.inr (.inr ⟨n, ts, h.1, h.2, ha, by rw [hk]⟩))
  · cases h
theorem text_int {d : Nat} : textT (d + 1) ((1, []), []) = [73, 110, 116] := rfl
theorem text_var {d : Nat} {n : List UInt8} : textT (d + 1) ((2, n), []) = n := rfl
theorem text_fun {d : Nat} {a b : Tn d} : textT (d + 1) ((3, []), [a, b]) = 40 :: (textT d a ++ ([32, 45, 62, 32] ++ (textT d b ++ [41]))) := rfl
theorem text_data0 {d : Nat} {n : List UInt8} : textT (d + 1) ((4, n), []) = n := rfl
/-- The arguments of a data type, as they are written. -/
def argsT (d : Nat) (ts : List (Tn d)) : List UInt8 := (ts.map fun a => 32 :: textT d a).flatten
theorem argsT_cons {d : Nat} {t : Tn d} {ts : List (Tn d)} : argsT d (t :: ts) = 32 :: (textT d t ++ argsT d ts) := by simp [argsT]
theorem text_data {d : Nat} {n : List UInt8} {t : Tn d} {ts : List (Tn d)} : textT (d + 1) ((4, n), t :: ts) = 40 :: (n ++ (argsT d (t :: ts) ++ [41])) := by
  simp [textT, argsT]
/-- A tree whose text is a word of it alone. -/
def Leaf (d : Nat) (t : Tn d) : Prop := textT d t ≠ [] ∧ (∀ c ∈ textT d t, endB c = false) ∧ ((textT d t = [73, 110, 116] ∧ flat d t = [(1, [], 0)]) ∨ (varB (textT d t) = true ∧ flat d t = [(2, textT d t, 0)]) ∨ (dataB (textT d t) = true ∧ flat d t = [(4, textT d t, 0)]))
theorem text_three {d : Nat} {t : Tn (d + 1)} (h : formB (d + 1) t = true) :
    Leaf (d + 1) t ∨ (∃ a b, formB d a = true ∧ formB d b = true ∧ t = ((3, []), [a, b])) ∨ ∃ n x xs, dataB n = true ∧ (∀ a ∈ x :: xs, formB d a = true) ∧ t = ((4, n), x :: xs) := by
  rcases form_cases h with rfl | ⟨n, hn, rfl⟩ | ⟨a, b, ha, hb, rfl⟩ | ⟨n, ts, hn, _, hts, rfl⟩
  · exact .inl ⟨by rw [text_int]; simp, by rw [text_int]; decide, .inl ⟨rfl, rfl⟩⟩
  · exact .inl ⟨(var_plain hn).1, (var_plain hn).2, .inr (.inl ⟨hn, rfl⟩)⟩
  · exact .inr (.inl ⟨a, b, ha, hb, rfl⟩)
  · cases ts with
    | nil => exact .inl ⟨(data_plain hn).1, (data_plain hn).2, .inr (.inr ⟨hn, rfl⟩)⟩
    | cons t ts => exact .inr (.inr ⟨n, t, ts, hn, hts, rfl⟩)
/-- A tree's text is a word of it alone, or begins with a bracket. -/
theorem text_kinds {d : Nat} {t : Tn d} (h : formB d t = true) : Leaf d t ∨ ∃ r, textT d t = 40 :: r := by
  cases d with
  | zero => exact t.elim
  | succ d =>
    rcases text_three h with h | ⟨a, b, _, _, rfl⟩ | ⟨n, t, ts, hn, _, rfl⟩
    · exact .inl h
    · exact .inr ⟨_, text_fun⟩
    · exact .inr ⟨_, text_data⟩
theorem text_head {d : Nat} {t : Tn d} (h : formB d t = true) : ∃ c r, textT d t = c :: r ∧ c ≠ 45 := by
  rcases text_kinds h with ⟨_, _, hn⟩ | ⟨r, e⟩
  · rcases hn with ⟨e, _⟩ | ⟨hv, _⟩ | ⟨hv, _⟩
    · exact ⟨_, _, e, by decide⟩
    · obtain ⟨c, r, e, hc⟩ := var_head hv
      exact ⟨c, r, e, fun h0 => by subst h0; exact absurd hc (by decide)⟩
    · obtain ⟨c, r, e, hc⟩ := data_head hv
      exact ⟨c, r, e, fun h0 => by subst h0; exact absurd hc (by decide)⟩
  · exact ⟨_, _, e, by decide⟩
theorem ends_cons {c : UInt8} {r : List UInt8} (h : endB c = true) : Ends (c :: r) := by
  intro x hx
  simp at hx
  rw [← hx]
  exact h
theorem not_open {n r s : List UInt8} (h0 : n ≠ []) (h : ∀ c ∈ n, endB c = false) (e : n ++ r = 40 :: s) : False := by
  cases n with
  | nil => exact h0 rfl
  | cons c n =>
    injection e with e1 _
    have := h c (by simp)
    rw [e1] at this
    cases this
theorem int_not_var : varB [73, 110, 116] = false := by decide
theorem int_not_data : dataB [73, 110, 116] = false := by decide
theorem var_not_data {n : List UInt8} (h : varB n = true) (h' : dataB n = true) : False := by
  obtain ⟨c, r, rfl, hc⟩ := var_head h
  obtain ⟨c', r', e, hc'⟩ := data_head h'
  injection e with e1 _
  subst e1
  simp only [smallB, capB, Bool.and_eq_true, decide_eq_true_eq] at hc hc'
  omega
/-- The row of arguments, up to the bracket. -/
theorem args_inj (d e : Nat) (ih : ∀ (t : Tn d) (u : Tn e) (r s : List UInt8), formB d t = true → formB e u = true → Ends r → Ends s → textT d t ++ r = textT e u ++ s → flat d t = flat e u ∧ r = s) :
    ∀ (ts : List (Tn d)) (us : List (Tn e)) (r s : List UInt8), (∀ a ∈ ts, formB d a = true) → (∀ a ∈ us, formB e a = true) → argsT d ts ++ 41 :: r = argsT e us ++ 41 :: s → ts.length = us.length ∧ flats d ts = flats e us ∧ r = s
  | [], [], r, s, _, _, h => ⟨rfl, rfl, by simpa [argsT] using h⟩
  | [], u :: us, r, s, _, _, h => by
    rw [argsT_cons] at h
    simp [argsT] at h
  | t :: ts, [], r, s, _, _, h => by
    rw [argsT_cons] at h
    simp [argsT] at h
  | t :: ts, u :: us, r, s, ht, hu, h => by
    rw [argsT_cons, argsT_cons] at h
    simp only [List.cons_append, List.append_assoc] at h
    injection h with _ h
    have hE : ∀ {d : Nat} (l : List (Tn d)) (r : List UInt8), Ends (argsT d l ++ 41 :: r) := by
      intro d l r
      cases l with
      | nil => exact ends_cons rfl
      | cons a l => rw [argsT_cons]; exact ends_cons rfl
    obtain ⟨h1, h2⟩ := ih t u _ _ (ht t (by simp)) (hu u (by simp)) (hE ts r) (hE us s) h
    obtain ⟨h3, h4, h5⟩ := args_inj d e ih ts us r s (fun a ha => ht a (by simp [ha])) (fun a ha => hu a (by simp [ha])) h2
    exact ⟨by simp [h3], by rw [flats_cons, flats_cons, h1, h4], h5⟩
theorem leaf_inj {d e : Nat} {t : Tn d} {u : Tn e} {r s : List UInt8} (ht : Leaf d t) (hu : Leaf e u) (hr : Ends r) (hs : Ends s) (h : textT d t ++ r = textT e u ++ s) : flat d t = flat e u ∧ r = s := by
  obtain ⟨n1, p1, k1⟩ := ht
  obtain ⟨n2, p2, k2⟩ := hu
  obtain ⟨h1, h2⟩ := word_eq p1 p2 hr hs h
  refine ⟨?_, h2⟩
  rw [← h1] at k2
  rcases k1 with ⟨k0, k1⟩ | ⟨v1, k1⟩ | ⟨v1, k1⟩
  · rcases k2 with ⟨_, k2⟩ | ⟨v2, k2⟩ | ⟨v2, k2⟩
    · rw [k1, k2]
    · rw [k0, int_not_var] at v2; cases v2
    · rw [k0, int_not_data] at v2; cases v2
  · rcases k2 with ⟨k0, k2⟩ | ⟨v2, k2⟩ | ⟨v2, k2⟩
    · rw [k0, int_not_var] at v1; cases v1
    · rw [k1, k2]
    · exact (var_not_data v1 v2).elim
  · rcases k2 with ⟨k0, k2⟩ | ⟨v2, k2⟩ | ⟨v2, k2⟩
    · rw [k0, int_not_data] at v1; cases v1
    · exact (var_not_data v2 v1).elim
    · rw [k1, k2]
theorem fun_data {d e : Nat} {a b : Tn d} {n : List UInt8} {x : Tn e} {xs : List (Tn e)} {r s : List UInt8} (ha : formB d a = true) (hn : dataB n = true) (hx : formB e x = true) (h : textT (d + 1) ((3, []), [a, b]) ++ r = textT (e + 1) ((4, n), x :: xs) ++ s) : False := by
  rw [text_fun, text_data, argsT_cons] at h
  simp only [List.cons_append, List.append_assoc, List.nil_append] at h
  have h := (List.cons.inj h).2
  rcases text_kinds ha with ⟨m1, m2, _⟩ | ⟨y, e3⟩
  · obtain ⟨_, h⟩ := word_eq m2 (data_plain hn).2 (ends_cons rfl) (ends_cons rfl) h
    have h := (List.cons.inj h).2
    obtain ⟨c, q, e4, hc⟩ := text_head hx
    rw [e4] at h
    exact hc (List.cons.inj h).1.symm
  · rw [e3] at h
    exact not_open (data_plain hn).1 (data_plain hn).2 h.symm
/-- Two types of one text, up to what is behind them, are one. -/
theorem text_inj2 : ∀ (d : Nat) (t : Tn d) (e : Nat) (u : Tn e) (r s : List UInt8), formB d t = true → formB e u = true → (Leaf d t → Ends r) → (Leaf e u → Ends s) → textT d t ++ r = textT e u ++ s → flat d t = flat e u ∧ r = s
  | 0, t, _, _, _, _, _, _, _, _, _ => t.elim
  | _ + 1, _, 0, u, _, _, _, _, _, _, _ => u.elim
  | d + 1, t, e + 1, u, r, s, ht, hu, hr, hs, h => by
    have ih := fun (t : Tn d) (u : Tn e) r s => text_inj2 d t e u r s
    rcases text_three ht with lt | ⟨a, b, ha, hb, rfl⟩ | ⟨n, x, xs, hn, hx, rfl⟩
    · rcases text_three hu with lu | ⟨a', b', ha', hb', rfl⟩ | ⟨n', x', xs', hn', hx', rfl⟩
      · exact leaf_inj lt lu (hr lt) (hs lu) h
      · rw [text_fun] at h
        exact (not_open lt.1 lt.2.1 h).elim
      · rw [text_data] at h
        exact (not_open lt.1 lt.2.1 h).elim
    · rcases text_three hu with lu | ⟨a', b', ha', hb', rfl⟩ | ⟨n', x', xs', hn', hx', rfl⟩
      · rw [text_fun] at h
        exact (not_open lu.1 lu.2.1 h.symm).elim
      · rw [text_fun, text_fun] at h
        simp only [List.cons_append, List.append_assoc, List.nil_append] at h
        obtain ⟨h1, h⟩ := ih a a' _ _ ha ha' (fun _ => ends_cons rfl) (fun _ => ends_cons rfl) (List.cons.inj h).2
        simp only [List.cons.injEq, true_and] at h
        obtain ⟨h2, h⟩ := ih b b' _ _ hb hb' (fun _ => ends_cons rfl) (fun _ => ends_cons rfl) h
        exact ⟨by rw [flat_succ, flat_succ, flats_cons, flats_cons, flats_cons, flats_cons, h1, h2]; rfl, (List.cons.inj h).2⟩
      · exact (fun_data ha hn' (hx' x' (by simp)) h).elim
    · rcases text_three hu with lu | ⟨a', b', ha', hb', rfl⟩ | ⟨n', x', xs', hn', hx', rfl⟩
      · rw [text_data] at h
        exact (not_open lu.1 lu.2.1 h.symm).elim
      · exact (fun_data ha' hn (hx x (by simp)) h.symm).elim
      · rw [text_data, text_data] at h
        simp only [List.cons_append, List.append_assoc, List.nil_append] at h
        have hE : ∀ {d : Nat} (x : Tn d) (l : List (Tn d)) (r : List UInt8), Ends (argsT d (x :: l) ++ 41 :: r) := by
          intro d x l r
          rw [argsT_cons]
          exact ends_cons rfl
        obtain ⟨h1, h⟩ := word_eq (data_plain hn).2 (data_plain hn').2 (hE x xs r) (hE x' xs' s) (List.cons.inj h).2
        obtain ⟨h2, h3, h4⟩ := args_inj d e (fun t u r s ht hu hr hs => ih t u r s ht hu (fun _ => hr) (fun _ => hs)) _ _ r s hx hx' h
        exact ⟨by rw [flat_succ, flat_succ, h1, h2, h3], h4⟩
/-- Two types of one text are one. -/
theorem text_inj (d : Nat) (t : Tn d) (e : Nat) (u : Tn e) (r s : List UInt8) (ht : formB d t = true) (hu : formB e u = true) (hr : Ends r) (hs : Ends s) (h : textT d t ++ r = textT e u ++ s) : flat d t = flat e u ∧ r = s :=
  text_inj2 d t e u r s ht hu (fun _ => hr) (fun _ => hs) h
end Go.Proofs.YthcejnpknjepfaaGreatDoor

namespace Go.Proofs.YthcejnpknjepfaaGreatDoor
open Go.RowKit


theorem ret_bool {a b : Bool} (h : a = b) : Ending.returned (.bool a) = .returned (.bool b) := by rw [h]
theorem drop_all {p : UInt8 → Bool} {s : ByteArray} {j : Nat} (h : j < s.size) : (s.data.toList.drop j).all p = (p s[j] && (s.data.toList.drop (j + 1)).all p) := by
  rw [List.drop_eq_getElem_cons (by simpa using h), List.all_cons]
  rfl
theorem size_pos {s : ByteArray} (h : ¬ s = ⟨#[]⟩) : 0 < s.size := by
  rcases Nat.eq_zero_or_pos s.size with h0 | h0
  · exact absurd (by cases s with | mk d => cases d with | mk l => cases l with | nil => rfl | cons a l => simp [ByteArray.size] at h0) h
  · exact h0
theorem list_cons {s : ByteArray} (h : 0 < s.size) : s.data.toList = s[0] :: s.data.toList.drop 1 := by
  have := List.drop_eq_getElem_cons (l := s.data.toList) (i := 0) (by simpa using h)
  rw [List.drop_zero] at this
  exact this
/-- The first place of a point, and what a data type's name is by it. -/
theorem data_split (n : List UInt8) : (∀ c ∈ n, c ≠ 46) ∨ ∃ i, ∃ h : i < n.length, n[i] = 46 ∧ (∀ j (h' : j < n.length), j < i → n[j] ≠ 46) := by
  by_cases h : ∀ c ∈ n, c ≠ 46
  · exact .inl h
  · refine .inr ?_
    induction n with
    | nil => exact absurd (by simp) h
    | cons a n ih =>
      by_cases ha : a = 46
      · exact ⟨0, by simp, ha, fun j _ hj => by omega⟩
      · have h2 : ¬ ∀ c ∈ n, c ≠ 46 := fun h3 => h (by
          intro c hc
          rcases List.mem_cons.1 hc with rfl | hc
          · exact ha
          · exact h3 c hc)
        obtain ⟨i, hi, e, hj⟩ := ih h2
        refine ⟨i + 1, by simpa using hi, by simpa using e, fun j hj' hlt => ?_⟩
        cases j with
        | zero => exact ha
        | succ j => simpa using hj j (by simpa using hj') (by omega)
theorem take_point {n : List UInt8} {i : Nat} (h : i < n.length) (h1 : n[i] = 46) (h2 : ∀ j (h' : j < n.length), j < i → n[j] ≠ 46) : n.takeWhile (· ≠ 46) = n.take i ∧ n.dropWhile (· ≠ 46) = n.drop i := by
  induction n generalizing i with
  | nil => simp at h
  | cons a n ih =>
    cases i with
    | zero => simp at h1; simp [h1]
    | succ i =>
      have ha : a ≠ 46 := h2 0 (by simp) (by omega)
      obtain ⟨e1, e2⟩ := ih (i := i) (by simpa using h) (by simpa using h1) (fun j hj hlt => h2 (j + 1) (by simpa using hj) (by omega))
      rw [List.takeWhile_cons, List.dropWhile_cons, if_pos (by simpa using ha), if_pos (by simpa using ha), e1, e2]
      exact ⟨rfl, rfl⟩
theorem upper_no_point {n : List UInt8} (h : upperB n = true) : ∀ c ∈ n, c ≠ 46 := by
  cases n with
  | nil => simp [upperB] at h
  | cons c r =>
    simp only [upperB, Bool.and_eq_true, List.all_eq_true] at h
    intro x hx e
    subst e
    rcases List.mem_cons.1 hx with e | hx
    · rw [← e] at h; exact absurd h.1 (by decide)
    · exact absurd (h.2 _ hx) (by decide)
theorem drop_none : ∀ {n : List UInt8}, (∀ c ∈ n, c ≠ 46) → n.dropWhile (· ≠ 46) = []
  | [], _ => rfl
  | a :: n, h => by
    rw [List.dropWhile_cons, if_pos (by simpa using h a (by simp))]
    exact drop_none fun c hc => h c (by simp [hc])
theorem data_plainly {n : List UInt8} (h : ∀ c ∈ n, c ≠ 46) : dataB n = (decide (n ≠ [73, 110, 116]) && decide (n.length ≤ 4096) && upperB n) := by
  have h1 : n.dropWhile (· ≠ 46) = [] := drop_none h
  simp only [dataB, h1]
  simp
theorem data_pointed {n : List UInt8} {i : Nat} (h : i < n.length) (h1 : n[i] = 46) (h2 : ∀ j (h' : j < n.length), j < i → n[j] ≠ 46) : dataB n = (decide (n ≠ [73, 110, 116]) && decide (n.length ≤ 4096) && (upperB (n.take i) && upperB (n.drop (i + 1)))) := by
  obtain ⟨e1, e2⟩ := take_point h h1 h2
  have hu : upperB n = false := by
    rw [Bool.eq_false_iff]
    intro hu
    exact upper_no_point hu _ (List.getElem_mem h) h1
  have h3 : n.drop i ≠ [] := by
    intro h0
    rw [List.drop_eq_nil_iff] at h0
    omega
  simp only [dataB, e1, e2, hu, List.drop_drop]
  simp [h3]
theorem point_ne {c : UInt8} (h : c ≠ 46) : ((c.toNat : Int) == 46) = false := by
  have : c.toNat ≠ 46 := fun e => h (UInt8.toNat_inj.1 e)
  simp
  omega

/-- What a node must be by itself. -/
def okB (k : Int) (n : List UInt8) (len : Nat) : Bool := if k = 1 then n.isEmpty && decide (len = 0) else if k = 2 then varB n && decide (len = 0) else if k = 3 then n.isEmpty && decide (len = 2) else if k = 4 then dataB n && decide (len ≤ 6) else false
theorem form_succ (d : Nat) (k : Int) (n : List UInt8) (ts : List (Tn d)) : formB (d + 1) ((k, n), ts) = (okB k n ts.length && ts.all (formB d)) := by
  have h0 : ∀ l : List (Tn d), l.isEmpty = decide (l.length = 0) := fun l => by cases l <;> rfl
  show ((if k = 1 then n.isEmpty && ts.isEmpty else if k = 2 then varB n && ts.isEmpty else if k = 3 then n.isEmpty && decide (ts.length = 2) else if k = 4 then dataB n && decide (ts.length ≤ 6) else false) && ts.all (formB d)) = _
  rw [h0]
  rfl
theorem drop_all' {α : Type} {p : α → Bool} {l : List α} {j : Nat} (h : j < l.length) : (l.drop j).all p = (p l[j] && (l.drop (j + 1)).all p) := by
  rw [List.drop_eq_getElem_cons h, List.all_cons]
theorem bytes_list (n : List UInt8) : (⟨n.toArray⟩ : ByteArray).toList = n := by rw [ByteArray.toList_eq]
/-- What is wrong with a tree: nothing (0), its form (53), its size (4). -/
def wrongT (d : Nat) (t : Tn d) : Int := if formB d t = true then (if 500 < (flat d t).length then 4 else 0) else 53

theorem var_len {n : List UInt8} (h : varB n = true) : n.length ≤ 4096 := by
  simp only [varB, Bool.and_eq_true, decide_eq_true_eq] at h
  exact h.1
theorem data_len {n : List UInt8} (h : dataB n = true) : n.length ≤ 4096 := by
  simp only [dataB, Bool.and_eq_true, decide_eq_true_eq] at h
  exact h.1.2
theorem args_len (d : Nat) (ih : ∀ t : Tn d, formB d t = true → (textT d t).length ≤ 4104 * (flat d t).length) : ∀ ts : List (Tn d), (∀ a ∈ ts, formB d a = true) → (argsT d ts).length ≤ 4104 * (flats d ts).length + ts.length
  | [], _ => by simp [argsT, flats]
  | t :: ts, h => by
    rw [argsT_cons, flats_cons, List.length_cons, List.length_append, List.length_append, List.length_cons]
    have h1 := ih t (h t (by simp))
    have h2 := args_len d ih ts fun a ha => h a (by simp [ha])
    omega
theorem text_len : ∀ (d : Nat) (t : Tn d), formB d t = true → (textT d t).length ≤ 4104 * (flat d t).length
  | 0, t, _ => t.elim
  | d + 1, t, h => by
    rcases form_cases h with rfl | ⟨n, hn, rfl⟩ | ⟨a, b, ha, hb, rfl⟩ | ⟨n, ts, hn, hl, hts, rfl⟩
    · rw [text_int, flat_succ]; simp; omega
    · rw [text_var, flat_succ]
      have := var_len hn
      simp
      omega
    · rw [text_fun, flat_succ, flats_cons, flats_cons, flats_nil]
      have h1 := text_len d a ha
      have h2 := text_len d b hb
      simp
      omega
    · have := data_len hn
      cases ts with
      | nil => rw [text_data0, flat_succ]; simp; omega
      | cons t ts =>
        rw [text_data, flat_succ]
        have h2 := args_len d (text_len d) (t :: ts) hts
        simp only [List.length_cons, List.length_append] at h2 hl ⊢
        simp
        omega
theorem flat_le {d : Nat} : ∀ {ts : List (Tn d)} {j : Nat} (h : j < ts.length), (flat d ts[j]).length ≤ (flats d ts).length
  | [], _, h => by simp at h
  | t :: ts, 0, _ => by rw [flats_cons, List.length_append]; show (flat d t).length ≤ _; omega
  | t :: ts, j + 1, h => by
    rw [flats_cons, List.length_append]
    have hj : j < ts.length := by simpa using h
    have := flat_le (ts := ts) (j := j) hj
    show (flat d ts[j]).length ≤ _
    omega
/-- The string of a row of bytes. -/
abbrev strV (l : List UInt8) : Value := .string ⟨l.toArray⟩
theorem str_append (a b : List UInt8) : (⟨a.toArray⟩ : ByteArray) ++ ⟨b.toArray⟩ = ⟨(a ++ b).toArray⟩ := by
  apply ByteArray.ext
  simp [ByteArray.data_append]
theorem str_fun (ta tb : List UInt8) : (⟨#[40]⟩ : ByteArray) ++ ⟨ta.toArray⟩ ++ ⟨#[32, 45, 62, 32]⟩ ++ ⟨tb.toArray⟩ ++ ⟨#[41]⟩ = ⟨(40 :: (ta ++ ([32, 45, 62, 32] ++ (tb ++ [41])))).toArray⟩ := by
  apply ByteArray.ext
  simp [ByteArray.data_append]
theorem str_open (ta : List UInt8) : (⟨#[40]⟩ : ByteArray) ++ ⟨ta.toArray⟩ = ⟨(40 :: ta).toArray⟩ := by
  apply ByteArray.ext
  simp [ByteArray.data_append]
theorem str_more (ta tb : List UInt8) : (⟨ta.toArray⟩ : ByteArray) ++ ⟨#[32]⟩ ++ ⟨tb.toArray⟩ = ⟨(ta ++ 32 :: tb).toArray⟩ := by
  apply ByteArray.ext
  simp [ByteArray.data_append]
theorem str_shut (ta : List UInt8) : (⟨ta.toArray⟩ : ByteArray) ++ ⟨#[41]⟩ = ⟨(ta ++ [41]).toArray⟩ := by
  apply ByteArray.ext
  simp [ByteArray.data_append]
/-- What Print answers. -/
def printV (d : Nat) (t : Tn d) : Value := if wrongT d t ≠ 0 then .tuple #[.string ⟨#[]⟩, .int .i64 (wrongT d t)] else if 65536 < (textT d t).length then .tuple #[.string ⟨#[]⟩, .int .i64 4] else .tuple #[strV (textT d t), .int .i64 0]
theorem wrong_zero {d : Nat} {t : Tn d} (h : wrongT d t = 0) : formB d t = true ∧ (flat d t).length ≤ 500 := by
  unfold wrongT at h
  split at h
  · rename_i hf
    split at h
    · cases h
    · exact ⟨hf, by omega⟩
  · cases h
theorem wrong_range (d : Nat) (t : Tn d) : wrongT d t = 0 ∨ wrongT d t = 4 ∨ wrongT d t = 53 := by
  unfold wrongT
  split
  · split <;> simp
  · simp

/-- What is left of a text from a place on. -/
def rs (s : ByteArray) (k : Nat) : List UInt8 := s.data.toList.drop k
theorem rs_len (s : ByteArray) (k : Nat) : (rs s k).length = s.size - k := by simp [rs]
theorem extract_list (s : ByteArray) (a b : Nat) : (s.extract a b).data.toList = (rs s a).take (b - a) := by
  rw [ByteArray.data_extract, Array.toList_extract, List.extract_eq_take_drop]
  rfl
theorem rs_drop (s : ByteArray) (k m : Nat) : (rs s k).drop m = rs s (k + m) := by simp [rs]
/-- Does a text begin so? -/
def begB (c l : List UInt8) : Bool := decide (l.take c.length = c)
/-- The word at a text's beginning. -/
def wordL (l : List UInt8) : List UInt8 := l.takeWhile fun c => !endB c
theorem word_split (l : List UInt8) : ∃ r, l = wordL l ++ r ∧ (∀ c ∈ wordL l, endB c = false) ∧ Ends r := by
  refine ⟨l.dropWhile fun c => !endB c, List.takeWhile_append_dropWhile.symm, fun c hc => ?_, fun c hc => ?_⟩
  · have := List.all_eq_true.1 (List.all_takeWhile (p := fun c => !endB c) (l := l)) c hc
    simpa using this
  · cases hd : l.dropWhile fun c => !endB c with
    | nil => simp [hd] at hc
    | cons x r =>
      have := List.head_dropWhile_not (fun c => !endB c) (l := l) (by rw [hd]; simp)
      simp only [hd, List.head_cons] at this
      simp [hd] at hc
      subst hc
      simpa using this
theorem word_of {a r : List UInt8} (h1 : ∀ c ∈ a, endB c = false) (h2 : Ends r) : wordL (a ++ r) = a := by
  obtain ⟨r', e, g1, g2⟩ := word_split (a ++ r)
  exact (word_eq h1 g1 h2 g2 e).1.symm
theorem end_ne {c : UInt8} : endB c = (decide (c.toNat = 32) || decide (c.toNat = 40) || decide (c.toNat = 41)) := by
  unfold endB
  have e : ∀ x : UInt8, (c == x) = decide (c.toNat = x.toNat) := fun x => by
    rw [Bool.eq_iff_iff]
    simp [UInt8.toNat_inj]
  rw [e, e, e]
  rfl
theorem rs_cons {s : ByteArray} {k : Nat} (h : k < s.size) : rs s k = s[k] :: rs s (k + 1) := by
  unfold rs
  rw [List.drop_eq_getElem_cons (by simpa using h)]
  rfl

/-- The type that is one word. -/
def leafT (n : List UInt8) : Option (Int × List UInt8) := if n = [73, 110, 116] then some (1, []) else if varB n = true then some (2, n) else if dataB n = true then some (4, n) else none
theorem leaf_form {n : List UInt8} {k : Int} {m : List UInt8} (h : leafT n = some (k, m)) : formB 1 ((k, m), []) = true ∧ textT 1 ((k, m), []) = n := by
  unfold leafT at h
  split at h
  · rename_i e
    simp at h
    obtain ⟨rfl, rfl⟩ := h
    exact ⟨rfl, e.symm⟩
  split at h
  · rename_i e
    simp at h
    obtain ⟨rfl, rfl⟩ := h
    exact ⟨by rw [form_succ]; simp [okB, e], rfl⟩
  split at h
  · rename_i e
    simp at h
    obtain ⟨rfl, rfl⟩ := h
    exact ⟨by rw [form_succ]; simp [okB, e], rfl⟩
  · cases h
theorem leaf_none {n : List UInt8} (h : leafT n = none) : n ≠ [73, 110, 116] ∧ varB n = false ∧ dataB n = false := by
  unfold leafT at h
  split at h
  · cases h
  split at h
  · cases h
  split at h
  · cases h
  · rename_i a b c
    exact ⟨a, by simpa using b, by simpa using c⟩
theorem leaf_len {n : List UInt8} {k : Int} {m : List UInt8} (h : leafT n = some (k, m)) : m.length ≤ n.length := by
  unfold leafT at h
  split at h
  · simp at h; rw [h.2]; simp
  split at h
  · simp at h; rw [h.2]; exact Nat.le_refl _
  split at h
  · simp at h; rw [h.2]; exact Nat.le_refl _
  · cases h

theorem args_ends {d : Nat} (l : List (Tn d)) (r : List UInt8) : Ends (argsT d l ++ 41 :: r) := by
  cases l with
  | nil => exact ends_cons rfl
  | cons a l => rw [argsT_cons]; exact ends_cons rfl
theorem args_blank {d : Nat} {ts : List (Tn d)} {l r : List UInt8} (h : 32 :: l = argsT d ts ++ 41 :: r) : ∃ u us, ts = u :: us ∧ l = textT d u ++ (argsT d us ++ 41 :: r) := by
  cases ts with
  | nil => simp [argsT] at h
  | cons u us =>
    rw [argsT_cons] at h
    simp only [List.cons_append, List.append_assoc, List.cons.injEq, true_and] at h
    exact ⟨u, us, rfl, h⟩
theorem args_step {m d : Nat} {t : Tn m} {l r1 r : List UInt8} {ts : List (Tn d)} (hl : l = textT m t ++ r1) (hf : formB m t = true) (he : Leaf m t → Ends r1) (hts : ∀ a ∈ ts, formB d a = true) (h : 32 :: l = argsT d ts ++ 41 :: r) :
    ∃ us : List (Tn d), (∀ a ∈ us, formB d a = true) ∧ r1 = argsT d us ++ 41 :: r ∧ ts.length = us.length + 1 := by
  obtain ⟨u, us, rfl, h1⟩ := args_blank h
  have := text_inj2 m t d u r1 _ hf (hts u (by simp)) he (fun _ => args_ends us r) (by rw [← hl, h1])
  exact ⟨us, fun a ha => hts a (by simp [ha]), this.2, rfl⟩
theorem args_fail {d : Nat} {l r : List UInt8} {ts : List (Tn d)} (hno : ∀ d (t : Tn d) r, formB d t = true → l = textT d t ++ r → (Leaf d t → Ends r) → False) (hts : ∀ a ∈ ts, formB d a = true) (h : 32 :: l = argsT d ts ++ 41 :: r) : False := by
  obtain ⟨u, us, rfl, h1⟩ := args_blank h
  exact hno d u _ (hts u (by simp)) h1 fun _ => args_ends us r
theorem args_end {d : Nat} {l r : List UInt8} {ts : List (Tn d)} (hb : begB [32] l = false) (h : l = argsT d ts ++ 41 :: r) : ts = [] ∧ l = 41 :: r := by
  cases ts with
  | nil => exact ⟨rfl, by simpa [argsT] using h⟩
  | cons u us =>
    rw [argsT_cons] at h
    rw [h] at hb
    simp [begB] at hb
theorem beg_one {c : UInt8} {l : List UInt8} (h : begB [c] l = true) : ∃ r, l = c :: r := by
  cases l with
  | nil => simp [begB] at h
  | cons x r => simp [begB] at h; exact ⟨r, by rw [h]⟩
theorem beg_arrow {l : List UInt8} (h : begB [32, 45, 62, 32] l = true) : ∃ r, l = [32, 45, 62, 32] ++ r := by
  have h := of_decide_eq_true h
  refine ⟨l.drop 4, ?_⟩
  have h4 : l.take 4 = [32, 45, 62, 32] := h
  rw [← h4, List.take_append_drop]
theorem beg_self (c r : List UInt8) : begB c (c ++ r) = true := by
  unfold begB
  rw [decide_eq_true_eq, List.take_left']
  rfl
/-- Behind a bracket: a data type with arguments. -/
theorem open_data {d : Nat} {t : Tn d} {l1 l2 r : List UInt8} (ht : formB d t = true) (h : 40 :: l1 = textT d t ++ r) (h1 : l1 = wordL l1 ++ l2) (hE : Ends l2) (hd : dataB (wordL l1) = true) (hn : begB [32, 45, 62, 32] l2 = false) :
    ∃ (e : Nat) (ts : List (Tn e)), ts ≠ [] ∧ ts.length ≤ 6 ∧ (∀ a ∈ ts, formB e a = true) ∧ l2 = argsT e ts ++ 41 :: r := by
  cases d with
  | zero => exact t.elim
  | succ d =>
    have hp := data_plain hd
    rcases text_three ht with lt | ⟨a, b, ha, hb, rfl⟩ | ⟨n, x, xs, hn', hx, rfl⟩
    · exact (not_open lt.1 lt.2.1 h.symm).elim
    · rw [text_fun] at h
      simp only [List.cons_append, List.append_assoc, List.cons.injEq, true_and, List.nil_append] at h
      rcases text_kinds ha with ⟨m1, m2, _⟩ | ⟨y, e3⟩
      · have h2 := word_eq hp.2 m2 hE (ends_cons rfl) (h1.symm.trans h)
        rw [h2.2] at hn
        exact absurd (beg_self [32, 45, 62, 32] (textT d b ++ 41 :: r)) (by rw [show [32, 45, 62, 32] ++ (textT d b ++ 41 :: r) = 32 :: 45 :: 62 :: 32 :: (textT d b ++ 41 :: r) from rfl, hn]; decide)
      · rw [e3] at h
        exact (not_open hp.1 hp.2 (h1.symm.trans h)).elim
    · rw [text_data] at h
      simp only [List.cons_append, List.append_assoc, List.cons.injEq, true_and, List.nil_append] at h
      have h2 := word_eq hp.2 (data_plain hn').2 hE (args_ends (x :: xs) r) (h1.symm.trans h)
      have hl : (x :: xs).length ≤ 6 := by
        rcases form_cases ht with e | ⟨_, _, e⟩ | ⟨_, _, _, _, e⟩ | ⟨n', ts', _, hl, _, e⟩
        · cases e
        · cases e
        · cases e
        · cases e; exact hl
      exact ⟨d, x :: xs, by simp, hl, hx, h2.2⟩
/-- Behind a bracket: a function. -/
theorem open_fun {d : Nat} {t : Tn d} {l1 l2 r : List UInt8} (ht : formB d t = true) (h : 40 :: l1 = textT d t ++ r) (h1 : l1 = wordL l1 ++ l2) (hE : Ends l2) (hP : ∀ c ∈ wordL l1, endB c = false) (hn : dataB (wordL l1) = true → begB [32, 45, 62, 32] l2 = true) :
    ∃ (e : Nat) (a b : Tn e), formB e a = true ∧ formB e b = true ∧ l1 = textT e a ++ ([32, 45, 62, 32] ++ (textT e b ++ 41 :: r)) := by
  cases d with
  | zero => exact t.elim
  | succ d =>
    rcases text_three ht with lt | ⟨a, b, ha, hb, rfl⟩ | ⟨n, x, xs, hn', hx, rfl⟩
    · exact (not_open lt.1 lt.2.1 h.symm).elim
    · rw [text_fun] at h
      simp only [List.cons_append, List.append_assoc, List.cons.injEq, true_and] at h
      exact ⟨d, a, b, ha, hb, h⟩
    · rw [text_data] at h
      simp only [List.cons_append, List.append_assoc, List.cons.injEq, true_and, List.nil_append] at h
      have h2 := word_eq hP (data_plain hn').2 hE (args_ends (x :: xs) r) (h1.symm.trans h)
      obtain ⟨q, e⟩ := beg_arrow (hn (by rw [h2.1]; exact hn'))
      rw [h2.2, argsT_cons] at e
      obtain ⟨c, p, e4, hc⟩ := text_head (hx x (by simp))
      rw [e4] at e
      simp at e
      exact (hc e.1).elim
end Go.Proofs.YthcejnpknjepfaaGreatDoor
