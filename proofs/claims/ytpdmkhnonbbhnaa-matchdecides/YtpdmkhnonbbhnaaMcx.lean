/- Columns in memory. columnsOf: between the rounds. Rows of spots: as lists; rows of the call's own. columnsOf: between the columns. -/
import Derived.Test.YtpdmkhnonbbhnaaMbx
import Derived.Deep.AppendLies
import Derived.OwnWalk
namespace Go.Proofs.Ytpdmkhnonbbhnaa
open Go.RowKit

/-- A pattern that is not wild, with its row's number, in memory. -/
def SpP (w : World) (S : Nat → Prop) (g o : Nat) (s : Sp) : Prop := S g ∧ w.cell? ⟨g, o, none⟩ = some (.int .i64 s.1) ∧ ∃ pg po, w.cell? ⟨g, o + 1, none⟩ = some (.pointer (some ⟨pg, po, none⟩)) ∧ PtP w S pg po s.2
theorem SpP.on {w w' : World} {S : Nat → Prop} {g o : Nat} {s : Sp} (h : SpP w S g o s) (hb : Keeps S w w') : SpP w' S g o s := by
  obtain ⟨h0, h1, pg, po, h2, h3⟩ := h
  exact ⟨h0, (hb.cell (p := ⟨g, o, none⟩) h0).trans h1, pg, po, (hb.cell (p := ⟨g, o + 1, none⟩) h0).trans h2, h3.on hb⟩
theorem SpP.up {w : World} {S S' : Nat → Prop} {g o : Nat} {s : Sp} (h : SpP w S g o s) (hB : ∀ b, S b → S' b) : SpP w S' g o s := by
  obtain ⟨h0, h1, pg, po, h2, h3⟩ := h
  exact ⟨hB _ h0, h1, pg, po, h2, h3.up hB⟩
def Spots (w : World) (S : Nat → Prop) (v : Value) (l : List Sp) : Prop := RowP 2 (SpP w S) v l
theorem Spots.on {w w' : World} {S : Nat → Prop} {v : Value} {l : List Sp} (h : Spots w S v l) (hb : Keeps S w w') : Spots w' S v l := h.mono fun _ _ _ _ h => h.on hb
theorem Spots.up {w : World} {S S' : Nat → Prop} {v : Value} {l : List Sp} (h : Spots w S v l) (hB : ∀ b, S b → S' b) : Spots w S' v l := h.mono fun _ _ _ _ h => h.up hB
/-- Numbers from 0 on. -/
def Nats (w : World) (S : Nat → Prop) (v : Value) (l : List Nat) : Prop := RowP 1 (fun g o (x : Nat) => S g ∧ w.cell? ⟨g, o, none⟩ = some (.int .i64 x)) v l
theorem Nats.on {w w' : World} {S : Nat → Prop} {v : Value} {l : List Nat} (h : Nats w S v l) (hb : Keeps S w w') : Nats w' S v l := h.mono fun g o _ _ ⟨h0, h1⟩ => ⟨h0, (hb.cell (p := ⟨g, o, none⟩) h0).trans h1⟩
theorem Nats.up {w : World} {S S' : Nat → Prop} {v : Value} {l : List Nat} (h : Nats w S v l) (hB : ∀ b, S b → S' b) : Nats w S' v l := h.mono fun _ _ _ _ ⟨h0, h1⟩ => ⟨hB _ h0, h1⟩
/-- A column in memory: its block. -/
def ColP (w : World) (S : Nat → Prop) (cb : Nat) (c : Col) : Prop := S cb ∧ (∃ ad cap, w.cell? ⟨cb, 0, none⟩ = some (.slice ad c.1.length cap) ∧ Nats w S (.slice ad c.1.length cap) c.1) ∧ w.cell? ⟨cb, 1, none⟩ = some (.int .i64 c.2.1) ∧
  (∃ ad cap, w.cell? ⟨cb, 2, none⟩ = some (.slice ad c.2.2.length cap) ∧ Spots w S (.slice ad c.2.2.length cap) c.2.2) ∧ ∀ r, r < 200 → w.cell? ⟨cb, 3 + r, none⟩ = some (.bool (hasRow r c))
theorem ColP.on {w w' : World} {S : Nat → Prop} {cb : Nat} {c : Col} (h : ColP w S cb c) (hb : Keeps S w w') : ColP w' S cb c := by
  obtain ⟨h0, ⟨ad, cap, h1, h2⟩, h3, ⟨ad', cap', h4, h5⟩, h6⟩ := h
  exact ⟨h0, ⟨ad, cap, (hb.cell (p := ⟨cb, 0, none⟩) h0).trans h1, h2.on hb⟩, (hb.cell (p := ⟨cb, 1, none⟩) h0).trans h3, ⟨ad', cap', (hb.cell (p := ⟨cb, 2, none⟩) h0).trans h4, h5.on hb⟩, fun r hr => (hb.cell (p := ⟨cb, 3 + r, none⟩) h0).trans (h6 r hr)⟩
theorem ColP.up {w : World} {S S' : Nat → Prop} {cb : Nat} {c : Col} (h : ColP w S cb c) (hB : ∀ b, S b → S' b) : ColP w S' cb c := by
  obtain ⟨h0, ⟨ad, cap, h1, h2⟩, h3, ⟨ad', cap', h4, h5⟩, h6⟩ := h
  exact ⟨hB _ h0, ⟨ad, cap, h1, h2.up hB⟩, h3, ⟨ad', cap', h4, h5.up hB⟩, h6⟩
/-- A row of columns. -/
def Cols (w : World) (S : Nat → Prop) (v : Value) (l : List Col) : Prop := RowP 1 (fun g o c => S g ∧ ∃ cb, w.cell? ⟨g, o, none⟩ = some (.pointer (some ⟨cb, 0, none⟩)) ∧ ColP w S cb c) v l
theorem Cols.on {w w' : World} {S : Nat → Prop} {v : Value} {l : List Col} (h : Cols w S v l) (hb : Keeps S w w') : Cols w' S v l := h.mono fun g o _ _ ⟨h0, cb, h1, h2⟩ => ⟨h0, cb, (hb.cell (p := ⟨g, o, none⟩) h0).trans h1, h2.on hb⟩
theorem Cols.up {w : World} {S S' : Nat → Prop} {v : Value} {l : List Col} (h : Cols w S v l) (hB : ∀ b, S b → S' b) : Cols w S' v l := h.mono fun _ _ _ _ ⟨h0, cb, h1, h2⟩ => ⟨hB _ h0, cb, h1, h2.up hB⟩
/-- Lines. -/
def Lines (w : World) (S : Nat → Prop) (v : Value) (l : List (Nat × List Pt)) : Prop := RowP 2 (fun g o x => S g ∧ w.cell? ⟨g, o, none⟩ = some (.int .i64 x.1) ∧ ∃ ad cap, w.cell? ⟨g, o + 1, none⟩ = some (.slice ad x.2.length cap) ∧ Pats w S (.slice ad x.2.length cap) x.2) v l
theorem Lines.on {w w' : World} {S : Nat → Prop} {v : Value} {l : List (Nat × List Pt)} (h : Lines w S v l) (hb : Keeps S w w') : Lines w' S v l := h.mono fun g o _ _ ⟨h0, h1, ad, cap, h2, h3⟩ => ⟨h0, (hb.cell (p := ⟨g, o, none⟩) h0).trans h1, ad, cap, (hb.cell (p := ⟨g, o + 1, none⟩) h0).trans h2, h3.on hb⟩
theorem Lines.up {w : World} {S S' : Nat → Prop} {v : Value} {l : List (Nat × List Pt)} (h : Lines w S v l) (hB : ∀ b, S b → S' b) : Lines w S' v l := h.mono fun _ _ _ _ ⟨h0, h1, ad, cap, h2, h3⟩ => ⟨hB _ h0, h1, ad, cap, h2, h3.up hB⟩

theorem lt_of_heap {w : World} {b : Nat} {o : Obj} (h : w.heap[b]? = some o) : b < w.heap.size := by
  rcases Nat.lt_or_ge b w.heap.size with h1 | h1
  · exact h1
  · rw [Array.getElem?_eq_none h1] at h
    cases h
theorem new_block (w : World) (o : Obj) : (w.alloc o).heap[w.heap.size]? = some o := by
  show (w.heap.push o)[w.heap.size]? = _
  simp
theorem flat_get {α : Type} {k : Nat} {f : α → List Value} : ∀ (l : List α), (∀ x ∈ l, (f x).length = k) → ∀ j (h : j < l.length) i, i < k → (l.flatMap f)[j * k + i]? = (f l[j])[i]?
  | [], _, j, h, _, _ => by simp at h
  | a :: r, hk, 0, _, i, hi => by
    rw [List.flatMap_cons, List.getElem?_append_left (by rw [hk a (by simp)]; omega)]
    simp
  | a :: r, hk, j + 1, h, i, hi => by
    rw [List.flatMap_cons, List.getElem?_append_right (by rw [hk a (by simp), Nat.add_mul]; omega), hk a (by simp), show (j + 1) * k + i - k = j * k + i by rw [Nat.add_mul]; omega]
    exact flat_get r (fun x hx => hk x (by simp [hx])) j (by simpa using h) i hi
/-- A row of the call's own, thing by thing. -/
theorem own_row {α : Type} {w : World} {base e k : Nat} {v : Value} {f : α → List Value} {l : List α} (h : w.ownsRow base e k v l.length (l.flatMap f)) (hk : ∀ x ∈ l, (f x).length = k) :
    RowP k (fun g o x => (v.ownBlock = some g ∧ base ≤ g ∧ g < w.heap.size) ∧ ∀ i, i < k → w.cell? ⟨g, o + i, none⟩ = (f x)[i]?) v l := by
  by_cases h0 : l = []
  · subst h0
    refine .inl ⟨rfl, ?_⟩
    rcases h.2 with ⟨rfl, _⟩ | ⟨g, cap, _, rfl, _⟩
    · exact ⟨none, 0, rfl⟩
    · exact ⟨_, cap, rfl⟩
  · obtain ⟨hn, h1⟩ := id h
    rcases h1 with ⟨_, h1⟩ | ⟨g, cap, cur, rfl, h2, h3, h4, _⟩
    · exact absurd (List.length_eq_zero_iff.1 h1) h0
    · refine .inr ⟨g, 0, cap, rfl, h0, h4, fun j hj => ⟨⟨rfl, h2, lt_of_heap h3⟩, fun i hi => ?_⟩⟩
      have hc := h.cells (g := g) rfl
      have hx := flat_get l hk j hj i hi
      have hlt : i < (f l[j]).length := by rw [hk _ (List.getElem_mem hj)]; exact hi
      have := hc (j * k + i) _ (hx.trans (List.getElem?_eq_getElem hlt))
      rw [List.getElem?_eq_getElem hlt, ← this]
      congr 1
      unfold Addr.add
      split
      · rename_i e
        rw [show 0 + j * k + i = 0 by omega]
      · show (⟨g, 0 + j * k + i, none⟩ : Addr) = ⟨g, 0 + (j * k + i), none⟩
        rw [Nat.add_assoc]
/-- The column's block. -/
def colC (av : Value) (n : Nat) (sv : Value) (bs : List Bool) : Array Value := ([av, .int .i64 n, sv] ++ bs.map Value.bool).toArray
theorem colC_get (av : Value) (n : Nat) (sv : Value) (bs : List Bool) : (colC av n sv bs)[0]? = some av ∧ (colC av n sv bs)[1]? = some (.int .i64 n) ∧ (colC av n sv bs)[2]? = some sv ∧ ∀ r, (colC av n sv bs)[3 + r]? = bs[r]?.map Value.bool := by
  refine ⟨rfl, rfl, rfl, fun r => ?_⟩
  rw [show 3 + r = r + 1 + 1 + 1 by omega]
  simp [colC]
set_option maxRecDepth 100000 in
theorem colC_new (ad : Option Addr) (len cap : Nat) (n : Nat) : (Try.zeroCells92.setIfInBounds 0 (Value.slice ad len cap)).setIfInBounds 1 (Value.int .i64 n) = colC (.slice ad len cap) n (.slice none 0 0) (List.replicate 200 false) := by rfl
set_option maxHeartbeats 4000000 in
set_option maxRecDepth 10000 in
theorem wild_any {w : World} {S : Nat → Prop} {g o : Nat} {p : Pt} (h : PtP w S g o p) : Calls Try.prog 42 #[.pointer (some ⟨g, o, none⟩)] w fun r w' => r = .returned (.bool (wild p)) ∧ w' = w := by
  obtain ⟨_, h0, _⟩ := h.open
  unfold wild
  generalize p.kind = k at h0
  by_cases h1 : k = 1
  · subst h1
    go_enter Try.func42, Try.ntmps42
    go_wp2
    go_ret
    exact ⟨rfl, rfl⟩
  · have e1 : (k == 1) = false := by simpa using h1
    rw [e1, Bool.false_or]
    by_cases h2 : k = 2
    · subst h2
      go_enter Try.func42, Try.ntmps42
      go_wp2
      go_ret
      exact ⟨rfl, rfl⟩
    · have e2 : (k == 2) = false := by simpa using h2
      rw [e2]
      go_enter Try.func42, Try.ntmps42
      go_wp2
      go_ret
      exact ⟨rfl, rfl⟩
end Go.Proofs.Ytpdmkhnonbbhnaa

namespace Go.Proofs.Ytpdmkhnonbbhnaa
open Go.RowKit

/-- A spot: row, where its pattern lies, the pattern. -/
abbrev Sr := Nat × Nat × Nat × Pt
def sE (s : Sr) : List Value := [.int .i64 s.1, .pointer (some ⟨s.2.1, s.2.2.1, none⟩)]
def sS (s : Sr) : Sp := (s.1, s.2.2.2)
/-- Between the rounds over lines: a column is being made in block C. -/
structure Inn (w : World) (S : Nat → Prop) (lines : List (Nat × List Pt)) (av : Value) (n C : Nat) (W0 : World) (i : Nat) (sp : List Sr) (sv : Value) (bs : List Bool) (wi : World) : Prop where
  below : Below C W0 wi
  blk : wi.heap[C]? = some (.cells (colC av n sv bs) 92 (0, 0))
  own : wi.ownsRow (C + 1) 106 2 sv sp.length (sp.flatMap sE)
  is : sp.map sS = spotsOf n (lines.take i)
  pat : ∀ s ∈ sp, PtP w S s.2.1 s.2.2.1 s.2.2.2
  len : bs.length = 200
  has : ∀ r, r < 200 → bs[r]? = some (sp.any fun s => s.1 == r)
theorem Inn.start (w wr : World) (S : Nat → Prop) (lines : List (Nat × List Pt)) (av : Value) (n : Nat) : Inn w S lines av n wr.heap.size (wr.alloc (Obj.cells (colC av n (.slice none 0 0) (List.replicate 200 false)) 92)) 0 [] (.slice none 0 0) (List.replicate 200 false) (wr.alloc (Obj.cells (colC av n (.slice none 0 0) (List.replicate 200 false)) 92)) :=
  ⟨Below.refl _ _, new_block _ _, World.ownsRow_nil _ _ _ _, by simp [spotsOf], by simp, List.length_replicate, fun r hr => by rw [List.getElem?_replicate, if_pos hr]; rfl⟩
theorem own_keep {W W' : World} {b e size c : Nat} {v : Value} {xs : List Value} (h : W.ownsRow b e size v c xs) (hb : ∀ k, v.ownBlock = some k → W'.heap[k]? = W.heap[k]?) : W'.ownsRow b e size v c xs := by
  refine ⟨h.1, ?_⟩
  rcases h.2 with h | ⟨g, cap, cur, rfl, h1, h2, h3⟩
  · exact .inl h
  · exact .inr ⟨g, cap, cur, rfl, h1, (hb g rfl).trans h2, h3⟩
theorem Inn.lt {w : World} {S : Nat → Prop} {lines : List (Nat × List Pt)} {av : Value} {n C : Nat} {W0 : World} {i : Nat} {sp : List Sr} {sv : Value} {bs : List Bool} {wi : World} (h : Inn w S lines av n C W0 i sp sv bs wi) : C < wi.heap.size := lt_of_heap h.blk
theorem Inn.on {w : World} {S : Nat → Prop} {lines : List (Nat × List Pt)} {av : Value} {n C : Nat} {W0 : World} {i : Nat} {sp : List Sr} {sv : Value} {bs : List Bool} {wi wj : World} (h : Inn w S lines av n C W0 i sp sv bs wi) (hb : Below wi.heap.size wi wj) : Inn w S lines av n C W0 i sp sv bs wj :=
  ⟨h.below.trans (hb.mono (Nat.le_of_lt h.lt)), (hb.block _ h.lt).trans h.blk, own_keep h.own fun k hk => hb.block k (h.own.lt k hk).2, h.is, h.pat, h.len, h.has⟩
theorem spotsOf_snoc (n : Nat) (l : List (Nat × List Pt)) (i : Nat) (h : i < l.length) (hn : n < l[i].2.length) : spotsOf n (l.take (i + 1)) = spotsOf n (l.take i) ++ (if wild l[i].2[n] then [] else [(l[i].1, l[i].2[n])]) := by
  unfold spotsOf
  rw [List.take_add_one, List.getElem?_eq_getElem h, List.filterMap_append]
  congr 1
  simp only [Option.toList_some, List.filterMap_cons, List.getElem?_eq_getElem hn, List.filterMap_nil]
  cases wild l[i].2[n] <;> rfl
theorem Inn.skip {w : World} {S : Nat → Prop} {lines : List (Nat × List Pt)} {av : Value} {n C : Nat} {W0 : World} {i : Nat} {sp : List Sr} {sv : Value} {bs : List Bool} {wi : World} (h : Inn w S lines av n C W0 i sp sv bs wi) (hi : i < lines.length) (hn : n < lines[i].2.length) (hw : wild lines[i].2[n] = true) : Inn w S lines av n C W0 (i + 1) sp sv bs wi :=
  ⟨h.below, h.blk, h.own, by rw [spotsOf_snoc n lines i hi hn, hw, h.is]; simp, h.pat, h.len, h.has⟩
theorem setCell_block {W : World} {b i : Nat} {c : Array Value} {t : TypeId} {v : Value} (h : W.heap[b]? = some (.cells c t (0, 0))) : (W.setCell ⟨b, i, none⟩ v).heap[b]? = some (.cells (c.setIfInBounds i v) t (0, 0)) := by
  simp [World.setCell, Array.getElem?_modify, h]
theorem colC_spots (av : Value) (n : Nat) (sv sv' : Value) (bs : List Bool) : (colC av n sv bs).setIfInBounds 2 sv' = colC av n sv' bs := by simp [colC]
theorem colC_has (av : Value) (n : Nat) (sv : Value) (bs : List Bool) (r : Nat) (b : Bool) : (colC av n sv bs).setIfInBounds (3 + r) (.bool b) = colC av n sv (bs.set r b) := by
  rw [show 3 + r = r + 1 + 1 + 1 by omega]
  simp [colC, List.map_set]
theorem Inn.push {w : World} {S : Nat → Prop} {lines : List (Nat × List Pt)} {av : Value} {n C : Nat} {W0 : World} {i : Nat} {sp : List Sr} {sv sv' : Value} {bs : List Bool} {wi w5 : World} (h : Inn w S lines av n C W0 i sp sv bs wi) (hi : i < lines.length) (hn : n < lines[i].2.length) (hw : wild lines[i].2[n] = false) {pg po : Nat} (hp : PtP w S pg po lines[i].2[n]) (hr : lines[i].1 < 200)
    (hown : w5.ownsRow (C + 1) 106 2 sv' (sp.length + 1) (sp.flatMap sE ++ [.int .i64 lines[i].1, .pointer (some ⟨pg, po, none⟩)])) (hg : wi.grownBy w5 sv.ownBlock) :
    w5.heap[C]? = some (.cells (colC av n sv bs) 92 (0, 0)) ∧ (w5.setCell ⟨C, 2, none⟩ sv').heap[C]? = some (.cells (colC av n sv' bs) 92 (0, 0)) ∧ Inn w S lines av n C W0 (i + 1) (sp ++ [(lines[i].1, pg, po, lines[i].2[n])]) sv' (bs.set lines[i].1 true) ((w5.setCell ⟨C, 2, none⟩ sv').setCell ⟨C, 3 + lines[i].1, none⟩ (.bool true)) := by
  have hsC : sv.ownBlock ≠ some C := fun e => by have := (h.own.lt C e).1; omega
  have b5 : w5.heap[C]? = some (.cells (colC av n sv bs) 92 (0, 0)) := (hg.block C h.lt (fun e => hsC e.symm)).trans h.blk
  have b6 : (w5.setCell ⟨C, 2, none⟩ sv').heap[C]? = some (.cells (colC av n sv' bs) 92 (0, 0)) := (setCell_block b5).trans (by rw [colC_spots])
  refine ⟨b5, b6, ?_, ?_, ?_, ?_, ?_, by simpa using h.len, ?_⟩
  · refine ((h.below.grown hg (Nat.le_of_lt h.lt) (fun k e => ?_)).setCell (p := ⟨C, 2, none⟩) (Nat.le_refl _) _).setCell (p := ⟨C, 3 + lines[i].1, none⟩) (Nat.le_refl _) _
    have := (h.own.lt k e).1
    omega
  · refine (setCell_block b6).trans ?_
    rw [colC_has]
  · have : w5.ownsRow (C + 1) 106 2 sv' (sp ++ [(lines[i].1, pg, po, lines[i].2[n])]).length ((sp ++ [(lines[i].1, pg, po, lines[i].2[n])]).flatMap sE) := by
      rw [List.flatMap_append, List.length_append]
      exact hown
    refine own_keep this fun k hk => ?_
    have hk1 := (this.lt k hk).1
    rw [Below.heap_setCell _ _ _ _ (show k ≠ C by omega), Below.heap_setCell _ _ _ _ (show k ≠ C by omega)]
  · rw [spotsOf_snoc n lines i hi hn, hw, List.map_append, h.is]
    rfl
  · intro s hs
    rcases List.mem_append.1 hs with hs | hs
    · exact h.pat s hs
    · have : s = (lines[i].1, pg, po, lines[i].2[n]) := by simpa using hs
      rw [this]
      exact hp
  · intro r hr'
    rw [List.getElem?_set, List.any_append]
    by_cases e : lines[i].1 = r
    · rw [if_pos e, if_pos (by rw [h.len]; exact hr), ← e]
      simp
    · rw [if_neg e, h.has r hr']
      simp [e]
theorem heap_cell {w : World} {b i : Nat} {c : Array Value} {t : TypeId} {f : Nat × Nat} {u : Value} (h : w.heap[b]? = some (.cells c t f)) (hu : c[i]? = some u) : w.cell? ⟨b, i, none⟩ = some u := by
  simp only [World.cell?, h]
  exact hu
/-- The column when all lines were looked at. -/
theorem Inn.col {w : World} {S : Nat → Prop} {lines : List (Nat × List Pt)} {around : List Nat} {ad : Option Addr} {cap n C : Nat} {W0 : World} {sp : List Sr} {sv : Value} {bs : List Bool} {wi : World} (h : Inn w S lines (.slice ad around.length cap) n C W0 lines.length sp sv bs wi) (hA : Nats w S (.slice ad around.length cap) around) (hS : ∀ b, S b → b < w.heap.size) (hb : Below w.heap.size w wi) :
    sp.length = (spotsOf n lines).length ∧ ∃ va vc, sv = .slice va (spotsOf n lines).length vc ∧ ColP wi (fun b => S b ∨ b = C ∨ sv.ownBlock = some b) C (around, n, spotsOf n lines) := by
  obtain ⟨c0, c1, c2, c3⟩ := colC_get (.slice ad around.length cap) n sv bs
  have his : sp.map sS = spotsOf n lines := by have := h.is; rwa [List.take_length] at this
  have hlen : sp.length = (spotsOf n lines).length := by rw [← his, List.length_map]
  have hk : Keeps S w wi := Keeps.of hb hS
  have hrow := own_row h.own (fun _ _ => rfl)
  obtain ⟨va, vc, hv⟩ := hrow.len
  rw [hlen] at hv
  refine ⟨hlen, va, vc, hv, .inr (.inl rfl), ⟨ad, cap, heap_cell h.blk c0, (hA.on hk).up fun b hb => .inl hb⟩, heap_cell h.blk c1, ⟨va, vc, by rw [heap_cell h.blk c2, hv], ?_⟩, fun r hr => ?_⟩
  · rw [← hv]
    show Spots wi _ sv (spotsOf n lines)
    rw [← his]
    have hm : RowP 2 (fun g o s => SpP wi (fun b => S b ∨ b = C ∨ sv.ownBlock = some b) g o (sS s)) sv sp := by
      refine hrow.mono fun g o s hs h1 => ?_
      obtain ⟨⟨e1, _, _⟩, e2⟩ := h1
      exact ⟨.inr (.inr e1), e2 0 (by omega), s.2.1, s.2.2.1, e2 1 (by omega), ((h.pat s hs).on hk).up fun b hb => .inl hb⟩
    exact hm.map sS fun _ _ _ h => h
  · refine heap_cell h.blk ((c3 r).trans ?_)
    rw [h.has r hr]
    show some (Value.bool _) = some (Value.bool ((spotsOf n lines).any fun s => s.1 == r))
    rw [← his, List.any_map]
    rfl
end Go.Proofs.Ytpdmkhnonbbhnaa

namespace Go.Proofs.Ytpdmkhnonbbhnaa
open Go.RowKit

theorem spots_list {w : World} {S : Nat → Prop} {g : Nat} : ∀ (l : List Sp) (o : Nat), (∀ j (h : j < l.length), SpP w S g (o + j * 2) l[j]) →
    ∃ L : List Sr, L.map sS = l ∧ (∀ j (h : j < L.length), S g ∧ w.cell? ⟨g, o + j * 2, none⟩ = some (.int .i64 L[j].1) ∧ w.cell? ⟨g, o + j * 2 + 1, none⟩ = some (.pointer (some ⟨L[j].2.1, L[j].2.2.1, none⟩))) ∧ ∀ s ∈ L, PtP w S s.2.1 s.2.2.1 s.2.2.2
  | [], _, _ => ⟨[], rfl, fun j h => by simp at h, by simp⟩
  | a :: r, o, h => by
    obtain ⟨L, h1, h2, h3⟩ := spots_list r (o + 2) (fun j hj => by
      have := h (j + 1) (by simpa using hj)
      rw [show o + (j + 1) * 2 = o + 2 + j * 2 by omega] at this
      exact this)
    obtain ⟨s0, s1, pg, po, s2, s3⟩ := h 0 (by simp)
    rw [show o + 0 * 2 = o by omega] at s1 s2
    refine ⟨(a.1, pg, po, a.2) :: L, by rw [List.map_cons, h1]; rfl, fun j hj => ?_, fun s hs => ?_⟩
    · cases j with
      | zero =>
        rw [show o + 0 * 2 = o by omega]
        exact ⟨s0, s1, s2⟩
      | succ j =>
        rw [show o + (j + 1) * 2 = o + 2 + j * 2 by omega]
        exact h2 j (by simpa using hj)
    · rcases List.mem_cons.1 hs with rfl | hs
      · exact s3
      · exact h3 s hs
/-- A row of spots, with where their patterns lie. -/
theorem Spots.list {w : World} {S : Nat → Prop} {v : Value} {l : List Sp} (h : Spots w S v l) : ∃ L : List Sr, L.map sS = l ∧ RowP 2 (fun g o (s : Sr) => S g ∧ w.cell? ⟨g, o, none⟩ = some (.int .i64 s.1) ∧ w.cell? ⟨g, o + 1, none⟩ = some (.pointer (some ⟨s.2.1, s.2.2.1, none⟩))) v L ∧ ∀ s ∈ L, PtP w S s.2.1 s.2.2.1 s.2.2.2 := by
  rcases h with ⟨rfl, h⟩ | ⟨g, o, cap, rfl, h0, hc, h⟩
  · exact ⟨[], rfl, .inl ⟨rfl, h⟩, by simp⟩
  · obtain ⟨L, h1, h2, h3⟩ := spots_list l o h
    have hl : L.length = l.length := by rw [← h1, List.length_map]
    exact ⟨L, h1, .inr ⟨g, o, cap, by rw [hl], fun e => h0 (by rw [← h1, e]; rfl), by rw [hl]; exact hc, h2⟩, h3⟩
theorem spots_own {W : World} {S : Nat → Prop} {base : Nat} {v : Value} {L : List Sr} (h : W.ownsRow base 106 2 v L.length (L.flatMap sE)) (hp : ∀ s ∈ L, PtP W S s.2.1 s.2.2.1 s.2.2.2) : Spots W (fun b => S b ∨ v.ownBlock = some b) v (L.map sS) := by
  have hrow := own_row h (fun _ _ => rfl)
  have hm : RowP 2 (fun g o s => SpP W (fun b => S b ∨ v.ownBlock = some b) g o (sS s)) v L := by
    refine hrow.mono fun g o s hs h1 => ?_
    obtain ⟨⟨e1, _, _⟩, e2⟩ := h1
    exact ⟨.inr e1, e2 0 (by omega), s.2.1, s.2.2.1, e2 1 (by omega), (hp s hs).up fun b hb => .inl hb⟩
  exact hm.map sS fun _ _ _ h => h
/-- Two rows of the call's own, in blocks of their own, from lo on. -/
structure Two (w : World) (lo : Nat) (L M : List Sr) (a b : Value) (wr : World) : Prop where
  below : Below lo w wr
  fst : wr.ownsRow lo 106 2 a L.length (L.flatMap sE)
  snd : wr.ownsRow lo 106 2 b M.length (M.flatMap sE)
  far : ∀ k, a.ownBlock = some k → b.ownBlock ≠ some k
theorem Two.on {w : World} {lo : Nat} {L M : List Sr} {a b : Value} {wr wi : World} (h : Two w lo L M a b wr) (hl : lo ≤ w.heap.size) (hb : Below wr.heap.size wr wi) : Two w lo L M a b wi :=
  ⟨h.below.trans (hb.mono (by have := h.below.size; omega)), own_keep h.fst fun k hk => hb.block k (h.fst.lt k hk).2, own_keep h.snd fun k hk => hb.block k (h.snd.lt k hk).2, h.far⟩
theorem Two.put1 {w : World} {lo : Nat} {L M : List Sr} {a b : Value} {wi w5 : World} {g cap H : Nat} {s : Sr} {o : Obj} (h : Two w lo L M a b wi) (hl : lo ≤ w.heap.size) (hown : w5.ownsRow lo 106 2 (.slice (some ⟨g, 0, none⟩) (L.length + 1) cap) (L.length + 1) (L.flatMap sE ++ sE s)) (hg : (wi.alloc o).grownBy w5 a.ownBlock) (hat : a.ownBlock = some g ∨ g = H) (hH : wi.heap.size ≤ H) :
    Two w lo (L ++ [s]) M (.slice (some ⟨g, 0, none⟩) (L.length + 1) cap) b w5 := by
  have hsz := h.below.size
  have hb : ∀ k, b.ownBlock = some k → w5.heap[k]? = wi.heap[k]? := fun k hk => by
    have hk1 := (h.snd.lt k hk).2
    rw [hg.block k (by simp; omega) (fun e => h.far k e.symm hk)]
    exact Below.heap_alloc _ _ _ hk1
  refine ⟨(h.below.alloc (by omega) o).grown hg (by simp; omega) (fun k e => (h.fst.lt k e).1), ?_, own_keep h.snd hb, fun k hk => ?_⟩
  · rw [List.flatMap_append, List.length_append]
    simpa using hown
  · have e : g = k := by simpa [Value.ownBlock] using hk
    subst e
    rcases hat with hat | hat
    · exact h.far _ hat
    · intro e
      have := (h.snd.lt _ e).2
      omega
theorem Two.swap {w : World} {lo : Nat} {L M : List Sr} {a b : Value} {wr : World} (h : Two w lo L M a b wr) : Two w lo M L b a wr := ⟨h.below, h.snd, h.fst, fun k hk e => h.far k e hk⟩
theorem Two.start (w : World) (lo : Nat) : Two w lo [] [] (.slice none 0 0) (.slice none 0 0) w := ⟨Below.refl _ _, World.ownsRow_nil _ _ _ _, World.ownsRow_nil _ _ _ _, fun k h => by cases h⟩
end Go.Proofs.Ytpdmkhnonbbhnaa

namespace Go.Proofs.Ytpdmkhnonbbhnaa
open Go.RowKit

def pE (c : Nat × Col) : List Value := [.pointer (some ⟨c.1, 0, none⟩)]
/-- The blocks of S, and those that the call has made, but for one row. -/
def Tn (w : World) (S : Nat → Prop) (wr : World) (lc : Value) (b : Nat) : Prop := S b ∨ (w.heap.size ≤ b ∧ b < wr.heap.size ∧ lc.ownBlock ≠ some b)
structure Outv (w : World) (S : Nat → Prop) (around : List Nat) (lines : List (Nat × List Pt)) (j : Nat) (cs : List (Nat × Col)) (lc : Value) (wr : World) : Prop where
  below : Below w.heap.size w wr
  own : wr.ownsRow w.heap.size 88 1 lc cs.length (cs.flatMap pE)
  is : cs.map (·.2) = colsOf around j lines
  col : ∀ c ∈ cs, ColP wr (Tn w S wr lc) c.1 c.2
theorem Outv.start (w : World) (S : Nat → Prop) (around : List Nat) (lines : List (Nat × List Pt)) : Outv w S around lines 0 [] (.slice none 0 0) w :=
  ⟨Below.refl _ _, World.ownsRow_nil _ _ _ _, rfl, by simp⟩
theorem colsOf_snoc (around : List Nat) (j : Nat) (lines : List (Nat × List Pt)) : colsOf around (j + 1) lines = colsOf around j lines ++ (if (spotsOf j lines).isEmpty then [] else [(around, j, spotsOf j lines)]) := by
  unfold colsOf
  rw [List.range_succ, List.filterMap_append]
  congr 1
  simp only [List.filterMap_cons, List.filterMap_nil]
  cases (spotsOf j lines).isEmpty <;> rfl
theorem Outv.on {w : World} {S : Nat → Prop} {around : List Nat} {lines : List (Nat × List Pt)} {j : Nat} {cs : List (Nat × Col)} {lc : Value} {wr wi : World} (h : Outv w S around lines j cs lc wr) (hS : ∀ b, S b → b < w.heap.size) (hb : Below wr.heap.size wr wi) : Outv w S around lines j cs lc wi := by
  refine ⟨h.below.trans (hb.mono h.below.size), own_keep h.own fun k hk => hb.block k (h.own.lt k hk).2, h.is, fun c hc => ?_⟩
  refine ((h.col c hc).on (Keeps.of hb fun b hb' => ?_)).up fun b hb' => ?_
  · rcases hb' with hb' | ⟨_, hb', _⟩
    · have := hS b hb'
      have := h.below.size
      omega
    · exact hb'
  · rcases hb' with hb' | ⟨h1, h2, h3⟩
    · exact .inl hb'
    · exact .inr ⟨h1, by have := hb.size; omega, h3⟩
theorem Outv.skip {w : World} {S : Nat → Prop} {around : List Nat} {lines : List (Nat × List Pt)} {j : Nat} {cs : List (Nat × Col)} {lc : Value} {wr : World} (h : Outv w S around lines j cs lc wr) (he : spotsOf j lines = []) : Outv w S around lines (j + 1) cs lc wr :=
  ⟨h.below, h.own, by rw [colsOf_snoc, he, h.is]; simp, h.col⟩
theorem Outv.push {w : World} {S : Nat → Prop} {around : List Nat} {lines : List (Nat × List Pt)} {j : Nat} {cs : List (Nat × Col)} {lc : Value} {wi w7 : World} {C g cap H : Nat} {sv : Value} {o : Obj} (h : Outv w S around lines j cs lc wi) (hS : ∀ b, S b → b < w.heap.size) (hne : spotsOf j lines ≠ []) (hc : ColP wi (fun b => S b ∨ b = C ∨ sv.ownBlock = some b) C (around, j, spotsOf j lines))
    (hC : w.heap.size ≤ C ∧ C < wi.heap.size ∧ lc.ownBlock ≠ some C) (hsv : ∀ b, sv.ownBlock = some b → w.heap.size ≤ b ∧ b < wi.heap.size ∧ lc.ownBlock ≠ some b)
    (hown : w7.ownsRow w.heap.size 88 1 (.slice (some ⟨g, 0, none⟩) (cs.length + 1) cap) (cs.length + 1) (cs.flatMap pE ++ [.pointer (some ⟨C, 0, none⟩)])) (hg : (wi.alloc o).grownBy w7 lc.ownBlock) (hat : lc.ownBlock = some g ∨ g = H) (hH : wi.heap.size ≤ H) :
    Outv w S around lines (j + 1) (cs ++ [(C, (around, j, spotsOf j lines))]) (.slice (some ⟨g, 0, none⟩) (cs.length + 1) cap) w7 := by
  have hsz : wi.heap.size ≤ w7.heap.size := by have := hg.size; simp at this; omega
  have hcol : ∀ b, Tn w S wi lc b → Tn w S w7 (.slice (some ⟨g, 0, none⟩) (cs.length + 1) cap) b := fun b hb => by
    rcases hb with hb | ⟨h1, h2, h3⟩
    · exact .inl hb
    · refine .inr ⟨h1, by omega, fun e => ?_⟩
      have e : g = b := by simpa [Value.ownBlock] using e
      rcases hat with hat | hat
      · exact h3 (by rw [hat, e])
      · omega
  have hkp : Keeps (Tn w S wi lc) wi w7 := fun b hb => by
    have hbl : b < wi.heap.size := by
      rcases hb with hb | ⟨_, h2, _⟩
      · have := hS b hb
        have := h.below.size
        omega
      · exact h2
    rw [hg.block b (by simp; omega) (fun e => ?_)]
    · exact Below.heap_alloc _ _ _ hbl
    · rcases hb with hb | ⟨_, _, h3⟩
      · have := (h.own.lt b e.symm).1
        have := hS b hb
        omega
      · exact h3 e.symm
  refine ⟨(h.below.alloc h.below.size o).grown hg (by have := h.below.size; simp; omega) (fun k e => (h.own.lt k e).1), ?_, ?_, fun c hc' => ?_⟩
  · rw [List.flatMap_append, List.length_append]
    exact hown
  · rw [List.map_append, h.is, colsOf_snoc, if_neg (by simpa using hne)]
    rfl
  · rcases List.mem_append.1 hc' with hc' | hc'
    · exact ((h.col c hc').on hkp).up hcol
    · have e : c = (C, (around, j, spotsOf j lines)) := by simpa using hc'
      rw [e]
      have hc2 : ColP wi (Tn w S wi lc) C (around, j, spotsOf j lines) := hc.up fun b hb => by
        rcases hb with hb | rfl | hb
        · exact .inl hb
        · exact .inr hC
        · exact .inr (hsv b hb)
      exact (hc2.on hkp).up hcol
theorem Outv.done {w : World} {S : Nat → Prop} {around : List Nat} {lines : List (Nat × List Pt)} {j : Nat} {cs : List (Nat × Col)} {lc : Value} {wr : World} (h : Outv w S around lines j cs lc wr) : Cols wr (fun b => S b ∨ (w.heap.size ≤ b ∧ b < wr.heap.size)) lc (colsOf around j lines) := by
  have hrow := own_row h.own (fun _ _ => rfl)
  have : RowP 1 (fun g o (c : Nat × Col) => (S g ∨ (w.heap.size ≤ g ∧ g < wr.heap.size)) ∧ ∃ cb, wr.cell? ⟨g, o, none⟩ = some (.pointer (some ⟨cb, 0, none⟩)) ∧ ColP wr (fun b => S b ∨ (w.heap.size ≤ b ∧ b < wr.heap.size)) cb c.2) lc cs := by
    refine hrow.mono fun g o c hc h1 => ?_
    obtain ⟨⟨_, e1, e2⟩, e3⟩ := h1
    refine ⟨.inr ⟨e1, e2⟩, c.1, e3 0 (by omega), (h.col c hc).up fun b hb => ?_⟩
    rcases hb with hb | ⟨h1, h2, _⟩
    · exact .inl hb
    · exact .inr ⟨h1, h2⟩
  rw [← h.is]
  exact RowP.map (fun c : Nat × Col => c.2) (fun _ _ _ h => h) this
end Go.Proofs.Ytpdmkhnonbbhnaa
