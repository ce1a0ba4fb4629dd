/- The world in which a text is cut: the cutter, the token at hand, the tokens so far in a row of their own, all that was there before as it was. -/
import Derived.Test.YtkfhdmkdkphmoaaGreatDoorTok
import Derived.Test.YtkfhdmkdkphmoaaGreatDoorScope2
import Derived.Deep.AppendLies
namespace Go.Proofs.YtkfhdmkdkphmoaaGreatDoor
open Go.RowKit

abbrev Tk := Nat × List UInt8 × Nat × Nat
/-- A token's four cells. -/
def tokCells (t : Tk) : List Value := [.int .i64 t.1, .string ⟨t.2.1.toArray⟩, .int .i64 t.2.2.1, .int .i64 t.2.2.2]
def rowCells (ts : List Tk) : List Value := ts.flatMap tokCells

structure CutW (w W : World) (s : ByteArray) (cb tb : Nat) (f a : Int) (tk : Value) (ts : List Tk) (v0 : Int) (v1 : ByteArray) (v2 v3 : Int) : Prop where
  cut : W.heap[cb]? = some (.cells #[.string s, .int .i64 f, .int .i64 a, tk] 47 (0, 0))
  tok : W.heap[tb]? = some (.cells #[.int .i64 v0, .string v1, .int .i64 v2, .int .i64 v3] 39 (0, 0))
  own : W.ownsRow (tb + 1) 39 4 tk ts.length (rowCells ts)
  bel : Below cb w W
  lt : cb < tb
  one : 1 < cb

section
variable {w W : World} {s : ByteArray} {cb tb : Nat} {f a : Int} {tk : Value} {ts : List Tk} {v0 v2 v3 : Int} {v1 : ByteArray}

theorem CutW.cl (T : CutW w W s cb tb f a tk ts v0 v1 v2 v3) (h : Cl w) : Cl W := h.below T.bel T.one

theorem CutW.cells (T : CutW w W s cb tb f a tk ts v0 v1 v2 v3) :
    W.cell? ⟨cb, 0, none⟩ = some (.string s) ∧ W.cell? ⟨cb, 1, none⟩ = some (.int .i64 f) ∧ W.cell? ⟨cb, 2, none⟩ = some (.int .i64 a) ∧ W.cell? ⟨cb, 3, none⟩ = some tk ∧
    (∀ i, W.frozen? ⟨cb, i, none⟩ = false) ∧
    W.cell? ⟨tb, 0, none⟩ = some (.int .i64 v0) ∧ W.cell? ⟨tb, 1, none⟩ = some (.string v1) ∧ W.cell? ⟨tb, 2, none⟩ = some (.int .i64 v2) ∧ W.cell? ⟨tb, 3, none⟩ = some (.int .i64 v3) ∧
    (∀ i, W.frozen? ⟨tb, i, none⟩ = false) := by
  refine ⟨?_, ?_, ?_, ?_, fun i => frozen_block T.cut, ?_, ?_, ?_, ?_, fun i => frozen_block T.tok⟩
  all_goals first | exact (cell_block T.cut).trans rfl | exact (cell_block T.tok).trans rfl

theorem CutW.drew (T : CutW w W s cb tb f a tk ts v0 v1 v2 v3) : CutW w W.drew s cb tb f a tk ts v0 v1 v2 v3 := ⟨T.cut, T.tok, T.own, T.bel.drew, T.lt, T.one⟩
theorem CutW.drewN (T : CutW w W s cb tb f a tk ts v0 v1 v2 v3) (n : Nat) : CutW w (W.drewN n) s cb tb f a tk ts v0 v1 v2 v3 := by
  induction n with
  | zero => exact T
  | succ n ih => exact ih.drew
theorem CutW.setFrom (T : CutW w W s cb tb f a tk ts v0 v1 v2 v3) (x : Int) : CutW w (W.setCell ⟨cb, 1, none⟩ (.int .i64 x)) s cb tb x a tk ts v0 v1 v2 v3 := by
  have h := T.lt
  refine ⟨(setCell_block T.cut).trans rfl, ?_, ownsRow_setCell_below T.own (by show cb < tb + 1; omega) _, T.bel.setCell (Nat.le_refl _) _, T.lt, T.one⟩
  rw [Below.heap_setCell _ _ _ _ (by show tb ≠ cb; omega)]; exact T.tok
theorem CutW.setAt (T : CutW w W s cb tb f a tk ts v0 v1 v2 v3) (x : Int) : CutW w (W.setCell ⟨cb, 2, none⟩ (.int .i64 x)) s cb tb f x tk ts v0 v1 v2 v3 := by
  have h := T.lt
  refine ⟨(setCell_block T.cut).trans rfl, ?_, ownsRow_setCell_below T.own (by show cb < tb + 1; omega) _, T.bel.setCell (Nat.le_refl _) _, T.lt, T.one⟩
  rw [Below.heap_setCell _ _ _ _ (by show tb ≠ cb; omega)]; exact T.tok
theorem CutW.setTok (T : CutW w W s cb tb f a tk ts v0 v1 v2 v3) (x0 : Int) (x1 : ByteArray) (x2 x3 : Int) :
    CutW w ((((W.setCell ⟨tb, 0, none⟩ (.int .i64 x0)).setCell ⟨tb, 1, none⟩ (.string x1)).setCell ⟨tb, 2, none⟩ (.int .i64 x2)).setCell ⟨tb, 3, none⟩ (.int .i64 x3)) s cb tb f a tk ts x0 x1 x2 x3 := by
  have h := T.lt
  have hb : tb < tb + 1 := by omega
  refine ⟨?_, (setCell_block (setCell_block (setCell_block (setCell_block T.tok)))).trans rfl, ?_, ?_, T.lt, T.one⟩
  · rw [Below.heap_setCell _ _ _ _ (by show cb ≠ tb; omega), Below.heap_setCell _ _ _ _ (by show cb ≠ tb; omega), Below.heap_setCell _ _ _ _ (by show cb ≠ tb; omega), Below.heap_setCell _ _ _ _ (by show cb ≠ tb; omega)]; exact T.cut
  · exact ownsRow_setCell_below (ownsRow_setCell_below (ownsRow_setCell_below (ownsRow_setCell_below T.own hb _) hb _) hb _) hb _
  · exact (((T.bel.setCell (by show cb ≤ tb; omega) _).setCell (by show cb ≤ tb; omega) _).setCell (by show cb ≤ tb; omega) _).setCell (by show cb ≤ tb; omega) _
theorem CutW.setPlace (T : CutW w W s cb tb f a tk ts v0 v1 v2 v3) (x : Int) : CutW w (W.setCell ⟨tb, 3, none⟩ (.int .i64 x)) s cb tb f a tk ts v0 v1 v2 x := by
  have h := T.lt
  refine ⟨?_, (setCell_block T.tok).trans rfl, ownsRow_setCell_below T.own (by show tb < tb + 1; omega) _, T.bel.setCell (by show cb ≤ tb; omega) _, T.lt, T.one⟩
  rw [Below.heap_setCell _ _ _ _ (by show cb ≠ tb; omega)]; exact T.cut

/-- Behind the cutting of a token. -/
theorem CutW.token {W' : World} {a' : Int} (T : CutW w W s cb tb f a tk ts v0 v1 v2 v3) (hc : W'.heap[cb]? = some (.cells #[.string s, .int .i64 f, .int .i64 a', tk] 47 (0, 0))) (h : Apart W.heap.size cb W W') :
    CutW w W' s cb tb f a' tk ts v0 v1 v2 v3 := by
  have hlt := T.lt
  have hz := lt_of_heap T.tok
  refine ⟨hc, (h.block tb hz (by omega)).trans T.tok, ?_, ?_, T.lt, T.one⟩
  · refine ⟨T.own.1, ?_⟩
    rcases T.own.2 with h0 | ⟨g, cap, cur, rfl, hg, hh, rest⟩
    · exact .inl h0
    · exact .inr ⟨g, cap, cur, rfl, hg, (h.block g (lt_of_heap hh) (by omega)).trans hh, rest⟩
  · exact T.bel.trans (h.below (by omega))

/-- Behind the token's being put to the others. -/
theorem CutW.put {W' : World} {g cap n : Nat} {o : Obj} (T : CutW w W s cb tb f a tk ts v0 v1 v2 v3) (t : Tk) (hn : n = ts.length) (hc : rowCells (ts ++ [t]) = rowCells ts ++ [.int .i64 v0, .string v1, .int .i64 v2, .int .i64 v3])
    (hown : W'.ownsRow (tb + 1) 39 4 (.slice (some ⟨g, 0, none⟩) (n + 1) cap) (n + 1) (rowCells ts ++ [.int .i64 v0, .string v1, .int .i64 v2, .int .i64 v3])) (hg : (W.alloc o).grownBy W' tk.ownBlock) :
    CutW w (W'.setCell ⟨cb, 3, none⟩ (.slice (some ⟨g, 0, none⟩) (n + 1) cap)) s cb tb f a (.slice (some ⟨g, 0, none⟩) (n + 1) cap) (ts ++ [t]) v0 v1 v2 v3 := by
  subst hn
  have hlt := T.lt
  have hz := lt_of_heap T.tok
  have hz2 := lt_of_heap T.cut
  have hB : Below (tb + 1) W W' := (((Below.refl (tb + 1) W).alloc (by omega) o)).grown hg (by simp; omega) (fun k hk => (T.own.lt k hk).1)
  refine ⟨?_, ?_, ?_, ?_, T.lt, T.one⟩
  · exact (setCell_block ((hB.block cb (by omega)).trans T.cut)).trans rfl
  · rw [Below.heap_setCell _ _ _ _ (by show tb ≠ cb; omega)]; exact (hB.block tb (by omega)).trans T.tok
  · rw [hc]
    have := ownsRow_setCell_below hown (a := ⟨cb, 3, none⟩) (by show cb < tb + 1; omega) (.slice (some ⟨g, 0, none⟩) (ts.length + 1) cap)
    simpa using this
  · exact (T.bel.trans (hB.mono (by omega))).setCell (Nat.le_refl _) _
end

theorem rowCells_snoc (ts : List Tk) (t : Tk) : rowCells (ts ++ [t]) = rowCells ts ++ tokCells t := by simp [rowCells]

theorem Tryz.info39 : (Tryz.prog.info? 39).map (fun i => (i.zero, i.size, i.bytes)) = some (some (.agg #[.int .i64 0, .string ⟨#[]⟩, .int .i64 0, .int .i64 0]), 4, 40) := by kernel_rfl
end Go.Proofs.YtkfhdmkdkphmoaaGreatDoor
