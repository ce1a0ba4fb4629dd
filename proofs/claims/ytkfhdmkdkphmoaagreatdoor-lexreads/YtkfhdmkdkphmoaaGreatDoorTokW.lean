/- The world in which a token is cut: the cutter, the token and the result in blocks of their own, all else as it was. -/
import Derived.Test.YtkfhdmkdkphmoaaGreatDoorW7
namespace Go.Proofs.YtkfhdmkdkphmoaaGreatDoor
open Go.RowKit

/-- Below B, but for block cb, the world is as it was. -/
structure Apart (B cb : Nat) (w w' : World) : Prop where
  os : w'.os = w.os
  tape : w'.tape = w.tape
  output : w'.output = w.output
  size : w.heap.size ≤ w'.heap.size
  block : ∀ k, k < B → k ≠ cb → w'.heap[k]? = w.heap[k]?

theorem Apart.of_below {B cb : Nat} {w w' : World} (h : Below B w w') : Apart B cb w w' := ⟨h.os, h.tape, h.output, h.size, fun k hk _ => h.block k hk⟩
theorem Apart.below {B cb : Nat} {w w' : World} (h : Apart B cb w w') (hc : cb ≤ B) : Below cb w w' := ⟨h.os, h.tape, h.output, h.size, fun k hk => h.block k (by omega) (by omega)⟩
theorem Apart.trans {B C cb : Nat} {w w' w'' : World} (h : Apart B cb w w') (h' : Apart C cb w' w'') (hB : B ≤ C) : Apart B cb w w'' :=
  ⟨h'.os.trans h.os, h'.tape.trans h.tape, h'.output.trans h.output, Nat.le_trans h.size h'.size, fun k hk hn => (h'.block k (by omega) hn).trans (h.block k hk hn)⟩
theorem Apart.setCell {B cb : Nat} {w w' : World} (h : Apart B cb w w') {b o : Nat} (hb : b = cb ∨ B ≤ b) (v : Value) : Apart B cb w (w'.setCell ⟨b, o, none⟩ v) :=
  ⟨h.os, h.tape, h.output, by rw [World.size_setCell]; exact h.size, fun k hk hn => by
    rw [Below.heap_setCell _ _ _ _ (by show k ≠ b; omega)]
    exact h.block k hk hn⟩

structure TokW (w W : World) (s : ByteArray) (cb f rb : Nat) (a : Int) (tk : Value) (kd : Int) (tx : ByteArray) (nm : Int) : Prop where
  cut : W.heap[cb]? = some (.cells #[.string s, .int .i64 f, .int .i64 a, tk] 47 (0, 0))
  tok : W.heap[rb + 1]? = some (.cells #[.int .i64 kd, .string tx, .int .i64 nm, .int .i64 0] 39 (0, 0))
  res : W.heap[rb]? = some (.cells #[.int .i64 0, .string ⟨#[]⟩, .int .i64 0, .int .i64 0] 39 (0, 0))
  ap : Apart rb cb w W
  lt : cb < rb
  one : 1 < cb

section
variable {w W : World} {s : ByteArray} {cb f rb : Nat} {a : Int} {tk : Value} {kd nm : Int} {tx : ByteArray}

theorem Cl.apart {B cb : Nat} {w w' : World} (h : Cl w) (hb : Apart B cb w w') (h1 : 1 < B) (h2 : 0 ≠ cb) : Cl w' := by
  intro i hi
  rw [← h i hi]
  unfold World.cell?
  rw [hb.block 0 (by omega) h2]

theorem TokW.cl (T : TokW w W s cb f rb a tk kd tx nm) (h : Cl w) : Cl W := h.apart T.ap (by have := T.lt; have := T.one; omega) (by have := T.one; omega)

theorem cell_block {W : World} {b i : Nat} {c : Array Value} {t : TypeId} (h : W.heap[b]? = some (.cells c t (0, 0))) : W.cell? ⟨b, i, none⟩ = c[i]? := by simp [World.cell?, h]
theorem frozen_block {W : World} {b i : Nat} {c : Array Value} {t : TypeId} (h : W.heap[b]? = some (.cells c t (0, 0))) : W.frozen? ⟨b, i, none⟩ = false := by simp [World.frozen?, h]
theorem setCell_block {W : World} {b i : Nat} {c : Array Value} {t : TypeId} {v : Value} (h : W.heap[b]? = some (.cells c t (0, 0))) : (W.setCell ⟨b, i, none⟩ v).heap[b]? = some (.cells (c.setIfInBounds i v) t (0, 0)) := by
  simp [World.setCell, Array.getElem?_modify, h]
theorem lt_of_heap {W : World} {b : Nat} {o : Obj} (h : W.heap[b]? = some o) : b < W.heap.size := by
  by_cases hb : b < W.heap.size
  · exact hb
  · rw [Array.getElem?_eq_none (by omega)] at h; cases h

theorem TokW.cells (T : TokW w W s cb f rb a tk kd tx nm) :
    W.cell? ⟨cb, 0, none⟩ = some (.string s) ∧ W.cell? ⟨cb, 1, none⟩ = some (.int .i64 f) ∧ W.cell? ⟨cb, 2, none⟩ = some (.int .i64 a) ∧ W.frozen? ⟨cb, 2, none⟩ = false ∧
    W.cell? ⟨rb + 1, 0, none⟩ = some (.int .i64 kd) ∧ W.cell? ⟨rb + 1, 1, none⟩ = some (.string tx) ∧ W.cell? ⟨rb + 1, 2, none⟩ = some (.int .i64 nm) ∧ W.cell? ⟨rb + 1, 3, none⟩ = some (.int .i64 0) ∧
    (∀ i, W.frozen? ⟨rb + 1, i, none⟩ = false) ∧
    W.cell? ⟨rb, 0, none⟩ = some (.int .i64 0) ∧ W.cell? ⟨rb, 1, none⟩ = some (.string ⟨#[]⟩) ∧ W.cell? ⟨rb, 2, none⟩ = some (.int .i64 0) ∧ W.cell? ⟨rb, 3, none⟩ = some (.int .i64 0) ∧
    (∀ i, W.frozen? ⟨rb, i, none⟩ = false) := by
  refine ⟨?_, ?_, ?_, frozen_block T.cut, ?_, ?_, ?_, ?_, fun i => frozen_block T.tok, ?_, ?_, ?_, ?_, fun i => frozen_block T.res⟩
  all_goals first | exact (cell_block T.cut).trans rfl | exact (cell_block T.tok).trans rfl | exact (cell_block T.res).trans rfl

theorem TokW.drew (T : TokW w W s cb f rb a tk kd tx nm) : TokW w W.drew s cb f rb a tk kd tx nm := ⟨T.cut, T.tok, T.res, ⟨T.ap.os, T.ap.tape, T.ap.output, T.ap.size, T.ap.block⟩, T.lt, T.one⟩
theorem TokW.setAt (T : TokW w W s cb f rb a tk kd tx nm) (a' : Int) : TokW w (W.setCell ⟨cb, 2, none⟩ (.int .i64 a')) s cb f rb a' tk kd tx nm := by
  have h1 := T.lt
  refine ⟨(setCell_block T.cut).trans rfl, ?_, ?_, T.ap.setCell (.inl rfl) _, T.lt, T.one⟩
  · rw [Below.heap_setCell _ _ _ _ (by show rb + 1 ≠ cb; omega)]; exact T.tok
  · rw [Below.heap_setCell _ _ _ _ (by show rb ≠ cb; omega)]; exact T.res
theorem TokW.setKind (T : TokW w W s cb f rb a tk kd tx nm) (x : Int) : TokW w (W.setCell ⟨rb + 1, 0, none⟩ (.int .i64 x)) s cb f rb a tk x tx nm := by
  have h1 := T.lt
  refine ⟨?_, (setCell_block T.tok).trans rfl, ?_, T.ap.setCell (.inr (by omega)) _, T.lt, T.one⟩
  · rw [Below.heap_setCell _ _ _ _ (by show cb ≠ rb + 1; omega)]; exact T.cut
  · rw [Below.heap_setCell _ _ _ _ (by show rb ≠ rb + 1; omega)]; exact T.res
theorem TokW.setText (T : TokW w W s cb f rb a tk kd tx nm) (x : ByteArray) : TokW w (W.setCell ⟨rb + 1, 1, none⟩ (.string x)) s cb f rb a tk kd x nm := by
  have h1 := T.lt
  refine ⟨?_, (setCell_block T.tok).trans rfl, ?_, T.ap.setCell (.inr (by omega)) _, T.lt, T.one⟩
  · rw [Below.heap_setCell _ _ _ _ (by show cb ≠ rb + 1; omega)]; exact T.cut
  · rw [Below.heap_setCell _ _ _ _ (by show rb ≠ rb + 1; omega)]; exact T.res
theorem TokW.setNum (T : TokW w W s cb f rb a tk kd tx nm) (x : Int) : TokW w (W.setCell ⟨rb + 1, 2, none⟩ (.int .i64 x)) s cb f rb a tk kd tx x := by
  have h1 := T.lt
  refine ⟨?_, (setCell_block T.tok).trans rfl, ?_, T.ap.setCell (.inr (by omega)) _, T.lt, T.one⟩
  · rw [Below.heap_setCell _ _ _ _ (by show cb ≠ rb + 1; omega)]; exact T.cut
  · rw [Below.heap_setCell _ _ _ _ (by show rb ≠ rb + 1; omega)]; exact T.res
theorem TokW.below {W' : World} (T : TokW w W s cb f rb a tk kd tx nm) (h : Below W.heap.size W W') : TokW w W' s cb f rb a tk kd tx nm := by
  have h1 := T.lt
  have h2 := lt_of_heap T.tok
  exact ⟨(h.block cb (by omega)).trans T.cut, (h.block _ h2).trans T.tok, (h.block rb (by omega)).trans T.res, T.ap.trans (Apart.of_below h) (by omega), T.lt, T.one⟩

theorem tokW_start {s : ByteArray} {cb f : Nat} {a : Int} {tk : Value} {w : World} (h1 : 1 < cb) (hcut : w.heap[cb]? = some (.cells #[.string s, .int .i64 f, .int .i64 a, tk] 47 (0, 0))) :
    TokW w ((w.alloc (Obj.cells #[Value.int .i64 0, Value.string ⟨#[]⟩, Value.int .i64 0, Value.int .i64 0] 39)).alloc (Obj.cells #[Value.int .i64 0, Value.string ⟨#[]⟩, Value.int .i64 0, Value.int .i64 0] 39)) s cb f w.heap.size a tk 0 ⟨#[]⟩ 0 := by
  have hb := ((Below.refl w.heap.size w).alloc (Nat.le_refl _) (Obj.cells #[Value.int .i64 0, Value.string ⟨#[]⟩, Value.int .i64 0, Value.int .i64 0] 39)).alloc (by simp) (Obj.cells #[Value.int .i64 0, Value.string ⟨#[]⟩, Value.int .i64 0, Value.int .i64 0] 39)
  have hlt := lt_of_heap hcut
  refine ⟨(hb.block cb hlt).trans hcut, ?_, ?_, Apart.of_below hb, hlt, h1⟩
  · show ((w.heap.push _).push _)[w.heap.size + 1]? = _
    rw [Array.getElem?_push]
    simp
  · show ((w.heap.push _).push _)[w.heap.size]? = _
    rw [Array.getElem?_push]
    simp
end

theorem tok_done {w W : World} {s : ByteArray} {cb f rb : Nat} {a : Int} {tk : Value} {kd nm : Int} {tx : ByteArray} (T : TokW w W s cb f rb a tk kd tx nm) (v0 v1 v2 v3 : Value) :
    ((((W.setCell ⟨rb, 0, none⟩ v0).setCell ⟨rb, 1, none⟩ v1).setCell ⟨rb, 2, none⟩ v2).setCell ⟨rb, 3, none⟩ v3).heap[cb]? = some (.cells #[.string s, .int .i64 f, .int .i64 a, tk] 47 (0, 0)) ∧
    Apart rb cb w ((((W.setCell ⟨rb, 0, none⟩ v0).setCell ⟨rb, 1, none⟩ v1).setCell ⟨rb, 2, none⟩ v2).setCell ⟨rb, 3, none⟩ v3) := by
  have h := T.lt
  refine ⟨?_, (((T.ap.setCell (.inr (Nat.le_refl _)) _).setCell (.inr (Nat.le_refl _)) _).setCell (.inr (Nat.le_refl _)) _).setCell (.inr (Nat.le_refl _)) _⟩
  rw [Below.heap_setCell _ _ _ _ (by show cb ≠ rb; omega), Below.heap_setCell _ _ _ _ (by show cb ≠ rb; omega), Below.heap_setCell _ _ _ _ (by show cb ≠ rb; omega), Below.heap_setCell _ _ _ _ (by show cb ≠ rb; omega)]
  exact T.cut

/-- What token leaves: an error's code, or the token and the place behind it. -/
def TokPost (w : World) (s : ByteArray) (cb k : Nat) (tk : Value) (e : Ending) (w' : World) : Except Nat (Nat × List UInt8 × Nat × Nat) → Prop
  | .error c => (∃ (x0 : Int) (x1 : ByteArray) (x2 x3 : Int), e = .returned (.tuple #[.agg #[.int .i64 x0, .string x1, .int .i64 x2, .int .i64 x3], .int .i64 c])) ∧
      (∃ a : Int, w'.heap[cb]? = some (.cells #[.string s, .int .i64 k, .int .i64 a, tk] 47 (0, 0))) ∧ Apart w.heap.size cb w w'
  | .ok (kd, tx, nm, n) => e = .returned (.tuple #[.agg #[.int .i64 kd, .string ⟨tx.toArray⟩, .int .i64 nm, .int .i64 0], .int .i64 0]) ∧
      w'.heap[cb]? = some (.cells #[.string s, .int .i64 k, .int .i64 (k + n : Nat), tk] 47 (0, 0)) ∧ Apart w.heap.size cb w w'

theorem extract_rest (s : ByteArray) (k n : Nat) : s.extract k (k + n) = ⟨((rest s k).take n).toArray⟩ := by
  apply ByteArray.ext
  rw [ByteArray.data_extract]
  apply Array.toList_inj.1
  simp [rest, List.extract_eq_take_drop]
end Go.Proofs.YtkfhdmkdkphmoaaGreatDoor
