/- Types in memory of which it is known in which blocks they lie; rows of types that are made one by one. -/
import Derived.Test.YtikpipenhamdbaaGreatMabx
import Derived.Laws.AppendOwn
import Derived.Deep.AppendLies
import Derived.OwnWalk
namespace Go.Proofs.YtikpipenhamdbaaGreat
open Go.RowKit

/-- An element's parts: kind, name, arguments. -/
abbrev El := Int × ByteArray × Value
def elCells (e : El) : List Value := [.int .i64 e.1, .string e.2.1, e.2.2]
abbrev elV (e : El) : Value := .agg #[.int .i64 e.1, .string e.2.1, e.2.2]
theorem elCells_get (es : List El) (j i : Nat) (hj : j < es.length) (hi : i < 3) : (es.flatMap elCells)[j * 3 + i]? = (elCells es[j])[i]? := by
 induction es generalizing j with
 | nil => simp at hj
 | cons t r ih =>
  cases j with
  | zero =>
   simp [elCells]
   match i, hi with
   | 0, _ => rfl
   | 1, _ => rfl
   | 2, _ => rfl
  | succ j =>
   have hj' : j < r.length := by simpa using hj
   have e : (t :: r).flatMap elCells = elCells t ++ r.flatMap elCells := by simp
   rw [e, List.getElem?_append_right (by simp [elCells]; omega)]
   have e2 : (j + 1) * 3 + i - (elCells t).length = j * 3 + i := by simp [elCells]; omega
   rw [e2, ih j hj']
   rfl
theorem elCells_len (es : List El) : (es.flatMap elCells).length = es.length * 3 := by
 induction es with
 | nil => rfl
 | cons a r ih => rw [List.flatMap_cons, List.length_append, ih]; simp [elCells]; omega
theorem Tryz.info29 : (Tryz.prog.info? 29).map (fun i => (i.zero, i.size, i.bytes)) = some (some (.agg #[.int .i64 0, .string ⟨#[]⟩, .slice none 0 0]), 3, 48) := by kernel_rfl
end Go.Proofs.YtikpipenhamdbaaGreat
