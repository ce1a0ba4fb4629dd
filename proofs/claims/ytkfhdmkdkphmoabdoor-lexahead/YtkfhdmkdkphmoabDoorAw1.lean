/- What the plain side says of the text and the row that the head of every statement asks. -/
import Derived.Test.YtkfhdmkdkphmoabDoorLex
import Derived.Test.YtkfhdmkdkphmoabDoorJo
import Derived.Test.YtkfhdmkdkphmoabDoorIt
namespace Go.Proofs.YtkfhdmkdkphmoabDoor
open Go.RowKit
def awText : ByteArray := ⟨#[102, 32, 120, 39, 32, 61, 32, 77, 46, 103, 40, 120, 39, 41]⟩
def awToks : List Tk := [(1, [102], 0, 0), (1, [120, 39], 0, 2), (11, [61], 0, 5), (3, [77, 46, 103], 0, 7), (9, [40], 0, 10), (1, [120, 39], 0, 11), (9, [41], 0, 13)]
theorem aw_lex : lexL 0 (rest awText 0) 0 = .ok awToks := by
  show lexL 0 [102, 32, 120, 39, 32, 61, 32, 77, 46, 103, 40, 120, 39, 41] 0 = _
  rw [lexL_cons, show stepL [102, 32, 120, 39, 32, 61, 32, 77, 46, 103, 40, 120, 39, 41] = .ok (some (1, [102], 0), 1) from by kernel_rfl]
  simp only [Nat.reduceEqDiff, if_false, Nat.reduceAdd, Nat.reduceSub, List.drop_zero]
  rw [lexL_cons, show stepL [32, 120, 39, 32, 61, 32, 77, 46, 103, 40, 120, 39, 41] = .ok (none, 1) from by kernel_rfl]
  simp only [Nat.reduceAdd, Nat.reduceSub, List.drop_zero]
  rw [lexL_cons, show stepL [120, 39, 32, 61, 32, 77, 46, 103, 40, 120, 39, 41] = .ok (some (1, [120, 39], 0), 2) from by kernel_rfl]
  simp only [Nat.reduceEqDiff, if_false, Nat.reduceAdd, Nat.reduceSub, List.drop_succ_cons, List.drop_zero]
  rw [lexL_cons, show stepL [32, 61, 32, 77, 46, 103, 40, 120, 39, 41] = .ok (none, 1) from by kernel_rfl]
  simp only [Nat.reduceAdd, Nat.reduceSub, List.drop_zero]
  rw [lexL_cons, show stepL [61, 32, 77, 46, 103, 40, 120, 39, 41] = .ok (some (11, [61], 0), 1) from by kernel_rfl]
  simp only [Nat.reduceEqDiff, if_false, Nat.reduceAdd, Nat.reduceSub, List.drop_zero]
  rw [lexL_cons, show stepL [32, 77, 46, 103, 40, 120, 39, 41] = .ok (none, 1) from by kernel_rfl]
  simp only [Nat.reduceAdd, Nat.reduceSub, List.drop_zero]
  rw [lexL_cons, show stepL [77, 46, 103, 40, 120, 39, 41] = .ok (some (3, [77, 46, 103], 0), 3) from by kernel_rfl]
  simp only [Nat.reduceEqDiff, if_false, Nat.reduceAdd, Nat.reduceSub, List.drop_succ_cons, List.drop_zero]
  rw [lexL_cons, show stepL [40, 120, 39, 41] = .ok (some (9, [40], 0), 1) from by kernel_rfl]
  simp only [Nat.reduceEqDiff, if_false, Nat.reduceAdd, Nat.reduceSub, List.drop_zero]
  rw [lexL_cons, show stepL [120, 39, 41] = .ok (some (1, [120, 39], 0), 2) from by kernel_rfl]
  simp only [Nat.reduceEqDiff, if_false, Nat.reduceAdd, Nat.reduceSub, List.drop_succ_cons, List.drop_zero]
  rw [lexL_cons, show stepL [41] = .ok (some (9, [41], 0), 1) from by kernel_rfl]
  simp only [Nat.reduceEqDiff, if_false, Nat.reduceAdd, Nat.reduceSub, List.drop_zero]
  rw [lexL_nil]
  rfl
def awRow : List Tk := [(7, [], 39, 0), (8, [34, 39, 7], 0, 0), (5, [45], 0, 0)]
theorem aw_join : joinL true [] awRow = some [39, 92, 39, 39, 32, 34, 92, 34, 39, 92, 48, 48, 55, 34, 32, 45] := by kernel_rfl
theorem aw_t1 : isTokB 7 ⟨#[]⟩ 39 = true := by kernel_rfl
theorem aw_t2 : isTokB 8 ⟨#[34, 39, 7]⟩ 0 = true := by kernel_rfl
theorem aw_run : clsAt ⟨#[45]⟩ 0 = 8 := by kernel_rfl
end Go.Proofs.YtkfhdmkdkphmoabDoor
