/- Print answers as the document says. The program's reader: contracts of skip and leaf. -/
import Derived.Test.YtgdflaapgfpdeaaGreatDoorMgx
import Derived.Test.YtgdflaapgfpdeaaGreatDoorBk
import Derived.Test.YtgdflaapgfpdeaaGreatDoorMex
namespace Go.Proofs.YtgdflaapgfpdeaaGreatDoor
open Go.RowKit

theorem wrongs_one (d : Nat) (t : Tn d) : wrongs [⟨d, t⟩] = wrongT d t := by
  show (if wrongT d t = 0 then 0 else wrongT d t) = _
  split
  · rename_i h; exact h.symm
  · rfl
theorem lt_cell {w : World} {b i : Nat} {v : Value} (h : w.cell? ⟨b, i, none⟩ = some v) : b < w.heap.size := by
  rcases Nat.lt_or_ge b w.heap.size with hlt | hge
  · exact hlt
  · simp [World.cell?, Array.getElem?_eq_none hge] at h
/-- One tree, in a row of its own. -/
theorem wrong_one (d : Nat) (k : Int) (n : ByteArray) (ad : Option Addr) (len cap : Nat) (t : Tn d) (w W : World) (B g : Nat) (hB : B ≤ W.heap.size) (hg : g < W.heap.size) (hT : TyAt w B d (.agg #[.int .i64 k, .string n, .slice ad len cap]) t) (hb : Below B w W) (hN : (flat d t).length ≤ 4194304)
    (c0 : W.cell? ⟨g, 0, none⟩ = some (.int .i64 k)) (c1 : W.cell? ⟨g, 1, none⟩ = some (.string n)) (c2 : W.cell? ⟨g, 2, none⟩ = some (.slice ad len cap)) :
    Calls Tryz.prog 63 #[.slice (some ⟨g, 0, none⟩) 1 1] W fun r w' => r = .returned (.int .i64 (wrongT d t)) ∧ Below W.heap.size W w' := by
  have := wrong_list [(k, n, .slice ad len cap)] [⟨d, t⟩] g 1 W B hB hg (fun j u hu => by
    match j with
    | 0 => simp [elCells] at hu; rw [← hu]; exact c0
    | 1 => simp [elCells] at hu; rw [← hu]; exact c1
    | 2 => simp [elCells] at hu; rw [← hu]; exact c2
    | j + 3 => simp [elCells] at hu) ⟨rfl, fun j hj hj' => by
      have : j = 0 := by simp at hj; omega
      subst this
      exact hT.on hb⟩ (by simpa using hN) (by simp)
  rw [wrongs_one] at this
  exact this
end Go.Proofs.YtgdflaapgfpdeaaGreatDoor

namespace Go.Proofs.YtgdflaapgfpdeaaGreatDoor
open Go.RowKit

/-- The reader whose block is q has this text left. -/
abbrev RdAt (w : World) (q : Nat) (l : List UInt8) : Prop := w.heap[q]? = some (.cells #[strV l] 101 (0, 0))
/-- From w to w' nothing that was there has turned but the reader. -/
structure RdS (w w' : World) (q : Nat) (l : List UInt8) : Prop where
  grow : w.grownBy w' (some q)
  at' : RdAt w' q l
theorem heap_frozen {w : World} {b o : Nat} {cs : Array Value} {t : TypeId} (h : w.heap[b]? = some (.cells cs t (0, 0))) : w.frozen? ⟨b, o, none⟩ = false := by
  simp [World.frozen?, h]
theorem setCell_block {W : World} {b i : Nat} {c : Array Value} {t : TypeId} {v : Value} (h : W.heap[b]? = some (.cells c t (0, 0))) : (W.setCell ⟨b, i, none⟩ v).heap[b]? = some (.cells (c.setIfInBounds i v) t (0, 0)) := by
  simp [World.setCell, Array.getElem?_modify, h]
/-- Three stores into a block of three cells. -/
theorem store3 {U : World} {z : Nat} {x y u : Value} {t : TypeId} (h : U.heap[z]? = some (.cells #[x, y, u] t (0, 0))) (a b c : Value) : ∃ W, W = ((U.setCell ⟨z, 0, none⟩ a).setCell ⟨z, 1, none⟩ b).setCell ⟨z, 2, none⟩ c ∧ W.heap[z]? = some (.cells #[a, b, c] t (0, 0)) ∧ (∀ g, g ≠ z → W.heap[g]? = U.heap[g]?) ∧ W.heap.size = U.heap.size ∧ Below z U W := by
  refine ⟨_, rfl, ?_, fun g hg => ?_, by simp [World.setCell], (((Below.refl z U).setCell (Nat.le_refl _) a).setCell (Nat.le_refl _) b).setCell (Nat.le_refl _) c⟩
  · exact (setCell_block ((setCell_block ((setCell_block h).trans rfl)).trans rfl)).trans rfl
  · rw [Below.heap_setCell _ _ _ _ hg, Below.heap_setCell _ _ _ _ hg, Below.heap_setCell _ _ _ _ hg]
theorem rd_cell {w : World} {q : Nat} {l : List UInt8} (h : RdAt w q l) : w.cell? ⟨q, 0, none⟩ = some (strV l) := by
  simp only [World.cell?, h]; rfl
theorem rd_set {w : World} {q : Nat} {l : List UInt8} (h : RdAt w q l) (l' : List UInt8) : RdS w (w.setCell ⟨q, 0, none⟩ (strV l')) q l' :=
  ⟨⟨rfl, rfl, rfl, by simp [World.setCell], fun k _ hk => Below.heap_setCell _ _ _ _ (fun e => hk (by rw [e]))⟩, (setCell_block h).trans rfl⟩
theorem beg_prefix (p l : List UInt8) : Lib.hasPrefix l p = begB p l := by
  unfold Lib.hasPrefix begB
  rw [Bool.eq_iff_iff, List.isPrefixOf_iff_prefix, decide_eq_true_eq, List.prefix_iff_eq_take]
  exact ⟨fun h => h.symm, fun h => h.symm⟩
theorem index_any : ∀ l : List UInt8, Lib.indexAny l [32, 40, 41] = if wordL l = l then -1 else ((wordL l).length : Int)
  | [] => rfl
  | c :: l => by
    have ih := index_any l
    have hc : ([32, 40, 41] : List UInt8).contains c = endB c := by
      unfold endB
      simp [Bool.or_assoc]
      rfl
    unfold Lib.indexAny
    rw [hc]
    cases he : endB c
    · have hw : wordL (c :: l) = c :: wordL l := by simp [wordL, he]
      rw [hw, ih]
      by_cases h : wordL l = l
      · simp [h]
      · simp [h]
    · have hw : wordL (c :: l) = [] := by simp [wordL, he]
      rw [hw]
      simp
/-- What is asked of IndexAny. -/
def Finds : Prop := ∀ (l : List UInt8) (w : World), l.length ≤ 65536 → Calls Tryz.prog 111 #[strV l, .string ⟨#[32, 40, 41]⟩] w fun e w' => e = .returned (.int .i64 (Lib.indexAny l [32, 40, 41])) ∧ Below w.heap.size w w'
end Go.Proofs.YtgdflaapgfpdeaaGreatDoor
