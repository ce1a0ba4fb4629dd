/- The program's put: types made anew, with what a map says in the variables' places. The program's put at a variable that the map has, and anew. -/
import Derived.Test.YtikpipenhamdbaaGreatMa
import Derived.Test.YtikpipenhamdbaaGreatMaix
import Derived.Deep.RegionHeldLaw
import Derived.Deep.Cut
import Derived.Deep.AppendLies
namespace Go.Proofs.YtikpipenhamdbaaGreat
open Go.RowKit

theorem cellA {w : World} {p : Addr} {v : Value} (h : w.cell? p = some v) (o : Obj) : (w.alloc o).cell? p = some v := by
 have hlt : p.block < w.heap.size := by
  rcases Nat.lt_or_ge p.block w.heap.size with h1 | h1
  ·exact h1
  ·simp [World.cell?, Array.getElem?_eq_none h1] at h
 rw [World.cell?_of_block (Below.heap_alloc w o _ hlt)]
 exact h
theorem setCell_else {W : World} {b i g : Nat} {v : Value} (h : g ≠ b) : (W.setCell ⟨b, i, none⟩ v).heap[g]? = W.heap[g]? := Below.heap_setCell _ _ _ _ h
end Go.Proofs.YtikpipenhamdbaaGreat

namespace Go.Proofs.YtikpipenhamdbaaGreat
open Go.RowKit

end Go.Proofs.YtikpipenhamdbaaGreat
