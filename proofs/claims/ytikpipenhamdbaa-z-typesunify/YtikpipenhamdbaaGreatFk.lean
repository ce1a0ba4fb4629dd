/- IndexAny at the three signs that end a word: all texts; Print, Read and awake of the program. -/
import Derived.Test.YtikpipenhamdbaaGreatFj
import Derived.Test.YtikpipenhamdbaaGreatMafx
import Derived.Test.YtikpipenhamdbaaGreatMaix
import Derived.Test.YtikpipenhamdbaaGreatMawx
namespace Go.Proofs.YtikpipenhamdbaaGreat
open Go.RowKit

theorem zero150 (w : World) : (zeroValue 150).run Tryz.prog w = .ok (.agg (Array.replicate 256 (.bool false))) w := by kernel_rfl
theorem finds : Finds := by
 intro l w hl
 by_cases h8 : l.length ≤ 8
 ·exact any_short l h8 w
 ·have hsz : (⟨l.toArray⟩ : ByteArray).size = l.length := by show l.toArray.size = _; simp
  have := Tryz.strings_IndexAny_long zero150 ⟨l.toArray⟩ ⟨#[32, 40, 41]⟩ w (by decide) (by omega) (by omega) (by decide) (fun j b hb => by
   match j, hb with
   | 0, hb => cases hb; decide
   | 1, hb => cases hb; decide
   | 2, hb => cases hb; decide
   | n + 3, hb => simp at hb)
  refine Calls.mono this ?_
  rintro e w' ⟨rfl, rfl⟩
  exact ⟨by simp, ((Below.refl _ _).alloc (Nat.le_refl _) _).alloc (by simp) _⟩
theorem read_all : Reads 21 := reads_of (read_any finds)
theorem wake_all : Wakes := wakes_of read_all
end Go.Proofs.YtikpipenhamdbaaGreat
