/- IndexAny at the three signs that end a word: all texts; Print, Read and awake of the program. -/
import Derived.Test.YtikpipenhamdbaaFj
import Derived.Test.YtikpipenhamdbaaMex
import Derived.Test.YtikpipenhamdbaaMjx
import Derived.Test.YtikpipenhamdbaaMqx
namespace Go.Proofs.Ytikpipenhamdbaa
open Go.RowKit

theorem zero125 (w : World) : (zeroValue 125).run Try.prog w = .ok (.agg (Array.replicate 256 (.bool false))) w := by kernel_rfl
theorem finds : Finds := by
  intro l w hl
  by_cases h8 : l.length ≤ 8
  · exact any_short l h8 w
  · have hsz : (⟨l.toArray⟩ : ByteArray).size = l.length := by show l.toArray.size = _; simp
    have := Try.strings_IndexAny_long zero125 ⟨l.toArray⟩ ⟨#[32, 40, 41]⟩ w (by decide) (by omega) (by omega) (by decide) (fun j b hb => by
      match j, hb with
      | 0, hb => cases hb; decide
      | 1, hb => cases hb; decide
      | 2, hb => cases hb; decide
      | n + 3, hb => simp at hb)
    refine Calls.mono this ?_
    rintro e w' ⟨rfl, rfl⟩
    exact ⟨by simp, ((Below.refl _ _).alloc (Nat.le_refl _) _).alloc (by simp) _⟩
theorem read_all : Reads 14 := reads_of (read_any finds)
theorem wake_all : Wakes := wakes_of read_all
end Go.Proofs.Ytikpipenhamdbaa
