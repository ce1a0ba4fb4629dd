/- GreatBounds: its contract. -/
import Derived.Test.YtikpipenhamdbaaMdx
import Derived.Test.YtikpipenhamdbaaTl
namespace Go.Proofs.Ytikpipenhamdbaa
open Go.RowKit

/-- What is left behind a row of bounds. -/
def leftB (bs : List Bd) (l : Int) : Int := bs.foldl (fun l b => if 0 ≤ l then leftT b.2.1 b.2.2 l 65536 else l) l
def greatB (bs : List Bd) : Bool := decide (leftB bs 4194304 < 0)
theorem leftB_low : ∀ (bs : List Bd) (l : Int), l < 0 → leftB bs l = l
  | [], _, _ => rfl
  | b :: r, l, h => by
    show leftB r (if 0 ≤ l then _ else l) = l
    rw [if_neg (by omega)]
    exact leftB_low r l h
theorem leftB_cons (b : Bd) (r : List Bd) (l : Int) (h : 0 ≤ l) : leftB (b :: r) l = leftB r (leftT b.2.1 b.2.2 l 65536) := by
  show leftB r (if 0 ≤ l then _ else l) = _
  rw [if_pos h]
/-- A row that is not too great has no tree that is. -/
theorem leftB_nodes : ∀ (bs : List Bd) (l : Int), 0 ≤ l → 0 ≤ leftB bs l → ∀ b ∈ bs, ((flat b.2.1 b.2.2).length : Int) ≤ l
  | [], _, _, _, _, h => by simp at h
  | b :: r, l, hl, h, c, hc => by
    rw [leftB_cons b r l hl] at h
    obtain ⟨h1, h2, h3⟩ := left_range b.2.1 b.2.2 l 65536 hl
    rcases Int.lt_or_le (leftT b.2.1 b.2.2 l 65536) 0 with hn | hp
    · rw [leftB_low r _ hn] at h
      omega
    · have h4 := h3 hp
      rcases List.mem_cons.1 hc with rfl | hc
      · omega
      · have := leftB_nodes r _ hp h c hc
        omega
end Go.Proofs.Ytikpipenhamdbaa
