/- The contract of token: whatever begins at a place that is no blank, it answers what the plain side says. -/
import Derived.Test.YtkfhdmkdkphmoaaGreatDoorTa
import Derived.Test.YtkfhdmkdkphmoaaGreatDoorTb
import Derived.Test.YtkfhdmkdkphmoaaGreatDoorTc
import Derived.Test.YtkfhdmkdkphmoaaGreatDoorTd
import Derived.Test.YtkfhdmkdkphmoaaGreatDoorTe
import Derived.Test.YtkfhdmkdkphmoaaGreatDoorTf
import Derived.Test.YtkfhdmkdkphmoaaGreatDoorTg
import Derived.Test.YtkfhdmkdkphmoaaGreatDoorTh
import Derived.Test.YtkfhdmkdkphmoaaGreatDoorTT
import Derived.Test.YtkfhdmkdkphmoaaGreatDoorStep
namespace Go.Proofs.YtkfhdmkdkphmoaaGreatDoor
open Go.RowKit

theorem token_any (s : ByteArray) (cb k : Nat) (tk : Value) (w : World) (hs : s.size ≤ 65536) (hC : Cl w) (h1 : 1 < cb) (hk : k ≤ s.size)
    (hcut : w.heap[cb]? = some (.cells #[.string s, .int .i64 k, .int .i64 k, tk] 47 (0, 0))) (h6 : clsHd (rest s k) ≠ 6) :
    Calls Tryz.prog 33 #[.pointer (some ⟨cb, 0, none⟩)] w fun e w' => TokPost w s cb k tk e w' (tokL (rest s k)) := by
  have e := clsAt_rest s k
  unfold tokL
  split
  · rename_i h; exact tok_lower s cb k tk w hs hC h1 hk hcut (e.trans h)
  split
  · rename_i h
    have := tok_upper s cb k tk w hs hC h1 hk hcut (e.trans h)
    rw [upperEnd_L s k hk] at this
    simp only [Nat.add_sub_cancel_left] at this
    exact this
  split
  · rename_i h
    cases hq : numL (rest s k) with
    | none => exact tok_number_bad s cb k tk w hs hC h1 hk hcut (e.trans h) hq
    | some x => exact tok_number s cb k tk w hs hC h1 hk hcut (e.trans h) (v := x.1) (n := x.2) hq
  split
  · rename_i h
    cases hq : charL (rest s k) with
    | none => exact tok_char_bad s cb k tk w hs hC h1 hk hcut (e.trans h) hq
    | some x => exact tok_char s cb k tk w hs hC h1 hk hcut (e.trans h) (v := x.1) (n := x.2) hq
  split
  · rename_i h
    rw [rest_drop]
    cases hq : strL (rest s (k + 1)) with
    | none => exact tok_string_bad s cb k tk w hs hC h1 hk hcut (e.trans h) hq
    | some x => exact tok_string s cb k tk w hs hC h1 hk hcut (e.trans h) (t := x.1) (n := x.2) hq
  split
  · rename_i h
    split
    · rename_i h0; exact tok_badrun s cb k tk w hs hC h1 hk hcut (e.trans h) h0
    · rename_i h0; exact tok_run s cb k tk w hs hC h1 hk hcut (e.trans h) h0
  split
  · rename_i h; exact tok_special s cb k tk w hs hC h1 hk hcut (e.trans h)
  split
  · rename_i h
    rw [rest_drop, ← clsAt_rest]
    split
    · rename_i h0; exact tok_wild_bad s cb k tk w hs hC h1 hk hcut (e.trans h) h0
    · rename_i h0; exact tok_wild s cb k tk w hs hC h1 hk hcut (e.trans h) (by simpa using h0)
  · refine tok_other s cb k tk w hs hC h1 hk hcut ?_
    have := clsAt_le s k
    rw [e] at this ⊢
    omega
end Go.Proofs.YtkfhdmkdkphmoaaGreatDoor
