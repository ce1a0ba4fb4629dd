/- Same (of the document's own package): are two types the same? -/
import Derived.Test.YtgdflaapgfpdeaaGreatDoorMdx
import Derived.WalkKit
import Derived.WalkSpells
import Derived.WalkLawsBesides
import Derived.WalkMore
import Derived.Deep.RegionHeld3
import Derived.Deep.Cut
import Derived.BigQuiet
namespace Go.Proofs.YtgdflaapgfpdeaaGreatDoor
open Go.RowKit

theorem bytes_eq {n m : List UInt8} : ((⟨n.toArray⟩ : ByteArray) = ⟨m.toArray⟩) ↔ n = m := by
  constructor
  · intro h
    have := congrArg (fun b => b.data.toList) h
    simpa using this
  · rintro rfl; rfl

end Go.Proofs.YtgdflaapgfpdeaaGreatDoor
