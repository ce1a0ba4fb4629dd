/- kept: is what was lent as it was, and what stands behind it? -/
import Derived.Test.YtgdflaapgfpdeaaGreatDoorLe
import Derived.Deep.CutRange
namespace Go.Proofs.YtgdflaapgfpdeaaGreatDoor
open Go.RowKit

end Go.Proofs.YtgdflaapgfpdeaaGreatDoor
