/- kept: is what was lent as it was, and what stands behind it? -/
import Derived.Test.YtgdflaapgfpdeaaDoorLe
import Derived.Deep.CutRange
namespace Go.Proofs.YtgdflaapgfpdeaaDoor
open Go.RowKit

end Go.Proofs.YtgdflaapgfpdeaaDoor
