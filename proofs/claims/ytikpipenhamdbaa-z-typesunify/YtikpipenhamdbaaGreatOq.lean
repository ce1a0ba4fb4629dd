/- What is handed in: types and texts. -/
import Derived.Test.YtikpipenhamdbaaGreatOp
import Derived.Test.YtikpipenhamdbaaGreatMacx
import Derived.ProofKit
import Derived.OpenShut
import Derived.Carry
namespace Go.Proofs.YtikpipenhamdbaaGreat
open Go.ChangeShapes Go.WideShapes Go.RowKit

set_option maxRecDepth 100000
theorem Tryz.own : ownKnob Tryz.prog.godebug = none := by kernel_rfl
theorem Tryz.laidOut : laidOutB Tryz.prog = true := by kernel_rfl
end Go.Proofs.YtikpipenhamdbaaGreat
