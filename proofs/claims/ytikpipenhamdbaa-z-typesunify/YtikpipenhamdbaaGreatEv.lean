/- The program's walk through a type's variables: eachVariable and variablesOf, for every loop's body. -/
import Derived.Test.YtikpipenhamdbaaGreatMabx
import Derived.RangeFuncNested
import Derived.RangeFuncBound
import Derived.RangeFuncCalls
import Derived.RangeFuncLeaves
import Derived.Shelf.Abstract
import Derived.Shelf.RegionOpen
import Derived.OwnWalkIn
import Derived.TacticsInMore
import Derived.LoopNIn
import Derived.LoopIn
import Derived.Laws.ByValue
namespace Go.Proofs.YtikpipenhamdbaaGreat
open Go.RowKit Go.Maps Go.Shelf
attribute [local go_sem] Oper.semAt_some

end Go.Proofs.YtikpipenhamdbaaGreat
