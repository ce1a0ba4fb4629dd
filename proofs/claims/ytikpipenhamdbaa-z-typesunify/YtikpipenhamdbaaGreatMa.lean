/- Maps from names to types: what they hold, name by name. -/
import Derived.Test.YtikpipenhamdbaaGreatMafx
import Derived.Maps.Own
import Derived.Maps.OwnOps
import Derived.Maps.OwnSet
import Derived.StringKeys
namespace Go.Proofs.YtikpipenhamdbaaGreat
open Go.RowKit Go.Maps

end Go.Proofs.YtikpipenhamdbaaGreat
