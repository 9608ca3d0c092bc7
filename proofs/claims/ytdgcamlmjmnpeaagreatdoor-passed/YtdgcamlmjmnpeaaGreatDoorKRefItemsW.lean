/- items of package courierref: the walk. -/
import Derived.Test.YtdgcamlmjmnpeaaGreatDoorMRead
import Derived.Test.YtdgcamlmjmnpeaaGreatDoorMIn
import Derived.Deep.RegionWith
namespace Go.Proofs.YtdgcamlmjmnpeaaGreatDoor
open Go.RowKit
end Go.Proofs.YtdgcamlmjmnpeaaGreatDoor
