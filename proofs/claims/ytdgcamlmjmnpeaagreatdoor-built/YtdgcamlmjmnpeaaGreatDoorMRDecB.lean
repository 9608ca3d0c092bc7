/- Package courierref: readList. -/
import Derived.Test.YtdgcamlmjmnpeaaGreatDoorMRDecA
import Derived.Test.YtdgcamlmjmnpeaaGreatDoorMEncL
import Derived.Test.YtdgcamlmjmnpeaaGreatDoorMDecA
import Derived.Test.YtdgcamlmjmnpeaaGreatDoorMDecB
import Derived.Test.YtdgcamlmjmnpeaaGreatDoorMDecM
namespace Go.Proofs.YtdgcamlmjmnpeaaGreatDoor
open Go.RowKit
def left (ok:Bool) (D:List UInt8):Nat:=match ok with | true=>D.length | false=>0
end Go.Proofs.YtdgcamlmjmnpeaaGreatDoor
namespace Go.Proofs.YtdgcamlmjmnpeaaGreatDoor
open Go.RowKit
end Go.Proofs.YtdgcamlmjmnpeaaGreatDoor
