/- The closed facts of the row of courierlaw.Doors, second form. -/
import Derived.Test.YtgalebcpagmohaaGreatDoorCards
import Derived.ProofKit
import Derived.OpenShut
import Derived.Stop.Joined
import Derived.SevenTiedAt
namespace Go.Proofs.YtgalebcpagmohaaGreatDoor.doors
open Go.ChangeShapes Go.WideShapes Go.ChangeAt Go.RowKit
theorem facts:joinedFacts Tryz.pinned.checked.prog 3 Tryz.f3 (Rows.OpenSpec.upto Rows.doorsSpec).bare Rows.doorsUptoRow=true:=by kernel_rfl
theorem named:Tryz.pinned.checked.prog.funcNamed Rows.doorsUptoRow.func=some 3:=by kernel_rfl
theorem inst:Tryz.f3.isInstance Tryz.pinned.checked.prog Rows.doorsUptoRow.origin Rows.doorsUptoRow.targs:=of_decide_eq_true (by kernel_rfl)
theorem adU:Tryz.f3.isWrapper Tryz.pinned.checked.prog Rows.doorsUptoRow.wrapper Rows.doorsUptoRow.mainSum:=by
 unfold Func.isWrapper
 first | (rw[if_pos (by decide +kernel)];kernel_rfl) | (rw[if_neg (by decide +kernel)];exact⟨rfl,rfl⟩)
end Go.Proofs.YtgalebcpagmohaaGreatDoor.doors
