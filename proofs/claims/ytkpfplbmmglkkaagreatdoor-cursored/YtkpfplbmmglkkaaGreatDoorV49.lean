/- The closed facts of the row of courierkeep.Cursored. -/
import Derived.Test.YtkpfplbmmglkkaaGreatDoorCards
import Derived.ProofKit
import Derived.OpenShut
import Derived.Stop.Joined
import Derived.SevenTiedAt
set_option linter.all false
namespace Go.Proofs.YtkpfplbmmglkkaaGreatDoor.cursored
open Go.ChangeShapes Go.WideShapes Go.ChangeAt Go.RowKit
theorem ah7:joinedFacts Tryz.pinned.checked.prog 3 Tryz.f3 Rows.cursoredSpec Rows.cursoredRow=true:=by kernel_rfl
theorem named:Tryz.pinned.checked.prog.funcNamed Rows.cursoredRow.func=some 3:=by kernel_rfl
theorem an7:Tryz.f3.isInstance Tryz.pinned.checked.prog Rows.cursoredRow.origin Rows.cursoredRow.targs:=of_decide_eq_true (by kernel_rfl)
theorem ah8:Tryz.f3.isWrapper Tryz.pinned.checked.prog Rows.cursoredRow.wrapper Rows.cursoredRow.mainSum:=by
 unfold Func.isWrapper
 first | (rw[if_pos (by decide +kernel)];kernel_rfl) | (rw[if_neg (by decide +kernel)];exact⟨rfl,rfl⟩)
end Go.Proofs.YtkpfplbmmglkkaaGreatDoor.cursored
