/- The closed facts of the row of courierkeep.Passed. -/
import Derived.Test.YtdgcamlmjmnpeaaGreatDoorCards
import Derived.ProofKit
import Derived.OpenShut
import Derived.Stop.Joined
import Derived.SevenTiedAt
namespace Go.Proofs.YtdgcamlmjmnpeaaGreatDoor.passed
open Go.ChangeShapes Go.WideShapes Go.ChangeAt Go.RowKit
theorem facts:joinedFacts Tryz.pinned.checked.prog 4 Tryz.f4 Rows.passedSpec Rows.passedRow = true:=by kernel_rfl
theorem named:Tryz.pinned.checked.prog.funcNamed Rows.passedRow.func = some 4:=by kernel_rfl
theorem inst:Tryz.f4.isInstance Tryz.pinned.checked.prog Rows.passedRow.origin Rows.passedRow.targs:=of_decide_eq_true (by kernel_rfl)
theorem wrapp:Tryz.f4.isWrapper Tryz.pinned.checked.prog Rows.passedRow.wrapper Rows.passedRow.mainSum:=by
 unfold Func.isWrapper
 first | (rw [if_pos (by decide +kernel)];kernel_rfl) | (rw [if_neg (by decide +kernel)];exact ⟨rfl,rfl⟩)
end Go.Proofs.YtdgcamlmjmnpeaaGreatDoor.passed
