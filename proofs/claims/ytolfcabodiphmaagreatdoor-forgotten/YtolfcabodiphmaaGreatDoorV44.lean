/- The closed facts of the row of courierkeep.Forgotten. -/
import Derived.Test.YtolfcabodiphmaaGreatDoorCards
import Derived.ProofKit
import Derived.OpenShut
import Derived.Stop.Joined
import Derived.SevenTiedAt
set_option linter.unusedSimpArgs false
set_option linter.unusedVariables false
namespace Go.Proofs.YtolfcabodiphmaaGreatDoor.forgotten
open Go.ChangeShapes Go.WideShapes Go.ChangeAt Go.RowKit
theorem facts:joinedFacts Tryz.pinned.checked.prog 3 Tryz.f3 Rows.forgottenSpec Rows.forgottenRow=true:=by kernel_rfl
theorem named:Tryz.pinned.checked.prog.funcNamed Rows.forgottenRow.func=some 3:=by kernel_rfl
theorem inst:Tryz.f3.isInstance Tryz.pinned.checked.prog Rows.forgottenRow.origin Rows.forgottenRow.targs:=of_decide_eq_true (by kernel_rfl)
theorem agA:Tryz.f3.isWrapper Tryz.pinned.checked.prog Rows.forgottenRow.wrapper Rows.forgottenRow.mainSum:=by
 unfold Func.isWrapper
 first | (rw[if_pos (by decide +kernel)];kernel_rfl) | (rw[if_neg (by decide +kernel)];exact⟨rfl,rfl⟩)
end Go.Proofs.YtolfcabodiphmaaGreatDoor.forgotten
