/- The closed facts of the row of courierkeep.Built. -/
import Derived.Test.YtdgcamlmjmnpeaaGreatDoorCards
import Derived.ProofKit
import Derived.OpenShut
import Derived.Stop.Joined
import Derived.SevenTiedAt
namespace Go.Proofs.YtdgcamlmjmnpeaaGreatDoor.built
open Go.ChangeShapes Go.WideShapes Go.ChangeAt Go.RowKit
theorem facts:joinedFacts Tryz.pinned.checked.prog 3 Tryz.f3 Rows.builtSpec Rows.builtRow = true:=by kernel_rfl
theorem named:Tryz.pinned.checked.prog.funcNamed Rows.builtRow.func = some 3:=by kernel_rfl
theorem inst:Tryz.f3.isInstance Tryz.pinned.checked.prog Rows.builtRow.origin Rows.builtRow.targs:=of_decide_eq_true (by kernel_rfl)
theorem wrapp:Tryz.f3.isWrapper Tryz.pinned.checked.prog Rows.builtRow.wrapper Rows.builtRow.mainSum:=by
 unfold Func.isWrapper
 first | (rw [if_pos (by decide +kernel)];kernel_rfl) | (rw [if_neg (by decide +kernel)];exact ⟨rfl,rfl⟩)
end Go.Proofs.YtdgcamlmjmnpeaaGreatDoor.built
