/- The closed facts of the row of courierlaw.Decodes, second form. -/
import Derived.Test.YtopcgnjocklcoaaGreatDoorCards
import Derived.ProofKit
import Derived.OpenShut
import Derived.Stop.Joined
import Derived.SevenTiedAt
namespace Go.Proofs.YtopcgnjocklcoaaGreatDoor.decodes
open Go.ChangeShapes Go.WideShapes Go.ChangeAt Go.RowKit
theorem facts:joinedFacts Tryz.pinned.checked.prog 5 Tryz.f5 (Rows.OpenSpec.upto Rows.decodesSpec).bare Rows.decodesUptoRow = true:=by kernel_rfl
theorem named:Tryz.pinned.checked.prog.funcNamed Rows.decodesUptoRow.func = some 5:=by kernel_rfl
theorem inst:Tryz.f5.isInstance Tryz.pinned.checked.prog Rows.decodesUptoRow.origin Rows.decodesUptoRow.targs:=of_decide_eq_true (by kernel_rfl)
theorem wrapp:Tryz.f5.isWrapper Tryz.pinned.checked.prog Rows.decodesUptoRow.wrapper Rows.decodesUptoRow.mainSum:=by
 unfold Func.isWrapper
 first | (rw [if_pos (by decide +kernel)];kernel_rfl) | (rw [if_neg (by decide +kernel)];exact ⟨rfl,rfl⟩)
end Go.Proofs.YtopcgnjocklcoaaGreatDoor.decodes
