/- The closed facts of the row of courierlaw.All, second form. -/
import Derived.Test.YtopcgnjocklcoaaGreatDoorCards
import Derived.ProofKit
import Derived.OpenShut
import Derived.Stop.Joined
import Derived.SevenTiedAt
namespace Go.Proofs.YtopcgnjocklcoaaGreatDoor.all
open Go.ChangeShapes Go.WideShapes Go.ChangeAt Go.RowKit
theorem facts:joinedFacts Tryz.pinned.checked.prog 7 Tryz.f7 (Rows.OpenSpec.upto Rows.allSpec).bare Rows.allUptoRow = true:=by kernel_rfl
theorem named:Tryz.pinned.checked.prog.funcNamed Rows.allUptoRow.func = some 7:=by kernel_rfl
theorem inst:Tryz.f7.isInstance Tryz.pinned.checked.prog Rows.allUptoRow.origin Rows.allUptoRow.targs:=of_decide_eq_true (by kernel_rfl)
theorem wrapp:Tryz.f7.isWrapper Tryz.pinned.checked.prog Rows.allUptoRow.wrapper Rows.allUptoRow.mainSum:=by
 unfold Func.isWrapper
 first | (rw [if_pos (by decide +kernel)];kernel_rfl) | (rw [if_neg (by decide +kernel)];exact ⟨rfl,rfl⟩)
end Go.Proofs.YtopcgnjocklcoaaGreatDoor.all
