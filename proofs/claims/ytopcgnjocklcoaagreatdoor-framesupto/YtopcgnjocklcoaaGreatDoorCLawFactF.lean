/- The closed facts of the row of courierlaw.Frames, second form. -/
import Derived.Test.YtopcgnjocklcoaaGreatDoorCards
import Derived.ProofKit
import Derived.OpenShut
import Derived.Stop.Joined
import Derived.SevenTiedAt
namespace Go.Proofs.YtopcgnjocklcoaaGreatDoor.frames
open Go.ChangeShapes Go.WideShapes Go.ChangeAt Go.RowKit

theorem facts : joinedFacts Tryz.pinned.checked.prog 6 Tryz.f6 (Rows.OpenSpec.upto Rows.framesSpec).bare Rows.framesUptoRow = true := by kernel_rfl
theorem named : Tryz.pinned.checked.prog.funcNamed Rows.framesUptoRow.func = some 6 := by kernel_rfl
theorem inst : Tryz.f6.isInstance Tryz.pinned.checked.prog Rows.framesUptoRow.origin Rows.framesUptoRow.targs := of_decide_eq_true (by kernel_rfl)
theorem wrapp : Tryz.f6.isWrapper Tryz.pinned.checked.prog Rows.framesUptoRow.wrapper Rows.framesUptoRow.mainSum := by
  unfold Func.isWrapper
  first | (rw [if_pos (by decide +kernel)]; kernel_rfl) | (rw [if_neg (by decide +kernel)]; exact ⟨rfl, rfl⟩)
end Go.Proofs.YtopcgnjocklcoaaGreatDoor.frames
