/- What is proved: courierlaw.Frames returns true for every script of bulk at most 1048576 (every Frame, NewDeframer and Feed of the program answers as the reference), and the script reads behind the call as it did. Conditions: the row's own (the bound; the listed package-level variables start as the program's text lays them; the card ties them). -/
import Derived.Test.YtopcgnjocklcoaaGreatDoorCLawLiftF
import Derived.Test.YtopcgnjocklcoaaGreatDoorCLawFactF
import Derived.Test.YtopcgnjocklcoaaGreatDoorCards
import Derived.Test.YtopcgnjocklcoaaGreatDoorTie
import Derived.ProofKit
import Derived.OpenShut
import Derived.Stop.Joined
import Derived.SevenTiedAt
namespace Go.Proofs.YtopcgnjocklcoaaGreatDoor.frames
open Go.ChangeShapes Go.WideShapes Go.ChangeAt Go.RowKit Go.Deep

theorem step (os : Os) (started : os.Started) (H : Type) (enc : TypeId × Value → H) (F : Stop.Interp) : ReturnsInHanded Rows.framesUptoRow.assume Tryz.pinned.checked os 6 .any (Rows.framesUptoRow.pre enc Tryz.pinned.checked.prog Tryz.f6 (Rows.OpenSpec.upto Rows.framesSpec)) (((Rows.OpenSpec.upto Rows.framesSpec).at F).post enc Tryz.pinned.checked.prog Tryz.f6 Rows.framesUptoRow.apart Rows.framesUptoRow.fresh Rows.framesUptoRow.handsOn Rows.framesUptoRow.again) := by
  rw [OpenClaim.pre_eq_preRow]
  exact lifted os started H enc F
theorem saidUpto : Rows.FramesUptoSaid :=
  OpenClaim.holds_of_cond 6 Tryz.f6 rfl rfl rfl rfl rfl rfl rfl ⟨rfl, rfl, rfl, rfl, rfl⟩ rfl rfl rfl rfl rfl named Tryz.func6 facts inst wrapp
    (fun os started H enc _ F => step os started H enc F)
/-- the card -/
theorem framesUpto_card : Rows.FramesUptoCardSaid :=
  Claim7.holds_tied_plain_at .later [] _ _ _ _ saidUpto (fun _ h => by cases h) (by kernel_rfl) (fun _ h => by cases h) framesUpto_row_tie rfl ⟨rfl, rfl⟩ (by kernel_rfl) rfl
    (fun f fn hf hfn => by
      obtain rfl : f = 6 := Option.some.inj ((show Tryz.prog.funcNamed "courier/courierlaw.Frames" = some 6 by kernel_rfl).symm.trans hf) |>.symm
      obtain rfl : fn = Tryz.f6 := (Option.some.inj (Tryz.func6.symm.trans hfn)).symm
      exact ⟨by kernel_rfl, fun j t ht => by
        rw [Tryz.params6] at ht
        have hm : t ∈ [22] := by simpa using Array.mem_of_getElem? ht
        have hall : ([22].all fun u => !Tryz.prog.wantsStandIn u) = true := by kernel_rfl
        exact (show Tryz.prog.wantsStandIn t = false by simpa using List.all_eq_true.1 hall t hm)⟩)
    (by kernel_rfl)
end Go.Proofs.YtopcgnjocklcoaaGreatDoor.frames
namespace Go.Proofs.YtopcgnjocklcoaaGreatDoor
open Go.RowKit
theorem framesUpto_holds : Rows.FramesUptoCardSaid := frames.framesUpto_card
end Go.Proofs.YtopcgnjocklcoaaGreatDoor
