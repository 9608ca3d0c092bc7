/- What is proved: courierlaw.Decodes returns true for every script of bulk at most 1048576 (every Decode of the program answers as the reference does, and the bytes that were handed in are as they were), and the script reads behind the call as it did. Conditions: the row's own (the bound; the listed package-level variables start as the program's text lays them; the card ties them). -/
import Derived.Test.YtopcgnjocklcoaaGreatDoorKLawLiftD
import Derived.Test.YtopcgnjocklcoaaGreatDoorKLawFactD
import Derived.Test.YtopcgnjocklcoaaGreatDoorCards
import Derived.Test.YtopcgnjocklcoaaGreatDoorTie
import Derived.ProofKit
import Derived.OpenShut
import Derived.Stop.Joined
import Derived.SevenTiedAt
namespace Go.Proofs.YtopcgnjocklcoaaGreatDoor.decodes
open Go.ChangeShapes Go.WideShapes Go.ChangeAt Go.RowKit Go.Deep
theorem step (os:Os) (started:os.Started) (H:Type) (enc:TypeId × Value → H) (F:Stop.Interp):ReturnsInHanded Rows.decodesUptoRow.assume Tryz.pinned.checked os 5 .any (Rows.decodesUptoRow.pre enc Tryz.pinned.checked.prog Tryz.f5 (Rows.OpenSpec.upto Rows.decodesSpec)) (((Rows.OpenSpec.upto Rows.decodesSpec).at F).post enc Tryz.pinned.checked.prog Tryz.f5 Rows.decodesUptoRow.apart Rows.decodesUptoRow.fresh Rows.decodesUptoRow.handsOn Rows.decodesUptoRow.again):=by
 rw [OpenClaim.pre_eq_preRow]
 exact lifted os started H enc F
theorem saidUpto:Rows.DecodesUptoSaid :=
 OpenClaim.holds_of_cond 5 Tryz.f5 rfl rfl rfl rfl rfl rfl rfl ⟨rfl,rfl,rfl,rfl,rfl⟩ rfl rfl rfl rfl rfl named Tryz.func5 facts inst wrapp
  (fun os started H enc _ F=>step os started H enc F)
theorem decodesUpto_card:Rows.DecodesUptoCardSaid :=
 Claim7.holds_tied_plain_at .later [] _ _ _ _ saidUpto (fun _ h=>by cases h) (by kernel_rfl) (fun _ h=>by cases h) decodesUpto_row_tie rfl ⟨rfl,rfl⟩ (by kernel_rfl) rfl
  (fun f fn hf hfn=>by
   obtain rfl:f = 5:=Option.some.inj ((show Tryz.prog.funcNamed "courier/courierlaw.Decodes" = some 5 by kernel_rfl).symm.trans hf) |>.symm
   obtain rfl:fn = Tryz.f5:=(Option.some.inj (Tryz.func5.symm.trans hfn)).symm
   exact ⟨by kernel_rfl,fun j t ht=>by
    rw [Tryz.params5] at ht
    have hm:t ∈ [22]:=by simpa using Array.mem_of_getElem? ht
    have hall:([22].all fun u=>!Tryz.prog.wantsStandIn u) = true:=by kernel_rfl
    exact (show Tryz.prog.wantsStandIn t = false by simpa using List.all_eq_true.1 hall t hm)⟩)
  (by kernel_rfl)
end Go.Proofs.YtopcgnjocklcoaaGreatDoor.decodes
namespace Go.Proofs.YtopcgnjocklcoaaGreatDoor
open Go.RowKit
theorem decodesUpto_holds:Rows.DecodesUptoCardSaid:=decodes.decodesUpto_card
end Go.Proofs.YtopcgnjocklcoaaGreatDoor
