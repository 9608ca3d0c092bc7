/- What is proved: courierlaw.All returns true for every script of bulk at most 1048576 (every Check, Encode, Decode, Frame and Feed of the script, in every order, answers as the reference does; the bytes that were handed in are as they were; the lists that come out stay their owner's), and the script reads behind the call as it did. Conditions: the row's own (the bound; the listed package-level variables start as the program's text lays them; the card ties them). -/
import Derived.Test.YtopcgnjocklcoaaGreatDoorKLawLiftA
import Derived.Test.YtopcgnjocklcoaaGreatDoorKLawFactA
import Derived.Test.YtopcgnjocklcoaaGreatDoorCards
import Derived.Test.YtopcgnjocklcoaaGreatDoorTie
import Derived.ProofKit
import Derived.OpenShut
import Derived.Stop.Joined
import Derived.SevenTiedAt
namespace Go.Proofs.YtopcgnjocklcoaaGreatDoor.all
open Go.ChangeShapes Go.WideShapes Go.ChangeAt Go.RowKit Go.Deep
theorem step (os:Os) (started:os.Started) (H:Type) (enc:TypeId × Value → H) (F:Stop.Interp):ReturnsInHanded Rows.allUptoRow.assume Tryz.pinned.checked os 7 .any (Rows.allUptoRow.pre enc Tryz.pinned.checked.prog Tryz.f7 (Rows.OpenSpec.upto Rows.allSpec)) (((Rows.OpenSpec.upto Rows.allSpec).at F).post enc Tryz.pinned.checked.prog Tryz.f7 Rows.allUptoRow.apart Rows.allUptoRow.fresh Rows.allUptoRow.handsOn Rows.allUptoRow.again):=by
 rw [OpenClaim.pre_eq_preRow]
 exact lifted os started H enc F
theorem saidUpto:Rows.AllUptoSaid :=
 OpenClaim.holds_of_cond 7 Tryz.f7 rfl rfl rfl rfl rfl rfl rfl ⟨rfl,rfl,rfl,rfl,rfl⟩ rfl rfl rfl rfl rfl named Tryz.func7 facts inst wrapp
  (fun os started H enc _ F=>step os started H enc F)
theorem allUpto_card:Rows.AllUptoCardSaid :=
 Claim7.holds_tied_plain_at .later [] _ _ _ _ saidUpto (fun _ h=>by cases h) (by kernel_rfl) (fun _ h=>by cases h) allUpto_row_tie rfl ⟨rfl,rfl⟩ (by kernel_rfl) rfl
  (fun f fn hf hfn=>by
   obtain rfl:f = 7:=Option.some.inj ((show Tryz.prog.funcNamed "courier/courierlaw.All" = some 7 by kernel_rfl).symm.trans hf) |>.symm
   obtain rfl:fn = Tryz.f7:=(Option.some.inj (Tryz.func7.symm.trans hfn)).symm
   exact ⟨by kernel_rfl,fun j t ht=>by
    rw [Tryz.params7] at ht
    have hm:t ∈ [22]:=by simpa using Array.mem_of_getElem? ht
    have hall:([22].all fun u=>!Tryz.prog.wantsStandIn u) = true:=by kernel_rfl
    exact (show Tryz.prog.wantsStandIn t = false by simpa using List.all_eq_true.1 hall t hm)⟩)
  (by kernel_rfl)
end Go.Proofs.YtopcgnjocklcoaaGreatDoor.all
namespace Go.Proofs.YtopcgnjocklcoaaGreatDoor
open Go.RowKit
theorem allUpto_holds:Rows.AllUptoCardSaid:=all.allUpto_card
end Go.Proofs.YtopcgnjocklcoaaGreatDoor
