/- What is proved: courierkeep.Passed returns true for every input (two numbers and bytes), and the input reads behind the call as it did. Conditions: the row's own (the listed package-level variables start as the program's text lays them; the card ties them). -/
import Derived.Test.YtdgcamlmjmnpeaaGreatDoorKLawLiftP
import Derived.Test.YtdgcamlmjmnpeaaGreatDoorKLawFactP
import Derived.Test.YtdgcamlmjmnpeaaGreatDoorCards
import Derived.Test.YtdgcamlmjmnpeaaGreatDoorTie
import Derived.ProofKit
import Derived.OpenShut
import Derived.Stop.Joined
import Derived.SevenTiedAt
namespace Go.Proofs.YtdgcamlmjmnpeaaGreatDoor.passed
open Go.ChangeShapes Go.WideShapes Go.ChangeAt Go.RowKit
theorem step (os:Os) (started:os.Started) (H:Type) (enc:TypeId × Value → H):ReturnsInHanded Rows.passedRow.assume Tryz.pinned.checked os 4 .any (Rows.passedRow.pre enc Tryz.pinned.checked.prog Tryz.f4 (OpenSpec.ofChange Rows.passedSpec)) (Rows.passedSpec.post enc Tryz.pinned.checked.prog Tryz.f4 Rows.passedRow.apart Rows.passedRow.fresh Rows.passedRow.handsOn Rows.passedRow.again):=lifted os started H enc
theorem said:Rows.PassedSaid :=
 OpenClaim.holds_of_wide 4 Tryz.f4 rfl rfl rfl rfl rfl rfl rfl ⟨rfl,rfl,rfl,rfl,rfl⟩ rfl rfl rfl rfl rfl named Tryz.func4 facts inst wrapp
  (fun os started H enc _=>step os started H enc)
theorem card:Rows.PassedCardSaid :=
 Claim7.holds_tied_plain_at .later [] _ _ _ _ said (fun _ h=>by cases h) (by kernel_rfl) (fun _ h=>by cases h) passed_row_tie rfl ⟨rfl,rfl⟩ (by kernel_rfl) rfl
  (fun f fn hf hfn=>by
   obtain rfl:f = 4:=Option.some.inj ((show Tryz.prog.funcNamed "courier/courierkeep.Passed" = some 4 by kernel_rfl).symm.trans hf) |>.symm
   obtain rfl:fn = Tryz.f4:=(Option.some.inj (Tryz.func4.symm.trans hfn)).symm
   exact ⟨by kernel_rfl,fun j t ht=>by
    rw [Tryz.params4] at ht
    have hm:t ∈ [3,3,25]:=by simpa using Array.mem_of_getElem? ht
    have hall:([3,3,25].all fun u=>!Tryz.prog.wantsStandIn u) = true:=by kernel_rfl
    exact (show Tryz.prog.wantsStandIn t = false by simpa using List.all_eq_true.1 hall t hm)⟩)
  (by kernel_rfl)
end Go.Proofs.YtdgcamlmjmnpeaaGreatDoor.passed
namespace Go.Proofs.YtdgcamlmjmnpeaaGreatDoor
open Go.RowKit
theorem passed_holds:Rows.PassedCardSaid:=passed.card
end Go.Proofs.YtdgcamlmjmnpeaaGreatDoor
