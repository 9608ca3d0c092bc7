/- What is proved: courierkeep.Forgotten returns true for every input (five numbers), and the input reads behind the call as it did. Conditions: the row's own (the listed package-level variables start as the program's text lays them; the card ties them). -/
import Derived.Test.YtolfcabodiphmaaGreatDoorV43
import Derived.Test.YtolfcabodiphmaaGreatDoorV44
import Derived.Test.YtolfcabodiphmaaGreatDoorCards
import Derived.Test.YtolfcabodiphmaaGreatDoorTie
import Derived.ProofKit
import Derived.OpenShut
import Derived.Stop.Joined
import Derived.SevenTiedAt
set_option linter.unusedSimpArgs false
set_option linter.unusedVariables false
namespace Go.Proofs.YtolfcabodiphmaaGreatDoor.forgotten
open Go.Proofs.Tryz
open Go.ChangeShapes Go.WideShapes Go.ChangeAt Go.RowKit
theorem step(os:Os)(started:os.Started)(H:Type)(enc:TypeId × Value→H):ReturnsInHanded Rows.forgottenRow.assume Tryz.pinned.checked os 3 .any (Rows.forgottenRow.pre enc Tryz.pinned.checked.prog Tryz.f3 (OpenSpec.ofChange Rows.forgottenSpec)) (Rows.forgottenSpec.post enc Tryz.pinned.checked.prog Tryz.f3 Rows.forgottenRow.apart Rows.forgottenRow.fresh Rows.forgottenRow.handsOn Rows.forgottenRow.again):=lifted os started H enc
theorem said:Rows.ForgottenSaid :=
 OpenClaim.holds_of_wide 3 Tryz.f3 rfl rfl rfl rfl rfl rfl rfl ⟨rfl,rfl,rfl,rfl,rfl⟩ rfl rfl rfl rfl rfl named func3 facts inst agA
  (fun os started H enc _=>step os started H enc)
theorem card:Rows.ForgottenCardSaid :=
 Claim7.holds_tied_plain_at .later [] _ _ _ _ said (fun _ h=>by cases h) (by kernel_rfl) (fun _ h=>by cases h) forgotten_row_tie rfl ⟨rfl,rfl⟩ (by kernel_rfl) rfl
  (fun f fn hf hfn=>by
   obtain rfl:f = 3:=Option.some.inj ((show Tryz.prog.funcNamed "courier/courierkeep.Forgotten" = some 3 by kernel_rfl).symm.trans hf) |>.symm
   obtain rfl:fn = Tryz.f3:=(Option.some.inj (func3.symm.trans hfn)).symm
   exact⟨by kernel_rfl,fun j t ht=>by
    rw[params3] at ht
    have hm:t∈[3,3,3,3,3]:=by simpa using Array.mem_of_getElem? ht
    have hall:([3,3,3,3,3].all fun u=>!Tryz.prog.wantsStandIn u)=true:=by kernel_rfl
    exact(show Tryz.prog.wantsStandIn t=false by simpa using List.all_eq_true.1 hall t hm)⟩)
  (by kernel_rfl)
end Go.Proofs.YtolfcabodiphmaaGreatDoor.forgotten
namespace Go.Proofs.YtolfcabodiphmaaGreatDoor
open Go.Proofs.Tryz
open Go.RowKit
theorem forgotten_holds:Rows.ForgottenCardSaid:=forgotten.card
end Go.Proofs.YtolfcabodiphmaaGreatDoor
