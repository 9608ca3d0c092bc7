/- What is proved: courierlaw.Doors returns true for every schema, settings, token and script of bulk at most 1048576 together (a server and a client between which no frame goes answer at every door as the document says), and the script reads behind the call as it did. Conditions: the row's own (the bound; the listed package-level variables start as the program's text lays them; the card ties them). -/
import Derived.Test.YtgalebcpagmohaaGreatDoorKLawLiftK
import Derived.Test.YtgalebcpagmohaaGreatDoorKLawFactK
import Derived.Test.YtgalebcpagmohaaGreatDoorCards
import Derived.Test.YtgalebcpagmohaaGreatDoorTie
import Derived.ProofKit
import Derived.OpenShut
import Derived.Stop.Joined
import Derived.SevenTiedAt
set_option linter.unusedSimpArgs false
set_option linter.unusedVariables false
namespace Go.Proofs.YtgalebcpagmohaaGreatDoor.doors
open Go.Proofs.Tryz
open Go.ChangeShapes Go.WideShapes Go.ChangeAt Go.RowKit Go.Deep
theorem step (os:Os) (started:os.Started) (H:Type) (enc:TypeId × Value→H) (F:Stop.Interp):ReturnsInHanded Rows.doorsUptoRow.assume Tryz.pinned.checked os 3 .any (Rows.doorsUptoRow.pre enc Tryz.pinned.checked.prog Tryz.f3 (Rows.OpenSpec.upto Rows.doorsSpec)) (((Rows.OpenSpec.upto Rows.doorsSpec).at F).post enc Tryz.pinned.checked.prog Tryz.f3 Rows.doorsUptoRow.apart Rows.doorsUptoRow.fresh Rows.doorsUptoRow.handsOn Rows.doorsUptoRow.again):=by
 rw[OpenClaim.pre_eq_preRow]
 exact lifted os started H enc F
theorem XB:Rows.DoorsUptoSaid :=
 OpenClaim.holds_of_cond 3 Tryz.f3 rfl rfl rfl rfl rfl rfl rfl ⟨rfl,rfl,rfl,rfl,rfl⟩ rfl rfl rfl rfl rfl named func3 facts inst adU
  (fun os started H enc _ F=>step os started H enc F)
theorem ES:Rows.DoorsUptoCardSaid :=
 Claim7.holds_tied_plain_at .later [] _ _ _ _ XB (fun _ h=>by cases h) (by kernel_rfl) (fun _ h=>by cases h) doorsUpto_row_tie rfl ⟨rfl,rfl⟩ (by kernel_rfl) rfl
  (fun f fn hf hfn=>by
   obtain rfl:f = 3:=Option.some.inj ((show Tryz.prog.funcNamed "courier/courierlaw.Doors" = some 3 by kernel_rfl).symm.trans hf) |>.symm
   obtain rfl:fn = Tryz.f3:=(Option.some.inj (func3.symm.trans hfn)).symm
   exact⟨by kernel_rfl,fun j t ht=>by
    rw[params3] at ht
    have hm:t∈[9,3,3,3,22,23]:=by simpa using Array.mem_of_getElem? ht
    have hall:([9,3,3,3,22,23].all fun u=>!Tryz.prog.wantsStandIn u)=true:=by kernel_rfl
    exact(show Tryz.prog.wantsStandIn t=false by simpa using List.all_eq_true.1 hall t hm)⟩)
  (by kernel_rfl)
end Go.Proofs.YtgalebcpagmohaaGreatDoor.doors
namespace Go.Proofs.YtgalebcpagmohaaGreatDoor
open Go.Proofs.Tryz
open Go.RowKit
theorem doorsUpto_holds:Rows.DoorsUptoCardSaid:=doors.ES
end Go.Proofs.YtgalebcpagmohaaGreatDoor
