/- What is proved: courierkeep.Cursored returns true for every input (five numbers and a mark), and the input reads behind the call as it did. Conditions: the row's own (the listed package-level variables start as the program's text lays them; the card ties them). -/
import Derived.Test.YtkpfplbmmglkkaaGreatDoorV48
import Derived.Test.YtkpfplbmmglkkaaGreatDoorV49
set_option linter.all false
namespace Go.Proofs.YtkpfplbmmglkkaaGreatDoor.cursored
open Go.Proofs.Tryz
open Go.ChangeShapes Go.WideShapes Go.ChangeAt Go.RowKit
theorem step(os:Os)(started:os.Started)(H:Type)(enc:TypeId × Value→H):ReturnsInHanded Rows.cursoredRow.assume Tryz.pinned.checked os 3 .any (Rows.cursoredRow.pre enc Tryz.pinned.checked.prog Tryz.f3 (OpenSpec.ofChange Rows.cursoredSpec)) (Rows.cursoredSpec.post enc Tryz.pinned.checked.prog Tryz.f3 Rows.cursoredRow.apart Rows.cursoredRow.fresh Rows.cursoredRow.handsOn Rows.cursoredRow.again):=ac8 os started H enc
theorem an8:Rows.CursoredSaid :=
 OpenClaim.holds_of_wide 3 Tryz.f3 rfl rfl rfl rfl rfl rfl rfl ⟨rfl,rfl,rfl,rfl,rfl⟩ rfl rfl rfl rfl rfl named func3 ah7 an7 ah8
  (fun os started H enc _=>step os started H enc)
theorem an9:Rows.CursoredCardSaid :=
 Claim7.holds_tied_plain_at .later [] _ _ _ _ an8 (fun _ h=>by cases h) (by kernel_rfl) (fun _ h=>by cases h) cursored_row_tie rfl ⟨rfl,rfl⟩ (by kernel_rfl) rfl
  (fun f fn hf hfn=>by
   obtain rfl:f=3:=Option.some.inj ((show Tryz.prog.funcNamed "courier/courierkeep.Cursored" = some 3 by kernel_rfl).symm.trans hf) |>.symm
   obtain rfl:fn = Tryz.f3:=(Option.some.inj (func3.symm.trans hfn)).symm
   exact⟨by kernel_rfl,fun j t ht=>by
    rw[params3] at ht;have hm:t∈[3,3,3,3,3,4]:=by simpa using Array.mem_of_getElem? ht
    have mG:([3,3,3,3,3,4].all fun u=>!Tryz.prog.wantsStandIn u)=true:=by kernel_rfl
    exact(show Tryz.prog.wantsStandIn t=false by simpa using List.all_eq_true.1 mG t hm)⟩)
  (by kernel_rfl)
end Go.Proofs.YtkpfplbmmglkkaaGreatDoor.cursored
namespace Go.Proofs.YtkpfplbmmglkkaaGreatDoor
open Go.Proofs.Tryz
open Go.RowKit
theorem cursored_holds:Rows.CursoredCardSaid:=cursored.an9
end Go.Proofs.YtkpfplbmmglkkaaGreatDoor
