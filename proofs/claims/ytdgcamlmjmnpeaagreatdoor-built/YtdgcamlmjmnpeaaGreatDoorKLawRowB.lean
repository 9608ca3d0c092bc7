/- What is proved: courierkeep.Built returns true for every input (two numbers), and the input reads behind the call as it did. Conditions: the row's own (the listed package-level variables start as the program's text lays them; the card ties them). -/
import Derived.Test.YtdgcamlmjmnpeaaGreatDoorKLawLiftB
import Derived.Test.YtdgcamlmjmnpeaaGreatDoorKLawFactB
import Derived.Test.YtdgcamlmjmnpeaaGreatDoorCards
import Derived.Test.YtdgcamlmjmnpeaaGreatDoorTie
import Derived.ProofKit
import Derived.OpenShut
import Derived.Stop.Joined
import Derived.SevenTiedAt
namespace Go.Proofs.YtdgcamlmjmnpeaaGreatDoor.built
open Go.ChangeShapes Go.WideShapes Go.ChangeAt Go.RowKit
theorem step (os:Os) (started:os.Started) (H:Type) (enc:TypeId × Value → H):ReturnsInHanded Rows.builtRow.assume Tryz.pinned.checked os 3 .any (Rows.builtRow.pre enc Tryz.pinned.checked.prog Tryz.f3 (OpenSpec.ofChange Rows.builtSpec)) (Rows.builtSpec.post enc Tryz.pinned.checked.prog Tryz.f3 Rows.builtRow.apart Rows.builtRow.fresh Rows.builtRow.handsOn Rows.builtRow.again):=lifted os started H enc
theorem said:Rows.BuiltSaid :=
 OpenClaim.holds_of_wide 3 Tryz.f3 rfl rfl rfl rfl rfl rfl rfl ⟨rfl,rfl,rfl,rfl,rfl⟩ rfl rfl rfl rfl rfl named Tryz.func3 facts inst wrapp
  (fun os started H enc _=>step os started H enc)
theorem card:Rows.BuiltCardSaid :=
 Claim7.holds_tied_plain_at .later [] _ _ _ _ said (fun _ h=>by cases h) (by kernel_rfl) (fun _ h=>by cases h) built_row_tie rfl ⟨rfl,rfl⟩ (by kernel_rfl) rfl
  (fun f fn hf hfn=>by
   obtain rfl:f = 3:=Option.some.inj ((show Tryz.prog.funcNamed "courier/courierkeep.Built" = some 3 by kernel_rfl).symm.trans hf) |>.symm
   obtain rfl:fn = Tryz.f3:=(Option.some.inj (Tryz.func3.symm.trans hfn)).symm
   exact ⟨by kernel_rfl,fun j t ht=>by
    rw [Tryz.params3] at ht
    have hm:t ∈ [3,3]:=by simpa using Array.mem_of_getElem? ht
    have hall:([3,3].all fun u=>!Tryz.prog.wantsStandIn u) = true:=by kernel_rfl
    exact (show Tryz.prog.wantsStandIn t = false by simpa using List.all_eq_true.1 hall t hm)⟩)
  (by kernel_rfl)
end Go.Proofs.YtdgcamlmjmnpeaaGreatDoor.built
namespace Go.Proofs.YtdgcamlmjmnpeaaGreatDoor
open Go.RowKit
theorem built_holds:Rows.BuiltCardSaid:=built.card
end Go.Proofs.YtdgcamlmjmnpeaaGreatDoor
