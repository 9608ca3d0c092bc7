/- What is proved: courierlaw.Checks returns true for every script (every Check of the program, its answer and its place, is the reference's), and the script reads behind the call as it did. Conditions: the row's own (the listed package-level variables start as the program's text lays them; the card ties them). -/
import Derived.Test.YtopcgnjocklcoaaGreatDoorCLawLiftC
import Derived.Test.YtopcgnjocklcoaaGreatDoorCLawFactC
import Derived.Test.YtopcgnjocklcoaaGreatDoorCards
import Derived.Test.YtopcgnjocklcoaaGreatDoorTie
import Derived.ProofKit
import Derived.OpenShut
import Derived.Stop.Joined
import Derived.SevenTiedAt
namespace Go.Proofs.YtopcgnjocklcoaaGreatDoor
open Go.ChangeShapes Go.WideShapes Go.ChangeAt Go.RowKit
theorem checks_step (os : Os) (started : os.Started) (H : Type) (enc : TypeId × Value → H) : ReturnsInHanded Rows.checksRow.assume Tryz.pinned.checked os 3 .any (Rows.checksRow.pre enc Tryz.pinned.checked.prog Tryz.f3 (OpenSpec.ofChange Rows.checksSpec)) (Rows.checksSpec.post enc Tryz.pinned.checked.prog Tryz.f3 Rows.checksRow.apart Rows.checksRow.fresh Rows.checksRow.handsOn Rows.checksRow.again) := lifted os started H enc
theorem checks_said : Rows.ChecksSaid :=
  OpenClaim.holds_of_wide 3 Tryz.f3 rfl rfl rfl rfl rfl rfl rfl ⟨rfl, rfl, rfl, rfl, rfl⟩ rfl rfl rfl rfl rfl checks.named Tryz.func3 checks.facts checks.inst checks.wrapp
    (fun os started H enc _ => checks_step os started H enc)
/-- the card -/
theorem checks_card : Rows.ChecksCardSaid :=
  Claim7.holds_tied_plain_at .later [] _ _ _ _ checks_said (fun _ h => by cases h) (by kernel_rfl) (fun _ h => by cases h) checks_row_tie rfl ⟨rfl, rfl⟩ (by kernel_rfl) rfl
    (fun f fn hf hfn => by
      obtain rfl : f = 3 := Option.some.inj ((show Tryz.prog.funcNamed "courier/courierlaw.Checks" = some 3 by kernel_rfl).symm.trans hf) |>.symm
      obtain rfl : fn = Tryz.f3 := (Option.some.inj (Tryz.func3.symm.trans hfn)).symm
      exact ⟨by kernel_rfl, fun j t ht => by
        rw [Tryz.params3] at ht
        have hm : t ∈ [22] := by simpa using Array.mem_of_getElem? ht
        have hall : ([22].all fun u => !Tryz.prog.wantsStandIn u) = true := by kernel_rfl
        exact (show Tryz.prog.wantsStandIn t = false by simpa using List.all_eq_true.1 hall t hm)⟩)
    (by kernel_rfl)
end Go.Proofs.YtopcgnjocklcoaaGreatDoor
