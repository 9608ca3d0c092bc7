/- The row of courierkeep.Forgotten: its step. -/
import Derived.Test.YtolfcabodiphmaaGreatDoorV41
import Derived.Test.YtolfcabodiphmaaGreatDoorV42
import Derived.Test.YtolfcabodiphmaaGreatDoorCards
import Derived.Test.YtolfcabodiphmaaGreatDoorTie
import Derived.ProofKit
import Derived.OpenShut
import Derived.LaidMore
import Derived.Lay
import Derived.SevenTiedAt
import Derived.Stop.Joined
import Derived.Carry
import Derived.Deep.Slices
set_option linter.unusedSimpArgs false
set_option linter.unusedVariables false
set_option maxRecDepth 100000
namespace Go.Proofs.YtolfcabodiphmaaGreatDoor.forgotten
open Go.Proofs.Tryz
open Go.ChangeShapes Go.WideShapes Go.ChangeAt Go.RowKit Go.Deep
theorem ownKnobs:ownKnob Tryz.prog.godebug=none:=by kernel_rfl
theorem F6:(Rows.forgottenRow.laid.all fun x=>x.2.handleName?.isNone)=true:=by kernel_rfl
theorem ac4{W:World}(h:laidMetH Tryz.prog Rows.forgottenRow.laid W):Env W:=by
 rw[MakeChecks.laidMetH_plain _ _ _ F6] at h
 exact ac3 h (by unfold Rows.forgottenRow;simp only[List.mem_cons];repeat (first | exact Or.inl rfl | refine Or.inr ?_)) (by unfold Rows.forgottenRow;simp only[List.mem_cons];repeat (first | exact Or.inl rfl | refine Or.inr ?_)) (by unfold Rows.forgottenRow;simp only[List.mem_cons];repeat (first | exact Or.inl rfl | refine Or.inr ?_))
theorem lifted(os:Os)(started:os.Started)(H:Type)(enc:TypeId × Value→H):
  ReturnsInHanded {} Tryz.checked os 3 .any (fun w args=>(Rows.forgottenSpec.pre enc Tryz.prog Tryz.f3 Rows.forgottenRow.domain false w args∧laidMetH Tryz.prog Rows.forgottenRow.laid w)∧sizedMet enc Tryz.prog Tryz.f3 (OpenSpec.ofChange Rows.forgottenSpec) false w args)
   (Rows.forgottenSpec.post enc Tryz.prog Tryz.f3 false true false false):=by
 refine returnsInHanded_of_change_and (C:=Tryz.checked) (X:=fun w _=>laidMetH Tryz.prog Rows.forgottenRow.laid w) (fun _ _ _ hh h=>h.of_heap hh) ownKnobs started (by kernel_rfl) func3
  (ChangeSpec.witness_shaped (enc:=enc) (C:=Tryz.checked) (os:=os) (X:=fun w _=>laidMetH Tryz.prog Rows.forgottenRow.laid w) false (World.laidAll Tryz.prog os Rows.forgottenRow.laid) #[.int .i64 0,.int .i64 0,.int .i64 0,.int .i64 0,.int .i64 0] 8 (World.laidAll_os _ _ _)
   (World.shaped_of_ZipB (by kernel_rfl) (by kernel_rfl)) (by kernel_rfl) (by kernel_rfl) (by kernel_rfl)
   (by rw[MakeChecks.laidMetH_plain _ _ _ F6];exact laidMet_laidAll _ (by kernel_rfl) (by kernel_rfl))) ?_
 intro W base args ds gs before hval0 hW _ _ hL _
 have hW':=hW
 obtain⟨p,q,hA0,hV,rfl,_,_⟩:=hW
 have hA:DataW.TrodAll enc Tryz.prog W 0 (fun _=>true) true Tryz.f3.params.toList args.toList ds p:=hA0
 have hval:∀ (j:Nat) t v,Tryz.f3.params[j]? = some t→args[j]? = some v→Value.okWide Tryz.prog W .any base t v:=hval0
 rw[params3] at hA hval
 obtain⟨v0,v1,v2,v3,v4,d0,d1,d2,d3,d4,p0,p1,p2,p3,p4,rfl,rfl,rfl,h0,h1,h2,h3,h4⟩:=IG hA
 obtain⟨rfl,rfl⟩:=trodVars_none hV
 obtain⟨wi,rfl,rfl,rfl,bwi⟩:=open_int underlying3 (hval 0 3 v0 rfl rfl) h0
 obtain⟨de,rfl,rfl,rfl,bde⟩:=open_int underlying3 (hval 1 3 v1 rfl rfl) h1
 obtain⟨re,rfl,rfl,rfl,bre⟩:=open_int underlying3 (hval 2 3 v2 rfl rfl) h2
 obtain⟨co,rfl,rfl,rfl,bco⟩:=open_int underlying3 (hval 3 3 v3 rfl rfl) h3
 obtain⟨tu,rfl,rfl,rfl,btu⟩:=open_int underlying3 (hval 4 3 v4 rfl rfl) h4
 simp only[List.append_nil] at hW'
 refine(Et wi de re co tu (bounds_i64 bwi) (bounds_i64 bde) (bounds_i64 bre) (bounds_i64 bco) (bounds_i64 btu) W (ac4 hL)).mono fun e W' ⟨he,hb⟩=>?_
 subst he
 exact⟨_,rfl,⟨_,_,_,[],([]++([]++([]++([]++[])))),[],hW',trodAll_mk1 (shut_bool underlying4 _),La (shut_int underlying3 bwi) (shut_int underlying3 bde) (shut_int underlying3 bre) (shut_int underlying3 bco) (shut_int underlying3 btu),rfl,hb.frame _,fun h=>by cases h⟩⟩
end Go.Proofs.YtolfcabodiphmaaGreatDoor.forgotten
