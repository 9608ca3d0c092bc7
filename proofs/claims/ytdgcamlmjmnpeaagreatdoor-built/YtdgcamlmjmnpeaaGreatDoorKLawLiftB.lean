/- The row of courierkeep.Built: its step. -/
import Derived.Test.YtdgcamlmjmnpeaaGreatDoorMKeepF
import Derived.Test.YtdgcamlmjmnpeaaGreatDoorMLawV
import Derived.Test.YtdgcamlmjmnpeaaGreatDoorCards
import Derived.Test.YtdgcamlmjmnpeaaGreatDoorTie
import Derived.ProofKit
import Derived.OpenShut
import Derived.LaidMore
import Derived.Lay
import Derived.SevenTiedAt
import Derived.Stop.Joined
import Derived.Carry
import Derived.Deep.Slices
namespace Go.Proofs.YtdgcamlmjmnpeaaGreatDoor.built
open Go.ChangeShapes Go.WideShapes Go.ChangeAt Go.RowKit Go.Deep
theorem ownKnobs:ownKnob Tryz.prog.godebug = none:=by kernel_rfl
theorem laidOut:laidOutB Tryz.prog = true:=by kernel_rfl
theorem plainLaid:(Rows.builtRow.laid.all fun x=>x.2.handleName?.isNone) = true:=by kernel_rfl
theorem env_of {W:World} (h:laidMetH Tryz.prog Rows.builtRow.laid W):Env W:=by
 rw [MakeChecks.laidMetH_plain _ _ _ plainLaid] at h
 exact env_in h (by unfold Rows.builtRow;simp only [List.mem_cons];right;right;right;right;right;left;rfl) (by unfold Rows.builtRow;simp only [List.mem_cons];right;right;right;right;left;rfl) (by unfold Rows.builtRow;simp only [List.mem_cons];right;right;left;rfl)
set_option maxRecDepth 100000 in
theorem lifted (os:Os) (started:os.Started) (H:Type) (enc:TypeId × Value → H) :
  ReturnsInHanded {} Tryz.checked os 3 .any (fun w args=>(Rows.builtSpec.pre enc Tryz.prog Tryz.f3 Rows.builtRow.domain false w args ∧ laidMetH Tryz.prog Rows.builtRow.laid w) ∧ sizedMet enc Tryz.prog Tryz.f3 (OpenSpec.ofChange Rows.builtSpec) false w args)
   (Rows.builtSpec.post enc Tryz.prog Tryz.f3 false true false false):=by
 refine returnsInHanded_of_change_and (C:=Tryz.checked) (X:=fun w _=>laidMetH Tryz.prog Rows.builtRow.laid w) (fun _ _ _ hh h=>h.of_heap hh) ownKnobs started (by kernel_rfl) Tryz.func3
  (ChangeSpec.witness_shaped (enc:=enc) (C:=Tryz.checked) (os:=os) (X:=fun w _=>laidMetH Tryz.prog Rows.builtRow.laid w) false (World.laidAll Tryz.prog os Rows.builtRow.laid) #[.int .i64 0,.int .i64 0] 8 (World.laidAll_os _ _ _)
   (World.shaped_of_ZipB (by kernel_rfl) (by kernel_rfl)) (by kernel_rfl) (by kernel_rfl) (by kernel_rfl)
   (by rw [MakeChecks.laidMetH_plain _ _ _ plainLaid];exact laidMet_laidAll _ (by kernel_rfl) (by kernel_rfl))) ?_
 intro W base args ds gs before hval0 hW _ _ hL _
 have hW':=hW
 obtain ⟨p,q,hA0,hV,rfl,_,_⟩:=hW
 have hA:DataW.TrodAll enc Tryz.prog W 0 (fun _=>true) true Tryz.f3.params.toList args.toList ds p:=hA0
 have hval:∀ (j:Nat) t v,Tryz.f3.params[j]? = some t → args[j]? = some v → Value.okWide Tryz.prog W .any base t v:=hval0
 rw [Tryz.params3] at hA hval
 obtain ⟨v0,v1,d0,d1,p0,p1,rfl,rfl,rfl,h0,h1⟩:=trodAll_two hA
 obtain ⟨rfl,rfl⟩:=trodVars_none hV
 obtain ⟨n,rfl,rfl,rfl,wn⟩:=open_int Tryz.underlying3 (hval 0 3 v0 rfl rfl) h0
 obtain ⟨which,rfl,rfl,rfl,ww⟩:=open_int Tryz.underlying3 (hval 1 3 v1 rfl rfl) h1
 simp only [List.append_nil] at hW'
 refine (built_any n which (bounds_i64 wn) (bounds_i64 ww) W (env_of hL)).mono fun e W' ⟨he,hb⟩=>?_
 subst he
 exact ⟨_,rfl,⟨_,_,_,[],([] ++ []),[],hW',trodAll_mk1 (shut_bool Tryz.underlying4 _),trodAll_mk2 (shut_int Tryz.underlying3 wn) (shut_int Tryz.underlying3 ww),rfl,hb.frame _,fun h=>by cases h⟩⟩
end Go.Proofs.YtdgcamlmjmnpeaaGreatDoor.built
