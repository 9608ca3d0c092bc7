/- The row of courierlaw.All, second form: its step. -/
import Derived.Test.YtopcgnjocklcoaaGreatDoorMLawA
import Derived.Test.YtopcgnjocklcoaaGreatDoorMLawV
import Derived.Test.YtopcgnjocklcoaaGreatDoorCards
import Derived.Test.YtopcgnjocklcoaaGreatDoorTie
import Derived.ProofKit
import Derived.OpenShut
import Derived.LaidMore
import Derived.Lay
import Derived.SevenTiedAt
import Derived.Stop.Joined
import Derived.Carry
import Derived.Deep.Slices
import Derived.Deep.DeepHandedRow
namespace Go.Proofs.YtopcgnjocklcoaaGreatDoor.all
open Go.ChangeShapes Go.WideShapes Go.ChangeAt Go.RowKit Go.Deep
theorem ownKnobs:ownKnob Tryz.prog.godebug = none:=by kernel_rfl
theorem laidOut:laidOutB Tryz.prog = true:=by kernel_rfl
theorem plainLaid:(Rows.allUptoRow.laid.all fun x=>x.2.handleName?.isNone) = true:=by kernel_rfl
theorem env_of {W:World} (h:laidMetH Tryz.prog Rows.allUptoRow.laid W):Env W:=by
 rw [MakeChecks.laidMetH_plain _ _ _ plainLaid] at h
 exact env_in h (by unfold Rows.allUptoRow;simp only [List.mem_cons];right;right;right;right;right;left;rfl) (by unfold Rows.allUptoRow;simp only [List.mem_cons];right;right;right;right;left;rfl) (by unfold Rows.allUptoRow;simp only [List.mem_cons];right;right;left;rfl)
theorem reads (os:Os) {H:Type} (enc:TypeId × Value → H):∃ places,DataW.whole enc Tryz.prog ((World.laidAll Tryz.prog os Rows.allUptoRow.laid).forCall (fun _ _=>0) ⟨#[],#[.slice none 0 0],[]⟩).memory Tryz.f7.params.toList Rows.allSpec.vars false #[Value.slice none 0 0].toList 8 = some ([.nil],[],places) :=
 ⟨[],by kernel_rfl⟩
theorem ok0 (os:Os):Input.okWideB Tryz.prog ((World.laidAll Tryz.prog os Rows.allUptoRow.laid).forCall (fun _ _=>0) ⟨#[],#[.slice none 0 0],[]⟩) 7 ⟨#[],#[.slice none 0 0],[]⟩ = true:=by kernel_rfl
theorem met0 (os:Os):laidMetH Tryz.prog Rows.allUptoRow.laid ((World.laidAll Tryz.prog os Rows.allUptoRow.laid).forCall (fun _ _=>0) ⟨#[],#[.slice none 0 0],[]⟩).memory:=by
 rw [MakeChecks.laidMetH_plain _ _ _ plainLaid]
 exact laidMet_laidAll _ (by kernel_rfl) (by kernel_rfl)
set_option maxRecDepth 100000 in
theorem lifted (os:Os) (started:os.Started) (H:Type) (enc:TypeId × Value → H) (F:Stop.Interp) :
  ReturnsInHanded {} Tryz.checked os 7 .any ((Rows.OpenSpec.upto Rows.allSpec).preRow enc Tryz.prog Tryz.f7 Rows.allUptoRow.domain false Rows.allUptoRow.laid) (((Rows.OpenSpec.upto Rows.allSpec).at F).post enc Tryz.prog Tryz.f7 false true false false):=by
 obtain ⟨places,hx⟩:=reads os enc
 refine returnsInHanded_of_row (C:=Tryz.checked) (s:=Rows.OpenSpec.upto Rows.allSpec) ownKnobs started (by kernel_rfl) Tryz.func7
  ⟨World.laidAll Tryz.prog os Rows.allUptoRow.laid,fun _ _=>0,⟨#[],#[.slice none 0 0],[]⟩,World.laidAll_os _ _ _,World.shaped_of_ZipB (by kernel_rfl) (by kernel_rfl),(Input.okWide_of_okWideB (base:=0) (ok0 os)).1,(Input.okWide_of_okWideB (ok0 os)).2,
   OpenSpec.preRow_of_cond 8 hx (by kernel_rfl) (fun k hk=>by cases hk;kernel_rfl) (by kernel_rfl) (met0 os),by
    simp only [Assume.holds]
    exact ⟨by simp,by simp,fun _=>Modest.zero,by simp,by simp⟩⟩ ?_
 intro W base args ds gs before hval0 hW _ hcond _ hL _ _
 have hW':=hW
 obtain ⟨p,q,hA0,hV,rfl,_,_⟩:=hW
 have hA:DataW.TrodAll enc Tryz.prog W 0 (fun _=>true) true Tryz.f7.params.toList args.toList ds p:=hA0
 have hval:∀ (j:Nat) t v,Tryz.f7.params[j]? = some t → args[j]? = some v → Value.okWide Tryz.prog W .any base t v:=hval0
 rw [Tryz.params7] at hA hval
 obtain ⟨v0,d0,rfl,rfl,h0⟩:=trodAll_one hA
 obtain ⟨rfl,rfl⟩:=trodVars_none hV
 simp only [List.append_nil] at hW'
 have hlt:∀ x ∈ p,x.block < W.heap.size:=fun x hx=>hW'.lt x hx
 have hsmall:Rows.uptoBulk d0 ≤ 1048576:=by
  have h1:Rows.uptoBulkAll ([d0] ++ []) ≤ 1048576:=of_decide_eq_true (hcond _ rfl)
  simp only [List.append_nil,Rows.uptoBulkAll] at h1
  omega
 obtain ⟨a0,len0,cap0,rfl⟩:=okWide_slice Tryz.underlying22 (hval 0 22 v0 rfl rfl)
 obtain ⟨sa,L,cap,hv0,hl,hS⟩:=scr_in (show ∃ n,DataW.trod enc Tryz.prog W 0 (fun _=>true) true n 22 [.slice a0 len0 cap0] = some (d0,p) from h0) hsmall
 obtain ⟨rfl,rfl,rfl⟩:a0 = sa ∧ len0 = L.length ∧ cap0 = cap:=by simpa using hv0
 refine (allPlays_any W a0 cap0 L hS hl (env_of hL)).mono fun e W' ⟨he,hb⟩=>?_
 subst he
 exact ⟨_,rfl,⟨_,_,_,[],_,[],hW',trodAll_mk1 (shut_bool Tryz.underlying4 _),trodAll_mk1 (Below.trod laidOut (by kernel_rfl) (of_decide_eq_true (by kernel_rfl)) h0 hb hlt),rfl,hb.frame _,fun h=>by cases h⟩⟩
end Go.Proofs.YtopcgnjocklcoaaGreatDoor.all
