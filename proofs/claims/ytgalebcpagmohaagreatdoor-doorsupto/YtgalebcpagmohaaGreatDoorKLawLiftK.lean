/- The row of courierlaw.Doors, second form: its step. -/
import Derived.Test.YtgalebcpagmohaaGreatDoorMDDoors
import Derived.Test.YtgalebcpagmohaaGreatDoorKLawReadK
import Derived.Test.YtgalebcpagmohaaGreatDoorMFrA
import Derived.Test.YtgalebcpagmohaaGreatDoorMLawV
import Derived.Test.YtgalebcpagmohaaGreatDoorCards
import Derived.Test.YtgalebcpagmohaaGreatDoorTie
import Derived.ProofKit
import Derived.OpenShut
import Derived.LaidMore
import Derived.ChangeMaps5
import Derived.Lay
import Derived.SevenTiedAt
import Derived.Stop.Joined
import Derived.Carry
import Derived.Deep.Slices
import Derived.Deep.DeepHandedRow
set_option linter.unusedSimpArgs false
set_option linter.unusedVariables false
set_option maxRecDepth 100000
namespace Go.Proofs.YtgalebcpagmohaaGreatDoor.doors
open Go.Proofs.Tryz
open Go.ChangeShapes Go.WideShapes Go.ChangeAt Go.RowKit Go.Deep
theorem ownKnobs:ownKnob Tryz.prog.godebug=none:=by kernel_rfl
theorem laidOut:laidOutB Tryz.prog=true:=by kernel_rfl
theorem Hu:(Rows.doorsUptoRow.laid.all fun x=>x.2.handleName?.isNone)=true:=by kernel_rfl
theorem abI {W:World} (h:laidMetH Tryz.prog Rows.doorsUptoRow.laid W):Env W:=by
 rw[MakeChecks.laidMetH_plain _ _ _ Hu] at h
 exact abH h (by unfold Rows.doorsUptoRow;simp only[List.mem_cons];right;right;right;right;right;left;rfl) (by unfold Rows.doorsUptoRow;simp only[List.mem_cons];right;right;right;right;left;rfl) (by unfold Rows.doorsUptoRow;simp only[List.mem_cons];right;right;left;rfl)
theorem reads (os:Os) {H:Type} (enc:TypeId × Value→H):∃ places,DataW.whole enc Tryz.prog ((World.laidAll Tryz.prog os Rows.doorsUptoRow.laid).forCall (fun _ _=>0) ⟨#[],#[.string ⟨#[]⟩,.int .i64 0,.int .i64 0,.int .i64 0,.int .u64 0,.slice none 0 0],[]⟩).memory Tryz.f3.params.toList Rows.doorsSpec.vars false (#[Value.string ⟨#[]⟩,.int .i64 0,.int .i64 0,.int .i64 0,.int .u64 0,.slice none 0 0]:Array Value).toList 8=some ([.lit (.string []),.lit (.int .i64 0),.lit (.int .i64 0),.lit (.int .i64 0),.lit (.int .u64 0),.nil],[],places) :=
 ⟨[],by kernel_rfl⟩
theorem ok0 (os:Os):Input.okWideB Tryz.prog ((World.laidAll Tryz.prog os Rows.doorsUptoRow.laid).forCall (fun _ _=>0) ⟨#[],#[.string ⟨#[]⟩,.int .i64 0,.int .i64 0,.int .i64 0,.int .u64 0,.slice none 0 0],[]⟩) 3 ⟨#[],#[.string ⟨#[]⟩,.int .i64 0,.int .i64 0,.int .i64 0,.int .u64 0,.slice none 0 0],[]⟩=true:=by kernel_rfl
theorem ahf (os:Os):laidMetH Tryz.prog Rows.doorsUptoRow.laid ((World.laidAll Tryz.prog os Rows.doorsUptoRow.laid).forCall (fun _ _=>0) ⟨#[],#[.string ⟨#[]⟩,.int .i64 0,.int .i64 0,.int .i64 0,.int .u64 0,.slice none 0 0],[]⟩).memory:=by
 rw[MakeChecks.laidMetH_plain _ _ _ Hu]
 exact laidMet_laidAll _ (by kernel_rfl) (by kernel_rfl)
theorem lifted (os:Os) (started:os.Started) (H:Type) (enc:TypeId × Value→H) (F:Stop.Interp) :
  ReturnsInHanded {} Tryz.checked os 3 .any ((Rows.OpenSpec.upto Rows.doorsSpec).preRow enc Tryz.prog Tryz.f3 Rows.doorsUptoRow.domain false Rows.doorsUptoRow.laid) (((Rows.OpenSpec.upto Rows.doorsSpec).at F).post enc Tryz.prog Tryz.f3 false true false false):=by
 obtain⟨places,hx⟩:=reads os enc
 refine returnsInHanded_of_row (C:=Tryz.checked) (s:=Rows.OpenSpec.upto Rows.doorsSpec) ownKnobs started (by kernel_rfl) func3
  ⟨World.laidAll Tryz.prog os Rows.doorsUptoRow.laid,fun _ _=>0,⟨#[],#[.string ⟨#[]⟩,.int .i64 0,.int .i64 0,.int .i64 0,.int .u64 0,.slice none 0 0],[]⟩,World.laidAll_os _ _ _,World.shaped_of_ZipB (by kernel_rfl) (by kernel_rfl),(Input.okWide_of_okWideB (base:=0) (ok0 os)).1,(Input.okWide_of_okWideB (ok0 os)).2,
   OpenSpec.preRow_of_cond 8 hx (by kernel_rfl) (fun k hk=>by cases hk;kernel_rfl) (by kernel_rfl) (ahf os),by
    simp only[Assume.holds]
    exact⟨by simp,by simp,fun _=>Modest.zero,by simp,by simp⟩⟩ ?_
 intro W base args ds gs before hval0 hW _ hcond _ hL _ _
 have hW':=hW
 obtain⟨p,q,hA0,hV,rfl,_,_⟩:=hW
 have hA:DataW.TrodAll enc Tryz.prog W 0 (fun _=>true) true Tryz.f3.params.toList args.toList ds p:=hA0
 have hval:∀ (j:Nat) t v,Tryz.f3.params[j]? = some t→args[j]? = some v→Value.okWide Tryz.prog W .any base t v:=hval0
 rw[params3] at hA hval
 obtain⟨v0,v1,v2,v3,v4,v5,d0,d1,d2,d3,d4,d5,p0,p1,p2,p3,p4,p5,rfl,rfl,rfl,h0,h1,h2,h3,h4,h5⟩:=JL hA
 obtain⟨rfl,rfl⟩:=trodVars_none hV
 obtain⟨s0,rfl,rfl,rfl,w0⟩:=Go.ChangeMaps.open_string underlying9 (hval 0 9 v0 rfl rfl) h0
 obtain⟨n1,rfl,rfl,rfl,w1⟩:=open_int underlying3 (hval 1 3 v1 rfl rfl) h1
 obtain⟨n2,rfl,rfl,rfl,w2⟩:=open_int underlying3 (hval 2 3 v2 rfl rfl) h2
 obtain⟨n3,rfl,rfl,rfl,w3⟩:=open_int underlying3 (hval 3 3 v3 rfl rfl) h3
 obtain⟨n4,rfl,rfl,rfl,w4⟩:=open_int underlying22 (hval 4 22 v4 rfl rfl) h4
 simp only[List.nil_append,List.append_nil] at hW'
 have hlt:∀ x∈p5,x.block<W.heap.size:=fun x hx=>hW'.lt x hx
 have hsmall:Rows.uptoBulk d5≤1048576:=by
  have h1:=of_decide_eq_true (hcond _ rfl)
  simp only[List.append_nil,Rows.uptoBulkAll] at h1
  omega
 obtain⟨a0,len0,cap0,rfl⟩:=okWide_slice underlying23 (hval 5 23 v5 rfl rfl)
 obtain⟨sa,L,cap,hv0,hl,hS⟩:=Zi (show ∃ n,DataW.trod enc Tryz.prog W 0 (fun _=>true) true n 23 [.slice a0 len0 cap0]=some (d5,p5) from h5) hsmall
 obtain⟨rfl,rfl,rfl⟩:a0=sa∧len0=L.length∧cap0=cap:=by simpa using hv0
 have hu:=bounds_u64 w4
 obtain⟨tk,rfl⟩:∃ tk:Nat,n4=tk:=⟨n4.toNat,by omega⟩
 refine(TY W s0 n1 n2 n3 tk a0 cap0 L hS (by omega) (abI hL) w0 (by omega)).mono fun e W' ⟨he,hb⟩=>?_
 subst he
 exact⟨_,rfl,⟨_,_,_,[],_,[],hW',trodAll_mk1 (shut_bool underlying4 _),JM (Go.ChangeMaps.shut_string underlying9 w0) (shut_int underlying3 w1) (shut_int underlying3 w2) (shut_int underlying3 w3) (shut_int underlying22 w4) (Below.trod laidOut (by kernel_rfl) (of_decide_eq_true (by kernel_rfl)) h5 hb hlt),rfl,hb.frame _,fun h=>by cases h⟩⟩
end Go.Proofs.YtgalebcpagmohaaGreatDoor.doors
