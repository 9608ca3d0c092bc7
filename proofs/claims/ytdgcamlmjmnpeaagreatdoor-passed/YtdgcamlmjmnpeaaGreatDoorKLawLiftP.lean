/- The row of courierkeep.Passed: its step. -/
import Derived.Test.YtdgcamlmjmnpeaaGreatDoorMKeepF
import Derived.Test.YtdgcamlmjmnpeaaGreatDoorMLawV
import Derived.Test.YtdgcamlmjmnpeaaGreatDoorCards
import Derived.Test.YtdgcamlmjmnpeaaGreatDoorTie
import Derived.ProofKit
import Derived.OpenShut
import Derived.LaidMore
import Derived.Lay
import Derived.SevenTiedAt
import Derived.Stop.Joined
import Derived.Carry
import Derived.Deep.Slices
namespace Go.Proofs.YtdgcamlmjmnpeaaGreatDoor.passed
open Go.ChangeShapes Go.WideShapes Go.ChangeAt Go.RowKit Go.Deep
theorem ownKnobs:ownKnob Tryz.prog.godebug = none:=by kernel_rfl
theorem laidOut:laidOutB Tryz.prog = true:=by kernel_rfl
theorem plainLaid:(Rows.passedRow.laid.all fun x=>x.2.handleName?.isNone) = true:=by kernel_rfl
theorem env_of {W:World} (h:laidMetH Tryz.prog Rows.passedRow.laid W):Env W:=by
 rw [MakeChecks.laidMetH_plain _ _ _ plainLaid] at h
 exact env_in h (by unfold Rows.passedRow;simp only [List.mem_cons];right;right;right;right;right;left;rfl) (by unfold Rows.passedRow;simp only [List.mem_cons];right;right;right;right;left;rfl) (by unfold Rows.passedRow;simp only [List.mem_cons];right;right;left;rfl)
section
variable {H:Type} {enc:TypeId × Value → H}
theorem cells1B:Tryz.prog.cellsOf 5 = 1:=by kernel_rfl
def u8Of:Value → UInt8
 | .int _ n=>n.toNat.toUInt8
 | _=>0
theorem bytes_of {W:World} {v:Value} {y:DataW H × List MemPlace} (h:∃ n,DataW.trod enc Tryz.prog W 0 (fun _=>true) true n 25 [v] = some y):∃ L,Rd W v L ∧ L.length ≤ maxLen:=by
 obtain ⟨n,h⟩:=h
 rcases open_slice1 Tryz.underlying25 cells1B h with ⟨hc,_⟩ | ⟨a,len,cap,m,k,V,D,Pl,hc,_,hl,hm,hmm,_,hall⟩
 ·simp only [List.cons.injEq,and_true] at hc
  exact ⟨[],Or.inl ⟨hc,rfl⟩,by simp⟩
 ·simp only [List.cons.injEq,and_true] at hc
  simp only [if_true] at hmm
  subst hmm
  have hV:∀ i,i < m → V i = byteCell (u8Of (V i)):=fun i hi=>by
   obtain ⟨z,e,_,hz⟩:=DataW.trod_int Tryz.underlying5 (hall i hi).2
   have hb:=bounds_u8 hz
   simp only [List.cons.injEq,and_true] at e
   rw [e]
   simp only [u8Of,byteCell]
   congr 1
   simp [Nat.toUInt8,UInt8.toNat_ofNat'];omega
  refine ⟨(List.range len).map fun i=>u8Of (V i),Or.inr ⟨a,m,by rw [hc];simp,fun j u hu=>?_⟩,by simp;omega⟩
  have hj:j < len:=by
   rcases Nat.lt_or_ge j len with h | h
   ·exact h
   ·rw [List.getElem?_eq_none (by simp;omega)] at hu;cases hu
  rw [List.map_map,List.getElem?_map,List.getElem?_range hj] at hu
  simp only [Option.map_some,Option.some.injEq,Function.comp] at hu
  rw [(hall j (by omega)).1,hV j (by omega),← hu]
end
set_option maxRecDepth 100000 in
theorem lifted (os:Os) (started:os.Started) (H:Type) (enc:TypeId × Value → H) :
  ReturnsInHanded {} Tryz.checked os 4 .any (fun w args=>(Rows.passedSpec.pre enc Tryz.prog Tryz.f4 Rows.passedRow.domain false w args ∧ laidMetH Tryz.prog Rows.passedRow.laid w) ∧ sizedMet enc Tryz.prog Tryz.f4 (OpenSpec.ofChange Rows.passedSpec) false w args)
   (Rows.passedSpec.post enc Tryz.prog Tryz.f4 false true false false):=by
 refine returnsInHanded_of_change_and (C:=Tryz.checked) (X:=fun w _=>laidMetH Tryz.prog Rows.passedRow.laid w) (fun _ _ _ hh h=>h.of_heap hh) ownKnobs started (by kernel_rfl) Tryz.func4
  (ChangeSpec.witness_shaped (enc:=enc) (C:=Tryz.checked) (os:=os) (X:=fun w _=>laidMetH Tryz.prog Rows.passedRow.laid w) false (World.laidAll Tryz.prog os Rows.passedRow.laid) #[.int .i64 0,.int .i64 0,.slice none 0 0] 8 (World.laidAll_os _ _ _)
   (World.shaped_of_ZipB (by kernel_rfl) (by kernel_rfl)) (by kernel_rfl) (by kernel_rfl) (by kernel_rfl)
   (by rw [MakeChecks.laidMetH_plain _ _ _ plainLaid];exact laidMet_laidAll _ (by kernel_rfl) (by kernel_rfl))) ?_
 intro W base args ds gs before hval0 hW _ _ hL _
 have hW':=hW
 obtain ⟨p,q,hA0,hV,rfl,_,_⟩:=hW
 have hA:DataW.TrodAll enc Tryz.prog W 0 (fun _=>true) true Tryz.f4.params.toList args.toList ds p:=hA0
 have hval:∀ (j:Nat) t v,Tryz.f4.params[j]? = some t → args[j]? = some v → Value.okWide Tryz.prog W .any base t v:=hval0
 rw [Tryz.params4] at hA hval
 obtain ⟨v0,v1,v2,d0,d1,d2,p0,p1,p2,rfl,rfl,rfl,h0,h1,h2⟩:=trodAll_three hA
 obtain ⟨rfl,rfl⟩:=trodVars_none hV
 obtain ⟨n,rfl,rfl,rfl,wn⟩:=open_int Tryz.underlying3 (hval 0 3 v0 rfl rfl) h0
 obtain ⟨at_,rfl,rfl,rfl,wat⟩:=open_int Tryz.underlying3 (hval 1 3 v1 rfl rfl) h1
 obtain ⟨a2,l2,c2,rfl⟩:=okWide_slice Tryz.underlying25 (hval 2 25 v2 rfl rfl)
 obtain ⟨L,hR,hl⟩:=bytes_of (show ∃ n,DataW.trod enc Tryz.prog W 0 (fun _=>true) true n 25 [.slice a2 l2 c2] = some (d2,p2) from h2)
 obtain ⟨a3,c3,hv⟩:=hR.slice
 obtain ⟨rfl,rfl,rfl⟩:a2 = a3 ∧ l2 = L.length ∧ c2 = c3:=by simpa using hv
 simp only [List.append_nil] at hW'
 have hlt:∀ x ∈ p2,x.block < W.heap.size:=fun x hx=>hW'.lt x (by simpa using hx)
 refine (passed_any n at_ (bounds_i64 wn) (bounds_i64 wat) W a2 c2 L hR hl (env_of hL)).mono fun e W' ⟨he,hb⟩=>?_
 subst he
 exact ⟨_,rfl,⟨_,_,_,[],([] ++ ([] ++ p2)),[],hW',trodAll_mk1 (shut_bool Tryz.underlying4 _),trodAll_mk3 (shut_int Tryz.underlying3 wn) (shut_int Tryz.underlying3 wat) (Below.trod laidOut (by kernel_rfl) (of_decide_eq_true (by kernel_rfl)) h2 hb hlt),rfl,hb.frame _,fun h=>by cases h⟩⟩
end Go.Proofs.YtdgcamlmjmnpeaaGreatDoor.passed
