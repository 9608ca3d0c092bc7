/- Package ends: the client: take. -/
import Derived.Test.YtkpfplbmmglkkaaGreatDoorV28
set_option linter.all false
set_option maxHeartbeats 8000000
set_option maxRecDepth 100000
namespace Go.Proofs.YtkpfplbmmglkkaaGreatDoor
open Go.Proofs.Tryz
open Go.RowKit Go.Conc
theorem wE{lo:Nat}{w:World}{g:CG}{X:List PIV}(k f:Nat)(z:Int)(hk:(k=6∧f=198∧z=6)∨(k=7∧f=199∧z=7)∨(k=8∧f=200∧z=8)∨(k=9∧f=201∧z=9)∨(k=10∧f=202∧z=10)∨(k=13∧f=205∧z=13))(h:eH lo w g)(di:lo≤w.heap.size)(iv:Value)(jD:oU lo w iv X)(tk ss nb ps:Nat)(dt:ByteArray)(c:CP)
  (Hf:∀ w2,eH lo w2 { g with silence:=0 } → lo≤w2.heap.size→oU lo w2 iv X→aT f #[aM g.b,.agg #[vB z,vU tk,vU ss,vU nb,vU ps,.string dt]] w2 (fun e w'=>e=.returned (.tuple #[])∧∃ g',fW lo w2 { g with silence:=0 } c w' g')) :
  aT 174 #[aM g.b,.agg #[vB z,vU tk,vU ss,vU nb,vU ps,.string dt]] w (fun e w'=>e=.returned (.tuple #[])∧∃ g',fW lo w g c w' g'):=by
 have hq:=PR f;obtain⟨w0,w1,nF,ee,JC,UY,hz,QA,Mx,IC,ja⟩:=aeg w z tk ss nb ps dt;have bC:=h.ap.lt;have bT:g.b≠w.heap.size:=by omega
 have al6:g.b≠w0.heap.size:=by omega
 have hA:=h.below ja;have d12:=hA.ap.ce 12 rfl;have f12:=hA.ap.aq 12;have jO:aQ (fun k=>k=g.b) w1 (w1.setCell (aj g.b 12) (vI 0)):=(aQ.refl _ _).setCell _ _ (fun _=>rfl);have hT:=hA.ke (g':={ g with silence:=0 }) jO (hA.ap.set 12 _) rfl rfl rfl rfl ⟨rfl,rfl,rfl⟩ h.ra h.rs h.rc h.rv;have nI:=U (IC.dW jO (fun e=>bT e.symm));have Df:=U (hT.bz ja);have HF:=U (Hf _ hT.dM.drew (Nat.le_trans di Df.o.grow.c.size) ((hT.alG hA (jD.below ja)).below (Below.refl _ _).drew));have t0:=IC.ce 0 rfl
 have tF:w1.cell? (aj w0.heap.size k)=some (.func (Fn.func f) #[] #[]):=by
  rcases hk with⟨rfl,rfl,_⟩ | ⟨rfl,rfl,_⟩ | ⟨rfl,rfl,_⟩ | ⟨rfl,rfl,_⟩ | ⟨rfl,rfl,_⟩ | ⟨rfl,rfl,_⟩
  all_goals exact Mx.ce _ rfl
 have rF:=(Mx.dW jO (fun e=>al6 e.symm)).cell k;rw[← Mx.cell k,tF] at rF;clear h jD Hf hA ja JC QA UY Mx IC jO hT hz
 rcases hk with⟨rfl,rfl,rfl⟩ | ⟨rfl,rfl,rfl⟩ | ⟨rfl,rfl,rfl⟩ | ⟨rfl,rfl,rfl⟩ | ⟨rfl,rfl,rfl⟩ | ⟨rfl,rfl,rfl⟩
 all_goals
  go_enter func174,ntmps174
  go_wp2_with fail
  obtain⟨w2,dX⟩:∃ w2,(w1.setCell (aj g.b 12) (vI 0))=w2:=⟨_,rfl⟩
  rw[dX] at Df nI HF rF ⊢;clear dX d12 f12 t0 tF;obtain⟨r0,r1,r2,r3,r4,r5⟩:=nI.o.c6
  go_wp2_with fail
  go_region_with ((first | go_at_call 198 | go_at_call 199 | go_at_call 200 | go_at_call 201 | go_at_call 202 | go_at_call 205);refine HF.o.mono ?_;rintro e w3 ⟨rfl,g3,h3⟩;have H3:=U h3;clear h3)
  all_goals
   go_wp2_with fail
   go_end0
   exact⟨rfl,g3,Df.o.trans (H3.o.bz (Below.refl _ w2).drew)⟩
end Go.Proofs.YtkpfplbmmglkkaaGreatDoor
