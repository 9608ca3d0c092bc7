/- Package ends: the server: take, whatever the payload asks for. -/
import Derived.Test.YtkpfplbmmglkkaaGreatDoorV26
import Derived.Laws.EntriesVeiled
set_option linter.all false
set_option maxHeartbeats 8000000
set_option maxRecDepth 100000
namespace Go.Proofs.YtkpfplbmmglkkaaGreatDoor
open Go.Proofs.Tryz
open Go.RowKit Go.Conc
def SG.fj(g:SG):SG:={ g with aY:=g.aY.map (fun s=>{ s with silence:=0 }) }
theorem SG.tu{g:SG}(h:g.aY=none):g.fj=g:=by
 unfold SG.fj;cases g;simp only at h;subst h;rfl
theorem SG.tw{g:SG}{s:cZ}(h:g.aY=some s):g.fj = { g with aY:=some { s with silence:=0 } }:=by
 unfold SG.fj;rw[h];rfl
theorem tz{lo:Nat}{w:World}{g:SG}{q:SP}(k f:Nat)(z:Int)(hk:(k=0∧f=206∧z=0)∨(k=1∧f=207∧z=1)∨(k=2∧f=208∧z=2)∨(k=4∧f=210∧z=4)∨(k=5∧f=211∧z=5))(h:cB lo w g)(tk ss nb ps:Nat)(dt:ByteArray)(ht:∀ s,g.aY=some s→s.ah=tk)(hC:∀ w2,dw lo w g g.fj.st w2 g.fj→aT f #[aM g.b,.agg #[vB z,vU tk,vU ss,vU nb,vU ps,.string dt]] w2 (fun e w'=>e=.returned (.tuple #[])∧∃ g',dw lo w2 g.fj q w' g')):
  aT 175 #[aM g.b,.agg #[vB z,vU tk,vU ss,vU nb,vU ps,.string dt]] w (fun e w'=>e=.returned (.tuple #[])∧∃ g',dw lo w g q w' g'):=by
 obtain⟨w0,w1,nF,ee,JC,UY,-,QA,Mx,IC,ja⟩:=aeh w z tk ss nb ps dt;have hA:=h.below ja;have d10:=hA.ap.ce 10 rfl;obtain⟨t0,t1,t2,t3,t4,t5⟩:=IC.c6
 have tF:w1.cell? (aj w0.heap.size k)=some (.func (Fn.func f) #[] #[]):=by
  rcases hk with⟨rfl,rfl,_⟩ | ⟨rfl,rfl,_⟩ | ⟨rfl,rfl,_⟩ | ⟨rfl,rfl,_⟩ | ⟨rfl,rfl,_⟩
  all_goals exact Mx.ce _ rfl
 rcases Option.eq_none_or_eq_some g.aY with hs | ⟨s,hs⟩
 ·have e:=SG.tu hs
  rw[e] at hC;have hm:bS w1 g.ms []:=by have:=hA.lC;rw[hs] at this;exact this
  have Mu:=jf hm tk;have BX:=jf hm.drew tk;have HC:=U (hC w1.drew.drew (dw.refl h ja.drew.drew));have Hb:=U ja.drew.drew;clear h hs hC e hA ja JC QA UY Mx IC hm ht
  rcases hk with⟨rfl,rfl,rfl⟩ | ⟨rfl,rfl,rfl⟩ | ⟨rfl,rfl,rfl⟩ | ⟨rfl,rfl,rfl⟩ | ⟨rfl,rfl,rfl⟩
  all_goals
   go_enter func175,ntmps175
   go_wp2_with fail
   go_region
   all_goals
    go_wp2_with fail
    go_region_with ((first | go_at_call 206 | go_at_call 207 | go_at_call 208 | go_at_call 210 | go_at_call 211);refine HC.o.mono ?_;rintro e w3 ⟨rfl,g3,h3⟩;have H3:=U h3;clear h3)
    all_goals
     go_wp2_with fail
     go_end0
     exact⟨rfl,g3,H3.o.bz Hb.o⟩
 ·have e:=SG.tw hs
  rw[e] at hC;have hm:bS w1 g.ms [(tk,s.ap)]:=by have:=hA.lC;rw[hs] at this;rw[← ht s hs];exact this
  have Mu:(Instr.lookup 86 (.map (some g.ms)) (vU tk) false).run Tryz.prog w1=.ok (aM s.ap) w1:=jg hm;have BX:(Instr.lookup 86 (.map (some g.ms)) (vU tk) false).run Tryz.prog w1.drew=.ok (aM s.ap) w1.drew:=jg hm.drew;have TW:=hA.drew.fL hs;have c3:=TW.ce 3 rfl;have f3:=TW.aq 3;have js:aQ (fun k=>k=s.ap) w1.drew (w1.drew.setCell (aj s.ap 3) (vI 0)):=(aQ.refl (fun k=>k=s.ap) w1.drew).setCell (aj s.ap 3) _ (fun _=>rfl);have vQ:s.ap<w.heap.size:=(h.fL hs).lt;have hT:=(dw.refl h ja.drew).trans (hA.drew.Lt (s':={ s with silence:=0 }) hs js (TW.set 3 _) rfl rfl ⟨rfl,rfl,rfl,rfl⟩);have Zh:=aZ.dW (w:=w1.drew) IC js (fun e=>by have e:w.heap.size=s.ap:=e;omega);have xF:=(aZ.dW (w:=w1.drew) Mx js (fun e=>by have e:w0.heap.size=s.ap:=e;have:=JC.size;omega)).cell k;rw[← Mx.cell k,tF] at xF;obtain⟨w2,dX⟩:∃ w2,w1.drew.setCell (aj s.ap 3) (vI 0)=w2:=⟨_,rfl⟩
  rw[dX] at hT Zh xF;obtain⟨x0,x1,x2,x3,x4,x5⟩:=Zh.c6;have HT:=U (hT.below (Below.refl _ w2).drew);have HC:=U (hC w2.drew HT.o);clear h hs hC e hA ja JC QA UY Mx IC hm TW js hT Zh ht
  rcases hk with⟨rfl,rfl,rfl⟩ | ⟨rfl,rfl,rfl⟩ | ⟨rfl,rfl,rfl⟩ | ⟨rfl,rfl,rfl⟩ | ⟨rfl,rfl,rfl⟩
  all_goals
   go_enter func175,ntmps175
   go_wp2_with fail
   go_region
   all_goals
    go_wp2_with fail
    go_region_with ((first | go_at_call 206 | go_at_call 207 | go_at_call 208 | go_at_call 210 | go_at_call 211);refine HC.o.mono ?_;rintro e w3 ⟨rfl,g3,h3⟩;have H3:=U h3;clear h3)
    all_goals
     go_wp2_with fail
     go_end0
     exact⟨rfl,g3,HT.o.trans H3.o⟩
end Go.Proofs.YtkpfplbmmglkkaaGreatDoor
