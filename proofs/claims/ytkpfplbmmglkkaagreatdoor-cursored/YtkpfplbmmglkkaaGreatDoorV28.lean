/- Package ends: the client: item. -/
import Derived.Test.YtkpfplbmmglkkaaGreatDoorV23
import Derived.Laws.EntriesVeiled
set_option linter.all false
set_option maxHeartbeats 4000000
set_option maxRecDepth 100000
namespace Go.Proofs.YtkpfplbmmglkkaaGreatDoor
open Go.Proofs.Tryz
open Go.RowKit Go.Conc
theorem agC{lo:Nat}{w:World}{g:CG}{X:List PIV}{i:Nat}{mm:fh}(h:eH lo w g)(hS:yy g.st)(di:lo≤w.heap.size)(la:Option Addr)(ll lc:Nat)(PQ:g.iv=.slice la ll lc)(jD:oU lo w (.slice la ll lc) X)(fy:∀ s∈g.st.ae,s.aX≤1000000000000∧s.ak.length≤1000)(p:aS)(hp:p.number≤1000000000000)(hd:p.data.size≤1000)(hr:g.st.ew p=some i)(wY:g.ae[i]? = some mm)(hy:p.ai=mm.s.aX+1∧mm.s.ak.length<g.R):
  aT 200 #[aM g.b,lQ p] w (fun e w'=>e=.returned (.tuple #[])∧∃ g',fW lo w g (g.st.D7 (dY X) g.R p) w' g'):=by
 obtain⟨w0,eM,aN,aD⟩:=eK w p;obtain⟨e0,e1,e2,e3,e4,e5⟩:=aD.c6;have yz:=U h.kf;have H:=U h;have Hb:=U aN;have HB:=U aD;have BK:=U jD;have HIV:=U PQ;have MI:=U fy;have HR:=U hr;have WU:=U wY;have HY:=U hy;clear h aD aN jD PQ fy hr wY hy
 go_enter func200,ntmps200
 go_wp2_with fail
 refine(E4 (H.o.below Hb.o) hS p).mono ?_;rintro e w1 ⟨hR,aA⟩;have aW:=Hb.o.trans (aA.mono Hb.o.size);have H1:=U (H.o.below aW);have kJ:=U (HB.o.below aA);have Dx:=U aW;obtain⟨r0,r1,r2,r3,r4,r5⟩:=kJ.o.c6;clear aA aW
 obtain rfl:e=.returned (aM mm.ap):=by
  rcases hR with⟨hr',_⟩ | ⟨i',m',hr',hm,rfl⟩
  ·rw[HR.o] at hr';cases hr'
  ·obtain rfl:i=i':=by rw[HR.o] at hr';exact Option.some.inj hr'
   obtain rfl:mm=m':=by rw[WU.o] at hm;exact Option.some.inj hm
   rfl
 have hr:=HR.o;have wY:=WU.o;clear hR;have hq:=Dz (T:=126) underlying126 w1 mm.ap;have hq2:=DH (T:=126) underlying126 w1 mm.ap;have HF:=U (show g.st.D7 (dY X) g.R p=({ g.st with ae:=g.st.ae.modify i (dQ.add (dY X) g.R p) }:CP).qb p by unfold CP.D7;rw[sw hr]);have jQ:i<g.ae.length:=(List.getElem?_eq_some_iff.1 wY).1;have him:g.ae[i]=mm:=(List.getElem?_eq_some_iff.1 wY).2;have HM:=U (him ▸ H1.o.iO jQ);have HV:=U (H.o.rv mm (List.mem_of_getElem? wY));have wZ:=MI.o mm.s (by show mm.s∈g.ae.map (fun m=>m.s);exact List.mem_map_of_mem (List.mem_of_getElem? wY));have rR:=wZ.1;have al5:=wZ.2;have WU:=U wY;have k0:w1.cell? (aj g.b 0)=some (.slice la ll lc):=(show w1.cell? (aj g.b 0)=some g.iv from H1.o.ap.cell 0).trans (by rw[HIV.o]);have k3:=H1.o.ap.ce 3 rfl;clear hr wY him jQ wZ
 go_wp2_with fail
 go_region_with (go_at_call 233;refine(Tx (w:=w1.drew) (HM.o.drew) HV.o la ll lc (BK.o.below Dx.o.drew) (Nat.le_trans di Dx.o.size) p g.R rR hd al5 HY.o).mono ?_;rintro e w2 ⟨rfl,m2,h2⟩;have jo:=U h2;clear h2)
 all_goals
  have Ew:=U ((Below.refl w1.heap.size w1).drew);obtain⟨g2,h3⟩:=H1.o.drew.Lh (f:=dQ.add (dY X) g.R p) WU.o jo.o;have nG:=h3.ap kJ.o.drew yz.o;have gX:=U nG.1;have fI:g2.b=g.b:=h3.b;have H3:=U h3;have yo:=U (show yy g2.st by rw[h3.st];exact hS.ae i _);obtain⟨s0,s1,s2,s3,s4,s5⟩:=gX.o.c6;clear h3 nG
  go_wp2_with fail
  rw[← fI];refine(Y6 H3.o.dM yo.o p hp).mono ?_;rintro e w4 ⟨rfl,g4,h4⟩;have H4:=U (((H3.o.bz Ew.o).bz Dx.o).trans h4);clear h4;rw[fI]
  go_wp2_with fail
  go_end0
  exact⟨rfl,g4,by rw[HF.o,← H3.o.st];exact H4.o⟩
theorem PR(fn:Nat)(w:World):(binOp .eql 290 (.func (Fn.func fn) #[] #[]) .nilFunc).run Tryz.prog w=.ok (.bool false) w:=by
 have h1:∀ d:Nat,(Op.equalIn (d+1) 290 (.func (Fn.func fn) #[] #[]) .nilFunc).run Tryz.prog w=.ok false w:=fun d=>by simp[Op.equalIn,run_underlying underlying290]
 have h2:(Op.equal 290 (.func (Fn.func fn) #[] #[]) .nilFunc).run Tryz.prog w=.ok false w:=h1 9999;simp[binOp,h2]
theorem yy.abI{c:CP}(h:yy c):yy { c with silence:=0 }:=⟨h.a,h.s,h.ca,h.at_,Nat.zero_le _,h.n⟩
end Go.Proofs.YtkpfplbmmglkkaaGreatDoor
