/- Package ends: the server: the session that a payload is of. -/
import Derived.Test.YtkpfplbmmglkkaaGreatDoorV25
set_option linter.all false
set_option maxHeartbeats 4000000
set_option maxRecDepth 100000
namespace Go.Proofs.YtkpfplbmmglkkaaGreatDoor
open Go.Proofs.Tryz
variable {lo W:Nat}{w:World}{g:SG}{s:cZ}{p:aS}{o:pH}
open Go.RowKit Go.Conc
theorem DJ(h:cB lo w g)(p:aS)(hs:g.aY=none):
  aT 238 #[aM g.b,lQ p] w (fun e w'=>e=.returned (.pointer none)∧dw lo w g (g.st.post (aw 13 p.ah p.ag 0 0)) w' { g with L:=bo g.up g.L (aw 13 p.ah p.ag 0 0) }):=by
 obtain⟨w0,eM,aN,aD⟩:=eK w p;obtain⟨e0,e1,e2,e3,e4,e5⟩:=aD.c6;have h0:=h.below aN;have hm:bS w0 g.ms []:=by have:=h0.lC;rw[hs] at this;exact this
 have d10:=h0.ap.ce 10 rfl;have Mu:=jf hm p.ah;have BX:=jf hm.drew p.ah;have H0:=U h0;have gZ:=U aN;have ii:=U aD;clear h h0 hm hs aN aD
 go_enter func238,ntmps238
 go_wp2_with fail
 go_region
 all_goals
  go_wp2_with fail
  go_quiet (fail)
  obtain⟨wz,Cz⟩:∃ wz,w0.drew.drewN nq=wz:=⟨_,rfl⟩
  have mP:=below_drewN (Below.refl w0.heap.size w0).drew nq;rw[Cz] at mP ⊢;have HZ:=U (H0.o.below mP);have Q1:=U (ii.o.below mP);have Zf:=U (gZ.o.trans (mP.mono gZ.o.size));have y1:=Q1.o.ce 1 rfl;have y2:=Q1.o.ce 2 rfl;have abE:=U mP;clear Cz mP
  go_wp2_with fail
  go_region_with (go_at_call 106;refine(HZ.o.drew.post (aw 13 p.ah p.ag 0 0)).mono ?_;rintro e w1 ⟨rfl,h1,_⟩;have H1:=U h1;clear h1)
  all_goals
   go_wp2_with fail
   go_ret
   exact⟨rfl,H1.o.bz Zf.o.drew⟩
theorem SP.kM{s:SP}(hs:s.aY=some o)(h:o.number=p.ag):s.cG W p=(if s.cur then s else { s with cur:=true }.dI W,true):=by
 unfold SP.cG;rw[hs];simp only[if_pos h]
theorem uO(h:cB lo w g)(p:aS)(hs:g.aY=some s)(ht:s.ah=p.ah)(hn:s.number=p.ag)(fF:g.cur=true):
  aT 238 #[aM g.b,lQ p] w (fun e w'=>e=.returned (aM s.ap)∧Below w.heap.size w w'):=by
 obtain⟨w0,eM,aN,aD⟩:=eK w p;obtain⟨e0,e1,e2,e3,e4,e5⟩:=aD.c6;have h0:=h.below aN;have hm:bS w0 g.ms [(p.ah,s.ap)]:=by have:=h0.lC;rw[hs] at this;rw[← ht];exact this
 have d10:=h0.ap.ce 10 rfl;have Mu:(Instr.lookup 86 (.map (some g.ms)) (vU p.ah) false).run Tryz.prog w0=.ok (aM s.ap) w0:=jg hm;have BX:(Instr.lookup 86 (.map (some g.ms)) (vU p.ah) false).run Tryz.prog w0.drew=.ok (aM s.ap) w0.drew:=jg hm.drew;have c2:=(h0.fL hs).ce 2 rfl;have H0:=U h0;have gZ:=U aN;have ii:=U aD;have hb:((s.number:Int) != (p.ag:Int))=false:=by simp;omega
 have HC:=U (show g.fR=aM s.ap by unfold SG.fR;rw[fF,hs];rfl);have hq:∀ w',(binOp .neq 87 (aM s.ap) (aM s.ap)).run Tryz.prog w'=.ok (.bool false) w':=fun w'=>Fh w' _
 clear h h0 hm hs ht hn aN aD
 go_enter func238,ntmps238
 go_wp2_with fail
 go_region
 all_goals
  go_wp2_with fail
  go_quiet (fail)
  obtain⟨wz,Cz⟩:∃ wz,w0.drew.drewN nq=wz:=⟨_,rfl⟩
  have mP:=below_drewN (Below.refl w0.heap.size w0).drew nq;rw[Cz] at mP ⊢;have HZ:=U (H0.o.below mP);have Q1:=U (ii.o.below mP);have Zf:=U (gZ.o.trans (mP.mono gZ.o.size));have y1:=Q1.o.ce 1 rfl;have y2:=Q1.o.ce 2 rfl;clear Cz mP;have y11:wz.cell? (aj g.b 11)=some (aM s.ap):=(show wz.cell? (aj g.b 11)=some g.fR from HZ.o.ap.cell 11).trans (by rw[HC.o])
  go_wp2_with fail
  go_ret
  exact⟨rfl,Zf.o⟩
theorem TS(h:cB lo w g)(p:aS)(hS:SSp g.st)(hW:g.W≤1000)(hs:g.aY=some s)(ht:s.ah=p.ah)(hn:s.number=p.ag)(fF:g.cur=false):
  aT 238 #[aM g.b,lQ p] w (fun e w'=>e=.returned (aM s.ap)∧∃ g',dw lo w g (g.st.cG g.W p).1 w' g'∧g'.aY.map (fun s=>s.ap)=some s.ap):=by
 obtain⟨w0,eM,aN,aD⟩:=eK w p;obtain⟨e0,e1,e2,e3,e4,e5⟩:=aD.c6;have h0:=h.below aN;have hm:bS w0 g.ms [(p.ah,s.ap)]:=by have:=h0.lC;rw[hs] at this;rw[← ht];exact this
 have d10:=h0.ap.ce 10 rfl;have Mu:(Instr.lookup 86 (.map (some g.ms)) (vU p.ah) false).run Tryz.prog w0=.ok (aM s.ap) w0:=jg hm;have BX:(Instr.lookup 86 (.map (some g.ms)) (vU p.ah) false).run Tryz.prog w0.drew=.ok (aM s.ap) w0.drew:=jg hm.drew;have c2:=(h0.fL hs).ce 2 rfl;have H0:=U h0;have gZ:=U aN;have ii:=U aD;have Hs:=U hs;have hb:((s.number:Int) != (p.ag:Int))=false:=by simp;omega
 have HE:=U (show (g.st.cG g.W p).1=({ g with cur:=true }:SG).st.dI g.W by rw[SP.kM (SG.tO hs) hn];show (if g.cur=true then _ else _)=_;rw[if_neg (by rw[fF];simp)];rfl);have HC:=U (show g.fR=.pointer none by unfold SG.fR;rw[fF]);have yx:=U (show ({ g with cur:=true }:SG).fR=aM s.ap by unfold SG.fR;rw[show ({ g with cur:=true }:SG).aY=some s from hs];rfl);have HP:=U (show SSp ({ g with cur:=true }:SG).st from hS.mono rfl (fun o' mz=>⟨o',mz,rfl,rfl⟩));have hq:∀ w',(binOp .neq 87 (.pointer none) (aM s.ap)).run Tryz.prog w'=.ok (.bool true) w':=fun w'=>Fj w' _
 clear h h0 hm hs ht hn aN aD
 go_enter func238,ntmps238
 go_wp2_with fail
 go_region
 all_goals
  go_wp2_with fail
  go_quiet (fail)
  obtain⟨wz,Cz⟩:∃ wz,w0.drew.drewN nq=wz:=⟨_,rfl⟩
  have mP:=below_drewN (Below.refl w0.heap.size w0).drew nq;rw[Cz] at mP ⊢;have HZ:=U (H0.o.below mP);have Q1:=U (ii.o.below mP);have Zf:=U (gZ.o.trans (mP.mono gZ.o.size));have y1:=Q1.o.ce 1 rfl;have y2:=Q1.o.ce 2 rfl;have abE:=U mP;clear Cz mP;have y11:wz.cell? (aj g.b 11)=some (.pointer none):=(show wz.cell? (aj g.b 11)=some g.fR from HZ.o.ap.cell 11).trans (by rw[HC.o]);have v11:=HZ.o.ap.aq 11;have jk:aQ (fun k=>k=g.b) wz (wz.setCell (aj g.b 11) (aM s.ap)):=(aQ.refl _ _).setCell _ _ (fun _=>rfl)
  have dD:aZ (wz.setCell (aj g.b 11) (aM s.ap)) g.b 91 ({ g with cur:=true }:SG).cells:=by
   have:=HZ.o.ap.set 11 (aM s.ap);show aZ _ _ _ (pZ g.iv _ _ _ g.bu g.fN g.up g.q g.m [g.tv,.map (some g.ms),({ g with cur:=true }:SG).fR,vU g.cR,g.wv,vI g.aE,.map (some g.mo)]);rw[yx.o];exact this
  have HT:=U ((dw.refl H0.o abE.o).trans (HZ.o.ke (g':={ g with cur:=true }) jk dD rfl rfl rfl rfl ⟨rfl,rfl,rfl⟩ HZ.o.rt HZ.o.tp HZ.o.ss HZ.o.rw));clear jk dD
  go_wp2_with fail
  refine(TN HT.o.cN HP.o hW).mono ?_;rintro e w5 ⟨rfl,g5,h5,QJ⟩;have H5:=U h5;have HK5:=U QJ;clear h5 QJ
  go_wp2_with fail
  go_ret
  exact⟨rfl,g5,by rw[HE.o];exact(HT.o.bz gZ.o).trans H5.o,by rw[HK5.o];show g.aY.map _=_;rw[Hs.o];rfl⟩
theorem TT(h:cB lo w g)(p:aS)(hS:SSp g.st)(hW:g.W≤1000)(hs:g.aY=some s)(ht:s.ah=p.ah)(hn:s.number=p.ag):
  aT 238 #[aM g.b,lQ p] w (fun e w'=>e=.returned (aM s.ap)∧∃ g',dw lo w g (g.st.cG g.W p).1 w' g'∧g'.aY.map (fun s=>s.ap)=some s.ap):=by
 cases hc:g.cur with
 | true=>
  refine(uO h p hs ht hn hc).mono ?_;rintro e w' ⟨rfl,hb⟩;exact⟨rfl,g,by rw[SP.kM (SG.tO hs) hn];show dw lo w g (if g.cur=true then _ else _) w' g;rw[if_pos hc];exact dw.refl h hb,by rw[hs];rfl⟩
 | false=>exact TS h p hS hW hs ht hn hc
theorem SG.Zg{b:Nat}(h:g.aY.map (fun s=>s.ap)=some b):∃ s,g.aY=some s∧s.ap=b:=by
 cases hs:g.aY with
 | none=>rw[hs] at h;cases h
 | some s=>rw[hs] at h;exact⟨s,rfl,by simpa using h⟩
theorem SG.IB(hs:g.aY=none):g.st.aY=none:=by unfold SG.st;rw[hs];rfl
theorem Xa(h:cB lo w g)(p:aS)(hs:g.aY=none):
  aT 207 #[aM g.b,lQ p] w (fun e w'=>e=.returned (.tuple #[])∧∃ g',dw lo w g (g.st.BZ g.W p) w' g'):=by
 obtain⟨w0,eM,aN,aD⟩:=eK w p;obtain⟨e0,e1,e2,e3,e4,e5⟩:=aD.c6;have HN:=U hs;have H0:=U (h.below aN);have gZ:=U aN;have HE:=U (show g.st.BZ g.W p=g.st.post (aw 13 p.ah p.ag 0 0) by unfold SP.BZ SP.cG;rw[SG.IB hs];rfl);clear h hs aN aD
 go_enter func207,ntmps207
 go_wp2_with fail
 refine(DJ H0.o p HN.o).mono ?_;rintro e w1 ⟨rfl,h1⟩;have H1:=U (h1.bz gZ.o);clear h1
 go_wp2_with fail
 go_end0
 exact⟨rfl,_,by rw[HE.o];exact H1.o⟩
theorem TU(h:cB lo w g)(p:aS)(hS:SSp g.st)(hW:g.W≤1000)(hs:g.aY=some s)(ht:s.ah=p.ah)(hn:s.number=p.ag):
  aT 207 #[aM g.b,lQ p] w (fun e w'=>e=.returned (.tuple #[])∧∃ g',dw lo w g (g.st.BZ g.W p) w' g'):=by
 obtain⟨w0,eM,aN,aD⟩:=eK w p;obtain⟨e0,e1,e2,e3,e4,e5⟩:=aD.c6;have H0:=U (h.below aN);have gZ:=U aN;have Hs:=U hs;have Ht:=U ht;have Hn:=U hn;have HS:=U hS;have HO:=U (show (g.st.cG g.W p).2=true by rw[SP.kM (SG.tO hs) hn]);clear h hS ht hs hn aN aD
 go_enter func207,ntmps207
 go_wp2_with fail
 refine(TT (s:=s) H0.o p HS.o hW Hs.o Ht.o Hn.o).mono ?_;rintro e w1 ⟨rfl,g1,h1,RO⟩;have H1:=U (h1.bz gZ.o);have HK1:=U RO;clear h1 RO;obtain⟨s1,gY,aA⟩:=SG.Zg HK1.o;have Hs1:=U gY;have EY:g1.b=g.b:=H1.o.b;have Vn:=U (H1.o.cN.fL gY);rw[← aA];have KT:=U (show (g.st.cG g.W p).1.aY=some s1.o from(congrArg SP.aY H1.o.st).symm.trans (SG.tO gY));clear gY aA
 have HE:=U (show g.st.BZ g.W p=g1.st.post s1.o.fH by
  unfold SP.BZ;simp only[HO.o,if_true,KT.o]
  rw[H1.o.st])
 rw[← EY];clear EY
 go_wp2_with fail
 go_region_with (first | (go_at_call 169;refine(Fa (w:=w1.drew) (s:=s1) Vn.o).mono ?_;rintro e w2 ⟨rfl,aW⟩) | (go_at_call 106;refine((H1.o.cN.drew.below aW).post (aw 7 s1.ah s1.number s1.next 0)).mono ?_;rintro e w3 ⟨rfl,h3,_⟩;have H3:=U h3;clear h3))
 all_goals
  go_wp2_with fail
  go_end0
  exact⟨rfl,_,by rw[HE.o];exact H1.o.trans (H3.o.bz ((Below.refl _ w1).drew.trans aW))⟩
theorem SP.oW{s:SP}(hs:s.aY=none):s.aR W p=(s.post (aw 13 p.ah p.ag 0 0),false):=by
 unfold SP.aR SP.cG;rw[hs];rfl
theorem SP.nz{s:SP}(hs:s.aY=some o)(hn:o.number=p.ag)(hc:s.cur=true):s.cG W p=(s,true):=by rw[SP.kM hs hn,if_pos hc]
theorem SP.xJ{s:SP}(hs:s.aY=some o)(hn:o.number=p.ag)(hc:s.cur=true)(he:p.number=o.next):s.aR W p=({ s with aY:=some { o with next:=o.next+1 } }.post { o with next:=o.next+1 }.fH,true):=by
 unfold SP.aR;simp only[SP.nz hs hn hc,if_true,hs,if_pos he]
theorem abF(h:cB lo w g)(p:aS)(hs:g.aY=none):
  aT 239 #[aM g.b,lQ p] w (fun e w'=>e=.returned (.pointer none)∧∃ g',dw lo w g (g.st.aR g.W p).1 w' g'):=by
 obtain⟨w0,eM,aN,aD⟩:=eK w p;obtain⟨e0,e1,e2,e3,e4,e5⟩:=aD.c6;have HN:=U hs;have H0:=U (h.below aN);have gZ:=U aN;have HE:=U (SP.oW (W:=g.W) (p:=p) (SG.IB hs));clear h hs aN aD
 go_enter func239,ntmps239
 go_wp2_with fail
 refine(DJ H0.o p HN.o).mono ?_;rintro e w1 ⟨rfl,h1⟩;have H1:=U (h1.bz gZ.o);clear h1
 go_wp2_with fail
 go_ret
 exact⟨rfl,_,by rw[HE.o];exact H1.o⟩
theorem TV(h:cB lo w g)(p:aS)(hp:p.number≤1000000000000)(hs:g.aY=some s)(ht:s.ah=p.ah)(hn:s.number=p.ag)(fF:g.cur=true)(bT:p.number=s.next):
  aT 239 #[aM g.b,lQ p] w (fun e w'=>∃ b,e=.returned (aM b)∧∃ g',dw lo w g (g.st.aR g.W p).1 w' g'∧g'.aY.map (fun s=>s.ap)=some b):=by
 obtain⟨w0,eM,aN,aD⟩:=eK w p;obtain⟨e0,e1,e2,e3,e4,e5⟩:=aD.c6;have H:=U h;have H0:=U (h.below aN);have gZ:=U aN;have ii:=U aD;have Hs:=U hs;have HC:=U (And.intro ht (And.intro hn fF));have HE:=U (SP.xJ (W:=g.W) (SG.tO hs) hn fF bT);have b1:((p.number:Int)==(s.next:Int))=true:=by simp;omega
 have hww:IntKind.u64.wrap ((s.next:Int)+1)=(s.next:Int)+1:=by rw[IntKind.wrap_u64];omega
 clear h hs ht hn fF bT aN aD
 go_enter func239,ntmps239
 go_wp2_with fail
 refine(uO (s:=s) H0.o p Hs.o HC.o.1 HC.o.2.1 HC.o.2.2).mono ?_;rintro e w1 ⟨rfl,aA⟩;have y3:w1.cell? (aj w.heap.size 3)=some (vU p.number):=(ii.o.below aA).cell 3;have x4:=((H0.o.below aA).fL Hs.o).ce 4 rfl;have iV:=U (gZ.o.trans (aA.mono gZ.o.size));clear aA
 go_wp2_with fail
 go_quiet (fail)
 have mP:=iV.o.trans ((below_drewN (Below.refl w1.heap.size w1) nq).mono iV.o.size);obtain⟨wz,Cz⟩:∃ wz,w1.drewN nq=wz:=⟨_,rfl⟩
 rw[Cz] at mP ⊢;have hGz:=H.o.below mP;have hSz:=hGz.fL Hs.o;have z4:=hSz.ce 4 rfl;have v4:=hSz.aq 4;have jR:aZ (wz.setCell (aj s.ap 4) (vU ((s.next:Int)+1))) s.ap 157 (ec { s with next:=s.next+1 }):=hSz.set 4 _;have jr:aQ (fun k=>k=s.ap) wz (wz.setCell (aj s.ap 4) (vU ((s.next:Int)+1))):=(aQ.refl (fun k=>k=s.ap) wz).setCell (aj s.ap 4) _ (fun _=>rfl);have HT:=U ((dw.refl H.o mP).trans (hGz.Lt (s':={ s with next:=s.next+1 }) Hs.o jr jR rfl rfl ⟨rfl,rfl,rfl,rfl⟩));obtain⟨wy,hwy⟩:∃ wy,wz.setCell (aj s.ap 4) (vU ((s.next:Int)+1))=wy:=⟨_,rfl⟩
 rw[hwy] at HT jR;have HSX:=U jR;have HGX:=U HT.o.cN;clear Cz mP hSz hGz jR jr
 go_wp2_with fail
 go_region_with (first | (go_at_call 169;refine(Fa (w:=wy.drew) (s:={ s with next:=s.next+1 }) HSX.o).mono ?_;rintro e w2 ⟨rfl,aW⟩) | (go_at_call 106;refine((HGX.o.drew.below aW).post (aw 7 s.ah s.number (s.next+1) 0)).mono ?_;rintro e w3 ⟨rfl,h3,_⟩;have H3:=U h3;clear h3))
 all_goals
  go_wp2_with fail
  go_ret
  exact⟨s.ap,rfl,_,by rw[HE.o];exact HT.o.trans (H3.o.bz ((Below.refl _ wy).drew.trans aW)),rfl⟩
theorem abG(h:cB lo w g)(di:lo≤w.heap.size)(QM:g.cR≤1000000000000)(p:aS)(hs:g.aY=none):
  aT 206 #[aM g.b,lQ p] w (fun e w'=>e=.returned (.tuple #[])∧∃ g',dw lo w g (g.st.zv p) w' g'):=by
 obtain⟨w0,eM,aN,aD⟩:=eK w p;obtain⟨e0,e1,e2,e3,e4,e5⟩:=aD.c6;have h0:=h.below aN;have hm:bS w0 g.ms []:=by have:=h0.lC;rw[hs] at this;exact this
 have d10:=h0.ap.ce 10 rfl;have Mu:(Instr.lookup 86 (.map (some g.ms)) (vU p.ah) false).run Tryz.prog w0=.ok (.pointer none) w0:=jf hm p.ah;have BX:(Instr.lookup 86 (.map (some g.ms)) (vU p.ah) false).run Tryz.prog w0.drew=.ok (.pointer none) w0.drew:=jf hm.drew p.ah;have H0:=U h0;have gZ:=U aN;have ii:=U aD;have Hs:=U hs;have HGB:=U h.ap.lt;have HL:=U (show g.aY.toList.map (fun s=>(s.ah,s.ap))=[]∨∃ b0,g.aY.toList.map (fun s=>(s.ah,s.ap))=[(p.ah,b0)] from Or.inl (by rw[hs];rfl))
 have HE:=U (show g.st.zv p=({ g.st with aY:=some ⟨p.ah,p.number,g.cR+1,0,0,[],[]⟩,cur:=true,cR:=g.cR+1 }:SP).post (aw 6 p.ah (g.cR+1) p.number 0) by
  unfold SP.zv;rw[show g.st.aY=none by unfold SG.st;rw[hs];rfl];simp only[if_true]
  rfl)
 have hwb:IntKind.u64.wrap ((g.cR:Int)+1)=(g.cR:Int)+1:=by rw[IntKind.wrap_u64];omega
 clear h h0 hm hs aN aD
 go_enter func206,ntmps206
 go_wp2_with fail
 go_region
 all_goals
  go_wp2_with fail
  go_quiet (fail)
  obtain⟨wz,Cz⟩:∃ wz,w0.drew.drewN nq=wz:=⟨_,rfl⟩
  have mP:=below_drewN (Below.refl w0.heap.size w0).drew nq;rw[Cz] at mP ⊢;have HZ:=U (H0.o.below mP);have Q1:=U (ii.o.below mP);have Zf:=U (gZ.o.trans (mP.mono gZ.o.size));have y1:=Q1.o.ce 1 rfl;have y3:=Q1.o.ce 3 rfl;have abE:=U mP;clear Cz mP;have z12:=HZ.o.ap.ce 12 rfl;have v12:=HZ.o.ap.aq 12;have FV:aQ (fun k=>k=g.b) wz (wz.setCell (aj g.b 12) (vU ((g.cR:Int)+1))):=(aQ.refl _ _).setCell _ _ (fun _=>rfl);have hBA:=HZ.o.ap.set 12 (vU ((g.cR:Int)+1));have hPA:=Q1.o.dW FV (fun e=>by have:w.heap.size=g.b:=e;have:=HGB.o;omega);obtain⟨wA,hwA⟩:∃ wA,wz.setCell (aj g.b 12) (vU ((g.cR:Int)+1))=wA:=⟨_,rfl⟩
  rw[hwA] at FV hBA hPA;have a12:=hBA.ce 12 rfl;have a10:=hBA.ce 10 rfl;have a1:=hPA.ce 1 rfl;have a3:=hPA.ce 3 rfl;have Co:Below wA.heap.size wA (wA.drew.alloc (.cells #[vU p.ah,vU p.number,vU ((g.cR:Int)+1),vI 0,vU 0,.slice none 0 0,.slice none 0 0] 157)):=kY (Below.refl wA.heap.size wA).drew _;have EU:aZ (wA.drew.alloc (.cells #[vU p.ah,vU p.number,vU ((g.cR:Int)+1),vI 0,vU 0,.slice none 0 0,.slice none 0 0] 157)) wA.heap.size 157 [vU p.ah,vU p.number,vU ((g.cR:Int)+1),vI 0,vU 0,.slice none 0 0,.slice none 0 0]:=heap_alloc_new wA.drew _;have hPB:=hPA.below Co;have hGB:=hBA.below Co;have hmA:bS wA g.ms (g.aY.toList.map (fun s=>(s.ah,s.ap))):=HZ.o.lC.dW FV HZ.o.PN;have Q2:=hmA.dW (aQ.aI (F:=fun _=>False) Co) id;obtain⟨wB,hwB⟩:∃ wB,wA.drew.alloc (.cells #[vU p.ah,vU p.number,vU ((g.cR:Int)+1),vI 0,vU 0,.slice none 0 0,.slice none 0 0] 157)=wB:=⟨_,rfl⟩
  rw[hwB] at Co EU hPB hGB Q2;have q10:=hGB.ce 10 rfl;have q1:=hPB.ce 1 rfl;obtain⟨wC,Vu,hmC,hcC⟩:=Lq (b:=wA.heap.size) Q2.drew HL.o;have Vu:(Instr.mapUpdate 86 (.map (some g.ms)) (vU p.ah) (aM wA.heap.size)).run Tryz.prog wB.drew=.ok () wC:=Vu;have aut:g.ms<wA.heap.size:=hmA.lt;have QU:=aZ.dW (w:=wB.drew) EU hcC (fun e=>by have:wA.heap.size=g.ms:=e;omega)
  have hPC:=aZ.dW (w:=wB.drew) hPB hcC (fun e=>by
   have e:w.heap.size=g.ms:=e;have h1:wB.heap[w.heap.size]? = _:=hPB;obtain⟨es,cl,h2,_⟩:=Q2;rw[← e] at h2;rw[h1] at h2
   cases h2)
  have hGC:=aZ.dW (w:=wB.drew) hGB hcC (fun e=>HZ.o.PN (Eq.symm e));have t1:=QU.ce 1 rfl;have t3:=hPC.ce 3 rfl;have b9:((p.number:Int)==(p.number:Int))=true:=by simp
  have HmC:=U hmC;have HBC:=U QU;have HGC:=U hGC;have HzA:=U FV;have HzB:=U Co;have HzC:=U hcC;have hzz:wz.heap.size≤wA.heap.size:=FV.size;clear hBA hPA Co EU hPB hGB hmA Q2 hmC QU hPC hGC FV hcC
  go_wp2_with fail
  go_region
  all_goals
   go_wp2_with fail
   go_region
   all_goals
    go_wp2_with fail
    go_quiet (fail)
    obtain⟨wy,hwy⟩:∃ wy,wC.drewN nq=wy:=⟨_,rfl⟩
    have hby:=below_drewN (Below.refl wC.heap.size wC) nq;rw[hwy] at hby ⊢;have hGy:=HGC.o.below hby;have hSy:=HBC.o.below hby;have y11:=hGy.ce 11 rfl;have v11:=hGy.aq 11;have hcD:aQ (fun k=>k=g.b) wy (wy.setCell (aj g.b 11) (aM wA.heap.size)):=(aQ.refl _ _).setCell _ _ (fun _=>rfl);have hBD:aZ (wy.setCell (aj g.b 11) (aM wA.heap.size)) g.b 91 ({ g with aY:=some ⟨wA.heap.size,p.ah,p.number,g.cR+1,0,0,.slice none 0 0,[],.slice none 0 0,[]⟩,cur:=true,cR:=g.cR+1 }:SG).cells:=hGy.set 11 _;have hSD:=hSy.dW hcD (fun e=>by have e:wA.heap.size=g.b:=e;have:=HGB.o;have:=Zf.o.size;omega);have hmD:=(HmC.o.dW (aQ.aI (F:=fun _=>False) hby) id).dW hcD HZ.o.PN;have hcZ:aQ (fun k=>k=g.b∨k=g.ms) wz (wy.setCell (aj g.b 11) (aM wA.heap.size)):=(HzA.o.mono (fun _ _ e=>Or.inl e)).same ((aQ.aI (HzB.o.drew)).same ((HzC.o.mono (fun _ _ e=>Or.inr e)).same ((aQ.aI hby).same (hcD.mono (fun _ _ e=>Or.inl e)))));have hN:=HZ.o.al1 (gA:=p.ah) (cW:=p.number) (num:=g.cR+1) (Nat.le_trans di Zf.o.size) hzz hBD hSD hmD hcZ;obtain⟨wD,hwD⟩:∃ wD,wy.setCell (aj g.b 11) (aM wA.heap.size)=wD:=⟨_,rfl⟩
    rw[hwD] at hN hSD;have Ve:=U hSD;have HN:=U hN;have x1:=hSD.ce 1 rfl;clear hby hGy hSy hcD hBD hSD hmD hcZ hN hwy
    go_wp2_with fail
    go_region_with (first | (go_at_call 130;refine(rj (w:=wD.drew) (s:=⟨wA.heap.size,p.ah,p.number,g.cR+1,0,0,.slice none 0 0,[],.slice none 0 0,[]⟩) Ve.o 6 p.number).mono ?_;rintro e w2 ⟨rfl,aW⟩) | (go_at_call 106;refine((HN.o.cN.drew.below aW).post (aw 6 p.ah (g.cR+1) p.number 0)).mono ?_;rintro e w3 ⟨rfl,h3,_⟩;have H3:=U h3;clear h3))
    all_goals
     go_wp2_with fail
     go_end0
     exact⟨rfl,_,by rw[HE.o];exact(HN.o.bz Zf.o).trans (H3.o.bz ((Below.refl _ wD).drew.trans aW))⟩
theorem cB.abH(h:cB lo w g)(hs:g.aY=some s):w.ownsRow lo 125 6 s.av s.aC.length (dj s.aC) :=
 (h.gK hs).own (h.nw hs).rn (fun p hp=>by unfold cZ.aF;simp only[List.mem_append];exact Or.inr (Or.inr (Or.inr hp)))
theorem cB.agB{w':World}{Lu:Value}{l':List aS}(h:cB lo w g)(hs:g.aY=some s)(hc:aQ (fun k=>k=s.ap∨s.av.ownBlock=some k) w w')(hB:aZ w' s.ap 157 (ec { s with av:=Lu,aC:=l' }))(hA:w'.ownsRow lo 125 6 Lu l'.length (dj l'))(iZ:∀ k,Lu.ownBlock=some k→s.av.ownBlock=some k∨w.heap.size≤k):
  dw lo w g { g.st with aY:=some { s.o with aC:=l' } } w' { g with aY:=some { s with av:=Lu,aC:=l' } }:=by
 have hS:=h.gK hs;have bX:=h.nw hs;have di:lo≤s.ap:=(hS.lt (aL.bM.2 (Or.inl (aL.one.2 rfl)))).1;obtain⟨yY,mr⟩:=fQ hA (by decide)
 have hh:cE lo w' (({ s with av:=Lu,aC:=l' }:cZ).cT++({ s with av:=Lu,aC:=l' }:cZ).kR):=ay.2 ⟨ct di hB (by decide),yY,fun a ha c fZ e=>by
  rw[List.mem_singleton.1 ha] at e;have hk:=(be (e:=125) mr).1 ⟨c,fZ,rfl⟩;have e':s.ap=c.1:=e;rw[← e'] at hk
  exact hB.bY hA (by decide) hk⟩
 have hg:cM w (s.cT++s.kR) w' (({ s with av:=Lu,aC:=l' }:cZ).cT++({ s with av:=Lu,aC:=l' }:cZ).kR):=⟨hc.mono (fun i _ hi=>by
  rcases hi with rfl | hi
  ·exact aL.bM.2 (Or.inl (aL.one.2 rfl))
  ·exact aL.bM.2 (Or.inr ((be bX.rn).2 hi))),fun k hk=>by
  rcases aL.bM.1 hk with e | e
  ·exact Or.inl (aL.bM.2 (Or.inl (aL.one.2 (show k=s.ap from aL.one.1 e))))
  ·rcases iZ k ((be mr).1 e) with e | e
   ·exact Or.inl (aL.bM.2 (Or.inr ((be bX.rn).2 e)))
   ·exact Or.inr e⟩
 have p1:(s.aF g.dz).Perm ((s.cT++s.kR)++(s.jm++s.af.flatMap (iq.aF s.ap g.dz))):=bF (fun p=>by unfold cZ.aF;simp only[aP];omega)
 have p2:((({ s with av:=Lu,aC:=l' }:cZ).cT++({ s with av:=Lu,aC:=l' }:cZ).kR)++(s.jm++s.af.flatMap (iq.aF s.ap g.dz))).Perm (({ s with av:=Lu,aC:=l' }:cZ).aF g.dz):=bF (fun p=>by
  show _=cnt p (({ s with av:=Lu,aC:=l' }:cZ).cT++(s.jm++(s.af.flatMap (iq.aF s.ap g.dz)++({ s with av:=Lu,aC:=l' }:cZ).kR)))
  simp only[aP];omega)
 exact h.ko (s':={ s with av:=Lu,aC:=l' }) hs (((hS.bZ p1).dE hh hg).bZ p2) (hg.dE.bZ p1.symm p2) rfl rfl ⟨bX.rf,mr⟩
end Go.Proofs.YtkpfplbmmglkkaaGreatDoor
