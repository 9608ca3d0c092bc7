/- Package ends: the server: subscribe. -/
import Derived.Test.YtkpfplbmmglkkaaGreatDoorV31
set_option linter.all false
set_option maxHeartbeats 4000000
set_option maxRecDepth 100000
namespace Go.Proofs.YtkpfplbmmglkkaaGreatDoor
open Go.Proofs.Tryz
variable {lo k:Nat}{w w':World}{g:SG}{s:cZ}{t t':eZ}{p:SP}
open Go.RowKit Go.Conc
theorem dw.T7{g':SG}{q:SP}(h:dw lo w g q w' g')(e:q.au=g.st.au):g'.au.length=g.au.length:=by
 have:=congrArg (fun x:SP=>x.au.length) h.st;simp only[e] at this;simpa[SG.st] using this
theorem ab7(h:cB lo w g)(p:aS)(sK:g.au.length≤400)(hs:g.aY=none):
  aT 208 #[aM g.b,lQ p] w (fun e w'=>e=.returned (.tuple #[])∧∃ g',dw lo w g (g.st.cA g.W p) w' g'):=by
 obtain⟨w0,eM,aN,aD⟩:=eK w p;obtain⟨e0,e1,e2,e3,e4,e5⟩:=aD.c6;have HE:=U (show g.st.cA g.W p=(g.st.aR g.W p).1 by unfold SP.cA;simp only[SP.oW (SG.IB hs),Bool.false_eq_true,if_false]);have gZ:=U aN;have ii:=U aD;have yz:=U (show ¬ aL g.aF w.heap.size from h.kf);have HT0:=U (show (g.st.aR g.W p).1.au=g.st.au by rw[SP.oW (SG.IB hs)];rfl);have HC:=U (abF (h.below aN) p hs);clear h hs aN aD
 go_enter func208,ntmps208
 go_wp2_with fail
 refine HC.o.mono ?_;rintro e w1 ⟨rfl,g1,h1⟩;have y5:w1.cell? (aj w.heap.size 5)=some (.string p.data):=(h1.ap ii.o yz.o).1.cell 5;have HTp:=U (Ly h1.cN (by rw[h1.T7 HT0.o];exact sK) p.data);rw[h1.b] at HTp;have H1:=U (h1.bz gZ.o);clear h1
 go_wp2_with fail
 refine HTp.o.mono ?_;rintro e w2 ⟨aW,⟨k,t,_,_,rfl⟩ | ⟨_,rfl⟩⟩
 all_goals
  have H2:=U (H1.o.below aW);clear aW
  go_wp2_with fail
  go_end0
  exact⟨rfl,g1,by rw[HE.o];exact H2.o⟩
theorem Xq(h:cB lo w g)(di:lo≤w.heap.size)(p:aS)(hS:SSp g.st)(hW:g.W≤1000)(sK:g.au.length≤400)(hp:p.number≤1000000000000)(hpp:p.ai≤1000000000000)(hs:g.aY=some s)(ht:s.ah=p.ah)(hn:s.number=p.ag)(fF:g.cur=true)(bT:p.number=s.next):
  aT 208 #[aM g.b,lQ p] w (fun e w'=>e=.returned (.tuple #[])∧∃ g',dw lo w g (g.st.cA g.W p) w' g'):=by
 obtain⟨w0,eM,aN,aD⟩:=eK w p;obtain⟨e0,e1,e2,e3,e4,e5⟩:=aD.c6;have hq:=SP.xJ (W:=g.W) (SG.tO hs) hn fF bT;have h2:(g.st.aR g.W p).2=true:=by rw[hq]
 have HT0:=U (show (g.st.aR g.W p).1.au=g.st.au by rw[hq];rfl);have El:=U (show SSp (g.st.aR g.W p).1 by rw[hq];exact hS.mono rfl (fun o ho=>⟨s.o,SG.tO hs,by obtain rfl:=(Option.some.inj ho).symm;exact⟨rfl,rfl⟩⟩));have HEn:=U (show (g.st.aR g.W p).1.dZ p.data=none→g.st.cA g.W p=(g.st.aR g.W p).1 from fun e=>by unfold SP.cA;simp only[h2,if_true,e]);have HEy:=U (show ∀ k o t,(g.st.aR g.W p).1.dZ p.data=some k→(g.st.aR g.W p).1.aY=some o→(g.st.aR g.W p).1.au[k]? = some t→g.st.cA g.W p = { (g.st.aR g.W p).1 with aY:=some { o with af:=o.af++[cY.mk p.number k p.ai p.ai (decide (t.count<p.ai))] } }.fP g.W o.af.length from fun k o t a b c=>by unfold SP.cA;simp only[h2,if_true,a,b,c]);have gZ:=U aN;have ii:=U aD;have yz:=U (show ¬ aL g.aF w.heap.size from h.kf);have HR:=U (TV (h.below aN) p hp hs ht hn fF bT);have amD:lo≤w0.heap.size:=Nat.le_trans di aN.size;clear h hS hs ht hn fF bT hq h2 aN aD
 go_enter func208,ntmps208
 go_wp2_with fail
 refine HR.o.mono ?_;rintro e w1 ⟨b1,rfl,g1,h1,RO⟩;obtain⟨s1,gY,rfl⟩:=SG.Zg RO;have kJ:=U (h1.ap ii.o yz.o).1;have abN:=U (h1.ap ii.o yz.o).2;have y5:=kJ.o.ce 5 rfl;have HTp:=U (Ly h1.cN (by rw[h1.T7 HT0.o];exact sK) p.data);rw[h1.b] at HTp;have Ty:lo≤w1.heap.size:=Nat.le_trans amD h1.grow.c.size;have HSg:=U (show SSp g1.st by rw[h1.st];exact El.o);have Hs1:=U gY;have H1:=U (h1.bz gZ.o);clear h1 RO gY
 go_wp2_with fail
 refine HTp.o.mono ?_;rintro e w2 ⟨aW,⟨k,t,jt,uG,rfl⟩ | ⟨uG,rfl⟩⟩
 ·have R5:=U (H1.o.cN.below aW)
  have H2:=U (H1.o.below aW);have gX:=U (kJ.o.below aW);obtain⟨z0,z1,z2,z3,z4,z5⟩:=gX.o.c6;have hTB:aZ w2 t.ap 108 (dl t):=(R5.o.ny jt).ap (List.mem_append_left _ (List.mem_singleton.2 rfl));have HNF:=U (IJ w2 s1.ap t.ap t.count p (hTB.cell 2) hTB.lt);have td:=U jt;have xK:=U uG;have aa6:lo≤w2.heap.size:=Nat.le_trans Ty aW.size;clear aW jt uG hTB
  go_wp2_with fail
  refine HNF.o.mono ?_;rintro e w3 ⟨fb,rfl,bP,QW,hBf⟩;obtain⟨fa,fc,qo⟩:=(R5.o.nw Hs1.o).rf.slice
  have tM:s1.af.length≤1000000:=by
   have h1:=(HSg.o.ln s1.o (SG.tO Hs1.o)).1;have h2:s1.o.af.length=s1.af.length:=by unfold cZ.o;simp
   omega
  have FY:Below w3.heap.size w3 (w3.alloc (.cells #[aJ fb] 158)):=(Below.refl _ _).alloc (Nat.le_refl _) _
  have Q2:aZ (w3.alloc (.cells #[aJ fb] 158)) fb 160 (eU s1.ap g1.dz ⟨fb,⟨p.number,k,p.ai,p.ai,decide (t.count<p.ai)⟩⟩):=by
   have e:vw g1.dz k=t.ap:=SG.Lj td.o;show aZ _ fb _ [aJ s1.ap,vU p.number,aJ (vw g1.dz k),vU p.ai,vU p.ai,.bool (decide (t.count<p.ai))];rw[e];exact hBf.below FY
  obtain⟨a',c',w7,Vp,PE,hf7,LC⟩:=R5.o.ams Hs1.o aa6 (bP.trans (FY.mono bP.size)) tM (nb:=w3.heap.size) (T:=158) (m:=⟨fb,⟨p.number,k,p.ai,p.ai,decide (t.count<p.ai)⟩⟩) (heap_alloc_new w3 _) Q2 QW qo;have x5:w3.cell? (aj s1.ap 5)=some (.slice fa s1.af.length fc):=(show w3.cell? (aj s1.ap 5)=some s1.fv from((R5.o.below bP).fL Hs1.o).cell 5).trans (by rw[qo]);have HR7:=U Vp;obtain⟨w8,ND⟩:∃ w8,w7.setCell (aj s1.ap 5) (.slice a' (s1.af.length+1) c')=w8:=⟨_,rfl⟩
  rw[ND] at LC;have V4:=U (H2.o.same.trans LC);have ab9:({ g1 with aY:=some { s1 with fv:=.slice a' (s1.af.length+1) c',af:=s1.af++[⟨fb,⟨p.number,k,p.ai,p.ai,decide (t.count<p.ai)⟩⟩] } }:SG).b=g.b:=H1.o.b;have rT:=LC.st;have Dk:({ g1 with aY:=some { s1 with fv:=.slice a' (s1.af.length+1) c',af:=s1.af++[⟨fb,⟨p.number,k,p.ai,p.ai,decide (t.count<p.ai)⟩⟩] } }:SG).W=g.W:=H1.o.qU.1;have aca:({ g1 with aY:=some { s1 with fv:=.slice a' (s1.af.length+1) c',af:=s1.af++[⟨fb,⟨p.number,k,p.ai,p.ai,decide (t.count<p.ai)⟩⟩] } }:SG).au[k]? = some t:=td.o;have Lw:({ g1 with aY:=some { s1 with fv:=.slice a' (s1.af.length+1) c',af:=s1.af++[⟨fb,⟨p.number,k,p.ai,p.ai,decide (t.count<p.ai)⟩⟩] } }:SG).aY=some { s1 with fv:=.slice a' (s1.af.length+1) c',af:=s1.af++[⟨fb,⟨p.number,k,p.ai,p.ai,decide (t.count<p.ai)⟩⟩] }:=rfl;have hii:(s1.af++[(⟨fb,⟨p.number,k,p.ai,p.ai,decide (t.count<p.ai)⟩⟩:iq)])[s1.af.length]? = some ⟨fb,⟨p.number,k,p.ai,p.ai,decide (t.count<p.ai)⟩⟩:=by simp
  obtain⟨q1,q2⟩:=HSg.o.tp t.t (List.mem_of_getElem? (SG.WV td.o));have q1':t.ks.length≤t.count:=by simpa[eZ.t] using q1
  have q2':t.count≤1000000000000:=q2
  have HE:=U (show g.st.cA g.W p = { g1.st with aY:=some { s1.o with af:=s1.o.af++[cY.mk p.number k p.ai p.ai (decide (t.count<p.ai))] } }.fP g.W s1.af.length by
   have hl:s1.o.af.length=s1.af.length:=by unfold cZ.o;simp
   have QR:(g.st.aR g.W p).1.dZ p.data=some k:=by rw[← H1.o.st];exact xK.o
   have Dg:(g.st.aR g.W p).1.aY=some s1.o:=by rw[← H1.o.st];exact SG.tO Hs1.o
   have hi3:(g.st.aR g.W p).1.au[k]? = some t.t:=by rw[← H1.o.st];exact SG.WV td.o
   rw[HEy.o k s1.o t.t QR Dg hi3,hl,← H1.o.st]
   rfl)
  generalize ({ g1 with aY:=some { s1 with fv:=.slice a' (s1.af.length+1) c',af:=s1.af++[⟨fb,⟨p.number,k,p.ai,p.ai,decide (t.count<p.ai)⟩⟩] } }:SG)=G3 at V4 ab9 rT Dk aca Lw;have HPu:=U (TJ (g:=G3) (i:=s1.af.length) (m:=⟨fb,⟨p.number,k,p.ai,p.ai,decide (t.count<p.ai)⟩⟩) (t:=t) V4.o.cN Lw hii aca q1' q2' (Nat.le_refl _) hpp (by rw[Dk];exact hW));rw[ab9,rT,Dk] at HPu;have c75:w7.cell? (aj s1.ap 5)=some (.slice fa s1.af.length fc):=PE;clear bP QW hBf qo tM FY Q2 Vp PE LC ab9 rT Dk aca Lw hii q1 q2 q1' q2';have HW8:=U ND
  go_wp2_with (at_builtin;refine mV rfl (.tmp 28) (.tmp 30) 155 rfl _ _ rfl rfl _ w7 HR7.o ?_)
  go_wp2_with fail
  refine HPu.o.mono ?_;rintro e w9 ⟨rfl,az,L,h9⟩;have H9:=U h9;clear h9
  go_wp2_with fail
  go_end0
  exact⟨rfl,_,by
   rw[HE.o]
   exact V4.o.trans H9.o⟩
 ·have H2:=U (H1.o.below aW)
  have HE:=U (HEn.o (by rw[← H1.o.st];exact uG));clear aW uG
  go_wp2_with fail
  go_end0
  exact⟨rfl,g1,by rw[HE.o];exact H2.o⟩
theorem T8:∃ j:TypeInfo,Tryz.prog.info? 108=some j∧j.size≠0:=by
 have h:(Tryz.prog.info? 108).map (fun i=>i.size)=some 5:=by kernel_rfl
 obtain⟨i,hi,hb⟩:=Option.map_eq_some_iff.1 h;exact⟨i,hi,by rw[hb];decide⟩
theorem Fp(w:World)(a:Addr):(binOp .eql 100 (.pointer (some a)) (.pointer (some a))).run Tryz.prog w=.ok (.bool true) w:=by
 obtain⟨j,hj,_⟩:=T8;exact run_eql_ptr_same w a underlying100 hj
theorem CA{a b:Nat}{x y:List Value}(h:a≠b)(hA:aZ w a 108 x)(hB:aZ w b 108 y):(binOp .eql 100 (aM a) (aM b)).run Tryz.prog w=.ok (.bool false) w:=by
 obtain⟨j,hj,hz⟩:=T8;exact run_eql_ptr_other w underlying100 hj hz (fun e=>h (congrArg Addr.block e)) hA hB
theorem cB.AV(h:cB lo w g)(ht:g.au[k]? = some t):aZ w t.ap 108 (dl t):=(h.ny ht).ap (List.mem_append_left _ (List.mem_singleton.2 rfl))
theorem cB.ag8{k':Nat}(h:cB lo w g)(ht:g.au[k]? = some t)(Gl:g.au[k']? = some t')(hk:k≠k'):t'.ap≠t.ap:=fun e=>by
 have hh:=h.dR.bZ (SG.Nn (qJ ht));have hd:=(ay.1 hh).2.2
 have WN:t'∈g.au.take k++g.au.drop (k+1):=by
  rcases Nat.lt_or_ge k' k with h1 | h1
  ·exact List.mem_append_left _ (List.mem_of_getElem? (i:=k') (by rw[List.getElem?_take_of_lt h1];exact Gl))
  ·exact List.mem_append_right _ (List.mem_of_getElem? (i:=k'-(k+1)) (by rw[List.getElem?_drop,show k+1+(k'-(k+1))=k' by omega];exact Gl))
 have Ku:∃ q∈(g.au.take k++g.au.drop (k+1)).flatMap eZ.aF,q.1=t.ap:=⟨eL t'.ap 108 (dl t'),List.mem_flatMap.2 ⟨t',WN,List.mem_append_left _ (List.mem_singleton.2 rfl)⟩,e⟩
 obtain⟨q,hq,e2⟩:=Ku;refine hd (eL t.ap 108 (dl t)) (List.mem_append_left _ (List.mem_singleton.2 rfl)) q ?_ e2.symm;rw[List.flatMap_append,List.mem_append] at hq;simp only[List.mem_append]
 rcases hq with hq | hq
 ·exact Or.inr (Or.inr (Or.inr (Or.inl hq)))
 ·exact Or.inr (Or.inr (Or.inr (Or.inr (Or.inl hq))))
theorem SP.uh{W:Nat}(h:p.cur=false∨p.aY=none):p.iR W k=p:=by
 unfold SP.iR
 rcases h with h | h
 ·rw[h]
 ·rw[h]
  split
  ·rename_i e;cases e
  ·rfl
theorem SP.Fq(hc:g.cur=true)(hs:g.aY=some s){Fs:List iq}{L':List aS}
  (h:SP.dy g.up g.W s.o (g.au.map eZ.t) (fun f=>decide (f.aG=k)) id s.o.af g.L=(Fs.map (fun f=>f.f),L')):(gL g s Fs L').st=g.st.iR g.W k:=by
 unfold SP.iR;rw[show g.st.cur=true from hc,SG.tO hs];simp only[show g.st.up=g.up from rfl,show g.st.L=g.L from rfl,show g.st.au=g.au.map eZ.t from rfl,h];rw[Zc,← show g.st.cur=true from hc];rfl
theorem NE(h:cB lo w g)(hn:g.fR=.pointer none)(k tb:Nat):
  aT 48 #[aM g.b,aM tb] w (fun e w'=>e=.returned (.tuple #[])∧∃ g',dw lo w g (g.st.iR g.W k) w' g'):=by
 have d11:w.cell? (aj g.b 11)=some (.pointer none):=(show w.cell? (aj g.b 11)=some g.fR from h.ap.cell 11).trans (by rw[hn]);have HS:=U (SP.uh (W:=g.W) (k:=k) (SG.Ns (SG.Nr hn)));have H:=U h;clear h hn
 go_enter func48,ntmps48
 go_wp2_with fail
 (try simp only[Exit.inBlock,Exit.then]);refine bodyPost_ret (results_none rfl _ _ _) rfl ?_
 exact⟨rfl,g,by rw[HS.o];exact dw.refl H.o (Below.refl _ _)⟩
theorem Xr(h:cB lo w g)(fF:g.cur=true)(hs:g.aY=some s)(hS:SSp g.st)(hW:g.W≤1000)(jt:g.au[k]? = some t):
  aT 48 #[aM g.b,aM t.ap] w (fun e w'=>e=.returned (.tuple #[])∧∃ g',dw lo w g (g.st.iR g.W k) w' g'):=by
 have Tm:=U (show g.fR=aM s.ap by unfold SG.fR;rw[fF,hs];rfl);have d11:w.cell? (aj g.b 11)=some (aM s.ap):=(show w.cell? (aj g.b 11)=some g.fR from h.ap.cell 11).trans (by rw[Tm.o])
 have tM:s.af.length≤1000000:=by
  have h1:=(hS.ln s.o (SG.tO hs)).1;have h2:s.o.af.length=s.af.length:=by unfold cZ.o;simp
  omega
 obtain⟨fa,fc,qo⟩:=(h.nw hs).rf.slice;have e5:w.cell? (aj s.ap 5)=some (.slice fa s.af.length fc):=(show w.cell? (aj s.ap 5)=some s.fv from(h.fL hs).cell 5).trans (by rw[qo]);have Ks:=U qo;have aby:=U (fun j m (hm:s.af[j]? = some m)=>SSp.top hS hs hm);have HFd:=U (fun j m (hm:s.af[j]? = some m)=>hS.fd s.o (SG.tO hs) m.f (List.mem_of_getElem? (cZ.fAt hm)));have nX:=U (fun(Fs:List iq) (L':List aS) e=>SP.Fq (k:=k) fF hs (Fs:=Fs) (L':=L') e);have td:=U jt;have H5:=U (show dw lo w g (gL g s s.af g.L).st w (gL g s s.af g.L) by rw[Np hs];exact dw.refl h (Below.refl _ _));clear h hs fF hS qo jt
 go_enter func48,ntmps48
 go_wp2_with fail
 clear d11 e5
 go_loopg [5,19] s.af.length (fun gk x i wr=>∃ (j:Nat) (Fs:List iq) (L':List aS),j+gk=s.af.length∧i=.int .i64 j∧Hid (dw lo w g (gL g s Fs L').st wr (gL g s Fs L'))∧Hid (pQ g s (fun f=>decide (f.aG=k)) id g.L j Fs L'))
 case atStart=>exact⟨0,s.af,g.L,by omega,rfl,H5,U (pQ.start _ _ _ _ _)⟩
 case round=>
  obtain⟨j,Fs,L',hj,rfl,HC,HF⟩:=hrel
  by_cases bC:j<s.af.length
  ·obtain⟨m,hm⟩:∃ m,s.af[j]? = some m:=⟨_,List.getElem?_eq_getElem bC⟩
   have Q0:=HF.o.at hm;obtain⟨ga,c,kn,vH,Iz⟩:=DI HC.o.cN Q0
   obtain⟨rfl,rfl⟩:fa=some (aj ga 0)∧fc=c:=by
    have:=Ks.o.symm.trans kn;simp only[Value.slice.injEq] at this;exact⟨this.1,this.2.2⟩
   have ej:(j:Int)<(s.af.length:Int):=by omega
   have aK:wr.cell? (aj ga j)=some (aM m.ap):=Iz;have hB:=Zd HC.o.cN Q0;obtain⟨t',Gl,sK,Nb⟩:=aby.o j m hm;have m2:wr.cell? (aj m.ap 2)=some (aM t'.ap):=(show wr.cell? (aj m.ap 2)=some (aJ (vw g.dz m.f.aG)) from hB.cell 2).trans (by rw[SG.Lj Gl];rfl);have Hm:=U hm;have HFm:=U Q0;have HkF:Hid (j<Fs.length):=U (List.getElem?_eq_some_iff.1 Q0).1;clear Iz kn hB hm Q0
   by_cases hk:m.f.aG=k
   ·obtain rfl:t'=t:=by rw[hk,td.o] at Gl;exact(Option.some.inj Gl).symm
    have hq:(binOp .eql 100 (aM t'.ap) (aM t'.ap)).run Tryz.prog wr=.ok (.bool true) wr:=Fp wr _;obtain⟨Vb,QW,hfc⟩:=HFd.o j m Hm.o;have HPu:=U (Iy HC.o.cN HFm.o Gl sK Nb Vb QW hW);have HTt:=U Gl;have HK:=U hk;clear Vb QW hfc sK Nb Gl hk
    go_wp2_with fail
    refine HPu.o.mono ?_;rintro e w4 ⟨rfl,az,L4,h4⟩;have h5:=Nq (g:=g) (s:=s) (Fs:=Fs) HFm.o HTt.o h4.st;have HX:=U (HF.o.SC (m':={ m with f:={ m.f with az:=az } }) Hm.o (by simp[HK.o]) HTt.o rfl h5.1);have S8:=U h5.2;have H6:=U (HC.o.trans h4.same);have hX:=HX.o;rw[show cw g.up g.W s.ah s.number t'.t (id m.f) L'=cw g.up g.W s.ah s.number t'.t m.f L' from rfl,← S8.o] at hX;have HX2:=U hX;clear h4 h5 hX S8
    go_wp2_with fail
    go_roundg (gk-1)
    case rel=>exact⟨j+1,_,L4,by omega,by go_num,H6,HX2⟩
    case measure=>omega
   ·have bT:=(HC.o.cN.ag8 (g:=gL g s Fs L') td.o Gl (fun e=>hk e.symm))
    have hq:(binOp .eql 100 (aM t'.ap) (aM t.ap)).run Tryz.prog wr=.ok (.bool false) wr:=CA bT (HC.o.cN.AV (g:=gL g s Fs L') Gl) (HC.o.cN.AV (g:=gL g s Fs L') td.o);have HX:=U (HF.o.no Hm.o (by simp[hk]));clear bT sK Nb Gl hk
    go_wp2_with fail
    go_roundg (gk-1)
    case rel=>exact⟨j+1,Fs,L',by omega,by go_num,HC,HX⟩
    case measure=>omega
  ·have ej:¬ (j:Int)<(s.af.length:Int):=by omega
   have HE:=U (nX.o Fs L' (HF.o.bD (by omega)))
   go_wp2_with fail
   go_end0
   exact⟨rfl,gL g s Fs L',by rw[← HE.o];exact HC.o⟩
theorem IS(h:cB lo w g)(hS:SSp g.st)(hW:g.W≤1000)(jt:g.au[k]? = some t):
  aT 48 #[aM g.b,aM t.ap] w (fun e w'=>e=.returned (.tuple #[])∧∃ g',dw lo w g (g.st.iR g.W k) w' g'):=by
 cases hc:g.cur with
 | false=>exact NE h (by unfold SG.fR;rw[hc]) k t.ap
 | true=>
  cases hs:g.aY with
  | none=>exact NE h (by unfold SG.fR;rw[hc,hs]) k t.ap
  | some s=>exact Xr h hc hs hS hW jt
theorem cB.IR(h:cB lo w g)(hk:g.au[k]? = some t)(hb:t'.ap=t.ap)(hh:cE lo w' t'.aF)(hg:cM w t.aF w' t'.aF)(ok:t'.Ok):
  dw lo w g { g.st with au:=g.st.au.set k t'.t } w' { g with au:=g.au.set k t' }:=by
 have GA:k<g.au.length:=(List.getElem?_eq_some_iff.1 hk).1;have hk':({ g with au:=g.au.set k t' }:SG).au[k]? = some t':=by show (g.au.set k t')[k]? = _;simp[GA]
 have ep:∀ {β:Type} (f:Nat → β),g.au.map (fun t=>f t.ap)=(g.au.set k t').map (fun t=>f t.ap):=fun f=>by
  apply List.ext_getElem?;intro j;rw[List.getElem?_map,List.getElem?_map,List.getElem?_set]
  by_cases hj:k=j
  ·subst hj
   rw[if_pos rfl,if_pos GA,hk];show some (f t.ap)=some (f t'.ap);rw[hb]
  ·rw[if_neg hj]
 have e1:({ g with au:=g.au.set k t' }:SG).jy=g.jy:=by
  show cx _ 1 g.tv (g.au.set k t').length ((g.au.set k t').map (fun t=>aJ t.ap))=_;rw[List.length_set,← ep aJ];rfl
 have e2:({ g with au:=g.au.set k t' }:SG).dz=g.dz:=(ep id).symm
 have e3:({ g with au:=g.au.set k t' }:SG).nR=g.nR:=by
  unfold SG.nR;rw[e2]
 have p1:=SG.Nn (qJ hk)
 have p2:(t'.aF++(g.bB++(g.bq++(g.jy++((g.au.take k).flatMap eZ.aF++((g.au.drop (k+1)).flatMap eZ.aF++(g.nQ++(g.nR++(g.yd++g.vy))))))))).Perm ({ g with au:=g.au.set k t' }:SG).aF:=by
  have:=(SG.Nn (g:={ g with au:=g.au.set k t' }) (qJ hk')).symm;rw[e1,e3] at this;have t1:(g.au.set k t').take k=g.au.take k:=by rw[List.take_set_of_le (Nat.le_refl _)]
  have t2:(g.au.set k t').drop (k+1)=g.au.drop (k+1):=by rw[List.drop_set_of_lt (by omega)]
  have t3:({ g with au:=g.au.set k t' }:SG).au=g.au.set k t':=rfl;rw[t3,t1,t2] at this;exact this
 have hX:=(h.dR.bZ p1).dE hh hg;refine⟨⟨hX.bZ p2,?_,fun x hx=>?_,h.ss,h.rw⟩,?_,hg.dE.bZ p1.symm p2,rfl,rfl,rfl,rfl,rfl⟩
 ·show du 1 g.tv (g.au.set k t').length ((g.au.set k t').map (fun t=>aJ t.ap))
  rw[List.length_set,← ep aJ];exact h.rt
 ·rcases List.mem_or_eq_of_mem_set hx with e | e
  ·exact h.tp x e
  ·rw[e];exact ok
 ·unfold SG.st
  simp only[List.map_set]
def Xt(g:SG)(name:ByteArray)(w:World)(e:Ending)(w':World):Prop:=Below w.heap.size w w'∧((∃ (k:Nat) (t:eZ),g.au[k]? = some t∧g.st.dZ name=some k∧((t.bD=true∧e=.returned (.tuple #[.pointer none,.int .i64 12]))∨(t.bD=false∧e=.returned (.tuple #[.pointer (some ⟨t.ap,0,none⟩),.int .i64 0]))))∨(g.st.dZ name=none∧e=.returned (.tuple #[.pointer none,.int .i64 11])))
theorem T9(h:cB lo w g)(hl:g.au.length≤400)(name:ByteArray):
  aT 45 #[aM g.b,.string name] w (Xt g name w):=by
 have HT:=U (Ly h hl name);have H:=U h;clear h
 go_enter func45,ntmps45
 go_wp2_with fail
 refine HT.o.mono ?_;rintro e w1 ⟨aA,⟨k,t,jt,uG,rfl⟩ | ⟨uG,rfl⟩⟩
 ·have c4:w1.cell? (aj t.ap 4)=some (.bool t.bD):=((H.o.below aA).AV jt).cell 4
  have HB:=U aA;have td:=U jt;have xK:=U uG;clear aA jt uG
  cases hf:t.bD with
  | true=>
   rw[hf] at c4
   go_wp2_with fail
   go_ret2
   exact⟨HB.o,Or.inl ⟨k,t,td.o,xK.o,Or.inl ⟨hf,rfl⟩⟩⟩
  | false=>
   rw[hf] at c4
   go_wp2_with fail
   go_ret2
   exact⟨HB.o,Or.inl ⟨k,t,td.o,xK.o,Or.inr ⟨hf,rfl⟩⟩⟩
 ·have HB:=U aA
  have xK:=U uG;clear aA uG
  go_wp2_with fail
  go_ret2
  exact⟨HB.o,Or.inr ⟨xK.o,rfl⟩⟩
theorem eZ.sF{m m':eZ}(h:cE lo w m.aF)(hc:aQ (fun k=>k=m.ap) w w')(hB:aZ w' m.ap 108 (dl m'))(hb:m'.ap=m.ap)(hv:m'.kv=m.kv)(hs:m'.ks=m.ks):cE lo w' m'.aF∧cM w m.aF w' m'.aF:=by
 have e:m'.aF=[eL m'.ap 108 (dl m')]++(m.Ef++m.ks.flatMap B8.aF):=by unfold eZ.aF eZ.Ef;rw[hv,hs]
 have hl:lo≤m.ap:=(h.lt ⟨_,List.mem_append_left _ (List.mem_singleton.2 rfl),rfl⟩).1;have hg:cM w [eL m.ap 108 (dl m)] w' [eL m'.ap 108 (dl m')]:=⟨hc.mono (fun i _ hi=>aL.one.2 hi),fun k hk=>Or.inl (aL.one.2 ((aL.one.1 hk).trans hb))⟩
 rw[e];exact⟨cE.dE h (by rw[hb];exact ct hl hB (by decide)) hg,hg.dE⟩
theorem SSp.Qa{t:jS}(h:SSp p)(ht:t.dJ.length≤t.count∧t.count≤1000000000000):SSp { p with au:=p.au.set k t }:=⟨fun x hx=>by
 rcases List.mem_or_eq_of_mem_set hx with e | e
 ·exact h.tp x e
 ·rw[e];exact ht,fun o ho f hf=>by
 have:=h.fd o ho f hf;refine⟨this.1,this.2.1,?_⟩;show f.aG<(p.au.set k t).length;rw[List.length_set]
 exact this.2.2,h.ln⟩
theorem AW{α:Type}{l:List α}{x:α}(f:α → α)(h:l[k]? = some x):l.modify k f=l.set k (f x):=by
 apply List.ext_getElem?;intro j;rw[List.getElem?_modify,List.getElem?_set]
 by_cases hj:k=j
 ·subst hj
  have hl:=(List.getElem?_eq_some_iff.1 h).1;have e:l[k]=x:=(List.getElem?_eq_some_iff.1 h).2;simp[hl,e]
 ·simp[hj]
def Xu(lo:Nat)(g:SG)(name:ByteArray)(w:World)(e:Ending)(w':World):Prop:=(g.st.dZ name=none∧e=.returned (.int .i64 11)∧Below w.heap.size w w')∨∃ (k:Nat) (t:eZ),g.au[k]? = some t∧g.st.dZ name=some k∧((t.bD=true∧e=.returned (.int .i64 12)∧Below w.heap.size w w')∨(t.bD=false∧e=.returned (.int .i64 0)∧∃ g',dw lo w g (g.st.finish g.W k) w' g'))
theorem ES(h:cB lo w g)(hl:g.au.length≤400)(hS:SSp g.st)(hW:g.W≤1000)(name:ByteArray):
  aT 42 #[aM g.b,.string name] w (Xu lo g name w):=by
 have HU:=U (T9 h hl name);have H:=U h;have HS:=U hS;clear h hS
 go_enter func42,ntmps42
 go_wp2_with fail
 refine HU.o.mono ?_;rintro e w1 ⟨aA,⟨k,t,jt,uG,⟨hf,rfl⟩ | ⟨hf,rfl⟩⟩ | ⟨uG,rfl⟩⟩
 ·have HB:=U aA
  clear aA
  go_wp2_with fail
  go_ret
  exact Or.inr ⟨k,t,jt,uG,Or.inl ⟨hf,rfl,HB.o⟩⟩
 ·have h1:=H.o.below aA
  have hB:=h1.AV jt;have f4:=hB.aq 4;have c4:=hB.ce 4 rfl;have hT:=eZ.sF (w':=w1.setCell (aj t.ap 4) (.bool true)) (m':={ t with bD:=true }) (h1.ny jt) ((aQ.refl (fun k=>k=t.ap) w1).setCell (aj t.ap 4) _ (fun _=>rfl)) (hB.set 4 _) rfl rfl rfl;have hX:=h1.IR (t':={ t with bD:=true }) jt rfl hT.1 hT.2 ⟨(h1.xG jt).rk,(h1.xG jt).rb⟩;obtain⟨g2,nG⟩:∃ g2,({ g with au:=g.au.set k { t with bD:=true } }:SG)=g2:=⟨_,rfl⟩
  have Wn:g2.W≤1000:=by rw[← nG];exact hW
  have aW:g2.b=g.b:=by rw[← nG]
  have GA:k<g.au.length:=(List.getElem?_eq_some_iff.1 jt).1;have np:g2.au[k]? = some { t with bD:=true }:=by rw[← nG];show (g.au.set k _)[k]? = _;simp[GA]
  have rQ:SSp g2.st:=by
   rw[← nG,hX.st];exact HS.o.Qa (t:=({ t with bD:=true }:eZ).t) (HS.o.tp t.t (List.mem_of_getElem? (SG.WV jt)))
  have Dk:g2.W=g.W:=by rw[← nG]
  rw[nG] at hX;have HP:=U (IS hX.cN rQ Wn np);have HXX:=U (hX.bz aA)
  have HEq:=U (show g2.st.iR g2.W k=g.st.finish g.W k by
   rw[hX.st,Dk];unfold SP.finish;rw[AW (fun t=>{ t with bD:=true }) (SG.WV jt)]
   rfl)
  have td:=U jt;clear hX hT h1 hB aA rQ nG np jt GA Wn Dk;rw[aW] at HP
  go_wp2_with fail
  refine HP.o.mono ?_;rintro e w3 ⟨rfl,g3,h3⟩;have H3:=U (HXX.o.trans h3);clear h3
  go_wp2_with fail
  go_ret
  refine Or.inr ⟨k,t,td.o,uG,Or.inr ⟨hf,rfl,g3,?_⟩⟩;rw[← HEq.o];exact H3.o
 ·have HB:=U aA
  clear aA
  go_wp2_with fail
  go_ret
  exact Or.inl ⟨uG,rfl,HB.o⟩
end Go.Proofs.YtkpfplbmmglkkaaGreatDoor
