/- Package ends: open of a frame of a payload; the client's Receive. -/
import Derived.Test.YtkpfplbmmglkkaaGreatDoorV29
set_option linter.all false
set_option maxHeartbeats 8000000
set_option maxRecDepth 100000
namespace Go.Proofs.YtkpfplbmmglkkaaGreatDoor
open Go.Proofs.Tryz
variable {w:World}{lo c:Nat}{a:Option Addr}{L:List UInt8}{g:CG}
open Go.RowKit Go.Conc
theorem Lv(h:fG w lo (.slice a L.length c) L):L.length≤c:=by
 rcases h.2 with⟨e,e2⟩ | ⟨g,cap,cur,e,_,_,h3,_⟩
 ·omega
 ·have:c=cap:=by simpa using(Value.slice.inj e).2.2
  omega
theorem fG.rdc(h:fG w lo (.slice a L.length c) L):om w (.slice a L.length c) L:=⟨h.rd,a,c,rfl,Lv h⟩
theorem ID(w:World)(p:aS)(hp:lH p)(hd9:p.data.size≤900)(a:Option Addr)(c:Nat)(F:List UInt8)(h:Rd w (.slice a F.length c) F)(hl:F.length≤2000000)(zz:F.length≤c)(hn:kH eQ F=some (bO p)):
  aT 173 #[.slice a F.length c] w (fun e w'=>e=.returned (.tuple #[lQ p,.bool true])∧Below w.heap.size w w'):=by
 have cj:Below w.heap.size w (w.alloc (.cells #[vB 0,vU 0,vU 0,vU 0,vU 0,.string ⟨#[]⟩] 125)):=(Below.refl _ _).alloc (Nat.le_refl _) _;have rh:aZ (w.alloc (.cells #[vB 0,vU 0,vU 0,vU 0,vU 0,.string ⟨#[]⟩] 125)) w.heap.size 125 [vB 0,vU 0,vU 0,vU 0,vU 0,.string ⟨#[]⟩]:=heap_alloc_new w _;have H0:=U (h.gr cj);have HN:=U hn;have HP:=U hp;obtain⟨w0,nF⟩:∃ w0,w.alloc (.cells #[vB 0,vU 0,vU 0,vU 0,vU 0,.string ⟨#[]⟩] 125)=w0:=⟨_,rfl⟩
 rw[nF] at cj rh H0;have ii:=U rh;clear h hn rh hp
 go_enter func173,ntmps173
 go_wp2_with fail
 refine(J4 w0 a c F H0.o (by unfold maxLen;omega) zz).mono ?_;rintro e w1 ⟨aA,hm⟩;rw[HN.o] at hm;simp only at hm;obtain⟨a1,c1,rfl,PG⟩:=hm;have JQ:=U PG;have kJ:=U (ii.o.below aA);obtain⟨WL,hWL⟩:∃ WL,(bO p).length=WL:=⟨_,rfl⟩
 have HWL:=U hWL;rw[hWL];clear PG hWL
 go_wp2_with fail
 refine(WD w1 p HP.o hd9 (.slice a1 WL c1) (by rw[← HWL.o];exact JQ.o.rdc) (fun k hk=>(JQ.o.lt k (by rw[HWL.o];exact hk)).2)).mono ?_;rintro e w2 ⟨rfl,aW⟩;have cz:=kJ.o.below aW;obtain⟨r0,r1,r2,r3,r4,r5⟩:=cz.c6;have g0:=cz.aq 0;have g1:=cz.aq 1;have g2:=cz.aq 2;have g3:=cz.aq 3;have g4:=cz.aq 4;have g5:=cz.aq 5;have ja:Below w.heap.size w w2:=cj.trans ((aA.mono cj.size).trans (aW.mono (Nat.le_trans cj.size aA.size)));have Cs:=U (lX _ _ _ _ _ _ _ _ (oS cz (vB p.kind) (vU p.ah) (vU p.ag) (vU p.number) (vU p.ai) (.string p.data)));have K7:=U (je ja (Nat.le_refl _) (vB p.kind) (vU p.ah) (vU p.ag) (vU p.number) (vU p.ai) (.string p.data));clear cz ja cj aA aW
 go_wp2_with fail
 (try simp only[Exit.inBlock,Exit.then])
 refine⟨rfl,.tuple #[lQ p,.bool true],?_,rfl,K7.o⟩;rw[results_cell_tmp rfl];have:=Cs.o;simp[asAddr,this]
theorem aaB(h:eH lo w g)(hL:∀ p∈g.L,lH p∧(bO p).length≤120)(h60:g.L.length≤60):
  aT 85 #[aM g.b] w (fun e w'=>∃ v vs,e=.returned v∧B6 w' w.heap.size v vs (g.L.map (fun p=>cd eQ (bO p)))∧fW lo w g { g.st with L:=[] } w' { g with L:=[] }):=by
 refine(M5 w g.b _ _ _ _ _ g.bu g.fN g.up g.tl g.L g.q g.m h.bG hL h60).mono ?_;rintro e w' ⟨v,vs,rfl,h1,h2,h3⟩;exact⟨v,vs,rfl,h2,h.Gf h3 h1.vi h1.D9⟩
theorem mV{ops:Array Oper}{rest:List Oper}{o:Oper}{a:Act}{Q:Exit→Act→World→Prop}(JA:o.guard=none)(s x:Operand)(t:TypeId)(ho:o.op=.call { callee:=.builtin .append,args:=#[s,x],argTypes:=#[t,t] })(v1 v2:Value)(hs:a.eval s=v1)(hx:a.eval x=v2)(v:Value)(w':World)(hr:(Builtin.append_ #[t,t] o.type #[v1,v2]).run Tryz.prog w=.ok v w')(h:wpList Tryz.prog ops Q rest (a.put o.dst v) w'):wpList Tryz.prog ops Q (o::rest) a w :=
 wpList_plain JA fun _ hK=>by
  unfold Oper.wp execOp;simp only[ho,resolve,invoke,builtin,Sem.run_bind,Sem.run_pure,Result.andThen_ok,List.map_toArray,List.map_cons,List.map_nil,hs,hx,hr];exact hK _ _ h
theorem eH.agE{w':World}{m:fh}(h:eH lo w g)(di:lo≤w.heap.size)(v:Value)(hc:aQ (fun k=>k=g.b∨g.sv.ownBlock=some k) w w')(hB:aZ w' g.b 99 ({ g with sv:=v,ae:=g.ae++[m],bQ:=g.bQ+1 }:CG).cells)
  (hA:w'.ownsRow lo 126 1 v (g.ae++[m]).length ((g.ae++[m]).map (fun m=>aJ m.ap))) (iZ:∀ k,v.ownBlock=some k→g.sv.ownBlock=some k∨w.heap.size≤k) (Q2:aZ w' m.ap 128 (ez m)) (JB:w.heap.size≤m.ap) (pu:m.vv=.slice none 0 0) (JF:m.s.ak=[]):fW lo w g ({ g with sv:=v,ae:=g.ae++[m],bQ:=g.bQ+1 }:CG).st w' ({ g with sv:=v,ae:=g.ae++[m],bQ:=g.bQ+1 }:CG):=by
 obtain⟨yY,mr⟩:=fQ hA (by decide)
 have em:m.aF=[eL m.ap 128 (ez m)]:=by
  unfold fh.aF;rw[pu,JF];rfl
 have zA:=h.ap.lt;have hM:cE lo w' m.aF:=by rw[em];exact ct (Nat.le_trans di JB) Q2 (by decide)
 have hh:cE lo w' (({ g with sv:=v,ae:=g.ae++[m],bQ:=g.bQ+1 }:CG).bB++(cx 126 1 v (g.ae++[m]).length ((g.ae++[m]).map (fun m=>aJ m.ap))++m.aF)):=ay.2 ⟨ct h.MB hB (by decide),ay.2 ⟨yY,hM,fun a ha c fZ e=>by
   rw[em] at fZ;rw[List.mem_singleton.1 fZ] at e;have hk:=(be (e:=126) mr).1 ⟨a,ha,rfl⟩;have e':a.1=m.ap:=e;rw[e'] at hk
   exact Q2.bY hA (by decide) hk⟩,fun a ha c fZ e=>by
  rw[List.mem_singleton.1 ha] at e;have e':g.b=c.1:=e
  rcases List.mem_append.1 fZ with fZ | fZ
  ·have hk:=(be (e:=126) mr).1 ⟨c,fZ,rfl⟩
   rw[← e'] at hk;exact hB.bY hA (by decide) hk
  ·rw[em] at fZ
   rw[List.mem_singleton.1 fZ] at e';have e'':g.b=m.ap:=e'
   omega⟩
 have hg:cM w (g.bB++cx 126 1 g.sv g.ae.length (g.ae.map (fun m=>aJ m.ap))) w' (({ g with sv:=v,ae:=g.ae++[m],bQ:=g.bQ+1 }:CG).bB++(cx 126 1 v (g.ae++[m]).length ((g.ae++[m]).map (fun m=>aJ m.ap))++m.aF)):=⟨hc.mono (fun i _ hi=>by
  rcases hi with rfl | hi
  ·exact aL.bM.2 (Or.inl (aL.one.2 rfl))
  ·exact aL.bM.2 (Or.inr ((be h.rs).2 hi))),fun k hk=>by
  rcases aL.bM.1 hk with e | e
  ·exact Or.inl (aL.bM.2 (Or.inl (aL.one.2 ((aL.one.1 e).trans rfl))))
  ·rcases aL.bM.1 e with e | e
   ·rcases iZ k ((be mr).1 e) with e | e
    ·exact Or.inl (aL.bM.2 (Or.inr ((be h.rs).2 e)))
    ·exact Or.inr e
   ·rw[em] at e
    rw[aL.one.1 e]
    exact Or.inr JB⟩
 have p1:g.aF.Perm ((g.bB++cx 126 1 g.sv g.ae.length (g.ae.map (fun m=>aJ m.ap)))++(g.bq++(g.jq++(g.ae.flatMap fh.aF++(cx 213 1 g.cv g.aU.length (g.aU.map (fun m=>aJ m.ap))++g.aU.flatMap Ge.aF))))):=bF (fun p=>by
  unfold CG.aF CG.rest CG.jq;simp only[aP]
  omega)
 have p2:((({ g with sv:=v,ae:=g.ae++[m],bQ:=g.bQ+1 }:CG).bB++(cx 126 1 v (g.ae++[m]).length ((g.ae++[m]).map (fun m=>aJ m.ap))++m.aF))++(g.bq++(g.jq++(g.ae.flatMap fh.aF++(cx 213 1 g.cv g.aU.length (g.aU.map (fun m=>aJ m.ap))++g.aU.flatMap Ge.aF))))).Perm ({ g with sv:=v,ae:=g.ae++[m],bQ:=g.bQ+1 }:CG).aF:=bF (fun p=>by
  show _=cnt p (({ g with sv:=v,ae:=g.ae++[m],bQ:=g.bQ+1 }:CG).bB++(g.bq++(g.jq++(cx 126 1 v (g.ae++[m]).length ((g.ae++[m]).map (fun m=>aJ m.ap))++((g.ae++[m]).flatMap fh.aF++(cx 213 1 g.cv g.aU.length (g.aU.map (fun m=>aJ m.ap))++g.aU.flatMap Ge.aF))))));have e1:(g.ae++[m]).flatMap fh.aF=g.ae.flatMap fh.aF++m.aF:=by simp
  rw[e1];simp only[aP]
  omega)
 exact⟨⟨((h.dR.bZ p1).dE hh hg).bZ p2,h.ra,mr,h.rc,fun m' WN=>by
  rcases List.mem_append.1 WN with e | e
  ·exact h.rv m' e
  ·rw[List.mem_singleton.1 e,pu,JF]
   exact Or.inl ⟨rfl,rfl,rfl⟩⟩,rfl,hg.dE.bZ p1.symm p2,rfl,rfl,rfl,rfl,rfl⟩
theorem agF(g:CG)(v:Value)(m:fh):(g.cells.set 15 v).set 16 (vI ((g.bQ:Int)+1))=({ g with sv:=v,ae:=g.ae++[m],bQ:=g.bQ+1 }:CG).cells:=rfl
theorem eH.Xb{w7:World}(m:fh)(h:eH lo w g)(di:lo≤w.heap.size)(v:Value)(hc:aQ (fun k=>g.sv.ownBlock=some k) w w7)(hA:w7.ownsRow lo 126 1 v (g.ae++[m]).length ((g.ae++[m]).map (fun m=>aJ m.ap)))(iZ:∀ k,v.ownBlock=some k→g.sv.ownBlock=some k∨w.heap.size≤k)(Q2:aZ w7 m.ap 128 (ez m))(JB:w.heap.size≤m.ap)(pu:m.vv=.slice none 0 0)(JF:m.s.ak=[]):
  aZ w7 g.b 99 g.cells∧aZ (w7.setCell (aj g.b 15) v) g.b 99 (g.cells.set 15 v)∧aZ ((w7.setCell (aj g.b 15) v).setCell (aj g.b 16) (vI ((g.bQ:Int)+1))) m.ap 128 (ez m)∧fW lo w g ({ g with sv:=v,ae:=g.ae++[m],bQ:=g.bQ+1 }:CG).st ((w7.setCell (aj g.b 15) v).setCell (aj g.b 16) (vI ((g.bQ:Int)+1))) ({ g with sv:=v,ae:=g.ae++[m],bQ:=g.bQ+1 }:CG):=by
 have ol:=h.Zb;have zA:=h.ap.lt;have BP:=h.ap.dW hc ol;have Nu:=BP.set 15 v;have hB9:=Nu.set 16 (vI ((g.bQ:Int)+1));rw[agF g v m] at hB9;have hc9:aQ (fun k=>k=g.b) w7 ((w7.setCell (aj g.b 15) v).setCell (aj g.b 16) (vI ((g.bQ:Int)+1))):=((aQ.refl (fun k=>k=g.b) w7).setCell (aj g.b 15) v (fun _=>rfl)).setCell (aj g.b 16) _ (fun _=>rfl);have Xc:=Q2.dW hc9 (fun e=>by have:m.ap=g.b:=e;omega);have hA9:=hc9.own hA (fun k hk e=>BP.bY hA (by decide) (by rw[hk,e]));exact⟨BP,Nu,Xc,h.agE di v ((hc.mono (fun k _ e=>Or.inr e)).same (hc9.mono (fun k _ e=>Or.inl e))) hB9 hA9 iZ Xc JB pu JF⟩
def CP.IE(c:CP)(num:Int):Option Nat:=c.ae.findIdx? (fun o=>((o.number:Int)==num))
def CP.fU(c:CP)(num:Int):CP × Nat × ByteArray × ByteArray:=match c.IE num with
 | none=>(c,0,⟨#[]⟩,⟨#[]⟩)
 | some i=>match c.ae[i]? with
  | none=>(c,0,⟨#[]⟩,⟨#[]⟩)
  | some s=>(if s.gw.2.1=0 then c else if s.gw.2.1=1 then { c with ae:=c.ae.modify i (fun s=>s.gw.1) } else { c with ae:=c.ae.eraseIdx i },s.gw.2)
theorem Xd(h:eH lo w g)(agG:mR w)(vQ:g.ae.length≤400)(bX:∀ s∈g.st.ae,s.name.size≤1000∧s.aX≤1000000000000∧s.ak.length≤s.aX∧s.bD≠1)(num:Int)(U5:0≤num)(CK:num<g.bQ):
  aT 89 #[aM g.b,vI num] w (fun e w'=>e=.returned (.tuple #[.agg #[.int .i64 (g.st.fU num).2.1,.string (g.st.fU num).2.2.1,.string (g.st.fU num).2.2.2],vI 0])∧∃ g',fW lo w g (g.st.fU num).1 w' g'):=by
 obtain⟨w0,nF,cj,FO⟩:=cS w [vI num] 3;have aA:Below w0.heap.size w0 (w0.alloc (.cells #[vI 0,.string ⟨#[]⟩,.string ⟨#[]⟩] 134)):=(Below.refl _ _).alloc (Nat.le_refl _) _;have dD:aZ (w0.alloc (.cells #[vI 0,.string ⟨#[]⟩,.string ⟨#[]⟩] 134)) w0.heap.size 134 [vI 0,.string ⟨#[]⟩,.string ⟨#[]⟩]:=heap_alloc_new w0 _;have vp:=FO.below aA;obtain⟨w1,ee⟩:∃ w1,w0.alloc (.cells #[vI 0,.string ⟨#[]⟩,.string ⟨#[]⟩] 134)=w1:=⟨_,rfl⟩
 rw[ee] at aA dD vp;have ja:Below w.heap.size w w1:=cj.trans (aA.mono cj.size);have di:=cj.size;have h1:=h.below ja;have agH:=(h.below cj).kf;obtain⟨sa,sc,jU⟩:=h.rs.slice;have dn:=vp.ce 0 rfl;have dm:=h1.ap.ce 16 rfl;have dS:w1.cell? (aj g.b 15)=some (.slice sa g.ae.length sc):=(show w1.cell? (aj g.b 15)=some g.sv from h1.ap.cell 15).trans (by rw[jU])
 have HC:Hid (∀ wr,Below w1.drew.heap.size w1.drew wr→∀ i (hi:i<(g.ae.map (fun m=>m.ap)).length),aT 126 #[aJ (g.ae.map (fun m=>m.ap))[i],aM w.heap.size] wr (fun e w'=>e=.returned (.bool (atB g.ae (fun m=>((m.s.number:Int)==num)) i))∧Below wr.heap.size wr w')):=fun wr BG i hi=>by
  have Gj:i<g.ae.length:=by simpa using hi
  rw[AP Gj,List.getElem_map];exact yt g.ae[i].ap _ g.ae[i].s.number num w.heap.size wr (fh.iz ((h1.drew.below BG).iO Gj)) rfl ((aZ.below (w:=w1.drew) vp BG).cell 0)
 have HR:=U (show g.st.IE num=g.ae.findIdx? (fun m=>((m.s.number:Int)==num)) by
  unfold CP.IE CG.st;simp only[List.findIdx?_map]
  rfl)
 have HP:=U (show rH w1.drew lo 126 (.slice sa g.ae.length sc) (g.ae.map (fun m=>m.ap)) by rw[← jU];exact h1.drew.oT);have tj:=U jU;have kJ:=U dD;have H:=U h;have H1:=U h1;have Iv:=U ja;have yz:=U agH;have al9:=U agG;have UZ:=U bX;have HL:=U (show (g.ae.map (fun m=>m.ap)).length=g.ae.length by simp);have Nv:decide (num<0)=false:=by simp;omega
 have hdg:decide ((g.bQ:Int)≤num)=false:=by simp;omega
 clear h h1 FO vp dD cj aA ja jU agH U5 CK agG bX
 go_enter func89,ntmps89
 go_wp2_with fail
 go_region
 all_goals
  go_wp2_with fail
  refine(VC 125 126 126 (by simp) w1.drew lo _ (g.ae.map (fun m=>m.ap)) w.heap.size _ HP.o (by have:=HL.o;omega) HC.o).mono ?_;rintro e w2 ⟨z,rfl,hz,aW⟩;rw[HL.o] at hz;have JK:=AQ hz;have sH:Below w1.heap.size w1 w2:=⟨aW.os,aW.tape,aW.output,aW.size,aW.block⟩
  have H2:=U (H1.o.below sH);have gX:=U (kJ.o.below sH);have QS:=Iv.o.trans (sH.mono Iv.o.size);have HbW:=U QS;clear hz HC aW QS
  rcases JK with⟨k,rfl,hk,hf⟩ | ⟨rfl,hf⟩
  ·have b0:decide ((k:Int)<0)=false:=by simp
   obtain⟨ga,c,kn,vH,aK⟩:=H2.o.AO hk;obtain⟨rfl,rfl⟩:sa=some (aj ga 0)∧sc=c:=by simpa using tj.o.symm.trans kn
   have k15:w2.cell? (aj g.b 15)=some (.slice (some (aj ga 0)) g.ae.length sc):=(show w2.cell? (aj g.b 15)=some g.sv from H2.o.ap.cell 15).trans (by rw[tj.o]);have JE:w2.cell? (aj ga k)=some (.pointer (some ⟨g.ae[k].ap,0,none⟩)):=aK;have HM:=U (List.getElem?_eq_getElem hk);have HMS:=U (H2.o.iO hk);have HRV:=U (H2.o.rv g.ae[k] (List.getElem_mem hk));have HO:=U (UZ.o g.ae[k].s (List.mem_map.2 ⟨g.ae[k],List.getElem_mem hk,rfl⟩))
   have HE:=U (show g.st.fU num=(if g.ae[k].s.gw.2.1=0 then g.st else if g.ae[k].s.gw.2.1=1 then { g.st with ae:=g.st.ae.modify k (fun s=>s.gw.1) } else { g.st with ae:=g.st.ae.eraseIdx k },g.ae[k].s.gw.2) by
    have e:g.st.ae[k]? = some g.ae[k].s:=by unfold CG.st;simp[hk]
    unfold CP.fU;rw[HR.o.trans hf]
    simp only[e])
   generalize g.ae[k]=mm at *;have hkI:(k:Int)<(g.ae.length:Int):=by omega
   clear kn aK hf
   go_wp2_with fail
   cases TX:mm.s.ak with
   | nil=>
    obtain⟨x,HX⟩:∃ x:ByteArray,Hid (x=⟨#[]⟩):=⟨_,U rfl⟩
    have HEv:=U (show mm.s.gw=(mm.s,mm.s.bD,x,x) by unfold dQ.gw;rw[TX,HX.o]);refine(Is HMS.o HRV.o TX).mono ?_;rintro e w3 ⟨he,bP⟩;rw[← HX.o] at he;subst he;obtain⟨w4,tV,iA,QO⟩:=cS w3 [vI mm.s.bD,.string x,.string x] 134;have PC:=bP.trans (iA.mono bP.size);have H4:=U (H2.o.below PC);have rY:=U (gX.o.below PC);have HbY:=U (HbW.o.trans (PC.mono HbW.o.size));have abJ:=U ((H2.o.below bP).kf);have MW:=U QO;have q0:=QO.ce 0 rfl;clear bP iA PC QO TX
    by_cases iD:mm.s.bD=0
    ·have bk:((mm.s.bD:Int) != 0)=false:=by simp[iD]
     have pd:=U (show g.st.fU num=(g.st,mm.s.bD,x,x) by rw[HE.o,HEv.o];simp only[iD,if_true]);have s0:=MW.o.ce 0 rfl;have s1:=MW.o.ce 1 rfl;have s2:=MW.o.ce 2 rfl;have u0:=rY.o.ce 0 rfl;have u1:=rY.o.ce 1 rfl;have u2:=rY.o.ce 2 rfl;have v0:=rY.o.aq 0;have v1:=rY.o.aq 1;have v2:=rY.o.aq 2;have Cs:=U (jb _ _ _ _ _ (oV rY.o (vI mm.s.bD) (.string x) (.string x)));have K7:=U (nY HbY.o di (vI mm.s.bD) (.string x) (.string x));clear iD
     go_wp2_with fail
     (try simp only[Exit.inBlock,Exit.then])
     refine⟨rfl,.tuple #[.agg #[vI mm.s.bD,.string x,.string x],vI 0],?_,by rw[pd.o]<;>rfl,_,by rw[pd.o];exact fW.refl H.o K7.o⟩;rw[results_cell_tmp rfl];have:=Cs.o;simp[asAddr,this]
    ·have bk:((mm.s.bD:Int) != 0)=true:=by simp[iD]
     have h1f:=HO.o.2.2.2;have bk1:((mm.s.bD:Int) != 1)=true:=by simp;omega
     have pd:=U (show g.st.fU num=({ g.st with ae:=g.st.ae.eraseIdx k },mm.s.bD,x,x) by rw[HE.o,HEv.o];simp only[if_neg iD,if_neg h1f]);have y15:w4.cell? (aj g.b 15)=some (.slice (some (aj ga 0)) g.ae.length sc):=(show w4.cell? (aj g.b 15)=some g.sv from H4.o.ap.cell 15).trans (by rw[tj.o]);clear iD h1f
     go_wp2_with fail
     refine(aba w4 lo _ (g.ae.map (fun m=>m.ap)) k (show w4.ownsRow lo 126 1 (.slice (some (aj ga 0)) g.ae.length sc) (g.ae.map (fun m=>m.ap)).length ((g.ae.map (fun m=>m.ap)).map aJ) by have:=H4.o.oT;rw[tj.o] at this;exact this) (by have:=HL.o;omega)).mono ?_;rintro e w6 ⟨v6,rfl,dP,Cv,hc6⟩;obtain⟨JP,g7,hT⟩:=H4.o.abj (v:=v6) HM.o dP (by rw[tj.o];exact Cv) (hc6.mono (fun k _ hk=>by rw[tj.o];exact hk));obtain⟨a6,c6,rfl⟩:=ax dP;generalize ((g.ae.map (fun m=>m.ap)).eraseIdx k).length=n6 at *;have k6:=JP.ce 15 rfl;have f6:=JP.aq 15;have sU:=hT.ap rY.o yz.o;have hV7:=hT.ap MW.o abJ.o;have DK:=U (hT.bz HbY.o);obtain⟨w7,VL⟩:∃ w7,w6.setCell (aj g.b 15) (.slice a6 n6 c6)=w7:=⟨_,rfl⟩
     rw[VL] at DK sU hV7;have s0:=hV7.1.ce 0 rfl;have s1:=hV7.1.ce 1 rfl;have s2:=hV7.1.ce 2 rfl;have u0:=sU.1.ce 0 rfl;have u1:=sU.1.ce 1 rfl;have u2:=sU.1.ce 2 rfl;have v0:=sU.1.aq 0;have v1:=sU.1.aq 1;have v2:=sU.1.aq 2;have Cs:=U (jb _ _ _ _ _ (oV sU.1 (vI mm.s.bD) (.string x) (.string x)));have HCd:=U (E9 w7 w0.heap.size (vI mm.s.bD) (.string x) (.string x));have amb:=U sU.2;clear dP Cv hc6 JP hT sU hV7
     go_wp2_with fail
     (try simp only[Exit.inBlock,Exit.then])
     refine⟨rfl,.tuple #[.agg #[vI mm.s.bD,.string x,.string x],vI 0],?_,by rw[pd.o]<;>rfl,_,by rw[pd.o];exact DK.o.WS HCd.o (fun k hk=>by subst hk;exact⟨di,amb.o⟩)⟩;rw[results_cell_tmp rfl];have:=Cs.o;simp[asAddr,this]
   | cons v r=>
    have HEv:=U (show mm.s.gw=({ mm.s with ak:=r },1,v,jV mm.s.name (mm.s.aX-mm.s.ak.length+1)) by unfold dQ.gw;rw[TX]);refine(Li HMS.o HRV.o ((al9.o.below HbW.o)) HO.o.1 HO.o.2.1 HO.o.2.2.1 v r TX).mono ?_;rintro e w3 ⟨rfl,m',h3⟩;obtain⟨g3,h3c⟩:=H2.o.Lh (f:=fun s=>s.gw.1) HM.o (m':=m') (by rw[HEv.o];exact h3);have gz:=h3c.ap gX.o yz.o;generalize hcu:jV mm.s.name (mm.s.aX-mm.s.ak.length+1)=cu at *;obtain⟨w4,tV,iA,QO⟩:=cS w3 [vI 1,.string v,.string cu] 134;have HT4:=U ((h3c.bz HbW.o).below iA);have rY:=U (gz.1.below iA);have abJ:=U gz.2;have MW:=U QO;have pd:=U (show g.st.fU num=({ g.st with ae:=g.st.ae.modify k (fun s=>s.gw.1) },1,v,cu) by rw[HE.o,HEv.o];simp);have q0:=QO.ce 0 rfl;have s0:=MW.o.ce 0 rfl;have s1:=MW.o.ce 1 rfl;have s2:=MW.o.ce 2 rfl;have u0:=rY.o.ce 0 rfl;have u1:=rY.o.ce 1 rfl;have u2:=rY.o.ce 2 rfl;have v0:=rY.o.aq 0;have v1:=rY.o.aq 1;have v2:=rY.o.aq 2;have Cs:=U (jb _ _ _ _ _ (oV rY.o (vI 1) (.string v) (.string cu)));have HCd:=U (E9 w4 w0.heap.size (vI 1) (.string v) (.string cu));have HCU:=U hcu;clear gz iA QO h3 h3c TX hcu
    go_wp2_with fail
    (try simp only[Exit.inBlock,Exit.then])
    refine⟨rfl,.tuple #[.agg #[vI 1,.string v,.string cu],vI 0],?_,by rw[pd.o]<;>rfl,_,by rw[pd.o];exact HT4.o.WS HCd.o (fun k hk=>by subst hk;exact⟨di,abJ.o⟩)⟩;rw[results_cell_tmp rfl];have:=Cs.o;simp[asAddr,this]
  ·have pd:=U (show g.st.fU num=(g.st,0,⟨#[]⟩,⟨#[]⟩) by unfold CP.fU;rw[HR.o.trans hf])
   have e0:=gX.o.ce 0 rfl;have e1:=gX.o.ce 1 rfl;have e2:=gX.o.ce 2 rfl;have g0:=gX.o.aq 0;have g1:=gX.o.aq 1;have g2:=gX.o.aq 2;have Cs:=U (jb _ _ _ _ _ (oV gX.o (vI 0) (.string ⟨#[]⟩) (.string ⟨#[]⟩)));have K7:=U (nY HbW.o di (vI 0) (.string ⟨#[]⟩) (.string ⟨#[]⟩));clear hf
   go_wp2_with fail
   (try simp only[Exit.inBlock,Exit.then])
   refine⟨rfl,.tuple #[.agg #[vI 0,.string ⟨#[]⟩,.string ⟨#[]⟩],vI 0],?_,by rw[pd.o]<;>rfl,_,by rw[pd.o];exact fW.refl H.o K7.o⟩;rw[results_cell_tmp rfl];have:=Cs.o;simp[asAddr,this]
theorem PS{q:CP}(h:eH lo w g)(p:aS)(hp:lH p)(hd9:p.data.size≤900)(bA:Int)(Vu:g.st.gl bA=true)(a:Option Addr)(c:Nat)(F:List UInt8)(hr:Rd w (.slice a F.length c) F)(hl:F.length≤2000000)(zz:F.length≤c)(hn:kH eQ F=some (bO p))
  (hT:∀ w2,Below w.heap.size w w2→aT 174 #[aM g.b,lQ p] w2 (fun e w'=>e=.returned (.tuple #[])∧∃ g',fW lo w2 g q w' g')) :
  aT 123 #[aM g.b,vI bA,.slice a F.length c] w (fun e w'=>e=.returned (vI 0)∧∃ g',fW lo w g q w' g'):=by
 have H:=U h;have HR:=U hr;have HN:=U hn;have td:=U hT;have HP:=U hp;have HU:=U (show (g.up&&decide (bA=g.bu))=true from Vu);clear h hr hn hT hp Vu
 go_enter func123,ntmps123
 go_wp2_with fail
 refine(F4 _ g.b _ _ _ _ _ g.bu g.fN g.up g.q g.m g.tl H.o.ap bA).mono ?_;rintro e w1 ⟨rfl,rfl⟩;rw[HU.o]
 go_wp2_with fail
 refine(ID w1 p HP.o hd9 a c F HR.o hl zz HN.o).mono ?_;rintro e w2 ⟨rfl,aW⟩;obtain⟨w3,iK,bP,gz⟩:=eK w2 p;obtain⟨r0,r1,r2,r3,r4,r5⟩:=gz.c6;have ja:=aW.trans (bP.mono aW.size);have Iv:=U ja;clear aW bP gz ja
 go_wp2_with fail
 refine(td.o w3 Iv.o).mono ?_;rintro e w4 ⟨rfl,g4,h4⟩;have HT:=U (h4.bz Iv.o);clear h4
 go_wp2_with fail
 go_ret
 exact⟨rfl,g4,HT.o⟩
end Go.Proofs.YtkpfplbmmglkkaaGreatDoor
