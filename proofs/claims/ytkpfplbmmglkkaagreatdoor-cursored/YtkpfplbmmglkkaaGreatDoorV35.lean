/- Package ends: the client: Subscribe. -/
import Derived.Test.YtkpfplbmmglkkaaGreatDoorV34
set_option linter.all false
set_option maxHeartbeats 8000000
set_option maxRecDepth 100000
namespace Go.Proofs.YtkpfplbmmglkkaaGreatDoor
open Go.Proofs.Tryz
variable {g:CG}{lo:Nat}{w:World}{X:List PIV}
open Go.RowKit Go.Conc
theorem Ft(c:CP)(p:aS):(c.aR p).bQ=c.bQ:=by unfold CP.aR;dsimp only;split<;>rfl
theorem yD(c:CP)(p:aS):(c.aR p).ae=c.ae:=by unfold CP.aR;dsimp only;split<;>rfl
theorem acd{g4:CG}{nm bb:ByteArray}{pos:Nat}{v:Value}{b:Nat}{tc:Yp}{vv:Value}{b':Nat}(h:g4.st=g.st.aR ⟨2,0,0,0,pos,nm⟩):
  ({ g4 with b:=b',sv:=v,ae:=g4.ae++[⟨b,tc,vv,⟨g.bQ,g.next,nm,bb,pos,pos,[],0⟩⟩],bQ:=g.bQ+1 }:CG).st=g.st.cA nm bb pos:=by
 have e:({ g4 with b:=b',sv:=v,ae:=g4.ae++[⟨b,tc,vv,⟨g.bQ,g.next,nm,bb,pos,pos,[],0⟩⟩],bQ:=g.bQ+1 }:CG).st = { g4.st with ae:=g4.st.ae++[⟨g.bQ,g.next,nm,bb,pos,pos,[],0⟩],bQ:=g.bQ+1 }:=by unfold CG.st;simp
 rw[e,h];rfl
theorem sS(h:eH lo w g)(hS:yy g.st)(di:lo≤w.heap.size)(jD:oU lo w g.iv X)(t:ByteArray)(x:PIV)(bs:ByteArray)(i:Nat)(Fb:lB X 2 t.toList (i:Int))(YC:X[i]? = some x)(Nc:∃ v,x.it.base=[.string bs,v])(aqz:g.bQ≤1000000000000)(u:ByteArray)(pos:Nat)
  (ux:∀ W,mR W→Calls Tryz.prog 51 #[.string x.it.name.text,.string u] W fun e w'=>e=.returned (.tuple #[.int .u64 pos,.bool true])∧Below W.heap.size W w') :
  Calls Tryz.prog 32 #[.pointer (some ⟨g.b,0,none⟩),.string t,.string u] w (fun e w'=>
   (g.st.jv g.W=true∧e=.returned (.tuple #[.int .i64 0,.int .i64 14])∧Below w.heap.size w w') ∨
   (g.st.jv g.W=false∧e=.returned (.tuple #[.int .i64 g.bQ,.int .i64 0])∧∃ g',fW lo w g (g.st.cA x.it.name.text bs pos) w' g')):=by
 obtain⟨gY,il,Cb,BH,U7,CU⟩:=hS.gg;obtain⟨pl,hi⟩:=jD.i;obtain⟨ia,ic,PQ⟩:∃ a c,g.iv=.slice a X.length c:=ax hi.own
 have d0:w.cell? ⟨g.b,0,none⟩=some (.slice ia X.length ic):=(show w.cell? ⟨g.b,0,none⟩=some g.iv from h.ap.cell 0).trans (by rw[PQ]);have H:=U h;have HE:=U jD.WQ;have HI:=U (PQ ▸ hi);have HX:=U jD.xo;have HF:=U Fb;have HXi:=U YC;have HBs:=U Nc;have HPO:=U ux;clear h jD hi PQ Fb YC Nc ux
 go_enter func32,ntmps32
 go_wp2_with fail
 refine(Pk w pl (.slice ia X.length ic) X 2 t HI.o HX.o.YS HX.o.len).mono ?_;rintro e w1 ⟨z,hF,aA,⟨rfl,rfl⟩ | ⟨j,y,n,rfl,hx,qZ,han,rfl⟩⟩
 ·exact absurd (HF.o.afm hF) (by omega)
 ·obtain rfl:i=j:=by have:=HF.o.afm hF;omega
  obtain rfl:x=y:=by have:=HXi.o.symm.trans hx;simpa using this
  have D2:n.bb=bs:=by
   obtain⟨v,hv⟩:=HBs.o;rw[qZ] at hv;simpa using(List.cons.inj hv).1
  have VP:=U D2;have hbI:Below w1.heap.size w1 (w1.alloc (.cells #[.int .i64 x.it.kind,.string x.it.name.text,.int .i64 x.it.name.at_,.slice n.fa x.it.fields.length n.fc,.slice n.na x.it.names.length n.nc,.string n.bb,.int .i64 n.ba,.string n.ab,.int .i64 n.aa] 117)):=(Below.refl _ _).alloc (Nat.le_refl _) _;have hBI:aZ (w1.alloc (.cells #[.int .i64 x.it.kind,.string x.it.name.text,.int .i64 x.it.name.at_,.slice n.fa x.it.fields.length n.fc,.slice n.na x.it.names.length n.nc,.string n.bb,.int .i64 n.ba,.string n.ab,.int .i64 n.aa] 117)) w1.heap.size 117 [.int .i64 x.it.kind,.string x.it.name.text,.int .i64 x.it.name.at_,.slice n.fa x.it.fields.length n.fc,.slice n.na x.it.names.length n.nc,.string n.bb,.int .i64 n.ba,.string n.ab,.int .i64 n.aa]:=heap_alloc_new w1 _;have ju:=aA.size;have HBI:=U hBI;have HbI:=U (aA.trans (hbI.mono ju));have yz:=U (H.o.below aA).kf;unfold yV;clear hF hx qZ han hbI hBI D2
  go_wp2_with fail
  generalize w1.alloc (.cells #[.int .i64 x.it.kind,.string x.it.name.text,.int .i64 x.it.name.at_,.slice n.fa x.it.fields.length n.fc,.slice n.na x.it.names.length n.nc,.string n.bb,.int .i64 n.ba,.string n.ab,.int .i64 n.aa] 117)=wI at *;generalize hib:w1.heap.size=ib at *;obtain⟨nm,BJ⟩:∃ nm,x.it.name.text=nm:=⟨_,rfl⟩
  rw[BJ] at HBI HPO ⊢;obtain⟨k0,k2,fa,fl,fc,na,nl,nc,bb,k6,ab,k8,hHB,D2⟩:∃ (k0 k2:Int) (fa:Option Addr) (fl fc:Nat) (na:Option Addr) (nl nc:Nat) (bb:ByteArray) (k6:Int) (ab:ByteArray) (k8:Int),aZ wI ib 117 [.int .i64 k0,.string nm,.int .i64 k2,.slice fa fl fc,.slice na nl nc,.string bb,.int .i64 k6,.string ab,.int .i64 k8]∧bb=bs:=⟨_,_,_,_,_,_,_,_,_,_,_,_,HBI.o,VP.o⟩
  subst D2;have c1:wI.cell? ⟨ib,1,none⟩=some (.string nm):=hHB.cell 1;have HBY:=U hHB;have HEI:=U (HE.o.below HbI.o);have Kj:=U BJ;clear hHB HBI VP BJ;refine(HPO.o wI HEI.o).mono ?_;rintro e w2 ⟨rfl,aW⟩;have ace:=HbI.o.trans (aW.mono HbI.o.size);have H2:=U (H.o.below ace);clear HPO
  go_wp2_with fail
  refine(Xw H2.o).mono ?_;rintro e w3 ⟨rfl,bP⟩;have EK:=ace.trans (bP.mono ace.size)
  cases zm:g.st.jv g.W with
  | true=>
   go_wp2_with fail
   go_ret2
   exact Or.inl ⟨zm,rfl,EK⟩
  | false=>
   have H3:=U (H.o.below EK);have gz:=HBY.o.below (show Below wI.heap.size wI w3 from aW.trans (bP.mono aW.size));have c3:w3.cell? ⟨ib,1,none⟩=some (.string nm):=gz.cell 1;have lE:=U gz;have ahd:lo≤w3.heap.size:=Nat.le_trans di EK.size;have amO:=U EK;clear gz EK
   go_wp2_with fail
   refine(Tg H3.o ahd gY CU ⟨2,0,0,0,pos,nm⟩).mono ?_;rintro e w4 ⟨rfl,g4,h4⟩;have hI4:=h4.ap lE.o yz.o;have jR:=hI4.1;have em:g4.bQ=g.bQ:=by have:=congrArg CP.bQ h4.st;rw[Ft] at this;exact this
   obtain⟨sa,sc,jU⟩:=h4.dM.rs.slice;have Xz:=h4.b;have r0:w4.cell? ⟨ib,0,none⟩=some (.int .i64 k0):=jR.cell 0;have r1:w4.cell? ⟨ib,1,none⟩=some (.string nm):=jR.cell 1;have r2:w4.cell? ⟨ib,2,none⟩=some (.int .i64 k2):=jR.cell 2;have r3:w4.cell? ⟨ib,3,none⟩=some (.slice fa fl fc):=jR.cell 3;have r4:w4.cell? ⟨ib,4,none⟩=some (.slice na nl nc):=jR.cell 4;have r5:w4.cell? ⟨ib,5,none⟩=some (.string bb):=jR.cell 5;have r6:w4.cell? ⟨ib,6,none⟩=some (.int .i64 k6):=jR.cell 6;have r7:w4.cell? ⟨ib,7,none⟩=some (.string ab):=jR.cell 7;have r8:w4.cell? ⟨ib,8,none⟩=some (.int .i64 k8):=jR.cell 8
   have d16:w4.cell? ⟨g.b,16,none⟩=some (.int .i64 g.bQ):=by
    have:=h4.dM.ap.cell 16;rw[Xz] at this;rw[this];show some (Value.int .i64 g4.bQ)=_;rw[em]
   have iC:Below w4.heap.size w4 (w4.alloc (.cells #[.int .i64 g.bQ,.int .u64 g.next,.int .i64 k0,.string nm,.int .i64 k2,.slice fa fl fc,.slice na nl nc,.string bb,.int .i64 k6,.string ab,.int .i64 k8,.int .u64 pos,.int .u64 pos,.slice none 0 0,.int .i64 0] 128)).drew:=((Below.refl _ _).alloc (Nat.le_refl _) _).drew;have hS5:aZ (w4.alloc (.cells #[.int .i64 g.bQ,.int .u64 g.next,.int .i64 k0,.string nm,.int .i64 k2,.slice fa fl fc,.slice na nl nc,.string bb,.int .i64 k6,.string ab,.int .i64 k8,.int .u64 pos,.int .u64 pos,.slice none 0 0,.int .i64 0] 128)).drew w4.heap.size 128 [.int .i64 g.bQ,.int .u64 g.next,.int .i64 k0,.string nm,.int .i64 k2,.slice fa fl fc,.slice na nl nc,.string bb,.int .i64 k6,.string ab,.int .i64 k8,.int .u64 pos,.int .u64 pos,.slice none 0 0,.int .i64 0]:=heap_alloc_new w4 _;obtain⟨w5,Gt⟩:∃ w5,(w4.alloc (.cells #[.int .i64 g.bQ,.int .u64 g.next,.int .i64 k0,.string nm,.int .i64 k2,.slice fa fl fc,.slice na nl nc,.string bb,.int .i64 k6,.string ab,.int .i64 k8,.int .u64 pos,.int .u64 pos,.slice none 0 0,.int .i64 0] 128)).drew=w5:=⟨_,rfl⟩
   rw[Gt] at iC hS5;have h5:=h4.dM.below iC
   have d15:w5.cell? ⟨g.b,15,none⟩=some (.slice sa g4.ae.length sc):=by
    have:=h5.ap.cell 15;rw[Xz] at this;rw[this];show some g4.sv=_;rw[jU]
   have KE:g4.ae.length≤1000:=by
    have:=congrArg (fun c=>c.ae.length) h4.st;rw[yD] at this;have e1:g4.ae.length=g.ae.length:=by simpa[CG.st] using this
    omega
   have HR5:=U (show w5.ownsRow lo 126 1 (.slice sa g4.ae.length sc) g4.ae.length (g4.ae.map (fun m=>aJ m.ap)) by
    have:=h5.oT;unfold rH at this;rw[jU,List.length_map,List.map_map] at this
    exact this)
   have tj:=U jU;have H4:=U h4;have H5:=U h5;have JI:=U hS5;have Hb5:=U iC;have YA:w4.heap.size<w5.heap.size:=hS5.lt;have hzA:w5.heap.size<(w5.alloc (.cells #[.pointer (some ⟨w4.heap.size,0,none⟩)] 126)).heap.size:=by simp
   have amP:lo≤w4.heap.size:=Nat.le_trans ahd h4.grow.c.size;have amQ:=U Xz;have HEM:=U em;obtain⟨L,hL⟩:∃ L,g4.ae.length=L:=⟨_,rfl⟩
   rw[hL] at d15 KE HR5 tj;have HLL:=U hL;clear hL;clear hI4 jR h4 h5 hS5 iC jU Xz em
   go_wp2_with fail
   go_region
   all_goals
    go_wp2_with (at_builtin;refine cJ _ rfl (.tmp 58) (.tmp 60) 96 126 (.pointer none) 1 8 rfl underlying96 Tryz.infodelStrD rfl (by decide) (.slice sa L sc) L (g4.ae.map (fun m=>aJ m.ap)) lo rfl (HR5.o.alloc _) ⟨w5.heap.size,0,none⟩ 1 1 [.pointer (some ⟨w4.heap.size,0,none⟩)] rfl rfl (Kg _ _ _) (fun u hu=>by simp at hu;rw[hu];rfl) (L+1) rfl (g4.ae.map (fun m=>aJ m.ap)++[.pointer (some ⟨w4.heap.size,0,none⟩)]) rfl (by unfold maxLen;omega) (by omega) (by omega) ?_)
    intro a7 c7 w7 iY FN;have kn:∀ k,(Value.slice sa L sc).ownBlock=some k→g4.sv.ownBlock=some k:=fun k hk=>by rw[tj.o];exact hk
    have Om:aQ (fun k=>g4.sv.ownBlock=some k) w5 w7:=(aQ.aI ((Below.refl _ w5).alloc (Nat.le_refl _) _)).same (aQ.mZ FN kn);have ahe:aQ (fun k=>g4.sv.ownBlock=some k) w4 w7:=(aQ.aI Hb5.o).same Om;have hL:=HLL.o
    have hP:=H4.o.dM.Xb (w7:=w7) ⟨w4.heap.size,⟨.int .i64 k0,.int .i64 k2,.slice fa fl fc,.slice na nl nc,.int .i64 k6,.string ab,.int .i64 k8⟩,.slice none 0 0,⟨g.bQ,g.next,nm,bb,pos,pos,[],0⟩⟩ amP (.slice a7 (L+1) c7) ahe (by
     rw[List.length_append,List.map_append,hL]
     exact iY) (fun k hk=>by
     rcases FN.b k hk with e | e
     ·exact Or.inl (kn k e)
     ·have:w5.heap.size≤(w5.alloc (.cells #[.pointer (some ⟨w4.heap.size,0,none⟩)] 126)).heap.size:=by omega
      exact Or.inr (by omega)) (JI.o.dW Om (fun e=>by
     have:=(H5.o.oT.lt w4.heap.size e)
     have:=(H4.o.dM.oT.lt w4.heap.size e).2
     omega)) (Nat.le_refl _) rfl rfl
    obtain⟨BP,Nu,Xc,hT9⟩:=hP;rw[amQ.o] at BP Nu Xc hT9;rw[HEM.o] at Xc hT9;have e15:w7.cell? ⟨g.b,15,none⟩=some (.slice sa L sc):=(show w7.cell? ⟨g.b,15,none⟩=some g4.sv from BP.cell 15).trans (by rw[tj.o]);have g15:=BP.aq 15;obtain⟨w8,ND⟩:∃ w8,w7.setCell ⟨g.b,15,none⟩ (.slice a7 (L+1) c7)=w8:=⟨_,rfl⟩
    rw[ND] at Nu Xc hT9;have e16:w8.cell? ⟨g.b,16,none⟩=some (.int .i64 g.bQ):=(show w8.cell? ⟨g.b,16,none⟩=some (.int .i64 g4.bQ) from Nu.cell 16).trans (by rw[HEM.o]);have g16:=Nu.aq 16;obtain⟨w9,hw9⟩:∃ w9,w8.setCell ⟨g.b,16,none⟩ (.int .i64 ((g.bQ:Int)+1))=w9:=⟨_,rfl⟩
    rw[hw9] at Xc hT9;have e0:w9.cell? ⟨w4.heap.size,0,none⟩=some (.int .i64 g.bQ):=Xc.cell 0;have HT:=U ((H4.o.bz amO.o).trans hT9);clear BP Nu Xc hT9 iY FN kn Om ahe hL
    go_wp2_with fail
    go_ret2
    have e:=HT.o;rw[acd H4.o.st] at e;rw[Kj.o];exact Or.inr ⟨zm,rfl,_,e⟩
theorem eZ.jh{w':World}{m m':eZ}{kb:B8}{j:Nat}(h:cE lo w m.aF)(ok:m.Ok)(hc:aQ (fun k=>k=m.ap∨m.kv.ownBlock=some k) w w')(hb:m'.ap=m.ap)(hks:m'.ks=(m.ks++[kb]).drop j)
  (hB:aZ w' m.ap 108 (dl m')) (hA:w'.ownsRow lo 103 1 m'.kv m'.ks.length (m'.ks.map (fun k=>k.v))) (iZ:∀ k,m'.kv.ownBlock=some k→m.kv.ownBlock=some k∨w.heap.size≤k) (hd:fG w' lo kb.v kb.d) (Nv:∀ k,kb.v.ownBlock=some k→w.heap.size≤k):m'.Ok∧cE lo w' m'.aF∧cM w m.aF w' m'.aF:=by
 have hl:lo≤m.ap:=(h.lt ⟨_,List.mem_append_left _ (List.mem_singleton.2 rfl),rfl⟩).1;obtain⟨yY,mr⟩:=fQ hA (by decide);obtain⟨hD1,Su⟩:=fQ hd (by decide)
 have hrm:cE lo w' (m'.Ef++kb.aF):=ay.2 ⟨yY,hD1,fun a ha c fZ e=>by
  have k1:=(be (e:=103) mr).1 ⟨a,ha,rfl⟩;have k2:=(be (e:=5) Su).1 ⟨c,fZ,rfl⟩;obtain⟨x,hx⟩:=gB hA k1;obtain⟨y,hy⟩:=gB hd k2;rw[e,hy] at hx
  simp at hx⟩
 have hh:cE lo w' ([eL m'.ap 108 (dl m')]++(m'.Ef++kb.aF)):=ay.2 ⟨by rw[hb];exact ct hl hB (by decide),hrm,fun a ha c fZ e=>by
  rw[List.mem_singleton.1 ha] at e;have e':m.ap=c.1:=by rw[← hb];exact e
  rcases List.mem_append.1 fZ with fZ | fZ
  ·have hk:=(be (e:=103) mr).1 ⟨c,fZ,rfl⟩
   rw[← e'] at hk;exact hB.bY hA (by decide) hk
  ·have hk:=(be (e:=5) Su).1 ⟨c,fZ,rfl⟩
   rw[← e'] at hk
   exact hB.bY hd (by decide) hk⟩
 have hg:cM w ([eL m.ap 108 (dl m)]++m.Ef) w' ([eL m'.ap 108 (dl m')]++(m'.Ef++kb.aF)):=⟨hc.mono (fun i _ hi=>by
  rcases hi with rfl | hi
  ·exact aL.bM.2 (Or.inl (aL.one.2 rfl))
  ·exact aL.bM.2 (Or.inr ((be ok.rk).2 hi))),fun k hk=>by
  rcases aL.bM.1 hk with e | e
  ·exact Or.inl (aL.bM.2 (Or.inl (aL.one.2 ((aL.one.1 e).trans hb))))
  ·rcases aL.bM.1 e with e | e
   ·rcases iZ k ((be mr).1 e) with e | e
    ·exact Or.inl (aL.bM.2 (Or.inr ((be ok.rk).2 e)))
    ·exact Or.inr e
   ·exact Or.inr (Nv k ((be Su).1 e))⟩
 have p1:m.aF.Perm (([eL m.ap 108 (dl m)]++m.Ef)++m.ks.flatMap B8.aF):=bF (fun p=>by unfold eZ.aF;simp only[aP];omega);have hX:=(h.bZ p1).dE hh hg;have hG:=hg.dE (R:=m.ks.flatMap B8.aF)
 have ef:m.ks.flatMap B8.aF++kb.aF=((m.ks++[kb]).take j).flatMap B8.aF++m'.ks.flatMap B8.aF:=by
  rw[hks,← List.flatMap_append,List.take_append_drop,List.flatMap_append];simp
 have p2:(([eL m'.ap 108 (dl m')]++(m'.Ef++kb.aF))++m.ks.flatMap B8.aF).Perm (((m.ks++[kb]).take j).flatMap B8.aF++m'.aF):=bF (fun p=>by
  have:=congrArg (cnt p) ef;unfold eZ.aF;simp only[aP] at this ⊢
  omega)
 refine⟨⟨mr,fun k hk=>?_⟩,(ay.1 (hX.bZ p2)).2.1,⟨(hG.bZ p1.symm p2).c,fun k hk=>(hG.bZ p1.symm p2).k k (aL.bM.2 (Or.inr hk))⟩⟩;rw[hks] at hk
 rcases List.mem_append.1 (List.mem_of_mem_drop hk) with hk | hk
 ·exact ok.rb k hk
 ·rw[List.mem_singleton.1 hk];exact Su
theorem ahf{w0:World}{t:eZ}{R:Nat}{da:Option Addr}{dc:Nat}{d:List UInt8}(h0:cE lo w0 t.aF)(ok:t.Ok)(Vc:lo≤w0.heap.size)(cj:Below w0.heap.size w0 w)(hd:fG w w0.heap.size (.slice da d.length dc) d)(hR:1≤R∧R≤1000)(hn:t.ks.length≤R)(amR:t.count<1000000000000):
  aT 47 #[aM t.ap,.slice da d.length dc,vI R] w (fun e w'=>e=.returned (.tuple #[])∧∃ t':eZ,t'.t=t.t.add R d∧t'.ap=t.ap∧t'.Ok∧cE lo w' t'.aF∧cM w0 t.aF w' t'.aF):=by
 have hw:=h0.below cj;have hB:aZ w t.ap 108 (dl t):=eZ.iz hw;have hK:=eZ.row hw ok
 have Kh:∀ u∈t.ks.map (fun k=>k.v),u.oneCell'=true:=fun u hu=>by
  obtain⟨k,hk,rfl⟩:=List.mem_map.1 hu;obtain⟨a,c,e⟩:=(ok.rb k hk).slice;rw[e];rfl
 obtain⟨dv,BR⟩:∃ dv,dv=Value.slice da d.length dc:=⟨_,rfl⟩
 obtain⟨KV,XA⟩:∃ KV,KV=t.ks.map (fun k=>k.v):=⟨_,rfl⟩
 have hKl:KV.length=t.ks.length:=by rw[XA];simp
 rw[← XA] at hK Kh;have aA:Below w.heap.size w (w.alloc (.cells #[.slice da d.length dc] 103)):=(Below.refl _ _).alloc (Nat.le_refl _) _;have hK0:(w.alloc (.cells #[.slice da d.length dc] 103)).ownsRow lo 103 1 t.kv t.ks.length KV:=aH hK (fun g hg=>aA.block g (hK.lt g hg).2);have FO:aZ (w.alloc (.cells #[.slice da d.length dc] 103)) w.heap.size 103 [.slice da d.length dc]:=heap_alloc_new w _;have hls:lo≤w.heap.size:=Nat.le_trans Vc cj.size;have d3:=hB.ce 3 rfl;have amS:t.kv.ownBlock≠some t.ap:=hB.bY hK aeo.symm;obtain⟨ka,kc,Pm⟩:=ax hK;obtain⟨N,HN⟩:∃ N,Hid (t.ks.length+1=N):=⟨_,U rfl⟩
 obtain⟨X,HX⟩:∃ X,Hid (KV++[.slice da d.length dc]=X):=⟨_,U rfl⟩
 have auZ:1≤N∧N≤1001:=by have:=HN.o;omega
 have HB:=U hB;have HK:=U hK;have HO:=U Kh;have HD:=U hd;have H0:=U h0;have HOk:=U ok;have ii:=U cj;have HKV:=U XA;have HKL:=U hKl;clear hB h0 ok hd cj hw Kh XA hKl;rw[Pm] at d3
 go_enter func47,ntmps47
 go_wp2_with (at_builtin;refine cJ _ rfl (.tmp 10) (.tmp 12) 106 103 (.slice none 0 0) 1 24 rfl underlying106 Tryz.infoBytesK rfl (by decide) t.kv t.ks.length KV lo (by rw[Pm];rfl) hK0 (aj w.heap.size 0) 1 1 [.slice da d.length dc] rfl rfl (fun j u hu=>by
  rw[dF _ _ rfl];have:=FO.cell (0+j);rw[this]
  simpa using hu) (fun u hu=>by simp at hu;subst hu;rfl) N HN.o X HX.o (by unfold maxLen;omega) (by omega) (by simp;omega) ?_)
 intro a1 c1 w1 qt ku
 obtain⟨g,rfl⟩:∃ g,a1=some (aj g 0):=by
  rcases qt.2 with⟨e,h0⟩ | ⟨g,cap,cur,hv,_⟩
  ·omega
  ·simp only[Value.slice.injEq] at hv
   exact⟨g,hv.1⟩
 have jk:aQ (fun i=>t.kv.ownBlock=some i) w w1:=(aQ.aI aA).same (aQ.mZ ku (fun k hk=>by rw[Pm];exact hk));have dD:aZ w1 t.ap 108 (dl t):=HB.o.dW jk amS
 have hgn:t.kv.ownBlock=some g∨w.heap.size≤g:=by
  rcases ku.b g rfl with e | e
  ·exact Or.inl (by rw[Pm];exact e)
  ·exact Or.inr (by simp at e;omega)
 have QM:t.ap≠g:=fun e=>dD.bY qt aeo.symm (by rw[e];rfl)
 obtain⟨hnc,Yq,_⟩:=oD qt;have e3:=dD.ce 3 rfl;have g3:=dD.aq 3;have cz:aZ (w1.setCell (aj t.ap 3) (.slice (some (aj g 0)) N c1)) t.ap 108 [.string t.name,.string t.base,vU t.count,.slice (some (aj g 0)) N c1,.bool t.bD]:=dD.set 3 _;have jO:aQ (fun i=>i=t.ap) w1 (w1.setCell (aj t.ap 3) (.slice (some (aj g 0)) N c1)):=(aQ.refl _ _).setCell _ _ (fun _=>rfl);have uD:=jO.own qt (fun k hk e=>QM (by simp[Value.ownBlock] at hk;omega));obtain⟨w2,dX⟩:∃ w2,w1.setCell (aj t.ap 3) (.slice (some (aj g 0)) N c1)=w2:=⟨_,rfl⟩
 rw[dX] at cz jO uD;have f2:=cz.ce 2 rfl;have g2:=cz.aq 2;have gz:aZ (w2.setCell (aj t.ap 2) (vU ((t.count:Int)+1))) t.ap 108 [.string t.name,.string t.base,vU ((t.count:Int)+1),.slice (some (aj g 0)) N c1,.bool t.bD]:=cz.set 2 _;have js:aQ (fun i=>i=t.ap) w2 (w2.setCell (aj t.ap 2) (vU ((t.count:Int)+1))):=(aQ.refl _ _).setCell _ _ (fun _=>rfl);have pC:=js.own uD (fun k hk e=>QM (by simp[Value.ownBlock] at hk;omega));obtain⟨w3,iK⟩:∃ w3,w2.setCell (aj t.ap 2) (vU ((t.count:Int)+1))=w3:=⟨_,rfl⟩
 rw[iK] at gz js pC;have k3:=gz.ce 3 rfl;have m3:=gz.aq 3;have HC:Hid (aQ (fun i=>i=t.ap∨t.kv.ownBlock=some i) w w3):=(jk.mono (fun i _ e=>Or.inr e)).same ((jO.mono (fun i _ e=>Or.inl e)).same (js.mono (fun i _ e=>Or.inl e)))
 have Zp:∀ u∈X,u.oneCell'=true:=fun u hu=>by
  rw[← HX.o,List.mem_append] at hu
  rcases hu with hu | hu
  ·exact HO.o u hu
  ·simp at hu;subst hu;rfl
 -- what remains of it,once the dJ ones are cut
 have nX:Hid (∀ (j:Nat) (w':World),(j=if N≤R then 0 else 1)→aQ (fun i=>i=t.ap∨t.kv.ownBlock=some i) w w'→aZ w' t.ap 108 [.string t.name,.string t.base,vU ((t.count:Int)+1),.slice (some (aj g 0)) (N-j) c1,.bool t.bD]→w'.ownsRow lo 103 1 (.slice (some (aj g 0)) (N-j) c1) (N-j) (X.drop j)→∃ t':eZ,t'.t=t.t.add R d∧t'.ap=t.ap∧t'.Ok∧cE lo w' t'.aF∧cM w0 t.aF w' t'.aF):=by
  refine U ?_;intro j w' hj hcw hBw hAw;have Mu:((t.ks++[(⟨.slice da d.length dc,d⟩:B8)]).drop j).length=N-j:=by rw[List.length_drop,← HN.o];simp
  have hvk:((t.ks++[(⟨.slice da d.length dc,d⟩:B8)]).drop j).map (fun k=>k.v)=X.drop j:=by rw[List.map_drop,← HX.o,HKV.o];simp
  have hdw:fG w' lo (.slice da d.length dc) d:=cm (hcw.own HD.o (fun k hk e=>by
   rcases e with e | e
   ·rw[e] at hk
    exact HB.o.bY HD.o (by decide) hk
   ·obtain⟨x,hx⟩:=gB HK.o e
    obtain⟨y,hy⟩:=gB HD.o hk;rw[hy] at hx
    simp at hx)) Vc
  have:=eZ.jh (m':={ t with count:=t.count+1,kv:=.slice (some (aj g 0)) (N-j) c1,ks:=(t.ks++[(⟨.slice da d.length dc,d⟩:B8)]).drop j }) H0.o HOk.o ((aQ.aI ii.o).same hcw) rfl rfl hBw (by simp only[Mu,hvk];exact hAw) (fun k hk=>by
   have e:g=k:=by simpa[Value.ownBlock] using hk
   rw[← e]
   rcases hgn with e | e
   ·exact Or.inl e
   ·exact Or.inr (Nat.le_trans ii.o.size e)) hdw (fun k hk=>(HD.o.lt k hk).1)
  refine⟨{ t with count:=t.count+1,kv:=.slice (some (aj g 0)) (N-j) c1,ks:=(t.ks++[(⟨.slice da d.length dc,d⟩:B8)]).drop j },?_,rfl,this.1,this.2.1,this.2.2⟩;unfold eZ.t jS.add;simp only[List.length_map,HN.o];rw[hj]
  split<;>simp
 have lE:=U gz;have QH:=U pC;have HX1:=U Zp;have HGN:=U hgn;clear hK0 aA FO qt uD pC ku jk jO js dD cz gz Zp hgn hK d3;have au6:c1≤9223372036854775807:=by unfold maxLen at Yq;omega
 by_cases hNR:N≤R
 ·have HMX:=U (show max 0 (IntKind.i64.wrap ((N:Int)-(R:Int)))=0 by rw[IntKind.wrap_i64];omega)
  go_wp2_with fail
  go_region_with (go_at_call 72;rw[HMX.o];refine(Rk _ (aj g 0) N c1 hnc Yq).mono ?_;rintro e w4 ⟨rfl,rfl⟩)
  all_goals
   go_wp2_with fail
   go_end0
   have jR:aZ (w3.drew.setCell (aj t.ap 3) (.slice (some (aj g 0)) N c1)) t.ap 108 [.string t.name,.string t.base,vU ((t.count:Int)+1),.slice (some (aj g 0)) N c1,.bool t.bD]:=aZ.set (w:=w3.drew) lE.o 3 _;have jr:aQ (fun i=>i=t.ap) w3 (w3.drew.setCell (aj t.ap 3) (.slice (some (aj g 0)) N c1)):=((aQ.refl _ w3).drew).setCell _ _ (fun _=>rfl);have FV:=HC.o.same (jr.mono (fun i _ e=>Or.inl e));refine⟨rfl,nX.o 0 _ (by rw[if_pos hNR]) FV jR ?_⟩;exact jr.own QH.o (fun k hk e=>QM (by simp[Value.ownBlock] at hk;omega))
 ·have HMX:=U (show max 0 (IntKind.i64.wrap ((N:Int)-(R:Int)))=1 by have:=HN.o;rw[IntKind.wrap_i64];omega)
  have h2N:2≤N:=by omega
  go_wp2_with fail
  have zA:t.ap<w3.drew.heap.size:=lE.o.lt
  go_region_with (go_at_call 72;rw[HMX.o];refine(Ol _ lo g N c1 X (show World.ownsRow w3.drew lo _ 1 _ N X from QH.o) h2N HX1.o).mono ?_;rintro e w4 ⟨rfl,QI,jr⟩;have HO4:=U QI;have HC4:=U jr;clear QI jr;have jR:=aZ.dW (w:=w3.drew) lE.o HC4.o QM;have k4:=jR.cell 3;simp only[List.getElem?_cons_succ,List.getElem?_cons_zero] at k4;have m4:=jR.aq 3;have rY:=U jR;clear jR)
  all_goals
   go_wp2_with fail
   go_end0
   have yW:aZ (w4.setCell (aj t.ap 3) (.slice (some (aj g 0)) (N-1) c1)) t.ap 108 [.string t.name,.string t.base,vU ((t.count:Int)+1),.slice (some (aj g 0)) (N-1) c1,.bool t.bD]:=rY.o.set 3 _;have vt:aQ (fun i=>i=t.ap) w4 (w4.setCell (aj t.ap 3) (.slice (some (aj g 0)) (N-1) c1)):=(aQ.refl _ w4).setCell _ _ (fun _=>rfl);have hc6:aQ (fun i=>i=t.ap∨i=g) w3 (w4.setCell (aj t.ap 3) (.slice (some (aj g 0)) (N-1) c1)):=((aQ.refl _ w3).drew.same (HC4.o.mono (fun i _ e=>Or.inr e))).same (vt.mono (fun i _ e=>Or.inl e))
   have FV:aQ (fun i=>i=t.ap∨t.kv.ownBlock=some i) w (w4.setCell (aj t.ap 3) (.slice (some (aj g 0)) (N-1) c1)):=HC.o.trans hc6 (fun i hi e=>by
    rcases e with e | e
    ·exact Or.inl e
    ·rcases HGN.o with h | h
     ·exact Or.inr (by rw[e];exact h)
     ·omega)
   refine⟨rfl,nX.o 1 _ (by rw[if_neg hNR]) FV yW ?_⟩;exact vt.own HO4.o (fun k hk e=>QM (by simp[Value.ownBlock] at hk;omega))
def Uc(lo:Nat)(g:SG)(X:List PIV)(name v:ByteArray)(w:World)(e:Ending)(w':World):Prop:=(g.st.dZ name=none∧e=.returned (.int .i64 11)∧Below w.heap.size w w')∨∃ (k:Nat) (t:eZ),g.au[k]? = some t∧g.st.dZ name=some k∧((t.bD=true∧e=.returned (.int .i64 12)∧Below w.heap.size w w')∨(t.bD=false∧∃ (E:Int) (d:List UInt8),M3 X t.base v E d∧e=.returned (.int .i64 E)∧(E≠0→Below w.heap.size w w')∧(E=0→∃ g',dw lo w g (g.st.iS g.W g.R k d) w' g')))
theorem AB{g:SG}(h:cB lo w g)(di:lo≤w.heap.size)(jD:oU lo w g.iv X)(hl:g.au.length≤400)(hS:SSp g.st)(hW:g.W≤1000)(hR:1≤g.R∧g.R≤1000)(hkR:∀ t∈g.st.au,t.dJ.length≤g.R∧t.count<1000000000000)(name v:ByteArray)(hv:v.size≤maxLen):
  aT 29 #[aM g.b,.string name,.string v] w (Uc lo g X name v w):=by
 have HU:=U (T9 h hl name);have H:=U h;have HS:=U hS;have HSt:=U jD;have HkR:=U hkR;clear h hS jD hkR
 go_enter func29,ntmps29
 go_wp2_with fail
 refine HU.o.mono ?_;rintro e w1 ⟨aA,⟨k,t,jt,uG,⟨hf,rfl⟩ | ⟨hf,rfl⟩⟩ | ⟨uG,rfl⟩⟩
 ·have HB:=U aA
  clear aA
  go_wp2_with fail
  go_ret
  exact Or.inr ⟨k,t,jt,uG,Or.inl ⟨hf,rfl,HB.o⟩⟩
 ·have h1:=H.o.below aA
  have IV:=HSt.o.below aA;obtain⟨pl,hi⟩:=IV.i;obtain⟨ia,ic,PQ⟩:∃ a c,g.iv=.slice a X.length c:=ax hi.own
  have HII:=U (PQ ▸ hi:PIts w1 pl (.slice ia X.length ic) X);have HX:=U IV.xo;have HEI:=U IV.WQ;have HOw:=U IV.own;have H1:=U h1;have iV:=U aA;have td:=U jt;have Ty:lo≤w1.heap.size:=Nat.le_trans di aA.size;have d0:w1.cell? (aj g.b 0)=some (.slice ia X.length ic):=(show w1.cell? (aj g.b 0)=some g.iv from h1.ap.cell 0).trans (by rw[PQ]);have d1:=(h1.AV jt).ce 1 rfl;clear hi PQ IV h1 aA jt
  go_wp2_with fail
  go_region_with (go_at_call 46;refine(G6 w1.drew pl ia X.length ic X t.base v (HII.o.below (Below.refl _ _).drew) HX.o (HEI.o.below (Below.refl _ _).drew) (fun cb yR=>HOw.o cb (Nat.le_trans Ty yR)) hv).mono ?_;rintro e w2 ⟨da,dc,d,E,rfl,Ky,Su,EF,Cg⟩;have Dx:=U (show Below w1.heap.size w1 w2 from(Below.refl _ w1).drew.trans Ky);have HD:=U (show fG w2 w1.heap.size (.slice da d.length dc) d from Su);have HAn:=U Cg;clear Ky Su EF Cg)
  all_goals
   by_cases hE0:E=0
   ·subst hE0
    have d3:w2.cell? (aj g.b 3)=some (vI g.R):=(H1.o.below Dx.o).ap.cell 3;have hkr:=HkR.o t.t (List.mem_of_getElem? (SG.WV td.o));have acf:t.ks.length≤g.R:=by have:=hkr.1;unfold eZ.t at this;simpa using this
    have acg:t.count<1000000000000:=hkr.2;have HA:=U (ahf (H1.o.ny td.o) (H1.o.xG td.o) Ty Dx.o HD.o hR acf acg);have Hc:=U acg;have Hk1:=U acf;clear hkr acf acg
    go_wp2_with fail
    refine HA.o.mono ?_;rintro e w3 ⟨rfl,t',ach,ahh,ahi,ahj,ahk⟩;have hX:=H1.o.IR td.o ahh ahj ahk ahi;obtain⟨g2,nG⟩:∃ g2,({ g with au:=g.au.set k t' }:SG)=g2:=⟨_,rfl⟩
    have Wn:g2.W≤1000:=by rw[← nG];exact hW
    have aW:g2.b=g.b:=by rw[← nG]
    have GA:k<g.au.length:=(List.getElem?_eq_some_iff.1 td.o).1;have np:g2.au[k]? = some t':=by rw[← nG];show (g.au.set k _)[k]? = _;simp[GA]
    have rQ:SSp g2.st:=by
     rw[← nG,hX.st];refine HS.o.Qa ?_;rw[ach];have JF:=HS.o.tp t.t (List.mem_of_getElem? (SG.WV td.o));have hc0:t.t.count<1000000000000:=Hc.o;unfold jS.add;simp only
     split
     ·rw[List.length_append,List.length_singleton];omega
     ·rw[List.length_drop,List.length_append,List.length_singleton];omega
    have Dk:g2.W=g.W:=by rw[← nG]
    rw[nG] at hX;have HP:=U (IS hX.cN rQ Wn np);have HXX:=U (hX.bz iV.o)
    have HEq:=U (show g2.st.iR g2.W k=g.st.iS g.W g.R k d by
     rw[hX.st,Dk];unfold SP.iS
     rw[AW (jS.add g.R d) (SG.WV td.o),ach])
    clear hX ach ahi ahj ahk rQ nG np GA Wn Dk;rw[aW,ahh] at HP
    go_wp2_with fail
    refine HP.o.mono ?_;rintro e w4 ⟨rfl,g3,h3⟩;have H3:=U (HXX.o.trans h3);clear h3
    go_wp2_with fail
    go_ret
    refine Or.inr ⟨k,t,td.o,uG,Or.inr ⟨hf,0,d,HAn.o,rfl,fun e=>absurd rfl e,fun _=>⟨g3,?_⟩⟩⟩;rw[← HEq.o];exact H3.o
   ·have hEB:(E==0)=false:=by simpa using hE0
    go_wp2_with fail
    go_ret
    exact Or.inr ⟨k,t,td.o,uG,Or.inr ⟨hf,E,d,HAn.o,rfl,fun _=>iV.o.trans (Dx.o.mono iV.o.size),fun e=>absurd e hE0⟩⟩
 ·have HB:=U aA
  clear aA
  go_wp2_with fail
  go_ret
  exact Or.inl ⟨uG,rfl,HB.o⟩
theorem IW(up:Bool)(mk:Nat→aS):∀ (n az:Nat) (L:List aS),az≤(kP up mk n az L).1∧(kP up mk n az L).1≤az+n
 | 0,az,L=>⟨Nat.le_refl _,Nat.le_refl _⟩
 | n+1,az,L=>by
  unfold kP
  split
  ·have:=IW up mk n (az+1) (bo up L (mk (az+1)))
   omega
  ·exact⟨Nat.le_refl _,Nat.le_add_right _ _⟩
theorem AY(up:Bool)(W tk ss:Nat)(t:jS)(f:cY)(L:List aS):(cw up W tk ss t f L).1.number=f.number∧(cw up W tk ss t f L).1.aG=f.aG∧(cw up W tk ss t f L).1.aX=f.aX∧(cw up W tk ss t f L).1.ey=f.ey∧f.az≤(cw up W tk ss t f L).1.az∧(cw up W tk ss t f L).1.az≤max f.az t.count:=by
 unfold cw
 split
 ·exact⟨rfl,rfl,rfl,rfl,Nat.le_refl _,by simp only;omega⟩
 ·split
  ·exact⟨rfl,rfl,rfl,rfl,Nat.le_refl _,by simp only;omega⟩
  ·split
   ·exact⟨rfl,rfl,rfl,rfl,Nat.le_refl _,by simp only;omega⟩
   ·have:=IW up (eJ tk ss t f) (min t.count (f.aX+W)-f.az) f.az L
    refine⟨rfl,rfl,rfl,rfl,this.1,?_⟩;simp only;omega
end Go.Proofs.YtkpfplbmmglkkaaGreatDoor
