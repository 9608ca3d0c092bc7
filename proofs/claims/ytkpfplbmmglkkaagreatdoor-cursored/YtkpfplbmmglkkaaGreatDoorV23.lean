/- Package ends: a stream of the client: add, cut. -/
import Derived.Test.YtkpfplbmmglkkaaGreatDoorV22
import Derived.Deep.DeepCutAuto
set_option linter.all false
set_option maxHeartbeats 4000000
set_option maxRecDepth 100000
namespace Go.Proofs.YtkpfplbmmglkkaaGreatDoor
open Go.Proofs.Tryz
variable {lo i k b:Nat}{w w' vb:World}{m m':fh}{α:Type}{g:CG}{c:CP}{T:TypeId}
open Go.RowKit Go.Conc
structure E8(lo:Nat)(w:World)(m:fh)(s:dQ)(w':World)(m':fh):Prop where
 dR:cE lo w' m'.aF
 grow:cM w m.aF w' m'.aF
 s:m'.s=s
 b:m'.ap=m.ap
 rv:du 1 m'.vv m'.s.ak.length (ck m'.s.ak)
theorem fh.row(h:cE lo w m.aF)(hv:du 1 m.vv m.s.ak.length (ck m.s.ak)):w.ownsRow lo 9 1 m.vv m.s.ak.length (ck m.s.ak):=h.own hv (fun p hp=>List.mem_append_right _ hp)
theorem fh.Y9(h:cE lo w m.aF)(hv:du 1 m.vv m.s.ak.length (ck m.s.ak))(hc:aQ (fun k=>k=m.ap∨m.vv.ownBlock=some k) w w')(hB:aZ w' m.ap 128 (ez m'))(hA:w'.ownsRow lo 9 1 m'.vv m'.s.ak.length (ck m'.s.ak))(iZ:∀ k,m'.vv.ownBlock=some k→m.vv.ownBlock=some k∨w.heap.size≤k)(hb:m'.ap=m.ap):E8 lo w m m'.s w' m':=by
 obtain⟨yY,mr⟩:=fQ hA (by decide);have hl:lo≤m.ap:=(h.lt ⟨_,List.mem_append_left _ (List.mem_singleton.2 rfl),rfl⟩).1;refine⟨ay.2 ⟨by rw[hb];exact ct hl hB (by decide),yY,fun a ha c fZ e=>?_⟩,⟨hc.mono (fun i _ hi=>?_),fun k hk=>?_⟩,rfl,hb,mr⟩
 ·rw[List.mem_singleton.1 ha] at e
  have hk:=(be (e:=9) mr).1 ⟨c,fZ,rfl⟩;have e':m.ap=c.1:=by rw[← hb];exact e
  rw[← e'] at hk;exact hB.bY hA (by decide) hk
 ·rcases hi with rfl | hi
  ·exact aL.bM.2 (Or.inl (aL.one.2 rfl))
  ·exact aL.bM.2 (Or.inr ((be hv).2 hi))
 ·rcases aL.bM.1 hk with e | e
  ·exact Or.inl (aL.bM.2 (Or.inl (aL.one.2 ((aL.one.1 e).trans hb))))
  ·rcases iZ k ((be mr).1 e) with e | e
   ·exact Or.inl (aL.bM.2 (Or.inr ((be hv).2 e)))
   ·exact Or.inr e
theorem Tx{X:List PIV}(h:cE lo w m.aF)(hv:du 1 m.vv m.s.ak.length (ck m.s.ak))(la:Option Addr)(ll lc:Nat)(jD:oU lo w (.slice la ll lc) X)(di:lo≤w.heap.size)(p:aS)(room:Nat)(hg:m.s.aX≤1000000000000)(hd:p.data.size≤1000)(hn:m.s.ak.length≤1000)(yA:p.ai=m.s.aX+1∧m.s.ak.length<room):
  aT 233 #[aJ m.ap,.slice la ll lc,lQ p,vI room] w (fun e w'=>e=.returned (.tuple #[])∧∃ m',E8 lo w m (m.s.add (dY X) room p) w' m'):=by
 unfold aJ;obtain⟨w0,eM,aN,aD⟩:=eK w p;obtain⟨e0,e1,e2,e3,e4,e5⟩:=aD.c6;have hB:=fh.iz (h.below aN);obtain⟨va,vc,pu⟩:=hv.slice;have d12:=hB.ce 12 rfl;have d13:w0.cell? (aj m.ap 13)=some (.slice va m.s.ak.length vc):=(show w0.cell? (aj m.ap 13)=some m.vv from hB.cell 13).trans (by rw[pu]);have d7:=hB.ce 7 rfl;have b1:((p.ai:Int) != (m.s.aX:Int)+1)=false:=by simp[yA.1]
 have b2:decide (room≤m.s.ak.length)=false:=by simp;omega
 have b3:m.s.ak.length<room:=yA.2;have HH:=U h;have HV:=U hv;have qA:=U pu;have BK:=U jD;have Hb:=U aN;have HA:=U (show m.s.add (dY X) room p=(match dY X m.s.base p.data.toList with | some t=>{ m.s with ak:=m.s.ak++[t],aX:=m.s.aX+1 } | none=>m.s) by unfold dQ.add;rw[if_pos yA];rfl);clear h hB aD aN hv pu yA jD
 go_enter func233,ntmps233
 go_wp2_with fail
 go_quiet (fail)
 have HW:=U (below_drewN Hb.o (nq+1));have Cm:=WR p.data;have d7b:(Lib.bytesWorld (w0.drewN (nq+1)) 5 p.data).cell? (aj m.ap 7)=some (.string m.s.base):=(fh.iz (HH.o.below (HW.o.trans ((xE (w0.drewN (nq+1)) p.data).mono HW.o.size)))).cell 7
 go_wp2_with fail
 go_region_with (go_at_call 237;refine(Lg (W:=w0.drewN (nq+1)) BK.o HW.o m.s.base p.data hd).mono ?_;rintro e w1 ⟨t,E,rfl,aA,hD⟩;have HD:=U hD;have iV:=U aA;clear hD aA)
 all_goals
  rcases HD.o with⟨hE,hN⟩ | ⟨rfl,hN⟩
  ·have bE:(E != 0)=true:=by simpa using hE
   have HF:=U (show m.s.add (dY X) room p=m.s by rw[HA.o,hN]);clear hE hN
   go_wp2_with fail
   (try simp only[Exit.inBlock,Exit.then]);refine bodyPost_ret (results_none rfl _ _ _) rfl ?_
   exact⟨rfl,m,HH.o.below iV.o,cM.aI iV.o,HF.o.symm,rfl,HV.o⟩
  ·have HF:=U (show m.s.add (dY X) room p = { m.s with ak:=m.s.ak++[t],aX:=m.s.aX+1 } by rw[HA.o,hN])
   clear hN;have dD:=fh.iz (HH.o.below iV.o);have k13:w1.cell? (aj m.ap 13)=some (.slice va m.s.ak.length vc):=(show w1.cell? (aj m.ap 13)=some m.vv from dD.cell 13).trans (by rw[qA.o]);have kJ:=U dD;have QQ:=U (fh.row (HH.o.below iV.o) HV.o);rw[qA.o] at QQ;have Ty:lo≤w1.heap.size:=Nat.le_trans di iV.o.size;have hzA:w1.heap.size<(w1.alloc (.cells #[.string t] 9)).heap.size:=by simp
   clear dD
   go_wp2_with (at_builtin;refine cJ _ rfl (.tmp 47) (.tmp 49) 31 9 _ 1 16 rfl underlying31 Tryz.infoStr rfl (by decide) (.slice va m.s.ak.length vc) m.s.ak.length (ck m.s.ak) lo rfl (QQ.o.alloc _) (aj w1.heap.size 0) 1 1 [.string t] rfl rfl (Kg _ _ _) (fun u hu=>by simp at hu;rw[hu];rfl) (m.s.ak.length+1) rfl (ck (m.s.ak++[t])) (by simp[ck]) (by unfold maxLen;omega) (by omega) (by omega) ?_)
   intro a' c' w2 iY FN;have kn:∀ k,(Value.slice va m.s.ak.length vc).ownBlock=some k→m.vv.ownBlock=some k:=fun k hk=>by rw[qA.o];exact hk
   have Om:aQ (fun k=>m.vv.ownBlock=some k) w1 w2:=(aQ.aI ((Below.refl _ w1).alloc (Nat.le_refl _) _)).same (aQ.mZ FN kn);have bT:=kJ.o.bY (fh.row (HH.o.below iV.o) HV.o) (by decide);have cz:=kJ.o.dW Om bT;have q13:w2.cell? (aj m.ap 13)=some (.slice va m.s.ak.length vc):=(show w2.cell? (aj m.ap 13)=some m.vv from cz.cell 13).trans (by rw[qA.o]);have g13:=cz.aq 13;have gz:=cz.set 13 (.slice a' (m.s.ak.length+1) c');have js:aQ (fun k=>k=m.ap) w2 (w2.setCell (aj m.ap 13) (.slice a' (m.s.ak.length+1) c')):=(aQ.refl _ _).setCell _ _ (fun _=>rfl);have abi:=cz.bY iY (by decide);have pC:=js.own iY (fun k hk e=>abi (e ▸ hk));obtain⟨w3,iK⟩:∃ w3,w2.setCell (aj m.ap 13) (.slice a' (m.s.ak.length+1) c')=w3:=⟨_,rfl⟩
   rw[iK] at gz js pC;have q12:=gz.ce 12 rfl;have g12:=gz.aq 12;have jR:=gz.set 12 (vU ((m.s.aX:Int)+1));have jr:aQ (fun k=>k=m.ap) w3 (w3.setCell (aj m.ap 12) (vU ((m.s.aX:Int)+1))):=(aQ.refl _ _).setCell _ _ (fun _=>rfl);have Za:=jr.own pC (fun k hk e=>abi (e ▸ hk))
   have tq:=U (fh.Y9 (m':={ m with vv:=.slice a' (m.s.ak.length+1) c',s:={ m.s with ak:=m.s.ak++[t],aX:=m.s.aX+1 } }) HH.o HV.o (((aQ.aI (F:=fun k=>k=m.ap∨m.vv.ownBlock=some k) iV.o).same (Om.mono (fun k _ e=>Or.inr e))).same ((js.mono (fun k _ e=>Or.inl e)).same (jr.mono (fun k _ e=>Or.inl e)))) jR (by
    show World.ownsRow _ lo _ 1 _ (m.s.ak++[t]).length (ck (m.s.ak++[t]));rw[List.length_append,List.length_singleton]
    exact Za) (fun k hk=>by
    rcases FN.b k hk with e | e
    ·exact Or.inl (kn k e)
    ·have:=iV.o.size
     exact Or.inr (by omega)) rfl)
   clear iY FN Om cz gz jR js jr pC Za kn bT abi
   go_wp2_with fail
   go_end0
   exact⟨rfl,_,by rw[HF.o];exact tq.o⟩
theorem AR(f:α → α):∀ (l1:List α) (a:α) (l2:List α),(l1++a::l2).modify l1.length f=l1++f a::l2
 | [],a,l2=>by simp
 | b::r,a,l2=>by simpa using AR f r a l2
theorem Iq{l:List α}{a:α}(h:l[i]? = some a):l=l.take i++a::l.drop (i+1)∧(l.take i).length=i:=by
 obtain⟨hi,rfl⟩:=List.getElem?_eq_some_iff.1 h;exact⟨by rw[← List.drop_eq_getElem_cons hi,List.take_append_drop],by simp;omega⟩
theorem eH.Lh{f:dQ→dQ}(h:eH lo w g)(hi:g.ae[i]? = some m)(ht:E8 lo w m (f m.s) w' m'):
  ∃ g',fW lo w g { g.st with ae:=g.st.ae.modify i f } w' g':=by
 obtain⟨e1,e2⟩:=Iq hi;have hT:=h.ko (m':=m') e1 ht.b ht.dR ht.grow ht.rv;refine⟨_,hT.dM,?_,hT.grow,hT.b,hT.iv,hT.qU⟩
 have e3:g.st.ae=(g.ae.take i).map (fun m=>m.s)++m.s::(g.ae.drop (i+1)).map (fun m=>m.s):=by
  show g.ae.map (fun m=>m.s)=_
  conv=>lhs;rw[e1]
  simp
 have e4:g.st.ae.modify i f=(g.ae.take i).map (fun m=>m.s)++f m.s::(g.ae.drop (i+1)).map (fun m=>m.s):=by
  rw[e3];have:=AR f ((g.ae.take i).map (fun m=>m.s)) m.s ((g.ae.drop (i+1)).map (fun m=>m.s));rwa [List.length_map,e2] at this
 rw[e4];unfold CG.st;simp only[List.map_append,List.map_cons,ht.s]
theorem yy.ae(h:yy c)(i:Nat)(f:dQ→dQ):yy { c with ae:=c.ae.modify i f }:=⟨h.a,by show (c.ae.modify i f).length≤1000;rw[List.length_modify];exact h.s,h.ca,h.at_,h.si,h.n⟩
theorem sw{p:aS}{f:dQ→dQ}(h:c.ew p=some i):c.kO p f = { c with ae:=c.ae.modify i f }:=by unfold CP.kO;rw[h]
theorem Ir(hv:du 1 m.vv m.s.ak.length (ck m.s.ak))(h1:cE lo w' ({ m with s:=m.s.finish k }:fh).aF)(h2:cM w m.aF w' ({ m with s:=m.s.finish k }:fh).aF):E8 lo w m (m.s.finish k) w' { m with s:=m.s.finish k } :=
 ⟨h1,h2,rfl,rfl,by
  have e:(m.s.finish k).ak=m.s.ak:=by unfold dQ.finish;split<;>rfl
  show du 1 m.vv (m.s.finish k).ak.length (ck (m.s.finish k).ak)
  rw[e];exact hv⟩
theorem fW.WS{g':CG}{p:CP}(h:fW lo w g p w' g'){F:Nat→Prop}(hc:aQ F w' vb)(hF:∀ k,F k→w.heap.size≤k∧¬ aL g'.aF k):fW lo w g p vb g' :=
 ⟨⟨h.dM.dR.nO hc (fun k hk hf=>(hF k hf).2 hk),h.dM.ra,h.dM.rs,h.dM.rc,h.dM.rv⟩,h.st,⟨h.grow.c.trans hc (fun i hi hf=>absurd hi (by have:=(hF i hf).1;omega)),h.grow.k⟩,h.b,h.iv,h.qU⟩
theorem eH.Zb(h:eH lo w g):¬ g.sv.ownBlock=some g.b:=h.ap.bY h.oT (by decide)
theorem agj(g:CG)(v:Value)(l:List fh):g.cells.set 15 v=({ g with sv:=v,ae:=l }:CG).cells:=rfl
theorem eH.abj{w6:World}{mm:fh}{v:Value}(h:eH lo w g)(hm:g.ae[k]? = some mm)(dP:w6.ownsRow lo 126 1 v ((g.ae.map (fun m=>m.ap)).eraseIdx k).length (((g.ae.map (fun m=>m.ap)).eraseIdx k).map aJ))(Cv:v.ownBlock=g.sv.ownBlock)(hc:aQ (fun k=>g.sv.ownBlock=some k) w w6):
  aZ w6 g.b 99 g.cells∧∃ g',fW lo w g { g.st with ae:=g.st.ae.eraseIdx k } (w6.setCell (aj g.b 15) v) g':=by
 have ol:=h.Zb;have JP:=h.ap.dW hc ol;refine⟨JP,{ g with sv:=v,ae:=g.ae.take k++g.ae.drop (k+1) },?_⟩;have PE:aQ (fun k=>k=g.b) w6 (w6.setCell (aj g.b 15) v):=(aQ.refl _ _).setCell _ _ (fun _=>rfl);obtain⟨e1,e2⟩:=Iq hm
 have qI:w6.ownsRow lo 126 1 v (g.ae.take k++g.ae.drop (k+1)).length ((g.ae.take k++g.ae.drop (k+1)).map (fun m=>aJ m.ap)):=by
  have e3:(g.ae.map (fun m=>m.ap)).eraseIdx k=(g.ae.take k++g.ae.drop (k+1)).map (fun m=>m.ap):=by rw[DD,List.eraseIdx_eq_take_drop_succ]
  rw[e3,List.length_map,List.map_map] at dP;exact dP
 have BP:=JP.set 15 v;rw[agj g v (g.ae.take k++g.ae.drop (k+1))] at BP;have hT:=h.Y7 e1 v ((hc.mono (fun k _ hk=>Or.inr hk)).same (PE.mono (fun k _ hk=>Or.inl hk))) BP (PE.own qI (fun k hk e=>ol (by rw[← Cv,hk,e]))) Cv
 have alH:(({ g with sv:=v,ae:=g.ae.take k++g.ae.drop (k+1) }:CG).st) = { g.st with ae:=g.st.ae.eraseIdx k }:=by
  unfold CG.st;simp only[List.eraseIdx_eq_take_drop_succ,List.map_append,List.map_take,List.map_drop]
 rw[alH] at hT;exact hT
theorem E9(w:World)(b:Nat)(x y z:Value):aQ (fun k=>k=b) w (((w.setCell (aj b 0) x).setCell (aj b 1) y).setCell (aj b 2) z) :=
 (((aQ.refl (fun k=>k=b) w).setCell (aj b 0) x (fun _=>rfl)).setCell (aj b 1) y (fun _=>rfl)).setCell (aj b 2) z (fun _=>rfl)
theorem oV{u0 u1 u2:Value}(h:aZ w b T [u0,u1,u2])(x y z:Value):aZ (((w.setCell (aj b 0) x).setCell (aj b 1) y).setCell (aj b 2) z) b T [x,y,z]:=((h.set 0 x).set 1 y).set 2 z
theorem nY{w0:World}(h:Below w.heap.size w w0)(hb:w.heap.size≤b)(x y z:Value):Below w.heap.size w (((w0.setCell (aj b 0) x).setCell (aj b 1) y).setCell (aj b 2) z) :=
 ((h.setCell (p:=(aj b 0)) hb x).setCell (p:=(aj b 1)) hb y).setCell (p:=(aj b 2)) hb z
def jV(t:ByteArray)(u:Nat):ByteArray:=t++ByteArray.mk #[64]++ByteArray.mk (Lib.decDigits u).toArray
theorem Tz{u:Nat}(hu:u<1000000000):(Lib.decDigits u).length≤9:=sQ 8 u (by omega)
theorem AS(t:ByteArray)(w:World):aT 51 #[.string t,.string ⟨#[]⟩] w fun e w'=>e=.returned (.tuple #[vU 0,.bool true])∧Below w.heap.size w w':=by
 go_enter func51,ntmps51
 go_wp2_with fail
 go_ret2
 exact⟨rfl,Below.refl _ _⟩
theorem Cy(t:ByteArray)(u:Nat)(hu:u<1000000000)(w:World)(hE:mR w)(ht:t.size≤1000):aT 51 #[.string t,.string (jV t u)] w fun e w'=>e=.returned (.tuple #[vU u,.bool true])∧Below w.heap.size w w':=by
 have HE:=U hE;have tZ:(jV t u).toList=t.toList++64::Lib.decDigits u:=Di t u;obtain⟨cur,fF⟩:∃ cur,jV t u=cur:=⟨_,rfl⟩
 rw[fF] at tZ ⊢;have HCU:=U fF;clear hE fF
 have HD:=U (show Lib.trimPrefix cur.data.toList (t++ByteArray.mk #[64]).data.toList=Lib.decDigits u by
  rw[← ByteArray.toList_eq,← ByteArray.toList_eq,tZ,Wk]
  exact Wj _ _)
 have yU:(Lib.decDigits u).length≤9:=Tz hu;have HP:=U (Ph u hu);generalize Lib.decDigits u=D at *;have HDS:=U (show (ByteArray.mk D.toArray).size=D.length by show D.toArray.size=_;simp);have HDT:=U (show (ByteArray.mk D.toArray).toList=D by rw[ByteArray.toList_eq]);have bT:cur.toList.isEmpty=false:=by rw[tZ];simp
 have Vl:=U tZ;have Y2:u<18446744073709551616:=by omega
 clear tZ hu
 go_enter func51,ntmps51
 go_wp2_with fail
 refine(pK cur (t++ByteArray.mk #[64]) w).mono ?_;rintro e w1 ⟨rfl,rfl⟩;rw[HD.o]
 go_wp2_with fail
 refine(Cn ⟨D.toArray⟩ w1 (by rw[HDS.o];omega) HE.o).mono ?_;rintro e w2 ⟨aW,⟨u',bX,rfl⟩ | ⟨nH,v,N,T,hv,rfl⟩⟩
 ·rw[HDT.o,HP.o] at bX
  obtain rfl:u=u':=by simpa using bX
  have pd:=U (HE.o.below aW);have h9I:decide ((D.length:Int)≤9)=true:=by simp;omega
  clear bX
  go_wp2_with fail
  refine(oL t u Y2 w2 pd.o ht).mono ?_;rintro e w3 ⟨rfl,bP⟩;have U6:(cur.toList==(t++ByteArray.mk #[64]++ByteArray.mk (Lib.decDigits u).toArray).toList)=true:=by rw[show t++ByteArray.mk #[64]++ByteArray.mk (Lib.decDigits u).toArray=cur from HCU.o];simp
  go_wp2_with fail
  go_ret2
  exact⟨rfl,aW.trans (bP.mono aW.size)⟩
 ·exfalso
  rw[HDT.o] at nH;exact nH u HP.o
def dQ.gw(s:dQ):dQ × Nat × ByteArray × ByteArray:=match s.ak with
 | []=>(s,s.bD,⟨#[]⟩,⟨#[]⟩)
 | v::r=>({ s with ak:=r },1,v,jV s.name (s.aX-s.ak.length+1))
theorem kY{a W:World}(h:Below a.heap.size a W)(o:Obj):Below a.heap.size a (W.alloc o):=h.alloc h.size o
theorem Is(h:cE lo w m.aF)(hv:du 1 m.vv m.s.ak.length (ck m.s.ak))(h0:m.s.ak=[]):
  aT 127 #[aJ m.ap] w (fun e w'=>e=.returned (.agg #[vI m.s.bD,.string ⟨#[]⟩,.string ⟨#[]⟩])∧Below w.heap.size w w'):=by
 unfold aJ;obtain⟨w0,eM,aN,aD⟩:=cS w [vI 0,.string ⟨#[]⟩,.string ⟨#[]⟩] 134;have e0:=aD.ce 0 rfl;have Rj:=aD.aq 0;have e1:=aD.ce 1 rfl;have U3:=aD.aq 1;have e2:=aD.ce 2 rfl;have U4:=aD.aq 2;have hB:=fh.iz (h.below aN);obtain⟨va,vc,pu⟩:=hv.slice;rw[h0] at pu;have d13:w0.cell? (aj m.ap 13)=some (.slice va 0 vc):=(show w0.cell? (aj m.ap 13)=some m.vv from hB.cell 13).trans (by rw[pu];rfl);have d14:=hB.ce 14 rfl;have HL:=U (jb _ _ _ _ _ (oV aD (vI m.s.bD) (.string ⟨#[]⟩) (.string ⟨#[]⟩)));have HB:=U (nY aN (Nat.le_refl _) (vI m.s.bD) (.string ⟨#[]⟩) (.string ⟨#[]⟩));clear h hv h0 pu hB aD aN
 go_enter func127,ntmps127
 go_wp2_with fail
 (try simp only[Exit.inBlock,Exit.then])
 refine⟨rfl,.agg #[vI m.s.bD,.string ⟨#[]⟩,.string ⟨#[]⟩],?_,rfl,HB.o⟩;have:=HL.o;simp[results,Tryz.results127,asAddr,this]
theorem E8.WS{p:dQ}(h:E8 lo w m p w' m'){F:Nat→Prop}(hc:aQ F w' vb)(hF:∀ k,F k→w.heap.size≤k∧¬ aL m'.aF k):E8 lo w m p vb m' :=
 ⟨h.dR.nO hc (fun k hk hf=>(hF k hf).2 hk),⟨h.grow.c.trans hc (fun i hi hf=>absurd hi (by have:=(hF i hf).1;omega)),h.grow.k⟩,h.s,h.b,h.rv⟩
theorem agk(m:fh)(v:Value)(r:List ByteArray):(ez m).set 13 v=ez { m with vv:=v,s:={ m.s with ak:=r } }:=rfl
theorem fh.abk{wc w2:World}{v:ByteArray}{r:List ByteArray}{v2:Value}(h:cE lo w m.aF)(hv:du 1 m.vv m.s.ak.length (ck m.s.ak))(h0:m.s.ak=v::r)(hb:Below w.heap.size w wc)(dP:w2.ownsRow lo 9 1 v2 (m.s.ak.eraseIdx 0).length ((m.s.ak.eraseIdx 0).map Value.string))(Cv:v2.ownBlock=m.vv.ownBlock)(hc:aQ (fun k=>m.vv.ownBlock=some k) wc w2):
  aZ w2 m.ap 128 (ez m)∧(∃ m',E8 lo w m { m.s with ak:=r } (w2.setCell (aj m.ap 13) v2) m'∧∀ k,w.heap.size≤k→¬ aL m'.aF k)∧(∀ eb T xs,w.heap.size≤eb→aZ wc eb T xs→aZ (w2.setCell (aj m.ap 13) v2) eb T xs):=by
 have hR:=fh.row h hv;have hB:=fh.iz h;have bT:=hB.bY hR (by decide);have hBc:=hB.below hb;have cz:=hBc.dW hc bT;have js:aQ (fun k=>k=m.ap) w2 (w2.setCell (aj m.ap 13) v2):=(aQ.refl _ _).setCell _ _ (fun _=>rfl);have gz:=cz.set 13 v2;rw[agk m v2 r] at gz;have er:m.s.ak.eraseIdx 0=r:=by rw[h0];rfl
 rw[er] at dP;have iY:(w2.setCell (aj m.ap 13) v2).ownsRow lo 9 1 v2 r.length (ck r):=js.own dP (fun k hk e=>bT (by rw[← Cv,hk,e]));have hl:∀ k,m.vv.ownBlock=some k→k<w.heap.size:=fun k hk=>(hR.lt k hk).2
 have hT:=fh.Y9 (m':={ m with vv:=v2,s:={ m.s with ak:=r } }) h hv (((aQ.aI (F:=fun k=>k=m.ap∨m.vv.ownBlock=some k) hb).same (hc.mono (fun k _ e=>Or.inr e))).same (js.mono (fun k _ e=>Or.inl e))) gz iY (fun k hk=>Or.inl (Cv ▸ hk)) rfl;refine⟨cz,⟨_,hT,fun k hk hK=>?_⟩,fun eb T xs he hx=>?_⟩
 ·rcases aL.bM.1 hK with e | e
  ·have:=aL.one.1 e
   have bC:=hB.lt;have:k=m.ap:=this;omega
  ·have:=hl k (Cv ▸ (be hT.rv).1 e)
   omega
 ·have bC:=hB.lt
  exact(hx.dW hc (fun e=>by have:=hl _ e;omega)).dW js (fun e=>by have:eb=m.ap:=e;omega)
theorem Li(h:cE lo w m.aF)(hv:du 1 m.vv m.s.ak.length (ck m.s.ak))(hE:mR w)(hn:m.s.name.size≤1000)(hg:m.s.aX≤1000000000000)(vH:m.s.ak.length≤m.s.aX)(v:ByteArray)(r:List ByteArray)(h0:m.s.ak=v::r):
  aT 127 #[aJ m.ap] w (fun e w'=>e=.returned (.agg #[vI 1,.string v,.string (jV m.s.name (m.s.aX-m.s.ak.length+1))])∧∃ m',E8 lo w m { m.s with ak:=r } w' m'):=by
 unfold aJ;obtain⟨w0,eM,aN,aD⟩:=cS w [vI 0,.string ⟨#[]⟩,.string ⟨#[]⟩] 134;have e0:=aD.ce 0 rfl;have Rj:=aD.aq 0;have e1:=aD.ce 1 rfl;have U3:=aD.aq 1;have e2:=aD.ce 2 rfl;have U4:=aD.aq 2;have hB:=fh.iz (h.below aN);have dP:=fh.row (h.below aN) hv;have hlen:m.s.ak.length=r.length+1:=by rw[h0];rfl
 obtain⟨ga,vc,pu,alI,alJ⟩:∃ ga c,m.vv=.slice (some (aj ga 0)) m.s.ak.length c∧ga<w0.heap.size∧w0.cell? (aj ga 0)=some (.string v):=by
  rcases dP.2 with⟨_,e⟩ | ⟨ga,c,cur,hv,rr⟩
  ·omega
  ·refine⟨ga,c,hv,(dP.lt ga (by rw[hv];rfl)).2,?_⟩
   have:=dP.cells (g:=ga) (by rw[hv];rfl) 0 (.string v) (by simp[ck,h0]);rw[dF _ _ rfl] at this;simpa using this
 have d12:=hB.ce 12 rfl;have d13:w0.cell? (aj m.ap 13)=some (.slice (some (aj ga 0)) m.s.ak.length vc):=(show w0.cell? (aj m.ap 13)=some m.vv from hB.cell 13).trans (by rw[pu]);have d3:=hB.ce 3 rfl;obtain⟨n,Cl⟩:∃ n,m.s.ak.length=n:=⟨_,rfl⟩
 rw[Cl] at d13 pu hlen vH;have n0:0<n:=by omega
 have alK:=U (show jV m.s.name (m.s.aX-m.s.ak.length+1)=jV m.s.name (m.s.aX-n+1) by rw[Cl]);have b1:((n:Int)==0)=false:=by rw[beq_eq_false_iff_ne];omega
 have b2:(0:Int)<(n:Int):=by omega
 have at2:(n:Int)≤(m.s.aX:Int):=by omega
 obtain⟨u,HU⟩:∃ u:Nat,Hid (u=m.s.aX-n+1):=⟨_,U rfl⟩
 have alL:=U (show ((m.s.aX:Int)-(n:Int)+1)=(u:Int) by have:=HU.o;omega);have Ck:=U (show ∀ w',Below w0.heap.size w0 w'→(w'.cell? (aj m.ap 13)=some (.slice (some (aj ga 0)) n vc)∧w'.cell? (aj ga 0)=some (.string v)∧w'.cell? (aj m.ap 3)=some (.string m.s.name)) from fun w' kW=>⟨(kW.cell (p:=(aj m.ap 13)) hB.lt).trans d13,(kW.cell (p:=(aj ga 0)) alI).trans alJ,(kW.cell (p:=(aj m.ap 3)) hB.lt).trans d3⟩);have hub:u<18446744073709551616:=by have:=HU.o;omega
 have VO:=U (show m.s.ak.length=n from Cl);have HH:=U h;have HV:=U hv;have qA:=U pu;have HE:=U (hE.below aN);have Hb:=U aN;have ii:=U aD;have HL0:=U h0;have at3:=aD.lt;have at4:=U hlen;clear Cl;clear h hv pu hE hB dP aN aD h0 hlen
 go_enter func127,ntmps127
 go_wp2_with fail
 go_quiet (fail)
 rw[alL.o];obtain⟨wq,hwq⟩:∃ wq,w0.drewN nq=wq:=⟨_,rfl⟩
 have VB:=below_drewN (Below.refl w0.heap.size w0) nq;rw[hwq] at VB ⊢;have HbQ:=U VB;have HEQ:=U (HE.o.below (VB.drew));have Hwq:=U VB.size;have HCl:=U (Di m.s.name u);clear VB hwq
 go_upto_region 4 with fail
 go_cut [4] (fun s4 wx=>∃ eb:Nat,s4=aM eb∧Hid (Below w0.heap.size w0 wx)∧Hid (w0.heap.size≤eb)∧Hid (aZ wx eb 134 [vI 1,.string v,.string (jV m.s.name u)]))
 case first=>
  have HEZ:=U (HE.o.below (kY HbQ.o.drew (.cells #[vI 0,.string ⟨#[]⟩,.string ⟨#[]⟩] 134)));have HbZ:=U (kY HbQ.o.drew (.cells #[vI 0,.string ⟨#[]⟩,.string ⟨#[]⟩] 134))
  go_region_held3 (fun w'=>w'.cell? (aj m.ap 13)=some (.slice (some (aj ga 0)) n vc)∧w'.cell? (aj ga 0)=some (.string v)∧w'.cell? (aj m.ap 3)=some (.string m.s.name))
   (exact Ck.o _ (by repeat (first | with_reducible assumption | with_reducible exact iV.o | with_reducible exact HbQ.o | with_reducible exact Below.refl _ _ | with_reducible apply Below.drew | with_reducible apply kY | with_reducible refine nY ?_ Hwq.o _ _ _)))
   (first | (go_at_call 79;refine(oL m.s.name u hub wq.drew HEQ.o hn).mono ?_;rintro e w1 ⟨rfl,aA⟩;have HX:=U aA;have iV:=U (HbQ.o.drew.trans (aA.mono HbQ.o.size));clear aA) | (go_at_call 79;refine(oL m.s.name u hub (wq.drew.alloc (.cells #[vI 0,.string ⟨#[]⟩,.string ⟨#[]⟩] 134)) HEZ.o hn).mono ?_;rintro e w1 ⟨rfl,aA⟩;have HX:=U aA;have DG:aZ w1 wq.heap.size 134 [vI 0,.string ⟨#[]⟩,.string ⟨#[]⟩]:=aZ.below (w:=wq.drew.alloc (.cells #[vI 0,.string ⟨#[]⟩,.string ⟨#[]⟩] 134)) (heap_alloc_new wq.drew _) aA;have z0:w1.cell? (aj wq.heap.size 0)=some (vI 0):=DG.cell 0;have z1:w1.cell? (aj wq.heap.size 1)=some (.string ⟨#[]⟩):=DG.cell 1;have z2:w1.cell? (aj wq.heap.size 2)=some (.string ⟨#[]⟩):=DG.cell 2;have y0:=DG.aq 0;have y1:=DG.aq 1;have y2:=DG.aq 2;have iV:=U (HbZ.o.trans (aA.mono HbZ.o.size));clear aA))
  all_goals
   go_wp2_with fail
   go_meet
   case rel=>
    first
    | exact⟨w1.heap.size,rfl,U (kY iV.o _),U iV.o.size,U (heap_alloc_new w1 _)⟩
    | exact⟨wq.heap.size,rfl,U (nY iV.o Hwq.o _ _ _),U Hwq.o,U (oV (show aZ w1 wq.heap.size 134 [vI 0,.string ⟨#[]⟩,.string ⟨#[]⟩] from aZ.below (w:=wq.drew.alloc (.cells #[vI 0,.string ⟨#[]⟩,.string ⟨#[]⟩] 134)) (heap_alloc_new wq.drew _) HX.o) _ _ _)⟩
 case rest=>
  obtain⟨eb,rfl,HbC,Heb,OO⟩:=hcut;have sI:=Hb.o.trans (HbC.o.mono Hb.o.size);have VE:=U sI;have hBm:=fh.iz (HH.o.below sI);have k13:wc.cell? (aj m.ap 13)=some (.slice (some (aj ga 0)) n vc):=(show wc.cell? (aj m.ap 13)=some m.vv from hBm.cell 13).trans (by rw[qA.o]);have ZV:=U (show wc.ownsRow lo 9 1 (.slice (some (aj ga 0)) n vc) m.s.ak.length (m.s.ak.map Value.string) by rw[← qA.o];exact fh.row (HH.o.below sI) HV.o);have HRB:=U (ii.o.below HbC.o);clear sI hBm
  go_wp2_with fail
  refine(abb wc lo (.slice (some (aj ga 0)) n vc) m.s.ak 0 ZV.o (by have:=VO.o;omega)).mono ?_;rintro e w2 ⟨v2,rfl,qI,Cv,jO⟩;obtain⟨cz,⟨m',hT,hNK⟩,TA⟩:=fh.abk HH.o HV.o HL0.o VE.o qI (by rw[qA.o];exact Cv) (jO.mono (fun k _ hk=>by rw[qA.o];exact hk));obtain⟨a2,c2,rfl⟩:=ax qI;generalize (m.s.ak.eraseIdx 0).length=n2 at *;have j13:w2.cell? (aj m.ap 13)=some (.slice (some (aj ga 0)) n vc):=(show w2.cell? (aj m.ap 13)=some m.vv from cz.cell 13).trans (by rw[qA.o]);have i13:=cz.aq 13;have hEB:=TA eb _ _ (Nat.le_trans Hb.o.size Heb.o) OO.o;have WT:=TA w.heap.size _ _ (Nat.le_refl _) HRB.o;obtain⟨w3,iK⟩:∃ w3,w2.setCell (aj m.ap 13) (.slice a2 n2 c2)=w3:=⟨_,rfl⟩
  rw[iK] at hT hEB WT;have s0:=hEB.ce 0 rfl;have s1:=hEB.ce 1 rfl;have s2:=hEB.ce 2 rfl;have t0:=WT.ce 0 rfl;have t1:=WT.ce 1 rfl;have t2:=WT.ce 2 rfl;have q0:=WT.aq 0;have q1:=WT.aq 1;have q2:=WT.aq 2;have Cs:=U (jb _ _ _ _ _ (oV WT (vI 1) (.string v) (.string (jV m.s.name u))));have tq:=U (hT.WS (E9 w3 w.heap.size (vI 1) (.string v) (.string (jV m.s.name u))) (fun k hk=>by rw[hk];exact⟨Nat.le_refl _,hNK _ (Nat.le_refl _)⟩));have TC:=U (show jV m.s.name (m.s.aX-m.s.ak.length+1)=jV m.s.name u by rw[alK.o,HU.o]);clear cz hT hNK TA qI Cv jO hEB WT
  go_wp2_with fail
  (try simp only[Exit.inBlock,Exit.then])
  refine⟨rfl,.agg #[vI 1,.string v,.string (jV m.s.name u)],?_,by rw[TC.o],m',tq.o⟩;have:=Cs.o;simp[results,Tryz.results127,asAddr,this]
theorem agl(h:cE lo w m.aF):
  aT 235 #[aJ m.ap] w (fun e w'=>e=.returned (vI m.s.cut)∧Below w.heap.size w w'):=by
 unfold aJ;have hB:=fh.iz h;have d11:=hB.ce 11 rfl;have d12:=hB.ce 12 rfl;clear h hB
 by_cases hc:m.s.aX=m.s.start
 case' pos=>
  have b1:((m.s.aX:Int)==m.s.start)=true:=by simp[hc]
  have HE:=U (show m.s.cut=4 by unfold dQ.cut;rw[if_pos hc])
 case' neg=>
  have b1:((m.s.aX:Int)==m.s.start)=false:=by simp;omega
  have HE:=U (show m.s.cut=3 by unfold dQ.cut;rw[if_neg hc])
 all_goals
  clear hc;rw[HE.o]
  go_enter func235,ntmps235
  go_wp2_with fail
  go_quiet (fail)
  go_wp2_with fail
  go_ret
  exact⟨rfl,below_drewN (Below.refl _ _) _⟩
theorem DH{E:TypeId}(hu:Tryz.prog.underlying T=some (.pointer E))(w:World)(b:Nat):(binOp .neq T (aM b) (.pointer none)).run Tryz.prog w=.ok (.bool true) w:=by
 have h1:∀ d:Nat,(Op.equalIn (d+1) T (aM b) (.pointer none)).run Tryz.prog w=.ok false w:=fun d=>by simp[Op.equalIn,run_underlying hu]
 have h2:(Op.equal T (aM b) (.pointer none)).run Tryz.prog w=.ok false w:=h1 9999;simp[binOp,h2]
theorem agm(F e:Nat){f:dQ→dQ}{i:Nat}{mm:fh}(h:eH lo w g)(hS:yy g.st)(p:aS)(hp:p.number≤1000000000000)(hr:g.st.ew p=some i)(wY:g.ae[i]? = some mm)(hf:f mm.s=mm.s.finish e)(hF:(F=201∧e=2∧mm.s.aX=p.ai)∨(F=202∧e=mm.s.cut∧mm.s.aX<p.ai)):
  aT F #[aM g.b,lQ p] w (fun e w'=>e=.returned (.tuple #[])∧∃ g',fW lo w g ((g.st.kO p f).qb p) w' g'):=by
 obtain⟨w0,eM,aN,aD⟩:=eK w p;obtain⟨e0,e1,e2,e3,e4,e5⟩:=aD.c6;have yz:=U h.kf;have H:=U h;have Hb:=U aN;have HB:=U aD;have HR:=U hr;have WU:=U wY;have HFE:=U hf;have HF:=U (congrArg (fun c:CP=>c.qb p) (sw (f:=f) hr));have hq:∀ W,(binOp .neq 126 (aM mm.ap) (.pointer none)).run Tryz.prog W=.ok (.bool true) W:=fun W=>DH underlying126 W mm.ap
 clear h aD aN hr wY hf
 rcases hF with⟨rfl,rfl,hc⟩ | ⟨rfl,rfl,hc⟩
 case' inl=>have b1:((mm.s.aX:Int)==p.ai)=true:=by simp[hc]
 case' inr=>
  have b1:decide (mm.s.aX<p.ai)=true:=by simp[hc]
  have b2:mm.s.aX<p.ai:=hc
 all_goals
  clear hc
  first | go_enter func201,ntmps201 | go_enter func202,ntmps202
  go_wp2_with fail
  refine(E4 (H.o.below Hb.o) hS p).mono ?_;rintro e w1 ⟨hR,aA⟩
  obtain rfl:e=.returned (aM mm.ap):=by
   rcases hR with⟨hr,_⟩ | ⟨i',m',hr,hm,rfl⟩
   ·rw[HR.o] at hr;cases hr
   ·obtain rfl:i=i':=by rw[HR.o] at hr;exact Option.some.inj hr
    obtain rfl:mm=m':=by rw[WU.o] at hm;exact Option.some.inj hm
    rfl
  have aW:=Hb.o.trans (aA.mono Hb.o.size);have H1:=U (H.o.below aW);have kJ:=U (HB.o.below aA);have Dx:=U aW;obtain⟨r0,r1,r2,r3,r4,r5⟩:=kJ.o.c6;have wY:=List.getElem?_eq_some_iff.1 WU.o;have HM:=U (wY.2 ▸ H1.o.iO wY.1);have HV:=U (H.o.rv mm (List.mem_of_getElem? WU.o));have d12:=(fh.iz HM.o).ce 12 rfl;clear aA aW hR wY
  go_wp2_with fail
  go_quiet (fail)
  have HQ:=U (below_drewN (Below.refl w1.heap.size w1) nq)
  go_wp2_with fail
  first
   | (
     refine(agl (HM.o.below HQ.o)).mono ?_;rintro e wc ⟨rfl,hbc⟩;have Ew:=U (HQ.o.trans (hbc.mono HQ.o.size));clear hbc
     go_wp2_with fail)
   | have Ew:=HQ
  refine(Ih (HM.o.below Ew.o) _).mono ?_;rintro e w2 ⟨rfl,h1,h2⟩;obtain⟨g2,h3⟩:=(H1.o.below Ew.o).Lh (f:=f) WU.o (by rw[HFE.o];exact Ir HV.o h1 h2);have nG:=h3.ap (kJ.o.below Ew.o) yz.o;have gX:=U nG.1;have fI:g2.b=g.b:=h3.b;have H3:=U h3;have yo:=U (show yy g2.st by rw[h3.st];exact hS.ae i _);obtain⟨s0,s1,s2,s3,s4,s5⟩:=gX.o.c6;clear h1 h2 h3 nG
  go_wp2_with fail
  rw[← fI];refine(Y6 H3.o.dM yo.o p hp).mono ?_;rintro e w4 ⟨rfl,g4,h4⟩;have H4:=U (((H3.o.bz Ew.o).bz Dx.o).trans h4);clear h4;rw[fI]
  go_wp2_with fail
  go_end0
  exact⟨rfl,g4,by rw[HF.o,← H3.o.st];exact H4.o⟩
end Go.Proofs.YtkpfplbmmglkkaaGreatDoor
