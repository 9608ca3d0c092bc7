/- Package courierkeep: told, followed without memory. -/
import Derived.Test.YtkpfplbmmglkkaaGreatDoorV37
set_option linter.all false
set_option maxHeartbeats 4000000
set_option maxRecDepth 100000
namespace Go.Proofs.YtkpfplbmmglkkaaGreatDoor
open Go.Proofs.Tryz
variable {lo i n:Nat}{XC XS X Y:List PIV}{w:World}{g:WG}{p r p':WP}{pD:aS}
open Go.RowKit Go.Conc
theorem ahs(h:cH lo XC XS w g p)(hV:JS p)(i k:Nat)(v cu:ByteArray)(hT:p.lf i k v cu=some r):
  aT 62 #[aM g.b,vI i,.agg #[vI k,.string v,.string cu]] w (fun e w'=>e=.returned (.bool true)∧∃ g',dL lo XC XS w g r w' g'):=by
 unfold WP.lf at hT
 rcases Option.eq_none_or_eq_some p.ae[i]? with e | ⟨x,e⟩
 ·rw[e] at hT;cases hT
 ·rw[e] at hT
  simp only at hT;have hx:g.ae[i]? = some x:=by rw[h.dC];exact e
  have hl:g.ae.length≤90000:=by rw[h.dC];exact hV.sl
  obtain⟨hxt,RI,hxg⟩:=hV.st x (List.mem_of_getElem? e);have BM:(g.dO x.aG).length≤90000:=by rw[h.dO];exact hV.vl _ hxt
  have hR:g.R≤1000:=by rw[h.gR];exact hV.R
  split at hT
  ·rename_i hk
   subst hk
   split at hT
   ·rename_i ry
    obtain⟨rfl,rfl⟩:=ry;obtain rfl:=Option.some.inj hT;refine(acj h.bL i hx hl).mono ?_;rintro e w' ⟨rfl,hb⟩;exact⟨rfl,g,dL.refl h hb⟩
   ·cases hT
  ·rename_i BL
   split at hT
   ·cases hT
   ·rename_i hen
    have he:x.ended=0:=by omega
    split at hT
    ·rename_i RO
     subst RO
     split at hT
     ·rename_i ry
      obtain⟨h1,rfl⟩:=ry;obtain rfl:=Option.some.inj hT;refine(acw h.bL h.tab h.acv i hx hl he rfl hxt rfl BM (by rw[h.dO];exact h1)).mono ?_;rintro e w' ⟨rfl,g',hh⟩;rw[h.st,h.dC] at hh;exact⟨rfl,g',h.to hh⟩
     ·cases hT
    ·split at hT
     ·rename_i ry
      obtain⟨rfl,rfl,hc⟩:=ry;obtain rfl:=Option.some.inj hT;refine(acy h.bL i hx hl he rfl hxt rfl (by omega) BM hR k (by rw[h.Fm,h.dO,h.acu,h.dJ];exact hc)).mono ?_;rintro e w' ⟨rfl,g',hh⟩;rw[h.st,h.dC] at hh;exact⟨rfl,g',h.to hh⟩
     ·cases hT
theorem dL.ap{w':World}{g':WG}(h:dL lo XC XS w g p w' g'){b:Nat}{T:TypeId}{xs:List Value}(hB:aZ w b T xs)(hn:¬ aL g.aF b):aZ w' b T xs:=hB.dW h.grow.c hn
theorem aht(h:cH lo XC XS w g p)(hC:tC p.c)(i:Nat)(hi:i<p.c.bQ):
  aT 61 #[aM g.cb,vI i] w (fun e w'=>e=.returned (.tuple #[.agg #[.int .i64 (p.c.fU (i:Int)).2.1,.string (p.c.fU (i:Int)).2.2.1,.string (p.c.fU (i:Int)).2.2.2],vI 0])∧∃ g',dL lo XC XS w g { p with c:=(p.c.fU (i:Int)).1 } w' g'):=by
 have vQ:g.cg.ae.length≤400:=by
  have:=hC.sl;rw[← h.c] at this;simpa[CG.st] using this
 have Pb:(i:Int)<(g.cg.bQ:Int):=by
  have:g.cg.bQ=p.c.bQ:=congrArg CP.bQ h.c;omega
 have key:=abY (q:=(p.c.fU (i:Int)).1) h.bL.dM g.cb (h.bL.bB.cell 0) h.bL.bB.lt (i:Int) (p.c.fU (i:Int)).2.1 (p.c.fU (i:Int)).2.2.1 (p.c.fU (i:Int)).2.2.2 0 (fun w0 hb=>by
  have:=Xd (h.bL.dM.below hb) (h.sc.below hb).WQ vQ (fun s hs=>by
   rw[h.c] at hs;have:=hC.st s hs
   exact⟨this.nm,this.aX,this.vg,this.fn⟩) (i:Int) (by omega) Pb
  rw[h.c] at this
  exact this)
 refine key.mono ?_;rintro e w' ⟨rfl,tP,hc⟩;have hT:=h.bL.AU hc;rw[h.st] at hT;exact⟨rfl,_,h.to hT⟩
theorem Qf{k:Nat}{v cu:ByteArray}(h:p.lf i k v cu=some r):r.ae.length=p.ae.length∧(∀ t,r.cy t=p.cy t):=by
 unfold WP.lf at h
 rcases Option.eq_none_or_eq_some p.ae[i]? with e | ⟨x,e⟩
 ·rw[e] at h;cases h
 ·rw[e] at h
  simp only at h
  split at h
  ·split at h
   ·obtain rfl:=Option.some.inj h
    exact⟨rfl,fun _=>rfl⟩
   ·cases h
  ·split at h
   ·cases h
   ·split at h
    ·split at h
     ·obtain rfl:=Option.some.inj h
      exact⟨List.length_set,fun t=>(by match t with | 0=>rfl | 1=>rfl | _+2=>rfl)⟩
     ·cases h
    ·split at h
     ·obtain rfl:=Option.some.inj h
      exact⟨List.length_set,fun t=>(by match t with | 0=>rfl | 1=>rfl | _+2=>rfl)⟩
     ·cases h
theorem oZ(h:p.cD n i=some r):∃ (m:Nat) (p':WP),n=m+1∧tC p.c∧JS p∧i<p.c.bQ∧({ p with c:=(p.c.fU (i:Int)).1 }:WP).lf i (p.c.fU (i:Int)).2.1 (p.c.fU (i:Int)).2.2.1 (p.c.fU (i:Int)).2.2.2=some p'∧(((p.c.fU (i:Int)).2.1=0∧p'=r)∨((p.c.fU (i:Int)).2.1≠0∧p'.cD m i=some r)):=by
 cases n with
 | zero=>cases h
 | succ m=>
  rw[WP.cD] at h
  split at h
  ·rename_i hc
   split at h
   ·cases h
   ·rename_i p' hp
    obtain⟨jk,jO,js⟩:=uS.1 hc;refine⟨m,p',rfl,jk,jO,js,hp,?_⟩
    split at h
    ·rename_i h0
     exact Or.inl ⟨h0,Option.some.inj h⟩
    ·rename_i h0
     exact Or.inr ⟨h0,h⟩
  ·cases h
theorem I3:∀ {p r:WP} {i:Nat},p.cD n i=some r→r.ae.length=p.ae.length:=by
 induction n with
 | zero=>intro p r i h;cases h
 | succ n ih=>
  intro p r i h;obtain⟨m,p',hm,_,_,_,hT,hr⟩:=oZ h;obtain rfl:n=m:=by omega
  have:=(Qf hT).1
  rcases hr with⟨_,rfl⟩ | ⟨_,hr⟩
  ·exact this
  ·exact(ih hr).trans this
theorem wK:∀ (l:List Nat),bd (fun x i=>WP.cD (x.iH i) x i) p l=some r→r.ae.length=p.ae.length:=by
 intro l
 induction l generalizing p with
 | nil=>intro h;rw[eP] at h;cases h;rfl
 | cons a l ih=>
  intro h
  have e:bd (fun x i=>WP.cD (x.iH i) x i) p (a::l)=(WP.cD (p.iH a) p a).bind (fun x=>bd (fun x i=>WP.cD (x.iH i) x i) x l):=by
   have:=kA (fun x i=>WP.cD (x.iH i) x i) p [a] l;rw[show ([a]++l)=a::l from rfl] at this;rw[this];rfl
  rw[e] at h
  rcases Option.eq_none_or_eq_some (WP.cD (p.iH a) p a) with e2 | ⟨x,e2⟩
  ·rw[e2] at h;cases h
  ·rw[e2,Option.bind_some] at h
   exact(ih h).trans (I3 e2)
def XI(lo:Nat)(XC XS:List PIV)(w:World)(g:WG)(r:WP)(i:Nat)(m:Nat)(b:Bool)(wr:World):Prop:=∃ (pj:WP) (gj:WG),dL lo XC XS w g pj wr gj∧((b=true∧pj.cD m i=some r)∨(b=false∧pj=r))
theorem acA(h:cH lo XC XS w g p)(hV:p.ae.length≤90000)(hD:p.kD=some r):
  aT 37 #[aM g.b] w (fun e w'=>e=.returned (.bool true)∧∃ g',dL lo XC XS w g r w' g'):=by
 obtain⟨N,hN⟩:∃ N,p.ae.length=N:=⟨_,rfl⟩
 rw[hN] at hV;unfold WP.kD at hD;rw[hN] at hD;have HN:=U hN;have HD:=U hD;have H:=U h;clear h hD hN
 go_enter func37,ntmps37
 go_wp2_with fail
 go_loopg [3] N (fun gk i wr=>∃ (k:Nat) (pk:WP) (gg:WG),k+gk=N∧i=.int .i64 k∧Hid (bd (fun x i=>WP.cD (x.iH i) x i) p ((List.range N).take k)=some pk)∧Hid (dL lo XC XS w g pk wr gg))
 case atStart=>exact⟨0,p,g,by omega,rfl,U rfl,U (dL.refl H.o (Below.refl _ _))⟩
 case round=>
  obtain⟨k,pk,gg,hk,rfl,HF,HT⟩:=hrel;have HKK:=U hk;obtain⟨sa,sc,jU⟩:=HT.o.eY.bL.rt.slice;have hlen:gg.ae.length=N:=by rw[HT.o.eY.dC,wK _ HF.o,HN.o]
  have d16:wr.cell? (aj g.b 16)=some (.slice sa N sc):=by
   have:=HT.o.eY.bL.ap.cell 16;rw[HT.o.b] at this;exact this.trans (by show some gg.iP=_;rw[jU,hlen])
  by_cases bC:k<N
  ·obtain⟨pk2,gY,il⟩:=kB HD.o (k:=k) (a:=k) (by simp[bC]) HF.o
   obtain⟨x,hx⟩:∃ x,pk.ae[k]? = some x:=⟨_,List.getElem?_eq_getElem (by rw[wK _ HF.o,HN.o];exact bC)⟩
   obtain⟨m0,_,Vj,_,hVk,_⟩:=oZ gY;have hxt:=(hVk.st x (List.mem_of_getElem? hx)).1;obtain⟨nv,mB⟩:∃ nv,(pk.cy x.aG).length=nv:=⟨_,rfl⟩
   have ahu:nv≤90000:=by rw[← mB];exact hVk.vl _ hxt
   have hfu:pk.iH k=nv+3:=by unfold WP.iH;rw[hx];simp only;rw[mB]
   rw[hfu] at gY;obtain⟨ga,c,hv,aK⟩:=HT.o.eY.bL.iO (k:=k) (x:=x) (by rw[HT.o.eY.dC];exact hx);obtain⟨rfl,rfl⟩:sa=some (aj ga 0)∧sc=c:=by simpa using jU.symm.trans hv
   obtain⟨va,vc,pu,ry⟩:=HT.o.eY.bL.lO hxt;rw[HT.o.b,HT.o.eY.dO,mB] at ry;have c0:wr.cell? ⟨ga,k*5,none⟩=some (vI x.aG):=aK 0 _ rfl;have ej:(k:Int)<(N:Int):=by omega
   obtain⟨t,ht⟩:∃ t,x.aG=t:=⟨_,rfl⟩
   rw[ht] at c0 ry hxt;have ahp:(0:Int)≤(t:Int):=by omega
   have ahq:(t:Int)<3:=by omega
   have El:=U gY;have oG:=U il;clear gY il hv aK pu jU hx hVk Vj ht hfu mB hlen
   go_wp2_with fail
   go_cut [5] (fun s5 wx=>s5=.int .i64 ((nv:Int)+2)∧Hid (Below wr.heap.size wr wx))
   case first=>
    go_quiet (fail)
    go_wp2_with fail
    go_meet
    case rel=>exact⟨rfl,U (below_drewN (Below.refl _ _) _)⟩
   case rest=>
   obtain⟨rfl,NH⟩:=hcut;have HTc:=U (HT.o.below NH.o);clear NH d16 c0 ry
   go_wp2_with fail
   go_loopg [4,5] (nv+4) (fun gj gv nn wq=>∃ (b:Bool) (m:Nat),gv=.bool b∧nn=.int .i64 ((m:Int)-1)∧m≤nv+3∧(b=true→m+1=gj)∧(b=false→0≤gj)∧Hid (XI lo XC XS w g pk2 k m b wq))
   case atStart=>exact⟨true,nv+3,rfl,by go_num,by omega,fun _=>by omega,fun _=>by omega,U ⟨pk,gg,HTc.o,Or.inl ⟨rfl,El.o⟩⟩⟩
   case round=>
    obtain⟨b,m,rfl,rfl,hm,aA,aW,HP⟩:=hrel;obtain⟨pj,gj,hF,Zs⟩:=HP.o
    cases b with
    | true=>
     obtain⟨_,hdr⟩ | ⟨hx,_⟩:=Zs
     ·obtain⟨m2,p2,pY,hC,Ui,Pb,sK,sy⟩:=oZ hdr
      obtain⟨c2,kd,v,cu,hpo⟩:∃ c2 kd v cu,pj.c.fU (k:Int)=(c2,kd,v,cu):=⟨_,_,_,_,rfl⟩
      have En:=aht hF.eY hC k Pb;rw[hpo] at En sK sy;have GO:=U En;have QP:=U sK;have HRS:=U sy;have Rf:=U hF;have Zt:=U (show JS ({ pj with c:=c2 }:WP) from⟨Ui.sl,Ui.vl,Ui.st,Ui.W,Ui.R⟩)
      have d1:wr.cell? (aj g.b 1)=some (aM gj.cb):=by
       have:=hF.eY.bL.ap.cell 1;rw[hF.b] at this;exact this
      have hmI:m=m2+1:=pY;subst hmI;have nG:=aA rfl;clear hF hdr hC Ui Pb sK sy HP En hpo aA aW pY
      go_wp2_with fail
      refine GO.o.mono ?_;rintro e w5 ⟨rfl,g5,h5⟩;obtain⟨w6,qX,G2,JP⟩:=cS w5 [vI kd,.string v,.string cu] 134;have v0:=JP.ce 0 rfl;have v1:=JP.ce 1 rfl;have v2:=JP.ce 2 rfl;have HC7:=U (ahs (h5.eY.below G2) Zt.o k kd v cu QP.o);rw[h5.b,Rf.o.b] at HC7;have yz:=U h5.eY.bL.kf;have HB6:=U JP;have XJ:=U ((Rf.o.trans h5).below G2);clear h5 JP G2 d1
      go_wp2_with fail
      refine HC7.o.mono ?_;rintro e w7 ⟨rfl,g7,h7⟩;have u0:=(h7.ap HB6.o yz.o).ce 0 rfl;have DK:=U (XJ.o.trans h7);have hnn:¬ ((m2:Int)+1-1<0):=by omega
      have anc:¬ ((m2:Int)<0):=by omega
      have Nv:decide ((m2:Int)<0)=false:=decide_eq_false anc;clear h7 v0 v1 v2 hnn
      by_cases BL:kd=0
      ·have bk:((kd:Int) != 0)=false:=by simp[BL]
       have HEn:=U (show p2=pk2 by
        rcases HRS.o with⟨_,e⟩ | ⟨e,_⟩
        ·exact e
        ·exact absurd BL e)
       clear BL
       go_wp2_with fail
       go_roundg (gk-1)
       case rel=>exact⟨false,m2,rfl,by go_num,by omega,fun e=>(by cases e),fun _=>by omega,U ⟨p2,g7,DK.o,Or.inr ⟨rfl,HEn.o⟩⟩⟩
       case measure=>omega
      ·have bk:((kd:Int) != 0)=true:=by simp;omega
       have HEn:=U (show p2.cD m2 k=some pk2 by
        rcases HRS.o with⟨e,_⟩ | ⟨_,e⟩
        ·exact absurd e BL
        ·exact e)
       clear BL
       go_wp2_with fail
       go_roundg (gk-1)
       case rel=>exact⟨true,m2,rfl,by go_num,by omega,fun _=>by omega,fun _=>by omega,U ⟨p2,g7,DK.o,Or.inl ⟨rfl,HEn.o⟩⟩⟩
       case measure=>omega
     ·cases hx
    | false=>
     obtain⟨hx,_⟩ | ⟨_,rfl⟩:=Zs
     ·cases hx
     have yF:=U hF;clear hF HP aA aW
     go_wp2_with fail
     go_roundg (N-(k+1))
     case rel=>exact⟨k+1,pj,gj,by omega,by go_num,oG,yF⟩
     case measure=>have:=HKK.o;omega
  ·have ej:¬ (k:Int)<(N:Int):=by omega
   have HEq:=U (lT HD.o (by simp;omega) HF.o);clear jU hlen
   go_wp2_with fail
   go_ret
   exact⟨rfl,gg,by rw[← HEq.o];exact HT.o⟩
def cX:ByteArray:=ByteArray.mk #[109,101,115,115,97,103,101,32,112,111,105,110,116,32,123,32,49,32,120,32,105,110,116,32,50,32,121,32,105,110,116,32,53,32,116,97,103,32,111,112,116,32,116,101,120,116,32,55,32,109,111,114,101,32,108,105,115,116,32,112,111,105,110,116,32,125,32,101,110,117,109,32,99,111,108,111,114,32,123,32,114,101,100,32,103,114,101,101,110,32,125,32,115,116,114,101,97,109,32,116,105,99,107,115,32,105,110,116,32,115,116,114,101,97,109,32,109,97,114,107,115,32,112,111,105,110,116,32,115,116,114,101,97,109,32,104,117,101,115,32,99,111,108,111,114,32,99,97,108,108,32,97,100,100,32,112,111,105,110,116,32,105,110,116,32,99,97,108,108,32,110,97,109,101,32,105,110,116,32,116,101,120,116]
theorem szK:cX.size≤400:=of_decide_eq_true (by kernel_rfl)
def yG:List PItem:=((parseP cX).1).getD []
theorem rz(h:(parseP cX).1=some (X.map (fun x=>x.it))):X.map (fun x=>x.it)=yG:=by unfold yG;rw[h];rfl
def XK:List PIV:=yG.map (fun it=>⟨it,.slice none 0 0,.slice none 0 0⟩)
theorem LL:XK.map (fun x=>x.it)=yG:=by unfold XK;rw[List.map_map];exact List.map_id' _
theorem tE(h:X.map (fun x=>x.it)=Y.map (fun x=>x.it))(n:List UInt8):pFindI X n=pFindI Y n:=by
 have e:∀ Z:List PIV,Z.findIdx? (fun x=>pMatchB n x.it)=(Z.map (fun x=>x.it)).findIdx? (pMatchB n):=fun Z=>by rw[List.findIdx?_map];rfl
 unfold pFindI;rw[e X,e Y,h]
theorem Bc(h:X.map (fun x=>x.it)=Y.map (fun x=>x.it))(b:ByteArray):hasB X b=hasB Y b:=by unfold hasB;rw[tE h]
theorem LM(h:X.map (fun x=>x.it)=Y.map (fun x=>x.it)){k:Nat}{x:PIV}(hx:X[k]? = some x):∃ y,Y[k]? = some y∧y.it=x.it:=by
 have e:(X.map (fun x=>x.it))[k]? = (Y.map (fun x=>x.it))[k]?:=by rw[h]
 rw[List.getElem?_map,List.getElem?_map,hx] at e
 cases hy:Y[k]? with
 | none=>rw[hy] at e;cases e
 | some y=>rw[hy] at e;exact⟨y,rfl,(Option.some.inj e).symm⟩
theorem NI(h:X.map (fun x=>x.it)=Y.map (fun x=>x.it)):nJ X=nJ Y:=by
 funext b
 unfold nJ;rw[tE h]
 cases hx:X[(pFindI Y b).toNat]? with
 | none=>
  cases hy:Y[(pFindI Y b).toNat]? with
  | none=>rfl
  | some y=>
   obtain⟨x,JT,_⟩:=LM h.symm hy;rw[hx] at JT;cases JT
 | some x=>
  obtain⟨y,hy,e⟩:=LM h hx;rw[hy];simp only[e]
theorem Uj(h:X.map (fun x=>x.it)=Y.map (fun x=>x.it))(ts:List PTok):unkP X ts=unkP Y ts:=by
 unfold unkP unkB;simp only[Bc h]
def Bd(x:PIV):Bool:=(repP [x.it.fields.map fname]).isEmpty&&(repP [x.it.names]).isEmpty&&(sunkP x.it.fields (x.it.fields.length-1)).isEmpty&&(unkP XK (oH x.it)).isEmpty&&x.it.fields.all (fun f=>!decide (f.shape=0)||decide (pFindI XK f.base.toList<0))
def Uk:Bool:=(parseP cX).1.isSome&&(repP [tyNames XK,otNames XK]).isEmpty&&XK.all Bd
theorem Ul:Uk=true:=by kernel_rfl
theorem DO(h:X.map (fun x=>x.it)=Y.map (fun x=>x.it)):tyNames X=tyNames Y∧otNames X=otNames Y:=by
 have e:∀ (Z:List PIV) (f:PItem→Bool),(Z.filter (fun x=>f x.it)).map (fun x=>x.it.name)=((Z.map (fun x=>x.it)).filter f).map (fun i=>i.name):=fun Z f=>by rw[List.filter_map,List.map_map];rfl
 unfold tyNames otNames;rw[e X (fun i=>pTypeB i.kind),e Y (fun i=>pTypeB i.kind),e X (fun i=>!pTypeB i.kind),e Y (fun i=>!pTypeB i.kind),h];exact⟨rfl,rfl⟩
theorem anf(h:X.map (fun x=>x.it)=yG):∀ a,¬ PF X a:=fun a hF=>by
 have hX:X.map (fun x=>x.it)=XK.map (fun x=>x.it):=h.trans LL.symm;have hk:=Ul;unfold Uk at hk;simp only[Bool.and_eq_true,List.isEmpty_iff,List.all_eq_true] at hk;obtain⟨⟨_,h1⟩,h2⟩:=hk
 have D7:∀ (i:Nat) (x:PIV),X[i]? = some x→Bd x=true:=fun i x hx=>by
  obtain⟨y,hy,e⟩:=LM hX hx;have:=h2 y (List.mem_of_getElem? hy);unfold Bd at this ⊢;rw[e] at this;exact this
 have Um:∀ i j,¬ Edge X i j:=fun i j hE=>by
  obtain⟨x,f,hx,hf,hs,hj⟩:=hE;have:=D7 i x hx;unfold Bd at this;simp only[Bool.and_eq_true,List.all_eq_true,Bool.or_eq_true,Bool.not_eq_true',decide_eq_false_iff_not,decide_eq_true_eq] at this
  rcases this.2 f hf with e | e
  ·exact e hs
  ·rw[← tE hX,hj] at e
   omega
 rcases hF with hF | ⟨i,x,hx,hF⟩
 ·rw[(DO hX).1,(DO hX).2,h1] at hF
  cases hF
 ·have:=D7 i x hx
  unfold Bd at this;simp only[Bool.and_eq_true,List.isEmpty_iff] at this;obtain⟨⟨⟨⟨a1,a2⟩,a3⟩,a4⟩,_⟩:=this
  rcases hF with hF | hF | hF | hF | ⟨_,hF,_⟩
  ·rw[a1] at hF;cases hF
  ·rw[a2] at hF;cases hF
  ·rw[a3] at hF;cases hF
  ·rw[Uj hX,a4] at hF;cases hF
  ·obtain ⟨n,hn⟩:=hF
   cases n with
   | zero => exact Um _ _ hn
   | succ n => obtain ⟨j,e,_⟩:=hn; exact Um _ _ e
theorem ahw{E P:Int}(h:cC cX E P):E=0:=by
 have hk:=Ul;unfold Uk at hk;simp only[Bool.and_eq_true] at hk
 rcases h with⟨h,_⟩ | ⟨_,⟨h,_⟩ | ⟨X,hX,⟨m,hm,_⟩ | ⟨_,e,_⟩⟩⟩
 ·have:=szK;omega
 ·rw[h] at hk;cases hk.1.1
 ·exact absurd hm (anf (rz hX) m)
 ·exact e
def Un:Bool:=yG.all (fun i=>decide (i.fields.Pairwise (fun f g=>f.number<g.number))&&decide (i.fields.Pairwise (fun f g=>f.name.toList≠g.name.toList)))
theorem XL:Un=true:=by kernel_rfl
theorem Fx(h:(parseP cX).1=some (X.map (fun x=>x.it))):DE X:=fun x hx=>by
 have h1:x.it∈yG:=by rw[← rz h];exact List.mem_map.2 ⟨x,hx,rfl⟩
 have h2:=List.all_eq_true.1 (show Un=true from XL) x.it h1;simp only[Bool.and_eq_true,decide_eq_true_eq] at h2;exact h2
theorem XM(h:(parseP cX).1=some (X.map (fun x=>x.it))){base v:ByteArray}{p:List UInt8}(hb:hasB XK base=true)(hv:v.size≤390)(hp:(jp XK 6).1 base.toList v.toList=some (p,[]))(hl:p.length≤64):∀ E d',M3 X base v E d'→E=0∧d'=p:=fun E d' hA=>by
 have hX:X.map (fun x=>x.it)=XK.map (fun x=>x.it):=(rz h).trans LL.symm
 have LN:(jp X 6).1 base.toList v.toList=some (p,[]):=by
  show (RV mj eX (nJ X) 6).1 base.toList v.toList=_;rw[NI hX];exact hp
 rcases hA with⟨_,_,hn⟩ | ⟨_,hA⟩
 ·rw[Bc hX,hb] at hn;cases hn
 ·rcases hA with⟨h4,_⟩ | ⟨_,⟨nH,_⟩ | ⟨x,hx,hA⟩⟩
  ·omega
  ·exact absurd LN (nH p)
  ·rw[LN] at hx
   obtain rfl:p=x:=by simpa using hx
   rcases hA with⟨h,_⟩ | ⟨_,e1,e2⟩
   ·omega
   ·exact⟨e1,e2⟩
theorem XN(h:(parseP cX).1=some (X.map (fun x=>x.it))){base v:ByteArray}{d:List UInt8}(hb:hasB XK base=true)(hv:v.size≤390)(hd:d.length≤64)(hp:(kX XK 6).1 base.toList d=some v.data.toList):dY X base d=some v:=by
 have hX:X.map (fun x=>x.it)=XK.map (fun x=>x.it):=(rz h).trans LL.symm
 have hu':(kX X 6).1 base.toList d=some v.data.toList:=by
  show (SE (nJ X) 6).1 base.toList d=_;rw[NI hX];exact hp
 unfold dY;rw[if_pos ⟨by rw[Bc hX];exact hb,hd⟩,hu'];simp only;rw[if_pos (by have:v.data.toList.length=v.size:=rfl;omega)]
theorem XO(h:cH lo XC XS w g p)(hW8:p.W≤1000)(ask:SP.jX)(pD:aS)(hG:p.dq ask pD=some p')(fa:Addr)(fc:Nat)(FB:List UInt8)(Qg:FB=cd eQ (bO pD))(hr:Rd w (.slice (some fa) FB.length fc) FB):
  aT 59 #[aM g.b,vI 1,.agg #[vI g.lG,.slice (some fa) FB.length fc],vI 0] w (fun e w'=>e=.returned (.bool true)∧∃ g',dL lo XC XS w g p' w' g'):=by
 unfold WP.dq at hG
 split at hG
 ·rename_i rh
  have hB:=IZ.1 rh;obtain rfl:=Option.some.inj hG;obtain⟨bX,ov,hdz,ol⟩:=Fv hB.pm
  have YB:pD.ai≤1000000:=by
   have:=hB.pm;unfold pW at this;simp only[Bool.and_eq_true,decide_eq_true_eq] at this;omega
  have hAC:g.lG=g.lS:=by rw[h.gC,h.gS];exact hB.at_
  have hlen:FB.length=(bO pD).length+5:=by rw[Qg];exact sE tY _
  have ux:=sR pD;have jt:∀ s,g.sg.aY=some s→s.ah=pD.ah:=fun s hs=>hB.tk s.o (by rw[← h.s];exact ahn hs)
  have eW:g.sg.W=p.W:=h.bL.rV.1.trans h.gW;have hWb:g.sg.W≤1000:=by rw[eW];exact hW8
  have hSs:SSm g.sg.st:=by rw[h.s];exact hB.ok.sm
  have hAs:∀ o,g.sg.st.aY=some o→o.aC.length≤1000:=fun o ho=>hB.ok.an o (by rw[← h.s];exact ho)
  have sK:g.sg.au.length≤400:=by
   have:=hB.ok.tl;rw[← h.s] at this;simpa[SG.st] using this
  rw[hAC];refine(ab0 h.bL h.hl pD (g.sg.st.take ask g.sg.W pD) fa fc FB hr (by omega) (fun w2 a c hb cz=>?_)).mono ?_
  ·refine AA (h.bL.cN.below hb) pD bX (by omega) g.lS (by rw[h.s,h.gS];exact hB.up) a c FB cz.rd (by omega) (Lv cz) (by rw[Qg];exact tW tY _ (ox.2 ⟨ux,ov⟩)) (fun w3 bP=>?_)
   have Q6:=(h.bL.cN.below hb).below bP;have FM:lo≤w3.heap.size:=Nat.le_trans h.hl (Nat.le_trans hb.size bP.size);have iD:=hB.kd;rw[← h.s] at iD;unfold IX at iD;obtain⟨kd,tk,ss,nb,ps,dt⟩:=pD;have rP:nb≤1000000000000:=by have:nb≤1000000:=ol;omega
   have ahx:ps≤1000000000000:=by have:ps≤1000000:=YB;omega
   have hF:=SG.PT hSs.toSSp
   rcases Option.eq_none_or_eq_some g.sg.aY with hs | ⟨s,hs⟩
   ·rw[SG.IB hs] at iD
    have Zu:g.sg.fj.aY=none:=by rw[SG.tu hs];exact hs
    have Va:kd≤2:=of_decide_eq_true iD;rw[SG.uP _ _ _ (show kd≤5 by omega)]
    rcases(show kd=0∨kd=1∨kd=2 by omega) with rfl | rfl | rfl
    ·exact tz 0 206 0 (by simp) Q6 tk ss nb ps dt jt (fun w2 h2=>abG (g:=g.sg.fj) h2.cN (Nat.le_trans FM h2.grow.c.size) hSs.nn.1 ⟨0,tk,ss,nb,ps,dt⟩ Zu)
    ·exact tz 1 207 1 (by simp) Q6 tk ss nb ps dt jt (fun w2 h2=>Xa (g:=g.sg.fj) h2.cN ⟨1,tk,ss,nb,ps,dt⟩ Zu)
    ·exact tz 2 208 2 (by simp) Q6 tk ss nb ps dt jt (fun w2 h2=>ab7 (g:=g.sg.fj) h2.cN ⟨2,tk,ss,nb,ps,dt⟩ sK Zu)
   ·rw[SG.tO hs] at iD
    simp only[Bool.and_eq_true,decide_eq_true_eq,Bool.or_eq_true] at iD;obtain⟨hn,iD⟩:=iD;have Zu:g.sg.fj.aY=some { s with silence:=0 }:=by rw[SG.tw hs]
    have ht:=jt s hs
    rcases iD with rfl | ⟨hc,iD⟩
    ·rw[SG.uP _ _ _ (show 1≤5 by omega)]
     exact tz 1 207 1 (by simp) Q6 tk ss nb ps dt jt (fun w2 h2=>TU (g:=g.sg.fj) h2.cN ⟨1,tk,ss,nb,ps,dt⟩ hF hWb Zu ht hn)
    ·by_cases e2:kd=2
     ·subst e2
      rw[SG.uP _ _ _ (show 2≤5 by omega)];exact tz 2 208 2 (by simp) Q6 tk ss nb ps dt jt (fun w2 h2=>Xq (g:=g.sg.fj) h2.cN (Nat.le_trans FM h2.grow.c.size) ⟨2,tk,ss,nb,ps,dt⟩ hF hWb sK rP ahx Zu ht hn hc (of_decide_eq_true iD))
     ·rw[if_neg e2] at iD
      by_cases e4:kd=4
      ·subst e4
       rw[SG.uP _ _ _ (show 4≤5 by omega)];refine tz 4 210 4 (by simp) Q6 tk ss nb ps dt jt (fun w2 h2=>amn (g:=g.sg.fj) h2.cN ⟨4,tk,ss,nb,ps,dt⟩ hF hWb Zu ht hn hc ?_ ahx);rw[if_pos rfl] at iD;unfold ack at iD
       split at iD
       ·cases iD
       ·rename_i i hi
        split at iD
        ·cases iD
        ·rename_i f hf
         exact⟨i,f,hi,hf,of_decide_eq_true iD⟩
      ·rw[if_neg e4] at iD
       obtain rfl:kd=5:=of_decide_eq_true iD;rw[SG.uP _ _ _ (show 5≤5 by omega)];have hl:=(hSs.toSSp.ln s.o (SG.tO hs)).1;exact tz 5 211 5 (by simp) Q6 tk ss nb ps dt jt (fun w2 h2=>agN (g:=g.sg.fj) h2.cN ⟨5,tk,ss,nb,ps,dt⟩ Zu ht hn hc (by simpa[cZ.o] using hl) (hAs s.o (SG.tO hs)))
  ·rintro e w' ⟨rfl,g',hh⟩
   rw[h.st,h.s,eW] at hh;exact⟨rfl,g',h.to hh⟩
 ·cases hG
theorem XP(h:cH lo XC XS w g p)(pD:aS)(hG:p.cF (dY XC) pD=some p')(fa:Addr)(fc:Nat)(FB:List UInt8)(Qg:FB=cd eQ (bO pD))(hr:Rd w (.slice (some fa) FB.length fc) FB):
  aT 59 #[aM g.b,vI 0,.agg #[vI g.lS,.slice (some fa) FB.length fc],vI 0] w (fun e w'=>e=.returned (.bool true)∧∃ g',dL lo XC XS w g p' w' g'):=by
 unfold WP.cF at hG
 split at hG
 ·rename_i rh
  have hB:=I0.1 rh;obtain rfl:=Option.some.inj hG;obtain⟨bX,ov,hdz,ol⟩:=Fv hB.pm;have hAC:g.lS=g.lG:=by rw[h.gC,h.gS];exact hB.at_.symm
  have hlen:FB.length=(bO pD).length+5:=by rw[Qg];exact sE tY _
  have ux:=sR pD;have eR:g.cg.R=p.R:=h.bL.wH.2.2.trans h.gR;rw[hAC];refine(ab2 h.bL h.hl pD (g.cg.st.take (dY XC) g.cg.R pD) fa fc FB hr (by omega) (fun w2 a c hb cz=>?_)).mono ?_
  ·have rQ:yy g.cg.st:=by rw[h.c];exact hB.ok.sm
   have fy:∀ s∈g.cg.st.ae,s.aX≤1000000000000∧s.ak.length≤1000:=fun s hs=>by
    rw[h.c] at hs;have:=hB.ok.st s hs;exact⟨this.aX,this.vl⟩
   refine PS (h.bL.dM.below hb) pD bX (by omega) g.lG (by rw[h.c,h.gC];exact hB.up) a c FB cz.rd (by omega) (Lv cz) (by rw[Qg];exact tW tY _ (ox.2 ⟨ux,ov⟩)) (fun w3 bP=>?_);have Uo:=(h.bL.dM.below hb).below bP;have FM:lo≤w3.heap.size:=Nat.le_trans h.hl (Nat.le_trans hb.size bP.size);have rT:=(h.sc.below hb).below bP;obtain⟨pl,hi⟩:=rT.i;obtain⟨la,lc,PQ⟩:∃ a c,g.cg.iv=.slice a XC.length c:=ax hi.own
   rw[PQ] at rT;have iD:=hB.kd;rw[← h.c,← eR] at iD;unfold Ud at iD;obtain⟨kd,tk,ss,nb,ps,dt⟩:=pD;have rP:nb≤1000000000000:=by have:nb≤1000000:=ol;omega
   have ani:dt.size≤1000:=by have:dt.size≤79:=hdz;omega
   have K6:=rQ.abI;simp only at iD
   split at iD
   ·rename_i e
    subst e;exact wE 6 198 6 (by simp) Uo FM _ rT tk ss nb ps dt _ (fun w2 h2 _ _=>To h2 K6 ⟨6,tk,ss,nb,ps,dt⟩ (of_decide_eq_true iD))
   split at iD
   ·rename_i e
    subst e;exact wE 7 199 7 (by simp) Uo FM _ rT tk ss nb ps dt _ (fun w2 h2 _ _=>aa7 h2 K6 ⟨7,tk,ss,nb,ps,dt⟩)
   split at iD
   ·rename_i e
    subst e;obtain⟨i,m,hr,hm,hf⟩:=LH iD;exact wE 8 200 8 (by simp) Uo FM _ rT tk ss nb ps dt _ (fun w2 h2 hl hs=>agC h2 K6 hl la _ lc PQ hs fy ⟨8,tk,ss,nb,ps,dt⟩ rP ani hr hm (of_decide_eq_true hf))
   split at iD
   ·rename_i e
    subst e;obtain⟨i,m,hr,hm,hf⟩:=LH iD;have hf:=of_decide_eq_true hf;exact wE 9 201 9 (by simp) Uo FM _ rT tk ss nb ps dt _ (fun w2 h2 _ _=>agm 201 2 (f:=fun s=>if s.aX=ps then s.finish 2 else s) h2 K6 ⟨9,tk,ss,nb,ps,dt⟩ rP hr hm (if_pos hf) (.inl ⟨rfl,rfl,hf⟩))
   split at iD
   ·rename_i e
    subst e;obtain⟨i,m,hr,hm,hf⟩:=LH iD;have hf:=of_decide_eq_true hf;exact wE 10 202 10 (by simp) Uo FM _ rT tk ss nb ps dt _ (fun w2 h2 _ _=>agm 202 m.s.cut (f:=fun s=>if s.aX<ps then s.finish s.cut else s) h2 K6 ⟨10,tk,ss,nb,ps,dt⟩ rP hr hm (if_pos hf) (.inr ⟨rfl,rfl,hf⟩))
   ·simp only[Bool.and_eq_true,decide_eq_true_eq] at iD
    obtain⟨rfl,ho⟩:=iD;exact wE 13 205 13 (by simp) Uo FM _ rT tk ss nb ps dt _ (fun w2 h2 hl _=>Tn h2 hl K6 ⟨13,tk,ss,nb,ps,dt⟩ ho)
  ·rintro e w' ⟨rfl,g',hh⟩
   rw[h.st,h.c,eR] at hh;exact⟨rfl,g',h.to hh⟩
 ·cases hG
theorem WP.LO{ask:SP.jX}(h:p.dq ask pD=some p'):p'.W=p.W:=by
 unfold WP.dq at h
 split at h
 ·cases h;rfl
 ·cases h
theorem WP.LP{bp:vh}(h:p.cF bp pD=some p'):p'.W=p.W:=by
 unfold WP.cF at h
 split at h
 ·cases h;rfl
 ·cases h
theorem CG.acC(g:CG)(L:List aS)(k:Nat)(h:aL ({ g with L:=L }:CG).aF k):aL g.aF k:=by
 unfold CG.aF at h ⊢
 rcases aL.bM.1 h with h | h
 ·exact aL.bM.2 (Or.inl h)
 ·rcases aL.bM.1 h with h | h
  ·refine aL.bM.2 (Or.inr (aL.bM.2 (Or.inl ?_)))
   unfold CG.bq at h ⊢
   rcases aL.bM.1 h with h | h
   ·exact aL.bM.2 (Or.inl ((aL.one (a:=pN g.q g.L)).2 (show k=g.q from(aL.one (a:=pN g.q L)).1 h)))
   ·exact aL.bM.2 (Or.inr ((aL.one (a:=j9 g.m g.L)).2 (show k=g.m from(aL.one (a:=j9 g.m L)).1 h)))
  ·exact aL.bM.2 (Or.inr (aL.bM.2 (Or.inr h)))
theorem SG.acC(g:SG)(L:List aS)(k:Nat)(h:aL ({ g with L:=L }:SG).aF k):aL g.aF k:=by
 unfold SG.aF at h ⊢
 rcases aL.bM.1 h with h | h
 ·exact aL.bM.2 (Or.inl h)
 ·rcases aL.bM.1 h with h | h
  ·refine aL.bM.2 (Or.inr (aL.bM.2 (Or.inl ?_)))
   unfold SG.bq at h ⊢
   rcases aL.bM.1 h with h | h
   ·exact aL.bM.2 (Or.inl ((aL.one (a:=pN g.q g.L)).2 (show k=g.q from(aL.one (a:=pN g.q L)).1 h)))
   ·exact aL.bM.2 (Or.inr ((aL.one (a:=j9 g.m g.L)).2 (show k=g.m from(aL.one (a:=j9 g.m L)).1 h)))
  ·exact aL.bM.2 (Or.inr (aL.bM.2 (Or.inr h)))
theorem WG.anj(g:WG)(k:Nat)(h:aL ({ g with cg:={ g.cg with L:=[] } }:WG).aF k):aL g.aF k:=by
 have h:aL (g.k9++(g.cT++(g.bB++(g.sg.aF++(({ g.cg with L:=[] }:CG).aF++g.rest))))) k:=h;unfold WG.aF;simp only[aL.bM] at h ⊢
 rcases h with h | h | h | h | h | h
 ·exact Or.inl h
 ·exact Or.inr (Or.inl h)
 ·exact Or.inr (Or.inr (Or.inl h))
 ·exact Or.inr (Or.inr (Or.inr (Or.inl h)))
 ·exact Or.inr (Or.inr (Or.inr (Or.inr (Or.inl (CG.acC _ _ _ h)))))
 ·exact Or.inr (Or.inr (Or.inr (Or.inr (Or.inr h))))
theorem WG.ank(g:WG)(k:Nat)(h:aL ({ g with sg:={ g.sg with L:=[] } }:WG).aF k):aL g.aF k:=by
 have h:aL (g.k9++(g.cT++(g.bB++(({ g.sg with L:=[] }:SG).aF++(g.cg.aF++g.rest))))) k:=h;unfold WG.aF;simp only[aL.bM] at h ⊢
 rcases h with h | h | h | h | h | h
 ·exact Or.inl h
 ·exact Or.inr (Or.inl h)
 ·exact Or.inr (Or.inr (Or.inl h))
 ·exact Or.inr (Or.inr (Or.inr (Or.inl (SG.acC _ _ _ h))))
 ·exact Or.inr (Or.inr (Or.inr (Or.inr (Or.inl h))))
 ·exact Or.inr (Or.inr (Or.inr (Or.inr (Or.inr h))))
end Go.Proofs.YtkpfplbmmglkkaaGreatDoor
