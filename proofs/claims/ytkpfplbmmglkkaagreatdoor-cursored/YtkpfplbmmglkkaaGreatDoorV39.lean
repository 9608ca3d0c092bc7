/- Package courierkeep: exchange for streams, followed without memory. -/
import Derived.Test.YtkpfplbmmglkkaaGreatDoorV38
set_option linter.all false
set_option maxHeartbeats 4000000
set_option maxRecDepth 100000
namespace Go.Proofs.YtkpfplbmmglkkaaGreatDoor
open Go.Proofs.Tryz
variable {ask:SP.jX}{bp:vh}{lo:Nat}{XC XS:List PIV}{w:World}{g:WG}{p p' r:WP}
open Go.RowKit Go.Conc
theorem eE{α β:Type}{f:β → α → Option β}(P:β → Prop)(hs:∀ x a y,P x→f x a=some y→P y):∀ (l:List α) {w r:β},P w→bd f w l=some r→P r
 | [],w,r,h0,h=>by rw[eP] at h;rw[← Option.some.inj h];exact h0
 | a::l,w,r,h0,h=>by
  have e:bd f w (a::l)=(f w a).bind (fun x=>bd f x l):=by
   have:=kA f w [a] l;rw[show ([a]++l)=a::l from rfl] at this;rw[this];rfl
  rw[e] at h
  cases ha:f w a with
  | none=>rw[ha] at h;cases h
  | some x=>rw[ha] at h;exact eE P hs l (hs w a x h0 ha) h
theorem NJ:∀ {p r:WP} (l:List aS),bd (WP.dq ask) p l=some r→r.W=p.W:=fun {p r} l h=>eE (fun x=>x.W=p.W) (fun x a y hx hy=>(WP.LO hy).trans hx) l rfl h
theorem XQ:∀ {p r:WP} (l:List aS),bd (WP.cF bp) p l=some r→r.W=p.W:=fun {p r} l h=>eE (fun x=>x.W=p.W) (fun x a y hx hy=>(WP.LP hy).trans hx) l rfl h
structure LQ(lo:Nat)(XC XS:List PIV)(w:World)(g:WG)(q:WP)(L:List aS)(v:Value)(w':World)(g':WG):Prop where
 ls:∃ vs,B6 w' w.heap.size v vs (L.map (fun p=>cd eQ (bO p)))
 ft:dL lo XC XS w g q w' g'
 key:∀ k,aL g'.aF k→k<w.heap.size
def I4(lo:Nat)(XC XS:List PIV)(w:World)(g:WG)(q:WP)(L:List aS)(e:Ending)(w':World):Prop:=∃ (a:Option Addr) (c:Nat) (g':WG),e=.returned (.slice a L.length c)∧LQ lo XC XS w g q L (.slice a L.length c) w' g'
theorem acD(h:cH lo XC XS w g p)(hB:pR p.c.L=true):
  aT 58 #[aM g.cb] w (I4 lo XC XS w g p.iB p.c.L):=by
 obtain⟨h1,h2⟩:=ze hB;have hC:=aaB h.bL.dM (by rw[h.cL];exact h2) (by rw[h.cL];exact h1)
 have hW:=(py w g.cb g.cg.b (h.bL.bB.cell 0)).aaB (fun v w'=>∃ vs,B6 w' w.heap.size v vs (p.c.L.map (fun p=>cd eQ (bO p)))∧fW lo w g.cg { g.cg.st with L:=[] } w' { g.cg with L:=[] }) (by
  refine hC.mono ?_;rintro e w' ⟨v,vs,rfl,hl,ht⟩;rw[h.cL] at hl;obtain⟨a,c,hv⟩:=ax hl.own
  exact⟨a,_,c,by rw[hv],vs,by rw[← hv];exact hl,ht⟩)
 refine hW.mono ?_;rintro e w' ⟨a,n,c,rfl,vs,hl,ht⟩;obtain⟨a',c',hv⟩:=ax hl.own;have hn:n=p.c.L.length:=by have:=(Value.slice.inj hv).2.1;simpa using this
 subst hn;refine⟨a,c,_,rfl,⟨vs,hl⟩,(by have:=h.bL.AU ht;rw[h.st,h.c] at this;exact h.to this),fun k hk=>(h.bL.dR.lt (g.anj k hk)).2⟩
theorem acE(h:cH lo XC XS w g p)(hB:pR p.s.L=true):
  aT 60 #[aM g.sb] w (I4 lo XC XS w g p.ug p.s.L):=by
 obtain⟨h1,h2⟩:=ze hB;have hC:=aaC h.bL.cN (by rw[h.sL];exact h2) (by rw[h.sL];exact h1)
 have hW:=(py w g.sb g.sg.b (h.bL.cT.cell 0)).aaC (fun v w'=>∃ vs,B6 w' w.heap.size v vs (p.s.L.map (fun p=>cd eQ (bO p)))∧dw lo w g.sg { g.sg.st with L:=[] } w' { g.sg with L:=[] }) (by
  refine hC.mono ?_;rintro e w' ⟨v,vs,rfl,hl,ht⟩;rw[h.sL] at hl;obtain⟨a,c,hv⟩:=ax hl.own
  exact⟨a,_,c,by rw[hv],vs,by rw[← hv];exact hl,ht⟩)
 refine hW.mono ?_;rintro e w' ⟨a,n,c,rfl,vs,hl,ht⟩;obtain⟨a',c',hv⟩:=ax hl.own;have hn:n=p.s.L.length:=by have:=(Value.slice.inj hv).2.1;simpa using this
 subst hn;refine⟨a,c,_,rfl,⟨vs,hl⟩,(by have:=h.bL.ko ht;rw[h.st,h.s] at this;exact h.to this),fun k hk=>(h.bL.dR.lt (g.ank k hk)).2⟩
theorem LQ.Up{w' wq:World}{g' gq:WG}{q pq:WP}{L:List aS}{a:Option Addr}{c:Nat}(h:LQ lo XC XS w g q L (.slice a L.length c) w' g')(k:dL lo XC XS w' g' pq wq gq){j:Nat}{pD:aS}(hj:L[j]? = some pD):
  ∃ lb fa fc,a=some (aj lb 0)∧wq.cell? (aj lb j)=some (.slice (some fa) (cd eQ (bO pD)).length fc)∧Rd wq (.slice (some fa) (cd eQ (bO pD)).length fc) (cd eQ (bO pD)):=by
 obtain⟨vs,hl⟩:=h.ls;have hq:B6 wq w.heap.size (.slice a L.length c) vs (L.map (fun p=>cd eQ (bO p))):=hl.same (fun i h1 h2=>k.grow.c.block i h2 (fun e=>by have:=h.key i e;omega));have N7:j<L.length:=(List.getElem?_eq_some_iff.1 hj).1;obtain⟨u,hu,hB⟩:=hq.at (i:=j) (by simpa using N7)
 have hF:(L.map (fun p=>cd eQ (bO p)))[j]'(by simpa using N7)=cd eQ (bO pD):=by
  have:=(List.getElem?_eq_some_iff.1 hj).2;simp[this]
 rw[hF] at hB;obtain⟨lb,cap,hv,_⟩:=fT hq.own (by simp;omega);obtain⟨fb,anl,sB,_⟩:=fT hB (by simp[cd]);subst sB;obtain⟨rfl,_⟩:a=some (aj lb 0)∧True:=⟨(Value.slice.inj hv).1,trivial⟩
 refine⟨lb,(aj fb 0),anl,rfl,?_,?_⟩
 ·have:=hq.own.cells (g:=lb) rfl j _ hu
  rw[dF _ _ rfl] at this;simpa using this
 ·simpa using hB.rd
theorem Be{b:Bool}(h:p.jh ask bp=some (p',b)):∃ p1,pR p.c.L=true∧bd (WP.dq ask) p.iB p.c.L=some p1∧pR p1.s.L=true∧bd (WP.cF bp) p1.ug p1.s.L=some p'∧b=(p.c.L.isEmpty&&p1.s.L.isEmpty):=by
 unfold WP.jh at h
 split at h
 ·rename_i h1
  rcases Option.eq_none_or_eq_some (bd (WP.dq ask) p.iB p.c.L) with e | ⟨p1,e⟩
  ·rw[e] at h;cases h
  ·rw[e,Option.bind_some] at h
   split at h
   ·rename_i h2
    rcases Option.eq_none_or_eq_some (bd (WP.cF bp) p1.ug p1.s.L) with e2 | ⟨p2,e2⟩
    ·rw[e2] at h;cases h
    ·rw[e2,Option.map_some] at h
     have:=Option.some.inj h;exact⟨p1,h1,e,h2,by rw[e2,(Prod.mk.inj this).1],(Prod.mk.inj this).2.symm⟩
   ·cases h
 ·cases h
theorem Bf{n:Nat}(h:WP.fD ask bp n p=some r):∃ (m:Nat) (p':WP) (b:Bool),n=m+1∧p.jh ask bp=some (p',b)∧((b=true∧p'=r)∨(b=false∧WP.fD ask bp m p'=some r)):=by
 cases n with
 | zero=>cases h
 | succ m=>
  unfold WP.fD at h
  rcases Option.eq_none_or_eq_some (p.jh ask bp) with e | ⟨⟨p',b⟩,e⟩
  ·rw[e] at h;cases h
  ·rw[e] at h
   refine⟨m,p',b,rfl,e,?_⟩
   cases b with
   | true=>exact Or.inl ⟨rfl,Option.some.inj h⟩
   | false=>exact Or.inr ⟨rfl,h⟩
theorem acF(h:cH lo XC XS w g p)(ask:SP.jX)(hW8:p.W≤1000)(hE:WP.fD ask (dY XC) 51 p=some r):
  aT 36 #[aM g.b] w (fun e w'=>e=.returned (.bool true)∧∃ g',dL lo XC XS w g r w' g'):=by
 have XR:=U hE;have H:=U h;clear h hE
 go_enter func36,ntmps36
 go_wp2_with fail
 go_loopg [3] 51 (fun gk i wr=>∃ (k:Nat) (pk:WP) (gg:WG),k+gk=51∧i=.int .i64 k∧Hid (WP.fD ask (dY XC) gk pk=some r)∧pk.W=p.W∧Hid (dL lo XC XS w g pk wr gg))
 case atStart=>exact⟨0,p,g,rfl,rfl,XR,rfl,U (dL.refl H.o (Below.refl _ _))⟩
 case round=>
  obtain⟨k,pk,gg,hk,rfl,HE,hWk,HT⟩:=hrel;have HWK:=U hWk;clear hWk;obtain⟨m,p2,b,hm,htG,sy⟩:=Bf HE.o;obtain⟨p1,ho1,yh,ho2,Pv,hb⟩:=Be htG;have Uq:=U sy;have HB:=U hb;have Y0:=U yh;have Rf:=U Pv;have Yt:=U ho2;have hkI:(k:Int)≤50:=by omega
  have HM:=U hm;have HKK:=U hk;have eb:gg.b=g.b:=HT.o.b;have k1:wr.cell? (aj g.b 1)=some (aM gg.cb):=by rw[← eb];exact HT.o.eY.bL.ap.cell 1
  have xq:=U (acD HT.o.eY ho1);have h60:=(ze ho1).1;have EB:=U eb;clear sy hb yh Pv ho1 ho2 htG hm hk eb
  go_wp2_with fail
  refine xq.o.mono ?_;rintro e w2 ⟨la,lc,g2,rfl,hO⟩;have HO:=U hO;clear hO;have EB2:=U (HO.o.ft.b.trans EB.o);obtain⟨N,hN⟩:∃ N,pk.c.L.length=N:=⟨_,rfl⟩
  rw[hN] at h60 ⊢;have HN:=U hN;clear hN
  go_wp2_with fail
  go_loopg [5] N (fun gj kv wq=>∃ (j:Nat) (pj:WP) (gj':WG),j+gj=N∧kv=.int .i64 j∧Hid (bd (WP.dq ask) pk.iB (pk.c.L.take j)=some pj)∧Hid (dL lo XC XS w2 g2 pj wq gj'))
  case atStart=>exact⟨0,pk.iB,g2,by omega,rfl,U rfl,U (dL.refl HO.o.ft.eY (Below.refl _ _))⟩
  case round=>
   obtain⟨j,pj,gj',hj,rfl,Ur,yF⟩:=hrel
   by_cases bC:j<N
   ·obtain⟨pD,LR⟩:∃ pD,pk.c.L[j]? = some pD:=⟨_,List.getElem?_eq_getElem (by rw[HN.o];exact bC)⟩
    obtain⟨pj2,gY,il⟩:=kB Y0.o LR Ur.o;obtain⟨lb,fa,fc,rfl,aK,hrd⟩:=HO.o.Up yF.o LR;obtain⟨FB,Qg⟩:∃ FB,cd eQ (bO pD)=FB:=⟨_,rfl⟩
    rw[Qg] at aK hrd;have OP:=U (XO (yF.o.eY.below (Below.refl _ wr).drew) (by rw[NJ _ Ur.o];show pk.W≤1000;rw[HWK.o];exact hW8) ask pD gY fa fc FB Qg.symm (show Rd wr.drew _ _ from hrd));rw[yF.o.b,EB2.o] at OP
    have k6:wr.cell? (aj g.b 6)=some (vI gj'.lG):=by
     have:=yF.o.eY.bL.ap.cell 6;rw[yF.o.b,EB2.o] at this;exact this
    have ej:(j:Int)<(N:Int):=by omega
    have oG:=U il;clear gY il hrd LR Qg
    go_wp2_with fail
    go_region_with (go_at_call 59;refine OP.o.mono ?_;rintro e w5 ⟨rfl,g5,h5⟩)
    all_goals
     have HT5:=U ((yF.o.below (Below.refl _ wr).drew).trans h5);clear h5
     go_wp2_with fail
     go_roundg (gk-1)
     case rel=>exact⟨j+1,pj2,g5,by omega,by go_num,oG,HT5⟩
     case measure=>omega
   ·have ej:¬ (j:Int)<(N:Int):=by omega
    obtain rfl:=lT Y0.o (by rw[HN.o];omega) Ur.o;have HC6:=U (acE yF.o.eY Yt.o)
    have k0:wr.cell? (aj g.b 0)=some (aM gj'.sb):=by
     have:=yF.o.eY.bL.ap.cell 0;rw[yF.o.b,EB2.o] at this;exact this
    have m60:=(ze Yt.o).1
    go_wp2_with fail
    refine HC6.o.mono ?_;rintro e w6 ⟨ma,mc,g6,rfl,hO6⟩;have HO6:=U hO6;clear hO6;have EB6:=U (HO6.o.ft.b.trans (yF.o.b.trans EB2.o));obtain⟨M,hM⟩:∃ M,pj.s.L.length=M:=⟨_,rfl⟩
    rw[hM] at m60 ⊢;have V0:=U hM;clear hM
    go_wp2_with fail
    go_loopg [8] M (fun gi kv wy=>∃ (i:Nat) (pi:WP) (gi':WG),i+gi=M∧kv=.int .i64 i∧Hid (bd (WP.cF (dY XC)) pj.ug (pj.s.L.take i)=some pi)∧Hid (dL lo XC XS w6 g6 pi wy gi'))
    case atStart=>exact⟨0,pj.ug,g6,by omega,rfl,U rfl,U (dL.refl HO6.o.ft.eY (Below.refl _ _))⟩
    case round=>
     obtain⟨i,pi,gi',hi,rfl,yB,xK⟩:=hrel
     by_cases Qh:i<M
     ·obtain⟨pD,LR⟩:∃ pD,pj.s.L[i]? = some pD:=⟨_,List.getElem?_eq_getElem (by rw[V0.o];exact Qh)⟩
      obtain⟨pi2,gY,il⟩:=kB Rf.o LR yB.o;obtain⟨lb,fa,fc,rfl,aK,hrd⟩:=HO6.o.Up xK.o LR;obtain⟨FB,Qg⟩:∃ FB,cd eQ (bO pD)=FB:=⟨_,rfl⟩
      rw[Qg] at aK hrd;have OP:=U (XP (xK.o.eY.below (Below.refl _ wr).drew) pD gY fa fc FB Qg.symm (show Rd wr.drew _ _ from hrd));rw[xK.o.b,EB6.o] at OP
      have k7:wr.cell? (aj g.b 7)=some (vI gi'.lS):=by
       have:=xK.o.eY.bL.ap.cell 7;rw[xK.o.b,EB6.o] at this;exact this
      have acH:(i:Int)<(M:Int):=by omega
      have oG:=U il;clear gY il hrd LR Qg
      go_wp2_with fail
      go_region_with (go_at_call 59;refine OP.o.mono ?_;rintro e w7 ⟨rfl,g7,h7⟩)
      all_goals
       have DK:=U ((xK.o.below (Below.refl _ wr).drew).trans h7);clear h7
       go_wp2_with fail
       go_roundg (gk-1)
       case rel=>exact⟨i+1,pi2,g7,by omega,by go_num,oG,DK⟩
       case measure=>omega
     ·have acH:¬ (i:Int)<(M:Int):=by omega
      obtain rfl:=lT Rf.o (by rw[V0.o];omega) yB.o;have HWE:=U (show pi.W=p.W by rw[XQ _ yB.o];show pj.W=p.W;rw[NJ _ Ur.o];exact HWK.o);have HTE:=U (((HT.o.trans HO.o.ft).trans yF.o).trans (HO6.o.ft.trans xK.o));have b1:¬ (60:Int)<(N:Int):=by omega
      have b2:¬ (60:Int)<(M:Int):=by omega
      by_cases FO:N=0
      ·have b3:((N:Int)==0)=true:=by simp;omega
       by_cases ZF:M=0
       ·have b4:((M:Int)==0)=true:=by simp;omega
        have nX:=U (show pi=r by
         have e1:pk.c.L=[]:=List.length_eq_zero_iff.1 (HN.o.trans FO);have e2:pj.s.L=[]:=List.length_eq_zero_iff.1 (V0.o.trans ZF)
         rcases Uq.o with⟨_,e⟩ | ⟨e,_⟩
         ·exact e
         ·rw[HB.o,e1,e2] at e;cases e)
        clear FO ZF
        go_wp2_with fail
        go_ret
        exact⟨rfl,gi',by rw[← nX.o];exact HTE.o⟩
       ·have b4:((M:Int)==0)=false:=by simp;omega
        have nX:=U (show WP.fD ask (dY XC) m pi=some r by
         have e2:pj.s.L.isEmpty=false:=by
          cases hL:pj.s.L with
          | nil=>have:=V0.o;rw[hL] at this;exact absurd this.symm ZF
          | cons a l=>rfl
         rcases Uq.o with⟨e,_⟩ | ⟨_,e⟩
         ·rw[HB.o,e2,Bool.and_false] at e;cases e
         ·exact e)
        clear FO ZF
        go_wp2_with fail
        go_roundg m
        case rel=>exact⟨k+1,pi,gi',by have:=HKK.o;have:=HM.o;omega,by go_num,nX,HWE.o,HTE⟩
        case measure=>have:=HM.o;omega
      ·have b3:((N:Int)==0)=false:=by simp;omega
       have nX:=U (show WP.fD ask (dY XC) m pi=some r by
        have e2:pk.c.L.isEmpty=false:=by
         cases hL:pk.c.L with
         | nil=>have:=HN.o;rw[hL] at this;exact absurd this.symm FO
         | cons a l=>rfl
        rcases Uq.o with⟨e,_⟩ | ⟨_,e⟩
        ·rw[HB.o,e2,Bool.false_and] at e;cases e
        ·exact e)
       clear FO
       go_wp2_with fail
       go_roundg m
       case rel=>exact⟨k+1,pi,gi',by have:=HKK.o;have:=HM.o;omega,by go_num,nX,HWE.o,HTE⟩
       case measure=>have:=HM.o;omega
theorem ano(h:cH lo XC XS w g p)(hU:p.Q5=some p'):
  aT 21 #[aM g.b,vI 0] w (fun e w'=>e=.returned (.bool true)∧∃ g',dL lo XC XS w g p' w' g'):=by
 unfold WP.Q5 at hU
 split at hU
 ·rename_i hB
  obtain rfl:=Option.some.inj hU;obtain⟨h1,h2,h3,h4⟩:=Ba.1 hB;have e1:g.cg.fN=p.c.fN:=congrArg CP.fN h.c;have e2:g.cg.bu=p.c.bu:=congrArg CP.bu h.c;have e3:g.sg.fN=p.s.fN:=congrArg SP.fN h.s;have e4:g.sg.bu=p.s.bu:=congrArg SP.bu h.s;refine(amt h.bL h.hl (by rw[h.c];exact h1.sm) (by rw[h.Uf];omega) (by rw[e1,e2,h.Uf];exact h3) (by rw[e3,e4,h.Uf];exact h4)).mono ?_;rintro e w' ⟨rfl,g',hh⟩;rw[h.st] at hh;exact⟨rfl,g',h.to hh⟩
 ·cases hU
theorem XT(h:cH lo XC XS w g p)(hC:tC p.c)(hs:p.bh≤1000∧p.bh+1<p.D∧p.c.silence+1<p.D):
  aT 35 #[aM g.b,vI 0] w (fun e w'=>e=.returned (.tuple #[])∧∃ g',dL lo XC XS w g p.lj w' g'):=by
 refine(Xl h.bL (by rw[h.c];exact hC.sm) (by rw[h.gS0];omega) (by rw[h.gS0,h.gD];exact hs.2.1) (by rw[h.gD];have e:g.cg.silence=p.c.silence:=congrArg CP.silence h.c;rw[e];exact hs.2.2)).mono ?_;rintro e w' ⟨rfl,g',hh⟩;rw[h.st] at hh;exact⟨rfl,g',h.to hh⟩
theorem XU(h:cH lo XC XS w g p)(hS:zb p.s)(hW:p.W≤1000)(hs:p.bj≤1000∧p.bj+1<p.D∧∀ o,p.s.aY=some o→o.silence+1<p.D):
  aT 35 #[aM g.b,vI 1] w (fun e w'=>e=.returned (.tuple #[])∧∃ g',dL lo XC XS w g p.lp w' g'):=by
 refine(Xm h.bL (by rw[h.s];exact hS.sm) (by rw[h.gW];exact hW) (by rw[h.gS1];omega) (by rw[h.gS1,h.gD];exact hs.2.1) (fun s e=>by rw[h.gD];exact hs.2.2 s.o (by rw[← h.s];exact ahn e))).mono ?_;rintro e w' ⟨rfl,g',hh⟩;rw[h.st] at hh;exact⟨rfl,g',h.to hh⟩
theorem wL(h:p.iJ ask bp=some r):∃ p2,(tC p.c∧zb p.s∧p.W≤1000∧tkB p=true)∧WP.fD ask bp 51 p.lj.lp=some p2∧p2.bh=0∧p2.bj=0∧p2.kD=some r∧r.s.waits=[]∧r.aU=[]:=by
 unfold WP.iJ at h
 split at h
 ·rename_i hB
  rcases Option.eq_none_or_eq_some (WP.fD ask bp 51 p.lj.lp) with e | ⟨p2,e⟩
  ·rw[e] at h;cases h
  ·rw[e,Option.bind_some] at h
   split at h
   ·rename_i h1
    rcases Option.eq_none_or_eq_some p2.kD with e2 | ⟨p3,e2⟩
    ·rw[e2] at h;cases h
    ·rw[e2,Option.bind_some] at h
     split at h
     ·rename_i h2
      obtain rfl:=Option.some.inj h;exact⟨p2,A9.1 hB,e,h1.1,h1.2,e2,List.isEmpty_iff.1 h2.1,List.isEmpty_iff.1 h2.2⟩
     ·cases h
   ·cases h
 ·cases h
theorem wN:∀ {n:Nat} {p r:WP},WP.fD ask bp n p=some r→r.ae=p.ae
 | 0,p,r,h=>by cases h
 | n+1,p,r,h=>by
  obtain⟨m,p',b,hm,ht,hr⟩:=Bf h;obtain⟨p1,_,h1,_,h2,_⟩:=Be ht
  have a1:p1.ae=p.ae:=eE (fun x=>x.ae=p.ae) (fun x a y hx hy=>by
   unfold WP.dq at hy
   split at hy
   ·obtain rfl:=Option.some.inj hy
    exact hx
   ·cases hy) _ rfl h1
  have a2:p'.ae=p1.ae:=eE (fun x=>x.ae=p1.ae) (fun x a y hx hy=>by
   unfold WP.cF at hy
   split at hy
   ·obtain rfl:=Option.some.inj hy
    exact hx
   ·cases hy) _ rfl h2
  rcases hr with⟨_,rfl⟩ | ⟨_,hr⟩
  ·exact a2.trans a1
  ·obtain rfl:n=m:=by omega
   exact(wN hr).trans (a2.trans a1)
theorem XV(h:cH lo XC XS w g p)(ask:SP.jX)(vQ:p.ae.length≤90000)(hR:p.iJ ask (dY XC)=some r):
  aT 22 #[aM g.b] w (fun e w'=>e=.returned (.bool true)∧∃ g',dL lo XC XS w g r w' g'):=by
 obtain⟨p2,⟨hC,hS,hW,ht⟩,hE,YX,he1,hD,iK,js⟩:=wL hR;unfold tkB at ht;simp only[Bool.and_eq_true,decide_eq_true_eq,A8] at ht;obtain⟨t1,t2,t3,t4,t5,t6⟩:=ht;have HE:=U hE;have HS:=U hS;have HW:=U hW;have El:=U (And.intro t2 (And.intro t4 t6));have XR:=U YX;have CY:=U he1;have HD:=U hD;have HW3:=U iK;have QZ:=U js;have Y3:=U (show p2.ae.length≤90000 by rw[wN hE];exact vQ);have HC0:=U (XT h hC ⟨t1,t3,t5⟩);clear h hR hC hS hW t1 t2 t3 t4 t5 t6 hE YX he1 hD iK js vQ
 go_enter func22,ntmps22
 go_wp2_with fail
 refine HC0.o.mono ?_;rintro e w1 ⟨rfl,g1,h1⟩;have xq:=U (XU h1.eY HS.o HW.o El.o);rw[h1.b] at xq;have H1:=U h1;clear h1
 go_wp2_with fail
 refine xq.o.mono ?_;rintro e w2 ⟨rfl,g2,h2⟩;have yx:=U (acF h2.eY ask HW.o HE.o);rw[h2.b,H1.o.b] at yx;have H2:=U (H1.o.trans h2);clear h2
 go_wp2_with fail
 refine yx.o.mono ?_;rintro e w3 ⟨rfl,g3,h3⟩;have H3:=U (H2.o.trans h3)
 have k19:w3.cell? ⟨g.b,19,none⟩=some (.int .i64 0):=by
  have:=H3.o.eY.bL.ap.cell 19;rw[H3.o.b] at this;exact this.trans (by show some (Value.int .i64 g3.bh)=_;rw[H3.o.eY.gS0,XR.o];rfl)
 have k20:w3.cell? ⟨g.b,20,none⟩=some (.int .i64 0):=by
  have:=H3.o.eY.bL.ap.cell 20;rw[H3.o.b] at this;exact this.trans (by show some (Value.int .i64 g3.bj)=_;rw[H3.o.eY.gS1,CY.o];rfl)
 have HC4:=U (acA H3.o.eY Y3.o HD.o);rw[H3.o.b] at HC4;clear h3
 go_wp2_with fail
 refine HC4.o.mono ?_;rintro e w4 ⟨rfl,g4,h4⟩;have H4:=U (H3.o.trans h4);clear h4
 go_wp2_with fail
 go_loopg [3,4] 2 (fun gk ok th wr=>ok=.bool true∧∃ b:Bool,th=.bool b∧(b=true→gk=2)∧(b=false→gk=1)∧∃ gg,Hid (dL lo XC XS w g r wr gg))
 case atStart=>exact⟨rfl,true,rfl,fun _=>rfl,fun e=>(by cases e),g4,H4⟩
 case round=>
  obtain⟨rfl,b,rfl,aA,aW,gg,HG⟩:=hrel
  cases b with
  | true=>
   have OA:=aA rfl;have OP:=U (XF HG.o.eY.bL true (by have:=congrArg SP.waits HG.o.eY.s;rw[HW3.o] at this;exact this));rw[HG.o.b] at OP;clear aA aW
   go_wp2_with fail
   refine OP.o.mono ?_;rintro e w5 ⟨rfl,g5,h5⟩
   have YY:=U (show dL lo XC XS w g r w5 g5 by
    have:=HG.o.eY.to h5;rw[HG.o.eY.st] at this
    exact HG.o.trans this)
   clear h5
   go_wp2_with fail
   go_roundg (gk-1)
   case rel=>exact⟨rfl,false,rfl,fun e=>(by cases e),fun _=>by omega,g5,YY⟩
   case measure=>omega
  | false=>
   obtain⟨ca,cc,Cm⟩:=HG.o.eY.bL.ra.slice
   have d17:wr.cell? ⟨g.b,17,none⟩=some (.slice ca 0 cc):=by
    have:wr.cell? ⟨gg.b,17,none⟩=some gg.Vo:=HG.o.eY.bL.ap.cell 17;rw[HG.o.b] at this;rw[this,Cm,HG.o.eY.Fw,QZ.o];rfl
   clear Cm aA aW
   go_wp2_with fail
   go_loopg [3,5] 1 (fun gk2 ok i wq=>ok=.bool true∧i=.int .i64 0∧wq=wr)
   case atStart=>exact⟨rfl,rfl,rfl⟩
   case round=>
    obtain⟨rfl,rfl,rfl⟩:=hrel
    go_wp2_with fail
    go_loopg [3,6] 1 (fun gk3 ok i wz=>ok=.bool true∧i=.int .i64 0∧wz=wr)
    case atStart=>exact⟨rfl,rfl,rfl⟩
    case round=>
     obtain⟨rfl,rfl,rfl⟩:=hrel
     go_wp2_with fail
     go_ret
     exact⟨rfl,gg,HG.o⟩
theorem I5(h:p.mW ask bp=some r):∃ p1,JS p∧p.aU=[]∧p.Q5=some p1∧bd (fun x (_:Nat)=>WP.iJ ask bp x) p1 (List.range p.lP)=some r∧JS r∧r.I1=true∧r.aU=[]:=by
 unfold WP.mW at h
 split at h
 ·rename_i hB
  rcases Option.eq_none_or_eq_some p.Q5 with e | ⟨p1,e⟩
  ·rw[e] at h;cases h
  ·rw[e,Option.bind_some] at h
   rcases Option.eq_none_or_eq_some (bd (fun x (_:Nat)=>WP.iJ ask bp x) p1 (List.range p.lP)) with e2 | ⟨p2,e2⟩
   ·rw[e2] at h;cases h
   ·rw[e2,Option.bind_some] at h
    split at h
    ·rename_i hA
     obtain rfl:=Option.some.inj h;exact⟨p1,iQ.1 hB.1,List.isEmpty_iff.1 hB.2,e,e2,iQ.1 hA.1,hA.2.1,List.isEmpty_iff.1 hA.2.2⟩
    ·cases h
 ·cases h
theorem Us(h:p.Q5=some p'):p'=p.ZJ:=by
 unfold WP.Q5 at h
 split at h
 ·exact(Option.some.inj h).symm
 ·cases h
theorem LS(h:p.iJ ask bp=some r):r.ae.length=p.ae.length:=by
 obtain⟨p2,_,hE,_,_,hD,_⟩:=wL h;unfold WP.kD at hD;rw[wK _ hD,wN hE];rfl
theorem LU(l:List Nat)(h:bd (fun x (_:Nat)=>WP.iJ ask bp x) p l=some p'):p'.ae.length=p.ae.length :=
 eE (fun x=>x.ae.length=p.ae.length) (fun x a y hx hy=>(LS hy).trans hx) l rfl h
def Fy(p:WP):Nat→Nat
 | 0=>0
 | t+1=>Fy p t+(p.cy t).length
theorem NK(h:JS p):∀ t,t≤3→Fy p t≤90000*t
 | 0,_=>Nat.le_refl _
 | t+1,ht=>by
  have:=NK h t (by omega);have:=h.vl t (by omega);unfold Fy;omega
theorem LV(p:WP)(h:p.aU=[]):p.lP=20+p.ae.length+0+Fy p 3:=by
 unfold WP.lP;rw[h];show 20+p.ae.length+0+p.v0.length+p.v1.length+p.v2.length=20+p.ae.length+0+(0+p.v0.length+p.v1.length+p.v2.length);omega
theorem Ut(h:cH lo XC XS w g p)(ask:SP.jX)(hR:p.mW ask (dY XC)=some r):
  aT 8 #[aM g.b] w (fun e w'=>e=.returned (.bool true)∧∃ g',dL lo XC XS w g r w' g'):=by
 obtain⟨p1,hV,tZ,hU,hF,Ui,hB,ahA⟩:=I5 hR;have fe:=Us hU;have HC0:=U (ano h hU);have HF:=U hF;have HB:=U hB;have Zt:=U Ui;have ahB:=U ahA;have HRn:=U (LV p tZ);have tj:=U (NK hV)
 have HP:=U (show p1.ae=p.ae∧p1.aU=[]∧∀ t,p1.cy t=p.cy t by
  rw[fe]
  exact⟨rfl,tZ,fun t=>rfl⟩)
 obtain⟨M,hM⟩:∃ M,p.lP=M:=⟨_,rfl⟩
 obtain⟨NS,hNS⟩:∃ NS,p.ae.length=NS:=⟨_,rfl⟩
 have anp:NS≤90000:=by rw[← hNS];exact hV.sl
 rw[hM] at HF HRn;rw[hNS] at HRn;have EO:=U hNS;have HVL:=U hV.vl;clear h hR hV tZ hU hF Ui hB ahA fe hM hNS
 go_enter func8,ntmps8
 go_wp2_with fail
 refine HC0.o.mono ?_;rintro e w1 ⟨rfl,g1,h1⟩;have eb:=h1.b;obtain⟨sa,sc,jU⟩:=h1.eY.bL.rt.slice;obtain⟨ca,cc,Cm⟩:=h1.eY.bL.ra.slice
 have d16:w1.cell? (aj g.b 16)=some (.slice sa NS sc):=by
  have:w1.cell? (aj g1.b 16)=some g1.iP:=h1.eY.bL.ap.cell 16;rw[eb] at this;rw[this,jU,h1.eY.dC,HP.o.1,EO.o]
 have d17:w1.cell? (aj g.b 17)=some (.slice ca 0 cc):=by
  have:w1.cell? (aj g1.b 17)=some g1.Vo:=h1.eY.bL.ap.cell 17;rw[eb] at this;rw[this,Cm,h1.eY.Fw,HP.o.2.1];rfl
 have H1:=U h1;clear h1 eb jU Cm
 go_wp2_with fail
 go_cut [4] (fun s4 wx=>s4=.int .i64 (20+(NS:Int))∧Hid (Below w1.heap.size w1 wx))
 case first=>
  go_quiet (fail)
  go_wp2_with fail
  go_meet
  case rel=>exact⟨by go_num,U (below_drewN (Below.refl _ _) _)⟩
 case rest=>
 obtain⟨rfl,NH⟩:=hcut;have HTq:=U (H1.o.below NH.o);clear d16 d17
 go_wp2_with fail
 go_loopg [4,5] 3 (fun gk n t wr=>∃ j:Nat,j+gk=3∧n=.int .i64 (20+(NS:Int)+(Fy p j:Int))∧t=.int .i64 j∧wr=wc)
 case atStart=>exact⟨0,rfl,by show _=Value.int .i64 (20+(NS:Int)+((0:Nat):Int));simp,rfl,rfl⟩
 case round=>
  obtain⟨j,hj,rfl,rfl,rfl⟩:=hrel
  by_cases bC:j<3
  ·obtain⟨a,c,pu,ry⟩:=HTq.o.eY.bL.lO bC
   rw[HTq.o.b,HTq.o.eY.dO,HP.o.2.2] at ry;obtain⟨nv,mB⟩:∃ nv,(p.cy j).length=nv:=⟨_,rfl⟩
   have ahu:nv≤90000:=by rw[← mB];exact HVL.o j bC
   rw[mB] at ry;have ej:(j:Int)<3:=by omega
   have hS:=tj.o j (by omega);have HSu:=U (show Fy p (j+1)=Fy p j+nv by rw[← mB];rfl);obtain⟨sj,hsj⟩:∃ sj,Fy p j=sj:=⟨_,rfl⟩
   rw[hsj] at hS HSu ⊢;have rQ:sj≤300000:=by omega
   clear pu mB hsj hS
   go_wp2_with fail
   go_roundg (gk-1)
   case rel=>exact⟨j+1,by omega,by rw[HSu.o];go_num,by go_num,rfl⟩
   case measure=>omega
  ·have ej:¬ (j:Int)<3:=by omega
   obtain rfl:j=3:=by omega
   have HM:=U (show 20+(NS:Int)+(Fy p 3:Int)=(M:Int) by have:=HRn.o;omega);rw[HM.o];have QY:M≤500000:=by have:=HRn.o;have:=tj.o 3 (by omega);omega
   clear ej;have ej:¬ ((3:Nat):Int)<3:=by omega
   go_wp2_with fail
   go_loopg [3,6] M (fun gk3 ok i wz=>ok=.bool true∧∃ k:Nat,k+gk3=M∧i=.int .i64 k∧∃ (pj:WP) (gj:WG),Hid (bd (fun x (_:Nat)=>WP.iJ ask (dY XC) x) p1 ((List.range M).take k)=some pj)∧Hid (dL lo XC XS w g pj wz gj))
   case atStart=>exact⟨rfl,0,by omega,rfl,p1,g1,U rfl,HTq⟩
   case round=>
    obtain⟨rfl,k,hk,rfl,pj,gj,Ur,yF⟩:=hrel;have HLj:=U (show pj.ae.length=NS by rw[LU _ Ur.o,HP.o.1,EO.o])
    by_cases Mu:k<M
    ·obtain⟨pj2,gY,il⟩:=kB HF.o (k:=k) (a:=k) (by simp[Mu]) Ur.o
     have HCj:=U (XV yF.o.eY ask (by rw[HLj.o];exact anp) gY);rw[yF.o.b] at HCj;have oG:=U il;have anr:(k:Int)<(M:Int):=by omega
     clear gY il
     go_wp2_with fail
     refine HCj.o.mono ?_;rintro e w6 ⟨rfl,g6,h6⟩;have XJ:=U (yF.o.trans h6);clear h6
     go_wp2_with fail
     go_roundg (gk-1)
     case rel=>exact⟨rfl,k+1,by omega,by go_num,pj2,g6,oG,XJ⟩
     case measure=>omega
    ·have anr:¬ (k:Int)<(M:Int):=by omega
     obtain rfl:=lT HF.o (by simp;omega) Ur.o;obtain⟨wl,ov⟩:∃ wl,wl=wr:=⟨_,rfl⟩
     subst ov
     go_wp2_with fail
     go_loopg [7] NS (fun gk4 i wy=>∃ m:Nat,m+gk4=NS∧i=.int .i64 m∧Hid (Below wl.heap.size wl wy))
     case atStart=>exact⟨0,by omega,rfl,U (Below.refl _ _)⟩
     case round=>
      obtain⟨m,hm,rfl,HBm⟩:=hrel;have Bg:=U (yF.o.below HBm.o);obtain⟨za,zc,hzv⟩:=Bg.o.eY.bL.rt.slice
      have z16:wr.cell? (aj g.b 16)=some (.slice za NS zc):=by
       have:wr.cell? (aj gj.b 16)=some gj.iP:=Bg.o.eY.bL.ap.cell 16;rw[Bg.o.b] at this;rw[this,hzv,Bg.o.eY.dC,HLj.o]
      by_cases Pn:m<NS
      ·obtain⟨x,hx⟩:∃ x,pj.ae[m]? = some x:=⟨_,List.getElem?_eq_getElem (by rw[HLj.o];exact Pn)⟩
       obtain⟨ga,c,hv,aK⟩:=Bg.o.eY.bL.iO (k:=m) (x:=x) (by rw[Bg.o.eY.dC];exact hx);obtain⟨rfl,rfl⟩:za=some (aj ga 0)∧zc=c:=by simpa using hzv.symm.trans hv
       have hxo:=Zt.o.st x (List.mem_of_getElem? hx);have hxc:=List.all_eq_true.1 HB.o x (List.mem_of_getElem? hx);simp only[Bool.or_eq_true,Bool.not_eq_true',decide_eq_false_iff_not,Bool.and_eq_true,decide_eq_true_eq] at hxc;have c0:wr.cell? ⟨ga,m*5,none⟩=some (vI x.aG):=aK 0 _ rfl;have c1:wr.cell? ⟨ga,m*5+1,none⟩=some (vI x.start):=aK 1 _ rfl;have c2:wr.cell? ⟨ga,m*5+2,none⟩=some (vI x.aE):=aK 2 _ rfl;have c3:wr.cell? ⟨ga,m*5+3,none⟩=some (vI x.ended):=aK 3 _ rfl;have c4:wr.cell? ⟨ga,m*5+4,none⟩=some (.bool x.ni):=aK 4 _ rfl;obtain⟨t,ht⟩:∃ t,x.aG=t:=⟨_,rfl⟩
       have rW:t<3:=by rw[← ht];exact hxo.1
       rw[ht] at c0 hxc;obtain⟨va,vc,pu,ry⟩:=Bg.o.eY.bL.lO rW;rw[Bg.o.b,Bg.o.eY.dO] at ry;obtain⟨nv,mB⟩:∃ nv,(pj.cy t).length=nv:=⟨_,rfl⟩
       have ahu:nv≤90000:=by rw[← mB];exact Zt.o.vl t rW
       rw[mB] at ry hxc;have Nv:=Bg.o.eY.bL.Fo rW;rw[Bg.o.b,Bg.o.eY.Fm] at Nv;obtain⟨w2,dX,aW,cz⟩:=cS wr [vI t,vI x.start,vI x.aE,vI x.ended,.bool x.ni] 44;have v0:=cz.ce 0 rfl;have v1:=cz.ce 1 rfl;have v2:=cz.ce 2 rfl;have v3:=cz.ce 3 rfl;have u10:w2.cell? ⟨g.b,10+t,none⟩=some (.slice va nv vc):=(aW.cell (p:=⟨g.b,10+t,none⟩) (World.block_lt_of_cell? _ _ ry)).trans ry;have u13:w2.cell? ⟨g.b,13+t,none⟩=some (.bool (pj.Fu t)):=(aW.cell (p:=⟨g.b,13+t,none⟩) (World.block_lt_of_cell? _ _ Nv)).trans Nv;have anu:(m:Int)<(NS:Int):=by omega
       have ahp:(0:Int)≤(t:Int):=by omega
       have ahq:(t:Int)<3:=by omega
       have RI:=hxo.2.1;have hxg:=hxo.2.2;have gX:=U (HBm.o.trans (aW.mono HBm.o.size));clear hv aK pu ry Nv aW cz hxo ht hx hzv mB
       go_upto_region 17 with fail
       go_cut [91] (fun s91 wx=>s91=.bool false∧Hid (Below w2.heap.size w2 wx))
       case first=>
        rcases hxc with he | ⟨hd,hs⟩
        ·have b1:((x.ended:Int)==0)=false:=by simp;omega
         clear he
         go_quiet (fail)
         go_wp2_with fail
         go_meet
         case rel=>exact⟨rfl,U (below_drewN (Below.refl _ _) _)⟩
        ·rw[hd] at u13
         by_cases he:x.ended=0
         ·have b1:((x.ended:Int)==0)=true:=by simp[he]
          have b2:((x.start:Int)+(x.aE:Int) != (nv:Int))=false:=by simp;omega
          clear he hs hd
          go_quiet (fail)
          go_wp2_with fail
          go_meet
          case rel=>exact⟨rfl,U (below_drewN (Below.refl _ _) _)⟩
         ·have b1:((x.ended:Int)==0)=false:=by simp;omega
          clear he hs hd
          go_quiet (fail)
          go_wp2_with fail
          go_meet
          case rel=>exact⟨rfl,U (below_drewN (Below.refl _ _) _)⟩
       case rest=>
       obtain⟨rfl,HBz⟩:=hcut
       go_wp2_with fail
       go_roundg (gk-1)
       case rel=>exact⟨m+1,by omega,by go_num,U (gX.o.trans (HBz.o.mono gX.o.size))⟩
       case measure=>omega
      ·have anu:¬ (m:Int)<(NS:Int):=by omega
       have HAk:=U (Xo Bg.o.eY.bL (by rw[Bg.o.eY.Fw,ahB.o];simp));rw[Bg.o.b,Bg.o.eY.Fw,ahB.o] at HAk;clear hzv
       go_wp2_with fail
       refine HAk.o.mono ?_;rintro e w8 ⟨rfl,ND⟩;rw[ND];clear ND
       go_wp2_with fail
       go_ret
       exact⟨rfl,gj,Bg.o⟩
end Go.Proofs.YtkpfplbmmglkkaaGreatDoor
