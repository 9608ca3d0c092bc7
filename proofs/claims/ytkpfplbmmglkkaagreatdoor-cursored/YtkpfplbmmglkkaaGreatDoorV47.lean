/- Cursored: the walk of the statement itself. -/
import Derived.Test.YtkpfplbmmglkkaaGreatDoorV46
set_option linter.all false
set_option maxHeartbeats 8000000
set_option maxRecDepth 100000
namespace Go.Proofs.YtkpfplbmmglkkaaGreatDoor
open Go.Proofs.Tryz
variable {w w':World}{XC XS:List PIV}{g g':WG}{p r:WP}{lo k:Nat}{ask:SP.jX}{bp:vh}
open Go.RowKit Go.Conc
theorem mR.ah5(h:mR w):∀ cb,w.heap.size≤cb→KK cb:=fun cb yR=>⟨by have:=h.v.lt1;omega,by have:=h.v.lt2;omega,by have:=h.lt;omega⟩
theorem dL.o{w1:World}{q:WP}(h:dL w.heap.size XC XS w1 g p w' g')(h0:cH w.heap.size XC XS w1 g q)(hb:Below w.heap.size w w1):Below w.heap.size w w' :=
 hb.trans (h.grow.c.below hb.size (fun k hk=>(h0.bL.dR.lt hk).1))
theorem dL.str(h:dL lo XC XS w g p w' g'){k:Nat}{x:gp}(hx:p.ae[k]? = some x){a:Option Addr}{c N:Nat}(he:g'.iP=.slice a N c):∃ ga,a=some (aj ga 0)∧∀ j v,(kZ x)[j]? = some v→w'.cell? ⟨ga,k*5+j,none⟩=some v:=by
 obtain⟨ga,c',hv,aK⟩:=h.eY.bL.iO (k:=k) (x:=x) (by rw[h.eY.dC];exact hx);rw[he] at hv;exact⟨ga,(Value.slice.inj hv).1,aK⟩
theorem dL.Yc(h:dL lo XC XS w g p w' g'){N:Nat}(hN:p.ae.length=N):∃ a c,w'.cell? (aj g.b 16)=some (.slice a N c)∧g'.iP=.slice a N c:=by
 obtain⟨a,c,e⟩:=h.eY.bL.rt.slice;have:w'.cell? (aj g'.b 16)=some g'.iP:=h.eY.bL.ap.cell 16;rw[h.b,e,h.eY.dC,hN] at this;exact⟨a,c,this,by rw[e,h.eY.dC,hN]⟩
theorem Yd{i:Nat}{v cu:ByteArray}(h:p.lf i k v cu=some r):r.R=p.R:=by
 unfold WP.lf at h
 rcases Option.eq_none_or_eq_some p.ae[i]? with e | ⟨x,e⟩
 ·rw[e] at h;cases h
 ·rw[e] at h
  simp only at h
  split at h
  ·split at h
   ·obtain rfl:=Option.some.inj h;rfl
   ·cases h
  ·split at h
   ·cases h
   ·split at h
    ·split at h
     ·obtain rfl:=Option.some.inj h;rfl
     ·cases h
    ·split at h
     ·obtain rfl:=Option.some.inj h;rfl
     ·cases h
theorem N0:∀ {n:Nat} {p r:WP},WP.fD ask bp n p=some r→r.R=p.R
 | 0,p,r,h=>by cases h
 | n+1,p,r,h=>by
  obtain⟨m,p',b,hm,ht,hr⟩:=Bf h;obtain⟨p1,_,h1,_,h2,_⟩:=Be ht
  have a1:p1.R=p.R:=eE (fun x=>x.R=p.R) (fun x a y hx hy=>by
   unfold WP.dq at hy
   split at hy
   ·obtain rfl:=Option.some.inj hy
    exact hx
   ·cases hy) _ rfl h1
  have a2:p'.R=p1.R:=eE (fun x=>x.R=p1.R) (fun x a y hx hy=>by
   unfold WP.cF at hy
   split at hy
   ·obtain rfl:=Option.some.inj hy
    exact hx
   ·cases hy) _ rfl h2
  rcases hr with⟨_,rfl⟩ | ⟨_,hr⟩
  ·exact a2.trans a1
  ·obtain rfl:n=m:=by omega
   exact(N0 hr).trans (a2.trans a1)
theorem ac2(h:p.wO k=some r):r.R=p.R:=by
 unfold WP.wO at h
 split at h
 ·obtain rfl:=Option.some.inj h;rfl
 ·cases h
theorem ac3:∀ (l:List (ByteArray × List UInt8)),bd (fun x q=>WP.pS x q.1 q.2) p l=some r→r.R=p.R:=fun l h=>eE (fun x=>x.R=p.R) (fun x a y hx hy=>by
 unfold WP.pS at hy
 split at hy
 ·obtain rfl:=Option.some.inj hy;exact hx
 ·cases hy) l rfl h
theorem Qx{n:Nat}:∀ {p r:WP} {i:Nat},p.cD n i=some r→r.R=p.R:=by
 induction n with
 | zero=>intro p r i h;cases h
 | succ n ih=>
  intro p r i h;obtain⟨m,p',hm,_,_,_,hT,hr⟩:=oZ h;obtain rfl:n=m:=by omega
  have e0:=Yd hT;have e:p'.R=p.R:=e0
  rcases hr with⟨_,rfl⟩ | ⟨_,hr⟩
  ·exact e
  ·exact(ih hr).trans e
theorem UT(h:p.iJ ask bp=some r):r.R=p.R:=by
 obtain⟨p2,_,hE,_,_,hD,_⟩:=wL h;have e0:=N0 hE;have e1:p2.R=p.R:=e0;have e2:r.R=p2.R:=eE (fun x=>x.R=p2.R) (fun x a y hx hy=>(Qx hy).trans hx) _ rfl hD;exact e2.trans e1
theorem Ye(h:p.mW ask bp=some r):r.R=p.R:=by
 obtain⟨p1,_,_,hU,hF,_⟩:=I5 h;have e1:p1.R=p.R:=by rw[Us hU];rfl
 exact(eE (fun x=>x.R=p1.R) (fun x a y hx hy=>(UT hy).trans hx) _ rfl hF).trans e1
theorem FL(jL jM count taken more:Int)(rs:Bool)(h1:-9223372036854775808≤jL∧jL≤9223372036854775807)(h2:-9223372036854775808≤jM∧jM≤9223372036854775807)(h3:-9223372036854775808≤count∧count≤9223372036854775807)(h4:-9223372036854775808≤taken∧taken≤9223372036854775807)(h5:-9223372036854775808≤more∧more≤9223372036854775807)(w:World)(hE:mR w):
  aT 3 #[.int .i64 jL,.int .i64 jM,.int .i64 count,.int .i64 taken,.int .i64 more,.bool rs] w (fun e w'=>e=.returned (.bool true)∧Below w.heap.size w w'):=by
 have hO:=hE.ah5;have aA:=acZ jL 19 jM 5 (by decide) h1 ⟨by omega,by omega⟩ h2 w hE hO;have lW:=fw jL (n:=8) (by decide);have lR:=fw jM (n:=16) (by decide);obtain⟨W,hW⟩:∃ W,1+cI jL 8=W:=⟨_,rfl⟩
 obtain⟨R,hR⟩:∃ R,1+cI jM 16=R:=⟨_,rfl⟩
 rw[hW,hR,show 4+cI 19 20=23 by decide] at aA;have hC:Jo W R:=⟨by omega,by omega⟩
 have lN:=fw count (n:=R) (by omega);have HPc:=U (fun w'=>gE count R w' (by omega) (by unfold maxLen;omega) h3);obtain⟨n0,U5⟩:∃ n0,cI count R=n0:=⟨_,rfl⟩
 rw[U5] at HPc lN;obtain⟨n,hn⟩:∃ n,1+n0=n:=⟨_,rfl⟩
 have lK:=fw taken (n:=n) (by omega);have HPt:=U (fun w'=>gE taken n w' (by omega) (by unfold maxLen;omega) h4);obtain⟨k0,BL⟩:∃ k0,cI taken n=k0:=⟨_,rfl⟩
 rw[BL] at HPt lK;obtain⟨k,hk⟩:∃ k,1+k0=k:=⟨_,rfl⟩
 have lM:=fw more (n:=2*R+1) (by omega);have HPm:=U (fun w'=>gE more (2*R+1) w' (by omega) (by unfold maxLen;omega) h5);obtain⟨m,hm⟩:∃ m,cI more (2*R+1)=m:=⟨_,rfl⟩
 rw[hm] at HPm lM;have hWb:=hC.W;have hRb:=hC.R;have ol:1≤n∧n≤R:=by omega
 have Zi:1≤k∧k≤n:=by omega
 have RR:m≤2*R:=by omega
 have HNI:=U (show 1+(n0:Int)=(n:Int) by omega);have HKI:=U (show 1+(k0:Int)=(k:Int) by omega);have kJ:=U aA;have HC:=U hC;clear aA hE hO hW hR U5 BL hm h1 h2 h3 h4 h5 lW lR hC
 go_enter func3,ntmps3
 go_wp2_with fail
 refine kJ.o.mono ?_;rintro e w1 ⟨g,XC,XS,rfl,vp,ee⟩
 have Yy:cH w.heap.size XC XS w1 g (wI W R):=by
  have jD:=vp.eY.st;rw[vp.cf.1,vp.cf.2] at jD;exact⟨vp.eY.bL,jD,vp.eY.hl,vp.eY.sc,vp.eY.ss⟩
 obtain⟨u1,u2,u3,P3,u4,u5,u6,u7,lt,x0,x1,hU⟩:=ah4 (ask:=fun _=>none) vp.pc HC.o ol Zi RR rs;have HU:=U hU;have ZG:=U Yy;have HPC:=U vp.pc;have HPS:=U vp.ps;have Hw1:=U ee;have d4:w1.cell? ⟨g.b,4,none⟩=some (.int .i64 R):=(show w1.cell? ⟨g.b,4,none⟩=some (.int .i64 g.R) from Yy.bL.ap.cell 4).trans (by rw[Yy.gR];rfl);clear vp ee Yy hU
 go_wp2_with fail
 refine(HPc.o w1).mono ?_;rintro e w2 ⟨rfl,dX⟩;rw[dX];clear dX d4
 go_upto_region 5 with fail
 rw[HNI.o]
 go_wp2_with fail
 go_loopg [14,16] n (fun gk ok i wr=>ok=.bool true∧∃ j:Nat,j+gk=n∧i=.int .i64 j∧∃ (pj:WP) (gj:WG),Hid (bd (fun x p=>WP.pS x p.1 p.2) (wI W R) ((NZ n).take j)=some pj)∧Hid (dL w.heap.size XC XS w1 g pj wr gj))
 case atStart=>exact⟨rfl,0,by omega,rfl,wI W R,g,U rfl,U (dL.refl ZG.o (Below.refl _ _))⟩
 case round=>
  obtain⟨rfl,j,hj,rfl,pj,gj,Ur,yF⟩:=hrel
  by_cases bC:j<n
  ·obtain⟨pj2,gY,il⟩:=kB HU.o.a1 (ac0 bC) Ur.o
   have HCj:=U (Zw yF.o.eY HPS.o (3*j) (by omega) 0 (3*(j:Int)) 0 ⟨by omega,by omega⟩ (by rw[show (3*(j:Int))=((3*j:Nat):Int) by omega];exact rD (by omega)) gY);rw[yF.o.b] at HCj;have oG:=U il;have ej:(j:Int)<(n:Int):=by omega
   clear gY il
   go_wp2_with fail
   refine HCj.o.mono ?_;rintro e w6 ⟨rfl,g6,h6⟩;have XJ:=U (yF.o.trans h6);clear h6
   go_wp2_with fail
   go_roundg (gk-1)
   case rel=>exact⟨rfl,j+1,by omega,by go_num,pj2,g6,oG,XJ⟩
   case measure=>omega
  ·have ej:¬ (j:Int)<(n:Int):=by omega
   obtain rfl:=lT HU.o.a1 (by rw[jN];omega) Ur.o;have yx:=U (Zx yF.o.eY HPC.o 0 0 0 2 ⟨by omega,by omega⟩ ⟨by omega,by omega⟩ (rD (c:=0) (by omega)) HU.o.a2);rw[yF.o.b] at yx
   go_wp2_with fail
   refine yx.o.mono ?_;rintro e w6 ⟨rfl,g6,h6⟩;have XJ:=U (yF.o.trans h6);obtain⟨sa,sc,d16,_⟩:=XJ.o.Yc HU.o.a3;have QZ:=U (Ut h6.eY (fun _=>none) HU.o.a4);rw[XJ.o.b] at QZ;clear h6
   go_wp2_with fail
   refine QZ.o.mono ?_;rintro e w7 ⟨rfl,g7,h7⟩;have DK:=U (XJ.o.trans h7);obtain⟨ta,tc,t16,QG⟩:=DK.o.Yc (N:=1) (by rw[HU.o.a5];rfl);obtain⟨ga,rfl,aK⟩:=DK.o.str (k:=0) (x:=⟨1,0,n,0,lt⟩) (by rw[HU.o.a5];rfl) QG;have c2:w7.cell? ⟨ga,2,none⟩=some (.int .i64 n):=by simpa using aK 2 _ rfl
   have c3:w7.cell? ⟨ga,3,none⟩=some (.int .i64 0):=by simpa using aK 3 _ rfl
   have d4:w7.cell? ⟨g.b,4,none⟩=some (.int .i64 R):=by
    have:=DK.o.eY.bL.ap.cell 4;rw[DK.o.b] at this;exact this.trans (by show some (Value.int .i64 g7.R)=_;rw[DK.o.eY.gR,Ye HU.o.a4,ac2 HU.o.a2,ac3 _ HU.o.a1];rfl)
   have bnn:((n:Int) != (n:Int))=false:=by simp
   clear h7 d16 aK QG
   go_wp2_with fail
   refine(HPt.o w7).mono ?_;rintro e w8 ⟨rfl,ND⟩;rw[ND];clear ND
   go_upto_region 18 with fail
   rw[HKI.o];have h2R:(2:Int)*(R:Int)+1=((2*R+1:Nat):Int):=by omega
   have an2:=U (show aT 5 #[.int .i64 more,.int .i64 (2*(R:Int)+1)] w7 (fun e w'=>e=.returned (.int .i64 m)∧w'=w7) by rw[h2R];exact HPm.o w7);clear h2R
   go_wp2_with fail
   refine an2.o.mono ?_;rintro e w9 ⟨rfl,hw9⟩;rw[hw9];clear hw9
   have d0:w7.cell? ⟨g.b,0,none⟩=some (aM g7.sb):=by
    have:=DK.o.eY.bL.ap.cell 0;rw[DK.o.b] at this;exact this
   have HRe:=U (Qw DK.o.eY);clear t16 c2 c3 d4 bnn
   go_upto_if 101 with fail
   go_cut [5] (fun s5 wx=>s5=.bool rs∧∃ g',Hid (dL w.heap.size XC XS w1 g P3 wx g'))
   case first=>
    cases rs with
    | true=>
     have nI:=U (show P3 = { ({ u3 with s:=u3.s.qT }:WP) with dN:=true } by rw[HU.o.a6];rfl)
     go_wp2_with fail
     refine HRe.o.mono ?_;rintro e w8 ⟨rfl,g8,h8⟩;have H8:=U (DK.o.trans h8)
     have d21:w8.cell? ⟨g.b,21,none⟩=some (.bool g8.dN):=by
      have:=H8.o.eY.bL.ap.cell 21;rw[H8.o.b] at this;exact this
     have f21:w8.frozen? ⟨g.b,21,none⟩=false:=by rw[← H8.o.b];exact H8.o.eY.bL.ap.aq 21
     have H9:=U (show dL w.heap.size XC XS w1 g P3 (w8.setCell ⟨g.b,21,none⟩ (.bool true)) { g8 with dN:=true } by
      rw[nI.o,← H8.o.b]
      exact H8.o.trans (Yb H8.o.eY))
     clear h8
     go_wp2_with fail
     go_meet
     case rel=>exact⟨rfl,_,H9⟩
    | false=>
     have nI:=U (show P3=u3 by rw[HU.o.a6];rfl)
     go_wp2_with fail
     go_meet
     case rel=>exact⟨rfl,g7,by rw[nI.o];exact DK⟩
   case rest=>
   obtain⟨rfl,g8,FX⟩:=hcut;clear d0
   go_wp2_with fail
   go_loopg [14,19] m (fun gk ok i wr=>ok=.bool true∧∃ j:Nat,j+gk=m∧i=.int .i64 j∧∃ (pj:WP) (gj:WG),Hid (bd (fun x p=>WP.pS x p.1 p.2) P3 ((US m).take j)=some pj)∧Hid (dL w.heap.size XC XS w1 g pj wr gj))
   case atStart=>exact⟨rfl,0,by omega,rfl,P3,g8,U rfl,FX⟩
   case round=>
    obtain⟨rfl,i,hi,rfl,pi,gi,yB,xK⟩:=hrel
    by_cases Qh:i<m
    ·obtain⟨pi2,gY,il⟩:=kB HU.o.a7 (ac1 Qh) yB.o
     have HCi:=U (Zw xK.o.eY HPS.o i (by omega) 0 (i:Int) 0 ⟨by omega,by omega⟩ (rD (by omega)) gY);rw[xK.o.b] at HCi;have oG:=U il;have acH:(i:Int)<(m:Int):=by omega
     clear gY il
     go_wp2_with fail
     refine HCi.o.mono ?_;rintro e wb ⟨rfl,gb,hb⟩;have HTb:=U (xK.o.trans hb);clear hb
     go_wp2_with fail
     go_roundg (gk-1)
     case rel=>exact⟨rfl,i+1,by omega,by go_num,pi2,gb,oG,HTb⟩
     case measure=>omega
    ·have acH:¬ (i:Int)<(m:Int):=by omega
     obtain rfl:=lT HU.o.a7 (by rw[rC];omega) yB.o;have M6:=NC xK.o.eY.bL (t:=1) (by omega) (k+1) (by rw[xK.o.eY.dO,HU.o.b8];omega) (by rw[xK.o.eY.gR];exact HU.o.b7.R) (by omega);rw[xK.o.eY.dJ,xK.o.b,show ((k+1:Nat):Int)=(k:Int)+1 by omega] at M6;obtain⟨kp,Il⟩:∃ kp,pi.eh 1 (k+1)=kp:=⟨_,rfl⟩
     rw[Il] at M6;have HKK:=U M6;have Ck:=U Il;have OP:=U (fun(wk:World) (hb:Below wr.heap.size wr wk)=>Zx (xK.o.below hb).eY HPC.o k 0 (k:Int) 1 ⟨by omega,by omega⟩ ⟨by omega,by omega⟩ (by rw[HU.o.b8];exact rD (by omega)) HU.o.a8);rw[xK.o.b] at OP;clear M6 Il
     go_wp2_with fail
     refine HKK.o.mono ?_;rintro e wk ⟨rfl,vj⟩;have HC6:=U (OP.o wk vj);have td:=U (xK.o.below vj);clear vj
     go_wp2_with fail
     refine HC6.o.mono ?_;rintro e wm ⟨rfl,gm,hm5⟩;have Bg:=U (td.o.trans hm5);obtain⟨y,hy1,Tt⟩:=HU.o.b1;obtain⟨sa,sc,d16,CT⟩:=Bg.o.Yc HU.o.a9;obtain⟨gy,rfl,Yf⟩:=Bg.o.str hy1 CT
     have c6:wm.cell? ⟨gy,6,none⟩=some (.int .i64 k):=by
      have:=Yf 1 _ rfl;rw[Tt] at this;simpa using this
     have HC7:=U (ahM Bg.o.eY 0 0 0 HU.o.b2);rw[Bg.o.b] at HC7;have bkk:((k:Int) != (k:Int))=false:=by simp
     clear hm5 hy1 Tt CT Yf
     go_wp2_with fail
     refine HC7.o.mono ?_;rintro e wn ⟨rfl,gn,hn5⟩;have HTn:=U (Bg.o.trans hn5);have HC8:=U (Ut HTn.o.eY (fun _=>none) HU.o.b3);rw[HTn.o.b] at HC8;clear hn5 d16 c6 bkk
     go_wp2_with fail
     refine HC8.o.mono ?_;rintro e wo ⟨rfl,go,ho5⟩;have HTo:=U (HTn.o.trans ho5);obtain⟨sa,sc,d16,CT⟩:=HTo.o.Yc (N:=2) (by rw[HU.o.b4];rfl);obtain⟨gy,rfl,Yf⟩:=HTo.o.str (k:=1) (x:=x1) (by rw[HU.o.b4];rfl) CT;have e5:wo.cell? ⟨gy,5,none⟩=some (.int .i64 x1.aG):=by simpa using Yf 0 _ rfl
     have e6:wo.cell? ⟨gy,6,none⟩=some (.int .i64 x1.start):=by simpa using Yf 1 _ rfl
     have e7:wo.cell? ⟨gy,7,none⟩=some (.int .i64 x1.aE):=by simpa using Yf 2 _ rfl
     have e8:wo.cell? ⟨gy,8,none⟩=some (.int .i64 x1.ended):=by simpa using Yf 3 _ rfl
     have e9:wo.cell? ⟨gy,9,none⟩=some (.bool x1.ni):=by simpa using Yf 4 _ rfl
     have Hwo:=U (HTo.o.o ZG.o Hw1.o);obtain⟨wz,Cz,aW,cz⟩:=cS wo [.int .i64 x1.aG,.int .i64 x1.start,.int .i64 x1.aE,.int .i64 x1.ended,.bool x1.ni] 44;have v2:=cz.ce 2 rfl;have v3:=cz.ce 3 rfl;have Hwz:=U (Hwo.o.trans (aW.mono Hwo.o.size));have BJ:n+m≤100:=by omega
     have awe:k≤n+m:=by omega
     clear ho5 CT Yf aW cz
     cases rs with
     | true=>
      obtain⟨f1,f2⟩:=HU.o.b5 rfl;rw[f1] at v3;rw[f2] at v2;have Zv:=U (show decide ((k:Int)≤(n:Int)+(m:Int))=true from decide_eq_true (by omega));clear f1 f2
      go_wp2_with fail
      go_ret
      exact⟨congrArg (fun b=>Ending.returned (Value.bool b)) Zv.o,Hwz.o⟩
     | false=>
      obtain⟨f1,f2⟩:=HU.o.b6 rfl;have Il:kp=decide (n+m<k+1+R):=by rw[← Ck.o];exact f2
      by_cases hg:n+m<k+1+R
      ·obtain⟨q1,q2⟩:=f1.b (by omega)
       rw[decide_eq_true hg] at Il;subst Il;rw[q1] at v3;rw[q2] at v2;have bl:(((n+m-k:Nat):Int)==(n:Int)+(m:Int)-(k:Int))=true:=by simp;omega
       clear f1 f2 q1 q2 hg
       go_wp2_with fail
       go_ret
       exact⟨rfl,Hwz.o⟩
      ·obtain⟨q1,q2⟩:=f1.a (by omega)
       rw[decide_eq_false hg] at Il;subst Il;rw[q1] at v3;rw[q2] at v2;clear f1 f2 q1 q2 hg
       go_wp2_with fail
       go_ret
       exact⟨rfl,Hwz.o⟩
end Go.Proofs.YtkpfplbmmglkkaaGreatDoor
