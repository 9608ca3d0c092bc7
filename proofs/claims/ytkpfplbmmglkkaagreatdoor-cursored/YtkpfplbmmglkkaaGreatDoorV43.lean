/- Cursored without memory: part A. -/
import Derived.Test.YtkpfplbmmglkkaaGreatDoorV36
set_option linter.all false
namespace Go.Proofs.YtkpfplbmmglkkaaGreatDoor
variable {L A l:List aS}{p:aS}{a b i W tk ss k n y R r m cn bg cW lh nx md:Nat}{f:cY}{t:jS}{o:pH}{x:gp}{F:List cY}{α β:Type}{s:dQ}{bp:vh}{v d:ByteArray}{S:List dQ}{Ts:List jS}{up cur:Bool}
open Go.RowKit
theorem bU(hp:¬ p∈L)(hl:L.length<60):bo true L p=L++[p]:=by
 unfold bo;rw[if_pos ⟨rfl,hp,hl⟩]
theorem lU{u:Bool}(hp:p∈L):bo u L p=L:=by
 unfold bo;rw[if_neg (fun e=>e.2.1 hp)]
theorem Qj(hl:L.length<60):lF true L p=true:=by
 unfold lF;simp[hl]
def dh(a b:Nat):List Nat:=List.range' (a+1) (b-a)
theorem eu(a:Nat):dh a a=[]:=by unfold dh;simp
theorem NL(h:b≤a):dh a b=[]:=by unfold dh;rw[show b-a=0 by omega];rfl
theorem fV(a b:Nat):(dh a b).length=b-a:=by unfold dh;simp
theorem mu:i∈dh a b↔a<i∧i≤b:=by
 unfold dh;rw[List.mem_range'_1];omega
theorem uU{c:Nat}(h1:a≤b)(h2:b≤c):dh a b++dh b c=dh a c:=by
 unfold dh;have:=List.range'_append_1 (s:=a+1) (m:=b-a) (n:=c-b);rw[show a+1+(b-a)=b+1 by omega,show b-a+(c-b)=c-a by omega] at this;exact this
theorem kF(h:a<b):dh a b=(a+1)::dh (a+1) b:=by
 unfold dh;rw[show b-a=(b-(a+1))+1 by omega,List.range'_succ]
theorem DQ(h:a≤b):dh a (b+1)=dh a b++[b+1]:=by
 rw[← uU h (Nat.le_succ b),kF (Nat.lt_succ_self b),eu]
theorem wQ{mk:Nat→aS}(inj:∀ i j,mk i=mk j→i=j):∀ (n az:Nat) (L:List aS),(∀ i,az<i→¬ mk i∈L)→L.length+n≤60→kP true mk n az L=(az+n,L++(dh az (az+n)).map mk)
 | 0,az,L,_,_=>by simp[kP,eu]
 | n+1,az,L,h,hl=>by
  have hp:=h (az+1) (Nat.lt_succ_self _);unfold kP
  rw[if_pos (Qj (by omega)),bU hp (by omega),wQ inj n (az+1) (L++[mk (az+1)]) (fun i hi hm=>by
   rcases List.mem_append.1 hm with e | e
   ·exact h i (by omega) e
   ·have:=inj _ _ (List.mem_singleton.1 e)
    omega) (by simp;omega)]
  refine Prod.ext (by simp only;omega) ?_;simp only;rw[show az+(n+1)=az+1+n by omega,kF (show az<az+1+n by omega)];simp
theorem wR(tk ss:Nat)(t:jS)(f:cY)(i j:Nat)(h:eJ tk ss t f i=eJ tk ss t f j):i=j:=by
 unfold eJ at h;exact(aS.mk.inj h).2.2.2.2.1
def gQ(W N b i:Nat):Nat:=max b (min N (i+W))
def mv(W tk ss:Nat)(t:jS):List Nat→cY × List aS→cY × List aS
 | [],x=>x
 | i::r,x=>mv W tk ss t r (cw true W tk ss t (SP.cY.bK i x.1) x.2)
theorem wS(W tk ss:Nat)(t:jS):∀ (l m:List Nat) (x:cY × List aS),mv W tk ss t (l++m) x=mv W tk ss t m (mv W tk ss t l x)
 | [],_,_=>rfl
 | i::r,m,x=>wS W tk ss t r m _
theorem Uw(h1:f.aX<i)(h2:i≤f.az):SP.cY.bK i f = { f with aX:=i }:=by
 unfold SP.cY.bK;rw[if_neg (by omega),show max f.az i=f.az by omega]
theorem DR(hm:f.ey=false)(hf:t.first≤f.aX+1)(Es:f.aX≤f.az)(FY:f.az≤t.count)(zO:∀ i,f.az<i→¬ eJ tk ss t f i∈L)(hl:L.length+(t.count-f.az)≤60)(hs:f.az≤f.aX+W):
  ∀ (i:Nat),f.aX≤i→i≤f.az→(i=f.aX∨t.bD=false∨i<t.count)→mv W tk ss t (dh f.aX i) (f,L)=({ f with aX:=i,az:=if i=f.aX then f.az else gQ W t.count f.az i },L++(dh f.az (if i=f.aX then f.az else gQ W t.count f.az i)).map (eJ tk ss t f)):=by
 intro i
 induction i with
 | zero=>
  intro h1 h2 h3;have e:f.aX=0:=by omega
  rw[e,eu,if_pos rfl,eu];obtain⟨a,b,c,d,e'⟩:=f;simp at e;subst e;simp[mv]
 | succ i ih=>
  intro h1 h2 h3
  by_cases he:i+1=f.aX
  ·rw[if_pos he,he,eu,eu]
   simp[mv]
  ·have h1':f.aX≤i:=by omega
   have h3':i=f.aX∨t.bD=false∨i<t.count:=by omega
   have ih':=ih h1' (by omega) h3';rw[DQ h1',wS,ih',if_neg he];obtain⟨S,hS⟩:∃ S,(if i=f.aX then f.az else gQ W t.count f.az i)=S:=⟨_,rfl⟩
   have TW:f.az≤S∧S≤t.count∧S≤gQ W t.count f.az (i+1):=by
    rw[← hS];unfold gQ
    split<;>omega
   rw[hS];unfold mv;rw[Uw (by simp only;omega) (by simp only;omega)];simp only[mv]
   have e1:(cw true W tk ss t { number:=f.number,aG:=f.aG,aX:=i+1,az:=S,ey:=f.ey } (L++List.map (eJ tk ss t f) (dh f.az S)))=({ f with aX:=i+1,az:=gQ W t.count f.az (i+1) },L++(dh f.az (gQ W t.count f.az (i+1))).map (eJ tk ss t f)):=by
    unfold cw
    rw[if_neg (by simp[hm]),if_neg (by simp only;omega),if_neg (by
     simp only;intro e
     rcases h3 with h | h | h
     ·omega
     ·rw[h] at e;cases e.1
     ·omega)]
    have V3:min t.count (i+1+W)-S=gQ W t.count f.az (i+1)-S:=by
     unfold gQ;have:S≤t.count:=TW.2.1
     rcases Nat.le_total f.az (min t.count (i+1+W)) with h | h
     ·rw[Nat.max_eq_right h]
     ·rw[Nat.max_eq_left h];omega
    have hST:gQ W t.count f.az (i+1)≤t.count:=by unfold gQ;omega
    simp only
    rw[V3,show eJ tk ss t { number:=f.number,aG:=f.aG,aX:=i+1,az:=S,ey:=f.ey } = eJ tk ss t f from rfl,
     wQ (wR tk ss t f) _ S _ (fun j hj GI=>by
      rcases List.mem_append.1 GI with e | e
      ·exact zO j (by omega) e
      ·obtain⟨k,hk,hke⟩:=List.mem_map.1 e
       have:=wR _ _ _ _ _ _ hke;have:=(mu.1 hk).2
       omega) (by simp[fV];omega)]
    rw[show S+(gQ W t.count f.az (i+1)-S)=gQ W t.count f.az (i+1) by omega,List.append_assoc,← List.map_append,uU TW.1 TW.2.2]
   exact e1
theorem Qk(hm:f.ey=false)(hf:t.first≤f.aX+1)(Es:f.aX<f.az)(FY:f.az=t.count)(rG:t.bD=true)(zO:∀ i,f.az<i→¬ eJ tk ss t f i∈L)(hfp:¬ aw 9 tk ss f.number t.count∈L)(hl:L.length+1≤60)(hs:f.az≤f.aX+W):
  mv W tk ss t (dh f.aX f.az) (f,L)=({ f with aX:=t.count },L++[aw 9 tk ss f.number t.count]):=by
 obtain⟨i,hi⟩:∃ i,f.az=i+1:=⟨f.az-1,by omega⟩
 have h1:=DR (W:=W) (tk:=tk) (ss:=ss) hm hf (by omega) (by omega) zO (by omega) hs i (by omega) (by omega) (by omega)
 have e0:(if i=f.aX then f.az else gQ W t.count f.az i)=f.az:=by
  split
  ·rfl
  ·unfold gQ;omega
 rw[e0,eu,List.map_nil,List.append_nil] at h1;rw[hi,DQ (by omega),wS,h1];simp only[mv];rw[Uw (by simp only;omega) (by simp only;omega)];unfold cw;rw[if_neg (by simp[hm]),if_neg (by simp only;omega),if_pos ⟨rG,by simp only;omega⟩,bU hfp (by omega)];simp only;rw[show i+1=t.count by omega,FY]
theorem L0(ask:SP.jX)(W:Nat)(s:SP)(t n i p:Nat):s.take ask W (aw 0 t n i p)=(oY s).zv (aw 0 t n i p):=rfl
theorem Bj(ask:SP.jX)(W:Nat)(s:SP)(t n i p:Nat):s.take ask W (aw 1 t n i p)=(oY s).BZ W (aw 1 t n i p):=rfl
theorem L5(ask:SP.jX)(W:Nat)(s:SP)(t n i p:Nat)(d:ByteArray):s.take ask W ⟨2,t,n,i,p,d⟩=(oY s).cA W ⟨2,t,n,i,p,d⟩:=rfl
theorem L6(ask:SP.jX)(W:Nat)(s:SP)(t n i p:Nat):s.take ask W (aw 4 t n i p)=(oY s).aX W (aw 4 t n i p):=rfl
theorem L7(ask:SP.jX)(W:Nat)(s:SP)(t n i p:Nat):s.take ask W (aw 5 t n i p)=(oY s).done W (aw 5 t n i p):=rfl
theorem lg{s:SP}(h:s.aY=some o):oY s = { s with aY:=some { o with silence:=0 } }:=by unfold oY;rw[h]
def SP.eG(s:SP)(o:pH)(F:List cY)(L:List aS):SP:={ s with aY:=some { o with silence:=0,af:=F },L:=L }
theorem Ux{ask:SP.jX}{s:SP}{x:Nat}(hs:s.aY=some o)(hc:s.cur=true)(hu:s.up=true)(n i:Nat)(hx:o.af.findIdx? (fun f=>decide (f.number=n))=some x)(hf:o.af[x]? = some f)(hi:f.aX<i)(ht:s.au[f.aG]? = some t):
  s.take ask W (aw 4 o.ah o.number n i)=s.eG o (o.af.set x (cw true W o.ah o.number t (SP.cY.bK i f) s.L).1) (cw true W o.ah o.number t (SP.cY.bK i f) s.L).2:=by
 have Yr:x<o.af.length:=(List.getElem?_eq_some_iff.1 hf).1;rw[L6,lg hs];unfold aw SP.aX SP.cG;simp only[hc,if_true];rw[hx];simp only;rw[hf];simp only;rw[if_neg (by omega)];unfold SP.fP;have e:(o.af.set x (SP.cY.bK i f))[x]? = some (SP.cY.bK i f):=by simp[Yr]
 have e2:(SP.cY.bK i f).aG=f.aG:=by unfold SP.cY.bK;split<;>rfl
 simp only[e,e2,ht,hu,List.set_set];unfold SP.eG;simp only[hc,hu]
theorem Ql{ask:SP.jX}{s:SP}(hs:s.aY=some o)(hc:s.cur=true)(ha:o.aC=[])(n:Nat):
  s.take ask W (aw 5 o.ah o.number n 0)=s.eG o (o.af.filter (fun f=>!decide (f.number=n))) s.L:=by
 rw[L7,lg hs];unfold aw SP.done SP.cG;simp only[hc,if_true,ha];unfold SP.eG;simp[ha,hc]
theorem zb.eG{s:SP}(h:zb s)(hs:s.aY=some o)(hF:∀ f∈F,f.aX≤f.az∧f.az≤1000000000000∧f.aG<s.au.length)(hl:F.length≤1000000):zb (s.eG o F L):=by
 refine⟨⟨⟨h.sm.tp,fun o' mz f hf=>?_,fun o' mz=>?_⟩,fun o' mz=>?_,h.sm.nn,h.sm.ow⟩,h.tl,fun o' mz=>?_⟩<;>(cases Option.some.inj mz;first | exact hF f hf | exact⟨hl,(h.sm.ln o hs).2⟩ | exact⟨Nat.zero_le _,(h.sm.sl o hs).2⟩ | exact h.an o hs)
theorem bV{t s p:Nat}(hk:k<256)(ht:t<1000000)(hs:s<1000000)(hn:n<1000000)(hp:p<1000000):pW (aw k t s n p)=true:=by
 unfold pW aw;simp[hk,ht,hs,hn,hp];show 0≤79;omega
def WP.cN(w:WP)(s:SP):WP:={ w with bj:=0,s:=s }
structure nA(w:WP):Prop where
 at_:w.lG=w.lS
 up:w.s.gl (w.lS:Int)=true
theorem nA.cN{w:WP}{s:SP}(h:nA w)(hu:s.gl (w.lS:Int)=true):nA (w.cN s):=⟨h.at_,hu⟩
theorem NM{s:SP}{c:Int}(h:s.gl c=true):s.up=true:=by
 unfold SP.gl at h;simp at h;exact h.1
theorem aaa{s:SP}{x:Nat}(hs:s.aY=some o)(hc:s.cur=true)(hx:o.af.findIdx? (fun f=>decide (f.number=n))=some x)(hf:o.af[x]? = some f)(hi:f.aX<i):IX s (aw 4 o.ah o.number n i)=true:=by
 have hg:ack o (aw 4 o.ah o.number n i)=true:=by
  unfold ack;rw[show o.af.findIdx? (fun f=>decide (f.number=(aw 4 o.ah o.number n i).number))=some x from hx];simp only[hf];exact decide_eq_true hi
 unfold IX;rw[hs];show (decide (o.number=o.number)&&(decide (4=1)||(s.cur&&ack o (aw 4 o.ah o.number n i))))=true;rw[hc,hg];simp
theorem fE{ask:SP.jX}{w:WP}(h:nA w)(hk:zb w.s)(hp:pW p=true)(iD:IX w.s p=true)(jt:∀ o,w.s.aY=some o→o.ah=p.ah):w.dq ask p=some (w.cN (w.s.take ask w.W p)):=by
 unfold WP.dq;rw[if_pos (IZ.2 ⟨hk,hp,iD,h.at_,h.up,jt⟩)];rfl
theorem X1(w:WP)(s s':SP):(w.cN s).cN s'=w.cN s':=rfl
theorem aV(f:β → α → Option β)(w:β)(a:α)(l:List α):bd f w (a::l)=(f w a).bind (fun x=>bd f x l):=by
 have:=kA f w [a] l;rw[show ([a]++l)=a::l from rfl] at this;rw[this];rfl
theorem ji{p:α → Bool}:∀ {F:List α} {x:Nat} {f f':α},F[x]? = some f→p f'=p f→(F.set x f').findIdx? p=F.findIdx? p
 | [],x,_,_,h,_=>by simp at h
 | a::r,0,f,f',h,hp=>by
  obtain rfl:a=f:=by simpa using h
  simp[List.findIdx?_cons,hp]
 | a::r,x+1,f,f',h,hp=>by
  have:=ji (F:=r) (x:=x) (f:=f) (f':=f') (by simpa using h) hp;simp[List.findIdx?_cons,this]
theorem acN(i:Nat)(f:cY):(SP.cY.bK i f).number=f.number∧(SP.cY.bK i f).aG=f.aG∧(SP.cY.bK i f).ey=f.ey∧(f.aX<i→(SP.cY.bK i f).aX=i∧(SP.cY.bK i f).az=max f.az i):=by
 unfold SP.cY.bK
 split
 ·exact⟨rfl,rfl,rfl,fun h=>by omega⟩
 ·exact⟨rfl,rfl,rfl,fun _=>⟨rfl,rfl⟩⟩
theorem o4{F:List α}{x:Nat}{a b:α}(h:b∈F.set x a):b=a∨b∈F:=by
 rcases List.mem_or_eq_of_mem_set h with e | e
 ·exact Or.inr e
 ·exact Or.inl e
theorem Bk{ask:SP.jX}{x:Nat}:∀ (l:List Nat) (w:WP) (o:pH) (f:cY),nA w→zb w.s→w.s.aY=some o→w.s.cur=true→o.ah<1000000→o.number<1000000→n<1000000→o.af.findIdx? (fun f=>decide (f.number=n))=some x→o.af[x]? = some f→w.s.au[f.aG]? = some t→t.count≤1000→f.az≤1000→l.Pairwise (· < ·)→(∀ i∈l,f.aX<i∧i≤1000) →
  bd (WP.dq ask) w (l.map (fun i=>aw 4 o.ah o.number n i))=some (if l=[] then w else w.cN (w.s.eG o (o.af.set x (mv w.W o.ah o.number t l (f,w.s.L)).1) (mv w.W o.ah o.number t l (f,w.s.L)).2)):=by
 intro l
 induction l with
 | nil=>intros;rfl
 | cons i r ih=>
  intro w o f hC hO hs hc jt BJ hn hx hf ht Nb JJ hpw hl;obtain⟨hi,Dg⟩:=hl i (List.mem_cons_self ..);have Yr:x<o.af.length:=(List.getElem?_eq_some_iff.1 hf).1;rw[List.map_cons,aV,fE hC hO (bV (by decide) jt BJ hn (by omega)) (aaa hs hc hx hf hi) (fun o' mz=>by rw[hs] at mz;cases mz;rfl),Ux hs hc (NM hC.up) n i hx hf hi ht];obtain⟨a1,a2,a3,a4⟩:=acN i f;obtain⟨a4,a5⟩:=a4 hi;obtain⟨b1,b2,b3,b4,b5,b6⟩:=AY true w.W o.ah o.number t (SP.cY.bK i f) w.s.L;obtain⟨P,hP⟩:∃ P,cw true w.W o.ah o.number t (SP.cY.bK i f) w.s.L=P:=⟨_,rfl⟩
  rw[hP] at b1 b2 b3 b4 b5 b6 ⊢;have hft:=(List.getElem?_eq_some_iff.1 ht).1
  have hO2:zb (w.s.eG o (o.af.set x P.1) P.2):=hO.eG hs (fun f' hf'=>by
   rcases o4 hf' with rfl | e
   ·exact⟨by omega,by omega,by rw[b2,a2];exact hft⟩
   ·exact hO.sm.fd o hs f' e) (by rw[List.length_set];exact(hO.sm.ln o hs).1)
  rw[Option.bind_some];have YV:nA (w.cN (w.s.eG o (o.af.set x P.1) P.2)):=hC.cN hC.up;have key:=ih (w.cN (w.s.eG o (o.af.set x P.1) P.2)) { o with silence:=0,af:=o.af.set x P.1 } P.1 YV hO2 rfl hc jt BJ hn ((ji hf (by rw[b1,a1])).trans hx) (by simp[Yr]) (by rw[b2,a2];exact ht) Nb (by omega) (List.pairwise_cons.1 hpw).2 (fun j hj=>⟨by have:=(List.pairwise_cons.1 hpw).1 j hj;omega,(hl j (List.mem_cons_of_mem _ hj)).2⟩);refine key.trans (congrArg some ?_);rw[if_neg (List.cons_ne_nil i r)]
  by_cases hr:r=[]
  ·subst hr
   simp[mv,hP]
  ·rw[if_neg hr]
   simp only[mv,hP];show (w.cN _).cN _=_;rw[X1];unfold SP.eG;simp only[WP.cN,List.set_set]
theorem I8(bp:vh)(R:Nat)(c:CP)(t n i p:Nat):c.take bp R (aw 6 t n i p)=({ c with silence:=0 }:CP).qS (aw 6 t n i p):=rfl
theorem xN(bp:vh)(R:Nat)(c:CP)(t n i p:Nat):c.take bp R (aw 7 t n i p)=({ c with silence:=0 }:CP).fH (aw 7 t n i p):=rfl
theorem I9(bp:vh)(R:Nat)(c:CP)(t n i p:Nat)(d:ByteArray):c.take bp R ⟨8,t,n,i,p,d⟩=({ c with silence:=0 }:CP).D7 bp R ⟨8,t,n,i,p,d⟩:=rfl
theorem Ja(bp:vh)(R:Nat)(c:CP)(t n i p:Nat):c.take bp R (aw 9 t n i p)=({ c with silence:=0 }:CP).zu (aw 9 t n i p):=rfl
theorem Fz(bp:vh)(R:Nat)(c:CP)(t n i p:Nat):c.take bp R (aw 10 t n i p)=({ c with silence:=0 }:CP).ZE (aw 10 t n i p):=rfl
abbrev jJ(n:Nat):dQ→Bool:=fun s=>decide (s.aR=n)&&decide (s.bD=0)
def CP.fk(c:CP)(S:List dQ)(A L:List aS):CP:={ c with silence:=0,ae:=S,aB:=A,L:=L }
theorem xO{l:List α}{s:α}(h:l[y]? = some s)(f:α → α):l.modify y f=l.set y (f s):=by
 apply List.ext_getElem?;intro j;have hl:y<l.length:=(List.getElem?_eq_some_iff.1 h).1;rw[List.getElem?_modify,List.getElem?_set]
 by_cases e:y=j
 ·subst e
  rw[h];simp[hl]
 ·simp[e]
theorem mw{c:CP}(ho:c.fO p=true)(hy:c.ae.findIdx? (jJ p.number)=some y)(hs:c.ae[y]? = some s)(φ:dQ→dQ):c.kO p φ = { c with ae:=c.ae.set y (φ s) }:=by
 have e:c.ew p=some y:=by unfold CP.ew;rw[if_pos ho];exact hy
 unfold CP.kO;rw[e];simp only;rw[xO hs]
theorem DS(h:∀ r∈A,n<r.number):A.filter (fun r=>!decide (r.number<n+1))=A:=by
 rw[List.filter_eq_self];intro r hr;have:=h r hr;simp;omega
theorem Qm{c:CP}(ho:c.fO p=true)(hy:c.ae.findIdx? (jJ p.number)=some y)(hs:c.ae[y]? = some s)(hA:∀ r∈c.aB,p.number<r.number):c.qb p = { c with L:=bo c.up c.L (aw 4 c.ah c.ag p.number s.aX) }:=by
 unfold CP.qb;rw[if_pos ho];have e0:c.qa (p.number+1)=c:=by unfold CP.qa;rw[DS hA]
 have e1:c.ew p=some y:=by unfold CP.ew;rw[if_pos ho];exact hy
 simp only[e0,e1,hs];rfl
theorem DT{c:CP}(ho:c.fO p=true)(hy:c.ae.findIdx? (jJ p.number)=none)(hA:∀ r∈c.aB,p.number<r.number):c.qb p = { c with L:=bo c.up c.L (aw 5 c.ah c.ag p.number 0) }:=by
 unfold CP.qb;rw[if_pos ho];have e0:c.qa (p.number+1)=c:=by unfold CP.qa;rw[DS hA]
 have e1:c.ew p=none:=by
  unfold CP.ew;rw[if_pos ho];exact hy
 simp only[e0,e1];rfl
theorem ours{c:CP}(hs:c.ag≠0)(h1:p.ah=c.ah)(h2:p.ag=c.ag):c.fO p=true:=by
 unfold CP.fO;simp[hs,h1,h2]
theorem Qn{c:CP}(h0:c.ag≠0)(hy:c.ae.findIdx? (jJ n)=some y)(hs:c.ae[y]? = some s)(hi:i=s.aX+1)(hv:s.ak.length<R)(hd:bp s.base d.toList=some v)(hA:∀ r∈c.aB,n<r.number):
  c.take bp R ⟨8,c.ah,c.ag,n,i,d⟩=c.fk (c.ae.set y { s with ak:=s.ak++[v],aX:=s.aX+1 }) c.aB (bo c.up c.L (aw 4 c.ah c.ag n (s.aX+1))):=by
 have hl:y<c.ae.length:=(List.getElem?_eq_some_iff.1 hs).1;have ho:({ c with silence:=0 }:CP).fO ⟨8,c.ah,c.ag,n,i,d⟩=true:=ours h0 rfl rfl;rw[I9];unfold CP.D7;rw[mw (c:={ c with silence:=0 }) ho hy hs]
 have e:dQ.add bp R ⟨8,c.ah,c.ag,n,i,d⟩ s = { s with ak:=s.ak++[v],aX:=s.aX+1 }:=by
  unfold dQ.add;rw[if_pos ⟨hi,hv⟩];simp only[hd]
 rw[e];exact Qm (c:={ c with silence:=0,ae:=c.ae.set y { s with ak:=s.ak++[v],aX:=s.aX+1 } }) (p:=⟨8,c.ah,c.ag,n,i,d⟩) (y:=y) (s:={ s with ak:=s.ak++[v],aX:=s.aX+1 }) (ours h0 rfl rfl) ((ji (p:=jJ n) (f':={ s with ak:=s.ak++[v],aX:=s.aX+1 }) hs rfl).trans hy) (by simp[hl]) hA
theorem Uy{c:CP}(h0:c.ag≠0)(hy:c.ae.findIdx? (jJ n)=some y)(hs:c.ae[y]? = some s)(hk:(k=9∧s.aX=i)∨(k=10∧s.aX<i))(hA:∀ r∈c.aB,n<r.number){e:Nat}(he:(k=9∧e=2)∨(k=10∧e=s.cut))(hf:s.bD=0)(hn:(c.ae.set y { s with bD:=e }).findIdx? (jJ n)=none):
  c.take bp R (aw k c.ah c.ag n i)=c.fk (c.ae.set y { s with bD:=e }) c.aB (bo c.up c.L (aw 5 c.ah c.ag n 0)):=by
 have hF:∀ e,s.finish e = { s with bD:=e }:=fun e=>by unfold dQ.finish;rw[if_pos hf]
 rcases hk with⟨rfl,h2⟩ | ⟨rfl,h2⟩
 ·obtain⟨_,rfl⟩ | ⟨h,_⟩:=he
  ·rw[Ja]
   unfold CP.zu;rw[mw (c:={ c with silence:=0 }) (p:=aw 9 c.ah c.ag n i) (ours h0 rfl rfl) hy hs];have e1:(if s.aX=(aw 9 c.ah c.ag n i).ai then s.finish 2 else s) = { s with bD:=2 }:=by rw[if_pos (show s.aX=(aw 9 c.ah c.ag n i).ai from h2),hF]
   rw[e1];exact DT (c:={ c with silence:=0,ae:=c.ae.set y { s with bD:=2 } }) (p:=aw 9 c.ah c.ag n i) (ours h0 rfl rfl) hn hA
  ·cases h
 ·obtain⟨h,_⟩ | ⟨_,rfl⟩:=he
  ·cases h
  ·rw[Fz]
   unfold CP.ZE;rw[mw (c:={ c with silence:=0 }) (p:=aw 10 c.ah c.ag n i) (ours h0 rfl rfl) hy hs];have e1:(if s.aX<(aw 10 c.ah c.ag n i).ai then s.finish s.cut else s) = { s with bD:=s.cut }:=by rw[if_pos (show s.aX<(aw 10 c.ah c.ag n i).ai from h2),hF]
   rw[e1];exact DT (c:={ c with silence:=0,ae:=c.ae.set y { s with bD:=s.cut } }) (p:=aw 10 c.ah c.ag n i) (ours h0 rfl rfl) hn hA
theorem tC.fk{c:CP}(h:tC c)(hS:∀ s∈S,gx s)(hl:S.length≤400)(hA:A.length≤1000):tC (c.fk S A L) :=
 ⟨⟨hA,by show S.length≤1000;omega,h.sm.ca,h.sm.at_,Nat.zero_le _,h.sm.n⟩,hS,hl,h.md⟩
def WP.dM(w:WP)(c:CP):WP:={ w with bh:=0,c:=c }
structure tG(w:WP):Prop where
 at_:w.lG=w.lS
 up:w.c.gl (w.lG:Int)=true
theorem Uz{c:CP}{k:Int}(h:c.gl k=true):c.up=true:=by
 unfold CP.gl at h;simp at h;exact h.1
theorem lV{w:WP}(h:tG w)(hk:tC w.c)(hp:pW p=true)(iD:Ud w.R w.c p=true):w.cF bp p=some (w.dM (w.c.take bp w.R p)):=by
 unfold WP.cF;rw[if_pos (I0.2 ⟨hk,hp,iD,h.at_,h.up⟩)];rfl
theorem UA{c:CP}{f:dQ→Bool}(h0:c.ag≠0)(hy:c.ae.findIdx? (jJ n)=some y)(hs:c.ae[y]? = some s)(hf:f s=true):rdB c ⟨k,c.ah,c.ag,n,i,d⟩ f=true:=by
 have e:c.ew ⟨k,c.ah,c.ag,n,i,d⟩=some y:=(if_pos (by simp[CP.fO,h0])).trans hy;unfold rdB;rw[e];simp only[hs,hf]
theorem Jb{dat:Nat→ByteArray}{val:Nat→ByteArray}(hb:b≤1000):∀ (m a:Nat) (w:WP) (s:dQ),b=a+m→tG w→tC w.c→w.c.ag≠0→w.c.ah<1000000→w.c.ag<1000000→n<1000000→w.c.ae.findIdx? (jJ n)=some y→w.c.ae[y]? = some s→s.aX=a→(∀ r∈w.c.aB,n<r.number)→s.ak.length+m≤w.R→s.ak.length+m≤1000→(∀ i,a<i→i≤b→bp s.base (dat i).toList=some (val i)∧(dat i).size≤79)→(∀ i,a<i→¬ aw 4 w.c.ah w.c.ag n i∈w.c.L)→w.c.L.length+m≤60 →
  bd (WP.cF bp) w ((dh a b).map (fun i=>⟨8,w.c.ah,w.c.ag,n,i,dat i⟩))=some (if m=0 then w else w.dM (w.c.fk (w.c.ae.set y { s with ak:=s.ak++(dh a b).map val,aX:=b }) w.c.aB (w.c.L++(dh a b).map (fun i=>aw 4 w.c.ah w.c.ag n i)))):=by
 intro m
 induction m with
 | zero=>
  intro a w s Es
  intros
  rw[NL (by omega)];rfl
 | succ m ih=>
  intro a w s Es hC hO h0 jt CT hn hy hs hg hA hR mC hd zO hl;have hyl:y<w.c.ae.length:=(List.getElem?_eq_some_iff.1 hs).1;have vW:=hd (a+1) (by omega) (by omega)
  have wZ:pW ⟨8,w.c.ah,w.c.ag,n,a+1,dat (a+1)⟩=true:=by
   unfold pW;simp[jt,CT,hn,vW.2];omega
  rw[kF (by omega),List.map_cons,aV,lV hC hO wZ (UA h0 hy hs (by simp;omega)),Qn h0 hy hs (by omega) (by omega) vW.1 hA,hg,Uz hC.up,bU (zO (a+1) (by omega)) (by omega),Option.bind_some];have Qo:=hO.st s (List.mem_of_getElem? hs)
  have hO2:tC (w.c.fk (w.c.ae.set y { s with ak:=s.ak++[val (a+1)],aX:=a+1 }) w.c.aB (w.c.L++[aw 4 w.c.ah w.c.ag n (a+1)])):=hO.fk (fun s' Rx=>by
   rcases o4 Rx with rfl | e
   ·exact⟨Qo.nm,by show a+1≤_;omega,by simp;omega,by have:=Qo.vg;simp;omega,Qo.fn⟩
   ·exact hO.st s' e) (by rw[List.length_set];exact hO.sl) hO.sm.a
  have key:=ih (a+1) (w.dM (w.c.fk (w.c.ae.set y { s with ak:=s.ak++[val (a+1)],aX:=a+1 }) w.c.aB (w.c.L++[aw 4 w.c.ah w.c.ag n (a+1)]))) { s with ak:=s.ak++[val (a+1)],aX:=a+1 } (by omega) ⟨hC.at_,hC.up⟩ hO2 h0 jt CT hn ((ji (p:=jJ n) (f':={ s with ak:=s.ak++[val (a+1)],aX:=a+1 }) hs rfl).trans hy) (by show (w.c.ae.set y _)[y]? = _;simp[hyl]) rfl hA (by simp;show _≤w.R;omega) (by simp;omega) (fun i h1 h2=>hd i (by omega) h2) (fun i hi hm=>by
   rcases List.mem_append.1 hm with e | e
   ·exact zO i (by omega) e
   ·have:=(aS.mk.inj (List.mem_singleton.1 e)).2.2.2.2.1
    omega) (by show (w.c.L++[_]).length+m≤60;simp;omega)
  refine key.trans (congrArg some ?_);rw[if_neg (Nat.succ_ne_zero m)]
  by_cases hm:m=0
  ·subst hm
   rw[if_pos rfl,NL (a:=a+1) (b:=b) (by omega)];rw[show b=a+1 by omega];rfl
  ·rw[if_neg hm]
   show (w.dM _).dM _=_;unfold CP.fk;simp[WP.dM,List.set_set,List.append_assoc]
theorem uV{p:α → Bool}{pre post:List α}{f:α}(h:∀ a∈pre,p a=false)(hf:p f=true):(pre++f::post).findIdx? p=some pre.length:=by
 induction pre with
 | nil=>simp[List.findIdx?_cons,hf]
 | cons a r ih=>
  rw[List.cons_append,List.findIdx?_cons,h a (List.mem_cons_self ..)];simp[ih (fun b hb=>h b (List.mem_cons_of_mem _ hb))]
theorem Qp{p:α → Bool}{l:List α}(h:∀ a∈l,p a=false):l.findIdx? p=none:=by
 rw[List.findIdx?_eq_none_iff];exact h
theorem uW(pre post:List α)(f f':α):(pre++f::post).set pre.length f'=pre++f'::post:=by
 induction pre with
 | nil=>rfl
 | cons a r ih=>simp[ih]
theorem uX(pre post:List α)(f:α):(pre++f::post)[pre.length]? = some f:=by simp
structure dH where
 tk:Nat
 ss:Nat
 W:Nat
 R:Nat
 Ts:List jS
 t:jS
 base:ByteArray
 val:Nat→ByteArray
structure dH.Ok(E:dH)(bp:vh):Prop where
 tk:E.tk<1000000
 ss:0<E.ss∧E.ss<1000000
 W:1≤E.W∧E.W≤8
 ht:E.Ts[1]? = some E.t
 N:E.t.count≤100
 K:E.t.dJ.length≤16∧E.t.dJ.length≤E.R∧E.t.dJ.length≤E.t.count
 bp:∀ i,E.t.first≤i→i≤E.t.count→bp E.base (eJ E.tk E.ss E.t ⟨0,0,0,0,false⟩ i).data.toList=some (E.val i)∧(eJ E.tk E.ss E.t ⟨0,0,0,0,false⟩ i).data.size≤79
structure UB(E:dH)(w:WP)(o:pH):Prop where
 ctx:nA w
 ok:zb w.s
 aY:w.s.aY=some o
 cur:w.s.cur=true
 lh:o.silence=0
 ans:o.aC=[]
 tk:o.ah=E.tk
 nm:o.number=E.ss
 W:w.W=E.W
 Ts:w.s.au=E.Ts
 st:w.bj=0
def my(E:dH)(r a b:Nat):List aS:=(dh a b).map (fun i=>⟨8,E.tk,E.ss,r,i,(eJ E.tk E.ss E.t ⟨0,0,0,0,false⟩ i).data⟩)
def qM(E:dH)(r a b:Nat):List aS:=(dh a b).map (fun i=>aw 4 E.tk E.ss r i)
def nB(r:Nat)(L:List aS):Prop:=∀ p∈L,p.number≠r∨p.kind=7
theorem nB.nil(r:Nat):nB r []:=fun p hp=>by cases hp
theorem nB.bM{M:List aS}(h:nB r L)(k:nB r M):nB r (L++M):=fun p hp=>by
 rcases List.mem_append.1 hp with e | e
 ·exact h p e
 ·exact k p e
theorem L8(E:dH){r q a b:Nat}(h:q≠r):nB r (my E q a b):=fun p hp=>by
 obtain⟨i,_,rfl⟩:=List.mem_map.1 hp;exact Or.inl h
def SB(ask:SP.jX)(E:dH)(r:Nat)(fd:Option cY)(bl:List aS)(fd':Option cY)(sb:List aS):Prop:=∀ (w:WP) (o:pH) (pre post:List cY),UB E w o→o.af=pre++(fd.toList++post)→(∀ f∈pre,f.number≠r)→(∀ f∈post,f.number≠r)→nB r w.s.L→w.s.L.length≤30 →
 bd (WP.dq ask) w bl=some (w.cN (w.s.eG o (pre++(fd'.toList++post)) (w.s.L++sb)))
theorem L9{E:dH}{w:WP}(h:UB E w o):w.cN (w.s.eG o o.af w.s.L)=w:=by
 have e:({ o with silence:=0,af:=o.af }:pH)=o:=by
  have:=h.lh;cases o
  simp_all
 have e2:w.s.eG o o.af w.s.L=w.s:=by
  unfold SP.eG;rw[e,← h.aY]
 rw[e2];unfold WP.cN;rw[← h.st]
theorem SB.nil{ask:SP.jX}(E:dH)(r:Nat)(fd:Option cY):SB ask E r fd [] fd []:=fun w o pre post h hF _ _ _ _=>by
 rw[eP,List.append_nil,← hF,L9 h]
theorem SB.done{ask:SP.jX}{E:dH}(hE:E.Ok bp){r:Nat}(hr:r<1000)(f:cY)(hf:f.number=r):SB ask E r (some f) [aw 5 E.tk E.ss r 0] none []:=fun w o pre post h hF h1 h2 _ _=>by
 rw[aV,fE h.ctx h.ok (bV (by decide) hE.tk hE.ss.2 (by omega) (by omega)) (by simp[IX,aw,h.aY,h.cur,h.nm]) (fun o' mz=>by rw[h.aY] at mz;cases mz;exact h.tk),← h.tk,← h.nm,Ql h.aY h.cur h.ans,Option.bind_some,eP,List.append_nil]
 congr 3
 rw[hF];have e1:pre.filter (fun f=>!decide (f.number=r))=pre:=List.filter_eq_self.2 (fun a ha=>by simp[h1 a ha]);have e2:post.filter (fun f=>!decide (f.number=r))=post:=List.filter_eq_self.2 (fun a ha=>by simp[h2 a ha]);simp[hf,e1,e2]
theorem sA(a b:Nat):(dh a b).Pairwise (· < ·):=by
 unfold dh;exact List.pairwise_lt_range'
theorem tH{E:dH}(hf:f.number=r){L:List aS}(h:nB r L)(i:Nat):¬ eJ E.tk E.ss E.t f i∈L:=fun hm=>by
 rcases h _ hm with e | e
 ·exact e hf
 ·cases e
theorem SB.run{ask:SP.jX}{E:dH}(hE:E.Ok bp){r a b:Nat}(hr:r<1000)(Es:a<b)(hb:b≤E.t.count)(hW:b≤a+E.W)(h1:E.t.first≤a+1)(hN:E.t.bD=false∨b<E.t.count):
  SB ask E r (some ⟨r,1,a,b,false⟩) (qM E r a b) (some ⟨r,1,b,min E.t.count (b+E.W),false⟩) (my E r b (min E.t.count (b+E.W))):=fun w o pre post h hF fe fI zO hl=>by
 have vp:=hE.N;have hKc:=hE.K
 have hx:o.af.findIdx? (fun f=>decide (f.number=r))=some pre.length:=by
  rw[hF];exact uV (fun f hf=>by simp[fe f hf]) (by simp)
 have hfx:o.af[pre.length]? = some ⟨r,1,a,b,false⟩:=by rw[hF];exact uX _ _ _
 have key:=Bk (ask:=ask) (n:=r) (x:=pre.length) (t:=E.t) (dh a b) w o ⟨r,1,a,b,false⟩ h.ctx h.ok h.aY h.cur (by rw[h.tk];exact hE.tk) (by rw[h.nm];exact hE.ss.2) (by omega) hx hfx (by rw[h.Ts];exact hE.ht) (by omega) (by show b≤1000;omega) (sA a b) (fun i hi=>⟨(mu.1 hi).1,by have:=(mu.1 hi).2;omega⟩);have yh:E.t.count-E.t.dJ.length+1≤a+1:=h1;have hg:=DR (W:=E.W) (tk:=E.tk) (ss:=E.ss) (t:=E.t) (f:=⟨r,1,a,b,false⟩) (L:=w.s.L) rfl h1 (Nat.le_of_lt Es) hb (fun i _=>tH rfl zO i) (by show w.s.L.length+(E.t.count-b)≤60;omega) hW b (Nat.le_of_lt Es) (Nat.le_refl _) (by rcases hN with e | e;exact Or.inr (Or.inl e);exact Or.inr (Or.inr e))
 have e0:(if b=a then b else gQ E.W E.t.count b b)=min E.t.count (b+E.W):=by
  rw[if_neg (by omega)];unfold gQ;omega
 simp only[e0] at hg;unfold qM;rw[h.tk,h.nm] at key;rw[key,if_neg (by rw[kF Es];simp),h.W,hg]
 congr 3
 rw[hF];exact uW _ _ _ _
theorem SB.bD{ask:SP.jX}{E:dH}(hE:E.Ok bp){r a:Nat}(hr:r<1000)(Es:a<E.t.count)(hW:E.t.count≤a+E.W)(h1:E.t.first≤a+1)(hN:E.t.bD=true):
  SB ask E r (some ⟨r,1,a,E.t.count,false⟩) (qM E r a E.t.count) (some ⟨r,1,E.t.count,E.t.count,false⟩) [aw 9 E.tk E.ss r E.t.count]:=fun w o pre post h hF fe fI zO hl=>by
 have vp:=hE.N
 have hx:o.af.findIdx? (fun f=>decide (f.number=r))=some pre.length:=by
  rw[hF];exact uV (fun f hf=>by simp[fe f hf]) (by simp)
 have hfx:o.af[pre.length]? = some ⟨r,1,a,E.t.count,false⟩:=by rw[hF];exact uX _ _ _
 have key:=Bk (ask:=ask) (n:=r) (x:=pre.length) (t:=E.t) (dh a E.t.count) w o ⟨r,1,a,E.t.count,false⟩ h.ctx h.ok h.aY h.cur (by rw[h.tk];exact hE.tk) (by rw[h.nm];exact hE.ss.2) (by omega) hx hfx (by rw[h.Ts];exact hE.ht) (by omega) (by show E.t.count≤1000;omega) (sA a _) (fun i hi=>⟨(mu.1 hi).1,by have:=(mu.1 hi).2;omega⟩)
 have hg:=Qk (W:=E.W) (tk:=E.tk) (ss:=E.ss) (t:=E.t) (f:=⟨r,1,a,E.t.count,false⟩) (L:=w.s.L) rfl h1 Es rfl hN (fun i _=>tH rfl zO i) (fun hm=>by
  rcases zO _ hm with e | e
  ·exact e rfl
  ·cases e) (by omega) hW
 unfold qM;rw[h.tk,h.nm] at key;rw[key,if_neg (by rw[kF Es];simp),h.W,hg]
 congr 3
 rw[hF];exact uW _ _ _ _
structure UC(E:dH)(w:WP):Prop where
 ctx:tG w
 ok:tC w.c
 tk:w.c.ah=E.tk
 ss:w.c.ag=E.ss
 lh:w.c.silence=0
 R:w.R=E.R
 st:w.bh=0
def CB(bp:vh)(E:dH)(r:Nat)(st:Option dQ)(sb:List aS)(X3:Option dQ)(bl:List aS):Prop:=∀ (w:WP) (pre post:List dQ),UC E w→w.c.ae=pre++(st.toList++post)→(∀ s∈pre,s.aR≠r)→(∀ s∈post,s.aR≠r)→(∀ p∈w.c.aB,r<p.number)→nB r w.c.L→w.c.L.length≤30 →
 bd (WP.cF bp) w sb=some (w.dM (w.c.fk (pre++(X3.toList++post)) w.c.aB (w.c.L++bl)))
theorem Ma{E:dH}{w:WP}(h:UC E w):w.dM (w.c.fk w.c.ae w.c.aB w.c.L)=w:=by
 have e2:w.c.fk w.c.ae w.c.aB w.c.L=w.c:=by
  unfold CP.fk;rw[← h.lh]
 rw[e2];unfold WP.dM;rw[← h.st]
theorem CB.nil(E:dH)(r:Nat)(st:Option dQ):CB bp E r st [] st []:=fun w pre post h hF _ _ _ _ _=>by
 rw[eP,List.append_nil,← hF,Ma h]
theorem CB.MX{E:dH}(hE:E.Ok bp){r a b:Nat}(hr:r<1000)(Es:a<b)(hb:b≤E.t.count)(h1:E.t.first≤a+1)(s:dQ)(hs:s.aR=r)(hf:s.bD=0)(hg:s.aX=a)(Nc:s.base=E.base)(hv:s.ak.length+(b-a)≤E.R)(sB:s.ak.length+(b-a)≤1000):
  CB bp E r (some s) (my E r a b) (some { s with ak:=s.ak++(dh a b).map E.val,aX:=b }) (qM E r a b):=fun w pre post h hF fe fI hA zO hl=>by
 have vp:=hE.N;have hK:=hE.K;have yh:E.t.count-E.t.dJ.length+1≤a+1:=h1
 have hy:w.c.ae.findIdx? (jJ r)=some pre.length:=by
  rw[hF];exact uV (fun f hf=>by simp[jJ,fe f hf]) (by simp[jJ,hs,hf])
 have key:=Jb (bp:=bp) (n:=r) (y:=pre.length) (dat:=fun i=>(eJ E.tk E.ss E.t ⟨0,0,0,0,false⟩ i).data) (val:=E.val) (b:=b) (by omega) (b-a) a w s (by omega) h.ctx h.ok (by rw[h.ss];have:=hE.ss;omega) (by rw[h.tk];exact hE.tk) (by rw[h.ss];exact hE.ss.2) (by omega) hy (by rw[hF];exact uX _ _ _) hg hA (by rw[h.R];exact hv) sB (fun i QR Dg=>by rw[Nc];exact hE.bp i (by unfold jS.first;omega) (by omega)) (fun i _ hm=>by
  rcases zO _ hm with e | e
  ·exact e rfl
  ·cases e) (by omega)
 unfold my qM;rw[h.tk,h.ss] at key;rw[key,if_neg (by omega)]
 congr 3
 rw[hF];exact uW _ _ _ _
theorem CB.acP{E:dH}(hE:E.Ok bp){r k i e:Nat}(hr:r<1000)(hi:i≤1000)(s:dQ)(hs:s.aR=r)(hf:s.bD=0)(hk:(k=9∧s.aX=i)∨(k=10∧s.aX<i))(he:(k=9∧e=2)∨(k=10∧e=s.cut)):
  CB bp E r (some s) [aw k E.tk E.ss r i] (some { s with bD:=e }) [aw 5 E.tk E.ss r 0]:=fun w pre post h hF fe fI hA zO hl=>by
 have hy:w.c.ae.findIdx? (jJ r)=some pre.length:=by
  rw[hF];exact uV (fun f hf=>by simp[jJ,fe f hf]) (by simp[jJ,hs,hf])
 have YX:e≠0:=by
  rcases he with⟨_,rfl⟩ | ⟨_,rfl⟩
  ·decide
  ·unfold dQ.cut
   split<;>decide
 have M6:k=9∨k=10:=by omega
 have ahP:w.c.ae.set pre.length { s with bD:=e } = pre++({ s with bD:=e } :: post):=by rw[hF];exact uW _ _ _ _
 rw[aV,lV h.ctx h.ok (bV (by omega) hE.tk hE.ss.2 (by omega) (by omega)) (by rw[← h.tk,← h.ss];rcases hk with⟨rfl,e⟩ | ⟨rfl,e⟩<;>exact UA (by rw[h.ss];have:=hE.ss;omega) hy (by rw[hF];exact uX _ _ _) (decide_eq_true e)),← h.tk,← h.ss,Uy (by rw[h.ss];have:=hE.ss;omega) hy (by rw[hF];exact uX _ _ _) hk hA he hf (by
  rw[ahP];refine Qp (fun a ha=>?_)
  rcases List.mem_append.1 ha with e | e
  ·simp[jJ,fe a e]
  ·rcases List.mem_cons.1 e with rfl | e
   ·simp[jJ,YX]
   ·simp[jJ,fI a e]),Uz h.ctx.up,bU (fun hm=>by
  rcases zO _ hm with e | e
  ·exact e rfl
  ·cases e) (by omega),Option.bind_some,eP,ahP]
 rfl
structure JU where
 fd:Option cY
 st:Option dQ
 bl:List aS
structure rA(r:Nat)(l:List aS):Prop where
 len:l.length≤16
 p:∀ p∈l,pW p=true∧p.number=r
theorem rA.nil(r:Nat):rA r []:=⟨by simp,fun p hp=>by cases hp⟩
theorem rA.acQ{q:Nat}(h:rA r l)(hq:r≠q):nB q l:=fun p hp=>Or.inl (by rw[(h.p p hp).2];exact hq)
theorem rA.one(h:pW p=true)(hn:p.number=r):rA r [p]:=⟨by simp,fun q hq=>by rw[List.mem_singleton.1 hq];exact⟨h,hn⟩⟩
structure Jc(r:Nat)(T:JU):Prop where
 fd:∀ f,T.fd=some f→f.number=r∧f.aX≤f.az∧f.az≤1000∧f.aG=1
 st:∀ s,T.st=some s→s.aR=r∧gx s
 bl:rA r T.bl
structure pE(ask:SP.jX)(bp:vh)(E:dH)(r:Nat)(T T':JU)(sb:List aS):Prop where
 a:Jc r T
 b:Jc r T'
 s:SB ask E r T.fd T.bl T'.fd sb
 c:CB bp E r T.st sb T'.st T'.bl
 ok:rA r sb
theorem pE.Qq{ask:SP.jX}(E:dH){r:Nat}{T:JU}(h:Jc r T)(hb:T.bl=[]):pE ask bp E r T T []:=by
 obtain⟨fd,st,bl⟩:=T;cases hb;exact⟨h,h,SB.nil E r fd,CB.nil E r st,rA.nil r⟩
def XX(w:WP)(o:pH)(T0 T1:JU):WP:={ w with s:=w.s.eG o (T0.fd.toList++T1.fd.toList) [],c:=w.c.fk (T0.st.toList++T1.st.toList) w.c.aB (T0.bl++T1.bl),bh:=0,bj:=0 }
structure Zy(E:dH)(w:WP)(o:pH):Prop where
 at_:w.lG=w.lS
 us:w.s.gl (w.lS:Int)=true
 uc:w.c.gl (w.lG:Int)=true
 so:zb w.s
 co:tC w.c
 aY:w.s.aY=some o
 cur:w.s.cur=true
 ans:o.aC=[]
 tk:o.ah=E.tk
 nm:o.number=E.ss
 ctk:w.c.ah=E.tk
 css:w.c.ag=E.ss
 W:w.W=E.W
 R:w.R=E.R
 Ts:w.s.au=E.Ts
 aB:∀ p∈w.c.aB,1<p.number
theorem gT{o:Option α}{a:α}(h:a∈o.toList):o=some a:=by
 cases o with
 | none=>cases h
 | some b=>rw[List.mem_singleton.1 h]
theorem Jd{T0 T1:JU}(h0:Jc 0 T0)(h1:Jc 1 T1):∀ f∈T0.fd.toList++T1.fd.toList,f.aX≤f.az∧f.az≤1000∧f.aG=1:=fun f hf=>by
 rcases List.mem_append.1 hf with e | e
 ·exact(h0.fd f (gT e)).2
 ·exact(h1.fd f (gT e)).2
theorem Bl(o:Option α):o.toList.length≤1:=by cases o<;>simp
theorem Zy.cN{E:dH}(hE:E.Ok bp){w:WP}{o:pH}(h:Zy E w o)(c:CP)(F:List cY)(L:List aS)(hF:∀ f∈F,f.aX≤f.az∧f.az≤1000∧f.aG=1)(hl:F.length≤2):UB E { w with s:=w.s.eG o F L,c:=c,bh:=0,bj:=0 } { o with silence:=0,af:=F }:=by
 have h1:1<w.s.au.length:=by rw[h.Ts];exact(List.getElem?_eq_some_iff.1 hE.ht).1
 exact⟨⟨h.at_,h.us⟩,h.so.eG h.aY (fun f hf=>by have:=hF f hf;exact⟨this.1,by omega,by rw[this.2.2];exact h1⟩) (by omega),rfl,h.cur,rfl,h.ans,h.tk,h.nm,h.W,h.Ts,rfl⟩
theorem Zy.dM{E:dH}{w:WP}(h:Zy E w o)(s:SP)(S:List dQ)(L:List aS)(hS:∀ s∈S,gx s)(hl:S.length≤2):UC E { w with s:=s,c:=w.c.fk S w.c.aB L,bh:=0,bj:=0 } :=
 ⟨⟨h.at_,h.uc⟩,h.co.fk hS (by omega) h.co.sm.a,h.ctk,h.css,rfl,h.R,rfl⟩
theorem Bm{T0 T1:JU}(h0:Jc 0 T0)(h1:Jc 1 T1):∀ s∈T0.st.toList++T1.st.toList,gx s:=fun f hf=>by
 rcases List.mem_append.1 hf with e | e
 ·exact(h0.st f (gT e)).2
 ·exact(h1.st f (gT e)).2
theorem zf(a b:Option α):(a.toList++b.toList).length≤2:=by
 have:=Bl a;have:=Bl b;rw[List.length_append];omega
theorem Je{m:List aS}(h:rA 0 l)(k:rA 1 m):pR (l++m)=true:=by
 unfold pR;rw[Bool.and_eq_true];refine⟨decide_eq_true (by rw[List.length_append];have:=h.len;have:=k.len;omega),List.all_eq_true.2 (fun p hp=>?_)⟩
 rcases List.mem_append.1 hp with e | e
 ·exact(h.p p e).1
 ·exact(k.p p e).1
theorem jK{ask:SP.jX}{w w1 w2:WP}(h1:pR w.c.L=true)(h2:bd (WP.dq ask) w.iB w.c.L=some w1)(h3:pR w1.s.L=true)(h4:bd (WP.cF bp) w1.ug w1.s.L=some w2):w.jh ask bp=some (w2,w.c.L.isEmpty&&w1.s.L.isEmpty):=by
 unfold WP.jh;rw[if_pos h1,h2,Option.bind_some,if_pos h3,h4];rfl
theorem od{ask:SP.jX}{E:dH}(hE:E.Ok bp){w:WP}{o:pH}(h:Zy E w o){T0 zg T1 UD:JU}{Zz sb1:List aS}(h0:pE ask bp E 0 T0 zg Zz)(h1:pE ask bp E 1 T1 UD sb1):
  (XX w o T0 T1).jh ask bp=some (XX w o zg UD,(T0.bl++T1.bl).isEmpty&&(Zz++sb1).isEmpty):=by
 have s0:=h0.s ({ w with s:=w.s.eG o (T0.fd.toList++T1.fd.toList) [],c:=w.c.fk (T0.st.toList++T1.st.toList) w.c.aB [],bh:=0,bj:=0 }:WP) { o with silence:=0,af:=T0.fd.toList++T1.fd.toList } [] T1.fd.toList (h.cN hE _ _ _ (Jd h0.a h1.a) (zf _ _)) rfl (fun f hf=>by cases hf) (fun f hf=>by rw[(h1.a.fd f (gT hf)).1];decide) (nB.nil 0) (by show ([]:List aS).length≤30;simp);have s1:=h1.s ({ w with s:=w.s.eG o (zg.fd.toList++T1.fd.toList) Zz,c:=w.c.fk (T0.st.toList++T1.st.toList) w.c.aB [],bh:=0,bj:=0 }:WP) { o with silence:=0,af:=zg.fd.toList++T1.fd.toList } zg.fd.toList [] (h.cN hE _ _ _ (Jd h0.b h1.a) (zf _ _)) (by show zg.fd.toList++T1.fd.toList=zg.fd.toList++(T1.fd.toList++[]);simp) (fun f hf=>by rw[(h0.b.fd f (gT hf)).1];decide) (fun f hf=>by cases hf) (h0.ok.acQ (by decide)) (by show Zz.length≤30;have:=h0.ok.len;omega);have c0:=h0.c ({ w with s:=w.s.eG o (zg.fd.toList++UD.fd.toList) [],c:=w.c.fk (T0.st.toList++T1.st.toList) w.c.aB [],bh:=0,bj:=0 }:WP) [] T1.st.toList (h.dM _ _ _ (Bm h0.a h1.a) (zf _ _)) rfl (fun f hf=>by cases hf) (fun f hf=>by rw[(h1.a.st f (gT hf)).1];decide) (fun p hp=>by have:=h.aB p hp;omega) (nB.nil 0) (by show ([]:List aS).length≤30;simp);have c1:=h1.c ({ w with s:=w.s.eG o (zg.fd.toList++UD.fd.toList) [],c:=w.c.fk (zg.st.toList++T1.st.toList) w.c.aB zg.bl,bh:=0,bj:=0 }:WP) zg.st.toList [] (h.dM _ _ _ (Bm h0.b h1.a) (zf _ _)) (by show zg.st.toList++T1.st.toList=zg.st.toList++(T1.st.toList++[]);simp) (fun f hf=>by rw[(h0.b.st f (gT hf)).1];decide) (fun f hf=>by cases hf) (fun p hp=>h.aB p hp) (h0.b.bl.acQ (by decide)) (by show zg.bl.length≤30;have:=h0.b.bl.len;omega)
 have eS:bd (WP.dq ask) (XX w o T0 T1).iB (T0.bl++T1.bl)=some { w with s:=w.s.eG o (zg.fd.toList++UD.fd.toList) (Zz++sb1),c:=w.c.fk (T0.st.toList++T1.st.toList) w.c.aB [],bh:=0,bj:=0 }:=by
  rw[kA];have e0:bd (WP.dq ask) (XX w o T0 T1).iB T0.bl=some { w with s:=w.s.eG o (zg.fd.toList++T1.fd.toList) Zz,c:=w.c.fk (T0.st.toList++T1.st.toList) w.c.aB [],bh:=0,bj:=0 }:=s0;rw[e0,Option.bind_some];refine s1.trans (congrArg some ?_);rw[List.append_nil];rfl
 have eC:bd (WP.cF bp) { w with s:=w.s.eG o (zg.fd.toList++UD.fd.toList) [],c:=w.c.fk (T0.st.toList++T1.st.toList) w.c.aB [],bh:=0,bj:=0 } (Zz++sb1)=some (XX w o zg UD):=by
  rw[kA];have e0:bd (WP.cF bp) ({ w with s:=w.s.eG o (zg.fd.toList++UD.fd.toList) [],c:=w.c.fk (T0.st.toList++T1.st.toList) w.c.aB [],bh:=0,bj:=0 }:WP) Zz=some { w with s:=w.s.eG o (zg.fd.toList++UD.fd.toList) [],c:=w.c.fk (zg.st.toList++T1.st.toList) w.c.aB zg.bl,bh:=0,bj:=0 }:=c0;rw[e0,Option.bind_some];refine c1.trans (congrArg some ?_);rw[List.append_nil];rfl
 exact jK (w:=XX w o T0 T1) (Je h0.a.bl h1.a.bl) eS (Je h0.ok h1.ok) eC
def dV(ask:SP.jX)(bp:vh)(E:dH)(r:Nat):Nat→JU→JU→Prop
 | 0,T,Tf=>Jc r T∧T.bl=[]∧Tf=T
 | n+1,T,Tf=>(Jc r T∧T.bl=[]∧Tf=T)∨(T.bl≠[]∧∃ T' sb,pE ask bp E r T T' sb∧dV ask bp E r n T' Tf)
theorem dV.stop{ask:SP.jX}{E:dH}{T:JU}(h:Jc r T)(hb:T.bl=[]):dV ask bp E r n T T:=by
 cases n with
 | zero=>exact⟨h,hb,rfl⟩
 | succ n=>exact Or.inl ⟨h,hb,rfl⟩
theorem dV.step{ask:SP.jX}{E:dH}{T T' Tf:JU}{sb:List aS}(hb:T.bl≠[])(h:pE ask bp E r T T' sb)(k:dV ask bp E r n T' Tf):dV ask bp E r (n+1) T Tf:=Or.inr ⟨hb,T',sb,h,k⟩
theorem dV.more{ask:SP.jX}{E:dH}:∀ {n:Nat} {T T':JU},dV ask bp E r n T T'→dV ask bp E r (n+1) T T'
 | 0,_,_,⟨h,hb,e⟩=>Or.inl ⟨h,hb,e⟩
 | _+1,_,_,Or.inl h=>Or.inl h
 | _+1,_,_,Or.inr ⟨hb,T',sb,h,k⟩=>Or.inr ⟨hb,T',sb,h,dV.more k⟩
theorem dV.le{ask:SP.jX}{E:dH}{T T':JU}(h:dV ask bp E r n T T'):∀ (m:Nat),dV ask bp E r (n+m) T T'
 | 0=>h
 | m+1=>(dV.le h m).more
theorem fg{ask:SP.jX}{w w':WP}(h:w.jh ask bp=some (w',false)):WP.fD ask bp (m+1) w=WP.fD ask bp m w':=by
 rw[WP.fD,h]
theorem o5{ask:SP.jX}{w w':WP}(h:w.jh ask bp=some (w',true)):WP.fD ask bp (m+1) w=some w':=by
 rw[WP.fD,h]
theorem Jf{ask:SP.jX}{E:dH}(hE:E.Ok bp){w:WP}{o:pH}(h:Zy E w o):∀ (n:Nat) (T0 T1 F0 F1:JU),dV ask bp E 0 n T0 F0→dV ask bp E 1 n T1 F1→∀ m,n<m→WP.fD ask bp m (XX w o T0 T1)=some (XX w o F0 F1):=by
 intro n
 induction n with
 | zero=>
  intro T0 T1 F0 F1 h0 h1 m hm;obtain⟨m,rfl⟩:∃ k,m=k+1:=⟨m-1,by omega⟩
  obtain⟨k0,b0,rfl⟩:=h0;obtain⟨k1,b1,rfl⟩:=h1;refine o5 ((od hE h (pE.Qq E k0 b0) (pE.Qq E k1 b1)).trans ?_);rw[b0,b1];rfl
 | succ n ih=>
  intro T0 T1 F0 F1 h0 h1 m hm;obtain⟨m,rfl⟩:∃ k,m=k+1:=⟨m-1,by omega⟩
  rcases h0 with⟨k0,b0,rfl⟩ | ⟨b0,zg,s0,k0,r0⟩
  ·rcases h1 with⟨k1,b1,rfl⟩ | ⟨b1,UD,s1,k1,r1⟩
   ·refine o5 ((od hE h (pE.Qq E k0 b0) (pE.Qq E k1 b1)).trans ?_)
    rw[b0,b1];rfl
   ·have e:∀ (Y X:List aS),((Y++T1.bl).isEmpty&&X.isEmpty)=false:=fun Y X=>by simp[b1]
    rw[fg ((od hE h (pE.Qq E k0 b0) k1).trans (by rw[e]))];exact ih _ _ _ _ (dV.stop k0 b0) r1 m (by omega)
  ·have e:∀ (Y X:List aS),((T0.bl++Y).isEmpty&&X.isEmpty)=false:=fun Y X=>by simp[b0]
   rcases h1 with⟨k1,b1,rfl⟩ | ⟨b1,UD,s1,k1,r1⟩
   ·rw[fg ((od hE h k0 (pE.Qq E k1 b1)).trans (by rw[e]))]
    exact ih _ _ _ _ r0 (dV.stop k1 b1) m (by omega)
   ·rw[fg ((od hE h k0 k1).trans (by rw[e]))]
    exact ih _ _ _ _ r0 r1 m (by omega)
theorem Jg{E:dH}(hE:E.Ok bp){r a b:Nat}(hr:r<1000)(hb:b≤E.t.count)(h1:E.t.first≤a+1)(hl:b≤a+16):rA r (my E r a b):=by
 have hN:=hE.N;refine⟨by unfold my;rw[List.length_map,fV];omega,fun p hp=>?_⟩;obtain⟨i,hi,rfl⟩:=List.mem_map.1 hp;have:=mu.1 hi;have hd:=(hE.bp i (by omega) (by omega)).2;refine⟨?_,rfl⟩;unfold pW;have:=hE.tk;have:=hE.ss;simp only[Bool.and_eq_true,decide_eq_true_eq];exact⟨⟨⟨⟨⟨by omega,by omega⟩,by omega⟩,by omega⟩,by omega⟩,hd⟩
theorem NN{E:dH}(hE:E.Ok bp){r a b:Nat}(hr:r<1000)(hb:b≤E.t.count)(hl:b≤a+16):rA r (qM E r a b):=by
 have hN:=hE.N;refine⟨by unfold qM;rw[List.length_map,fV];omega,fun p hp=>?_⟩;obtain⟨i,hi,rfl⟩:=List.mem_map.1 hp;have:=mu.1 hi;exact⟨bV (by decide) hE.tk hE.ss.2 (by omega) (by omega),rfl⟩
def runT(E:dH)(r a b:Nat)(s:dQ):JU:=⟨some ⟨r,1,a,b,false⟩,some s,qM E r a b⟩
def oe(E:dH)(b:Nat)(s:dQ):dQ:={ s with ak:=s.ak++(dh b E.t.count).map E.val,aX:=E.t.count,bD:=if E.t.bD then 2 else 0 }
def CC(E:dH)(r b:Nat)(s:dQ):JU:=⟨if E.t.bD then none else some ⟨r,1,E.t.count,E.t.count,false⟩,some (oe E b s),[]⟩
structure Bn(E:dH)(r a b:Nat)(s:dQ):Prop where
 ab:a<b
 bN:b≤E.t.count
 bW:b≤a+E.W
 f:E.t.first≤a+1
 rq:s.aR=r
 bD:s.bD=0
 aX:s.aX=b
 base:s.base=E.base
 nm:s.name.size≤1000
 vl:s.ak.length+(E.t.count-b)≤E.R
 vl2:s.ak.length+(E.t.count-b)≤1000
 vg:s.ak.length≤b
theorem Bn.st{E:dH}(hE:E.Ok bp){r a b:Nat}{s:dQ}(h:Bn E r a b s):gx s:=by
 have:=hE.N;have:=h.bN;have:=h.vl2;exact⟨h.nm,by rw[h.aX];omega,by omega,by rw[h.aX];exact h.vg,by rw[h.bD];decide⟩
theorem Bn.gA{E:dH}(hE:E.Ok bp){r a b:Nat}(hr:r<1000){s:dQ}(h:Bn E r a b s):Jc r (runT E r a b s):=by
 have:=hE.N;have:=hE.W;have:=h.bN;have:=h.ab;have:=h.bW;refine⟨fun f hf=>?_,fun x hx=>?_,NN hE hr h.bN (by omega)⟩
 ·cases hf
  exact⟨rfl,Nat.le_of_lt h.ab,by show b≤1000;omega,rfl⟩
 ·cases hx
  exact⟨h.rq,h.st hE⟩
theorem UE{ask:SP.jX}{E:dH}(hE:E.Ok bp){r:Nat}(hr:r<1000):∀ (m a b:Nat) (s:dQ),Bn E r a b s→E.t.count-b≤m→dV ask bp E r (m+3) (runT E r a b s) (CC E r b s):=by
 intro m
 induction m with
 | zero=>
  intro a b s h hm;have hb:b=E.t.count:=by have:=h.bN;omega
  subst hb;have bT:(runT E r a E.t.count s).bl≠[]:=by unfold runT qM;rw[kF h.ab];simp
  have jD:=h.st hE;have hN:=hE.N
  rcases Bool.eq_false_or_eq_true E.t.bD with hf | hf
  ·have e1:CC E r E.t.count s=⟨none,some { s with bD:=2 },[]⟩:=by
    unfold CC oe;rw[hf,eu];simp[← h.aX]
   rw[e1];have Jh:gx { s with bD:=2 }:=⟨jD.nm,jD.aX,jD.vl,jD.vg,by show 2≠1;decide⟩
   have hD:rA r [aw 5 E.tk E.ss r 0]:=rA.one (bV (by decide) hE.tk hE.ss.2 (by omega) (by omega)) rfl;have t1:Jc r ⟨some ⟨r,1,E.t.count,E.t.count,false⟩,some { s with bD:=2 },[aw 5 E.tk E.ss r 0]⟩:=⟨fun f hf=>by cases hf;exact⟨rfl,Nat.le_refl _,by show E.t.count≤1000;omega,rfl⟩,fun x hx=>by cases hx;exact⟨h.rq,Jh⟩,hD⟩
   have t2:Jc r ⟨none,some { s with bD:=2 },[]⟩:=⟨fun f hf=>(by cases hf),fun x hx=>by cases hx;exact⟨h.rq,Jh⟩,rA.nil r⟩
   refine dV.step bT ⟨h.gA hE hr,t1,SB.bD hE hr h.ab h.bW h.f hf,CB.acP hE hr (by omega) s h.rq h.bD (Or.inl ⟨rfl,h.aX⟩) (Or.inl ⟨rfl,rfl⟩),rA.one (bV (by decide) hE.tk hE.ss.2 (by omega) (by omega)) rfl⟩ ?_;exact dV.step (by simp) ⟨t1,t2,SB.done hE hr _ rfl,CB.nil E r _,rA.nil r⟩ (dV.stop t2 rfl)
  ·have e1:CC E r E.t.count s=⟨some ⟨r,1,E.t.count,E.t.count,false⟩,some s,[]⟩:=by
    unfold CC oe;rw[hf,eu];obtain⟨q1,q2,q3,q4,q5,q6,q7,q8⟩:=s;have g1:=h.aX;have g2:=h.bD;simp at g1 g2;simp[g1,g2]
   rw[e1];have t2:Jc r ⟨some ⟨r,1,E.t.count,E.t.count,false⟩,some s,[]⟩:=⟨fun f hf=>by cases hf;exact⟨rfl,Nat.le_refl _,by show E.t.count≤1000;omega,rfl⟩,fun x hx=>by cases hx;exact⟨h.rq,jD⟩,rA.nil r⟩
   have hs:=SB.run (ask:=ask) hE hr h.ab (Nat.le_refl _) h.bW h.f (Or.inl hf);rw[show min E.t.count (E.t.count+E.W)=E.t.count by omega,show my E r E.t.count E.t.count=[] by unfold my;rw[eu];rfl] at hs;exact dV.step bT ⟨h.gA hE hr,t2,hs,CB.nil E r _,rA.nil r⟩ (dV.stop t2 rfl)
 | succ m ih=>
  intro a b s h hm
  by_cases hb:b=E.t.count
  ·exact(ih a b s h (by omega)).more
  ·have hN:=hE.N
   have hW:=hE.W;have FY:=h.bN;have QS:=h.bW;have Es:=h.ab;have BM:=h.vl;have avN:=h.vl2;have hvg:=h.vg;have hf:=h.f;obtain⟨B,hB⟩:∃ B,min E.t.count (b+E.W)=B:=⟨_,rfl⟩
   have bT:(runT E r a b s).bl≠[]:=by unfold runT qM;rw[kF h.ab];simp
   have hR:Bn E r b B { s with ak:=s.ak++(dh b B).map E.val,aX:=B }:=⟨by omega,by omega,by omega,by omega,h.rq,h.bD,rfl,h.base,h.nm,by rw[List.length_append,List.length_map,fV];omega,by rw[List.length_append,List.length_map,fV];omega,by rw[List.length_append,List.length_map,fV];omega⟩
   have hs:=SB.run (ask:=ask) hE hr h.ab h.bN h.bW h.f (Or.inr (by omega));rw[hB] at hs
   have e:CC E r B { s with ak:=s.ak++(dh b B).map E.val,aX:=B } = CC E r b s:=by
    unfold CC oe;simp only[List.append_assoc];rw[← List.map_append,uU (by omega) (by omega)]
   rw[← e];exact dV.step bT ⟨h.gA hE hr,hR.gA hE hr,hs,CB.MX hE hr (by omega) (by omega) (by omega) s h.rq h.bD h.aX h.base (by omega) (by omega),Jg hE hr (by omega) (by omega) (by omega)⟩ (ih b B _ hR (by omega))
theorem Ji{ask:SP.jX}{E:dH}(hE:E.Ok bp){r:Nat}(hr:r<1000)(f:cY)(hf:f.number=r∧f.aX≤f.az∧f.az≤1000∧f.aG=1)(s:dQ)(hs:s.aR=r∧gx s):dV ask bp E r 3 ⟨some f,some s,[aw 5 E.tk E.ss r 0]⟩ ⟨none,some s,[]⟩:=by
 have hD:rA r [aw 5 E.tk E.ss r 0]:=rA.one (bV (by decide) hE.tk hE.ss.2 (by omega) (by omega)) rfl;have t1:Jc r ⟨some f,some s,[aw 5 E.tk E.ss r 0]⟩:=⟨fun f hf'=>by cases hf';exact hf,fun x hx=>by cases hx;exact hs,hD⟩
 have t2:Jc r ⟨none,some s,[]⟩:=⟨fun f hf=>(by cases hf),fun x hx=>by cases hx;exact hs,rA.nil r⟩
 exact dV.step (by simp) ⟨t1,t2,SB.done hE hr _ hf.1,CB.nil E r _,rA.nil r⟩ (dV.stop t2 rfl)
def WP.zh(w:WP)(S:List dQ)(X:List gp):WP:={ w with c:={ w.c with ae:=S },ae:=X }
abbrev nD(i:Nat):dQ→Bool:=fun o=>((o.number:Int)==(i:Int))
theorem FA{c:CP}(hy:c.ae.findIdx? (nD i)=some y)(hs:c.ae[y]? = some s):c.fU (i:Int)=(if s.gw.2.1=0 then c else if s.gw.2.1=1 then { c with ae:=c.ae.set y s.gw.1 } else { c with ae:=c.ae.eraseIdx y },s.gw.2):=by
 unfold CP.fU CP.IE;rw[show (fun o:dQ=>((o.number:Int)==(i:Int)))=nD i from rfl,hy];simp only[hs];rw[xO hs]
theorem Qr{c:CP}(hy:c.ae.findIdx? (nD i)=none):c.fU (i:Int)=(c,0,⟨#[]⟩,⟨#[]⟩):=by
 unfold CP.fU CP.IE;rw[show (fun o:dQ=>((o.number:Int)==(i:Int)))=nD i from rfl,hy]
structure FC(w:WP)(i:Nat):Prop where
 c:tC w.c
 v:JS w
 m:i<w.c.bQ
theorem Bo{w w':WP}{c':CP}{cu:ByteArray}(h:FC w i)(hp:w.c.fU (i:Int)=(c',k,v,cu))(ht:({ w with c:=c' }:WP).lf i k v cu=some w'):w.cD (n+1) i=if k=0 then some w' else WP.cD n w' i:=by
 rw[WP.cD,if_pos (uS.2 ⟨h.c,h.v,h.m⟩),hp];simp only[ht]
theorem Bp{w:WP}(h:FC w i)(hx:w.ae[i]? = some x)(hy:w.c.ae.findIdx? (nD i)=none):w.cD (n+1) i=some w:=by
 rw[WP.cD,if_pos (uS.2 ⟨h.c,h.v,h.m⟩),Qr hy];simp only
 have e:WP.lf { w with c:=w.c } i 0 ⟨#[]⟩ ⟨#[]⟩=some w:=by
  unfold WP.lf;rw[show ({ w with c:=w.c }:WP).ae[i]? = some x from hx];simp
 rw[e];simp
theorem xP{w:WP}(h:FC w i)(hx:w.ae[i]? = some x)(hy:w.c.ae.findIdx? (nD i)=some y)(hs:w.c.ae[y]? = some s)(hv:s.ak=[])(hf:s.bD=0):w.cD (n+1) i=some w:=by
 have ev:s.gw=(s,0,⟨#[]⟩,⟨#[]⟩):=by unfold dQ.gw;rw[hv,hf]
 rw[WP.cD,if_pos (uS.2 ⟨h.c,h.v,h.m⟩),FA hy hs,ev];simp only[if_true]
 have e:WP.lf { w with c:=w.c } i 0 ⟨#[]⟩ ⟨#[]⟩=some w:=by
  unfold WP.lf;rw[show ({ w with c:=w.c }:WP).ae[i]? = some x from hx];simp
 rw[e]
theorem Mb:∀ (vs:List ByteArray) (n:Nat) (w:WP) (x:gp) (s:dQ),FC w i→x.aE+vs.length≤90000→w.ae[i]? = some x→w.c.ae.findIdx? (nD i)=some y→w.c.ae[y]? = some s→s.ak=vs→x.ended=0→s.name=cr x.aG→s.aX=x.start+x.aE+vs.length→(∀ j v,vs[j]? = some v→(w.cy x.aG)[x.start+x.aE+j]? = some v) →
  w.cD (n+vs.length) i=WP.cD n (w.zh (w.c.ae.set y { s with ak:=[] }) (w.ae.set i { x with aE:=x.aE+vs.length })) i:=by
 intro vs
 induction vs with
 | nil=>
  intro n w x s h hg hx hy hs hv he hn hgt ou
  have e1:w.c.ae.set y { s with ak:=[] } = w.c.ae:=by
   have:({ s with ak:=[] }:dQ)=s:=by obtain⟨a,b,c,d,e,f,g,k⟩:=s;cases hv;rfl
   rw[this];apply List.ext_getElem?;intro j;rw[List.getElem?_set]
   split
   ·rename_i e
    subst e;rw[if_pos (List.getElem?_eq_some_iff.1 hs).1,hs]
   ·rfl
  have e2:w.ae.set i { x with aE:=x.aE+([]:List ByteArray).length } = w.ae:=by
   apply List.ext_getElem?;intro j;rw[List.getElem?_set]
   split
   ·rename_i e
    subst e;rw[if_pos (List.getElem?_eq_some_iff.1 hx).1,hx];rfl
   ·rfl
  rw[e1,e2];rfl
 | cons v r ih=>
  intro n w x s h hg hx hy hs hv he hn hgt ou;rw[List.length_cons] at hg hgt;have hyl:y<w.c.ae.length:=(List.getElem?_eq_some_iff.1 hs).1;have jQ:i<w.ae.length:=(List.getElem?_eq_some_iff.1 hx).1;have ev:s.gw=({ s with ak:=r },1,v,jV s.name (s.aX-s.ak.length+1)):=by unfold dQ.gw;rw[hv]
  have fF:jV s.name (s.aX-s.ak.length+1)=jV (cr x.aG) (x.start+x.aE+1):=by
   rw[hn,hv,hgt,List.length_cons]
   congr 1
   omega
  have hp:w.c.fU (i:Int)=({ w.c with ae:=w.c.ae.set y { s with ak:=r } },1,v,jV (cr x.aG) (x.start+x.aE+1)):=by
   rw[FA hy hs,ev,fF];rfl
  have e:WP.lf { w with c:={ w.c with ae:=w.c.ae.set y { s with ak:=r } } } i 1 v (jV (cr x.aG) (x.start+x.aE+1))=some (w.zh (w.c.ae.set y { s with ak:=r }) (w.ae.set i { x with aE:=x.aE+1 })):=by
   unfold WP.lf;rw[show ({ w with c:={ w.c with ae:=w.c.ae.set y { s with ak:=r } } }:WP).ae[i]? = some x from hx];simp only;rw[if_neg (by decide),if_neg (by simp[he]),if_pos trivial,if_pos ⟨by have:=ou 0 v rfl;rw[Nat.add_zero] at this;exact this,trivial⟩];rfl
  rw[List.length_cons,show n+(r.length+1)=(n+r.length)+1 by omega,Bo h hp e,if_neg (by decide)];have Qo:=h.c.st s (List.mem_of_getElem? hs);have hxO:=h.v.st x (List.mem_of_getElem? hx)
  have key:=ih n (w.zh (w.c.ae.set y { s with ak:=r }) (w.ae.set i { x with aE:=x.aE+1 })) { x with aE:=x.aE+1 } { s with ak:=r } ⟨⟨⟨h.c.sm.a,by show (w.c.ae.set y _).length≤1000;rw[List.length_set];exact h.c.sm.s,h.c.sm.ca,h.c.sm.at_,h.c.sm.si,h.c.sm.n⟩,fun s' Rx=>by
    rcases o4 Rx with rfl | e
    ·exact⟨Qo.nm,Qo.aX,by have:=Qo.vl;rw[hv,List.length_cons] at this;show r.length≤1000;omega,by have:=Qo.vg;rw[hv,List.length_cons] at this;show r.length≤s.aX;omega,Qo.fn⟩
    ·exact h.c.st s' e,by show (w.c.ae.set y _).length≤400;rw[List.length_set];exact h.c.sl,h.c.md⟩,⟨by show (w.ae.set i _).length≤90000;rw[List.length_set];exact h.v.sl,h.v.vl,fun x' JN=>by
    rcases o4 JN with rfl | e
    ·exact⟨hxO.1,hxO.2.1,by show x.aE+1≤90000;omega⟩
    ·exact h.v.st x' e,h.v.W,h.v.R⟩,h.m⟩ (by show x.aE+1+r.length≤90000;omega) (by show (w.ae.set i _)[i]? = _;simp[jQ]) ((ji (p:=nD i) (f':={ s with ak:=r }) hs rfl).trans hy) (by show (w.c.ae.set y _)[y]? = _;simp[hyl]) rfl he hn (by show s.aX=x.start+(x.aE+1)+r.length;omega) (fun j v' hj=>by
    have:=ou (j+1) v' hj;show (w.cy x.aG)[x.start+(x.aE+1)+j]? = some v';rw[← this]
    congr 1
    omega)
  refine key.trans ?_
  congr 1
  unfold WP.zh;simp only[List.set_set];rw[show x.aE+1+r.length=x.aE+(r.length+1) by omega]
theorem Qs{w:WP}(h:FC w i)(hx:w.ae[i]? = some x)(hy:w.c.ae.findIdx? (nD i)=some y)(hs:w.c.ae[y]? = some s)(hv:s.ak=[])(hf:s.bD=k)(hk:(k=2∧w.Fu x.aG=true∧x.start+x.aE=(w.cy x.aG).length)∨(k=4∧x.aE=0∧x.ni=true)∨(k=3∧(w.dN=true∨w.eh x.aG (x.start+x.aE+1)=false)))(he:x.ended=0)(sy:(w.c.ae.eraseIdx y).findIdx? (nD i)=none):
  w.cD (n+2) i=some (w.zh (w.c.ae.eraseIdx y) (w.ae.set i { x with ended:=k })):=by
 have jQ:i<w.ae.length:=(List.getElem?_eq_some_iff.1 hx).1;have BL:k≠0∧k≠1:=by omega
 have ev:s.gw=(s,k,⟨#[]⟩,⟨#[]⟩):=by unfold dQ.gw;rw[hv,hf]
 have hp:w.c.fU (i:Int)=({ w.c with ae:=w.c.ae.eraseIdx y },k,⟨#[]⟩,⟨#[]⟩):=by
  rw[FA hy hs,ev];simp only;rw[if_neg BL.1,if_neg BL.2]
 have e:WP.lf { w with c:={ w.c with ae:=w.c.ae.eraseIdx y } } i k ⟨#[]⟩ ⟨#[]⟩=some (w.zh (w.c.ae.eraseIdx y) (w.ae.set i { x with ended:=k })):=by
  unfold WP.lf;rw[show ({ w with c:={ w.c with ae:=w.c.ae.eraseIdx y } }:WP).ae[i]? = some x from hx];simp only;rw[if_neg BL.1,if_neg (by simp[he]),if_neg BL.2,if_pos ⟨trivial,trivial,hk⟩];rfl
 rw[show n+2=(n+1)+1 from rfl,Bo h hp e,if_neg BL.1]
 refine Bp (x:={ x with ended:=k }) ⟨⟨⟨h.c.sm.a,?_,h.c.sm.ca,h.c.sm.at_,h.c.sm.si,h.c.sm.n⟩,fun s' Rx=>h.c.st s' (List.mem_of_mem_eraseIdx Rx),?_,h.c.md⟩,⟨by show (w.ae.set i _).length≤90000;rw[List.length_set];exact h.v.sl,h.v.vl,fun x' JN=>by
    rcases o4 JN with rfl | e
    ·exact h.v.st x (List.mem_of_getElem? hx)
    ·exact h.v.st x' e,h.v.W,h.v.R⟩,h.m⟩ (by show (w.ae.set i _)[i]? = _;simp[jQ]) sy
 ·show (w.c.ae.eraseIdx y).length≤1000
  have:=List.length_eraseIdx_le w.c.ae y;have:=h.c.sm.s;omega
 ·show (w.c.ae.eraseIdx y).length≤400
  have:=List.length_eraseIdx_le w.c.ae y;have:=h.c.sl;omega
theorem FC.zh{w:WP}(h:FC w i)(hx:w.ae[i]? = some x)(hs:w.c.ae[y]? = some s)(g:Nat)(hg:g≤90000):FC (w.zh (w.c.ae.set y { s with ak:=[] }) (w.ae.set i { x with aE:=g })) i:=by
 have Qo:=h.c.st s (List.mem_of_getElem? hs);have hxO:=h.v.st x (List.mem_of_getElem? hx)
 exact⟨⟨⟨h.c.sm.a,by show (w.c.ae.set y _).length≤1000;rw[List.length_set];exact h.c.sm.s,h.c.sm.ca,h.c.sm.at_,h.c.sm.si,h.c.sm.n⟩,fun s' Rx=>by
    rcases o4 Rx with rfl | e
    ·exact⟨Qo.nm,Qo.aX,Nat.zero_le _,Nat.zero_le _,Qo.fn⟩
    ·exact h.c.st s' e,by show (w.c.ae.set y _).length≤400;rw[List.length_set];exact h.c.sl,h.c.md⟩,⟨by show (w.ae.set i _).length≤90000;rw[List.length_set];exact h.v.sl,h.v.vl,fun x' JN=>by
    rcases o4 JN with rfl | e
    ·exact⟨hxO.1,hxO.2.1,hg⟩
    ·exact h.v.st x' e,h.v.W,h.v.R⟩,h.m⟩
theorem o7:∀ (l:List α) (y:Nat) (a:α),(l.set y a).eraseIdx y=l.eraseIdx y
 | [],_,_=>rfl
 | _::_,0,_=>rfl
 | b::r,y+1,a=>by simp[o7 r y a]
theorem X4(w:WP)(S S':List dQ)(X X':List gp):(w.zh S X).zh S' X'=w.zh S' X':=rfl
theorem tI{w:WP}(h:FC w i)(hx:w.ae[i]? = some x)(hy:w.c.ae.findIdx? (nD i)=some y)(hs:w.c.ae[y]? = some s)(he:x.ended=0)(hn:s.name=cr x.aG)(hg:s.aX=x.start+x.aE+s.ak.length)(ou:∀ j v,s.ak[j]? = some v→(w.cy x.aG)[x.start+x.aE+j]? = some v)(hlen:x.aE+s.ak.length≤90000)(hN:s.ak.length≤(w.cy x.aG).length)
  (hk:s.bD=0∨(s.bD=2∧w.Fu x.aG=true∧s.aX=(w.cy x.aG).length)∨(s.bD=4∧s.aX=x.start∧x.ni=true)∨(s.bD=3∧(w.dN=true∨w.eh x.aG (s.aX+1)=false))) (sy:(w.c.ae.eraseIdx y).findIdx? (nD i)=none) :
  w.cD (w.iH i) i=some (w.zh (if s.bD=0 then w.c.ae.set y { s with ak:=[] } else w.c.ae.eraseIdx y) (w.ae.set i { x with aE:=x.aE+s.ak.length,ended:=s.bD })):=by
 have hyl:y<w.c.ae.length:=(List.getElem?_eq_some_iff.1 hs).1;have jQ:i<w.ae.length:=(List.getElem?_eq_some_iff.1 hx).1
 have e0:w.iH i=((w.cy x.aG).length-s.ak.length+3)+s.ak.length:=by
  unfold WP.iH;rw[hx];simp only;omega
 rw[e0,Mb s.ak _ w x s h hlen hx hy hs rfl he hn hg ou];have hD:=h.zh hx hs (x.aE+s.ak.length) hlen
 have JT:(w.zh (w.c.ae.set y { s with ak:=[] }) (w.ae.set i { x with aE:=x.aE+s.ak.length })).ae[i]? = some { x with aE:=x.aE+s.ak.length }:=by
  show (w.ae.set i _)[i]? = _;simp[jQ]
 have Tt:(w.zh (w.c.ae.set y { s with ak:=[] }) (w.ae.set i { x with aE:=x.aE+s.ak.length })).c.ae.findIdx? (nD i)=some y:=(ji (p:=nD i) (f':={ s with ak:=[] }) hs rfl).trans hy
 have il:(w.zh (w.c.ae.set y { s with ak:=[] }) (w.ae.set i { x with aE:=x.aE+s.ak.length })).c.ae[y]? = some { s with ak:=[] }:=by
  show (w.c.ae.set y _)[y]? = _;simp[hyl]
 by_cases hf:s.bD=0
 ·rw[if_pos hf,show (w.cy x.aG).length-s.ak.length+3=((w.cy x.aG).length-s.ak.length+2)+1 by omega,xP hD JT Tt il rfl hf]
  have:({ x with aE:=x.aE+s.ak.length,ended:=s.bD }:gp) = { x with aE:=x.aE+s.ak.length }:=by rw[hf,← he]
  rw[this]
 ·rw[if_neg hf,show (w.cy x.aG).length-s.ak.length+3=((w.cy x.aG).length-s.ak.length+1)+2 by omega]
  have key:=Qs (n:=(w.cy x.aG).length-s.ak.length+1) (k:=s.bD) hD JT Tt il rfl rfl (by
   rcases hk with e | ⟨e1,e2,e3⟩ | ⟨e1,e2,e3⟩ | ⟨e1,e2⟩
   ·exact absurd e hf
   ·exact Or.inl ⟨e1,e2,by show x.start+(x.aE+s.ak.length)=(w.cy x.aG).length;omega⟩
   ·exact Or.inr (Or.inl ⟨e1,by show x.aE+s.ak.length=0;omega,e3⟩)
   ·refine Or.inr (Or.inr ⟨e1,?_⟩)
    rcases e2 with e2 | e2
    ·exact Or.inl e2
    ·refine Or.inr ?_
     show w.eh x.aG (x.start+(x.aE+s.ak.length)+1)=false;rw[show x.start+(x.aE+s.ak.length)+1=s.aX+1 by omega]
     exact e2) he (by show ((w.c.ae.set y _).eraseIdx y).findIdx? (nD i)=none;rw[o7];exact sy)
  refine key.trans (congrArg some ?_);show (w.zh _ _).zh ((w.c.ae.set y _).eraseIdx y) ((w.ae.set i _).set i _)=_;rw[X4,o7,List.set_set]
def cV(E:dH)(r k:Nat):List aS:=if k+1<E.t.first then [aw 10 E.tk E.ss r (k+1)] else if E.t.bD=true∧k=E.t.count then [aw 9 E.tk E.ss r E.t.count] else my E r k (min E.t.count (k+E.W))
def bH(E:dH)(k:Nat):Nat:=if k+1<E.t.first then k else if E.t.bD=true∧k=E.t.count then k else min E.t.count (k+E.W)
def gU(E:dH)(k:Nat)(s:dQ):dQ:=if k+1<E.t.first then { s with bD:=s.cut } else oe E k s
def pF(E:dH)(r k:Nat):Option cY:=if k+1<E.t.first∨E.t.bD=true then none else some ⟨r,1,E.t.count,E.t.count,false⟩
theorem tJ{E:dH}(hE:E.Ok bp){r k:Nat}{L:List aS}(hk:k≤E.t.count)(hL:nB r L)(hl:L.length≤30):cw true E.W E.tk E.ss E.t ⟨r,1,k,k,false⟩ L=(⟨r,1,k,bH E k,false⟩,L++cV E r k):=by
 have hW:=hE.W;unfold cw cV bH;rw[if_neg (by simp)]
 by_cases h1:k+1<E.t.first
 ·rw[if_pos h1,if_pos h1,if_pos h1,bU (fun hm=>by
   rcases hL _ hm with e | e
   ·exact e rfl
   ·cases e) (by omega)]
 ·rw[if_neg h1,if_neg h1,if_neg h1]
  by_cases h2:E.t.bD=true∧k=E.t.count
  ·rw[if_pos h2,if_pos h2,if_pos h2,bU (fun hm=>by
    rcases hL _ hm with e | e
    ·exact e rfl
    ·cases e) (by omega)]
  ·rw[if_neg h2,if_neg h2,if_neg h2]
   simp only;rw[wQ (wR _ _ _ _) _ k L (fun i _=>tH rfl hL i) (by omega),show k+(min E.t.count (k+E.W)-k)=min E.t.count (k+E.W) by omega];rfl
theorem o8{ask:SP.jX}{E:dH}(hE:E.Ok bp){r k:Nat}(hr:r<1000)(hk:k≤E.t.count)(s:dQ)(hs:s.aR=r)(hf:s.bD=0)(hg:s.aX=k)(hb:s.base=E.base)(hn:s.name.size≤1000)(hv:s.ak=[]):
  ∃ X3 bl',CB bp E r (some s) (cV E r k) (some X3) bl'∧rA r (cV E r k)∧rA r bl'∧(X3.aR=r∧gx X3)∧dV ask bp E r 22 ⟨some ⟨r,1,k,bH E k,false⟩,some X3,bl'⟩ ⟨pF E r k,some (gU E k s),[]⟩:=by
 have hN:=hE.N;have hW:=hE.W;have hK:=hE.K;have jD:gx s:=⟨hn,by rw[hg];omega,by rw[hv];simp,by rw[hv];simp,by rw[hf];decide⟩
 have hD:rA r [aw 5 E.tk E.ss r 0]:=rA.one (bV (by decide) hE.tk hE.ss.2 (by omega) (by omega)) rfl;unfold cV bH pF gU
 by_cases h1:k+1<E.t.first
 ·rw[if_pos h1,if_pos h1,if_pos (Or.inl h1),if_pos h1]
  have hc:s.cut≠0∧s.cut≠1:=by unfold dQ.cut;split<;>decide
  have Jh:gx { s with bD:=s.cut }:=⟨jD.nm,jD.aX,jD.vl,jD.vg,hc.2⟩
  exact⟨_,_,CB.acP hE hr (by omega) s hs hf (Or.inr ⟨rfl,by omega⟩) (Or.inr ⟨rfl,rfl⟩),rA.one (bV (by decide) hE.tk hE.ss.2 (by omega) (by omega)) rfl,hD,⟨hs,Jh⟩,(Ji hE hr ⟨r,1,k,k,false⟩ ⟨rfl,Nat.le_refl _,by show k≤1000;omega,rfl⟩ { s with bD:=s.cut } ⟨hs,Jh⟩).le 19⟩
 ·have yh:E.t.count-E.t.dJ.length+1≤k+1:=by
   have:¬ k+1<E.t.count-E.t.dJ.length+1:=h1;omega
  have Pv:E.t.first≤k+1:=yh;rw[if_neg h1,if_neg h1,if_neg h1]
  by_cases h2:E.t.bD=true∧k=E.t.count
  ·rw[if_pos h2,if_pos h2,if_pos (Or.inr h2.1)]
   have Jh:gx { s with bD:=2 }:=⟨jD.nm,jD.aX,jD.vl,jD.vg,by show 2≠1;decide⟩
   have e:oe E k s = { s with bD:=2 }:=by
    unfold oe;rw[h2.1,h2.2,eu];simp[hg,h2.2]
   rw[e];exact⟨_,_,CB.acP hE hr (by omega) s hs hf (Or.inl ⟨rfl,by omega⟩) (Or.inl ⟨rfl,rfl⟩),rA.one (bV (by decide) hE.tk hE.ss.2 (by omega) (by omega)) rfl,hD,⟨hs,Jh⟩,(Ji hE hr ⟨r,1,k,k,false⟩ ⟨rfl,Nat.le_refl _,by show k≤1000;omega,rfl⟩ { s with bD:=2 } ⟨hs,Jh⟩).le 19⟩
  ·rw[if_neg h2,if_neg h2]
   by_cases h3:k=E.t.count
   ·have rG:E.t.bD=false:=by
     rcases Bool.eq_false_or_eq_true E.t.bD with e | e
     ·exact absurd ⟨e,h3⟩ h2
     ·exact e
    have e1:min E.t.count (k+E.W)=k:=by omega
    have e2:oe E k s=s:=by
     unfold oe;rw[rG,← h3,eu];obtain⟨q1,q2,q3,q4,q5,q6,q7,q8⟩:=s;simp at hf hg hv;simp[hf,hg,hv]
    rw[e1,e2,show my E r k k=[] by unfold my;rw[eu];rfl,if_neg (by rw[rG];simp[h1]),← h3];exact⟨_,_,CB.nil E r _,rA.nil r,rA.nil r,⟨hs,jD⟩,dV.stop ⟨fun f hf=>by cases hf;exact⟨rfl,Nat.le_refl _,by show k≤1000;omega,rfl⟩,fun x hx=>by cases hx;exact⟨hs,jD⟩,rA.nil r⟩ rfl⟩
   ·obtain⟨B,hB⟩:∃ B,min E.t.count (k+E.W)=B:=⟨_,rfl⟩
    rw[hB];have hR:Bn E r k B { s with ak:=s.ak++(dh k B).map E.val,aX:=B }:=⟨by omega,by omega,by omega,Pv,hs,hf,rfl,hb,hn,by rw[hv,List.nil_append,List.length_map,fV];omega,by rw[hv,List.nil_append,List.length_map,fV];omega,by rw[hv,List.nil_append,List.length_map,fV];omega⟩
    have e:CC E r B { s with ak:=s.ak++(dh k B).map E.val,aX:=B } = ⟨if k+1<E.t.first∨E.t.bD=true then none else some ⟨r,1,E.t.count,E.t.count,false⟩,some (oe E k s),[]⟩:=by
     unfold CC oe;simp only[List.append_assoc];rw[← List.map_append,uU (by omega) (by omega)]
     congr 1
     simp[h1]
    rw[← e];refine⟨_,_,CB.MX hE hr (by omega) (by omega) Pv s hs hf hg hb (by rw[hv,List.length_nil];omega) (by rw[hv,List.length_nil];omega),Jg hE hr (by omega) Pv (by omega),NN hE hr (by omega) (by omega),⟨hs,hR.st hE⟩,?_⟩;have:=UE (ask:=ask) hE hr 19 k B _ hR (by omega);exact this
theorem Jj{ask:SP.jX}{s:SP}(hs:s.aY=some o)(hc:s.cur=true)(hu:s.up=true)(k:Nat)(nm:ByteArray)(ht:s.dZ nm=some 1)(ij:s.au[1]? = some t)(hk:k≤t.count):
  s.take ask W ⟨2,o.ah,o.number,o.next,k,nm⟩ = { s with aY:=some { o with silence:=0,next:=o.next+1,af:=o.af++[(cw true W o.ah o.number t ⟨o.next,1,k,k,false⟩ (bo true s.L (aw 7 o.ah o.number (o.next+1) 0))).1] },L:=(cw true W o.ah o.number t ⟨o.next,1,k,k,false⟩ (bo true s.L (aw 7 o.ah o.number (o.next+1) 0))).2 }:=by
 rw[L5,lg hs];unfold SP.dZ at ht;unfold SP.cA SP.aR SP.cG SP.dZ;simp only[hc,if_true,SP.post,pH.fH,hu];rw[ht];simp only[ij];unfold SP.fP;simp only[List.getElem?_concat_length,ij];rw[show decide (t.count<k)=false from decide_eq_false (by omega)];simp
structure UF(Ts:List jS)(f:cY):Prop where
 t:∃ t,Ts[f.aG]? = some t∧t.bD=false∧f.aX=t.count∧t.first≤f.aX+1
 m:f.ey=false
 s:f.az=f.aX
theorem Mc(h:UF Ts f)(ht:Ts[f.aG]? = some t)(L:List aS):cw up W tk ss t { f with az:=f.aX } L=(f,L):=by
 obtain⟨t',h1,h2,h3,h4⟩:=h.t;rw[ht] at h1;cases h1;unfold cw;rw[if_neg (by simp[h.m]),if_neg (by simp only;omega),if_neg (by simp[h2])];simp only;rw[show min t.count (f.aX+W)-f.aX=0 by omega];unfold kP;have:=h.s;obtain⟨a,b,c,d,e⟩:=f;simp at this;simp[this]
theorem Bq:∀ (F:List cY) (L:List aS),(∀ f∈F,UF Ts f)→SP.dy up W o Ts (fun _=>true) (fun f=>{ f with az:=f.aX }) F L=(F,L)
 | [],L,_=>rfl
 | f::r,L,h=>by
  obtain⟨t,h1,_⟩:=(h f (List.mem_cons_self ..)).t;unfold SP.dy;rw[if_pos rfl,h1];simp only;rw[Mc (h f (List.mem_cons_self ..)) h1,Bq r L (fun g hg=>h g (List.mem_cons_of_mem _ hg))]
structure yH(w:WP)(o:pH):Prop where
 at_:w.lG=w.lS
 us:w.s.gl (w.lS:Int)=true
 uc:w.c.gl (w.lG:Int)=true
 so:zb w.s
 co:tC w.c
 vo:JS w
 aY:w.s.aY=some o
 cur:w.s.cur=true
 sL:w.s.L=[]
 cL:w.c.L=[]
 lh:o.silence=0∧w.c.silence=0
 ans:o.aC=[]
 fd:∀ f∈o.af,UF w.s.au f
 tk:w.c.ah=o.ah∧o.ah<1000000
 ss:w.c.ag=o.number∧0<o.number∧o.number<1000000
 nx:o.next<1000000
 aB:w.c.aB=[]
 D:2≤w.D
 st:w.bh=0∧w.bj=0
 wt:w.s.waits=[]∧w.aU=[]
 dr:∀ i x,w.ae[i]? = some x→i<w.c.bQ∧(w.c.ae.findIdx? (nD i)=none∨∃ y s,w.c.ae.findIdx? (nD i)=some y∧w.c.ae[y]? = some s∧s.ak=[]∧s.bD=0)
theorem tK{f:β → α → Option β}{w:β}:∀ (l:List α),(∀ a∈l,f w a=some w)→bd f w l=some w
 | [],_=>rfl
 | a::r,h=>by rw[aV,h a (List.mem_cons_self ..),Option.bind_some];exact tK r (fun b hb=>h b (List.mem_cons_of_mem _ hb))
theorem yH.ahR{w:WP}(h:yH w o):w.kD=some w:=by
 unfold WP.kD;refine tK _ (fun i hi=>?_);have jQ:=List.mem_range.1 hi;obtain⟨x,hx⟩:∃ x,w.ae[i]? = some x:=⟨_,List.getElem?_eq_getElem jQ⟩
 have e:w.iH i=((w.cy x.aG).length+2)+1:=by unfold WP.iH;rw[hx]
 obtain⟨hm,hc⟩:=h.dr i x hx;rw[e]
 rcases hc with hc | ⟨y,s,h1,h2,h3,h4⟩
 ·exact Bp ⟨h.co,h.vo,hm⟩ hx hc
 ·exact xP ⟨h.co,h.vo,hm⟩ hx h1 h2 h3 h4
theorem Br{w:WP}(h:tG w)(hk:tC w.c)(n:Nat)(hn:n<1000000)(h0:w.c.ag≠0)(ht:w.c.ah<1000000)(hs:w.c.ag<1000000):w.cF bp (aw 7 w.c.ah w.c.ag n 0)=some (w.dM (w.c.fk w.c.ae (w.c.aB.filter (fun r=>!decide (r.number<n))) w.c.L)):=by
 rw[lV h hk (bV (by decide) ht hs hn (by omega)) rfl,xN];unfold CP.fH;rw[if_pos (ours (c:={ w.c with silence:=0 }) h0 rfl rfl)];rfl
theorem xQ{w:WP}(h:tG w)(hk:tC w.c)(ht:w.c.ah≠0):w.cF bp (aw 7 0 0 0 0)=some (w.dM (w.c.fk w.c.ae w.c.aB w.c.L)):=by
 rw[lV h hk (bV (by decide) (by omega) (by omega) (by omega) (by omega)) rfl,xN];unfold CP.fH
 rw[if_neg (by
  unfold CP.fO aw;simp;intro _ e
  exact absurd e.symm ht)]
 rfl
theorem og(h:pW p=true):pR [p]=true:=by unfold pR;simp[h]
theorem yH.ahS{w:WP}(h:yH w o):w.lj.lp = { w with bh:=1,bj:=1,c:={ w.c with silence:=1,L:=[aw 1 o.ah o.number 0 0] },s:={ w.s with aY:=some { o with silence:=1 },L:=[aw 7 o.ah o.number o.next 0] } }:=by
 have hD:=h.D
 have e1:w.c.hJ w.D = { w.c with silence:=1,L:=[aw 1 o.ah o.number 0 0] }:=by
  unfold CP.hJ;simp only;rw[if_neg (by rw[h.lh.2];omega)];unfold CP.dI;rw[if_neg (by show w.c.ag≠0;rw[h.ss.1];have:=h.ss.2.1;omega)];unfold CP.post CP.Yk;simp only[h.aB,List.map_nil,List.foldl_nil,h.cL,Uz h.uc];rw[bU (by simp) (by simp),h.lh.2,h.tk.1,h.ss.1];rfl
 have e2:w.s.hJ w.W w.D = { w.s with aY:=some { o with silence:=1 },L:=[aw 7 o.ah o.number o.next 0] }:=by
  unfold SP.hJ;rw[h.aY];simp only;rw[if_pos (by rw[h.lh.1];omega)];unfold SP.dI;simp only[h.cur];rw[h.ans,List.foldl_nil,Bq _ _ h.fd];simp only[pH.fH,h.sL,NM h.us];rw[bU (by simp) (by simp),h.lh.1];rfl
 unfold WP.lj WP.lp;simp only[e1,e2,h.st.1,h.st.2];have e3:decide (w.D≤0+1)=false:=decide_eq_false (by omega);rw[e3];simp
theorem wT{ask:SP.jX}{s:SP}(hs:s.aY=some o)(hc:s.cur=true):s.take ask W (aw 1 o.ah o.number 0 0)=s.eG o o.af (bo s.up s.L (aw 7 o.ah o.number o.next 0)):=by
 rw[Bj,lg hs];unfold aw SP.BZ SP.cG;simp only[hc,if_true,SP.post,pH.fH];unfold SP.eG aw;simp only[hc]
theorem yH.ZK{ask:SP.jX}{w:WP}(h:yH w o){m:Nat}:WP.fD ask bp (m+2) w.lj.lp=some w:=by
 rw[h.ahS];obtain⟨w1,ee⟩:∃ w1,({ w with bh:=1,bj:=1,c:={ w.c with silence:=1,L:=[aw 1 o.ah o.number 0 0] },s:={ w.s with aY:=some { o with silence:=1 },L:=[aw 7 o.ah o.number o.next 0] } }:WP)=w1:=⟨_,rfl⟩
 have rR:pW (aw 1 o.ah o.number 0 0)=true:=bV (by decide) h.tk.2 h.ss.2.2 (by omega) (by omega);have UG:pW (aw 7 o.ah o.number o.next 0)=true:=bV (by decide) h.tk.2 h.ss.2.2 h.nx (by omega)
 have hoS:zb ({ w.s with aY:=some { o with silence:=1 },L:=[aw 7 o.ah o.number o.next 0] }:SP):=by
  refine⟨⟨⟨h.so.sm.tp,fun o' mz f hf=>?_,fun o' mz=>?_⟩,fun o' mz=>?_,h.so.sm.nn,h.so.sm.ow⟩,h.so.tl,fun o' mz=>?_⟩<;>(cases Option.some.inj mz;first | exact h.so.sm.fd o h.aY f hf | exact h.so.sm.ln o h.aY | exact⟨by show 1≤_;omega,(h.so.sm.sl o h.aY).2⟩ | exact h.so.an o h.aY)
 have eo:({ o with silence:=0,af:=o.af }:pH)=o:=by have:=h.lh.1;cases o;simp_all
 have t1:w1.jh ask bp=some (w,false):=by
  have a1:bd (WP.dq ask) w1.iB [aw 1 o.ah o.number 0 0]=some { w with bh:=1,bj:=0,c:={ w.c with silence:=1,L:=[] },s:={ w.s with L:=[aw 7 o.ah o.number o.next 0] } }:=by
   rw[aV,fE (w:=w1.iB) (by rw[← ee];exact⟨h.at_,h.us⟩) (by rw[← ee];exact hoS) rR (by rw[← ee];simp[IX,aw,WP.iB]) (fun o' mz=>by rw[← ee] at mz;cases mz;rfl)]
   have e1:w1.iB.s.take ask w1.iB.W (aw 1 o.ah o.number 0 0) = { w.s with L:=[aw 7 o.ah o.number o.next 0] }:=by
    rw[← ee];refine(wT (s:={ w.s with aY:=some { o with silence:=1 },L:=[aw 7 o.ah o.number o.next 0] }) (o:={ o with silence:=1 }) rfl h.cur).trans ?_;rw[lU (List.mem_singleton.2 rfl)];unfold SP.eG;simp only;rw[eo,← h.aY]
   rw[e1,← ee];rfl
  have a2:bd (WP.cF bp) ({ w with bh:=1,bj:=0,c:={ w.c with silence:=1,L:=[] },s:={ w.s with L:=[] } }:WP) [aw 7 o.ah o.number o.next 0]=some w:=by
   have hc:tC ({ w.c with silence:=1,L:=[] }:CP):=⟨⟨h.co.sm.a,h.co.sm.s,h.co.sm.ca,h.co.sm.at_,by show 1≤_;omega,h.co.sm.n⟩,h.co.st,h.co.sl,h.co.md⟩
   have:=Br (bp:=bp) (w:={ w with bh:=1,bj:=0,c:={ w.c with silence:=1,L:=[] },s:={ w.s with L:=[] } }) ⟨h.at_,h.uc⟩ hc o.next h.nx (by show w.c.ag≠0;rw[h.ss.1];have:=h.ss.2.1;omega) (by show w.c.ah<_;rw[h.tk.1];exact h.tk.2) (by show w.c.ag<_;rw[h.ss.1];exact h.ss.2.2);rw[show (({ w with bh:=1,bj:=0,c:={ w.c with silence:=1,L:=[] },s:={ w.s with L:=[] } }:WP).c.ah)=o.ah from h.tk.1,show (({ w with bh:=1,bj:=0,c:={ w.c with silence:=1,L:=[] },s:={ w.s with L:=[] } }:WP).c.ag)=o.number from h.ss.1] at this;rw[aV,this,Option.bind_some,eP]
   congr 1
   unfold WP.dM CP.fk;simp only[h.aB,List.filter_nil];have x1:=h.cL;have x2:=h.sL;have x3:=h.aB;have x4:=h.lh.2;obtain⟨x5,x6⟩:=h.st;clear this hc a1 hoS h ee;obtain⟨s,c,_⟩:=w;cases s;cases c
   simp_all
  have:=jK (ask:=ask) (bp:=bp) (w:=w1) (w1:={ w with bh:=1,bj:=0,c:={ w.c with silence:=1,L:=[] },s:={ w.s with L:=[aw 7 o.ah o.number o.next 0] } }) (w2:=w) (by rw[← ee];exact og rR) (by rw[show w1.c.L=[aw 1 o.ah o.number 0 0] by rw[← ee]];exact a1) (og UG) a2;rw[this,← ee];rfl
 have t2:w.jh ask bp=some (w,true):=by
  have a1:bd (WP.dq ask) w.iB w.c.L=some w.iB:=by rw[h.cL];rfl
  have hw:w.iB.ug=w:=by
   unfold WP.iB WP.ug;have:=h.cL;have:=h.sL;obtain⟨s,c,_⟩:=w;cases s;cases c
   simp_all
  have a2:bd (WP.cF bp) w.iB.ug w.iB.s.L=some w:=by rw[show w.iB.s.L=[] from h.sL,hw];rfl
  have:=jK (ask:=ask) (bp:=bp) (w:=w) (by rw[h.cL];rfl) a1 (by rw[show w.iB.s.L=[] from h.sL];rfl) a2;rw[this,h.cL,show w.iB.s.L=[] from h.sL];rfl
 rw[ee,fg t1,o5 t2]
theorem yH.round{ask:SP.jX}{w:WP}(h:yH w o):w.iJ ask bp=some w:=by
 unfold WP.iJ;rw[if_pos (A9.2 ⟨h.co,h.so,by have:=h.vo.W;omega,by have:=h.D;simp[tkB,Qd,h.st,h.lh,h.aY];omega⟩),h.ZK (m:=49),Option.bind_some,if_pos h.st,h.ahR,Option.bind_some,if_pos ⟨by rw[h.wt.1];rfl,by rw[h.wt.2];rfl⟩]
theorem yH.acR{ask:SP.jX}{w:WP}(h:yH w o)(l:List Nat):bd (fun x _=>WP.iJ ask bp x) w l=some w:=tK l (fun _ _=>h.round)
def cP(cn:Nat)(L:List aS)(cW ss lh:Nat)(A:List aS)(nx:Nat)(S:List dQ)(md:Nat):CP:=⟨(cn:Int),true,true,L,5,cW,ss,lh,A,nx,S,md,[],0⟩
def sP(cn:Nat)(L:List aS)(Ts:List jS)(o:Option pH)(cur:Bool)(bg:Nat):SP:=⟨(cn:Int),true,true,L,Ts,o,cur,bg,[],0,[]⟩
def oP(cW ss lh nx:Nat)(F:List cY):pH:=⟨5,cW,ss,lh,nx,F,[]⟩
def WP.bG(w:WP)(s:SP)(c:CP)(a b:Nat):WP:={ w with s:=s,c:=c,bh:=a,bj:=b }
structure yI(Ts:List jS):Prop where
 t:∀ t∈Ts,t.dJ.length≤t.count∧t.count≤1000000
 l:Ts.length≤400
theorem o9(hT:yI Ts)(hb:bg≤1000):zb (sP cn L Ts none cur bg) :=
 ⟨⟨⟨fun t ht=>⟨(hT.t t ht).1,by have:=(hT.t t ht).2;omega⟩,fun o ho=>(by cases ho),fun o ho=>(by cases ho)⟩,fun o ho=>(by cases ho),⟨by show bg≤_;omega,Nat.zero_le _,Nat.zero_le _⟩,⟨List.nodup_nil,fun x hx=>(by cases hx)⟩⟩,hT.l,fun o ho=>(by cases ho)⟩
theorem kN(hT:yI Ts)(hb:bg≤1000)(hs:lh≤1000)(hn:nx≤1000)(hF:∀ f∈F,f.aX≤f.az∧f.az≤1000∧f.aG<Ts.length)(hl:F.length≤2):zb (sP cn L Ts (some (oP cW ss lh nx F)) cur bg):=by
 refine⟨⟨⟨fun t ht=>⟨(hT.t t ht).1,by have:=(hT.t t ht).2;omega⟩,fun o ho f hf=>?_,fun o ho=>?_⟩,fun o ho=>?_,⟨by show bg≤_;omega,Nat.zero_le _,Nat.zero_le _⟩,⟨List.nodup_nil,fun x hx=>(by cases hx)⟩⟩,hT.l,fun o ho=>?_⟩
 ·cases Option.some.inj ho
  have:=hF f hf;exact⟨this.1,by omega,this.2.2⟩
 ·cases Option.some.inj ho
  exact⟨by show F.length≤_;omega,Nat.zero_le _⟩
 ·cases Option.some.inj ho
  exact⟨by show lh≤_;omega,by show nx≤_;omega⟩
 ·cases Option.some.inj ho
  exact Nat.zero_le _
theorem fM(h1:A.length≤2)(h2:∀ s∈S,gx s)(h3:S.length≤2)(h4:cW≤1000)(h5:lh≤1000)(h6:nx≤1000)(h7:md≤1000):tC (cP cn L cW ss lh A nx S md) :=
 ⟨⟨by show A.length≤_;omega,by show S.length≤_;omega,rfl,by show cW≤_;omega,by show lh≤_;omega,by show nx≤_;omega⟩,h2,by show S.length≤_;omega,by show md≤_;omega⟩
theorem uY(cn:Nat)(L:List aS)(Ts:List jS)(o:Option pH)(cur:Bool)(bg:Nat):(sP cn L Ts o cur bg).gl (cn:Int)=true:=by simp[SP.gl,sP]
theorem qN(cn:Nat)(L:List aS)(cW ss lh:Nat)(A:List aS)(nx:Nat)(S:List dQ)(md:Nat):(cP cn L cW ss lh A nx S md).gl (cn:Int)=true:=by simp[CP.gl,cP]
theorem UH(h:∀ p∈L,p.kind≠k)(t s n p:Nat):¬ aw k t s n p∈L:=fun hm=>h _ hm rfl
structure ZA(w:WP)(cn:Nat):Prop where
 c:w.lG=cn
 s:w.lS=cn
theorem Bt{ask:SP.jX}{w:WP}(hw:ZA w cn)(hT:yI Ts)(hb:bg≤100)(hA:A.length≤2)(hS:∀ s∈S,gx s)(rQ:S.length≤2)(BI:cW≤100)(anL:lh≤100)(hnx:nx≤100)(Pb:md≤100)(sL:List aS)(hsL:sL=[]∨sL=[aw 7 0 0 0 0])
  (hP:(A.map (fun r:aS=>{ r with ah:=5,ag:=bg+1 })).foldl (bo true) [aw 1 5 (bg+1) 0 0]=aw 1 5 (bg+1) 0 0::A.map (fun r:aS=>{ r with ah:=5,ag:=bg+1 })) :
  (w.bG (sP cn sL Ts none false bg) (cP cn [aw 0 5 0 cW 0] cW 0 lh A nx S md) a b).jh ask bp=some (w.bG (sP cn [] Ts (some (oP cW (bg+1) 0 0 [])) true (bg+1)) (cP cn (aw 1 5 (bg+1) 0 0::A.map (fun r:aS=>{ r with ah:=5,ag:=bg+1 })) cW (bg+1) 0 A nx S md) 0 0,false):=by
 have ahT:pW (aw 0 5 0 cW 0)=true:=bV (by decide) (by omega) (by omega) (by omega) (by omega);have acS:pW (aw 6 5 (bg+1) cW 0)=true:=bV (by decide) (by omega) (by omega) (by omega) (by omega);have UG:pW (aw 7 0 0 0 0)=true:=bV (by decide) (by omega) (by omega) (by omega) (by omega)
 have a1:bd (WP.dq ask) (w.bG (sP cn sL Ts none false bg) (cP cn [] cW 0 lh A nx S md) a b) [aw 0 5 0 cW 0]=some (w.bG (sP cn (sL++[aw 6 5 (bg+1) cW 0]) Ts (some (oP cW (bg+1) 0 0 [])) true (bg+1)) (cP cn [] cW 0 lh A nx S md) a 0):=by
  rw[aV,fE (w:=w.bG (sP cn sL Ts none false bg) (cP cn [] cW 0 lh A nx S md) a b) ⟨hw.c.trans hw.s.symm,by show (sP cn sL Ts none false bg).gl (w.lS:Int)=true;rw[hw.s];exact uY ..⟩ (o9 hT (by omega)) ahT rfl (fun o ho=>(by cases ho)),L0]
  have e:(oY (sP cn sL Ts none false bg)).zv (aw 0 5 0 cW 0)=sP cn (bo true sL (aw 6 5 (bg+1) cW 0)) Ts (some (oP cW (bg+1) 0 0 [])) true (bg+1):=by
   unfold SP.zv oY sP aw;simp only;rfl
  rw[show (w.bG (sP cn sL Ts none false bg) (cP cn [] cW 0 lh A nx S md) a b).s=sP cn sL Ts none false bg from rfl,e,bU (UH (fun p hp=>by
   rcases hsL with rfl | rfl
   ·cases hp
   ·rw[List.mem_singleton.1 hp];decide) _ _ _ _) (by rcases hsL with rfl | rfl<;>simp)]
  rfl
 have hW:∀ (w':WP) (a':Nat),ZA w' cn→w'.c=cP cn [] cW 0 a' A nx S md→a'≤100→w'.cF bp (aw 6 5 (bg+1) cW 0)=some { w' with bh:=0,c:=cP cn (aw 1 5 (bg+1) 0 0::A.map (fun r:aS=>{ r with ah:=5,ag:=bg+1 })) cW (bg+1) 0 A nx S md }:=fun w' a' kW hc ha'=>by
  rw[lV (w:=w') ⟨kW.c.trans kW.s.symm,by rw[hc,kW.c];exact qN ..⟩ (by rw[hc];exact fM hA hS rQ (by omega) (by omega) (by omega) (by omega)) acS (by rw[hc];simp[Ud,cP,aw]),I8,hc]
  have e:(({ (cP cn [] cW 0 a' A nx S md) with silence:=0 }:CP).qS (aw 6 5 (bg+1) cW 0))=cP cn ((A.map (fun r:aS=>{ r with ah:=5,ag:=bg+1 })).foldl (bo true) (bo true [] (aw 1 5 (bg+1) 0 0))) cW (bg+1) 0 A nx S md:=by
   unfold CP.qS;rw[if_pos ⟨rfl,rfl,rfl⟩];unfold CP.dI;rw[if_neg (by show bg+1≠0;omega)];rfl
  rw[e,bU (by simp) (by simp),List.nil_append,hP];rfl
 have a2:bd (WP.cF bp) (w.bG (sP cn [] Ts (some (oP cW (bg+1) 0 0 [])) true (bg+1)) (cP cn [] cW 0 lh A nx S md) a 0) (sL++[aw 6 5 (bg+1) cW 0])=some (w.bG (sP cn [] Ts (some (oP cW (bg+1) 0 0 [])) true (bg+1)) (cP cn (aw 1 5 (bg+1) 0 0::A.map (fun r:aS=>{ r with ah:=5,ag:=bg+1 })) cW (bg+1) 0 A nx S md) 0 0):=by
  rcases hsL with rfl | rfl
  ·rw[List.nil_append,aV,hW (w.bG (sP cn [] Ts (some (oP cW (bg+1) 0 0 [])) true (bg+1)) (cP cn [] cW 0 lh A nx S md) a 0) lh ⟨hw.c,hw.s⟩ rfl anL]
   rfl
  ·rw[List.singleton_append,aV,xQ (w:=w.bG (sP cn [] Ts (some (oP cW (bg+1) 0 0 [])) true (bg+1)) (cP cn [] cW 0 lh A nx S md) a 0) ⟨hw.c.trans hw.s.symm,by show (cP cn [] cW 0 lh A nx S md).gl (w.lG:Int)=true;rw[hw.c];exact qN ..⟩ (fM hA hS rQ (by omega) (by omega) (by omega) (by omega)) (by show 5≠0;omega),Option.bind_some]
   show bd (WP.cF bp) (w.bG (sP cn [] Ts (some (oP cW (bg+1) 0 0 [])) true (bg+1)) (cP cn [] cW 0 0 A nx S md) 0 0) [aw 6 5 (bg+1) cW 0]=_;rw[aV,hW (w.bG (sP cn [] Ts (some (oP cW (bg+1) 0 0 [])) true (bg+1)) (cP cn [] cW 0 0 A nx S md) 0 0) 0 ⟨hw.c,hw.s⟩ rfl (by omega)];rfl
 exact jK (w:=w.bG (sP cn sL Ts none false bg) (cP cn [aw 0 5 0 cW 0] cW 0 lh A nx S md) a b) (w1:=w.bG (sP cn (sL++[aw 6 5 (bg+1) cW 0]) Ts (some (oP cW (bg+1) 0 0 [])) true (bg+1)) (cP cn [] cW 0 lh A nx S md) a 0) (og ahT) a1 (by
  rcases hsL with rfl | rfl
  ·exact og acS
  ·show pR [aw 7 0 0 0 0,aw 6 5 (bg+1) cW 0]=true
   unfold pR
   simp[acS,UG]) a2
abbrev cQ(r k:Nat):aS:=⟨2,0,0,r,k,cr 1⟩
abbrev gV(r k:Nat):aS:=⟨2,5,1,r,k,cr 1⟩
theorem zi(hr:r<1000)(hk:k≤1000):pW (gV r k)=true:=by
 unfold pW;simp;exact⟨⟨by omega,by omega⟩,by decide⟩
structure Md(E:dH)(bp:vh):Prop where
 ok:E.Ok bp
 tk:E.tk=5
 ss:E.ss=1
 base:E.base=eN 1
 ti:∀ s:SP,s.au=E.Ts→s.dZ (cr 1)=some 1
 Ts:yI E.Ts
 R:E.R≤1000
theorem Md.l1{E:dH}(h:Md E bp):1<E.Ts.length:=(List.getElem?_eq_some_iff.1 h.ok.ht).1
theorem Me(E:dH){r q k:Nat}(h:q≠r):nB r (cV E q k):=by
 unfold cV
 split
 ·intro p hp
  rw[List.mem_singleton.1 hp];exact Or.inl h
 ·split
  ·intro p hp
   rw[List.mem_singleton.1 hp];exact Or.inl h
  ·exact L8 E h
theorem Mf(E:dH)(q k:Nat):∀ p∈cV E q k,p.kind≠7:=by
 unfold cV
 split
 ·intro p hp
  rw[List.mem_singleton.1 hp];show 10≠7;omega
 ·split
  ·intro p hp
   rw[List.mem_singleton.1 hp];show 9≠7;omega
  ·intro p hp
   obtain⟨i,_,rfl⟩:=List.mem_map.1 hp;show 8≠7;omega
theorem rB(h1:L.length≤60)(h2:∀ p∈L,pW p=true):pR L=true:=by
 unfold pR;rw[Bool.and_eq_true];exact⟨decide_eq_true h1,List.all_eq_true.2 h2⟩
structure UI(E:dH)(w:WP)(cn:Nat):Prop where
 a:ZA w cn
 W:w.W=E.W
 R:w.R=E.R
theorem qO{w:WP}(hw:ZA w cn)(q:SP)(L:List aS)(cW ss lh:Nat)(A:List aS)(nx:Nat)(S:List dQ)(md a b n:Nat)(hk:tC (cP cn L cW ss lh A nx S md))(hn:n<1000000)(h0:ss≠0)(hs:ss<1000000):
  (w.bG q (cP cn L cW ss lh A nx S md) a b).cF bp (aw 7 5 ss n 0)=some (w.bG q (cP cn L cW ss 0 (A.filter (fun r=>!decide (r.number<n))) nx S md) 0 b) :=
 Br (w:=w.bG q (cP cn L cW ss lh A nx S md) a b) ⟨hw.c.trans hw.s.symm,by show (cP cn L cW ss lh A nx S md).gl (w.lG:Int)=true;rw[hw.c];exact qN ..⟩ hk n hn h0 (by show 5<1000000;omega) hs
theorem DU{w:WP}(hw:ZA w cn)(q:SP)(L:List aS)(cW ss lh:Nat)(A:List aS)(nx:Nat)(S:List dQ)(md a b:Nat)(hk:tC (cP cn L cW ss lh A nx S md)):
  (w.bG q (cP cn L cW ss lh A nx S md) a b).cF bp (aw 7 0 0 0 0)=some (w.bG q (cP cn L cW ss 0 A nx S md) 0 b) :=
 xQ (w:=w.bG q (cP cn L cW ss lh A nx S md) a b) ⟨hw.c.trans hw.s.symm,by show (cP cn L cW ss lh A nx S md).gl (w.lG:Int)=true;rw[hw.c];exact qN ..⟩ hk (by show 5≠0;omega)
theorem Mg{ask:SP.jX}{E:dH}(hE:Md E bp){w:WP}{cn:Nat}(hw:UI E w cn)(s:dQ)(hs:s.aR=0)(hf:s.bD=0)(hg:s.aX=0)(hb:s.base=eN 1)(hn:s.name.size≤1000)(hv:s.ak=[]):
  ∃ T0,dV ask bp E 0 22 T0 ⟨pF E 0 0,some (gU E 0 s),[]⟩∧(w.bG (sP cn [] E.Ts (some (oP 0 1 0 0 [])) true 1) (cP cn [aw 1 5 1 0 0,gV 0 0] 0 1 0 [cQ 0 0] 1 [s] 1) 0 0).jh ask bp=some (XX (w.bG (sP cn [] E.Ts (some (oP 0 1 0 1 [])) true 1) (cP cn [] 0 1 0 [] 1 [] 1) 0 0) (oP 0 1 0 1 []) T0 ⟨none,none,[]⟩,false):=by
 have jD:gx s:=⟨hn,by rw[hg];omega,by rw[hv];simp,by rw[hv];simp,by rw[hf];decide⟩
 obtain⟨X3,bl',c1,c2,c3,c4,c5⟩:=o8 (ask:=ask) hE.ok (r:=0) (k:=0) (by omega) (Nat.zero_le _) s hs hf hg (hb.trans hE.base.symm) hn hv;refine⟨_,c5,?_⟩;have rR:pW (aw 1 5 1 0 0)=true:=bV (by decide) (by omega) (by omega) (by omega) (by omega);have h7:∀ n,n<1000→pW (aw 7 5 1 n 0)=true:=fun n hn=>bV (by decide) (by omega) (by omega) (by omega) (by omega)
 have hX:∀ (c:CP) (a b:Nat) (L:List aS) (o:pH),nA (w.bG (sP cn L E.Ts (some o) true 1) c a b):=fun c a b L o=>⟨hw.a.c.trans hw.a.s.symm,by show (sP cn L E.Ts (some o) true 1).gl (w.lS:Int)=true;rw[hw.a.s];exact uY ..⟩
 have a1:bd (WP.dq ask) (w.bG (sP cn [] E.Ts (some (oP 0 1 0 0 [])) true 1) (cP cn [] 0 1 0 [cQ 0 0] 1 [s] 1) 0 0) [aw 1 5 1 0 0,gV 0 0]=some (w.bG (sP cn ([aw 7 5 1 0 0,aw 7 5 1 1 0]++cV E 0 0) E.Ts (some (oP 0 1 0 1 [⟨0,1,0,bH E 0,false⟩])) true 1) (cP cn [] 0 1 0 [cQ 0 0] 1 [s] 1) 0 0):=by
  rw[aV,fE (hX _ _ _ _ _) (kN hE.Ts (by omega) (by omega) (by omega) (F:=[]) (fun f hf=>(by cases hf)) (by simp)) rR rfl (fun o ho=>by cases ho;rfl)]
  have e1:(sP cn [] E.Ts (some (oP 0 1 0 0 [])) true 1).take ask w.W (aw 1 5 1 0 0)=sP cn [aw 7 5 1 0 0] E.Ts (some (oP 0 1 0 0 [])) true 1:=by
   refine(wT (s:=sP cn [] E.Ts (some (oP 0 1 0 0 [])) true 1) (o:=oP 0 1 0 0 []) rfl rfl).trans ?_;rw[show (sP cn [] E.Ts (some (oP 0 1 0 0 [])) true 1).up=true from rfl,show (sP cn [] E.Ts (some (oP 0 1 0 0 [])) true 1).L=[] from rfl,bU (by simp) (by simp)];rfl
  rw[show (w.bG (sP cn [] E.Ts (some (oP 0 1 0 0 [])) true 1) (cP cn [] 0 1 0 [cQ 0 0] 1 [s] 1) 0 0).s.take ask (w.bG (sP cn [] E.Ts (some (oP 0 1 0 0 [])) true 1) (cP cn [] 0 1 0 [cQ 0 0] 1 [s] 1) 0 0).W (aw 1 5 1 0 0)=_ from e1,Option.bind_some];show bd (WP.dq ask) (w.bG (sP cn [aw 7 5 1 0 0] E.Ts (some (oP 0 1 0 0 [])) true 1) (cP cn [] 0 1 0 [cQ 0 0] 1 [s] 1) 0 0) [gV 0 0]=_;rw[aV,fE (hX _ _ _ _ _) (kN hE.Ts (by omega) (by omega) (by omega) (F:=[]) (fun f hf=>(by cases hf)) (by simp)) (zi (by omega) (by omega)) rfl (fun o ho=>by cases ho;rfl)]
  have e2:(sP cn [aw 7 5 1 0 0] E.Ts (some (oP 0 1 0 0 [])) true 1).take ask w.W (gV 0 0)=sP cn ([aw 7 5 1 0 0,aw 7 5 1 1 0]++cV E 0 0) E.Ts (some (oP 0 1 0 1 [⟨0,1,0,bH E 0,false⟩])) true 1:=by
   refine(Jj (s:=sP cn [aw 7 5 1 0 0] E.Ts (some (oP 0 1 0 0 [])) true 1) (o:=oP 0 1 0 0 []) rfl rfl rfl 0 (cr 1) (hE.ti _ rfl) hE.ok.ht (Nat.zero_le _)).trans ?_;have e3:bo true [aw 7 5 1 0 0] (aw 7 5 1 1 0)=[aw 7 5 1 0 0,aw 7 5 1 1 0]:=bU (fun hm=>by have:=(aS.mk.inj (List.mem_singleton.1 hm)).2.2.2.1;omega) (by simp)
   have e4:=tJ hE.ok (r:=0) (k:=0) (L:=[aw 7 5 1 0 0,aw 7 5 1 1 0]) (Nat.zero_le _) (fun p hp=>by
    rcases List.mem_cons.1 hp with rfl | hp
    ·exact Or.inr rfl
    ·rw[List.mem_singleton.1 hp];exact Or.inr rfl) (by simp)
   rw[hE.tk,hE.ss,← hw.W] at e4
   have e5:cw true w.W (oP 0 1 0 0 []).ah (oP 0 1 0 0 []).number E.t ⟨(oP 0 1 0 0 []).next,1,0,0,false⟩ (bo true (sP cn [aw 7 5 1 0 0] E.Ts (some (oP 0 1 0 0 [])) true 1).L (aw 7 (oP 0 1 0 0 []).ah (oP 0 1 0 0 []).number ((oP 0 1 0 0 []).next+1) 0))=(⟨0,1,0,bH E 0,false⟩,[aw 7 5 1 0 0,aw 7 5 1 1 0]++cV E 0 0):=by
    rw[show bo true (sP cn [aw 7 5 1 0 0] E.Ts (some (oP 0 1 0 0 [])) true 1).L (aw 7 (oP 0 1 0 0 []).ah (oP 0 1 0 0 []).number ((oP 0 1 0 0 []).next+1) 0)=[aw 7 5 1 0 0,aw 7 5 1 1 0] from e3];exact e4
   rw[e5];rfl
  rw[show (w.bG (sP cn [aw 7 5 1 0 0] E.Ts (some (oP 0 1 0 0 [])) true 1) (cP cn [] 0 1 0 [cQ 0 0] 1 [s] 1) 0 0).s.take ask (w.bG (sP cn [aw 7 5 1 0 0] E.Ts (some (oP 0 1 0 0 [])) true 1) (cP cn [] 0 1 0 [cQ 0 0] 1 [s] 1) 0 0).W (gV 0 0)=_ from e2];rfl
 have hXc:∀ (q:SP) (a b:Nat) (L A:List aS),tG (w.bG q (cP cn L 0 1 0 A 1 [s] 1) a b):=fun q a b L A=>⟨hw.a.c.trans hw.a.s.symm,by show (cP cn L 0 1 0 A 1 [s] 1).gl (w.lG:Int)=true;rw[hw.a.c];exact qN ..⟩
 have acT:∀ x∈[s],gx x:=fun x hx=>by rw[List.mem_singleton.1 hx];exact jD
 have a2:bd (WP.cF bp) (w.bG (sP cn [] E.Ts (some (oP 0 1 0 1 [⟨0,1,0,bH E 0,false⟩])) true 1) (cP cn [] 0 1 0 [cQ 0 0] 1 [s] 1) 0 0) ([aw 7 5 1 0 0,aw 7 5 1 1 0]++cV E 0 0)=some (w.bG (sP cn [] E.Ts (some (oP 0 1 0 1 [⟨0,1,0,bH E 0,false⟩])) true 1) (cP cn bl' 0 1 0 [] 1 [X3] 1) 0 0):=by
  rw[List.cons_append,aV,qO hw.a _ _ _ _ _ _ _ _ _ _ _ _ (fM (by simp) acT (by simp) (by omega) (by omega) (by omega) (by omega)) (by omega) (by omega) (by omega),Option.bind_some];show bd (WP.cF bp) (w.bG (sP cn [] E.Ts (some (oP 0 1 0 1 [⟨0,1,0,bH E 0,false⟩])) true 1) (cP cn [] 0 1 0 [cQ 0 0] 1 [s] 1) 0 0) (aw 7 5 1 1 0::cV E 0 0)=_;rw[aV,qO hw.a _ _ _ _ _ _ _ _ _ _ _ _ (fM (by simp) acT (by simp) (by omega) (by omega) (by omega) (by omega)) (by omega) (by omega) (by omega),Option.bind_some];show bd (WP.cF bp) (w.bG (sP cn [] E.Ts (some (oP 0 1 0 1 [⟨0,1,0,bH E 0,false⟩])) true 1) (cP cn [] 0 1 0 [] 1 [s] 1) 0 0) (cV E 0 0)=_;refine(c1 (w.bG (sP cn [] E.Ts (some (oP 0 1 0 1 [⟨0,1,0,bH E 0,false⟩])) true 1) (cP cn [] 0 1 0 [] 1 [s] 1) 0 0) [] [] ⟨hXc _ _ _ _ _,fM (by simp) acT (by simp) (by omega) (by omega) (by omega) (by omega),hE.tk.symm,hE.ss.symm,rfl,hw.R,rfl⟩ rfl (fun x hx=>(by cases hx)) (fun x hx=>(by cases hx)) (fun p hp=>(by cases hp)) (nB.nil 0) (by show ([]:List aS).length≤30;simp)).trans ?_;rfl
 have e:=jK (ask:=ask) (bp:=bp) (w:=w.bG (sP cn [] E.Ts (some (oP 0 1 0 0 [])) true 1) (cP cn [aw 1 5 1 0 0,gV 0 0] 0 1 0 [cQ 0 0] 1 [s] 1) 0 0) (w1:=w.bG (sP cn ([aw 7 5 1 0 0,aw 7 5 1 1 0]++cV E 0 0) E.Ts (some (oP 0 1 0 1 [⟨0,1,0,bH E 0,false⟩])) true 1) (cP cn [] 0 1 0 [cQ 0 0] 1 [s] 1) 0 0) (w2:=w.bG (sP cn [] E.Ts (some (oP 0 1 0 1 [⟨0,1,0,bH E 0,false⟩])) true 1) (cP cn bl' 0 1 0 [] 1 [X3] 1) 0 0) (rB (by show 2≤60;omega) (fun p hp=>by
   rcases List.mem_cons.1 hp with rfl | hp
   ·exact rR
   ·rw[List.mem_singleton.1 hp];exact zi (by omega) (by omega))) a1 (rB (by show ([aw 7 5 1 0 0,aw 7 5 1 1 0]++cV E 0 0).length≤60;rw[List.length_append];have:=c2.len;simp;omega) (fun p hp=>by
   rcases List.mem_append.1 hp with hp | hp
   ·rcases List.mem_cons.1 hp with rfl | hp
    ·exact h7 0 (by omega)
    ·rw[List.mem_singleton.1 hp];exact h7 1 (by omega)
   ·exact(c2.p p hp).1)) a2
 refine e.trans (congrArg some (Prod.ext ?_ rfl));unfold XX;simp only[Option.toList_some,Option.toList_none,List.append_nil];rfl
end Go.Proofs.YtkpfplbmmglkkaaGreatDoor
