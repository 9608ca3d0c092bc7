/- A server in memory, whatever it has (of one client at most). -/
import Derived.Test.YtkpfplbmmglkkaaGreatDoorV02
import Derived.Test.YtkpfplbmmglkkaaGreatDoorV03
set_option linter.all false
namespace Go.Proofs.YtkpfplbmmglkkaaGreatDoor
variable {lo:Nat}{w w' w1 w2:World}{p1:SP}
open Go.RowKit Go.Conc
structure B8 where
 v:Value
 d:List UInt8
def B8.aF(k:B8):List fm:=cx 5 1 k.v k.d.length (k.d.map bJ)
structure eZ where
 ap:Nat
 kv:Value
 ks:List B8
 name:ByteArray
 base:ByteArray
 count:Nat
 bD:Bool
def eZ.t(m:eZ):jS:=⟨m.name,m.base,m.count,m.ks.map (fun k=>k.d),m.bD⟩
abbrev dl(m:eZ):List Value:=[.string m.name,.string m.base,.int .u64 m.count,m.kv,.bool m.bD]
def eZ.Ef(m:eZ):List fm:=cx 103 1 m.kv m.ks.length (m.ks.map (fun k=>k.v))
def eZ.aF(m:eZ):List fm:=[eL m.ap 108 (dl m)]++(m.Ef++m.ks.flatMap B8.aF)
structure eZ.Ok(m:eZ):Prop where
 rk:du 1 m.kv m.ks.length (m.ks.map (fun k=>k.v))
 rb:∀ k∈m.ks,du 1 k.v k.d.length (k.d.map bJ)
structure iq where
 ap:Nat
 f:cY
def vw(dz:List Nat)(i:Nat):Nat:=(dz[i]?).getD 0
abbrev eU(sb:Nat)(dz:List Nat)(m:iq):List Value:=[aJ sb,.int .u64 m.f.number,aJ (vw dz m.f.aG),.int .u64 m.f.aX,.int .u64 m.f.az,.bool m.f.ey]
def iq.aF(sb:Nat)(dz:List Nat)(m:iq):List fm:=[eL m.ap 160 (eU sb dz m)]
structure cZ where
 ap:Nat
 ah:Nat
 bI:Nat
 number:Nat
 silence:Nat
 next:Nat
 fv:Value
 af:List iq
 av:Value
 aC:List aS
def cZ.o(m:cZ):pH:=⟨m.ah,m.bI,m.number,m.silence,m.next,m.af.map (fun f=>f.f),m.aC⟩
abbrev ec(m:cZ):List Value:=[.int .u64 m.ah,.int .u64 m.bI,.int .u64 m.number,.int .i64 m.silence,.int .u64 m.next,m.fv,m.av]
def cZ.cT(m:cZ):List fm:=[eL m.ap 157 (ec m)]
def cZ.jm(m:cZ):List fm:=cx 158 1 m.fv m.af.length (m.af.map (fun f=>aJ f.ap))
def cZ.kR(m:cZ):List fm:=cx 125 6 m.av m.aC.length (dj m.aC)
def cZ.aF(dz:List Nat)(m:cZ):List fm:=m.cT++(m.jm++(m.af.flatMap (iq.aF m.ap dz)++m.kR))
structure cZ.Ok(m:cZ):Prop where
 rf:du 1 m.fv m.af.length (m.af.map (fun f=>aJ f.ap))
 rn:du 6 m.av m.aC.length (dj m.aC)
abbrev aeq(y:WyP):List Value:=[.int .u64 y.ah,.int .u64 y.ag,.int .u64 y.aR,.string y.answer]
abbrev aer(x:QuP):List Value:=[.string x.name,.string x.value,.int .u64 x.nM.ah,.int .u64 x.nM.ag,.int .u64 x.nM.aR,.string x.nM.answer]
def Rl(l:List QuP):List Value:=l.flatMap aer
def eI(ms:Nat)(l:List (Nat × Nat)):fm:=(ms,fun o=>∃ es clock,o=.map es clock∧es.toList.map (fun e=>(e.key,e.val))=l.map (fun x=>(.int .u64 (x.1:Nat),aJ x.2))∧∀ e∈es.toList,e.born<clock)
def kT(mo:Nat)(l:List (Nat × WyP)):fm:=(mo,fun o=>∃ es clock,o=.map es clock∧es.toList.map (fun e=>(e.key,e.val))=l.map (fun x=>(.int .i64 (x.1:Nat),.agg (aeq x.2).toArray)))
structure SG where
 b:Nat
 q:Nat
 m:Nat
 iv:Value
 W:Nat
 D:Nat
 R:Nat
 bu:Int
 fN:Bool
 up:Bool
 L:List aS
 tv:Value
 au:List eZ
 ms:Nat
 aY:Option cZ
 cur:Bool
 cR:Nat
 wv:Value
 waits:List QuP
 aE:Nat
 mo:Nat
 D8:List (Nat × WyP)
namespace SG
def st(g:SG):SP:=⟨g.bu,g.fN,g.up,g.L,g.au.map eZ.t,g.aY.map cZ.o,g.cur,g.cR,g.waits,g.aE,g.D8⟩
def dz(g:SG):List Nat:=g.au.map (fun t=>t.ap)
def fR(g:SG):Value:=match g.cur,g.aY with
 | true,some s=>aJ s.ap
 | _,_=>.pointer none
abbrev tl(g:SG):List Value:=[g.tv,.map (some g.ms),g.fR,.int .u64 g.cR,g.wv,.int .i64 g.aE,.map (some g.mo)]
abbrev cells(g:SG):List Value:=pZ g.iv (.int .i64 g.W) (.int .i64 g.D) (.int .i64 g.R) g.bu g.fN g.up g.q g.m g.tl
def bB(g:SG):List fm:=[eL g.b 91 g.cells]
def bq(g:SG):List fm:=[pN g.q g.L]++[j9 g.m g.L]
def jy(g:SG):List fm:=cx 100 1 g.tv g.au.length (g.au.map (fun t=>aJ t.ap))
def vx(g:SG):List fm:=g.au.flatMap eZ.aF
def nQ(g:SG):List fm:=[eI g.ms (g.aY.toList.map (fun s=>(s.ah,s.ap)))]
def nR(g:SG):List fm:=g.aY.toList.flatMap (cZ.aF g.dz)
def yd(g:SG):List fm:=cx 209 6 g.wv g.waits.length (Rl g.waits)
def vy(g:SG):List fm:=[kT g.mo g.D8]
def rest(g:SG):List fm:=g.jy++(g.vx++(g.nQ++(g.nR++(g.yd++g.vy))))
def aF(g:SG):List fm:=g.bB++(g.bq++g.rest)
end SG
structure cB(lo:Nat)(w:World)(g:SG):Prop where
 dR:cE lo w g.aF
 rt:du 1 g.tv g.au.length (g.au.map (fun t=>aJ t.ap))
 tp:∀ t∈g.au,t.Ok
 ss:∀ s∈g.aY.toList,s.Ok
 rw:du 6 g.wv g.waits.length (Rl g.waits)
theorem cB.ap{g:SG}(h:cB lo w g):aZ w g.b 91 g.cells:=h.dR.ap (List.mem_append_left _ (List.mem_singleton.2 rfl))
theorem cB.bG{g:SG}(h:cB lo w g):jY w g.b 91 g.iv (vI g.W) (vI g.D) (vI g.R) g.bu g.fN g.up g.tl g.L g.q g.m :=
 ⟨h.ap,h.dR.vi (by unfold SG.aF SG.bq;simp),h.dR.D9 (by unfold SG.aF SG.bq;simp)⟩
theorem cB.below{g:SG}(h:cB lo w g)(hb:Below w.heap.size w w'):cB lo w' g:=⟨h.dR.below hb,h.rt,h.tp,h.ss,h.rw⟩
theorem cB.drew{g:SG}(h:cB lo w g):cB lo w.drew g:=⟨h.dR.drew,h.rt,h.tp,h.ss,h.rw⟩
theorem cB.MB{g:SG}(h:cB lo w g):lo≤g.b:=(h.dR.lt ⟨_,List.mem_append_left _ (List.mem_singleton.2 rfl),rfl⟩).1
theorem cB.loq{g:SG}(h:cB lo w g):lo≤g.q:=(h.dR.lt ⟨pN g.q g.L,by unfold SG.aF SG.bq;simp,rfl⟩).1
theorem cB.lom{g:SG}(h:cB lo w g):lo≤g.m:=(h.dR.lt ⟨j9 g.m g.L,by unfold SG.aF SG.bq;simp,rfl⟩).1
theorem cB.kf{g:SG}(h:cB lo w g):¬ aL g.aF w.heap.size:=fun hk=>by have:=(h.dR.lt hk).2;omega
structure dw(lo:Nat)(w:World)(g:SG)(p:SP)(w':World)(g':SG):Prop where
 cN:cB lo w' g'
 st:g'.st=p
 grow:cM w g.aF w' g'.aF
 b:g'.b=g.b
 iv:g'.iv=g.iv
 qU:g'.W=g.W∧g'.D=g.D∧g'.R=g.R
theorem dw.refl{g:SG}(h:cB lo w g)(hb:Below w.heap.size w w'):dw lo w g g.st w' g:=⟨h.below hb,rfl,cM.aI hb,rfl,rfl,rfl,rfl,rfl⟩
theorem dw.trans{g g1 g2:SG}{p2:SP}(h:dw lo w g p1 w1 g1)(k:dw lo w1 g1 p2 w2 g2):dw lo w g p2 w2 g2 :=
 ⟨k.cN,k.st,h.grow.trans k.grow,k.b.trans h.b,k.iv.trans h.iv,k.qU.1.trans h.qU.1,k.qU.2.1.trans h.qU.2.1,k.qU.2.2.trans h.qU.2.2⟩
theorem dw.below{g g1:SG}(h:dw lo w g p1 w1 g1)(hb:Below w1.heap.size w1 w2):dw lo w g p1 w2 g1 :=
 ⟨h.cN.below hb,h.st,h.grow.below hb,h.b,h.iv,h.qU⟩
theorem dw.bz{w0:World}{g g1:SG}(h:dw lo w0 g p1 w1 g1)(hb:Below w.heap.size w w0):dw lo w g p1 w1 g1 :=
 ⟨h.cN,h.st,(cM.aI hb).trans h.grow,h.b,h.iv,h.qU⟩
theorem dw.ap{g g':SG}{p:SP}(h:dw lo w g p w' g'){b:Nat}{T:TypeId}{xs:List Value}(hB:aZ w b T xs)(hn:¬ aL g.aF b):aZ w' b T xs∧¬ aL g'.aF b :=
 ⟨hB.dW h.grow.c hn,fun hk=>by
  rcases h.grow.k b hk with e | e
  ·exact hn e
  ·have:=hB.lt
   omega⟩
theorem cB.Gf{g:SG}(h:cB lo w g){L':List aS}(hc:aQ (fun k=>k=g.q∨k=g.m) w w')(h1:sD w' g.q L')(h2:cK w' g.m L'):dw lo w g { g.st with L:=L' } w' { g with L:=L' }:=by
 have hg:cM w g.bq w' ({ g with L:=L' }:SG).bq:=⟨hc.mono (fun i _ hi=>by
  rcases hi with rfl | rfl
  ·exact aL.bM.2 (Or.inl (aL.one.2 rfl))
  ·exact aL.bM.2 (Or.inr (aL.one.2 rfl))),fun k hk=>Or.inl (by
  rcases aL.bM.1 hk with e | e
  ·exact aL.bM.2 (Or.inl (aL.one.2 (show k=g.q from aL.one.1 e)))
  ·exact aL.bM.2 (Or.inr (aL.one.2 (show k=g.m from aL.one.1 e))))⟩
 have p1:g.aF.Perm (g.bq++(g.bB++g.rest)):=bF (fun p=>by unfold SG.aF;simp only[aP];omega)
 have p2:(({ g with L:=L' }:SG).bq++(g.bB++g.rest)).Perm ({ g with L:=L' }:SG).aF:=bF (fun p=>by
  show cnt p (({ g with L:=L' }:SG).bq++(g.bB++g.rest))=cnt p (g.bB++(({ g with L:=L' }:SG).bq++g.rest))
  simp only[aP];omega)
 exact⟨⟨((h.dR.bZ p1).dE (oB h.loq h.lom h1 h2) hg).bZ p2,h.rt,h.tp,h.ss,h.rw⟩,rfl,hg.dE.bZ p1.symm p2,rfl,rfl,rfl,rfl,rfl⟩
theorem cB.ke{g g':SG}(h:cB lo w g)(hc:aQ (fun k=>k=g.b) w w')(hB:aZ w' g.b 91 g'.cells)(hb:g'.b=g.b)(hq:g'.bq=g.bq)(hr:g'.rest=g.rest)(hi:g'.iv=g.iv)(hf:g'.W=g.W∧g'.D=g.D∧g'.R=g.R)
  (rt:du 1 g'.tv g'.au.length (g'.au.map (fun t=>aJ t.ap))) (tp:∀ t∈g'.au,t.Ok) (ss:∀ s∈g'.aY.toList,s.Ok) (rw':du 6 g'.wv g'.waits.length (Rl g'.waits)):dw lo w g g'.st w' g':=by
 have hh:cE lo w' g'.bB:=by unfold SG.bB;rw[hb];exact ct h.MB hB (by decide)
 have hg:cM w g.bB w' g'.bB:=⟨hc.mono (fun i _ hi=>by subst hi;exact aL.one.2 rfl),fun k hk=>Or.inl (by
  have:=aL.one.1 hk;rw[this]
  exact aL.one.2 hb)⟩
 have e:g'.aF=g'.bB++(g.bq++g.rest):=by unfold SG.aF;rw[hq,hr]
 exact⟨⟨by rw[e];exact h.dR.dE hh hg,rt,tp,ss,rw'⟩,rfl,by rw[e];exact hg.dE,hb,hi,hf⟩
theorem cB.MC{g g':SG}(h:cB lo w g)(di:lo≤w.heap.size)(hc:aQ (fun k=>k=g.b) w w')(hB:aZ w' g.b 91 g'.cells)(hq:w.heap.size≤g'.q)(hm:w.heap.size≤g'.m)(h1:sD w' g'.q g'.L)(h2:cK w' g'.m g'.L)(hb:g'.b=g.b)(hr:g'.rest=g.rest)(hi:g'.iv=g.iv)(hf:g'.W=g.W∧g'.D=g.D∧g'.R=g.R)
  (rt:du 1 g'.tv g'.au.length (g'.au.map (fun t=>aJ t.ap))) (tp:∀ t∈g'.au,t.Ok) (ss:∀ s∈g'.aY.toList,s.Ok) (rw':du 6 g'.wv g'.waits.length (Rl g'.waits)):dw lo w g g'.st w' g':=by
 have zA:=h.ap.lt
 have hh:cE lo w' (g'.bB++g'.bq):=ay.2 ⟨by unfold SG.bB;rw[hb];exact ct h.MB hB (by decide),oB (by omega) (by omega) h1 h2,fun a ha c fZ=>by
  rw[List.mem_singleton.1 ha]
  rcases List.mem_append.1 fZ with e | e
  ·rw[List.mem_singleton.1 e]
   show g'.b≠g'.q;omega
  ·rw[List.mem_singleton.1 e]
   show g'.b≠g'.m
   omega⟩
 have hg:cM w (g.bB++g.bq) w' (g'.bB++g'.bq):=⟨hc.mono (fun i _ hi=>by subst hi;exact aL.bM.2 (Or.inl (aL.one.2 rfl))),fun k hk=>by
  rcases aL.bM.1 hk with e | e
  ·exact Or.inl (aL.bM.2 (Or.inl (aL.one.2 ((aL.one.1 e).trans hb))))
  ·rcases aL.bM.1 e with e | e
   ·rw[aL.one.1 e];exact Or.inr hq
   ·rw[aL.one.1 e];exact Or.inr hm⟩
 have p1:g.aF.Perm ((g.bB++g.bq)++g.rest):=bF (fun p=>by unfold SG.aF;simp only[aP];omega);have p2:((g'.bB++g'.bq)++g.rest).Perm g'.aF:=bF (fun p=>by unfold SG.aF;rw[hr];simp only[aP];omega);exact⟨⟨((h.dR.bZ p1).dE hh hg).bZ p2,rt,tp,ss,rw'⟩,rfl,hg.dE.bZ p1.symm p2,hb,hi,hf⟩
theorem cB.post{g:SG}(h:cB lo w g)(p:aS):
  aT 106 #[aM g.b,lQ p] w (fun e w'=>e=.returned (.bool (lF g.up g.L p))∧dw lo w g (g.st.post p) w' { g with L:=bo g.up g.L p } ∧ aQ (fun k=>k=g.q∨k=g.m) w w'):=by
 refine(h.bG.Ym p).mono ?_;rintro e w' ⟨rfl,h1,h2⟩;exact⟨rfl,h.Gf h2 h1.vi h1.D9,h2⟩
end Go.Proofs.YtkpfplbmmglkkaaGreatDoor
