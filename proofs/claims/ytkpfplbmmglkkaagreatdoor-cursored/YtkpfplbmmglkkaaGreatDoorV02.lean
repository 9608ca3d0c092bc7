/- A client in memory, whatever it has. -/
import Derived.Test.YtkpfplbmmglkkaaGreatDoorV01
import Derived.Deep.RegionHeld3
set_option linter.all false
set_option maxHeartbeats 2000000
set_option maxRecDepth 100000
namespace Go.Proofs.YtkpfplbmmglkkaaGreatDoor
open Go.Proofs.Tryz
variable {lo q m:Nat}{w w' w1 w2:World}{G:List fm}{L:List aS}{p1:CP}
open Go.RowKit Go.Conc
structure Yp where
 c2:Value
 c4:Value
 c5:Value
 c6:Value
 c8:Value
 c9:Value
 c10:Value
structure fh where
 ap:Nat
 t:Yp
 vv:Value
 s:dQ
abbrev ez(m:fh):List Value:=[.int .i64 m.s.number,.int .u64 m.s.aR,m.t.c2,.string m.s.name,m.t.c4,m.t.c5,m.t.c6,.string m.s.base,m.t.c8,m.t.c9,m.t.c10,.int .u64 m.s.start,.int .u64 m.s.aX,m.vv,.int .i64 m.s.bD]
def ck(l:List ByteArray):List Value:=l.map Value.string
def fh.aF(m:fh):List fm:=[eL m.ap 128 (ez m)]++cx 9 1 m.vv m.s.ak.length (ck m.s.ak)
structure Ge where
 ap:Nat
 c:CaP
abbrev VD(m:Ge):List Value:=[.int .i64 m.c.number,.int .u64 m.c.aR,.string m.c.answer,.int .i64 m.c.kind,.string m.c.value,.string ⟨#[]⟩]
def Ge.aF(m:Ge):List fm:=[eL m.ap 215 (VD m)]
structure CG where
 b:Nat
 q:Nat
 m:Nat
 iv:Value
 W:Nat
 D:Nat
 R:Nat
 bu:Int
 fN:Bool
 up:Bool
 L:List aS
 ah:Nat
 bI:Nat
 ag:Nat
 silence:Nat
 av:Value
 aB:List aS
 next:Nat
 sv:Value
 ae:List fh
 bQ:Nat
 cv:Value
 aU:List Ge
 p9:Nat
namespace CG
def st(g:CG):CP:=⟨g.bu,g.fN,g.up,g.L,g.ah,g.bI,g.ag,g.silence,g.aB,g.next,g.ae.map (fun m=>m.s),g.bQ,g.aU.map (fun m=>m.c),g.p9⟩
abbrev tl(g:CG):List Value:=[.int .u64 g.ah,.int .u64 g.bI,.int .u64 g.ag,.int .i64 g.silence,g.av,.int .u64 g.next,g.sv,.int .i64 g.bQ,g.cv,.int .i64 g.p9]
abbrev cells(g:CG):List Value:=pZ g.iv (.int .i64 g.W) (.int .i64 g.D) (.int .i64 g.R) g.bu g.fN g.up g.q g.m g.tl
end CG
def dj(l:List aS):List Value:=l.flatMap (fun p=>(pc p).toList)
theorem Oi(l:List aS):(dj l).length=l.length*6:=by
 unfold dj
 induction l with
 | nil=>rfl
 | cons p r ih=>simp only[List.flatMap_cons,List.length_append,ih,List.length_cons];simp[pc];omega
def pN(q:Nat)(L:List aS):fm:=(q,fun o=>∃ s r,o=.chan 60 (L.map pv).toArray false s r false)
def j9(m:Nat)(L:List aS):fm:=(m,fun o=>∃ es clock,o=.map es clock∧es.toList.map (fun e=>e.key)=L.map pv∧∀ e∈es.toList,e.val=.agg #[])
theorem cE.vi(h:cE lo w G)(hm:pN q L∈G):sD w q L:=by
 obtain⟨_,o,h2,⟨s,r,h3⟩,_⟩:=h.all _ hm;exact⟨s,r,h2.trans (by rw[h3])⟩
theorem cE.D9(h:cE lo w G)(hm:j9 m L∈G):cK w m L:=by
 obtain⟨_,o,h2,⟨es,clock,h3,h4⟩,_⟩:=h.all _ hm;exact⟨es,clock,h2.trans (by rw[h3]),h4⟩
theorem Mz(hl:lo≤q)(h:sD w q L):cE lo w [pN q L] :=
 ⟨by simp,fun p hp=>by
  rw[List.mem_singleton.1 hp];obtain⟨s,r,h⟩:=h
  exact⟨hl,_,h,⟨s,r,rfl⟩,(by decide:(0:Nat)∉[117+2,246+2,113+2])⟩⟩
theorem MA(hl:lo≤m)(h:cK w m L):cE lo w [j9 m L] :=
 ⟨by simp,fun p hp=>by
  rw[List.mem_singleton.1 hp];obtain⟨es,clock,h,h'⟩:=h
  exact⟨hl,_,h,⟨es,clock,rfl,h'⟩,(by decide:(0:Nat)∉[117+2,246+2,113+2])⟩⟩
theorem oB(hq:lo≤q)(hm:lo≤m)(h1:sD w q L)(h2:cK w m L):cE lo w ([pN q L]++[j9 m L]) :=
 ay.2 ⟨Mz hq h1,MA hm h2,fun a ha b hb=>by
  rw[List.mem_singleton.1 ha,List.mem_singleton.1 hb]
  exact h1.nN h2⟩
namespace CG
def rest(g:CG):List fm:=cx 125 6 g.av g.aB.length (dj g.aB)++(cx 126 1 g.sv g.ae.length (g.ae.map (fun m=>aJ m.ap))++(g.ae.flatMap fh.aF++(cx 213 1 g.cv g.aU.length (g.aU.map (fun m=>aJ m.ap))++g.aU.flatMap Ge.aF)))
def bB(g:CG):List fm:=[eL g.b 99 g.cells]
def bq(g:CG):List fm:=[pN g.q g.L]++[j9 g.m g.L]
def aF(g:CG):List fm:=g.bB++(g.bq++g.rest)
end CG
structure eH(lo:Nat)(w:World)(g:CG):Prop where
 dR:cE lo w g.aF
 ra:du 6 g.av g.aB.length (dj g.aB)
 rs:du 1 g.sv g.ae.length (g.ae.map (fun m=>aJ m.ap))
 rc:du 1 g.cv g.aU.length (g.aU.map (fun m=>aJ m.ap))
 rv:∀ m∈g.ae,du 1 m.vv m.s.ak.length (ck m.s.ak)
theorem eH.ap{g:CG}(h:eH lo w g):aZ w g.b 99 g.cells:=h.dR.ap (List.mem_append_left _ (List.mem_singleton.2 rfl))
theorem eH.bG{g:CG}(h:eH lo w g):jY w g.b 99 g.iv (vI g.W) (vI g.D) (vI g.R) g.bu g.fN g.up g.tl g.L g.q g.m :=
 ⟨h.ap,h.dR.vi (by unfold CG.aF CG.bq;simp),h.dR.D9 (by unfold CG.aF CG.bq;simp)⟩
theorem eH.below{g:CG}(h:eH lo w g)(hb:Below w.heap.size w w'):eH lo w' g:=⟨h.dR.below hb,h.ra,h.rs,h.rc,h.rv⟩
theorem eH.drew{g:CG}(h:eH lo w g):eH lo w.drew g:=⟨h.dR.drew,h.ra,h.rs,h.rc,h.rv⟩
theorem eH.MB{g:CG}(h:eH lo w g):lo≤g.b:=(h.dR.lt ⟨_,List.mem_append_left _ (List.mem_singleton.2 rfl),rfl⟩).1
theorem eH.loq{g:CG}(h:eH lo w g):lo≤g.q:=(h.dR.lt ⟨pN g.q g.L,by unfold CG.aF CG.bq;simp,rfl⟩).1
theorem eH.lom{g:CG}(h:eH lo w g):lo≤g.m:=(h.dR.lt ⟨j9 g.m g.L,by unfold CG.aF CG.bq;simp,rfl⟩).1
structure fW(lo:Nat)(w:World)(g:CG)(p:CP)(w':World)(g':CG):Prop where
 dM:eH lo w' g'
 st:g'.st=p
 grow:cM w g.aF w' g'.aF
 b:g'.b=g.b
 iv:g'.iv=g.iv
 qU:g'.W=g.W∧g'.D=g.D∧g'.R=g.R
theorem fW.refl{g:CG}(h:eH lo w g)(hb:Below w.heap.size w w'):fW lo w g g.st w' g:=⟨h.below hb,rfl,cM.aI hb,rfl,rfl,rfl,rfl,rfl⟩
theorem fW.trans{g g1 g2:CG}{p2:CP}(h:fW lo w g p1 w1 g1)(k:fW lo w1 g1 p2 w2 g2):fW lo w g p2 w2 g2 :=
 ⟨k.dM,k.st,h.grow.trans k.grow,k.b.trans h.b,k.iv.trans h.iv,k.qU.1.trans h.qU.1,k.qU.2.1.trans h.qU.2.1,k.qU.2.2.trans h.qU.2.2⟩
theorem fW.below{g g1:CG}(h:fW lo w g p1 w1 g1)(hb:Below w1.heap.size w1 w2):fW lo w g p1 w2 g1 :=
 ⟨h.dM.below hb,h.st,h.grow.below hb,h.b,h.iv,h.qU⟩
theorem fW.bz{w0:World}{g g1:CG}(h:fW lo w0 g p1 w1 g1)(hb:Below w.heap.size w w0):fW lo w g p1 w1 g1 :=
 ⟨h.dM,h.st,(cM.aI hb).trans h.grow,h.b,h.iv,h.qU⟩
theorem eH.Gf{g:CG}(h:eH lo w g){L':List aS}(hc:aQ (fun k=>k=g.q∨k=g.m) w w')(h1:sD w' g.q L')(h2:cK w' g.m L'):fW lo w g { g.st with L:=L' } w' { g with L:=L' }:=by
 have hg:cM w g.bq w' ({ g with L:=L' }:CG).bq:=⟨hc.mono (fun i _ hi=>by
  rcases hi with rfl | rfl
  ·exact aL.bM.2 (Or.inl (aL.one.2 rfl))
  ·exact aL.bM.2 (Or.inr (aL.one.2 rfl))),fun k hk=>Or.inl (by
  rcases aL.bM.1 hk with e | e
  ·exact aL.bM.2 (Or.inl (aL.one.2 (show k=g.q from aL.one.1 e)))
  ·exact aL.bM.2 (Or.inr (aL.one.2 (show k=g.m from aL.one.1 e))))⟩
 have p1:g.aF.Perm (g.bq++(g.bB++g.rest)):=bF (fun p=>by unfold CG.aF;simp only[aP];omega)
 have p2:(({ g with L:=L' }:CG).bq++(g.bB++g.rest)).Perm ({ g with L:=L' }:CG).aF:=bF (fun p=>by
  show cnt p (({ g with L:=L' }:CG).bq++(g.bB++g.rest))=cnt p (g.bB++(({ g with L:=L' }:CG).bq++g.rest))
  simp only[aP];omega)
 exact⟨⟨((h.dR.bZ p1).dE (oB h.loq h.lom h1 h2) hg).bZ p2,h.ra,h.rs,h.rc,h.rv⟩,rfl,hg.dE.bZ p1.symm p2,rfl,rfl,rfl,rfl,rfl⟩
theorem eH.ke{g g':CG}(h:eH lo w g)(hc:aQ (fun k=>k=g.b) w w')(hB:aZ w' g.b 99 g'.cells)(hb:g'.b=g.b)(hq:g'.bq=g.bq)(hr:g'.rest=g.rest)(hi:g'.iv=g.iv)(hf:g'.W=g.W∧g'.D=g.D∧g'.R=g.R)
  (ra:du 6 g'.av g'.aB.length (dj g'.aB)) (rs:du 1 g'.sv g'.ae.length (g'.ae.map (fun m=>aJ m.ap))) (rc:du 1 g'.cv g'.aU.length (g'.aU.map (fun m=>aJ m.ap))) (rv:∀ m∈g'.ae,du 1 m.vv m.s.ak.length (ck m.s.ak)):fW lo w g g'.st w' g':=by
 have hh:cE lo w' g'.bB:=by unfold CG.bB;rw[hb];exact ct h.MB hB (by decide)
 have hg:cM w g.bB w' g'.bB:=⟨hc.mono (fun i _ hi=>by subst hi;exact aL.one.2 rfl),fun k hk=>Or.inl (by
  have:=aL.one.1 hk;rw[this]
  exact aL.one.2 hb)⟩
 have e:g'.aF=g'.bB++(g.bq++g.rest):=by unfold CG.aF;rw[hq,hr]
 exact⟨⟨by rw[e];exact h.dR.dE hh hg,ra,rs,rc,rv⟩,rfl,by rw[e];exact hg.dE,hb,hi,hf⟩
theorem eH.MC{g g':CG}(h:eH lo w g)(di:lo≤w.heap.size)(hc:aQ (fun k=>k=g.b) w w')(hB:aZ w' g.b 99 g'.cells)(hq:w.heap.size≤g'.q)(hm:w.heap.size≤g'.m)(h1:sD w' g'.q g'.L)(h2:cK w' g'.m g'.L)(hb:g'.b=g.b)(hr:g'.rest=g.rest)(hi:g'.iv=g.iv)(hf:g'.W=g.W∧g'.D=g.D∧g'.R=g.R)
  (ra:du 6 g'.av g'.aB.length (dj g'.aB)) (rs:du 1 g'.sv g'.ae.length (g'.ae.map (fun m=>aJ m.ap))) (rc:du 1 g'.cv g'.aU.length (g'.aU.map (fun m=>aJ m.ap))) (rv:∀ m∈g'.ae,du 1 m.vv m.s.ak.length (ck m.s.ak)):fW lo w g g'.st w' g':=by
 have zA:=h.ap.lt
 have hh:cE lo w' (g'.bB++g'.bq):=ay.2 ⟨by unfold CG.bB;rw[hb];exact ct h.MB hB (by decide),oB (by omega) (by omega) h1 h2,fun a ha c fZ=>by
  rw[List.mem_singleton.1 ha]
  rcases List.mem_append.1 fZ with e | e
  ·rw[List.mem_singleton.1 e]
   show g'.b≠g'.q;omega
  ·rw[List.mem_singleton.1 e]
   show g'.b≠g'.m
   omega⟩
 have hg:cM w (g.bB++g.bq) w' (g'.bB++g'.bq):=⟨hc.mono (fun i _ hi=>by subst hi;exact aL.bM.2 (Or.inl (aL.one.2 rfl))),fun k hk=>by
  rcases aL.bM.1 hk with e | e
  ·exact Or.inl (aL.bM.2 (Or.inl (aL.one.2 ((aL.one.1 e).trans hb))))
  ·rcases aL.bM.1 e with e | e
   ·rw[aL.one.1 e];exact Or.inr hq
   ·rw[aL.one.1 e];exact Or.inr hm⟩
 have p1:g.aF.Perm ((g.bB++g.bq)++g.rest):=bF (fun p=>by unfold CG.aF;simp only[aP];omega);have p2:((g'.bB++g'.bq)++g.rest).Perm g'.aF:=bF (fun p=>by unfold CG.aF;rw[hr];simp only[aP];omega);exact⟨⟨((h.dR.bZ p1).dE hh hg).bZ p2,ra,rs,rc,rv⟩,rfl,hg.dE.bZ p1.symm p2,hb,hi,hf⟩
theorem eH.post{g:CG}(h:eH lo w g)(p:aS):
  aT 106 #[aM g.b,lQ p] w (fun e w'=>e=.returned (.bool (lF g.up g.L p))∧fW lo w g (g.st.post p) w' { g with L:=bo g.up g.L p } ∧ aQ (fun k=>k=g.q∨k=g.m) w w'):=by
 refine(h.bG.Ym p).mono ?_;rintro e w' ⟨rfl,h1,h2⟩;exact⟨rfl,h.Gf h2 h1.vi h1.D9,h2⟩
theorem aZ.drew{b:Nat}{T:TypeId}{xs:List Value}(h:aZ w b T xs):aZ w.drew b T xs:=h
theorem zM{g:CG}(h:eH lo w g)(kind number:Nat):
  aT 118 #[aM g.b,vB kind,vU number] w (fun e w'=>e=.returned (.agg #[vB kind,vU g.ah,vU g.ag,vU number,vU 0,.string ⟨#[]⟩])∧Below w.heap.size w w'):=by
 obtain⟨w0,eM,aN,aD⟩:=zw w 0 0 0 0 0 ⟨#[]⟩;obtain⟨e0,e1,e2,e3,e4,e5⟩:=aD.c6;have Rj:=aD.aq 0;have U3:=aD.aq 1;have U4:=aD.aq 2;have ZL:=aD.aq 3;have ZM:=aD.aq 4;have ZN:=aD.aq 5;have hL:=(h.below aN).ap;have d9:=hL.ce 9 rfl;have d11:=hL.ce 11 rfl;have HBw:=U aD;have VE:=U aN;clear h hL aD aN
 go_enter func118,ntmps118
 go_wp2_with fail
 go_big_region
 all_goals
  go_wp2_with fail
  have HL:=U (lX _ _ _ _ _ _ _ _ (show aZ ((((((w0.setCell (aj w.heap.size 0) (vB kind)).setCell (aj w.heap.size 1) (vU g.ah)).setCell (aj w.heap.size 2) (vU g.ag)).setCell (aj w.heap.size 3) (vU number)).setCell (aj w.heap.size 4) (vU 0)).setCell (aj w.heap.size 5) (.string ⟨#[]⟩)).drew w.heap.size 125 [vB kind,vU g.ah,vU g.ag,vU number,vU 0,.string ⟨#[]⟩] from aZ.drew ((((((HBw.o.set 0 _).set 1 _).set 2 _).set 3 _).set 4 _).set 5 _)));have HB:=U (show Below w.heap.size w ((((((w0.setCell (aj w.heap.size 0) (vB kind)).setCell (aj w.heap.size 1) (vU g.ah)).setCell (aj w.heap.size 2) (vU g.ag)).setCell (aj w.heap.size 3) (vU number)).setCell (aj w.heap.size 4) (vU 0)).setCell (aj w.heap.size 5) (.string ⟨#[]⟩)).drew from((((((VE.o.setCell (p:=(aj w.heap.size 0)) (Nat.le_refl _) (vB kind)).setCell (p:=(aj w.heap.size 1)) (Nat.le_refl _) (vU g.ah)).setCell (p:=(aj w.heap.size 2)) (Nat.le_refl _) (vU g.ag)).setCell (p:=(aj w.heap.size 3)) (Nat.le_refl _) (vU number)).setCell (p:=(aj w.heap.size 4)) (Nat.le_refl _) (vU 0)).setCell (p:=(aj w.heap.size 5)) (Nat.le_refl _) (.string ⟨#[]⟩)).drew)
  (try simp only[Exit.inBlock,Exit.then])
  refine⟨rfl,.agg #[vB kind,vU g.ah,vU g.ag,vU number,vU 0,.string ⟨#[]⟩],?_,rfl,HB.o⟩;have:=HL.o;simp[results,Tryz.results118,asAddr,this]
end Go.Proofs.YtkpfplbmmglkkaaGreatDoor
