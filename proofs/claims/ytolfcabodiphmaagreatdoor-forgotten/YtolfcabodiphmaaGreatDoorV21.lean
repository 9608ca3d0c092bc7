/- A server in memory, whatever it has (of one client at most). -/
import Derived.Test.YtolfcabodiphmaaGreatDoorV01
import Derived.Test.YtolfcabodiphmaaGreatDoorV02
import Derived.Test.YtolfcabodiphmaaGreatDoorV16
import Derived.Test.YtolfcabodiphmaaGreatDoorV09
set_option linter.unusedSimpArgs false
set_option linter.unusedVariables false
set_option maxHeartbeats 4000000
set_option maxRecDepth 100000
namespace Go.Proofs.YtolfcabodiphmaaGreatDoor
open Go.Proofs.Tryz
open Go.RowKit Go.Conc
structure KbM where
 v:Value
 d:List UInt8
def KbM.res(k:KbM):List fM:=dh 5 1 k.v k.d.length (k.d.map aZ)
structure yO where
 blk:Nat
 kv:Value
 ks:List KbM
 name:ByteArray
 base:ByteArray
 count:Nat
 fin:Bool
def yO.t(m:yO):Tj:=⟨m.name,m.base,m.count,m.ks.map (fun k=>k.d),m.fin⟩
abbrev xI(m:yO):List Value:=[.string m.name,.string m.base,.int .u64 m.count,m.kv,.bool m.fin]
def yO.aiV(m:yO):List fM:=dh 64 1 m.kv m.ks.length (m.ks.map (fun k=>k.v))
def yO.res(m:yO):List fM:=[iO m.blk 149 (xI m)]++(m.aiV++m.ks.flatMap KbM.res)
structure yO.Ok(m:yO):Prop where
 rk:eX 1 m.kv m.ks.length (m.ks.map (fun k=>k.v))
 rb:∀ k∈m.ks,eX 1 k.v k.d.length (k.d.map aZ)
structure xJ where
 blk:Nat
 f:F9
def aiW(oG:List Nat)(i:Nat):Nat:=(oG[i]?).getD 0
abbrev YQ(sb:Nat)(oG:List Nat)(m:xJ):List Value:=[aJ sb,.int .u64 m.f.number,aJ (aiW oG m.f.topic),.int .u64 m.f.got,.int .u64 m.f.sent,.bool m.f.missed]
def xJ.res(sb:Nat)(oG:List Nat)(m:xJ):List fM:=[iO m.blk 166 (YQ sb oG m)]
structure gy where
 blk:Nat
 token:Nat
 attempt:Nat
 number:Nat
 silence:Nat
 next:Nat
 fv:Value
 feeds:List xJ
 av:Value
 answers:List aP
def gy.o(m:gy):IU:=⟨m.token,m.attempt,m.number,m.silence,m.next,m.feeds.map (fun f=>f.f),m.answers⟩
abbrev fJ(m:gy):List Value:=[.int .u64 m.token,.int .u64 m.attempt,.int .u64 m.number,.int .i64 m.silence,.int .u64 m.next,m.fv,m.av]
def gy.dX(m:gy):List fM:=[iO m.blk 132 (fJ m)]
def gy.sD(m:gy):List fM:=dh 164 1 m.fv m.feeds.length (m.feeds.map (fun f=>aJ f.blk))
def gy.oU(m:gy):List fM:=dh 124 6 m.av m.answers.length (dD m.answers)
def gy.res(oG:List Nat)(m:gy):List fM:=m.dX++(m.sD++(m.feeds.flatMap (xJ.res m.blk oG)++m.oU))
structure gy.Ok(m:gy):Prop where
 rf:eX 1 m.fv m.feeds.length (m.feeds.map (fun f=>aJ f.blk))
 rn:eX 6 m.av m.answers.length (dD m.answers)
abbrev xK(y:zK):List Value:=[.int .u64 y.token,.int .u64 y.session,.int .u64 y.request,.string y.answer]
abbrev CW(x:Lp):List Value:=[.string x.name,.string x.value,.int .u64 x.back.token,.int .u64 x.back.session,.int .u64 x.back.request,.string x.back.answer]
def oV(l:List Lp):List Value:=l.flatMap CW
def iH(ms:Nat)(l:List (Nat × Nat)):fM:=(ms,fun o=>∃ es clock,o=.map es clock∧es.toList.map (fun e=>(e.key,e.val))=l.map (fun x=>(.int .u64 (x.1:Nat),aJ x.2))∧∀ e∈es.toList,e.born<clock)
def fH(mo:Nat)(l:List (Nat × zK)):fM:=(mo,fun o=>∃ es clock,o=.map es clock∧es.toList.map (fun e=>(e.key,e.val))=l.map (fun x=>(.int .i64 (x.1:Nat),.agg (xK x.2).toArray)))
structure SG where
 b:Nat
 q:Nat
 m:Nat
 iv:Value
 W:Nat
 D:Nat
 R:Nat
 last:Int
 had:Bool
 up:Bool
 L:List aP
 tv:Value
 aX:List yO
 ms:Nat
 aT:Option gy
 cur:Bool
 begun:Nat
 wv:Value
 waits:List Lp
 given:Nat
 mo:Nat
 owed:List (Nat × zK)
namespace SG
def st(g:SG):SP:=⟨g.last,g.had,g.up,g.L,g.aX.map yO.t,g.aT.map gy.o,g.cur,g.begun,g.waits,g.given,g.owed⟩
def oG(g:SG):List Nat:=g.aX.map (fun t=>t.blk)
def jB(g:SG):Value:=match g.cur,g.aT with
 | true,some s=>aJ s.blk
 | _,_=>.pointer none
abbrev tl(g:SG):List Value:=[g.tv,.map (some g.ms),g.jB,.int .u64 g.begun,g.wv,.int .i64 g.given,.map (some g.mo)]
abbrev cells(g:SG):List Value:=uw g.iv (.int .i64 g.W) (.int .i64 g.D) (.int .i64 g.R) g.last g.had g.up g.q g.m g.tl
def aU(g:SG):List fM:=[iO g.b 105 g.cells]
def aQ(g:SG):List fM:=[qJ g.q g.L]++[kG g.m g.L]
def rowT(g:SG):List fM:=dh 147 1 g.tv g.aX.length (g.aX.map (fun t=>aJ t.blk))
def qL(g:SG):List fM:=g.aX.flatMap yO.res
def lH(g:SG):List fM:=[iH g.ms (g.aT.toList.map (fun s=>(s.token,s.blk)))]
def nJ(g:SG):List fM:=g.aT.toList.flatMap (gy.res g.oG)
def oW(g:SG):List fM:=dh 139 6 g.wv g.waits.length (oV g.waits)
def qM(g:SG):List fM:=[fH g.mo g.owed]
def rest(g:SG):List fM:=g.rowT++(g.qL++(g.lH++(g.nJ++(g.oW++g.qM))))
def res(g:SG):List fM:=g.aU++(g.aQ++g.rest)
end SG
structure Srv(lo:Nat)(w:World)(g:SG):Prop where
 has:Has lo w g.res
 rt:eX 1 g.tv g.aX.length (g.aX.map (fun t=>aJ t.blk))
 tp:∀ t∈g.aX,t.Ok
 ss:∀ s∈g.aT.toList,s.Ok
 rw:eX 6 g.wv g.waits.length (oV g.waits)
theorem Srv.blk{lo:Nat}{w:World}{g:SG}(h:Srv lo w g):aK w g.b 105 g.cells:=h.has.blk (List.mem_append_left _ (List.mem_singleton.2 rfl))
theorem Srv.ends{lo:Nat}{w:World}{g:SG}(h:Srv lo w g):iq w g.b 105 g.iv (.int .i64 g.W) (.int .i64 g.D) (.int .i64 g.R) g.last g.had g.up g.tl g.L g.q g.m :=
 ⟨h.blk,h.has.uH (by unfold SG.res SG.aQ;simp),h.has.AL (by unfold SG.res SG.aQ;simp)⟩
theorem Srv.below{lo:Nat}{w w':World}{g:SG}(h:Srv lo w g)(hb:Below w.heap.size w w'):Srv lo w' g:=⟨h.has.below hb,h.rt,h.tp,h.ss,h.rw⟩
theorem Srv.drew{lo:Nat}{w:World}{g:SG}(h:Srv lo w g):Srv lo w.drew g:=⟨h.has.drew,h.rt,h.tp,h.ss,h.rw⟩
theorem Srv.Oa{lo:Nat}{w:World}{g:SG}(h:Srv lo w g):lo≤g.b:=(h.has.lt ⟨_,List.mem_append_left _ (List.mem_singleton.2 rfl),rfl⟩).1
theorem Srv.loq{lo:Nat}{w:World}{g:SG}(h:Srv lo w g):lo≤g.q:=(h.has.lt ⟨qJ g.q g.L,by unfold SG.res SG.aQ;simp,rfl⟩).1
theorem Srv.lom{lo:Nat}{w:World}{g:SG}(h:Srv lo w g):lo≤g.m:=(h.has.lt ⟨kG g.m g.L,by unfold SG.res SG.aQ;simp,rfl⟩).1
theorem Srv.lM{lo:Nat}{w:World}{g:SG}(h:Srv lo w g):¬ Key g.res w.heap.size:=fun hk=>by have:=(h.has.lt hk).2;omega
structure dV(lo:Nat)(w:World)(g:SG)(p:SP)(w':World)(g':SG):Prop where
 srv:Srv lo w' g'
 st:g'.st=p
 grow:Grow w g.res w' g'.res
 b:g'.b=g.b
 iv:g'.iv=g.iv
 cfg:g'.W=g.W∧g'.D=g.D∧g'.R=g.R
theorem dV.refl{lo:Nat}{w w':World}{g:SG}(h:Srv lo w g)(hb:Below w.heap.size w w'):dV lo w g g.st w' g:=⟨h.below hb,rfl,Grow.of_below hb,rfl,rfl,rfl,rfl,rfl⟩
theorem dV.trans{lo:Nat}{w w1 w2:World}{g g1 g2:SG}{p1 p2:SP}(h:dV lo w g p1 w1 g1)(k:dV lo w1 g1 p2 w2 g2):dV lo w g p2 w2 g2 :=
 ⟨k.srv,k.st,h.grow.trans k.grow,k.b.trans h.b,k.iv.trans h.iv,k.cfg.1.trans h.cfg.1,k.cfg.2.1.trans h.cfg.2.1,k.cfg.2.2.trans h.cfg.2.2⟩
theorem dV.below{lo:Nat}{w w1 w2:World}{g g1:SG}{p1:SP}(h:dV lo w g p1 w1 g1)(hb:Below w1.heap.size w1 w2):dV lo w g p1 w2 g1 :=
 ⟨h.srv.below hb,h.st,h.grow.below hb,h.b,h.iv,h.cfg⟩
theorem dV.before{lo:Nat}{w w0 w1:World}{g g1:SG}{p1:SP}(h:dV lo w0 g p1 w1 g1)(hb:Below w.heap.size w w0):dV lo w g p1 w1 g1 :=
 ⟨h.srv,h.st,(Grow.of_below hb).trans h.grow,h.b,h.iv,h.cfg⟩
theorem dV.blk{lo:Nat}{w w':World}{g g':SG}{p:SP}(h:dV lo w g p w' g'){b:Nat}{T:TypeId}{xs:List Value}(hB:aK w b T xs)(hn:¬ Key g.res b):aK w' b T xs∧¬ Key g'.res b :=
 ⟨hB.dB h.grow.c hn,fun hk=>by
  rcases h.grow.k b hk with e | e
  ·exact hn e
  ·have:=hB.lt
   omega⟩
theorem Srv.IZ{lo:Nat}{w w':World}{g:SG}(h:Srv lo w g){L':List aP}(hc:aG (fun k=>k=g.q∨k=g.m) w w')(h1:o8 w' g.q L')(h2:Waits w' g.m L'):dV lo w g { g.st with L:=L' } w' { g with L:=L' }:=by
 have hg:Grow w g.aQ w' ({ g with L:=L' }:SG).aQ:=⟨hc.mono (fun i _ hi=>by
  rcases hi with rfl | rfl
  ·exact Key.app.2 (Or.inl (Key.one.2 rfl))
  ·exact Key.app.2 (Or.inr (Key.one.2 rfl))),fun k hk=>Or.inl (by
  rcases Key.app.1 hk with e | e
  ·exact Key.app.2 (Or.inl (Key.one.2 (show k=g.q from Key.one.1 e)))
  ·exact Key.app.2 (Or.inr (Key.one.2 (show k=g.m from Key.one.1 e))))⟩
 have p1:g.res.Perm (g.aQ++(g.aU++g.rest)):=aY (fun p=>by unfold SG.res;simp only[aH];omega)
 have p2:(({ g with L:=L' }:SG).aQ++(g.aU++g.rest)).Perm ({ g with L:=L' }:SG).res:=aY (fun p=>by
  show cnt p (({ g with L:=L' }:SG).aQ++(g.aU++g.rest))=cnt p (g.aU++(({ g with L:=L' }:SG).aQ++g.rest))
  simp only[aH];omega)
 exact⟨⟨((h.has.perm p1).swap (pO h.loq h.lom h1 h2) hg).perm p2,h.rt,h.tp,h.ss,h.rw⟩,rfl,hg.swap.perm p1.symm p2,rfl,rfl,rfl,rfl,rfl⟩
theorem Srv.jS{lo:Nat}{w w':World}{g g':SG}(h:Srv lo w g)(hc:aG (fun k=>k=g.b) w w')(hB:aK w' g.b 105 g'.cells)(hb:g'.b=g.b)(hq:g'.aQ=g.aQ)(hr:g'.rest=g.rest)(hi:g'.iv=g.iv)(hf:g'.W=g.W∧g'.D=g.D∧g'.R=g.R)
  (rt:eX 1 g'.tv g'.aX.length (g'.aX.map (fun t=>aJ t.blk))) (tp:∀ t∈g'.aX,t.Ok) (ss:∀ s∈g'.aT.toList,s.Ok) (rw':eX 6 g'.wv g'.waits.length (oV g'.waits)):dV lo w g g'.st w' g':=by
 have hh:Has lo w' g'.aU:=by unfold SG.aU;rw[hb];exact dH h.Oa hB (by decide)
 have hg:Grow w g.aU w' g'.aU:=⟨hc.mono (fun i _ hi=>by subst hi;exact Key.one.2 rfl),fun k hk=>Or.inl (by
  have:=Key.one.1 hk
  rw[this]
  exact Key.one.2 hb)⟩
 have e:g'.res=g'.aU++(g.aQ++g.rest):=by unfold SG.res;rw[hq,hr]
 exact⟨⟨by rw[e];exact h.has.swap hh hg,rt,tp,ss,rw'⟩,rfl,by rw[e];exact hg.swap,hb,hi,hf⟩
theorem Srv.Ob{lo:Nat}{w w':World}{g g':SG}(h:Srv lo w g)(hlo:lo≤w.heap.size)(hc:aG (fun k=>k=g.b) w w')(hB:aK w' g.b 105 g'.cells)(hq:w.heap.size≤g'.q)(hm:w.heap.size≤g'.m)(h1:o8 w' g'.q g'.L)(h2:Waits w' g'.m g'.L)(hb:g'.b=g.b)(hr:g'.rest=g.rest)(hi:g'.iv=g.iv)(hf:g'.W=g.W∧g'.D=g.D∧g'.R=g.R)
  (rt:eX 1 g'.tv g'.aX.length (g'.aX.map (fun t=>aJ t.blk))) (tp:∀ t∈g'.aX,t.Ok) (ss:∀ s∈g'.aT.toList,s.Ok) (rw':eX 6 g'.wv g'.waits.length (oV g'.waits)):dV lo w g g'.st w' g':=by
 have hbl:=h.blk.lt
 have hh:Has lo w' (g'.aU++g'.aQ):=aA.2 ⟨by unfold SG.aU;rw[hb];exact dH h.Oa hB (by decide),pO (by omega) (by omega) h1 h2,fun a ha c hc'=>by
  rw[List.mem_singleton.1 ha]
  rcases List.mem_append.1 hc' with e | e
  ·rw[List.mem_singleton.1 e]
   show g'.b≠g'.q
   omega
  ·rw[List.mem_singleton.1 e]
   show g'.b≠g'.m
   omega⟩
 have hg:Grow w (g.aU++g.aQ) w' (g'.aU++g'.aQ):=⟨hc.mono (fun i _ hi=>by subst hi;exact Key.app.2 (Or.inl (Key.one.2 rfl))),fun k hk=>by
  rcases Key.app.1 hk with e | e
  ·exact Or.inl (Key.app.2 (Or.inl (Key.one.2 ((Key.one.1 e).trans hb))))
  ·rcases Key.app.1 e with e | e
   ·rw[Key.one.1 e];exact Or.inr hq
   ·rw[Key.one.1 e];exact Or.inr hm⟩
 have p1:g.res.Perm ((g.aU++g.aQ)++g.rest):=aY (fun p=>by unfold SG.res;simp only[aH];omega)
 have p2:((g'.aU++g'.aQ)++g.rest).Perm g'.res:=aY (fun p=>by unfold SG.res;rw[hr];simp only[aH];omega)
 exact⟨⟨((h.has.perm p1).swap hh hg).perm p2,rt,tp,ss,rw'⟩,rfl,hg.swap.perm p1.symm p2,hb,hi,hf⟩
theorem Srv.post{lo:Nat}{w:World}{g:SG}(h:Srv lo w g)(p:aP):
  Calls Tryz.prog 71 #[.pointer (some ⟨g.b,0,none⟩),.agg #[.int .u8 p.kind,.int .u64 p.token,.int .u64 p.session,.int .u64 p.number,.int .u64 p.position,.string p.data]] w (fun e w'=>e=.returned (.bool (y8 g.up g.L p))∧dV lo w g (g.st.post p) w' { g with L:=bU g.up g.L p } ∧ aG (fun k=>k=g.q∨k=g.m) w w'):=by
 refine(h.ends.aag p).mono ?_
 rintro e w' ⟨rfl,h1,h2⟩
 exact⟨rfl,h.IZ h2 h1.uH h1.AL,h2⟩
def xM(p:aP)(k:Nat):Nat:=if k=0 then p.token else if k=1 then p.session else if k=2 then p.number else p.position
def qI(p:aP):Nat→List UInt8
 | 0=>[p.kind.toUInt8]
 | k+1=>qI p k++fZ (xM p k)
def bJ(p:aP):List UInt8:=qI p 4++p.data.toList
structure lS(p:aP):Prop where
 k:p.kind<256
 t:p.token<18446744073709551616
 s:p.session<18446744073709551616
 n:p.number<18446744073709551616
 po:p.position<18446744073709551616
 d:p.data.size≤1000
theorem lS.at{p:aP}(h:lS p)(k:Nat):xM p k<18446744073709551616:=by
 unfold xM
 split
 ·exact h.t
 ·split
  ·exact h.s
  ·split
   ·exact h.n
   ·exact h.po
theorem yP{p:aP}(h:lS p):∀ k,(qI p k).length≤1+10*k
 | 0=>by simp[qI]
 | k+1=>by
  have:=yP h k
  have:=qg (xM p k) (h.at k)
  simp only[qI,List.length_append]
  omega
theorem vI(w:World){ops:Array Oper}{rest:List Oper}{o:Oper}{a:Act}{Q:Exit→Act→World→Prop}(hgd:o.guard=none)(sl x:Operand)
  (ho:o.op=.call { callee:=.builtin .append,args:=#[sl,x],argTypes:=#[64,9] }) (v:Value) (L:List UInt8) (lo:Nat) (hs:a.eval sl=v) (hP:gZ w lo v L) (s:ByteArray) (hx:a.eval x=.string s) (hl:L.length+s.size≤1000000000) (hlo:lo≤w.heap.size) (M:List UInt8) (hM:L++s.toList=M)
  (h:∀ a' c' w',gZ w' lo (.slice a' M.length c') M→aG (fun k=>v.ownBlock=some k) w w'→wpList Tryz.prog ops Q rest (a.put o.dst (.slice a' M.length c')) w'):wpList Tryz.prog ops Q (o::rest) a w:=by
 obtain⟨iI,uS,hI0,hI1,hI2⟩:=info_parts Tryz.infoByte
 subst hM
 have hsl:s.toList.length=s.size:=by rw[ByteArray.toList_eq];rfl
 refine Lib.wpList_append_own_string w hgd sl x 64 9 ho lo 5 iI underlying64 underlying9 uS hI0 hI1 hI2 v L.length (L.map aZ) hs hP s hx (by unfold maxLen;omega) (by omega) hlo ?_
 intro v' w' ho' hg' _
 rw[xw,← List.map_append,← hsl,← List.length_append] at ho'
 obtain⟨a',c',rfl⟩:=ay ho'
 exact h a' c' w' ho' ⟨hg'.os,hg'.tape,hg'.output,hg'.size,fun k hk hf=>hg'.block k hk (fun e=>hf e.symm)⟩
theorem write_any(w:World)(p:aP)(hp:lS p):
  Calls Tryz.prog 60 #[.agg #[.int .u8 p.kind,.int .u64 p.token,.int .u64 p.session,.int .u64 p.number,.int .u64 p.position,.string p.data]] w (fun e w'=>∃ a c,e=.returned (.slice a (bJ p).length c)∧gZ w' w.heap.size (.slice a (bJ p).length c) (bJ p)∧Below w.heap.size w w'):=by
 have HP:=hid hp
 have hB0:aK (w.alloc (.cells #[.int .u8 p.kind,.int .u64 p.token,.int .u64 p.session,.int .u64 p.number,.int .u64 p.position,.string p.data] 124)) w.heap.size 124 [.int .u8 p.kind,.int .u64 p.token,.int .u64 p.session,.int .u64 p.number,.int .u64 p.position,.string p.data]:=heap_alloc_new w _
 have hb0:Below w.heap.size w (w.alloc (.cells #[.int .u8 p.kind,.int .u64 p.token,.int .u64 p.session,.int .u64 p.number,.int .u64 p.position,.string p.data] 124)):=(Below.refl _ _).alloc (Nat.le_refl _) _
 obtain⟨w0,hw0⟩:∃ w0,w.alloc (.cells #[.int .u8 p.kind,.int .u64 p.token,.int .u64 p.session,.int .u64 p.number,.int .u64 p.position,.string p.data] 124)=w0:=⟨_,rfl⟩
 rw[hw0] at hB0 hb0
 have hz0:=hB0.lt
 have hb1:Below w0.heap.size w0 (w0.alloc (.cells #[.int .u8 p.kind] 5)):=(Below.refl _ _).alloc (Nat.le_refl _) _
 have hD1:=sS w0 p.kind.toUInt8 (p.kind:Int) (by rw[show p.kind.toUInt8.toNat=p.kind by simp[Nat.toUInt8,UInt8.toNat_ofNat'];have:=hp.k;omega])
 have hB1:=hB0.below hb1
 have hz1:(w0.alloc (.cells #[.int .u8 p.kind] 5)).heap.size=w0.heap.size+1:=by simp
 obtain⟨w1,hw1⟩:∃ w1,w0.alloc (.cells #[.int .u8 p.kind] 5)=w1:=⟨_,rfl⟩
 rw[hw1] at hb1 hD1 hB1 hz1
 have e0:w0.cell? ⟨w.heap.size,0,none⟩=some (.int .u8 p.kind):=hB0.cell 0
 have e1:w1.cell? ⟨w.heap.size,1,none⟩=some (.int .u64 p.token):=hB1.cell 1
 have e2:w1.cell? ⟨w.heap.size,2,none⟩=some (.int .u64 p.session):=hB1.cell 2
 have e3:w1.cell? ⟨w.heap.size,3,none⟩=some (.int .u64 p.number):=hB1.cell 3
 have e4:w1.cell? ⟨w.heap.size,4,none⟩=some (.int .u64 p.position):=hB1.cell 4
 have hb2:Below w1.heap.size w1 (w1.alloc (.cells #[.int .u64 p.token,.int .u64 p.session,.int .u64 p.number,.int .u64 p.position] 55)):=(Below.refl _ _).alloc (Nat.le_refl _) _
 have IJ:aK (w1.alloc (.cells #[.int .u64 p.token,.int .u64 p.session,.int .u64 p.number,.int .u64 p.position] 55)) w1.heap.size 55 [.int .u64 p.token,.int .u64 p.session,.int .u64 p.number,.int .u64 p.position]:=heap_alloc_new w1 _
 have hB2:=hB1.below hb2
 have hD2:=hD1.same hb2
 obtain⟨w2,hw2⟩:∃ w2,w1.alloc (.cells #[.int .u64 p.token,.int .u64 p.session,.int .u64 p.number,.int .u64 p.position] 55)=w2:=⟨_,rfl⟩
 rw[hw2] at hb2 IJ hB2 hD2
 have eF:Below w.heap.size w w2:=hb0.trans ((hb1.mono hb0.size).trans (hb2.mono (by omega)))
 have HB2:=hid hB2
 have Yl:=hid IJ
 have HD2:=hid hD2
 have hz2:=IJ.lt
 have HZ1:=hid hz1
 clear hB0 hB1 hB2 hD1 hD2 IJ hz1 hp hb0 hb1 hb2
 go_enter func60,ntmps60
 go_wp2_with fail
 go_loopg [3,5,19] 4 (fun gk d x i wr=>∃ k:Nat,k+gk=4∧i=.int .i64 k∧Hid (gZ wr w.heap.size d (qI p k))∧Hid (∀ j,d.ownBlock=some j→j≠w.heap.size∧j≠w1.heap.size)∧Hid (aK wr w.heap.size 124 [.int .u8 p.kind,.int .u64 p.token,.int .u64 p.session,.int .u64 p.number,.int .u64 p.position,.string p.data])∧Hid (aK wr w1.heap.size 55 [.int .u64 p.token,.int .u64 p.session,.int .u64 p.number,.int .u64 p.position])∧Below w.heap.size w wr)
 case atStart=>exact⟨0,by omega,rfl,hid (own_base HD2.out (by omega)),hid (fun j hj=>by simp[Value.ownBlock] at hj;have:=HZ1.out;omega),HB2,Yl,eF⟩
 case round=>
  obtain⟨k,hk,rfl,HD,HF,HB,HNn,hbel⟩:=hrel
  have Rh:=hbel.size
  have hlen:=yP HP.out k
  obtain⟨w3,hw3⟩:∃ w3,w3=wr:=⟨_,rfl⟩
  subst hw3
  obtain⟨YR,abV⟩:∃ g,g=gk:=⟨_,rfl⟩
  subst abV
  by_cases hlt:k<4
  ·have hck:w3.cell? ⟨w1.heap.size,k,none⟩=some (.int .u64 (xM p k:Nat)):=by
    rw[HNn.out.cell]
    have:k=0∨k=1∨k=2∨k=3:=by omega
    rcases this with rfl | rfl | rfl | rfl<;>rfl
   obtain⟨N,HNk⟩:∃ N,Hid (xM p k=N):=⟨_,hid rfl⟩
   rw[HNk.out] at hck
   have hNl:N<18446744073709551616:=by rw[← HNk.out];exact HP.out.at k
   have fO:(k:Int)<4:=by omega
   go_wp2_with fail
   refine(iL w3 w.heap.size _ (qI p k) N HD.out hNl (by omega) Rh).mono ?_;rintro e w4 ⟨a4,c4,rfl,hB4,hg4⟩
   obtain⟨M,HM⟩:∃ M,Hid (qI p k++fZ N=M):=⟨_,hid rfl⟩
   rw[HM.out] at hB4 hg4
   rw[HM.out]
   have hc4:=aG.grew (F:=fun j=>(u3:Value).ownBlock=some j) hg4 (fun j hj=>hj)
   have HB4:=hid (HB.out.dB hc4 (fun e=>(HF.out _ e).1 rfl))
   have HN4:=hid (HNn.out.dB hc4 (fun e=>(HF.out _ e).2 rfl))
   have hl1:=HNn.out.lt
   have hl0:=HB.out.lt
   have Q9:Hid (∀ j,(Value.slice a4 M.length c4).ownBlock=some j→j≠w.heap.size∧j≠w1.heap.size):=fun j hj=>by
    rcases hg4.b j hj with e | e
    ·exact HF.out j e
    ·omega
   have y9:Below w.heap.size w w4:=hbel.trans (hg4.below (fun j hj=>(HD.out.lt j hj).1) Rh)
   have HD4:=hid hB4
   clear hB4 hg4 hc4 hck
   go_wp2_with fail
   go_roundg (YR-1)
   case rel=>exact⟨k+1,by omega,by go_num,hid (by rw[qI,HNk.out,HM.out];exact HD4.out),Q9,HB4,HN4,y9⟩
   case measure=>omega
  ·obtain rfl:k=4:=by omega
   have e5:w3.cell? ⟨w.heap.size,5,none⟩=some (.string p.data):=HB.out.cell 5
   have hd:=HP.out.d
   go_wp2_with (at_builtin;refine vI _ rfl (.tmp 27) (.tmp 29) rfl _ (qI p 4) w.heap.size rfl HD.out p.data rfl (by omega) Rh (bJ p) rfl ?_)
   intro a4 c4 w4 hB4 hc4
   have y9:Below w.heap.size w w4:=hbel.trans (hc4.below Rh (fun j hj=>(HD.out.lt j hj).1))
   have HB4:=hid hB4
   clear hB4 hc4
   go_wp2_with fail
   go_ret
   exact⟨a4,c4,rfl,HB4.out,y9⟩
end Go.Proofs.YtolfcabodiphmaaGreatDoor
