/- A client in memory, whatever it has. -/
import Derived.Test.YtolfcabodiphmaaGreatDoorV00
import Derived.Deep.RegionHeld3
set_option linter.unusedSimpArgs false
set_option linter.unusedVariables false
set_option maxHeartbeats 2000000
set_option maxRecDepth 100000
namespace Go.Proofs.YtolfcabodiphmaaGreatDoor
open Go.Proofs.Tryz
open Go.RowKit Go.Conc
structure adK where
 c2:Value
 c4:Value
 c5:Value
 c6:Value
 c8:Value
 c9:Value
 c10:Value
structure kZ where
 blk:Nat
 t:adK
 vv:Value
 s:F8
abbrev mQ(m:kZ):List Value:=[.int .i64 m.s.number,.int .u64 m.s.request,m.t.c2,.string m.s.name,m.t.c4,m.t.c5,m.t.c6,.string m.s.base,m.t.c8,m.t.c9,m.t.c10,.int .u64 m.s.start,.int .u64 m.s.got,m.vv,.int .i64 m.s.fin]
def lg(l:List ByteArray):List Value:=l.map Value.string
def kZ.res(m:kZ):List fM:=[iO m.blk 194 (mQ m)]++dh 9 1 m.vv m.s.values.length (lg m.s.values)
structure jE where
 blk:Nat
 c:Ti
abbrev nP(m:jE):List Value:=[.int .i64 m.c.number,.int .u64 m.c.request,.string m.c.answer,.int .i64 m.c.kind,.string m.c.value,.string ⟨#[]⟩]
def jE.res(m:jE):List fM:=[iO m.blk 129 (nP m)]
structure CG where
 b:Nat
 q:Nat
 m:Nat
 iv:Value
 W:Nat
 D:Nat
 R:Nat
 last:Int
 had:Bool
 up:Bool
 L:List aP
 token:Nat
 attempt:Nat
 session:Nat
 silence:Nat
 av:Value
 asked:List aP
 next:Nat
 sv:Value
 streams:List kZ
 made:Nat
 cv:Value
 calls:List jE
 called:Nat
namespace CG
def st(g:CG):CP:=⟨g.last,g.had,g.up,g.L,g.token,g.attempt,g.session,g.silence,g.asked,g.next,g.streams.map (fun m=>m.s),g.made,g.calls.map (fun m=>m.c),g.called⟩
abbrev tl(g:CG):List Value:=[.int .u64 g.token,.int .u64 g.attempt,.int .u64 g.session,.int .i64 g.silence,g.av,.int .u64 g.next,g.sv,.int .i64 g.made,g.cv,.int .i64 g.called]
abbrev cells(g:CG):List Value:=uw g.iv (.int .i64 g.W) (.int .i64 g.D) (.int .i64 g.R) g.last g.had g.up g.q g.m g.tl
end CG
def dD(l:List aP):List Value:=l.flatMap (fun p=>(pc p).toList)
theorem EF(l:List aP):(dD l).length=l.length*6:=by
 unfold dD
 induction l with
 | nil=>rfl
 | cons p r ih=>simp only[List.flatMap_cons,List.length_append,ih,List.length_cons];simp[pc];omega
def qJ(q:Nat)(L:List aP):fM:=(q,fun o=>∃ s r,o=.chan 60 (L.map pv).toArray false s r false)
def kG(m:Nat)(L:List aP):fM:=(m,fun o=>∃ es clock,o=.map es clock∧es.toList.map (fun e=>e.key)=L.map pv∧∀ e∈es.toList,e.val=.agg #[])
theorem Has.uH{lo:Nat}{w:World}{G:List fM}{q:Nat}{L:List aP}(h:Has lo w G)(hm:qJ q L∈G):o8 w q L:=by
 obtain⟨_,o,h2,⟨s,r,h3⟩,_⟩:=h.all _ hm
 exact⟨s,r,h2.trans (by rw[h3])⟩
theorem Has.AL{lo:Nat}{w:World}{G:List fM}{m:Nat}{L:List aP}(h:Has lo w G)(hm:kG m L∈G):Waits w m L:=by
 obtain⟨_,o,h2,⟨es,clock,h3,h4⟩,_⟩:=h.all _ hm
 exact⟨es,clock,h2.trans (by rw[h3]),h4⟩
theorem N8{lo:Nat}{w:World}{q:Nat}{L:List aP}(hl:lo≤q)(h:o8 w q L):Has lo w [qJ q L] :=
 ⟨by simp,fun p hp=>by
  rw[List.mem_singleton.1 hp]
  obtain⟨s,r,h⟩:=h
  exact⟨hl,_,h,⟨s,r,rfl⟩,(by decide:(0:Nat)∉[116 + 2,242 + 2,112 + 2])⟩⟩
theorem N9{lo:Nat}{w:World}{m:Nat}{L:List aP}(hl:lo≤m)(h:Waits w m L):Has lo w [kG m L] :=
 ⟨by simp,fun p hp=>by
  rw[List.mem_singleton.1 hp]
  obtain⟨es,clock,h,h'⟩:=h
  exact⟨hl,_,h,⟨es,clock,rfl,h'⟩,(by decide:(0:Nat)∉[116 + 2,242 + 2,112 + 2])⟩⟩
theorem pO{lo:Nat}{w:World}{q m:Nat}{L:List aP}(hq:lo≤q)(hm:lo≤m)(h1:o8 w q L)(h2:Waits w m L):Has lo w ([qJ q L]++[kG m L]) :=
 aA.2 ⟨N8 hq h1,N9 hm h2,fun a ha b hb=>by
  rw[List.mem_singleton.1 ha,List.mem_singleton.1 hb]
  exact h1.mP h2⟩
namespace CG
def rest(g:CG):List fM:=dh 124 6 g.av g.asked.length (dD g.asked)++(dh 161 1 g.sv g.streams.length (g.streams.map (fun m=>aJ m.blk))++(g.streams.flatMap kZ.res++(dh 125 1 g.cv g.calls.length (g.calls.map (fun m=>aJ m.blk))++g.calls.flatMap jE.res)))
def aU(g:CG):List fM:=[iO g.b 96 g.cells]
def aQ(g:CG):List fM:=[qJ g.q g.L]++[kG g.m g.L]
def res(g:CG):List fM:=g.aU++(g.aQ++g.rest)
end CG
structure Cli(lo:Nat)(w:World)(g:CG):Prop where
 has:Has lo w g.res
 ra:eX 6 g.av g.asked.length (dD g.asked)
 rs:eX 1 g.sv g.streams.length (g.streams.map (fun m=>aJ m.blk))
 rc:eX 1 g.cv g.calls.length (g.calls.map (fun m=>aJ m.blk))
 rv:∀ m∈g.streams,eX 1 m.vv m.s.values.length (lg m.s.values)
theorem Cli.blk{lo:Nat}{w:World}{g:CG}(h:Cli lo w g):aK w g.b 96 g.cells:=h.has.blk (List.mem_append_left _ (List.mem_singleton.2 rfl))
theorem Cli.ends{lo:Nat}{w:World}{g:CG}(h:Cli lo w g):iq w g.b 96 g.iv (.int .i64 g.W) (.int .i64 g.D) (.int .i64 g.R) g.last g.had g.up g.tl g.L g.q g.m :=
 ⟨h.blk,h.has.uH (by unfold CG.res CG.aQ;simp),h.has.AL (by unfold CG.res CG.aQ;simp)⟩
theorem Cli.below{lo:Nat}{w w':World}{g:CG}(h:Cli lo w g)(hb:Below w.heap.size w w'):Cli lo w' g:=⟨h.has.below hb,h.ra,h.rs,h.rc,h.rv⟩
theorem Cli.drew{lo:Nat}{w:World}{g:CG}(h:Cli lo w g):Cli lo w.drew g:=⟨h.has.drew,h.ra,h.rs,h.rc,h.rv⟩
theorem Cli.Oa{lo:Nat}{w:World}{g:CG}(h:Cli lo w g):lo≤g.b:=(h.has.lt ⟨_,List.mem_append_left _ (List.mem_singleton.2 rfl),rfl⟩).1
theorem Cli.loq{lo:Nat}{w:World}{g:CG}(h:Cli lo w g):lo≤g.q:=(h.has.lt ⟨qJ g.q g.L,by unfold CG.res CG.aQ;simp,rfl⟩).1
theorem Cli.lom{lo:Nat}{w:World}{g:CG}(h:Cli lo w g):lo≤g.m:=(h.has.lt ⟨kG g.m g.L,by unfold CG.res CG.aQ;simp,rfl⟩).1
structure gG(lo:Nat)(w:World)(g:CG)(p:CP)(w':World)(g':CG):Prop where
 cli:Cli lo w' g'
 st:g'.st=p
 grow:Grow w g.res w' g'.res
 b:g'.b=g.b
 iv:g'.iv=g.iv
 cfg:g'.W=g.W∧g'.D=g.D∧g'.R=g.R
theorem gG.refl{lo:Nat}{w w':World}{g:CG}(h:Cli lo w g)(hb:Below w.heap.size w w'):gG lo w g g.st w' g:=⟨h.below hb,rfl,Grow.of_below hb,rfl,rfl,rfl,rfl,rfl⟩
theorem gG.trans{lo:Nat}{w w1 w2:World}{g g1 g2:CG}{p1 p2:CP}(h:gG lo w g p1 w1 g1)(k:gG lo w1 g1 p2 w2 g2):gG lo w g p2 w2 g2 :=
 ⟨k.cli,k.st,h.grow.trans k.grow,k.b.trans h.b,k.iv.trans h.iv,k.cfg.1.trans h.cfg.1,k.cfg.2.1.trans h.cfg.2.1,k.cfg.2.2.trans h.cfg.2.2⟩
theorem gG.below{lo:Nat}{w w1 w2:World}{g g1:CG}{p1:CP}(h:gG lo w g p1 w1 g1)(hb:Below w1.heap.size w1 w2):gG lo w g p1 w2 g1 :=
 ⟨h.cli.below hb,h.st,h.grow.below hb,h.b,h.iv,h.cfg⟩
theorem gG.before{lo:Nat}{w w0 w1:World}{g g1:CG}{p1:CP}(h:gG lo w0 g p1 w1 g1)(hb:Below w.heap.size w w0):gG lo w g p1 w1 g1 :=
 ⟨h.cli,h.st,(Grow.of_below hb).trans h.grow,h.b,h.iv,h.cfg⟩
theorem Cli.IZ{lo:Nat}{w w':World}{g:CG}(h:Cli lo w g){L':List aP}(hc:aG (fun k=>k=g.q∨k=g.m) w w')(h1:o8 w' g.q L')(h2:Waits w' g.m L'):gG lo w g { g.st with L:=L' } w' { g with L:=L' }:=by
 have hg:Grow w g.aQ w' ({ g with L:=L' }:CG).aQ:=⟨hc.mono (fun i _ hi=>by
  rcases hi with rfl | rfl
  ·exact Key.app.2 (Or.inl (Key.one.2 rfl))
  ·exact Key.app.2 (Or.inr (Key.one.2 rfl))),fun k hk=>Or.inl (by
  rcases Key.app.1 hk with e | e
  ·exact Key.app.2 (Or.inl (Key.one.2 (show k=g.q from Key.one.1 e)))
  ·exact Key.app.2 (Or.inr (Key.one.2 (show k=g.m from Key.one.1 e))))⟩
 have p1:g.res.Perm (g.aQ++(g.aU++g.rest)):=aY (fun p=>by unfold CG.res;simp only[aH];omega)
 have p2:(({ g with L:=L' }:CG).aQ++(g.aU++g.rest)).Perm ({ g with L:=L' }:CG).res:=aY (fun p=>by
  show cnt p (({ g with L:=L' }:CG).aQ++(g.aU++g.rest))=cnt p (g.aU++(({ g with L:=L' }:CG).aQ++g.rest))
  simp only[aH];omega)
 exact⟨⟨((h.has.perm p1).swap (pO h.loq h.lom h1 h2) hg).perm p2,h.ra,h.rs,h.rc,h.rv⟩,rfl,hg.swap.perm p1.symm p2,rfl,rfl,rfl,rfl,rfl⟩
theorem Cli.jS{lo:Nat}{w w':World}{g g':CG}(h:Cli lo w g)(hc:aG (fun k=>k=g.b) w w')(hB:aK w' g.b 96 g'.cells)(hb:g'.b=g.b)(hq:g'.aQ=g.aQ)(hr:g'.rest=g.rest)(hi:g'.iv=g.iv)(hf:g'.W=g.W∧g'.D=g.D∧g'.R=g.R)
  (ra:eX 6 g'.av g'.asked.length (dD g'.asked)) (rs:eX 1 g'.sv g'.streams.length (g'.streams.map (fun m=>aJ m.blk))) (rc:eX 1 g'.cv g'.calls.length (g'.calls.map (fun m=>aJ m.blk))) (rv:∀ m∈g'.streams,eX 1 m.vv m.s.values.length (lg m.s.values)):gG lo w g g'.st w' g':=by
 have hh:Has lo w' g'.aU:=by unfold CG.aU;rw[hb];exact dH h.Oa hB (by decide)
 have hg:Grow w g.aU w' g'.aU:=⟨hc.mono (fun i _ hi=>by subst hi;exact Key.one.2 rfl),fun k hk=>Or.inl (by
  have:=Key.one.1 hk
  rw[this]
  exact Key.one.2 hb)⟩
 have e:g'.res=g'.aU++(g.aQ++g.rest):=by unfold CG.res;rw[hq,hr]
 exact⟨⟨by rw[e];exact h.has.swap hh hg,ra,rs,rc,rv⟩,rfl,by rw[e];exact hg.swap,hb,hi,hf⟩
theorem Cli.Ob{lo:Nat}{w w':World}{g g':CG}(h:Cli lo w g)(hlo:lo≤w.heap.size)(hc:aG (fun k=>k=g.b) w w')(hB:aK w' g.b 96 g'.cells)(hq:w.heap.size≤g'.q)(hm:w.heap.size≤g'.m)(h1:o8 w' g'.q g'.L)(h2:Waits w' g'.m g'.L)(hb:g'.b=g.b)(hr:g'.rest=g.rest)(hi:g'.iv=g.iv)(hf:g'.W=g.W∧g'.D=g.D∧g'.R=g.R)
  (ra:eX 6 g'.av g'.asked.length (dD g'.asked)) (rs:eX 1 g'.sv g'.streams.length (g'.streams.map (fun m=>aJ m.blk))) (rc:eX 1 g'.cv g'.calls.length (g'.calls.map (fun m=>aJ m.blk))) (rv:∀ m∈g'.streams,eX 1 m.vv m.s.values.length (lg m.s.values)):gG lo w g g'.st w' g':=by
 have hbl:=h.blk.lt
 have hh:Has lo w' (g'.aU++g'.aQ):=aA.2 ⟨by unfold CG.aU;rw[hb];exact dH h.Oa hB (by decide),pO (by omega) (by omega) h1 h2,fun a ha c hc'=>by
  rw[List.mem_singleton.1 ha]
  rcases List.mem_append.1 hc' with e | e
  ·rw[List.mem_singleton.1 e]
   show g'.b≠g'.q
   omega
  ·rw[List.mem_singleton.1 e]
   show g'.b≠g'.m
   omega⟩
 have hg:Grow w (g.aU++g.aQ) w' (g'.aU++g'.aQ):=⟨hc.mono (fun i _ hi=>by subst hi;exact Key.app.2 (Or.inl (Key.one.2 rfl))),fun k hk=>by
  rcases Key.app.1 hk with e | e
  ·exact Or.inl (Key.app.2 (Or.inl (Key.one.2 ((Key.one.1 e).trans hb))))
  ·rcases Key.app.1 e with e | e
   ·rw[Key.one.1 e];exact Or.inr hq
   ·rw[Key.one.1 e];exact Or.inr hm⟩
 have p1:g.res.Perm ((g.aU++g.aQ)++g.rest):=aY (fun p=>by unfold CG.res;simp only[aH];omega)
 have p2:((g'.aU++g'.aQ)++g.rest).Perm g'.res:=aY (fun p=>by unfold CG.res;rw[hr];simp only[aH];omega)
 exact⟨⟨((h.has.perm p1).swap hh hg).perm p2,ra,rs,rc,rv⟩,rfl,hg.swap.perm p1.symm p2,hb,hi,hf⟩
theorem Cli.post{lo:Nat}{w:World}{g:CG}(h:Cli lo w g)(p:aP):
  Calls Tryz.prog 71 #[.pointer (some ⟨g.b,0,none⟩),.agg #[.int .u8 p.kind,.int .u64 p.token,.int .u64 p.session,.int .u64 p.number,.int .u64 p.position,.string p.data]] w (fun e w'=>e=.returned (.bool (y8 g.up g.L p))∧gG lo w g (g.st.post p) w' { g with L:=bU g.up g.L p } ∧ aG (fun k=>k=g.q∨k=g.m) w w'):=by
 refine(h.ends.aag p).mono ?_
 rintro e w' ⟨rfl,h1,h2⟩
 exact⟨rfl,h.IZ h2 h1.uH h1.AL,h2⟩
theorem aK.drew{w:World}{b:Nat}{T:TypeId}{xs:List Value}(h:aK w b T xs):aK w.drew b T xs:=h
theorem wJ{lo:Nat}{w:World}{g:CG}(h:Cli lo w g)(kind number:Nat):
  Calls Tryz.prog 72 #[.pointer (some ⟨g.b,0,none⟩),.int .u8 kind,.int .u64 number] w (fun e w'=>e=.returned (.agg #[.int .u8 kind,.int .u64 g.token,.int .u64 g.session,.int .u64 number,.int .u64 0,.string ⟨#[]⟩])∧Below w.heap.size w w'):=by
 have hbw0:Below w.heap.size w (w.alloc (.cells #[.int .u8 0,.int .u64 0,.int .u64 0,.int .u64 0,.int .u64 0,.string ⟨#[]⟩] 124)):=(Below.refl _ _).alloc (Nat.le_refl _) _
 have au:aK (w.alloc (.cells #[.int .u8 0,.int .u64 0,.int .u64 0,.int .u64 0,.int .u64 0,.string ⟨#[]⟩] 124)) w.heap.size 124 [.int .u8 0,.int .u64 0,.int .u64 0,.int .u64 0,.int .u64 0,.string ⟨#[]⟩]:=heap_alloc_new w _
 obtain⟨w0,dw⟩:∃ w0,w.alloc (.cells #[.int .u8 0,.int .u64 0,.int .u64 0,.int .u64 0,.int .u64 0,.string ⟨#[]⟩] 124)=w0:=⟨_,rfl⟩
 rw[dw] at hbw0 au
 have e0:w0.cell? ⟨w.heap.size,0,none⟩=some (.int .u8 0):=au.cell 0
 have fe0:=au.frozen 0
 have e1:w0.cell? ⟨w.heap.size,1,none⟩=some (.int .u64 0):=au.cell 1
 have fe1:=au.frozen 1
 have e2:w0.cell? ⟨w.heap.size,2,none⟩=some (.int .u64 0):=au.cell 2
 have fe2:=au.frozen 2
 have e3:w0.cell? ⟨w.heap.size,3,none⟩=some (.int .u64 0):=au.cell 3
 have fe3:=au.frozen 3
 have e4:w0.cell? ⟨w.heap.size,4,none⟩=some (.int .u64 0):=au.cell 4
 have fe4:=au.frozen 4
 have e5:w0.cell? ⟨w.heap.size,5,none⟩=some (.string ⟨#[]⟩):=au.cell 5
 have fe5:=au.frozen 5
 have hL:=(h.below hbw0).blk
 have d9:w0.cell? ⟨g.b,9,none⟩=some (.int .u64 g.token):=hL.cell 9
 have d11:w0.cell? ⟨g.b,11,none⟩=some (.int .u64 g.session):=hL.cell 11
 have HBw:=hid au
 have Hbw:=hid hbw0
 clear h hL au hbw0
 go_enter func72,ntmps72
 go_wp2_with fail
 go_big_region
 all_goals
  go_wp2_with fail
  have HL:=hid (qX _ _ _ _ _ _ _ _ (show aK ((((((w0.setCell ⟨w.heap.size,0,none⟩ (.int .u8 kind)).setCell ⟨w.heap.size,1,none⟩ (.int .u64 g.token)).setCell ⟨w.heap.size,2,none⟩ (.int .u64 g.session)).setCell ⟨w.heap.size,3,none⟩ (.int .u64 number)).setCell ⟨w.heap.size,4,none⟩ (.int .u64 0)).setCell ⟨w.heap.size,5,none⟩ (.string ⟨#[]⟩)).drew w.heap.size 124 [.int .u8 kind,.int .u64 g.token,.int .u64 g.session,.int .u64 number,.int .u64 0,.string ⟨#[]⟩] from aK.drew ((((((HBw.out.set 0 _).set 1 _).set 2 _).set 3 _).set 4 _).set 5 _)))
  have HB:=hid (show Below w.heap.size w ((((((w0.setCell ⟨w.heap.size,0,none⟩ (.int .u8 kind)).setCell ⟨w.heap.size,1,none⟩ (.int .u64 g.token)).setCell ⟨w.heap.size,2,none⟩ (.int .u64 g.session)).setCell ⟨w.heap.size,3,none⟩ (.int .u64 number)).setCell ⟨w.heap.size,4,none⟩ (.int .u64 0)).setCell ⟨w.heap.size,5,none⟩ (.string ⟨#[]⟩)).drew from((((((Hbw.out.setCell (p:=⟨w.heap.size,0,none⟩) (Nat.le_refl _) (.int .u8 kind)).setCell (p:=⟨w.heap.size,1,none⟩) (Nat.le_refl _) (.int .u64 g.token)).setCell (p:=⟨w.heap.size,2,none⟩) (Nat.le_refl _) (.int .u64 g.session)).setCell (p:=⟨w.heap.size,3,none⟩) (Nat.le_refl _) (.int .u64 number)).setCell (p:=⟨w.heap.size,4,none⟩) (Nat.le_refl _) (.int .u64 0)).setCell (p:=⟨w.heap.size,5,none⟩) (Nat.le_refl _) (.string ⟨#[]⟩)).drew)
  (try simp only[Exit.inBlock,Exit.then])
  refine⟨rfl,.agg #[.int .u8 kind,.int .u64 g.token,.int .u64 g.session,.int .u64 number,.int .u64 0,.string ⟨#[]⟩],?_,rfl,HB.out⟩
  have:=HL.out
  simp[results,Tryz.results72,asAddr,this]
theorem below_drewN{B:Nat}{a w:World}(h:Below B a w)(n:Nat):Below B a (w.drewN n):=⟨h.os,h.tape,h.output,h.size,h.block⟩
theorem Gl{lo:Nat}{w:World}{g:CG}(h:Cli lo w g)(p:aP):
  Calls Tryz.prog 159 #[.pointer (some ⟨g.b,0,none⟩),.agg #[.int .u8 p.kind,.int .u64 p.token,.int .u64 p.session,.int .u64 p.number,.int .u64 p.position,.string p.data]] w (fun e w'=>e=.returned (.bool (g.st.oh p))∧Below w.heap.size w w'):=by
 have hbw0:Below w.heap.size w (w.alloc (.cells #[.int .u8 p.kind,.int .u64 p.token,.int .u64 p.session,.int .u64 p.number,.int .u64 p.position,.string p.data] 124)):=(Below.refl _ _).alloc (Nat.le_refl _) _
 have au:aK (w.alloc (.cells #[.int .u8 p.kind,.int .u64 p.token,.int .u64 p.session,.int .u64 p.number,.int .u64 p.position,.string p.data] 124)) w.heap.size 124 [.int .u8 p.kind,.int .u64 p.token,.int .u64 p.session,.int .u64 p.number,.int .u64 p.position,.string p.data]:=heap_alloc_new w _
 obtain⟨w0,dw⟩:∃ w0,w.alloc (.cells #[.int .u8 p.kind,.int .u64 p.token,.int .u64 p.session,.int .u64 p.number,.int .u64 p.position,.string p.data] 124)=w0:=⟨_,rfl⟩
 rw[dw] at hbw0 au
 have e0:w0.cell? ⟨w.heap.size,0,none⟩=some (.int .u8 p.kind):=au.cell 0
 have e1:w0.cell? ⟨w.heap.size,1,none⟩=some (.int .u64 p.token):=au.cell 1
 have e2:w0.cell? ⟨w.heap.size,2,none⟩=some (.int .u64 p.session):=au.cell 2
 have e3:w0.cell? ⟨w.heap.size,3,none⟩=some (.int .u64 p.number):=au.cell 3
 have e4:w0.cell? ⟨w.heap.size,4,none⟩=some (.int .u64 p.position):=au.cell 4
 have e5:w0.cell? ⟨w.heap.size,5,none⟩=some (.string p.data):=au.cell 5
 have hL:=(h.below hbw0).blk
 have d9:w0.cell? ⟨g.b,9,none⟩=some (.int .u64 g.token):=hL.cell 9
 have d11:w0.cell? ⟨g.b,11,none⟩=some (.int .u64 g.session):=hL.cell 11
 have HO:Hid (g.st.oh p=(decide (g.session≠0)&&(decide (p.token=g.token)&&decide (p.session=g.session)))):=rfl
 rw[HO.out]
 clear h hL au HO
 by_cases hs:g.session=0
 case' pos=>
  have b1:((g.session:Int) != 0)=false:=by simp[hs]
  have e1:decide (g.session≠0)=false:=by simp[hs]
  rw[e1,Bool.false_and]
  clear hs e1
 case' neg=>
  have b1:((g.session:Int) != 0)=true:=by simp;omega
  have e1:decide (g.session≠0)=true:=by simp[hs]
  rw[e1,Bool.true_and]
  clear hs e1
  by_cases ht:p.token=g.token
  case' pos=>
   have b2:((p.token:Int)==g.token)=true:=by simp[ht]
   have e2:decide (p.token=g.token)=true:=by simp[ht]
   have e3:decide (p.session=g.session)=((p.session:Int)==g.session):=by
    by_cases h:p.session=g.session
    ·simp[h]
    ·simp[h];omega
   rw[e2,Bool.true_and,e3]
   clear ht e2 e3
  case' neg=>
   have b2:((p.token:Int)==g.token)=false:=by simp;omega
   have e2:decide (p.token=g.token)=false:=by simp[ht]
   rw[e2,Bool.false_and]
   clear ht e2
 all_goals
  go_enter func159,ntmps159
  go_wp2_with fail
  go_quiet (fail)
  go_wp2_with fail
  go_ret
  exact⟨rfl,below_drewN hbw0 _⟩
theorem adO{lo:Nat}{w:World}{g:CG}(h:Cli lo w g)(p:aP)(hs:g.session=0):
  Calls Tryz.prog 73 #[.pointer (some ⟨g.b,0,none⟩),.agg #[.int .u8 p.kind,.int .u64 p.token,.int .u64 p.session,.int .u64 p.number,.int .u64 p.position,.string p.data]] w (fun e w'=>e=.returned (.tuple #[])∧Below w.heap.size w w'):=by
 have hbw0:Below w.heap.size w (w.alloc (.cells #[.int .u8 p.kind,.int .u64 p.token,.int .u64 p.session,.int .u64 p.number,.int .u64 p.position,.string p.data] 124)):=(Below.refl _ _).alloc (Nat.le_refl _) _
 have au:aK (w.alloc (.cells #[.int .u8 p.kind,.int .u64 p.token,.int .u64 p.session,.int .u64 p.number,.int .u64 p.position,.string p.data] 124)) w.heap.size 124 [.int .u8 p.kind,.int .u64 p.token,.int .u64 p.session,.int .u64 p.number,.int .u64 p.position,.string p.data]:=heap_alloc_new w _
 obtain⟨w0,dw⟩:∃ w0,w.alloc (.cells #[.int .u8 p.kind,.int .u64 p.token,.int .u64 p.session,.int .u64 p.number,.int .u64 p.position,.string p.data] 124)=w0:=⟨_,rfl⟩
 rw[dw] at hbw0 au
 have e0:w0.cell? ⟨w.heap.size,0,none⟩=some (.int .u8 p.kind):=au.cell 0
 have e1:w0.cell? ⟨w.heap.size,1,none⟩=some (.int .u64 p.token):=au.cell 1
 have e2:w0.cell? ⟨w.heap.size,2,none⟩=some (.int .u64 p.session):=au.cell 2
 have e3:w0.cell? ⟨w.heap.size,3,none⟩=some (.int .u64 p.number):=au.cell 3
 have e4:w0.cell? ⟨w.heap.size,4,none⟩=some (.int .u64 p.position):=au.cell 4
 have e5:w0.cell? ⟨w.heap.size,5,none⟩=some (.string p.data):=au.cell 5
 have hL:=(h.below hbw0).blk
 have d11:w0.cell? ⟨g.b,11,none⟩=some (.int .u64 g.session):=hL.cell 11
 have b1:((g.session:Int) != 0)=false:=by simp[hs]
 clear h hL au hs
 go_enter func73,ntmps73
 go_wp2_with fail
 go_end0
 exact⟨rfl,hbw0⟩
theorem aak{lo:Nat}{w:World}{g:CG}(h:Cli lo w g)(p:aP)(hs:g.session≠0):
  Calls Tryz.prog 73 #[.pointer (some ⟨g.b,0,none⟩),.agg #[.int .u8 p.kind,.int .u64 p.token,.int .u64 p.session,.int .u64 p.number,.int .u64 p.position,.string p.data]] w (fun e w'=>e=.returned (.tuple #[])∧gG lo w g (g.st.post (g.st.sealed p)) w' { g with L:=bU g.up g.L (g.st.sealed p) } ∧ aG (fun k=>k=g.q∨k=g.m) w w'):=by
 have hbw0:Below w.heap.size w (w.alloc (.cells #[.int .u8 p.kind,.int .u64 p.token,.int .u64 p.session,.int .u64 p.number,.int .u64 p.position,.string p.data] 124)):=(Below.refl _ _).alloc (Nat.le_refl _) _
 have au:aK (w.alloc (.cells #[.int .u8 p.kind,.int .u64 p.token,.int .u64 p.session,.int .u64 p.number,.int .u64 p.position,.string p.data] 124)) w.heap.size 124 [.int .u8 p.kind,.int .u64 p.token,.int .u64 p.session,.int .u64 p.number,.int .u64 p.position,.string p.data]:=heap_alloc_new w _
 obtain⟨w0,dw⟩:∃ w0,w.alloc (.cells #[.int .u8 p.kind,.int .u64 p.token,.int .u64 p.session,.int .u64 p.number,.int .u64 p.position,.string p.data] 124)=w0:=⟨_,rfl⟩
 rw[dw] at hbw0 au
 have e0:w0.cell? ⟨w.heap.size,0,none⟩=some (.int .u8 p.kind):=au.cell 0
 have fe0:=au.frozen 0
 have e1:w0.cell? ⟨w.heap.size,1,none⟩=some (.int .u64 p.token):=au.cell 1
 have fe1:=au.frozen 1
 have e2:w0.cell? ⟨w.heap.size,2,none⟩=some (.int .u64 p.session):=au.cell 2
 have fe2:=au.frozen 2
 have e3:w0.cell? ⟨w.heap.size,3,none⟩=some (.int .u64 p.number):=au.cell 3
 have fe3:=au.frozen 3
 have e4:w0.cell? ⟨w.heap.size,4,none⟩=some (.int .u64 p.position):=au.cell 4
 have fe4:=au.frozen 4
 have e5:w0.cell? ⟨w.heap.size,5,none⟩=some (.string p.data):=au.cell 5
 have fe5:=au.frozen 5
 have h0:=h.below hbw0
 have d9:w0.cell? ⟨g.b,9,none⟩=some (.int .u64 g.token):=h0.blk.cell 9
 have d11:w0.cell? ⟨g.b,11,none⟩=some (.int .u64 g.session):=h0.blk.cell 11
 have b1:((g.session:Int) != 0)=true:=by simp;omega
 have hlt:=h.blk.lt
 have hne:g.b≠w.heap.size:=by omega
 have H:=hid h
 have HBw:=hid au
 have Hbw:=hid hbw0
 clear h h0 au hbw0 hs
 go_enter func73,ntmps73
 go_wp2_with fail
 go_region
 all_goals
  have hB2:=((HBw.out.set 1 (.int .u64 g.token)).set 2 (.int .u64 g.session)).drew
  have hb2:=((Hbw.out.setCell (p:=⟨w.heap.size,1,none⟩) (Nat.le_refl _) (.int .u64 g.token)).setCell (p:=⟨w.heap.size,2,none⟩) (Nat.le_refl _) (.int .u64 g.session)).drew
  obtain⟨w2,hw2⟩:∃ w2,((w0.setCell ⟨w.heap.size,1,none⟩ (.int .u64 g.token)).setCell ⟨w.heap.size,2,none⟩ (.int .u64 g.session)).drew=w2:=⟨_,rfl⟩
  rw[hw2] at hB2 hb2 ⊢
  have r0:w2.cell? ⟨w.heap.size,0,none⟩=some (.int .u8 p.kind):=hB2.cell 0
  have r1:w2.cell? ⟨w.heap.size,1,none⟩=some (.int .u64 g.token):=hB2.cell 1
  have r2:w2.cell? ⟨w.heap.size,2,none⟩=some (.int .u64 g.session):=hB2.cell 2
  have r3:w2.cell? ⟨w.heap.size,3,none⟩=some (.int .u64 p.number):=hB2.cell 3
  have r4:w2.cell? ⟨w.heap.size,4,none⟩=some (.int .u64 p.position):=hB2.cell 4
  have r5:w2.cell? ⟨w.heap.size,5,none⟩=some (.string p.data):=hB2.cell 5
  have H2:=hid (H.out.below hb2)
  have Hb2:=hid hb2
  clear hw2 hB2 hb2 e0 e1 e2 e3 e4 e5 fe0 fe1 fe2 fe3 fe4 fe5 d9 d11 dw
  go_wp2_with fail
  go_region_with (go_at_call 71;refine(H2.out.drew.post (g.st.sealed p)).mono ?_;rintro e w3 ⟨rfl,h3,h4⟩;have H3:=hid h3;have H4:=hid h4;clear h3 h4)
  all_goals
   go_wp2_with fail
   go_end0
   exact⟨rfl,H3.out.before Hb2.out.drew,(aG.of_below Hb2.out.drew).same H4.out⟩
def I4(g:CG)(k:Nat):List aP:=((g.asked.take k).map g.st.sealed).foldl (bU g.up) (bU g.up g.L (fK 1 g.token g.session 0 0))
theorem PY(g:CG){k:Nat}(hk:k<g.asked.length):I4 g (k+1)=bU g.up (I4 g k) (g.st.sealed g.asked[k]):=by
 unfold I4
 rw[List.take_add_one,List.getElem?_eq_getElem hk]
 simp only[Option.toList_some,List.map_append,List.map_cons,List.map_nil,List.foldl_append,List.foldl_cons,List.foldl_nil]
theorem TQ(g:CG)(hs:g.session≠0){k:Nat}(hk:g.asked.length≤k):({ g.st with L:=I4 g k }:CP)=g.st.speak:=by
 unfold CP.speak I4
 rw[if_neg (show ¬ g.st.session=0 from hs),List.take_of_length_le hk]
 rfl
theorem wK:∀ (l:List aP) (k j:Nat) (v:Value) (hk:k<l.length),(pc l[k])[j]? = some v→j<6→(dD l)[k*6+j]? = some v
 | [],k,_,_,hk,_,_=>by simp at hk
 | p::r,0,j,v,_,h,hj=>by
  show ((pc p).toList++dD r)[0*6+j]? = some v
  rw[List.getElem?_append_left (by simp[pc];omega)]
  simpa using h
 | p::r,k+1,j,v,hk,h,hj=>by
  show ((pc p).toList++dD r)[(k+1)*6+j]? = some v
  rw[List.getElem?_append_right (by simp[pc];omega)]
  have:=wK r k j v (by simpa using hk) (by simpa using h) hj
  rw[← this]
  congr 1
  simp[pc]
  omega
theorem Cli.XL{lo:Nat}{w:World}{g:CG}(h:Cli lo w g){k:Nat}(hk:k<g.asked.length):∃ ga c,g.av=.slice (some ⟨ga,0,none⟩) g.asked.length c∧ga<w.heap.size∧∀ j v,(pc g.asked[k])[j]? = some v→w.cell? ⟨ga,k*6+j,none⟩=some v:=by
 have ho:w.ownsRow lo 124 6 g.av g.asked.length (dD g.asked):=h.has.own h.ra (fun p hp=>by unfold CG.res CG.rest;simp only[List.mem_append];exact Or.inr (Or.inr (Or.inl hp)))
 rcases ho.2 with⟨_,e⟩ | ⟨ga,c,cur,hv,r⟩
 ·omega
 ·refine⟨ga,c,hv,(ho.lt ga (by rw[hv];rfl)).2,fun j v hj=>?_⟩
  have hj6:j<6:=by
   rcases Nat.lt_or_ge j 6 with h | h
   ·exact h
   ·rw[Array.getElem?_eq_none (by simp[pc];omega)] at hj;cases hj
  have:=ho.cells (g:=ga) (by rw[hv];rfl) (k*6+j) v (wK _ k j v hk hj hj6)
  rw[fE _ _ rfl] at this
  simpa using this
theorem XM{lo:Nat}{w:World}{g:CG}(h:Cli lo w g)(hs:g.session=0):
  Calls Tryz.prog 51 #[.pointer (some ⟨g.b,0,none⟩)] w (fun e w'=>e=.returned (.tuple #[])∧∃ g',gG lo w g g.st.speak w' g'):=by
 have d9:w.cell? ⟨g.b,9,none⟩=some (.int .u64 g.token):=h.blk.cell 9
 have d10:w.cell? ⟨g.b,10,none⟩=some (.int .u64 g.attempt):=h.blk.cell 10
 have d11:w.cell? ⟨g.b,11,none⟩=some (.int .u64 0):=(show w.cell? ⟨g.b,11,none⟩=some (.int .u64 g.session) from h.blk.cell 11).trans (by rw[hs];rfl)
 have HS:=hid (show g.st.speak=g.st.post (fK 0 g.token 0 g.attempt 0) by unfold CP.speak;rw[if_pos (show g.st.session=0 from hs)];rfl)
 have H:=hid h
 clear h hs
 go_enter func51,ntmps51
 go_wp2_with fail
 go_region_with (go_at_call 71;refine(H.out.drew.post (fK 0 g.token 0 g.attempt 0)).mono ?_;rintro e w1 ⟨rfl,h1,_⟩;have H1:=hid h1;clear h1)
 all_goals
  go_wp2_with fail
  (try simp only[Exit.inBlock,Exit.then]);refine bodyPost_ret (results_none rfl _ _ _) rfl ?_
  exact⟨rfl,_,by rw[HS.out];exact H1.out.before (Below.refl _ _).drew⟩
theorem XO{lo:Nat}{w:World}{g:CG}(h:Cli lo w g)(hs:g.session≠0)(ha:g.asked.length≤1000):
  Calls Tryz.prog 51 #[.pointer (some ⟨g.b,0,none⟩)] w (fun e w'=>e=.returned (.tuple #[])∧∃ g',gG lo w g g.st.speak w' g'):=by
 have d11:w.cell? ⟨g.b,11,none⟩=some (.int .u64 g.session):=h.blk.cell 11
 have b1:((g.session:Int)==0)=false:=by simp;omega
 obtain⟨aa,ac,hav⟩:=h.ra.slice
 have XP:=hid hav
 have H:=hid h
 clear hav
 clear h
 go_enter func51,ntmps51
 go_wp2_with fail
 go_region_with (first | (go_at_call 72;refine(wJ (w:=w.drew) H.out.drew 1 0).mono ?_;rintro e w1 ⟨rfl,hb1⟩) | (go_at_call 71;refine((H.out.drew.below hb1).post (fK 1 g.token g.session 0 0)).mono ?_;rintro e w2 ⟨rfl,h2,_⟩;have H2:=hid h2;clear h2))
 have d13:w2.cell? ⟨g.b,13,none⟩=some (.slice aa g.asked.length ac):=(show w2.cell? ⟨g.b,13,none⟩=some g.av from H2.out.cli.blk.cell 13).trans (by rw[XP.out])
 go_wp2_with fail
 have hb0:Below w.heap.size w w1:=(Below.refl _ w).drew.trans hb1
 have H3:=hid (H2.out.before hb0)
 clear d13 hb1 hb0 H2
 go_loopg [3,33] g.asked.length (fun gk x i wr=>∃ k:Nat,k+gk=g.asked.length∧i=.int .i64 k∧Hid (gG lo w g { g.st with L:=I4 g k } wr { g with L:=I4 g k }))
 case atStart=>exact⟨0,by omega,rfl,H3⟩
 case round=>
  obtain⟨k,hk,rfl,HC⟩:=hrel
  by_cases hlt:k<g.asked.length
  ·obtain⟨ga,c,hav,hgl,hcell⟩:=HC.out.cli.XL hlt
   obtain⟨rfl,rfl⟩:aa=some ⟨ga,0,none⟩∧ac=c:=by simpa using XP.out.symm.trans hav
   have c0:wr.cell? ⟨ga,k*6,none⟩=some (.int .u8 g.asked[k].kind):=hcell 0 _ rfl
   have c1:wr.cell? ⟨ga,k*6+1,none⟩=some (.int .u64 g.asked[k].token):=hcell 1 _ rfl
   have c2:wr.cell? ⟨ga,k*6+2,none⟩=some (.int .u64 g.asked[k].session):=hcell 2 _ rfl
   have c3:wr.cell? ⟨ga,k*6+3,none⟩=some (.int .u64 g.asked[k].number):=hcell 3 _ rfl
   have c4:wr.cell? ⟨ga,k*6+4,none⟩=some (.int .u64 g.asked[k].position):=hcell 4 _ rfl
   have c5:wr.cell? ⟨ga,k*6+5,none⟩=some (.string g.asked[k].data):=hcell 5 _ rfl
   have fO:(k:Int)<(g.asked.length:Int):=by omega
   have HN:=hid (PY g hlt)
   have HS':=hid (show ({ g with L:=I4 g k }:CG).session≠0 from hs)
   generalize g.asked[k]=p at *
   clear hav hcell
   go_wp2_with fail
   refine(aak (HC.out.cli.below ((Below.refl _ wr).alloc (Nat.le_refl _) _)) p HS'.out).mono ?_;rintro e w3 ⟨rfl,h3,_⟩
   have H4:=hid (HC.out.trans (h3.before ((Below.refl _ wr).alloc (Nat.le_refl _) _)))
   clear h3
   go_wp2_with fail
   go_roundg (gk-1)
   case rel=>exact⟨k+1,by omega,by go_num,by rw[HN.out];exact H4⟩
   case measure=>omega
  ·have fO:¬ (k:Int)<(g.asked.length:Int):=by omega
   have HE:=hid (TQ g hs (show g.asked.length≤k by omega))
   go_wp2_with fail
   go_end0
   exact⟨rfl,_,by rw[← HE.out];exact HC.out⟩
end Go.Proofs.YtolfcabodiphmaaGreatDoor
