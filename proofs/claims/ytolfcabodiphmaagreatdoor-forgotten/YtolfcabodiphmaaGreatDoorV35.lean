/- Package ends: the server: take, whatever the payload asks for. -/
import Derived.Test.YtolfcabodiphmaaGreatDoorV26
import Derived.Laws.EntriesVeiled
import Derived.Test.YtolfcabodiphmaaGreatDoorV30
import Derived.Test.YtolfcabodiphmaaGreatDoorV33
import Derived.Test.YtolfcabodiphmaaGreatDoorV34
import Derived.Test.YtolfcabodiphmaaGreatDoorV16
import Derived.Test.YtolfcabodiphmaaGreatDoorV17
set_option linter.unusedSimpArgs false
set_option linter.unusedVariables false
set_option maxHeartbeats 4000000
set_option maxRecDepth 100000
namespace Go.Proofs.YtolfcabodiphmaaGreatDoor
open Go.Proofs.Tryz
open Go.RowKit Go.Conc
theorem Zu{lo:Nat}{w:World}{g:SG}{s:gy}{q:SP}(h:Srv lo w g)(hs:g.aT=some s)(tk ss nb ps:Nat)(dt:ByteArray)(ht:s.token=tk)(hC:∀ w2,dV lo w g g.fresh.st w2 g.fresh→Calls Tryz.prog 125 #[.pointer (some ⟨g.b,0,none⟩),.agg #[.int .u8 5,.int .u64 tk,.int .u64 ss,.int .u64 nb,.int .u64 ps,.string dt]] w2 (fun e w'=>e=.returned (.tuple #[])∧∃ g',dV lo w2 g.fresh q w' g')):
  Calls Tryz.prog 89 #[.pointer (some ⟨g.b,0,none⟩),.agg #[.int .u8 5,.int .u64 tk,.int .u64 ss,.int .u64 nb,.int .u64 ps,.string dt]] w (fun e w'=>e=.returned (.tuple #[])∧∃ g',dV lo w g q w' g'):=by
 have e:=SG.qw hs
 rw[e] at hC
 have lJ:Below w.heap.size w (w.alloc (.cells #[.int .u8 5,.int .u64 tk,.int .u64 ss,.int .u64 nb,.int .u64 ps,.string dt] 124)):=(Below.refl _ w).alloc (Nat.le_refl _) _
 have sG:aK (w.alloc (.cells #[.int .u8 5,.int .u64 tk,.int .u64 ss,.int .u64 nb,.int .u64 ps,.string dt] 124)) w.heap.size 124 [.int .u8 5,.int .u64 tk,.int .u64 ss,.int .u64 nb,.int .u64 ps,.string dt]:=heap_alloc_new w _
 obtain⟨w0,hw0⟩:∃ w0,(w.alloc (.cells #[.int .u8 5,.int .u64 tk,.int .u64 ss,.int .u64 nb,.int .u64 ps,.string dt] 124))=w0:=⟨_,rfl⟩
 rw[hw0] at sG lJ
 have mD:Below w0.heap.size w0 (w0.alloc (.cells #[.func (Fn.func 120) #[] #[],.func (Fn.func 121) #[] #[],.func (Fn.func 122) #[] #[],.func (Fn.func 123) #[] #[],.func (Fn.func 124) #[] #[],.func (Fn.func 125) #[] #[]] 201)):=(Below.refl _ _).alloc (Nat.le_refl _) _
 have nH:aK (w0.alloc (.cells #[.func (Fn.func 120) #[] #[],.func (Fn.func 121) #[] #[],.func (Fn.func 122) #[] #[],.func (Fn.func 123) #[] #[],.func (Fn.func 124) #[] #[],.func (Fn.func 125) #[] #[]] 201)) w0.heap.size 201 [.func (Fn.func 120) #[] #[],.func (Fn.func 121) #[] #[],.func (Fn.func 122) #[] #[],.func (Fn.func 123) #[] #[],.func (Fn.func 124) #[] #[],.func (Fn.func 125) #[] #[]]:=heap_alloc_new w0 (.cells #[.func (Fn.func 120) #[] #[],.func (Fn.func 121) #[] #[],.func (Fn.func 122) #[] #[],.func (Fn.func 123) #[] #[],.func (Fn.func 124) #[] #[],.func (Fn.func 125) #[] #[]] 201)
 have cu:=sG.below mD
 have eF:=lJ.trans (mD.mono lJ.size)
 obtain⟨w1,hw1⟩:∃ w1,w0.alloc (.cells #[.func (Fn.func 120) #[] #[],.func (Fn.func 121) #[] #[],.func (Fn.func 122) #[] #[],.func (Fn.func 123) #[] #[],.func (Fn.func 124) #[] #[],.func (Fn.func 125) #[] #[]] 201)=w1:=⟨_,rfl⟩
 rw[hw1] at eF cu nH mD
 have hA:=h.below eF
 have d10:w1.cell? ⟨g.b,10,none⟩=some (.map (some g.ms)):=hA.blk.cell 10
 have t0:w1.cell? ⟨w.heap.size,0,none⟩=some (.int .u8 5):=cu.cell 0
 have t1:w1.cell? ⟨w.heap.size,1,none⟩=some (.int .u64 tk):=cu.cell 1
 have t2:w1.cell? ⟨w.heap.size,2,none⟩=some (.int .u64 ss):=cu.cell 2
 have t3:w1.cell? ⟨w.heap.size,3,none⟩=some (.int .u64 nb):=cu.cell 3
 have t4:w1.cell? ⟨w.heap.size,4,none⟩=some (.int .u64 ps):=cu.cell 4
 have t5:w1.cell? ⟨w.heap.size,5,none⟩=some (.string dt):=cu.cell 5
 have tF:w1.cell? ⟨w0.heap.size,5,none⟩=some (.func (Fn.func 125) #[] #[]):=nH.cell 5
 have hm:bF w1 g.ms [(tk,s.blk)]:=by have:=hA.iW;rw[hs] at this;rw[← ht];exact this
 have hlk:(Instr.lookup 100 (.map (some g.ms)) (.int .u64 tk) false).run Tryz.prog w1=.ok (.pointer (some ⟨s.blk,0,none⟩)) w1:=dA hm
 have hlk2:(Instr.lookup 100 (.map (some g.ms)) (.int .u64 tk) false).run Tryz.prog w1.drew=.ok (.pointer (some ⟨s.blk,0,none⟩)) w1.drew:=dA hm.drew
 have hSb:=hA.drew.jm hs
 have c3:w1.drew.cell? ⟨s.blk,3,none⟩=some (.int .i64 s.silence):=hSb.cell 3
 have f3:=hSb.frozen 3
 have hB3:aK (w1.drew.setCell ⟨s.blk,3,none⟩ (.int .i64 0)) s.blk 132 (fJ { s with silence:=0 }):=hSb.set 3 _
 have hc3:aG (fun k=>k=s.blk) w1.drew (w1.drew.setCell ⟨s.blk,3,none⟩ (.int .i64 0)):=(aG.refl (fun k=>k=s.blk) w1.drew).setCell ⟨s.blk,3,none⟩ _ (fun _=>rfl)
 have hsl:s.blk<w.heap.size:=(h.jm hs).lt
 have hT:=(dV.refl h eF.drew).trans (hA.drew.C9 (s':={ s with silence:=0 }) hs hc3 hB3 rfl rfl ⟨rfl,rfl,rfl,rfl⟩)
 have hP3:=aK.dB (w:=w1.drew) cu hc3 (fun e=>by have e:w.heap.size=s.blk:=e;omega)
 have hF3:=aK.dB (w:=w1.drew) nH hc3 (fun e=>by have e:w0.heap.size=s.blk:=e;have:=lJ.size;omega)
 obtain⟨w2,hw2⟩:∃ w2,w1.drew.setCell ⟨s.blk,3,none⟩ (.int .i64 0)=w2:=⟨_,rfl⟩
 rw[hw2] at hT hP3 hF3
 have x0:w2.cell? ⟨w.heap.size,0,none⟩=some (.int .u8 5):=hP3.cell 0
 have x1:w2.cell? ⟨w.heap.size,1,none⟩=some (.int .u64 tk):=hP3.cell 1
 have x2:w2.cell? ⟨w.heap.size,2,none⟩=some (.int .u64 ss):=hP3.cell 2
 have x3:w2.cell? ⟨w.heap.size,3,none⟩=some (.int .u64 nb):=hP3.cell 3
 have x4:w2.cell? ⟨w.heap.size,4,none⟩=some (.int .u64 ps):=hP3.cell 4
 have x5:w2.cell? ⟨w.heap.size,5,none⟩=some (.string dt):=hP3.cell 5
 have xF:w2.cell? ⟨w0.heap.size,5,none⟩=some (.func (Fn.func 125) #[] #[]):=hF3.cell 5
 have HT:=hid (hT.below (Below.refl _ w2).drew)
 have HC:=hid (hC w2.drew HT.out)
 clear h hs hC e hA eF lJ mD sG nH cu hm hSb hB3 hc3 hT hP3 hF3 ht
 go_enter func89,ntmps89
 go_wp2_with fail
 go_region
 all_goals
  go_wp2_with fail
  go_region_with (go_at_call 125;refine HC.out.mono ?_;rintro e w3 ⟨rfl,g3,h3⟩;have H3:=hid h3;clear h3)
  all_goals
   go_wp2_with fail
   go_end0
   exact⟨rfl,g3,HT.out.trans H3.out⟩
theorem xW(up:Bool)(W:Nat)(o:IU)(Ts:List Tj)(sel:F9→Bool)(pre:F9→F9):∀ (fs:List F9) (L:List aP),(SP.mO up W o Ts sel pre fs L).1.length=fs.length
 | [],L=>rfl
 | f::r,L=>by
  unfold SP.mO
  split<;>simp[xW up W o Ts sel pre r]
theorem SP.SE{W:Nat}{s:SP}{o':IU}(h:(s.speak W).aT=some o'):∃ o,s.aT=some o∧o'.feeds.length=o.feeds.length∧o'.answers=o.answers:=by
 unfold SP.speak at h
 split at h
 ·rename_i o hc ho
  refine⟨o,ho,?_⟩
  obtain rfl:=(Option.some.inj h).symm
  exact⟨xW _ _ _ _ _ _ _ _,rfl⟩
 ·exact⟨o',h,rfl,rfl⟩
theorem SP.En{W:Nat}{s:SP}{p:aP}{o':IU}(h:(s.aW W p).1.aT=some o'):∃ o,s.aT=some o∧o'.feeds.length=o.feeds.length∧o'.answers=o.answers:=by
 unfold SP.aW at h
 split at h
 ·rename_i o ho
  split at h
  ·split at h
   ·exact⟨o',h,rfl,rfl⟩
   ·exact SP.SE (W:=W) (s:={ s with cur:=true }) h
  ·exact⟨o',h,rfl,rfl⟩
 ·exact⟨o',h,rfl,rfl⟩
theorem acB{lo:Nat}{w:World}{g:SG}(h:Srv lo w g)(hS:YU g.st)(hW:g.W≤1000)(hsl:∀ s,g.aT=some s→s.silence+1<g.D):
  Calls Tryz.prog 38 #[.pointer (some ⟨g.b,0,none⟩)] w (fun e w'=>e=.returned (.tuple #[])∧∃ g',dV lo w g (g.st.tick g.W g.D) w' g'):=by
 rcases Option.eq_none_or_eq_some g.aT with hs | ⟨s,hs⟩
 ·exact ab1 h hs
 ·exact ab2 h hs hS hW (hsl s hs)
theorem Zv{lo:Nat}{w:World}{g:WG}(h:lI lo w g)(hlo:lo≤w.heap.size)(O7:YU g.sg.st)(hW:g.W≤1000)(hst:g.bC≤1000000000000)(hD:¬ g.D≤g.bC+1)(hsl:∀ s,g.sg.aT=some s→s.silence+1<g.sg.D):
  Calls Tryz.prog 8 #[.pointer (some ⟨g.b,0,none⟩),.int .i64 1] w (fun e w'=>e=.returned (.tuple #[])∧∃ g',mF lo w g g.st.lG w' g'):=by
 have d20:w.cell? ⟨g.b,20,none⟩=some (.int .i64 g.bC):=h.blk.cell 20
 have f20:=h.blk.frozen 20
 have hB1:aK (w.drew.setCell ⟨g.b,20,none⟩ (.int .i64 ((g.bC:Int)+1))) g.b 39 ({ g with bC:=g.bC+1 }:WG).cells:=h.drew.blk.set 20 _
 have hc1:aG (fun k=>k=g.b) w.drew (w.drew.setCell ⟨g.b,20,none⟩ (.int .i64 ((g.bC:Int)+1))):=(aG.refl _ _).setCell _ _ (fun _=>rfl)
 have hT1:=(mF.refl h (Below.refl _ w).drew).trans (h.drew.jS (g':={ g with bC:=g.bC+1 }) hc1 hB1 rfl ⟨rfl,rfl⟩ rfl rfl ⟨rfl,rfl,rfl⟩ ⟨rfl,rfl,rfl,rfl⟩ ⟨rfl,rfl,rfl,rfl,rfl,rfl⟩ ⟨rfl,rfl,rfl,rfl⟩)
 obtain⟨w1,hw1⟩:∃ w1,w.drew.setCell ⟨g.b,20,none⟩ (.int .i64 ((g.bC:Int)+1))=w1:=⟨_,rfl⟩
 rw[hw1] at hB1 hT1
 have k20:w1.cell? ⟨g.b,20,none⟩=some (.int .i64 ((g.bC:Int)+1)):=hB1.cell 20
 have k3:w1.cell? ⟨g.b,3,none⟩=some (.int .i64 g.D):=hB1.cell 3
 have b1:decide ((g.D:Int)≤(g.bC:Int)+1)=false:=by simp;omega
 have b2:decide (g.D≤g.bC+1)=false:=by simp;omega
 have HE:=hid (show g.st.lG = { ({ g with bC:=g.bC+1 }:WG).st with s:=g.sg.st.tick g.W g.D } by
  show ({ g.st with bC:=g.bC+1,cause:=g.cause||decide (g.D≤g.bC+1),s:=g.sg.st.tick g.W g.D }:WP)=_
  rw[b2]
  simp only[Bool.or_false]
  rfl)
 have HT1:=hid hT1
 have H1:=hid hT1.wld
 clear h hB1 hc1 hT1
 go_enter func8,ntmps8
 go_wp2_with fail
 go_region
 all_goals
  go_wp2_with fail
  go_region
  all_goals
  have hT2:=HT1.out.below (Below.refl _ w1).drew
  obtain⟨w2,hw2⟩:∃ w2,w1.drew=w2:=⟨_,rfl⟩
  rw[hw2] at hT2 ⊢
  have H2:=hid hT2.wld
  have HT2:=hid hT2
  have hz2:=hT2.grow.c.size
  have p0:w2.cell? ⟨g.b,0,none⟩=some (.pointer (some ⟨g.sb,0,none⟩)):=H2.out.blk.cell 0
  have HP:=hid (show w2.cell? ⟨g.sb,0,none⟩=some (.pointer (some ⟨g.sg.b,0,none⟩)) from H2.out.dX.cell 0)
  have HC:=hid (show Calls Tryz.prog 38 #[.pointer (some ⟨g.sg.b,0,none⟩)] w2 (fun e w'=>e=.returned (.tuple #[])∧∃ g',dV lo w2 g.sg (g.sg.st.tick g.W g.D) w' g') by
   have:=(acB H2.out.srv O7 (by rw[H2.out.vM.1];exact hW) hsl)
   rw[show ({ g with bC:=g.bC+1 }:WG).sg.W=g.W from H2.out.vM.1,show ({ g with bC:=g.bC+1 }:WG).sg.D=g.D from H2.out.vM.2.1] at this
   exact this)
  clear hT2
  go_wp2_with fail
  refine(acr w2 g.sb g.sg.b HP.out _ HC.out).mono ?_;rintro e w3 ⟨rfl,g3,h3⟩
  have HT3:=hid (HT2.out.trans (H2.out.lK h3))
  clear h3
  go_wp2_with fail
  go_end0
  exact⟨rfl,_,by rw[HE.out];exact HT3.out⟩
theorem Io{p:aP}(h:smB p=true):lS p∧(bJ p).length≤120∧p.data.size≤79∧p.number≤1000000:=by
 unfold smB at h
 simp only[Bool.and_eq_true,decide_eq_true_eq] at h
 obtain⟨⟨⟨⟨⟨h1,h2⟩,h3⟩,h4⟩,h5⟩,h6⟩:=h
 have hp:lS p:=⟨h1,by omega,by omega,by omega,by omega,by omega⟩
 refine⟨hp,?_,h6,by omega⟩
 unfold bJ
 have:=yP hp 4
 have h0:p.data.toList.length=p.data.size:=by rw[ByteArray.toList_eq];rfl
 rw[List.length_append,h0]
 omega
theorem Au{L:List aP}(h:KI L=true):L.length≤60∧∀ p∈L,lS p∧(bJ p).length≤120:=by
 unfold KI at h
 simp only[Bool.and_eq_true,decide_eq_true_eq,List.all_eq_true] at h
 exact⟨h.1,fun p hp=>⟨(Io (h.2 p hp)).1,(Io (h.2 p hp)).2.1⟩⟩
theorem Dx{c:CP}(h:csB c=true):vS c∧c.streams=[]∧c.called≤1000000:=by
 unfold csB at h
 simp only[Bool.and_eq_true,decide_eq_true_eq,List.isEmpty_iff] at h
 obtain⟨⟨⟨⟨⟨⟨h1,h2⟩,h3⟩,h4⟩,h5⟩,h6⟩,h7⟩:=h
 exact⟨⟨h1,by rw[h2];simp,h3,by omega,by omega,by omega⟩,h2,h7⟩
theorem Ph:∀ {l:List Nat},Zl l=true→l.Nodup
 | [],_=>List.nodup_nil
 | a::r,h=>by
  unfold Zl at h
  simp only[Bool.and_eq_true,Bool.not_eq_true',List.contains_eq_mem,decide_eq_false_iff_not] at h
  exact List.nodup_cons.2 ⟨h.1,Ph h.2⟩
theorem Ip{s:SP}{f:IU→Bool}(h:WI s f=true):∀ o,s.aT=some o→f o=true:=fun o ho=>by
 unfold WI at h
 rw[ho] at h
 exact h
theorem Iq{s:SP}(h:ssB s=true):YU s∧∀ o,s.aT=some o→o.feeds=[]∧o.answers.length≤1000:=by
 unfold ssB at h
 simp only[Bool.and_eq_true,decide_eq_true_eq,List.all_eq_true] at h
 obtain⟨⟨⟨⟨⟨⟨h1,h2⟩,h3⟩,h4⟩,h5⟩,h6⟩,h7⟩:=h
 have h2':∀ o,s.aT=some o→o.feeds=[]∧o.answers.length≤1000∧o.silence≤1000000∧o.next≤1000000:=fun o ho=>by
  have:=Ip h2 o ho
  simp only[Bool.and_eq_true,decide_eq_true_eq,List.isEmpty_iff] at this
  exact⟨this.1.1.1,this.1.1.2,this.1.2,this.2⟩
 exact⟨⟨SSp.of0 (fun t ht=>⟨(h1 t ht).1,by have:=(h1 t ht).2;omega⟩) (fun o ho=>(h2' o ho).1) (fun o ho=>by have:=(h2' o ho).2.1;omega),fun o ho=>by have:=h2' o ho;exact⟨by omega,by omega⟩,⟨by omega,by omega,by omega⟩,Ph h6,fun x hx=>h7 x hx⟩,fun o ho=>⟨(h2' o ho).1,(h2' o ho).2.1⟩⟩
def WP.cfg(p:WP):Prop:=p.D=4∧p.R=1∧p.W≤8
structure jh(lo:Nat)(XC XS:List aO)(w:World)(g:WG)(p:WP):Prop where
 wld:lI lo w g
 st:g.st = { p with D:=g.D,R:=g.R }
 cf:p.cfg
 hl:lo≤w.heap.size
 D:4≤g.D
 sc:Stat lo w g.cg.iv XC
 ss:Stat lo w g.sg.iv XS
structure mg(lo:Nat)(XC XS:List aO)(w:World)(g:WG)(p:WP)(w':World)(g':WG):Prop where
 jO:jh lo XC XS w' g' p
 grow:Grow w g.res w' g'.res
 b:g'.b=g.b
theorem jh.c{lo:Nat}{XC XS:List aO}{w:World}{g:WG}{p:WP}(h:jh lo XC XS w g p):g.cg.st=p.c:=congrArg WP.c h.st
theorem jh.s{lo:Nat}{XC XS:List aO}{w:World}{g:WG}{p:WP}(h:jh lo XC XS w g p):g.sg.st=p.s:=congrArg WP.s h.st
theorem jh.gW{lo:Nat}{XC XS:List aO}{w:World}{g:WG}{p:WP}(h:jh lo XC XS w g p):g.W=p.W:=congrArg WP.W h.st
theorem jh.eP{lo:Nat}{XC XS:List aO}{w:World}{g:WG}{p:WP}(h:jh lo XC XS w g p):g.calls=p.calls:=congrArg WP.calls h.st
theorem jh.Dy{lo:Nat}{XC XS:List aO}{w:World}{g:WG}{p:WP}(h:jh lo XC XS w g p):g.streams=p.streams:=congrArg WP.streams h.st
theorem jh.gS0{lo:Nat}{XC XS:List aO}{w:World}{g:WG}{p:WP}(h:jh lo XC XS w g p):g.bK=p.bK:=congrArg WP.bK h.st
theorem jh.gS1{lo:Nat}{XC XS:List aO}{w:World}{g:WG}{p:WP}(h:jh lo XC XS w g p):g.bC=p.bC:=congrArg WP.bC h.st
theorem jh.gC{lo:Nat}{XC XS:List aO}{w:World}{g:WG}{p:WP}(h:jh lo XC XS w g p):g.o9=p.o9:=congrArg WP.o9 h.st
theorem jh.gS{lo:Nat}{XC XS:List aO}{w:World}{g:WG}{p:WP}(h:jh lo XC XS w g p):g.qU=p.qU:=congrArg WP.qU h.st
theorem jh.WS{lo:Nat}{XC XS:List aO}{w:World}{g:WG}{p:WP}(h:jh lo XC XS w g p):g.conn=p.conn:=congrArg WP.conn h.st
theorem jh.aaN{lo:Nat}{XC XS:List aO}{w:World}{g:WG}{p:WP}(h:jh lo XC XS w g p):g.came=p.came:=congrArg WP.came h.st
theorem jh.acC{lo:Nat}{XC XS:List aO}{w:World}{g:WG}{p:WP}(h:jh lo XC XS w g p):g.cause=p.cause:=congrArg WP.cause h.st
theorem jh.cL{lo:Nat}{XC XS:List aO}{w:World}{g:WG}{p:WP}(h:jh lo XC XS w g p):g.cg.L=p.c.L:=congrArg CP.L h.c
theorem jh.sL{lo:Nat}{XC XS:List aO}{w:World}{g:WG}{p:WP}(h:jh lo XC XS w g p):g.sg.L=p.s.L:=congrArg SP.L h.s
theorem jh.tab{lo:Nat}{XC XS:List aO}{w:World}{g:WG}{p:WP}(h:jh lo XC XS w g p):Tab w:=⟨h.sc.env.t,h.sc.env.lt⟩
theorem jh.below{lo:Nat}{XC XS:List aO}{w w':World}{g:WG}{p:WP}(h:jh lo XC XS w g p)(hb:Below w.heap.size w w'):jh lo XC XS w' g p:=⟨h.wld.below hb,h.st,h.cf,Nat.le_trans h.hl hb.size,h.D,h.sc.below hb,h.ss.below hb⟩
theorem jh.drew{lo:Nat}{XC XS:List aO}{w:World}{g:WG}{p:WP}(h:jh lo XC XS w g p):jh lo XC XS w.drew g p:=h.below (Below.refl _ _).drew
theorem jh.to{lo:Nat}{XC XS:List aO}{w w':World}{g g':WG}{p p' q:WP}(h:jh lo XC XS w g p)(k:mF lo w g q w' g')(hq:q = { p' with D:=g.D,R:=g.R })(hc:p'.cfg):mg lo XC XS w g p' w' g':=by
 have eD:g'.D=g.D:=(congrArg WP.D k.st).trans (congrArg WP.D hq)
 have eR:g'.R=g.R:=(congrArg WP.R k.st).trans (congrArg WP.R hq)
 refine⟨⟨k.wld,by rw[k.st,hq,eD,eR],hc,Nat.le_trans h.hl k.grow.c.size,by rw[eD];exact h.D,?_,?_⟩,k.grow,k.b⟩
 ·rw[k.iv.1]
  exact h.sc.keep h.wld.has k.grow.c
 ·rw[k.iv.2]
  exact h.ss.keep h.wld.has k.grow.c
theorem mg.refl{lo:Nat}{XC XS:List aO}{w w':World}{g:WG}{p:WP}(h:jh lo XC XS w g p)(hb:Below w.heap.size w w'):mg lo XC XS w g p w' g:=⟨h.below hb,Grow.of_below hb,rfl⟩
theorem mg.trans{lo:Nat}{XC XS:List aO}{w w1 w2:World}{g g1 g2:WG}{p1 p2:WP}(h:mg lo XC XS w g p1 w1 g1)(k:mg lo XC XS w1 g1 p2 w2 g2):mg lo XC XS w g p2 w2 g2:=⟨k.jO,h.grow.trans k.grow,k.b.trans h.b⟩
theorem mg.below{lo:Nat}{XC XS:List aO}{w w1 w2:World}{g g1:WG}{p1:WP}(h:mg lo XC XS w g p1 w1 g1)(hb:Below w1.heap.size w1 w2):mg lo XC XS w g p1 w2 g1:=⟨h.jO.below hb,h.grow.below hb,h.b⟩
theorem mg.before{lo:Nat}{XC XS:List aO}{w w0 w1:World}{g g1:WG}{p1:WP}(h:mg lo XC XS w0 g p1 w1 g1)(hb:Below w.heap.size w w0):mg lo XC XS w g p1 w1 g1:=⟨h.jO,(Grow.of_below hb).trans h.grow,h.b⟩
theorem CP.Ir{c:CP}(D:Nat)(h:c.silence<3)(hD:4≤D):c.tick D=c.tick 4:=by
 unfold CP.tick
 simp only
 rw[if_neg (by omega),if_neg (by omega)]
theorem SP.Ir{s:SP}(W D:Nat)(h:∀ o,s.aT=some o→o.silence<3)(hD:4≤D):s.tick W D=s.tick W 4:=by
 unfold SP.tick
 rcases Option.eq_none_or_eq_some s.aT with e | ⟨o,e⟩
 ·rw[e]
 ·have:=h o e
  rw[e]
  simp only
  rw[if_pos (by omega),if_pos (by omega)]
theorem SH{p:WP}{D R:Nat}(hD:4≤D)(hp:p.D=4)(hs:p.c.silence<3)(h0:p.bK<3):({ p with D:=D,R:=R }:WP).jQ = { p.jQ with D:=D,R:=R }:=by
 unfold WP.jQ
 simp only[hp,CP.Ir D hs hD]
 rw[show decide (D≤p.bK+1)=false from decide_eq_false (by omega),show decide (4≤p.bK+1)=false from decide_eq_false (by omega)]
theorem SI{p:WP}{D R:Nat}(hD:4≤D)(hp:p.D=4)(hs:∀ o,p.s.aT=some o→o.silence<3)(h0:p.bC<3):({ p with D:=D,R:=R }:WP).lG = { p.lG with D:=D,R:=R }:=by
 unfold WP.lG
 simp only[hp,SP.Ir p.W D hs hD]
 rw[show decide (D≤p.bC+1)=false from decide_eq_false (by omega),show decide (4≤p.bC+1)=false from decide_eq_false (by omega)]
theorem KO{p:WP}(h:p.Dt=true):vS p.c∧YU p.s∧p.c.silence<3∧p.bK<3∧(∀ o,p.s.aT=some o→o.silence<3)∧p.bC<3:=by
 unfold WP.Dt at h
 simp only[Bool.and_eq_true,decide_eq_true_eq] at h
 obtain⟨⟨⟨⟨⟨h1,h2⟩,h3⟩,h4⟩,h5⟩,h6⟩:=h
 exact⟨(Dx h1).1,(Iq h2).1,h3,h4,fun o ho=>by simpa using Ip h5 o ho,h6⟩
theorem acD{g:SG}{s:gy}(h:g.aT=some s):g.st.aT=some s.o:=by unfold SG.st;rw[h];rfl
theorem Pj{lo:Nat}{XC XS:List aO}{w:World}{g:WG}{p:WP}(h:jh lo XC XS w g p)(hT:p.Dt=true):
  Calls Tryz.prog 8 #[.pointer (some ⟨g.b,0,none⟩),.int .i64 0] w (fun e w'=>e=.returned (.tuple #[])∧∃ g',mg lo XC XS w g p.jQ w' g'):=by
 obtain⟨h1,h2,h3,h4,h5,h6⟩:=KO hT
 refine(Zi h.wld h.hl (by rw[h.c];exact h1) (by rw[h.gS0];omega) (by have:=h.D;rw[h.gS0];omega)).mono ?_
 rintro e w' ⟨rfl,g',hh⟩
 exact⟨rfl,g',h.to hh (by rw[h.st];exact SH h.D h.cf.1 h3 h4) h.cf⟩
theorem Pm{lo:Nat}{XC XS:List aO}{w:World}{g:WG}{p:WP}(h:jh lo XC XS w g p.jQ)(hT:p.Dt=true):
  Calls Tryz.prog 8 #[.pointer (some ⟨g.b,0,none⟩),.int .i64 1] w (fun e w'=>e=.returned (.tuple #[])∧∃ g',mg lo XC XS w g p.jQ.lG w' g'):=by
 obtain⟨h1,h2,h3,h4,h5,h6⟩:=KO hT
 refine(Zv h.wld h.hl (by rw[h.s];exact h2) (by rw[h.gW];have:=h.cf.2.2;omega) (by rw[h.gS1];show p.bC≤_;omega) (by have:=h.D;rw[h.gS1];show ¬ _≤p.bC+1;omega) (fun s hs=>by
  have h7:=h5 s.o (by have:=acD hs;rw[h.s] at this;exact this)
  have h8:s.o.silence=s.silence:=rfl
  rw[h.wld.vM.2.1]
  have:=h.D
  omega)).mono ?_
 rintro e w' ⟨rfl,g',hh⟩
 exact⟨rfl,g',h.to hh (by rw[h.st];exact SI h.D h.cf.1 (show ∀ o,p.s.aT=some o→_ from h5) (show p.bC<3 from h6)) h.cf⟩
theorem fUp{lo:Nat}{XC XS:List aO}{w:World}{g:WG}{p p':WP}(h:jh lo XC XS w g p)(hU:p.Xz=some p'):
  Calls Tryz.prog 5 #[.pointer (some ⟨g.b,0,none⟩),.int .i64 0] w (fun e w'=>e=.returned (.bool true)∧∃ g',mg lo XC XS w g p' w' g'):=by
 unfold WP.Xz at hU
 split at hU
 ·rename_i hB
  obtain rfl:=Option.some.inj hU
  unfold WP.upB at hB
  simp only[Bool.and_eq_true,decide_eq_true_eq,Bool.or_eq_true,Bool.not_eq_true'] at hB
  obtain⟨⟨⟨h1,h2⟩,h3⟩,h4⟩:=hB
  have e1:g.cg.had=p.c.had:=congrArg CP.had h.c
  have e2:g.cg.last=p.c.last:=congrArg CP.last h.c
  have e3:g.sg.had=p.s.had:=congrArg SP.had h.s
  have e4:g.sg.last=p.s.last:=congrArg SP.last h.s
  refine(ajF h.wld h.hl (by rw[h.c];exact(Dx h1).1) (by rw[h.WS];omega) (by rw[e1,e2,h.WS];exact h3) (by rw[e3,e4,h.WS];exact h4)).mono ?_
  rintro e w' ⟨rfl,g',hh⟩
  exact⟨rfl,g',h.to hh (by rw[h.st];rfl) h.cf⟩
 ·cases hU
def bH:ByteArray:=ByteArray.mk #[109,101,115,115,97,103,101,32,112,111,105,110,116,32,123,32,49,32,120,32,105,110,116,32,50,32,121,32,105,110,116,32,53,32,116,97,103,32,111,112,116,32,116,101,120,116,32,55,32,109,111,114,101,32,108,105,115,116,32,112,111,105,110,116,32,125,32,101,110,117,109,32,99,111,108,111,114,32,123,32,114,101,100,32,103,114,101,101,110,32,125,32,115,116,114,101,97,109,32,116,105,99,107,115,32,105,110,116,32,115,116,114,101,97,109,32,109,97,114,107,115,32,112,111,105,110,116,32,115,116,114,101,97,109,32,104,117,101,115,32,99,111,108,111,114,32,99,97,108,108,32,97,100,100,32,112,111,105,110,116,32,105,110,116,32,99,97,108,108,32,110,97,109,101,32,105,110,116,32,116,101,120,116]
theorem szK:bH.size≤400:=of_decide_eq_true (by kernel_rfl)
def zY:List iP:=((aV bH).1).getD []
theorem uh{X:List aO}(h:(aV bH).1=some (X.map (fun x=>x.it))):X.map (fun x=>x.it)=zY:=by unfold zY;rw[h];rfl
def XK:List aO:=zY.map (fun it=>⟨it,.slice none 0 0,.slice none 0 0⟩)
theorem NI:XK.map (fun x=>x.it)=zY:=by unfold XK;rw[List.map_map];exact List.map_id' _
theorem vO{X Y:List aO}(h:X.map (fun x=>x.it)=Y.map (fun x=>x.it))(n:List UInt8):bZ X n=bZ Y n:=by
 have e:∀ Z:List aO,Z.findIdx? (fun x=>jg n x.it)=(Z.map (fun x=>x.it)).findIdx? (jg n):=fun Z=>by rw[List.findIdx?_map];rfl
 unfold bZ
 rw[e X,e Y,h]
theorem Dz{X Y:List aO}(h:X.map (fun x=>x.it)=Y.map (fun x=>x.it))(b:ByteArray):hasB X b=hasB Y b:=by unfold hasB;rw[vO h]
theorem NJ{X Y:List aO}(h:X.map (fun x=>x.it)=Y.map (fun x=>x.it)){k:Nat}{x:aO}(hx:X[k]? = some x):∃ y,Y[k]? = some y∧y.it=x.it:=by
 have e:(X.map (fun x=>x.it))[k]? = (Y.map (fun x=>x.it))[k]?:=by rw[h]
 rw[List.getElem?_map,List.getElem?_map,hx] at e
 cases hy:Y[k]? with
 | none=>rw[hy] at e;cases e
 | some y=>rw[hy] at e;exact⟨y,rfl,(Option.some.inj e).symm⟩
theorem Pn{X Y:List aO}(h:X.map (fun x=>x.it)=Y.map (fun x=>x.it)):tyP X=tyP Y:=by
 funext b
 unfold tyP
 rw[vO h]
 cases hx:X[(bZ Y b).toNat]? with
 | none=>
  cases hy:Y[(bZ Y b).toNat]? with
  | none=>rfl
  | some y=>
   obtain⟨x,hx2,_⟩:=NJ h.symm hy
   rw[hx] at hx2;cases hx2
 | some x=>
  obtain⟨y,hy,e⟩:=NJ h hx
  rw[hy]
  simp only[e]
theorem WT{X Y:List aO}(h:X.map (fun x=>x.it)=Y.map (fun x=>x.it))(ts:List aN):qK X ts=qK Y ts:=by
 unfold qK GI
 simp only[Dz h]
def DC(x:aO):Bool:=(jY [x.it.fields.map fname]).isEmpty&&(jY [x.it.names]).isEmpty&&(nT x.it.fields (x.it.fields.length-1)).isEmpty&&(qK XK (pY x.it)).isEmpty&&x.it.fields.all (fun f=>!decide (f.shape=0)||decide (bZ XK f.base.toList<0))
def WU:Bool:=(aV bH).1.isSome&&(jY [bV XK,bW XK]).isEmpty&&XK.all DC
theorem WV:WU=true:=by kernel_rfl
theorem FT{X Y:List aO}(h:X.map (fun x=>x.it)=Y.map (fun x=>x.it)):bV X=bV Y∧bW X=bW Y:=by
 have e:∀ (Z:List aO) (f:iP→Bool),(Z.filter (fun x=>f x.it)).map (fun x=>x.it.name)=((Z.map (fun x=>x.it)).filter f).map (fun i=>i.name):=fun Z f=>by rw[List.filter_map,List.map_map];rfl
 unfold bV bW
 rw[e X (fun i=>gB i.kind),e Y (fun i=>gB i.kind),e X (fun i=>!gB i.kind),e Y (fun i=>!gB i.kind),h]
 exact⟨rfl,rfl⟩
theorem ajY{X:List aO}(h:X.map (fun x=>x.it)=zY):∀ a,¬ PF X a:=fun a hF=>by
 have hX:X.map (fun x=>x.it)=XK.map (fun x=>x.it):=h.trans NI.symm
 have hk:=WV
 unfold WU at hk
 simp only[Bool.and_eq_true,List.isEmpty_iff,List.all_eq_true] at hk
 obtain⟨⟨_,h1⟩,h2⟩:=hk
 have item:∀ (i:Nat) (x:aO),X[i]? = some x→DC x=true:=fun i x hx=>by
  obtain⟨y,hy,e⟩:=NJ hX hx
  have:=h2 y (List.mem_of_getElem? hy)
  unfold DC at this ⊢
  rw[e] at this
  exact this
 have WW:∀ i j,¬ Edge X i j:=fun i j hE=>by
  obtain⟨x,f,hx,hf,hs,hj⟩:=hE
  have:=item i x hx
  unfold DC at this
  simp only[Bool.and_eq_true,List.all_eq_true,Bool.or_eq_true,Bool.not_eq_true',decide_eq_false_iff_not,decide_eq_true_eq] at this
  rcases this.2 f hf with e | e
  ·exact e hs
  ·rw[← vO hX,hj] at e
   omega
 rcases hF with hF | ⟨i,x,hx,hF⟩
 ·rw[(FT hX).1,(FT hX).2,h1] at hF
  cases hF
 ·have:=item i x hx
  unfold DC at this
  simp only[Bool.and_eq_true,List.isEmpty_iff] at this
  obtain⟨⟨⟨⟨a1,a2⟩,a3⟩,a4⟩,_⟩:=this
  rcases hF with hF | hF | hF | hF | ⟨_,hF,_⟩
  ·rw[a1] at hF;cases hF
  ·rw[a2] at hF;cases hF
  ·rw[a3] at hF;cases hF
  ·rw[WT hX,a4] at hF;cases hF
  ·obtain ⟨n,hn⟩:=hF
   cases n with
   | zero => exact WW _ _ hn
   | succ n => obtain ⟨j,e,_⟩:=hn; exact WW _ _ e
theorem notE{E P:Int}(h:bP bH E P):E=0:=by
 have hk:=WV
 unfold WU at hk
 simp only[Bool.and_eq_true] at hk
 rcases h with⟨h,_⟩ | ⟨_,⟨h,_⟩ | ⟨X,hX,⟨m,hm,_⟩ | ⟨_,e,_⟩⟩⟩
 ·have:=szK;omega
 ·rw[h] at hk;cases hk.1.1
 ·exact absurd hm (ajY (uh hX) m)
 ·exact e
def WX:Bool:=zY.all (fun i=>decide (i.fields.Pairwise (fun f g=>f.number<g.number))&&decide (i.fields.Pairwise (fun f g=>f.name.toList≠g.name.toList)))
theorem Zw:WX=true:=by kernel_rfl
theorem Iu{X:List aO}(h:(aV bH).1=some (X.map (fun x=>x.it))):Plain X:=fun x hx=>by
 have h1:x.it∈zY:=by rw[← uh h];exact List.mem_map.2 ⟨x,hx,rfl⟩
 have h2:=List.all_eq_true.1 (show WX=true from Zw) x.it h1
 simp only[Bool.and_eq_true,decide_eq_true_eq] at h2
 exact h2
def Po(k:Nat)(nm bs an:ByteArray):Bool:=(zY.take k).all (fun y=>!qo 3 nm.toList y)&&match zY[k]? with
 | some it=>qo 3 nm.toList it&&decide (it.name.text=nm)&&(match it.base with | [.string b,_]=>decide (b=bs) | _=>false)&&(match it.answer with | [.string b,_]=>decide (b=an) | _=>false)
 | none=>false
theorem KP{X:List aO}(h:(aV bH).1=some (X.map (fun x=>x.it))){k:Nat}{nm bs an:ByteArray}(hk:Po k nm bs an=true):∃ x,jH X 3 nm.toList (k:Int)∧X[k]? = some x∧x.it.name.text=nm∧(∃ v,x.it.base=[.string bs,v])∧(∃ v,x.it.answer=[.string an,v]):=by
 have hP:=uh h
 unfold Po at hk
 simp only[Bool.and_eq_true,List.all_eq_true,Bool.not_eq_true'] at hk
 obtain⟨h1,h2⟩:=hk
 have hat:∀ j:Nat,zY[j]? = (X[j]?).map (fun x:aO=>x.it):=fun j=>by rw[← hP,List.getElem?_map]
 rw[hat] at h2
 rcases Option.eq_none_or_eq_some X[k]? with e | ⟨x,e⟩
 ·rw[e] at h2;simp at h2
 ·rw[e] at h2
  simp only[Option.map_some,Bool.and_eq_true,decide_eq_true_eq] at h2
  obtain⟨⟨⟨h3,h4⟩,h5⟩,h6⟩:=h2
  refine⟨x,jH.yes k x e h3 (fun j y hj hy=>h1 y.it ?_),e,h4,?_,?_⟩
  ·refine List.mem_of_getElem? (i:=j) ?_
   rw[List.getElem?_take_of_lt hj,hat,hy]
   rfl
  ·split at h5
   ·rename_i b v hb
    exact⟨v,by rw[hb,of_decide_eq_true h5]⟩
   ·cases h5
  ·split at h6
   ·rename_i b v hb
    exact⟨v,by rw[hb,of_decide_eq_true h6]⟩
   ·cases h6
def qB(q:QT):Bool:=(Po 5 q.name q.base q.ans||Po 6 q.name q.base q.ans)&&hasB XK q.base&&hasB XK q.ans&&decide ((jP XK 6).1 q.base.toList q.value.toList=some (q.enc,[]))&&decide ((decP XK 6).1 q.base.toList q.enc=some q.value.data.toList)&&decide ((jP XK 6).1 q.ans.toList q.av.toList=some (q.ad,[]))&&decide ((decP XK 6).1 q.ans.toList q.ad=some q.av.data.toList)
def qC(q:QT):Bool:=decide (q.enc.length≤64)&&decide (q.ad.length≤64)&&decide (q.value.size≤390)&&decide (q.av.size≤390)&&decide (q.dat=q.name++⟨#[32]⟩++⟨q.enc.toArray⟩)&&q.name.data.toList.all (fun c=>!decide (c=32))&&decide (1<q.dat.size)&&decide (q.name.size+1≤q.dat.size)&&decide (q.dat.size≤1000)&&decide (q.name.size≤1000)&&decide (Ij q.dat.data.toList=some (q.name,q.value,q.ans))
theorem afZ:qN.all qB=true:=by kernel_rfl
theorem af0:qN.all qC=true:=by kernel_rfl
structure QOk(X:List aO)(q:QT):Prop where
 ex:∃ (k:Nat) (x:aO),jH X 3 q.name.toList (k:Int)∧X[k]? = some x∧x.it.name.text=q.name∧(∃ v,x.it.base=[.string q.base,v])∧(∃ v,x.it.answer=[.string q.ans,v])
 aj0:∀ E d',Fh X q.base q.value E d'→E=0∧d'=q.enc
 aj1:∀ E d',Fh X q.ans q.av E d'→E=0∧d'=q.ad
 aj2:dU X q.base q.enc=some q.value
 aj3:dU X q.ans q.ad=some q.av
 le:q.enc.length≤64∧q.ad.length≤64∧q.value.size≤390∧q.av.size≤390
 dat:q.dat=q.name++⟨#[32]⟩++⟨q.enc.toArray⟩
 nm:(∀ c∈q.name.data.toList,c≠32)∧1<q.dat.size∧q.name.size+1≤q.dat.size∧q.dat.size≤1000∧q.name.size≤1000
 ask:Ij q.dat.data.toList=some (q.name,q.value,q.ans)
theorem Pq{X:List aO}(h:(aV bH).1=some (X.map (fun x=>x.it))){base v:ByteArray}{p:List UInt8}(hb:hasB XK base=true)(hv:v.size≤390)(hp:(jP XK 6).1 base.toList v.toList=some (p,[]))(hl:p.length≤64):∀ E d',Fh X base v E d'→E=0∧d'=p:=fun E d' hA=>by
 have hX:X.map (fun x=>x.it)=XK.map (fun x=>x.it):=(uh h).trans NI.symm
 have hp':(jP X 6).1 base.toList v.toList=some (p,[]):=by
  show (UD ng gu (tyP X) 6).1 base.toList v.toList=_
  rw[Pn hX];exact hp
 rcases hA with⟨_,_,hn⟩ | ⟨_,hA⟩
 ·rw[Dz hX,hb] at hn;cases hn
 ·rcases hA with⟨h4,_⟩ | ⟨_,⟨hno,_⟩ | ⟨x,hx,hA⟩⟩
  ·omega
  ·exact absurd hp' (hno p)
  ·rw[hp'] at hx
   obtain rfl:p=x:=by simpa using hx
   rcases hA with⟨h,_⟩ | ⟨_,e1,e2⟩
   ·omega
   ·exact⟨e1,e2⟩
theorem Pv{X:List aO}(h:(aV bH).1=some (X.map (fun x=>x.it))){base v:ByteArray}{d:List UInt8}(hb:hasB XK base=true)(hv:v.size≤390)(hd:d.length≤64)(hp:(decP XK 6).1 base.toList d=some v.data.toList):dU X base d=some v:=by
 have hX:X.map (fun x=>x.it)=XK.map (fun x=>x.it):=(uh h).trans NI.symm
 have hu':(decP X 6).1 base.toList d=some v.data.toList:=by
  show (U0 (tyP X) 6).1 base.toList d=_
  rw[Pn hX];exact hp
 unfold dU
 rw[if_pos ⟨by rw[Dz hX];exact hb,hd⟩,hu']
 simp only
 rw[if_pos (by have:v.data.toList.length=v.size:=rfl;omega)]
theorem qOk{X:List aO}(h:(aV bH).1=some (X.map (fun x=>x.it))){q:QT}(hq:q∈qN):QOk X q:=by
 have hB:=List.all_eq_true.1 afZ q hq
 have hC:=List.all_eq_true.1 af0 q hq
 unfold qB at hB
 unfold qC at hC
 simp only[Bool.and_eq_true,Bool.or_eq_true,decide_eq_true_eq,List.all_eq_true,Bool.not_eq_true',decide_eq_false_iff_not] at hB hC
 obtain⟨⟨⟨⟨⟨⟨b1,b2⟩,b3⟩,b4⟩,b5⟩,b6⟩,b7⟩:=hB
 obtain⟨⟨⟨⟨⟨⟨⟨⟨⟨⟨c1,c2⟩,c3⟩,c4⟩,c5⟩,c6⟩,c7⟩,c8⟩,c9⟩,c10⟩,c11⟩:=hC
 refine⟨?_,Pq h b2 c3 b4 c1,Pq h b3 c4 b6 c2,Pv h b2 c3 c1 b5,Pv h b3 c4 c2 b7,⟨c1,c2,c3,c4⟩,c5,⟨c6,c7,c8,c9,c10⟩,c11⟩
 rcases b1 with b1 | b1
 ·obtain⟨x,hx⟩:=KP h b1
  exact⟨5,x,hx⟩
 ·obtain⟨x,hx⟩:=KP h b1
  exact⟨6,x,hx⟩
theorem QOk.call{X:List aO}{q:QT}(h:QOk X q){p:aP}(hp:p.data=q.dat):Wi X Ij p:=by
 obtain⟨k,x,h1,h2,h3,h4,h5⟩:=h.ex
 refine⟨q.name,⟨q.enc.toArray⟩,x,q.base,q.ans,k,q.value,by rw[hp];exact h.dat,h.nm.1,by rw[hp];exact h.nm.2.2.2.1,by rw[hp];exact h.nm.2.1,by rw[hp];exact h.nm.2.2.1,?_,h1,h2,h4,h5,?_,?_⟩
 ·show q.enc.toArray.size≤1000
  have:=h.le.1
  simp;omega
 ·rw[ByteArray.toList_eq]
  simpa using h.aj2
 ·rw[hp,ByteArray.toList_eq,h3]
  exact h.ask
def qV(i:Nat):Bool:=match qN[i]? with
 | some q=>decide (q.name=if i % 2=0 then⟨#[97,100,100]⟩ else⟨#[110,97,109,101]⟩)&&decide (q.value.data.toList=if i % 2=0 then nG 1 i else nG 0 i)&&decide (q.av.data.toList=if i % 2=0 then nG 0 (7*i) else nG 3 i) && !decide (q.av=⟨#[]⟩)
 | none=>false
theorem af2:(List.range 8).all qV=true:=by kernel_rfl
theorem acE{i:Nat}{q:QT}(h:qN[i]? = some q):i<8∧(i % 2=0→q.name=⟨#[97,100,100]⟩∧q.value.toList=nG 1 i∧q.av.toList=nG 0 (7*i))∧(i % 2≠0→q.name=⟨#[110,97,109,101]⟩∧q.value.toList=nG 0 i∧q.av.toList=nG 3 i)∧q.av≠⟨#[]⟩:=by
 have hi:i<8:=(List.getElem?_eq_some_iff.1 h).1
 have hB:=List.all_eq_true.1 af2 i (List.mem_range.2 hi)
 unfold qV at hB
 rw[h] at hB
 simp only[Bool.and_eq_true,decide_eq_true_eq,Bool.not_eq_true',decide_eq_false_iff_not] at hB
 obtain⟨⟨⟨h1,h2⟩,h3⟩,h4⟩:=hB
 refine⟨hi,fun e=>?_,fun e=>?_,h4⟩
 ·rw[if_pos e] at h1 h2 h3
  rw[ByteArray.toList_eq,ByteArray.toList_eq]
  exact⟨h1,h2,h3⟩
 ·rw[if_neg e] at h1 h2 h3
  rw[ByteArray.toList_eq,ByteArray.toList_eq]
  exact⟨h1,h2,h3⟩
theorem KQ{i:Nat}{q:QT}(h:qN[i]? = some q):q∈qN:=List.mem_of_getElem? h
theorem Zx{X:List aO}(h:(aV bH).1=some (X.map (fun x=>x.it))){b:ByteArray}{d:List UInt8}(hq:qN.any (fun q=>decide (q.ans=b)&&decide (q.ad=d))=true):Zk b d=dU X b d:=by
 unfold Zk
 rcases Option.eq_none_or_eq_some (qN.find? (fun q:QT=>decide (q.ans=b)&&decide (q.ad=d))) with e | ⟨q,e⟩
 ·obtain⟨q,h1,h2⟩:=List.any_eq_true.1 hq
  exact absurd h2 (by simpa using List.find?_eq_none.1 e q h1)
 ·rw[e]
  have h1:=List.find?_some e
  have h2:=List.mem_of_find?_eq_some e
  simp only[Bool.and_eq_true,decide_eq_true_eq] at h1
  rw[← h1.1,← h1.2,(qOk h h2).aj3]
  rfl
end Go.Proofs.YtolfcabodiphmaaGreatDoor
