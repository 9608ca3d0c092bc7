/- Package ends: the server: take, where nothing out of the way comes. -/
import Derived.Test.YtolfcabodiphmaaGreatDoorV35
import Derived.Test.YtolfcabodiphmaaGreatDoorV29
import Derived.Test.YtolfcabodiphmaaGreatDoorV30
import Derived.Test.YtolfcabodiphmaaGreatDoorV27
import Derived.Test.YtolfcabodiphmaaGreatDoorV33
import Derived.Test.YtolfcabodiphmaaGreatDoorV32
import Derived.Test.YtolfcabodiphmaaGreatDoorV22
set_option linter.unusedSimpArgs false
set_option linter.unusedVariables false
set_option maxHeartbeats 8000000
set_option maxRecDepth 100000
namespace Go.Proofs.YtolfcabodiphmaaGreatDoor
open Go.Proofs.Tryz
open Go.RowKit Go.Conc
theorem Zy{lo:Nat}{w:World}{g:SG}(h:Srv lo w g)(ask:SP.Ask)(hlo:lo≤w.heap.size)(hbg:g.begun≤1000000000000)(hs:g.aT=none)(tk ss nb ps:Nat)(dt:ByteArray):
  Calls Tryz.prog 89 #[.pointer (some ⟨g.b,0,none⟩),.agg #[.int .u8 0,.int .u64 tk,.int .u64 ss,.int .u64 nb,.int .u64 ps,.string dt]] w (fun e w'=>e=.returned (.tuple #[])∧∃ g',dV lo w g (g.st.take ask g.W ⟨0,tk,ss,nb,ps,dt⟩) w' g'):=by
 have e:g.st.take ask g.W ⟨0,tk,ss,nb,ps,dt⟩=g.fresh.st.hello ⟨0,tk,ss,nb,ps,dt⟩:=by rw[SG.ny];rfl
 rw[e]
 refine Y2 h hs tk ss nb ps dt (fun w2 h2=>?_)
 exact Nr (g:=g.fresh) h2.srv (Nat.le_trans hlo h2.grow.c.size) hbg ⟨0,tk,ss,nb,ps,dt⟩ (by rw[SG.kP hs];exact hs)
theorem Zz{lo:Nat}{w:World}{g:SG}{X:List aO}(h:Srv lo w g)(ask:SP.Ask)(hlo:lo≤w.heap.size)(hst:Stat lo w g.iv X)(hS:SSp g.st)(hW:g.W≤1000)(hwl:g.st.waits.length≤1000000){s:gy}(hs:g.aT=some s)(tk ss nb ps:Nat)(dt:ByteArray)(hp:nb≤1000000000000)(hc:Wi X ask ⟨3,tk,ss,nb,ps,dt⟩)(ht:∀ s,g.aT=some s→s.token=tk)(hq:(g.fresh.st.request g.W ⟨3,tk,ss,nb,ps,dt⟩).2=true):
  Calls Tryz.prog 89 #[.pointer (some ⟨g.b,0,none⟩),.agg #[.int .u8 3,.int .u64 tk,.int .u64 ss,.int .u64 nb,.int .u64 ps,.string dt]] w (fun e w'=>e=.returned (.tuple #[])∧∃ g',dV lo w g (g.st.take ask g.W ⟨3,tk,ss,nb,ps,dt⟩) w' g'):=by
 have e:g.st.take ask g.W ⟨3,tk,ss,nb,ps,dt⟩=g.fresh.st.call ask g.W ⟨3,tk,ss,nb,ps,dt⟩:=by rw[SG.ny];rfl
 rw[e]
 refine Y5 h hs tk ss nb ps dt (ht s hs) (fun w2 h2=>?_)
 obtain⟨nm,dat,x,bs,an,i,t,c1,c2,c3,c4,c5,c6,c7,c8,c9,c10,c11,c12⟩:=hc.ex
 exact V9 (g:=g.fresh) h2.srv ⟨3,tk,ss,nb,ps,dt⟩ ask (Nat.le_trans hlo h2.grow.c.size) (h2.stat h hst) (SG.uf hS) hW hp (fun s hs=>by obtain⟨s0,h0,rfl⟩:=SG.yX hs;exact ht s0 h0) hwl (SP.Em _ _ _) hq nm dat c1 c2 c3 c4 c5 c6 x bs an i c7 c8 c9 c10 t c11 c12
theorem ZA{lo:Nat}{w:World}{g:SG}(h:Srv lo w g)(ask:SP.Ask)(hS:SSp g.st)(hW:g.W≤1000)(hA:∀ o,g.st.aT=some o→o.answers.length≤1000){s:gy}(hs:g.aT=some s)(tk ss nb ps:Nat)(dt:ByteArray)(ht:∀ s,g.aT=some s→s.token=tk)(ho:g.fresh.st.oI ⟨5,tk,ss,nb,ps,dt⟩=true):
  Calls Tryz.prog 89 #[.pointer (some ⟨g.b,0,none⟩),.agg #[.int .u8 5,.int .u64 tk,.int .u64 ss,.int .u64 nb,.int .u64 ps,.string dt]] w (fun e w'=>e=.returned (.tuple #[])∧∃ g',dV lo w g (g.st.take ask g.W ⟨5,tk,ss,nb,ps,dt⟩) w' g'):=by
 have e:g.st.take ask g.W ⟨5,tk,ss,nb,ps,dt⟩=g.fresh.st.done g.W ⟨5,tk,ss,nb,ps,dt⟩:=by rw[SG.ny];rfl
 rw[e]
 refine Zu h hs tk ss nb ps dt (ht s hs) (fun w2 h2=>?_)
 exact Wj (g:=g.fresh) h2.srv ⟨5,tk,ss,nb,ps,dt⟩ (SG.uf hS) hW (fun s hs=>by obtain⟨s0,h0,rfl⟩:=SG.yX hs;exact ht s0 h0) ho (fun o ho=>by
  obtain⟨o1,ho1,l1,l2⟩:=SP.En ho
  have hf:=SG.uf hS
  rw[l1,l2]
  refine⟨(hf.ln o1 ho1).1,?_⟩
  rw[SG.ny] at ho1
  cases hg:g.st.aT with
  | none=>rw[hg] at ho1;rw[hg] at ho1;cases ho1
  | some o0=>
   rw[hg] at ho1
   obtain rfl:=(Option.some.inj ho1).symm
   exact hA o0 hg)
theorem SK{lo:Nat}{w:World}{g:CG}{q:CP}(h:Cli lo w g)(p:aP)(hp:lS p)(hd9:p.data.size≤900)(conn:Int)(hup:g.st.isUp conn=true)(a:Option Addr)(c:Nat)(F:List UInt8)(hr:Rd w (.slice a F.length c) F)(hl:F.length≤2000000)(hcap:F.length≤c)(hn:kT fU F=some (bJ p))
  (hT:∀ w2,Below w.heap.size w w2→Calls Tryz.prog 88 #[.pointer (some ⟨g.b,0,none⟩),.agg #[.int .u8 p.kind,.int .u64 p.token,.int .u64 p.session,.int .u64 p.number,.int .u64 p.position,.string p.data]] w2 (fun e w'=>e=.returned (.tuple #[])∧∃ g',gG lo w2 g q w' g')) :
  Calls Tryz.prog 61 #[.pointer (some ⟨g.b,0,none⟩),.int .i64 conn,.slice a F.length c] w (fun e w'=>e=.returned (.int .i64 0)∧∃ g',gG lo w g q w' g'):=by
 have H:=hid h
 have HR:=hid hr
 have HN:=hid hn
 have Xw:=hid hT
 have HP:=hid hp
 have HU:=hid (show (g.up&&decide (conn=g.last))=true from hup)
 clear h hr hn hT hp hup
 go_enter func61,ntmps61
 go_wp2_with fail
 refine(IW _ g.b _ _ _ _ _ g.last g.had g.up g.q g.m g.tl H.out.blk conn).mono ?_;rintro e w1 ⟨rfl,rfl⟩
 rw[HU.out]
 go_wp2_with fail
 refine(KA w1 p HP.out hd9 a c F HR.out hl hcap HN.out).mono ?_;rintro e w2 ⟨rfl,hb2⟩
 have hb3:Below w2.heap.size w2 (w2.alloc (.cells #[.int .u8 p.kind,.int .u64 p.token,.int .u64 p.session,.int .u64 p.number,.int .u64 p.position,.string p.data] 124)):=(Below.refl _ _).alloc (Nat.le_refl _) _
 have hB3:aK (w2.alloc (.cells #[.int .u8 p.kind,.int .u64 p.token,.int .u64 p.session,.int .u64 p.number,.int .u64 p.position,.string p.data] 124)) w2.heap.size 124 [.int .u8 p.kind,.int .u64 p.token,.int .u64 p.session,.int .u64 p.number,.int .u64 p.position,.string p.data]:=heap_alloc_new w2 _
 obtain⟨w3,hw3⟩:∃ w3,w2.alloc (.cells #[.int .u8 p.kind,.int .u64 p.token,.int .u64 p.session,.int .u64 p.number,.int .u64 p.position,.string p.data] 124)=w3:=⟨_,rfl⟩
 rw[hw3] at hb3 hB3
 have r0:w3.cell? ⟨w2.heap.size,0,none⟩=some (.int .u8 p.kind):=hB3.cell 0
 have r1:w3.cell? ⟨w2.heap.size,1,none⟩=some (.int .u64 p.token):=hB3.cell 1
 have r2:w3.cell? ⟨w2.heap.size,2,none⟩=some (.int .u64 p.session):=hB3.cell 2
 have r3:w3.cell? ⟨w2.heap.size,3,none⟩=some (.int .u64 p.number):=hB3.cell 3
 have r4:w3.cell? ⟨w2.heap.size,4,none⟩=some (.int .u64 p.position):=hB3.cell 4
 have r5:w3.cell? ⟨w2.heap.size,5,none⟩=some (.string p.data):=hB3.cell 5
 have eF:=hb2.trans (hb3.mono hb2.size)
 have VJ:=hid eF
 clear hb2 hb3 hB3 eF
 go_wp2_with fail
 refine(Xw.out w3 VJ.out).mono ?_;rintro e w4 ⟨rfl,g4,h4⟩
 have HT:=hid (h4.before VJ.out)
 clear h4
 go_wp2_with fail
 go_ret
 exact⟨rfl,g4,HT.out⟩
theorem Iw{α:Type}{l:List α}{i:Nat}{f f':α → α}(h:∀ a,l[i]? = some a→f a=f' a):l.modify i f=l.modify i f':=by
 apply List.ext_getElem?
 intro j
 rw[List.getElem?_modify,List.getElem?_modify]
 by_cases e:i=j
 ·subst e
  rcases Option.eq_none_or_eq_some l[i]? with e | ⟨a,e⟩
  ·rw[e];rfl
  ·rw[e]
   simp[h a e]
 ·simp[e]
theorem KR{c:CP}{p:aP}{dec dec':Dec}(h:∀ o∈c.calls,o.request=p.number→dec o.answer p.data.toList=dec' o.answer p.data.toList):c.answered dec p=c.answered dec' p:=by
 unfold CP.answered
 split
 ·have e:(c.forget (p.number+1)).calls=c.calls:=rfl
  rcases Option.eq_none_or_eq_some ((c.forget (p.number+1)).qR p.number) with e1 | ⟨i,e1⟩
  ·simp only[e1]
  ·have hm:(c.forget (p.number+1)).calls.modify i (fun o:Ti=>match dec o.answer p.data.toList with | some t=>o.finish 1 t | none=>o)=(c.forget (p.number+1)).calls.modify i (fun o:Ti=>match dec' o.answer p.data.toList with | some t=>o.finish 1 t | none=>o):=Iw (fun o ho=>by
    unfold CP.qR at e1
    obtain⟨hi,h1,_⟩:=List.findIdx?_eq_some_iff_getElem.1 e1
    have hoo:(c.forget (p.number+1)).calls[i]=o:=by rw[List.getElem?_eq_getElem hi] at ho;exact Option.some.inj ho
    rw[hoo] at h1
    simp only[Bool.and_eq_true,decide_eq_true_eq] at h1
    simp only[h o (by rw[← e];exact List.mem_of_getElem? ho) h1.1])
   simp only[e1]
   exact congrArg (fun l=>CP.post { (c.forget (p.number+1)) with calls:=l } (fK 5 c.token c.session p.number 0)) hm
 ·rfl
theorem WY{c:CP}{p:aP}{dec dec':Dec}(R R':Nat)(h:p.kind=6∨p.kind=7∨p.kind=13∨(p.kind=12∧∀ o∈c.calls,o.request=p.number→dec o.answer p.data.toList=dec' o.answer p.data.toList)):c.take dec R p=c.take dec' R' p:=by
 unfold CP.take
 rcases h with h | h | h | ⟨h,hd⟩
 ·simp[h]
 ·simp[h]
 ·simp[h]
 ·simp only[h]
  simp
  exact KR (c:={ c with silence:=0 }) hd
theorem acF{lo:Nat}{XC XS:List aO}{w:World}{g:WG}{p p':WP}(h:jh lo XC XS w g p)(hX:(aV bH).1=some (XS.map (fun x=>x.it)))(pay:aP)(hG:p.sJ pay=some p')(fa:Addr)(fc:Nat)(FB:List UInt8)(SL:FB=bT fU (bJ pay))(hr:Rd w (.slice (some fa) FB.length fc) FB):
  Calls Tryz.prog 23 #[.pointer (some ⟨g.b,0,none⟩),.int .i64 1,.agg #[.int .i64 g.o9,.slice (some fa) FB.length fc],.int .i64 0] w (fun e w'=>e=.returned (.bool true)∧∃ g',mg lo XC XS w g p' w' g'):=by
 unfold WP.sJ at hG
 split at hG
 ·rename_i hB
  obtain rfl:=Option.some.inj hG
  unfold WP.hsB at hB
  simp only[Bool.and_eq_true,Bool.or_eq_true,decide_eq_true_eq] at hB
  obtain⟨⟨⟨⟨⟨h1,h2⟩,h3⟩,h4⟩,h5⟩,h6⟩:=hB
  obtain⟨hok,hwl,hdz,hnb⟩:=Io h1
  obtain⟨O7,hAn⟩:=Iq h2
  have hAC:g.o9=g.qU:=by rw[h.gC,h.gS];exact h3
  have hlen:FB.length=(bJ pay).length+5:=by rw[SL];exact uU wG _
  have hpos:=vK pay
  have htk:∀ s,g.sg.aT=some s→s.token=pay.token:=fun s hs=>by
   exact of_decide_eq_true (Ip h5 s.o (by rw[← h.s];exact acD hs))
  have eW:g.sg.W=p.W:=h.wld.vM.1.trans h.gW
  have hW8:g.sg.W≤1000:=by rw[eW];have:=h.cf.2.2;omega
  have hSs:YU g.sg.st:=by rw[h.s];exact O7
  have hAs:∀ o,g.sg.st.aT=some o→o.answers.length≤1000:=fun o ho=>(hAn o (by rw[← h.s];exact ho)).2
  rw[hAC]
  refine(acu h.wld h.hl pay (g.sg.st.take Ij g.sg.W pay) fa fc FB hr (by omega) (fun w2 a c hb hB2=>?_)).mono ?_
  ·refine Wh (h.wld.srv.below hb) pay hok (by omega) g.qU (by rw[h.s,h.gS];exact h4) a c FB hB2.rd (by omega) (Nw hB2) (by rw[SL];exact wo wG _ (pK.2 ⟨hpos,hwl⟩)) (fun w3 hb3=>?_)
   have hS3:=(h.wld.srv.below hb).below hb3
   have hl3:lo≤w3.heap.size:=Nat.le_trans h.hl (Nat.le_trans hb.size hb3.size)
   have hst3:=(h.ss.below hb).below hb3
   obtain⟨kd,tk,ss,nb,ps,dt⟩:=pay
   have efr:g.sg.fresh.st=ND p.s:=by rw[SG.ny,h.s];rfl
   rcases h6 with((⟨h6,h7⟩ | h6) | ⟨⟨h6,h8⟩,h7⟩) | ⟨h6,h8⟩
   ·obtain rfl:kd=0:=h6
    exact Zy hS3 Ij hl3 hSs.nn.1 (by
     rcases Option.eq_none_or_eq_some g.sg.aT with e | ⟨s,e⟩
     ·exact e
     ·have:=acD e
      rw[h.s] at this
      rw[this] at h7;cases h7) tk ss nb ps dt
   ·obtain rfl:kd=1:=h6
    exact acd hS3 Ij hSs.toSSp hW8 tk ss nb ps dt htk
   ·obtain rfl:kd=3:=h6
    obtain⟨q,hq1,hq2⟩:=List.any_eq_true.1 h7
    rcases Option.eq_none_or_eq_some g.sg.aT with e | ⟨s,e⟩
    ·exfalso
     have e1:g.sg.fresh.st.aT=none:=by rw[SG.kP e];unfold SG.st;rw[e];rfl
     rw[efr] at e1
     unfold SP.request SP.aW at h8
     rw[e1] at h8
     cases h8
    ·exact Zz hS3 Ij hl3 hst3 hSs.toSSp hW8 hSs.nn.2.2 e tk ss nb ps dt (by have:nb≤1000000:=hnb;omega) ((qOk hX hq1).call (of_decide_eq_true hq2).symm) htk (by rw[efr,eW];exact h8)
   ·obtain rfl:kd=5:=h6
    rcases Option.eq_none_or_eq_some g.sg.aT with e | ⟨s,e⟩
    ·exfalso
     have e1:g.sg.fresh.st.aT=none:=by rw[SG.kP e];unfold SG.st;rw[e];rfl
     rw[efr] at e1
     unfold SP.oI at h8
     rw[e1] at h8
     cases h8
    ·exact ZA hS3 Ij hSs.toSSp hW8 hAs e tk ss nb ps dt htk (by rw[efr];exact h8)
  ·rintro e w' ⟨rfl,g',hh⟩
   exact⟨rfl,g',h.to hh (by rw[h.st,h.s,eW]) h.cf⟩
 ·cases hG
theorem acG{lo:Nat}{XC XS:List aO}{w:World}{g:WG}{p p':WP}(h:jh lo XC XS w g p)(hX:(aV bH).1=some (XC.map (fun x=>x.it)))(pay:aP)(hG:p.sK pay=some p')(fa:Addr)(fc:Nat)(FB:List UInt8)(SL:FB=bT fU (bJ pay))(hr:Rd w (.slice (some fa) FB.length fc) FB):
  Calls Tryz.prog 23 #[.pointer (some ⟨g.b,0,none⟩),.int .i64 0,.agg #[.int .i64 g.qU,.slice (some fa) FB.length fc],.int .i64 0] w (fun e w'=>e=.returned (.bool true)∧∃ g',mg lo XC XS w g p' w' g'):=by
 unfold WP.sK at hG
 split at hG
 ·rename_i hB
  obtain rfl:=Option.some.inj hG
  unfold WP.hcB at hB
  simp only[Bool.and_eq_true,Bool.or_eq_true,decide_eq_true_eq,List.all_eq_true,Bool.not_eq_true',decide_eq_false_iff_not] at hB
  obtain⟨⟨⟨⟨h1,h2⟩,h3⟩,h4⟩,h6⟩:=hB
  obtain⟨hok,hwl,hdz,hnb⟩:=Io h1
  obtain⟨O7,hSt,_⟩:=Dx h2
  have hAC:g.qU=g.o9:=by rw[h.gC,h.gS];exact h3.symm
  have hlen:FB.length=(bJ pay).length+5:=by rw[SL];exact uU wG _
  have hpos:=vK pay
  have eq:g.cg.st.take (dU XC) g.cg.R pay=p.c.take Zk p.R pay:=by
   rw[h.c]
   refine WY _ _ ?_
   rcases h6 with((h6 | h6) | h6) | ⟨h6,h7⟩
   ·exact Or.inl h6
   ·exact Or.inr (Or.inl h6)
   ·exact Or.inr (Or.inr (Or.inl h6))
   ·refine Or.inr (Or.inr (Or.inr ⟨h6,fun o ho hr=>?_⟩))
    rcases h7 o ho with h8 | h8
    ·exact absurd hr h8
    ·rw[ByteArray.toList_eq]
     exact(Zx hX h8).symm
  rw[hAC]
  refine(acw h.wld h.hl pay (g.cg.st.take (dU XC) g.cg.R pay) fa fc FB hr (by omega) (fun w2 a c hb hB2=>?_)).mono ?_
  ·have hS2:vS g.cg.st:=by rw[h.c];exact O7
   have hsg:∀ s∈g.cg.st.streams,s.got≤1000000000000∧s.values.length≤1000:=fun s hs=>by rw[h.c,hSt] at hs;cases hs
   refine SK (h.wld.cli.below hb) pay hok (by omega) g.o9 (by rw[h.c,h.gC];exact h4) a c FB hB2.rd (by omega) (Nw hB2) (by rw[SL];exact wo wG _ (pK.2 ⟨hpos,hwl⟩)) (fun w3 hb3=>?_)
   have ZB:=(h.wld.cli.below hb).below hb3
   have hl3:lo≤w3.heap.size:=Nat.le_trans h.hl (Nat.le_trans hb.size hb3.size)
   have hst3:=(h.sc.below hb).below hb3
   obtain⟨pl,hi⟩:=hst3.i
   obtain⟨la,lc,hiv⟩:∃ a c,g.cg.iv=.slice a XC.length c:=ay hi.own
   rw[hiv] at hst3
   obtain⟨kd,tk,ss,nb,ps,dt⟩:=pay
   have hnb':nb≤1000000000000:=by have:nb≤1000000:=hnb;omega
   have ZC:dt.size≤1000:=by have:dt.size≤79:=hdz;omega
   rcases h6 with((h6 | h6) | h6) | ⟨h6,_⟩
   ·obtain rfl:kd=6:=h6
    exact ab5 ZB hS2 hl3 la _ lc hiv hst3 hsg tk ss nb ps dt hnb' ZC
   ·obtain rfl:kd=7:=h6
    exact ab6 ZB hS2 hl3 la _ lc hiv hst3 hsg tk ss nb ps dt hnb' ZC
   ·obtain rfl:kd=13:=h6
    exact Y6 ZB hS2 hl3 la _ lc hiv hst3 hsg tk ss nb ps dt hnb' ZC
   ·obtain rfl:kd=12:=h6
    exact Y7 ZB hS2 hl3 la _ lc hiv hst3 hsg tk ss nb ps dt hnb' ZC
  ·rintro e w' ⟨rfl,g',hh⟩
   exact⟨rfl,g',h.to hh (by rw[h.st,eq]) h.cf⟩
 ·cases hG
theorem CG.acH(g:CG)(L:List aP)(k:Nat)(h:Key ({ g with L:=L }:CG).res k):Key g.res k:=by
 unfold CG.res at h ⊢
 rcases Key.app.1 h with h | h
 ·exact Key.app.2 (Or.inl h)
 ·rcases Key.app.1 h with h | h
  ·refine Key.app.2 (Or.inr (Key.app.2 (Or.inl ?_)))
   unfold CG.aQ at h ⊢
   rcases Key.app.1 h with h | h
   ·exact Key.app.2 (Or.inl ((Key.one (a:=qJ g.q g.L)).2 (show k=g.q from(Key.one (a:=qJ g.q L)).1 h)))
   ·exact Key.app.2 (Or.inr ((Key.one (a:=kG g.m g.L)).2 (show k=g.m from(Key.one (a:=kG g.m L)).1 h)))
  ·exact Key.app.2 (Or.inr (Key.app.2 (Or.inr h)))
theorem SG.acH(g:SG)(L:List aP)(k:Nat)(h:Key ({ g with L:=L }:SG).res k):Key g.res k:=by
 unfold SG.res at h ⊢
 rcases Key.app.1 h with h | h
 ·exact Key.app.2 (Or.inl h)
 ·rcases Key.app.1 h with h | h
  ·refine Key.app.2 (Or.inr (Key.app.2 (Or.inl ?_)))
   unfold SG.aQ at h ⊢
   rcases Key.app.1 h with h | h
   ·exact Key.app.2 (Or.inl ((Key.one (a:=qJ g.q g.L)).2 (show k=g.q from(Key.one (a:=qJ g.q L)).1 h)))
   ·exact Key.app.2 (Or.inr ((Key.one (a:=kG g.m g.L)).2 (show k=g.m from(Key.one (a:=kG g.m L)).1 h)))
  ·exact Key.app.2 (Or.inr (Key.app.2 (Or.inr h)))
theorem WG.aj8(g:WG)(k:Nat)(h:Key ({ g with cg:={ g.cg with L:=[] } }:WG).res k):Key g.res k:=by
 have h:Key (g.o7++(g.dX++(g.aU++(g.sg.res++(({ g.cg with L:=[] }:CG).res++g.rest))))) k:=h
 unfold WG.res
 simp only[Key.app] at h ⊢
 rcases h with h | h | h | h | h | h
 ·exact Or.inl h
 ·exact Or.inr (Or.inl h)
 ·exact Or.inr (Or.inr (Or.inl h))
 ·exact Or.inr (Or.inr (Or.inr (Or.inl h)))
 ·exact Or.inr (Or.inr (Or.inr (Or.inr (Or.inl (CG.acH _ _ _ h)))))
 ·exact Or.inr (Or.inr (Or.inr (Or.inr (Or.inr h))))
theorem WG.keyS(g:WG)(k:Nat)(h:Key ({ g with sg:={ g.sg with L:=[] } }:WG).res k):Key g.res k:=by
 have h:Key (g.o7++(g.dX++(g.aU++(({ g.sg with L:=[] }:SG).res++(g.cg.res++g.rest))))) k:=h
 unfold WG.res
 simp only[Key.app] at h ⊢
 rcases h with h | h | h | h | h | h
 ·exact Or.inl h
 ·exact Or.inr (Or.inl h)
 ·exact Or.inr (Or.inr (Or.inl h))
 ·exact Or.inr (Or.inr (Or.inr (Or.inl (SG.acH _ _ _ h))))
 ·exact Or.inr (Or.inr (Or.inr (Or.inr (Or.inl h))))
 ·exact Or.inr (Or.inr (Or.inr (Or.inr (Or.inr h))))
structure WZ(lo:Nat)(XC XS:List aO)(w:World)(g:WG)(q:WP)(L:List aP)(v:Value)(w':World)(g':WG):Prop where
 ls:∃ vs,Ec w' w.heap.size v vs (L.map (fun p=>bT fU (bJ p)))
 ft:mg lo XC XS w g q w' g'
 key:∀ k,Key g'.res k→k<w.heap.size
def Px(lo:Nat)(XC XS:List aO)(w:World)(g:WG)(q:WP)(L:List aP)(e:Ending)(w':World):Prop:=∃ (a:Option Addr) (c:Nat) (g':WG),e=.returned (.slice a L.length c)∧WZ lo XC XS w g q L (.slice a L.length c) w' g'
theorem af5{lo:Nat}{XC XS:List aO}{w:World}{g:WG}{p:WP}(h:jh lo XC XS w g p)(hB:KI p.c.L=true):
  Calls Tryz.prog 22 #[.pointer (some ⟨g.cb,0,none⟩)] w (Px lo XC XS w g p.PN p.c.L):=by
 obtain⟨h1,h2⟩:=Au hB
 have hC:=cOut h.wld.cli (by rw[h.cL];exact h2) (by rw[h.cL];exact h1)
 have hW:=afN w g.cb g.cg.b (h.wld.aU.cell 0) (fun v w'=>∃ vs,Ec w' w.heap.size v vs (p.c.L.map (fun p=>bT fU (bJ p)))∧gG lo w g.cg { g.cg.st with L:=[] } w' { g.cg with L:=[] }) (by
  refine hC.mono ?_
  rintro e w' ⟨v,vs,rfl,hl,ht⟩
  rw[h.cL] at hl
  obtain⟨a,c,hv⟩:=ay hl.own
  exact⟨a,_,c,by rw[hv],vs,by rw[← hv];exact hl,ht⟩)
 refine hW.mono ?_
 rintro e w' ⟨a,n,c,rfl,vs,hl,ht⟩
 obtain⟨a',c',hv⟩:=ay hl.own
 have hn:n=p.c.L.length:=by have:=(Value.slice.inj hv).2.1;simpa using this
 subst hn
 refine⟨a,c,_,rfl,⟨vs,hl⟩,h.to (h.wld.oL ht) (by rw[h.st,h.c];rfl) h.cf,fun k hk=>(h.wld.has.lt (g.aj8 k hk)).2⟩
theorem af6{lo:Nat}{XC XS:List aO}{w:World}{g:WG}{p:WP}(h:jh lo XC XS w g p)(hB:KI p.s.L=true):
  Calls Tryz.prog 24 #[.pointer (some ⟨g.sb,0,none⟩)] w (Px lo XC XS w g p.PO p.s.L):=by
 obtain⟨h1,h2⟩:=Au hB
 have hC:=ajk h.wld.srv (by rw[h.sL];exact h2) (by rw[h.sL];exact h1)
 have hW:=afO w g.sb g.sg.b (h.wld.dX.cell 0) (fun v w'=>∃ vs,Ec w' w.heap.size v vs (p.s.L.map (fun p=>bT fU (bJ p)))∧dV lo w g.sg { g.sg.st with L:=[] } w' { g.sg with L:=[] }) (by
  refine hC.mono ?_
  rintro e w' ⟨v,vs,rfl,hl,ht⟩
  rw[h.sL] at hl
  obtain⟨a,c,hv⟩:=ay hl.own
  exact⟨a,_,c,by rw[hv],vs,by rw[← hv];exact hl,ht⟩)
 refine hW.mono ?_
 rintro e w' ⟨a,n,c,rfl,vs,hl,ht⟩
 obtain⟨a',c',hv⟩:=ay hl.own
 have hn:n=p.s.L.length:=by have:=(Value.slice.inj hv).2.1;simpa using this
 subst hn
 refine⟨a,c,_,rfl,⟨vs,hl⟩,h.to (h.wld.lK ht) (by rw[h.st,h.s];rfl) h.cf,fun k hk=>(h.wld.has.lt (g.keyS k hk)).2⟩
theorem WZ.frame{lo:Nat}{XC XS:List aO}{w w' wq:World}{g g' gq:WG}{q pq:WP}{L:List aP}{a:Option Addr}{c:Nat}(h:WZ lo XC XS w g q L (.slice a L.length c) w' g')(k:mg lo XC XS w' g' pq wq gq){j:Nat}{pay:aP}(hj:L[j]? = some pay):
  ∃ lb fa fc,a=some ⟨lb,0,none⟩∧wq.cell? ⟨lb,j,none⟩=some (.slice (some fa) (bT fU (bJ pay)).length fc)∧Rd wq (.slice (some fa) (bT fU (bJ pay)).length fc) (bT fU (bJ pay)):=by
 obtain⟨vs,hl⟩:=h.ls
 have hq:Ec wq w.heap.size (.slice a L.length c) vs (L.map (fun p=>bT fU (bJ p))):=hl.same (fun i h1 h2=>k.grow.c.block i h2 (fun e=>by have:=h.key i e;omega))
 have hjl:j<L.length:=(List.getElem?_eq_some_iff.1 hj).1
 obtain⟨u,hu,hB⟩:=hq.at (i:=j) (by simpa using hjl)
 have hF:(L.map (fun p=>bT fU (bJ p)))[j]'(by simpa using hjl)=bT fU (bJ pay):=by
  have:=(List.getElem?_eq_some_iff.1 hj).2
  simp[this]
 rw[hF] at hB
 obtain⟨lb,cap,hv,_⟩:=iJ hq.own (by simp;omega)
 obtain⟨fb,aj9,hv2,_⟩:=iJ hB (by simp[bT])
 subst hv2
 obtain⟨rfl,_⟩:a=some ⟨lb,0,none⟩∧True:=⟨(Value.slice.inj hv).1,trivial⟩
 refine⟨lb,⟨fb,0,none⟩,aj9,rfl,?_,?_⟩
 ·have:=hq.own.cells (g:=lb) rfl j _ hu
  rw[fE _ _ rfl] at this
  simpa using this
 ·simpa using hB.rd
theorem KT{p p':WP}{b:Bool}(h:p.KJ=some (p',b)):∃ p1,KI p.c.L=true∧bY WP.sJ p.PN p.c.L=some p1∧KI p1.s.L=true∧bY WP.sK p1.PO p1.s.L=some p'∧b=(p.c.L.isEmpty&&p1.s.L.isEmpty):=by
 unfold WP.KJ at h
 split at h
 ·rename_i h1
  rcases Option.eq_none_or_eq_some (bY WP.sJ p.PN p.c.L) with e | ⟨p1,e⟩
  ·rw[e] at h;cases h
  ·rw[e,Option.bind_some] at h
   split at h
   ·rename_i h2
    rcases Option.eq_none_or_eq_some (bY WP.sK p1.PO p1.s.L) with e2 | ⟨p2,e2⟩
    ·rw[e2] at h;cases h
    ·rw[e2,Option.map_some] at h
     have:=Option.some.inj h
     exact⟨p1,h1,e,h2,by rw[e2,(Prod.mk.inj this).1],(Prod.mk.inj this).2.symm⟩
   ·cases h
 ·cases h
theorem KU{n:Nat}{p r:WP}(h:WP.nY n p=some r):∃ (m:Nat) (p':WP) (b:Bool),n=m+1∧p.KJ=some (p',b)∧((b=true∧p'=r)∨(b=false∧WP.nY m p'=some r)):=by
 cases n with
 | zero=>cases h
 | succ m=>
  unfold WP.nY at h
  rcases Option.eq_none_or_eq_some p.KJ with e | ⟨⟨p',b⟩,e⟩
  ·rw[e] at h;cases h
  ·rw[e] at h
   refine⟨m,p',b,rfl,e,?_⟩
   cases b with
   | true=>exact Or.inl ⟨rfl,Option.some.inj h⟩
   | false=>exact Or.inr ⟨rfl,h⟩
theorem aaO{lo:Nat}{XC XS:List aO}{w:World}{g:WG}{p r:WP}(h:jh lo XC XS w g p)(hXC:(aV bH).1=some (XC.map (fun x=>x.it)))(SN:(aV bH).1=some (XS.map (fun x=>x.it)))(hE:WP.nY 51 p=some r):
  Calls Tryz.prog 9 #[.pointer (some ⟨g.b,0,none⟩)] w (fun e w'=>e=.returned (.bool true)∧∃ g',mg lo XC XS w g r w' g'):=by
 have ZE:=hid hXC
 have ZF:=hid SN
 have HE0:=hid hE
 have H:=hid h
 clear h hXC SN hE
 go_enter func9,ntmps9
 go_wp2_with fail
 go_loopg [3] 51 (fun gk i wr=>∃ (k:Nat) (pk:WP) (gg:WG),k+gk=51∧i=.int .i64 k∧Hid (WP.nY gk pk=some r)∧Hid (mg lo XC XS w g pk wr gg))
 case atStart=>exact⟨0,p,g,rfl,rfl,HE0,hid (mg.refl H.out (Below.refl _ _))⟩
 case round=>
  obtain⟨k,pk,gg,hk,rfl,HE,HT⟩:=hrel
  obtain⟨m,p2,b,hm,htG,hrest⟩:=KU HE.out
  obtain⟨p1,ho1,hf1,ho2,hf2,hb⟩:=KT htG
  have W9:=hid hrest
  have HB:=hid hb
  have HF1:=hid hf1
  have HF2:=hid hf2
  have Vu:=hid ho2
  have hkI:(k:Int)≤50:=by omega
  have HM:=hid hm
  have HKK:=hid hk
  have eb:gg.b=g.b:=HT.out.b
  have k1:wr.cell? ⟨g.b,1,none⟩=some (.pointer (some ⟨gg.cb,0,none⟩)):=by rw[← eb];exact HT.out.jO.wld.blk.cell 1
  have wO:=hid (af5 HT.out.jO ho1)
  have h60:=(Au ho1).1
  have EB:=hid eb
  clear hrest hb hf1 hf2 ho1 ho2 htG hm hk eb
  go_wp2_with fail
  refine wO.out.mono ?_;rintro e w2 ⟨la,lc,g2,rfl,hO⟩
  have HO:=hid hO
  clear hO
  have EB2:=hid (HO.out.ft.b.trans EB.out)
  obtain⟨N,hN⟩:∃ N,pk.c.L.length=N:=⟨_,rfl⟩
  rw[hN] at h60 ⊢
  have HN:=hid hN
  clear hN
  go_wp2_with fail
  go_loopg [5] N (fun gj kv wq=>∃ (j:Nat) (pj:WP) (gj':WG),j+gj=N∧kv=.int .i64 j∧Hid (bY WP.sJ pk.PN (pk.c.L.take j)=some pj)∧Hid (mg lo XC XS w2 g2 pj wq gj'))
  case atStart=>exact⟨0,pk.PN,g2,by omega,rfl,hid rfl,hid (mg.refl HO.out.ft.jO (Below.refl _ _))⟩
  case round=>
   obtain⟨j,pj,gj',hj,rfl,HFj,nZ⟩:=hrel
   by_cases hlt:j<N
   ·obtain⟨pay,hpay⟩:∃ pay,pk.c.L[j]? = some pay:=⟨_,List.getElem?_eq_getElem (by rw[HN.out];exact hlt)⟩
    obtain⟨pj2,hs1,hs2⟩:=jI HF1.out hpay HFj.out
    obtain⟨lb,fa,fc,rfl,hcell,hrd⟩:=HO.out.frame nZ.out hpay
    obtain⟨FB,SL⟩:∃ FB,bT fU (bJ pay)=FB:=⟨_,rfl⟩
    rw[SL] at hcell hrd
    have HC5:=hid (acF nZ.out.jO.drew ZF.out pay hs1 fa fc FB SL.symm (show Rd wr.drew _ _ from hrd))
    rw[nZ.out.b,EB2.out] at HC5
    have k6:wr.cell? ⟨g.b,6,none⟩=some (.int .i64 gj'.o9):=by
     have:=nZ.out.jO.wld.blk.cell 6
     rw[nZ.out.b,EB2.out] at this
     exact this
    have fO:(j:Int)<(N:Int):=by omega
    have HS2:=hid hs2
    clear hs1 hs2 hrd hpay SL
    go_wp2_with fail
    go_region_with (go_at_call 23;refine HC5.out.mono ?_;rintro e w5 ⟨rfl,g5,h5⟩)
    all_goals
     have OY:=hid ((nZ.out.below (Below.refl _ wr).drew).trans h5)
     clear h5
     go_wp2_with fail
     go_roundg (gk-1)
     case rel=>exact⟨j+1,pj2,g5,by omega,by go_num,HS2,OY⟩
     case measure=>omega
   ·have fO:¬ (j:Int)<(N:Int):=by omega
    obtain rfl:=kQ HF1.out (by rw[HN.out];omega) HFj.out
    have HC6:=hid (af6 nZ.out.jO Vu.out)
    have k0:wr.cell? ⟨g.b,0,none⟩=some (.pointer (some ⟨gj'.sb,0,none⟩)):=by
     have:=nZ.out.jO.wld.blk.cell 0
     rw[nZ.out.b,EB2.out] at this
     exact this
    have m60:=(Au Vu.out).1
    go_wp2_with fail
    refine HC6.out.mono ?_;rintro e w6 ⟨ma,mc,g6,rfl,hO6⟩
    have HO6:=hid hO6
    clear hO6
    have EB6:=hid (HO6.out.ft.b.trans (nZ.out.b.trans EB2.out))
    obtain⟨M,hM⟩:∃ M,pj.s.L.length=M:=⟨_,rfl⟩
    rw[hM] at m60 ⊢
    have Ym:=hid hM
    clear hM
    go_wp2_with fail
    go_loopg [8] M (fun gi kv wy=>∃ (i:Nat) (pi:WP) (gi':WG),i+gi=M∧kv=.int .i64 i∧Hid (bY WP.sK pj.PO (pj.s.L.take i)=some pi)∧Hid (mg lo XC XS w6 g6 pi wy gi'))
    case atStart=>exact⟨0,pj.PO,g6,by omega,rfl,hid rfl,hid (mg.refl HO6.out.ft.jO (Below.refl _ _))⟩
    case round=>
     obtain⟨i,pi,gi',hi,rfl,HFi,HTi⟩:=hrel
     by_cases hlt2:i<M
     ·obtain⟨pay,hpay⟩:∃ pay,pj.s.L[i]? = some pay:=⟨_,List.getElem?_eq_getElem (by rw[Ym.out];exact hlt2)⟩
      obtain⟨pi2,hs1,hs2⟩:=jI HF2.out hpay HFi.out
      obtain⟨lb,fa,fc,rfl,hcell,hrd⟩:=HO6.out.frame HTi.out hpay
      obtain⟨FB,SL⟩:∃ FB,bT fU (bJ pay)=FB:=⟨_,rfl⟩
      rw[SL] at hcell hrd
      have HC5:=hid (acG HTi.out.jO.drew ZE.out pay hs1 fa fc FB SL.symm (show Rd wr.drew _ _ from hrd))
      rw[HTi.out.b,EB6.out] at HC5
      have k7:wr.cell? ⟨g.b,7,none⟩=some (.int .i64 gi'.qU):=by
       have:=HTi.out.jO.wld.blk.cell 7
       rw[HTi.out.b,EB6.out] at this
       exact this
      have akb:(i:Int)<(M:Int):=by omega
      have HS2:=hid hs2
      clear hs1 hs2 hrd hpay SL
      go_wp2_with fail
      go_region_with (go_at_call 23;refine HC5.out.mono ?_;rintro e w7 ⟨rfl,g7,h7⟩)
      all_goals
       have Xv:=hid ((HTi.out.below (Below.refl _ wr).drew).trans h7)
       clear h7
       go_wp2_with fail
       go_roundg (gk-1)
       case rel=>exact⟨i+1,pi2,g7,by omega,by go_num,HS2,Xv⟩
       case measure=>omega
     ·have akb:¬ (i:Int)<(M:Int):=by omega
      obtain rfl:=kQ HF2.out (by rw[Ym.out];omega) HFi.out
      have HTE:=hid (((HT.out.trans HO.out.ft).trans nZ.out).trans (HO6.out.ft.trans HTi.out))
      have b1:¬ (60:Int)<(N:Int):=by omega
      have b2:¬ (60:Int)<(M:Int):=by omega
      by_cases hN0:N=0
      ·have b3:((N:Int)==0)=true:=by simp;omega
       by_cases hM0:M=0
       ·have b4:((M:Int)==0)=true:=by simp;omega
        have zV:=hid (show pi=r by
         have e1:pk.c.L=[]:=List.length_eq_zero_iff.1 (HN.out.trans hN0)
         have e2:pj.s.L=[]:=List.length_eq_zero_iff.1 (Ym.out.trans hM0)
         rcases W9.out with⟨_,e⟩ | ⟨e,_⟩
         ·exact e
         ·rw[HB.out,e1,e2] at e;cases e)
        clear hN0 hM0
        go_wp2_with fail
        go_ret
        exact⟨rfl,gi',by rw[← zV.out];exact HTE.out⟩
       ·have b4:((M:Int)==0)=false:=by simp;omega
        have zV:=hid (show WP.nY m pi=some r by
         have e2:pj.s.L.isEmpty=false:=by
          cases hL:pj.s.L with
          | nil=>have:=Ym.out;rw[hL] at this;exact absurd this.symm hM0
          | cons a l=>rfl
         rcases W9.out with⟨e,_⟩ | ⟨_,e⟩
         ·rw[HB.out,e2,Bool.and_false] at e;cases e
         ·exact e)
        clear hN0 hM0
        go_wp2_with fail
        go_roundg m
        case rel=>exact⟨k+1,pi,gi',by have:=HKK.out;have:=HM.out;omega,by go_num,zV,HTE⟩
        case measure=>have:=HM.out;omega
      ·have b3:((N:Int)==0)=false:=by simp;omega
       have zV:=hid (show WP.nY m pi=some r by
        have e2:pk.c.L.isEmpty=false:=by
         cases hL:pk.c.L with
         | nil=>have:=HN.out;rw[hL] at this;exact absurd this.symm hN0
         | cons a l=>rfl
        rcases W9.out with⟨e,_⟩ | ⟨_,e⟩
        ·rw[HB.out,e2,Bool.false_and] at e;cases e
        ·exact e)
       clear hN0
       go_wp2_with fail
       go_roundg m
       case rel=>exact⟨k+1,pi,gi',by have:=HKK.out;have:=HM.out;omega,by go_num,zV,HTE⟩
       case measure=>have:=HM.out;omega
theorem SP.NK{s:SP}{id i0:Nat}{y:zK}{d:List UInt8}(h:s.owed.find? (fun x=>decide (x.1=id))=some (i0,y)):(s.reply id d).owed=s.owed.filter (fun x=>!decide (x.1=id)):=by
 unfold SP.reply
 rw[h]
 simp only
 rcases Option.eq_none_or_eq_some s.aT with e | ⟨o,e⟩
 ·rw[e]
 ·rw[e]
  simp only
  split
  ·split<;>rfl
  ·rfl
theorem SQ(l:List (Nat × zK))(id:Nat):(l.filter (fun x=>!decide (x.1=id))).find? (fun x=>decide (x.1=id))=none:=by
 rw[List.find?_eq_none]
 intro x hx
 have:=(List.mem_filter.1 hx).2
 simpa using this
theorem acK{lo:Nat}{XC XS:List aO}{w:World}{g:WG}{p p':WP}(h:jh lo XC XS w g p)(hX:(aV bH).1=some (XS.map (fun x=>x.it)))(i:Nat)(hR:p.vN i=some p'):
  Calls Tryz.prog 28 #[.pointer (some ⟨g.b,0,none⟩),.int .i64 i] w (fun e w'=>e=.returned (.bool true)∧∃ g',mg lo XC XS w g p' w' g'):=by
 unfold WP.vN at hR
 rcases Option.eq_none_or_eq_some p.calls[i]? with e | ⟨x,ex⟩
 ·rw[e] at hR;cases hR
 rcases Option.eq_none_or_eq_some qN[i]? with e | ⟨q,eq⟩
 ·rw[ex,e] at hR;cases hR
 rw[ex,eq] at hR
 simp only at hR
 split at hR
 ·rename_i hB
  simp only[Bool.and_eq_true,decide_eq_true_eq] at hB
  obtain⟨⟨⟨h1,h2⟩,h3⟩,h4⟩:=hB
  rcases Option.eq_none_or_eq_some (p.s.owed.find? (fun y=>decide (y.1=x.id.toNat))) with e | ⟨⟨i0,y⟩,ey⟩
  ·rw[e] at hR;cases hR
  rcases Option.eq_none_or_eq_some p.s.aT with e | ⟨o,eo⟩
  ·rw[ey,e] at hR;cases hR
  rw[ey,eo] at hR
  simp only at hR
  split at hR
  ·rename_i hB
   obtain rfl:=Option.some.inj hR
   simp only[Bool.and_eq_true,decide_eq_true_eq] at hB
   obtain⟨⟨h5,h6⟩,h7⟩:=hB
   obtain⟨O7,hAn⟩:=Iq h1
   have hQ:=qOk hX (KQ eq)
   obtain⟨hi8,hv0,hv1,hav⟩:=acE eq
   have eow:g.sg.owed=p.s.owed:=congrArg SP.owed h.s
   have SS:g.sg.st.aT=some o:=by rw[h.s];exact eo
   obtain⟨s,hs,hso⟩:∃ s,g.sg.aT=some s∧s.o=o:=by
    rcases Option.eq_none_or_eq_some g.sg.aT with e | ⟨s,e⟩
    ·unfold SG.st at SS;rw[e] at SS;cases SS
    ·unfold SG.st at SS;rw[e] at SS;exact⟨s,e,Option.some.inj SS⟩
   have hst:s.token=y.token:=(congrArg IU.token hso).trans h6
   have hsn:s.number=y.session:=(congrArg IU.number hso).trans h7
   have hsa:s.answers.length≤1000000:=by
    have:=(hAn o eo).2
    have e:s.answers=o.answers:=congrArg IU.answers hso
    rw[e];omega
   have hR1:∀ w1,Below w.heap.size w w1→Calls Tryz.prog 65 #[.pointer (some ⟨g.sg.b,0,none⟩),.int .i64 x.id.toNat,.string q.av] w1 (fun e w'=>e=.returned (.int .i64 0)∧∃ g',dV lo w1 g.sg (g.sg.st.reply x.id.toNat q.ad) w' g'):=fun w1 hb=>
    Wy (h.wld.srv.below hb) (Nat.le_trans h.hl hb.size) (h.ss.below hb) (by rw[h.s];exact O7) x.id.toNat q.av (by have:=hQ.le.2.2.2;unfold maxLen;omega) (by rw[eow];exact ey) q.ad (by rw[h5];exact hQ.aj1) hs hst hsn hsa
   have hR2:∀ w2 DU,Srv lo w2 DU→DU.st=g.sg.st.reply x.id.toNat q.ad→Calls Tryz.prog 65 #[.pointer (some ⟨DU.b,0,none⟩),.int .i64 x.id.toNat,.string q.av] w2 (fun e w'=>e=.returned (.int .i64 16)∧Below w2.heap.size w2 w'):=fun w2 DU hS2 hq2=>
    Wx hS2 x.id.toNat q.av (by
     have e1:DU.owed=(g.sg.st.reply x.id.toNat q.ad).owed:=congrArg SP.owed hq2
     rw[e1,h.s,SP.NK ey]
     exact SQ _ _)
   have hxi:x.id=((x.id.toNat:Nat):Int):=by omega
   have hx:g.calls[i]? = some x:=by rw[h.eP];exact ex
   have fin:∀ g' w',mF lo w g { g.st with s:=g.sg.st.reply x.id.toNat q.ad,calls:=g.calls.set i { x with answer:=q.av } } w' g'→mg lo XC XS w g { p with s:=p.s.reply x.id.toNat q.ad,calls:=p.calls.set i { x with answer:=q.av } } w' g':=fun g' w' hh=>h.to hh (by rw[h.st,h.s,h.eP]) h.cf
   by_cases hpar:i % 2=0
   ·obtain⟨a1,a2,a3⟩:=hv0 hpar
    refine(Zr h.wld h.tab hx (by omega) (h2.trans a1) h3 x.id.toNat hxi q.av a3 _ hR1 hR2).mono ?_
    rintro e w' ⟨rfl,g',hh⟩
    exact⟨rfl,g',fin g' w' hh⟩
   ·obtain⟨a1,a2,a3⟩:=hv1 hpar
    refine(Zt h.wld h.tab hx (by omega) (h2.trans a1) h3 x.id.toNat hxi q.av a3 _ hR1 hR2).mono ?_
    rintro e w' ⟨rfl,g',hh⟩
    exact⟨rfl,g',fin g' w' hh⟩
  ·cases hR
 ·cases hR
structure Py(p p':WP)(q:Lp)(r:List Lp)(i:Nat)(x:uq):Prop where
 wt:p.s.waits=q::r
 at_:p.calls[i]? = some x
 neg:x.id<0
 bef:∀ (j:Nat) (y:uq),j<i→p.calls[j]? = some y→0≤y.id
 ss:ssB p.s=true
 nm:x.name=q.name
 vl:x.value=q.value
 gv:p.s.given=p.came
 ca:p.came≤1000000
 le:p.calls.length≤8
 rp:WP.vN { p with s:=p.s.next,calls:=p.calls.set i { x with id:=(p.came:Int) },came:=p.came+1 } i=some p'
theorem KW{p p':WP}{b:Bool}(h:p.FM=some (p',b)):(p.s.waits=[]∧p'=p∧b=false)∨(b=true∧∃ q r i x,Py p p' q r i x):=by
 unfold WP.FM at h
 cases hw:p.s.waits with
 | nil=>
  rw[hw] at h
  have:=Option.some.inj h
  exact Or.inl ⟨rfl,by rw[← (Prod.mk.inj this).1],(Prod.mk.inj this).2.symm⟩
 | cons q r=>
  rw[hw] at h
  simp only at h
  rcases Option.eq_none_or_eq_some (p.calls.findIdx? (fun x:uq=>decide (x.id<0))) with e | ⟨i,e⟩
  ·rw[e] at h;cases h
  ·rw[e] at h
   simp only at h
   obtain⟨hi,h1,h2⟩:=List.findIdx?_eq_some_iff_getElem.1 e
   have hx:p.calls[i]? = some p.calls[i]:=List.getElem?_eq_getElem hi
   rw[hx] at h
   simp only at h
   split at h
   ·rename_i hB
    simp only[Bool.and_eq_true,decide_eq_true_eq] at hB
    obtain⟨⟨⟨⟨⟨b1,b2⟩,b3⟩,b4⟩,b5⟩,b6⟩:=hB
    rcases Option.eq_none_or_eq_some (WP.vN { p with s:=p.s.next,calls:=p.calls.set i { p.calls[i] with id:=(p.came:Int) },came:=p.came+1 } i) with e3 | ⟨p3,e3⟩
    ·rw[e3] at h;cases h
    ·rw[e3] at h
     have:=Option.some.inj h
     refine Or.inr ⟨(Prod.mk.inj this).2.symm,q,r,i,p.calls[i],hw,hx,by simpa using h1,fun j y hj hy=>?_,b1,b2,b3,b4,b5,b6,by rw[e3,(Prod.mk.inj this).1]⟩
     have h3:=h2 j hj
     have hjl:j<p.calls.length:=by omega
     rw[List.getElem?_eq_getElem hjl] at hy
     obtain rfl:=Option.some.inj hy
     simpa using h3
   ·cases h
theorem Xa{lo:Nat}{XC XS:List aO}{w:World}{g:WG}{p p':WP}{q:Lp}{r:List Lp}{i:Nat}{x:uq}(h:jh lo XC XS w g p)(SN:(aV bH).1=some (XS.map (fun x=>x.it)))(hY:Py p p' q r i x):
  Calls Tryz.prog 11 #[.pointer (some ⟨g.b,0,none⟩),.bool true] w (fun e w'=>e=.returned (.tuple #[.bool true,.bool true])∧∃ g',mg lo XC XS w g p' w' g'):=by
 have O7:YU g.sg.st:=by rw[h.s];exact(Iq hY.ss).1
 have hwt:g.sg.waits=q::r:=(congrArg SP.waits h.s).trans hY.wt
 have hgv:g.sg.given=p.came:=(congrArg SP.given h.s).trans hY.gv
 have k0:w.cell? ⟨g.b,0,none⟩=some (.pointer (some ⟨g.sb,0,none⟩)):=h.wld.blk.cell 0
 have HC:=hid (WB h.wld.srv g.sb (h.wld.dX.cell 0) h.wld.dX.lt (p.came:Int) x.name x.value true (q:=g.sg.st.next) (fun w1 hb1=>by
  have:=Wu (h.wld.srv.below hb1) (Nat.le_trans h.hl hb1.size) O7 hwt
  rw[hgv,← hY.nm,← hY.vl] at this
  exact this))
 have H:=hid h
 have HX:=hid SN
 have HY:=hid hY
 have hil:i<p.calls.length:=(List.getElem?_eq_some_iff.1 hY.at_).1
 have hl8:=hY.le
 have hca:=hY.ca
 clear h SN hY O7 hwt hgv
 go_enter func11,ntmps11
 go_wp2_with fail
 refine HC.out.mono ?_;rintro e w1 ⟨rfl,sg1,h1⟩
 have HT1:=hid (H.out.wld.lK h1)
 clear h1
 go_wp2_with fail
 have zW:Below w1.heap.size w1 (w1.alloc (.cells #[.int .i64 p.came,.string x.name,.string x.value] 70)):=(Below.refl _ _).alloc (Nat.le_refl _) _
 have kE:aK (w1.alloc (.cells #[.int .i64 p.came,.string x.name,.string x.value] 70)) w1.heap.size 70 [.int .i64 p.came,.string x.name,.string x.value]:=heap_alloc_new w1 _
 obtain⟨wq,Si⟩:∃ wq,w1.alloc (.cells #[.int .i64 p.came,.string x.name,.string x.value] 70)=wq:=⟨_,rfl⟩
 rw[Si] at zW kE ⊢
 have q0:wq.cell? ⟨w1.heap.size,0,none⟩=some (.int .i64 p.came):=kE.cell 0
 have q1:wq.cell? ⟨w1.heap.size,1,none⟩=some (.string x.name):=kE.cell 1
 have q2:wq.cell? ⟨w1.heap.size,2,none⟩=some (.string x.value):=kE.cell 2
 have Aj:=hid (show ¬ Key ({ g with sg:=sg1 }:WG).res w1.heap.size from HT1.out.wld.lM)
 have HBQ:=hid kE
 have HTq:=hid (HT1.out.below zW)
 clear zW kE Si
 obtain⟨ca,cc,hcv⟩:=HTq.out.wld.ra.slice
 have NM:g.calls=p.calls:=H.out.eP
 have Jc:wq.cell? ⟨g.b,17,none⟩=some (.slice ca p.calls.length cc):=(show wq.cell? ⟨g.b,17,none⟩=some g.kX from HTq.out.wld.blk.cell 17).trans (by rw[show g.kX=_ from hcv];show some (Value.slice ca g.calls.length cc)=_;rw[NM])
 obtain⟨N,hN⟩:∃ N,p.calls.length=N:=⟨_,rfl⟩
 rw[hN] at Jc hil hl8
 have HN:=hid hN
 have uI:=hid hcv
 have HEC:=hid NM
 clear hN hcv NM
 go_wp2_with fail
 go_loopg [8] i (fun gk iv wr=>∃ k:Nat,k+gk=i∧iv=.int .i64 k∧wr=wq)
 case atStart=>exact⟨0,by omega,rfl,rfl⟩
 case round=>
  obtain⟨k,hk,rfl,rfl⟩:=hrel
  by_cases hki:k<i
  ·obtain⟨y,hy⟩:∃ y,p.calls[k]? = some y:=⟨_,List.getElem?_eq_getElem (by rw[HN.out];omega)⟩
   obtain⟨ga,c,hv,hcell⟩:=HTq.out.wld.eY (k:=k) (x:=y) (by show g.calls[k]? = _;rw[HEC.out];exact hy)
   obtain⟨rfl,rfl⟩:ca=some ⟨ga,0,none⟩∧cc=c:=by simpa using uI.out.symm.trans hv
   have c3:wr.cell? ⟨ga,k*5+3,none⟩=some (.int .i64 y.id):=hcell 3 _ rfl
   have b0:(0:Int)≤y.id:=HY.out.bef k y hki hy
   have fO:(k:Int)<(N:Int):=by omega
   clear hy hv hcell
   go_wp2_with fail
   go_roundg (gk-1)
   case rel=>exact⟨k+1,by omega,by go_num,rfl⟩
   case measure=>omega
  ·by_cases hke:k=i
   ·subst hke
    obtain⟨ga,c,hv,hcell⟩:=HTq.out.wld.eY (k:=k) (x:=x) (by show g.calls[k]? = _;rw[HEC.out];exact HY.out.at_)
    obtain⟨rfl,rfl⟩:ca=some ⟨ga,0,none⟩∧cc=c:=by simpa using uI.out.symm.trans hv
    have c3:wr.cell? ⟨ga,k*5+3,none⟩=some (.int .i64 x.id):=hcell 3 _ rfl
    have c0:wr.cell? ⟨ga,k*5,none⟩=some (.string x.name):=hcell 0 _ rfl
    have c1:wr.cell? ⟨ga,k*5+1,none⟩=some (.string x.value):=hcell 1 _ rfl
    have b0:¬ (0:Int)≤x.id:=by have:=HY.out.neg;omega
    have b1:(x.name.toList != x.name.toList)=false:=by simp
    have b2:(x.value.toList != x.value.toList)=false:=by simp
    have fO:(k:Int)<(N:Int):=by omega
    have HV:=hid hv
    clear hv hcell
    go_wp2_with fail
    go_quiet (fail)
    obtain⟨wn,hwn⟩:∃ wn,wr.drewN nq=wn:=⟨_,rfl⟩
    have hbn:=below_drewN (Below.refl wr.heap.size wr) nq
    rw[hwn] at hbn ⊢
    have ZG:=HTq.out.below hbn
    have HBn:=hid (HBQ.out.below hbn)
    clear hwn hbn
    have n18:wn.cell? ⟨g.b,18,none⟩=some (.int .i64 p.came):=(show wn.cell? ⟨g.b,18,none⟩=some (.int .i64 g.came) from ZG.wld.blk.cell 18).trans (by rw[H.out.aaN])
    have hxn:({ g with sg:=sg1 }:WG).calls[k]? = some x:=by show g.calls[k]? = _;rw[HEC.out];exact HY.out.at_
    obtain⟨ga2,cc2,hv2,hcell2⟩:=ZG.wld.eY hxn
    obtain⟨rfl,rfl⟩:ga=ga2∧cc=cc2:=by
     have:=HV.out.symm.trans hv2
     simp at this
     exact⟨this.1,this.2⟩
    have n3:wn.cell? ⟨ga,k*5+3,none⟩=some (.int .i64 x.id):=hcell2 3 _ rfl
    have f3:wn.frozen? ⟨ga,k*5+3,none⟩=false:=by
     have:=ZG.wld.iY
     rw[hv2] at this
     exact iD this _
    have kF:=ZG.trans (ZG.wld.WJ (k:=k) (j:=3) (x:=x) (x':={ x with id:=(p.came:Int) }) (v:=.int .i64 p.came) hxn (by decide) rfl hv2)
    have hgb:ga≠g.b:=fun e=>by
     have h1:=ZG.wld.blk.dF ZG.wld.iY (by decide)
     rw[hv2] at h1
     exact h1 (by rw[e];rfl)
    have hgq:ga≠w1.heap.size:=fun e=>by
     have h1:=HBn.out.dF ZG.wld.iY (by decide)
     rw[hv2] at h1
     exact h1 (by rw[e];rfl)
    have hc3:aG (fun j=>j=ga) wn (wn.setCell ⟨ga,k*5+3,none⟩ (.int .i64 p.came)):=(aG.refl (fun j=>j=ga) wn).setCell ⟨ga,k*5+3,none⟩ _ (fun _=>rfl)
    have hB3:=HBn.out.dB hc3 (fun e=>hgq (Eq.symm e))
    obtain⟨w3,hw3⟩:∃ w3,wn.setCell ⟨ga,k*5+3,none⟩ (.int .i64 p.came)=w3:=⟨_,rfl⟩
    rw[hw3] at kF hB3
    have m18:w3.cell? ⟨g.b,18,none⟩=some (.int .i64 p.came):=(show w3.cell? ⟨g.b,18,none⟩=some (.int .i64 g.came) from kF.wld.blk.cell 18).trans (by rw[H.out.aaN])
    have f18:w3.frozen? ⟨g.b,18,none⟩=false:=kF.wld.blk.frozen 18
    have hB4:aK (w3.setCell ⟨g.b,18,none⟩ (.int .i64 ((p.came:Int)+1))) g.b 39 ({ g with sg:=sg1,calls:=g.calls.set k { x with id:=(p.came:Int) },came:=p.came+1 }:WG).cells:=kF.wld.blk.set 18 _
    have hc4:aG (fun j=>j=g.b) w3 (w3.setCell ⟨g.b,18,none⟩ (.int .i64 ((p.came:Int)+1))):=(aG.refl _ _).setCell _ _ (fun _=>rfl)
    have DR:=kF.trans (kF.wld.jS (g':={ g with sg:=sg1,calls:=g.calls.set k { x with id:=(p.came:Int) },came:=p.came+1 }) hc4 hB4 rfl ⟨rfl,rfl⟩ rfl rfl ⟨rfl,rfl,rfl⟩ ⟨rfl,rfl,rfl,rfl⟩ ⟨rfl,rfl,rfl,rfl,rfl,rfl⟩ ⟨rfl,rfl,rfl,rfl⟩)
    have acM:=hB3.dB hc4 (fun e=>Aj.out (by
     have e:w1.heap.size=g.b:=e
     rw[e]
     exact⟨iO g.b 39 ({ g with sg:=sg1 }:WG).cells,List.mem_append_left _ (List.mem_singleton.2 rfl),rfl⟩))
    obtain⟨w4,hw4⟩:∃ w4,w3.setCell ⟨g.b,18,none⟩ (.int .i64 ((p.came:Int)+1))=w4:=⟨_,rfl⟩
    rw[hw4] at DR acM
    have q40:w4.cell? ⟨w1.heap.size,0,none⟩=some (.int .i64 p.came):=acM.cell 0
    obtain⟨ga4,cc4,hv4,Xb⟩:=DR.wld.eY (k:=k) (x:={ x with id:=(p.came:Int) }) (by show (g.calls.set k _)[k]? = _;rw[HEC.out];simp[hil,HN.out])
    obtain⟨rfl,rfl⟩:ga=ga4∧cc=cc4:=by
     have:=HV.out.symm.trans hv4
     simp at this
     exact⟨this.1,this.2⟩
    have n43:w4.cell? ⟨ga,k*5+3,none⟩=some (.int .i64 p.came):=Xb 3 _ rfl
    have b9:((p.came:Int) != (p.came:Int))=false:=by simp
    have hF4:=H.out.to (p':={ p with s:=p.s.next,calls:=p.calls.set k { x with id:=(p.came:Int) },came:=p.came+1 }) DR.same (by
     have e1:=congrArg WP.s kF.st
     have e2:=congrArg WP.c kF.st
     show ({ g with sg:=sg1,calls:=g.calls.set k { x with id:=(p.came:Int) },came:=p.came+1 }:WG).st=_
     have e3:sg1.st=p.s.next:=(show sg1.st=g.sg.st.next from congrArg WP.s HT1.out.st).trans (by rw[H.out.s])
     have e4:({ g with sg:=sg1,calls:=g.calls.set k { x with id:=(p.came:Int) },came:=p.came+1 }:WG).st = { g.st with s:=sg1.st,calls:=g.calls.set k { x with id:=(p.came:Int) },came:=p.came+1 }:=rfl
     rw[e4,e3,H.out.st,HEC.out]) H.out.cf
    have Q9:=hid hF4
    clear ZG hxn hv2 hcell2 kF hgb hgq hc3 hB3 hB4 hc4 DR acM hv4 Xb hF4
    go_wp2_with fail
    go_quiet (fail)
    obtain⟨wm,hwm⟩:∃ wm,w4.drewN nq=wm:=⟨_,rfl⟩
    have hbm:=below_drewN (Below.refl w4.heap.size w4) nq
    rw[hwm] at hbm ⊢
    have HFm:=hid (Q9.out.below hbm)
    have HRp:=hid (acK HFm.out.jO HX.out k HY.out.rp)
    rw[HFm.out.b] at HRp
    clear hwm hbm
    go_wp2_with fail
    refine HRp.out.mono ?_;rintro e w9 ⟨rfl,g9,h9⟩
    have HF9:=hid (HFm.out.trans h9)
    clear h9
    go_wp2_with fail
    go_ret2
    exact⟨rfl,g9,HF9.out⟩
   ·omega
theorem fNext{lo:Nat}{XC XS:List aO}{w:World}{g:WG}{p p':WP}{b:Bool}(h:jh lo XC XS w g p)(SN:(aV bH).1=some (XS.map (fun x=>x.it)))(hN:p.FM=some (p',b)):
  Calls Tryz.prog 11 #[.pointer (some ⟨g.b,0,none⟩),.bool true] w (fun e w'=>e=.returned (.tuple #[.bool b,.bool true])∧∃ g',mg lo XC XS w g p' w' g'):=by
 rcases KW hN with⟨hw,rfl,rfl⟩ | ⟨rfl,q,r,i,x,hY⟩
 ·refine(Pg h.wld true ((congrArg SP.waits h.s).trans hw)).mono ?_
  rintro e w' ⟨rfl,g',hh⟩
  exact⟨rfl,g',h.to hh (by rw[h.st]) h.cf⟩
 ·exact Xa h SN hY
structure Xc(p:WP)(i:Nat)(x:uq):Prop where
 at_:p.calls[i]? = some x
 cs:csB p.c=true
 lt:i<p.c.called
 le:p.calls.length≤8
theorem vP{p p':WP}{i:Nat}(h:p.kY i=some p'):∃ x c' k v,Xc p i x∧p.c.answer (i:Int)=(c',k,v) ∧
  ((k=0∧v=⟨#[]⟩∧p' = { p with c:=c' })∨(k=1∧x.ended=0∧x.answer≠⟨#[]⟩∧v=x.answer∧p' = { p with c:=c',calls:=p.calls.set i { x with ended:=1 } })∨(k=3∧x.ended=0∧v=⟨#[]⟩∧p.cause=true∧p' = { p with c:=c',calls:=p.calls.set i { x with ended:=3 } })):=by
 unfold WP.kY at h
 rcases Option.eq_none_or_eq_some p.calls[i]? with e | ⟨x,e⟩
 ·rw[e] at h;cases h
 ·rw[e] at h
  simp only at h
  split at h
  ·rename_i hB
   simp only[Bool.and_eq_true,decide_eq_true_eq] at hB
   rcases hca:p.c.answer (i:Int) with⟨c',k,v⟩
   refine⟨x,c',k,v,⟨e,hB.1.1,hB.1.2,hB.2⟩,rfl,?_⟩
   split at h
   ·rename_i e1
    obtain⟨rfl,e2⟩:=Prod.mk.inj (hca.symm.trans e1)
    obtain⟨rfl,rfl⟩:=Prod.mk.inj e2
    split at h
    ·rename_i h1
     exact Or.inl ⟨rfl,of_decide_eq_true h1,(Option.some.inj h).symm⟩
    ·cases h
   ·rename_i e1
    obtain⟨rfl,e2⟩:=Prod.mk.inj (hca.symm.trans e1)
    obtain⟨rfl,rfl⟩:=Prod.mk.inj e2
    split at h
    ·rename_i h1
     simp only[Bool.and_eq_true,decide_eq_true_eq,Bool.not_eq_true',decide_eq_false_iff_not] at h1
     exact Or.inr (Or.inl ⟨rfl,h1.1.1,h1.1.2,h1.2,(Option.some.inj h).symm⟩)
    ·cases h
   ·rename_i e1
    obtain⟨rfl,e2⟩:=Prod.mk.inj (hca.symm.trans e1)
    obtain⟨rfl,rfl⟩:=Prod.mk.inj e2
    split at h
    ·rename_i h1
     simp only[Bool.and_eq_true,decide_eq_true_eq] at h1
     exact Or.inr (Or.inr ⟨rfl,h1.1.1,h1.1.2,h1.2,(Option.some.inj h).symm⟩)
    ·cases h
   ·cases h
  ·cases h
structure Sb(b:Nat)(w w':World):Prop where
 e:w'.heap[b]? = w.heap[b]?
 s:w.heap.size≤w'.heap.size
theorem Sb.refl(b:Nat)(w:World):Sb b w w:=⟨rfl,Nat.le_refl _⟩
theorem Sb.drew{b:Nat}{w w':World}(h:Sb b w w'):Sb b w w'.drew:=⟨h.e,h.s⟩
theorem Sb.alloc{b:Nat}{w w':World}(h:Sb b w w')(hb:b<w.heap.size)(o:Obj):Sb b w (w'.alloc o):=by
 have h1:Below w'.heap.size w' (w'.alloc o):=(Below.refl _ _).alloc (Nat.le_refl _) _
 exact⟨(h1.block b (by have:=h.s;omega)).trans h.e,Nat.le_trans h.s h1.size⟩
theorem Sb.set{b:Nat}{w w':World}(h:Sb b w w')(a:Addr)(v:Value)(ha:a.block≠b)(hb:b<w.heap.size):Sb b w (w'.setCell a v):=by
 have hc:aG (fun k=>k=a.block) w' (w'.setCell a v):=(aG.refl (fun k=>k=a.block) w').setCell a v (fun _=>rfl)
 exact⟨(hc.block b (by have:=h.s;omega) (fun e=>ha e.symm)).trans h.e,Nat.le_trans h.s hc.size⟩
theorem Sb.cell{b:Nat}{w w':World}(h:Sb b w w')(o:Nat){v:Value}(hc:w.cell? ⟨b,o,none⟩=some v):w'.cell? ⟨b,o,none⟩=some v:=by
 have:w'.cell? ⟨b,o,none⟩=w.cell? ⟨b,o,none⟩:=by
  unfold World.cell?
  simp only[h.e]
 rw[this]
 exact hc
abbrev evL(k:Nat)(v:ByteArray):List Value:=[.int .i64 k,.string v,.string ⟨#[]⟩]
def AnsAt(lo:Nat)(w:World)(g:WG)(c':CP)(k:Nat)(v:ByteArray)(eb:Nat)(wx:World):Prop:=∃ qP,mF lo w g { g.st with c:=c' } wx { g with cg:=qP } ∧ aK wx eb 127 (evL k v)∧¬ Key ({ g with cg:=qP }:WG).res eb∧w.heap.size≤eb
theorem af8{lo:Nat}{XC XS:List aO}{w:World}{g:WG}{p:WP}{i:Nat}{x:uq}{c':CP}{k:Nat}{v:ByteArray}(h:jh lo XC XS w g p)(hY:Xc p i x)(hA:p.c.answer (i:Int)=(c',k,v))(wa:World)(hb:Below w.heap.size w wa):
  Calls Tryz.prog 68 #[.pointer (some ⟨g.cb,0,none⟩),.int .i64 i] wa (fun e w'=>e=.returned (.tuple #[.agg #[.int .i64 k,.string v,.string ⟨#[]⟩],.int .i64 0])∧∃ qP,gG lo wa g.cg c' w' qP):=by
 have hW:=(h.wld.below hb)
 have ecd:g.cg.called=p.c.called:=congrArg CP.called h.c
 refine WA hW.cli g.cb (hW.aU.cell 0) hW.aU.lt (i:Int) (k:Int) v ⟨#[]⟩ 0 (q:=c') (fun w0 hb0=>?_)
 have:=Rn (hW.cli.below hb0) (by rw[h.c];exact(Dx hY.cs).1) (i:Int) (by omega) (by rw[ecd];have:=hY.lt;omega)
 rw[h.c,hA] at this
 exact this
theorem WG.ZH(g:WG){lo:Nat}{w:World}(h:lI lo w g):¬ Key g.cg.res g.b:=fun hk=>by
 have hh:=h.has
 unfold WG.res at hh
 have hd:=(aA.1 hh).2.2
 obtain⟨q,hq,e⟩:=hk
 exact hd (iO g.b 39 g.cells) (List.mem_singleton.2 rfl) q (by simp[hq]) e.symm
theorem WG.af9(g:WG)(k:Nat)(h:Key g.cg.res k):Key g.res k:=by
 unfold WG.res
 simp only[Key.app]
 exact Or.inr (Or.inr (Or.inr (Or.inr (Or.inl h))))
theorem ake{lo:Nat}{w wa w1:World}{g:WG}{c':CP}{qP:CG}{k:Nat}{v:ByteArray}(h:lI lo w g)(hb:Below w.heap.size w wa)(hc:gG lo wa g.cg c' w1 qP):AnsAt lo w g c' k v w1.heap.size (w1.alloc (.cells #[.int .i64 k,.string v,.string ⟨#[]⟩] 127)):=by
 have hT:=(mF.refl h hb).trans ((h.below hb).oL hc)
 have hb1:Below w1.heap.size w1 (w1.alloc (.cells #[.int .i64 k,.string v,.string ⟨#[]⟩] 127)):=(Below.refl _ _).alloc (Nat.le_refl _) _
 exact⟨qP,hT.below hb1,heap_alloc_new w1 _,hT.wld.lM,Nat.le_trans hb.size hc.grow.c.size⟩
theorem akf{lo:Nat}{w wz wa w1:World}{g:WG}{c':CP}{qP:CG}{eb k:Nat}{v:ByteArray}(h:lI lo w g)(hz:Below w.heap.size w wz)(he:wz.heap.size=eb)(hb:Below wz.heap.size wz wa)(hB:aK wa eb 127 [.int .i64 0,.string ⟨#[]⟩,.string ⟨#[]⟩])(hc:gG lo wa g.cg c' w1 qP):
  aK w1 eb 127 [.int .i64 0,.string ⟨#[]⟩,.string ⟨#[]⟩]∧AnsAt lo w g c' k v eb (((w1.setCell ⟨eb,0,none⟩ (.int .i64 k)).setCell ⟨eb,1,none⟩ (.string v)).setCell ⟨eb,2,none⟩ (.string ⟨#[]⟩)):=by
 have hba:=hz.trans (hb.mono hz.size)
 have hT:=(mF.refl h hba).trans ((h.below hba).oL hc)
 have hnk:¬ Key g.cg.res eb:=fun e=>by have:=(h.has.lt (g.af9 eb e)).2;have:=hz.size;omega
 have aga:¬ Key ({ g with cg:=qP }:WG).res eb:=fun e=>by
  rcases((h.below hba).oL hc).grow.k eb e with e | e
  ·have:=(h.has.lt e).2
   have:=hz.size
   omega
  ·have:=hB.lt
   omega
 have hB1:=hB.dB hc.grow.c hnk
 have hwe:w.heap.size≤eb:=by have:=hz.size;omega
 refine⟨hB1,qP,?_,Ai hB1 _ _ _,aga,hwe⟩
 exact hT.resv (OO w1 eb _ _ _) (fun j e=>by rw[e];exact hwe) (fun j e=>by rw[e];exact aga)
end Go.Proofs.YtolfcabodiphmaaGreatDoor
