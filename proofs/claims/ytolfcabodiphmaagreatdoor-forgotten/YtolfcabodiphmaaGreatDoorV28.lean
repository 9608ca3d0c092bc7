/- Package ends: the client: answered. -/
import Derived.Test.YtolfcabodiphmaaGreatDoorV27
import Derived.Deep.DeepCutAuto
set_option linter.unusedSimpArgs false
set_option linter.unusedVariables false
set_option maxHeartbeats 4000000
set_option maxRecDepth 100000
namespace Go.Proofs.YtolfcabodiphmaaGreatDoor
open Go.Proofs.Tryz
open Go.RowKit Go.Conc
theorem Cli.ab7{lo:Nat}{w w':World}{g:CG}{i:Nat}{m m':jE}{f:Ti→Ti}(h:Cli lo w g)(hi:g.calls[i]? = some m)(hm:Has lo w' m'.res)(hg:Grow w m.res w' m'.res)(hb:m'.blk=m.blk)(hf:m'.c=f m.c):
  ∃ g',gG lo w g { g.st with calls:=g.st.calls.modify i f } w' g':=by
 obtain⟨e1,e2⟩:=CS hi
 have hT:=h.oL (m':=m') e1 hb hm hg
 refine⟨_,hT.cli,?_,hT.grow,hT.b,hT.iv,hT.cfg⟩
 have e3:g.st.calls=(g.calls.take i).map (fun m=>m.c)++m.c::(g.calls.drop (i+1)).map (fun m=>m.c):=by
  show g.calls.map (fun m=>m.c)=_
  conv=>lhs;rw[e1]
  simp
 have e4:g.st.calls.modify i f=(g.calls.take i).map (fun m=>m.c)++f m.c::(g.calls.drop (i+1)).map (fun m=>m.c):=by
  rw[e3]
  have:=vG f ((g.calls.take i).map (fun m=>m.c)) m.c ((g.calls.drop (i+1)).map (fun m=>m.c))
  rwa [List.length_map,e2] at this
 rw[e4]
 unfold CG.st
 simp only[List.map_append,List.map_cons,hf]
theorem vS.forget{c:CP}(h:vS c)(n:Nat):vS (c.forget n):=⟨Nat.le_trans (List.length_filter_le _ _) h.a,h.s,h.ca,h.at_,h.si,h.n⟩
theorem RY{lo:Nat}{w:World}{g:CG}{X:List aO}(h:Cli lo w g)(hS:vS g.st)(hlo:lo≤w.heap.size)(la:Option Addr)(ll lc:Nat)(hiv:g.iv=.slice la ll lc)(hst:Stat lo w (.slice la ll lc) X)(p:aP)(hp:p.number≤1000000000000)(hd:p.data.size≤1000):
  Calls Tryz.prog 118 #[.pointer (some ⟨g.b,0,none⟩),.agg #[.int .u8 p.kind,.int .u64 p.token,.int .u64 p.session,.int .u64 p.number,.int .u64 p.position,.string p.data]] w (fun e w'=>e=.returned (.tuple #[])∧∃ g',gG lo w g (g.st.answered (dU X) p) w' g'):=by
 obtain⟨hs1,hs2,hs3,hs4,hs5,hs6⟩:=hS.g
 have hbw0:Below w.heap.size w (w.alloc (.cells #[.int .u8 p.kind,.int .u64 p.token,.int .u64 p.session,.int .u64 p.number,.int .u64 p.position,.string p.data] 124)):=(Below.refl _ _).alloc (Nat.le_refl _) _
 have au:aK (w.alloc (.cells #[.int .u8 p.kind,.int .u64 p.token,.int .u64 p.session,.int .u64 p.number,.int .u64 p.position,.string p.data] 124)) w.heap.size 124 [.int .u8 p.kind,.int .u64 p.token,.int .u64 p.session,.int .u64 p.number,.int .u64 p.position,.string p.data]:=heap_alloc_new w _
 obtain⟨w0,dw⟩:∃ w0,w.alloc (.cells #[.int .u8 p.kind,.int .u64 p.token,.int .u64 p.session,.int .u64 p.number,.int .u64 p.position,.string p.data] 124)=w0:=⟨_,rfl⟩
 rw[dw] at hbw0 au
 have e0:w0.cell? ⟨w.heap.size,0,none⟩=some (.int .u8 p.kind):=au.cell 0
 have e1:w0.cell? ⟨w.heap.size,1,none⟩=some (.int .u64 p.token):=au.cell 1
 have e2:w0.cell? ⟨w.heap.size,2,none⟩=some (.int .u64 p.session):=au.cell 2
 have e3:w0.cell? ⟨w.heap.size,3,none⟩=some (.int .u64 p.number):=au.cell 3
 have e4:w0.cell? ⟨w.heap.size,4,none⟩=some (.int .u64 p.position):=au.cell 4
 have e5:w0.cell? ⟨w.heap.size,5,none⟩=some (.string p.data):=au.cell 5
 have Aj:=hid h.lM
 have H:=hid h
 have Hb:=hid hbw0
 have HB:=hid au
 have HST:=hid hst
 have OT:=hid hiv
 clear h au hbw0 hst hiv
 go_enter func118,ntmps118
 go_wp2_with fail
 refine(Gl (H.out.below Hb.out) p).mono ?_;rintro e w1 ⟨rfl,hb1⟩
 have hb2:=Hb.out.trans (hb1.mono Hb.out.size)
 have HB1:=hid (HB.out.below hb1)
 have r3:w1.cell? ⟨w.heap.size,3,none⟩=some (.int .u64 p.number):=HB1.out.cell 3
 cases ho:g.st.oh p with
 | false=>
  have HE:=hid (show g.st.answered (dU X) p=g.st by unfold CP.answered;rw[ho];rfl)
  go_wp2_with fail
  (try simp only[Exit.inBlock,Exit.then]);refine bodyPost_ret (results_none rfl _ _ _) rfl ?_
  exact⟨rfl,g,by rw[HE.out];exact gG.refl H.out hb2⟩
 | true=>
  go_wp2_with fail
  refine(Oh (H.out.below hb2) hs1 (p.number+1)).mono ?_;rintro e w2 ⟨rfl,g2,h2⟩
  have hg2:=h2.blk HB1.out Aj.out
  have HB2:=hid hg2.1
  have Yl:=hid hg2.2
  have ajb:=hid (h2.stat (H.out.below hb2) (HST.out.below hb2))
  have H2:=hid h2
  have HT2:=hid (h2.before hb2)
  have hp2:g2.b=g.b:=h2.b
  have afw:=hid (h2.iv.trans OT.out)
  have HS2:=hid (show vS g2.st by rw[h2.st];exact hS.forget _)
  have HSE:=hid (show g.st.answered (dU X) p=((match g2.st.qR p.number with
   | none=>g2.st
   | some i=>{ g2.st with calls:=g2.st.calls.modify i (fun o=>match dU X o.answer p.data.toList with | some t=>o.finish 1 t | none=>o) }):CP).post (fK 5 g2.token g2.session p.number 0) by
   have e1:g2.token=g.token:=by have:=congrArg CP.token h2.st;exact this
   have e2:g2.session=g.session:=by have:=congrArg CP.session h2.st;exact this
   rw[e1,e2,h2.st]
   unfold CP.answered
   rw[ho]
   rfl)
  have s0:w2.cell? ⟨w.heap.size,0,none⟩=some (.int .u8 p.kind):=HB2.out.cell 0
  have s1:w2.cell? ⟨w.heap.size,1,none⟩=some (.int .u64 p.token):=HB2.out.cell 1
  have s2:w2.cell? ⟨w.heap.size,2,none⟩=some (.int .u64 p.session):=HB2.out.cell 2
  have s3:w2.cell? ⟨w.heap.size,3,none⟩=some (.int .u64 p.number):=HB2.out.cell 3
  have s4:w2.cell? ⟨w.heap.size,4,none⟩=some (.int .u64 p.position):=HB2.out.cell 4
  have s5:w2.cell? ⟨w.heap.size,5,none⟩=some (.string p.data):=HB2.out.cell 5
  clear h2 hg2
  go_wp2_with fail
  rw[← hp2]
  refine(aa4 H2.out.cli HS2.out p.number).mono ?_;rintro e w3 ⟨hR,hb3⟩
  have HB3:=hid (HB2.out.below hb3)
  have H3:=hid (H2.out.cli.below hb3)
  have HT3:=hid (HT2.out.below hb3)
  have ajc:=hid (ajb.out.below hb3)
  have HP2:=hid hp2
  have hlo3:lo≤w3.heap.size:=Nat.le_trans hlo (Nat.le_trans hb2.size (Nat.le_trans H2.out.grow.c.size hb3.size))
  have t0:w3.cell? ⟨w.heap.size,0,none⟩=some (.int .u8 p.kind):=HB3.out.cell 0
  have t1:w3.cell? ⟨w.heap.size,1,none⟩=some (.int .u64 p.token):=HB3.out.cell 1
  have t2:w3.cell? ⟨w.heap.size,2,none⟩=some (.int .u64 p.session):=HB3.out.cell 2
  have t3:w3.cell? ⟨w.heap.size,3,none⟩=some (.int .u64 p.number):=HB3.out.cell 3
  have t4:w3.cell? ⟨w.heap.size,4,none⟩=some (.int .u64 p.position):=HB3.out.cell 4
  have t5:w3.cell? ⟨w.heap.size,5,none⟩=some (.string p.data):=HB3.out.cell 5
  clear hp2
  rcases hR with⟨hr,rfl⟩ | ⟨i,mm,hr,hmm,rfl⟩
  ·have hq:=RX (T:=125) underlying125 w3
   have HF:=hid (show g.st.answered (dU X) p=g2.st.post (fK 5 g2.token g2.session p.number 0) by rw[HSE.out,hr])
   clear hr
   go_wp2_with fail
   go_region_with (first | (go_at_call 72;refine(wJ (w:=w3.drew) H3.out.drew 5 p.number).mono ?_;rintro e w4 ⟨rfl,hb4⟩) | (go_at_call 71;refine((H3.out.drew.below hb4).post (fK 5 g2.token g2.session p.number 0)).mono ?_;rintro e w5 ⟨rfl,h5,_⟩;have H5:=hid h5;clear h5))
   all_goals
    go_wp2_with fail
    go_end0
    exact⟨rfl,_,by rw[HF.out];exact HT3.out.trans (H5.out.before ((Below.refl _ w3).drew.trans hb4))⟩
  ·have hq:=RV (T:=125) underlying125 w3 mm.blk
   have HF:=hid (show g.st.answered (dU X) p=({ g2.st with calls:=g2.st.calls.modify i (fun o=>match dU X o.answer p.data.toList with | some t=>o.finish 1 t | none=>o) }:CP).post (fK 5 g2.token g2.session p.number 0) by rw[HSE.out,hr])
   have hil:i<g2.calls.length:=(List.getElem?_eq_some_iff.1 hmm).1
   have him:g2.calls[i]=mm:=(List.getElem?_eq_some_iff.1 hmm).2
   have HM:=hid (him ▸ H3.out.Ol hil)
   have HMM:=hid hmm
   have k0:w3.cell? ⟨g2.b,0,none⟩=some (.slice la ll lc):=(show w3.cell? ⟨g2.b,0,none⟩=some g2.iv from H3.out.blk.cell 0).trans (by rw[afw.out])
   have k2:w3.cell? ⟨mm.blk,2,none⟩=some (.string mm.c.answer):=(jE.ru HM.out).cell 2
   have hcv:=OM p.data
   have hbB:=rZ w3.drew p.data
   have k0b:(Lib.bytesWorld w3.drew 5 p.data).cell? ⟨g2.b,0,none⟩=some (.slice la ll lc):=(show (Lib.bytesWorld w3.drew 5 p.data).cell? ⟨g2.b,0,none⟩=some g2.iv from(H3.out.drew.below hbB).blk.cell 0).trans (by rw[afw.out])
   have k2b:(Lib.bytesWorld w3.drew 5 p.data).cell? ⟨mm.blk,2,none⟩=some (.string mm.c.answer):=(jE.ru (HM.out.drew.below hbB)).cell 2
   clear hr hmm him hil hbB
   go_upto_region 5 with fail
   go_cut [5,6] (fun s5 s6 wx=>∃ (t:ByteArray) (E:Int),s5=.string t∧s6=.int .i64 E∧Hid (Below w3.heap.size w3 wx)∧Hid ((E≠0∧dU X mm.c.answer p.data.toList=none)∨(E=0∧dU X mm.c.answer p.data.toList=some t)))
   case first=>
    go_region_with (go_at_call 166;refine(CQ (W:=w3.drew) ajc.out (Below.refl _ _).drew mm.c.answer p.data hd).mono ?_;rintro e w4 ⟨t,E,rfl,hb4,hD⟩;have HD:=hid hD;have Hb4:=hid hb4;clear hD hb4)
    all_goals (go_wp2_with fail;go_meet;exact⟨t,E,rfl,rfl,Hb4,HD⟩)
   case rest=>
   obtain⟨t,E,rfl,rfl,Hb4,HD⟩:=hcut
   have H4:=hid (H3.out.below Hb4.out)
   have HB4:=hid (HB3.out.below Hb4.out)
   have HM4:=hid (HM.out.below Hb4.out)
   have u3:wc.cell? ⟨w.heap.size,3,none⟩=some (.int .u64 p.number):=HB4.out.cell 3
   rcases HD.out with⟨hE,hN⟩ | ⟨rfl,hN⟩
   ·have bE:(E==0)=false:=by simpa using hE
    have HF2:=hid (show ({ g2.st with calls:=g2.st.calls.modify i (fun o=>match dU X o.answer p.data.toList with | some t=>o.finish 1 t | none=>o) }:CP)=g2.st by
     have e:g2.st.calls[i]? = some mm.c:=by unfold CG.st;simp[HMM.out]
     rw[Kz e (by simp only[hN])])
    clear hE hN
    go_wp2_with fail
    go_region_with (first | (go_at_call 72;refine(wJ (w:=wc.drew) H4.out.drew 5 p.number).mono ?_;rintro e w7 ⟨rfl,hb7⟩) | (go_at_call 71;refine((H4.out.drew.below hb7).post (fK 5 g2.token g2.session p.number 0)).mono ?_;rintro e w8 ⟨rfl,h8,_⟩;have H8:=hid h8;clear h8))
    all_goals
     go_wp2_with fail
     go_end0
     exact⟨rfl,_,by rw[HF.out,HF2.out];exact HT3.out.trans (H8.out.before (Hb4.out.trans (((Below.refl _ wc).drew.trans hb7).mono Hb4.out.size)))⟩
   ·have HFc:=hid hN
    clear hN
    go_wp2_with fail
    refine(Jb HM4.out 1 t).mono ?_;rintro e w5 ⟨rfl,h5,h6⟩
    obtain⟨g5,h7⟩:=H4.out.ab7 (f:=fun o=>match dU X o.answer p.data.toList with | some t=>o.finish 1 t | none=>o) HMM.out h5 h6 rfl (by simp only[HFc.out])
    have hg5:=h7.blk HB4.out Yl.out
    have E5:=hid hg5.1
    have Bg:g5.b=g2.b:=h7.b
    have OY:=hid (HT3.out.trans (h7.before Hb4.out))
    have H5:=hid h7
    have EI:=hid (show g5.token=g2.token by have:=congrArg CP.token h7.st;exact this)
    have HE2:=hid (show g5.session=g2.session by have:=congrArg CP.session h7.st;exact this)
    have v3:w5.cell? ⟨w.heap.size,3,none⟩=some (.int .u64 p.number):=E5.out.cell 3
    clear h5 h6 h7 hg5
    go_wp2_with fail
    rw[← Bg]
    clear Bg
    go_region_with (first | (go_at_call 72;refine(wJ (w:=w5.drew) H5.out.cli.drew 5 p.number).mono ?_;rintro e w7 ⟨rfl,hb7⟩) | (go_at_call 71;refine((H5.out.cli.drew.below hb7).post (fK 5 g5.token g5.session p.number 0)).mono ?_;rintro e w8 ⟨rfl,h8,_⟩;have H8:=hid h8;clear h8))
    all_goals
     go_wp2_with fail
     go_end0
     exact⟨rfl,_,by rw[HF.out,← H5.out.st,← EI.out,← HE2.out];exact OY.out.trans (H8.out.before ((Below.refl _ w5).drew.trans hb7))⟩
end Go.Proofs.YtolfcabodiphmaaGreatDoor
