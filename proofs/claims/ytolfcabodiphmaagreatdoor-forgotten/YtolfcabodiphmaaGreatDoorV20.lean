/- Package ends: the client: Subscribe. -/
import Derived.Test.YtolfcabodiphmaaGreatDoorV18
import Derived.Test.YtolfcabodiphmaaGreatDoorV17
import Derived.Test.YtolfcabodiphmaaGreatDoorV19
import Derived.Test.YtolfcabodiphmaaGreatDoorV04
import Derived.Test.YtolfcabodiphmaaGreatDoorV16
import Derived.Test.YtolfcabodiphmaaGreatDoorV07
import Derived.Deep.DeepCutAuto
set_option linter.unusedSimpArgs false
set_option linter.unusedVariables false
set_option maxHeartbeats 8000000
set_option maxRecDepth 100000
namespace Go.Proofs.YtolfcabodiphmaaGreatDoor
open Go.Proofs.Tryz
open Go.RowKit Go.Conc
theorem CV(c:CP)(p:aP):(c.request p).called=c.called:=by unfold CP.request;dsimp only;split<;>rfl
theorem Ej(c:CP)(p:aP):(c.request p).calls=c.calls:=by unfold CP.request;dsimp only;split<;>rfl
theorem YN{g g4:CG}{nm ab:ByteArray}{sd:ByteArray}{v:Value}{b:Nat}{b':Nat}{dat:ByteArray}(hd:nm++ByteArray.mk #[32]++sd=dat)(h:g4.st=g.st.request ⟨3,0,0,0,0,dat⟩):
  ({ g4 with b:=b',cv:=v,calls:=g4.calls++[⟨b,⟨g.called,g.next,ab,0,⟨#[]⟩⟩⟩],called:=g.called+1 }:CG).st=g.st.call nm ab sd:=by
 have e:({ g4 with b:=b',cv:=v,calls:=g4.calls++[⟨b,⟨g.called,g.next,ab,0,⟨#[]⟩⟩⟩],called:=g.called+1 }:CG).st = { g4.st with calls:=g4.st.calls++[⟨g.called,g.next,ab,0,⟨#[]⟩⟩],called:=g.called+1 }:=by unfold CG.st;simp
 rw[e,h,← hd]
 rfl
def CP.oD(W:Nat)(c:CP):Bool:=decide (W≤c.calls.length)||c.isFull W
theorem Kq{c:CP}{W n:Nat}(h:c.calls.length=n)(hd:decide (W≤n)=true):c.oD W=true:=by
 unfold CP.oD
 have:W≤n:=by have:=of_decide_eq_true hd;omega
 rw[h,decide_eq_true this]
 rfl
theorem Hw{c:CP}{W n:Nat}(h:c.calls.length=n)(hd:decide (W≤n)=false):c.oD W=c.isFull W:=by
 unfold CP.oD
 have:¬ W≤n:=by have:=of_decide_eq_false hd;omega
 rw[h,decide_eq_false this]
 rfl
theorem afc{lo:Nat}{w:World}{g:CG}{X:List aO}(h:Cli lo w g)(hS:vS g.st)(hlo:lo≤w.heap.size)(hst:Stat lo w g.iv X)(t:ByteArray)(x:aO)(bs an:ByteArray)(i:Nat)(hFi:jH X 3 t.toList (i:Int))(hxi:X[i]? = some x)(hbs:∃ v,x.it.base=[.string bs,v])(has:∃ v,x.it.answer=[.string an,v])(alj:g.called≤1000000000000)(u:ByteArray)(hu:u.size≤maxLen)(hns:x.it.name.text.size≤1000)(d:List UInt8)
  (henc:∀ E d',Fh X bs u E d'→E=0∧d'=d) (hd:d.length≤64) :
  Calls Tryz.prog 36 #[.pointer (some ⟨g.b,0,none⟩),.string t,.string u] w (fun e w'=>
   (g.st.oD g.W=true∧e=.returned (.tuple #[.int .i64 0,.int .i64 14])∧Below w.heap.size w w') ∨
   (g.st.oD g.W=false∧e=.returned (.tuple #[.int .i64 g.called,.int .i64 0])∧∃ g',gG lo w g (g.st.call x.it.name.text an (strOf d)) w' g')):=by
 obtain⟨hs1,hs2,hs3,hs4,hs5,hs6⟩:=hS.g
 obtain⟨pl,hi⟩:=hst.i
 obtain⟨ia,ic,hiv⟩:∃ a c,g.iv=.slice a X.length c:=ay hi.own
 have d0:w.cell? ⟨g.b,0,none⟩=some (.slice ia X.length ic):=(show w.cell? ⟨g.b,0,none⟩=some g.iv from h.blk.cell 0).trans (by rw[hiv])
 have H:=hid h
 have HE:=hid hst.env
 have HI:=hid (hiv ▸ hi)
 have OT:=hid hiv
 have HX:=hid hst.xo
 have HOw:=hid hst.own
 have HF:=hid hFi
 have YO:=hid hxi
 have HBs:=hid hbs
 have HAs:=hid has
 have HEN:=hid henc
 clear h hst hi hiv hFi hxi hbs has henc
 go_enter func36,ntmps36
 go_wp2_with fail
 refine(Fv w pl (.slice ia X.length ic) X 3 t HI.out HX.out.nms HX.out.len).mono ?_;rintro e w1 ⟨z,hF,hb1,⟨rfl,rfl⟩ | ⟨j,y,n,rfl,hx,hba,han,rfl⟩⟩
 ·exact absurd (HF.out.uniq hF) (by omega)
 ·obtain rfl:i=j:=by have:=HF.out.uniq hF;omega
  obtain rfl:x=y:=by have:=YO.out.symm.trans hx;simpa using this
  have hbb:n.bb=bs:=by
   obtain⟨v,hv⟩:=HBs.out
   rw[hba] at hv
   simpa using(List.cons.inj hv).1
  have hab:n.ab=an:=by
   obtain⟨v,hv⟩:=HAs.out
   rw[han] at hv
   simpa using(List.cons.inj hv).1
  have Ag:=hid hbb
  have HAB:=hid hab
  have hbI:Below w1.heap.size w1 (w1.alloc (.cells #[.int .i64 x.it.kind,.string x.it.name.text,.int .i64 x.it.name.at_,.slice n.fa x.it.fields.length n.fc,.slice n.na x.it.names.length n.nc,.string n.bb,.int .i64 n.ba,.string n.ab,.int .i64 n.aa] 116)):=(Below.refl _ _).alloc (Nat.le_refl _) _
  have hBI:aK (w1.alloc (.cells #[.int .i64 x.it.kind,.string x.it.name.text,.int .i64 x.it.name.at_,.slice n.fa x.it.fields.length n.fc,.slice n.na x.it.names.length n.nc,.string n.bb,.int .i64 n.ba,.string n.ab,.int .i64 n.aa] 116)) w1.heap.size 116 [.int .i64 x.it.kind,.string x.it.name.text,.int .i64 x.it.name.at_,.slice n.fa x.it.fields.length n.fc,.slice n.na x.it.names.length n.nc,.string n.bb,.int .i64 n.ba,.string n.ab,.int .i64 n.aa]:=heap_alloc_new w1 _
  have hz1:=hb1.size
  have HBI:=hid hBI
  have Rt:=hid (hb1.trans (hbI.mono hz1))
  have Aj:=hid (H.out.below hb1).lM
  unfold xH
  clear hF hx hba han hbI hBI hbb hab
  go_wp2_with fail
  generalize w1.alloc (.cells #[.int .i64 x.it.kind,.string x.it.name.text,.int .i64 x.it.name.at_,.slice n.fa x.it.fields.length n.fc,.slice n.na x.it.names.length n.nc,.string n.bb,.int .i64 n.ba,.string n.ab,.int .i64 n.aa] 116)=wI at *
  generalize hib:w1.heap.size=ib at *
  obtain⟨nm,hnm⟩:∃ nm,x.it.name.text=nm:=⟨_,rfl⟩
  rw[hnm] at HBI hns ⊢
  obtain⟨k0,k2,fa,fl,fc,na,nl,nc,bb,k6,ab,k8,hHB,hbb,hab⟩:∃ (k0 k2:Int) (fa:Option Addr) (fl fc:Nat) (na:Option Addr) (nl nc:Nat) (bb:ByteArray) (k6:Int) (ab:ByteArray) (k8:Int),aK wI ib 116 [.int .i64 k0,.string nm,.int .i64 k2,.slice fa fl fc,.slice na nl nc,.string bb,.int .i64 k6,.string ab,.int .i64 k8]∧bb=bs∧ab=an:=⟨_,_,_,_,_,_,_,_,_,_,_,_,HBI.out,Ag.out,HAB.out⟩
  subst hbb hab
  have HBY:=hid hHB
  have HEI:=hid (HE.out.below Rt.out)
  have HII:=hid (HI.out.below Rt.out)
  have HHI:=hid (H.out.below Rt.out)
  have Je:=hid hnm
  have e0:wI.cell? ⟨g.b,0,none⟩=some (.slice ia X.length ic):=(show wI.cell? ⟨g.b,0,none⟩=some g.iv from HHI.out.blk.cell 0).trans (by rw[OT.out])
  have e5:wI.cell? ⟨ib,5,none⟩=some (.string bb):=HBY.out.cell 5
  have aiQ:lo≤wI.heap.size:=Nat.le_trans hlo Rt.out.size
  have HKP:=hid (show ∀ w',Below wI.heap.size wI w'→(w'.cell? ⟨g.b,0,none⟩=some (.slice ia X.length ic)∧w'.cell? ⟨ib,5,none⟩=some (.string bb)) from fun w' hw'=>⟨(show w'.cell? ⟨g.b,0,none⟩=some g.iv from(HHI.out.below hw').blk.cell 0).trans (by rw[OT.out]),(HBY.out.below hw').cell 5⟩)
  clear hHB HBI Ag HAB hnm
  go_wp2_with fail
  go_region_held3 (fun w'=>w'.cell? ⟨g.b,0,none⟩=some (.slice ia X.length ic)∧w'.cell? ⟨ib,5,none⟩=some (.string bb))
   (exact HKP.out _ (by repeat (first | with_reducible assumption | with_reducible exact Hb2.out | with_reducible exact Below.refl _ _ | with_reducible apply Below.drew)))
   (first | (go_at_call 54;refine(zH wI.drew pl ia X.length ic X bb u (HII.out.below (Below.refl _ _).drew) HX.out (HEI.out.below (Below.refl _ _).drew) (fun cb hcb=>HOw.out cb (Nat.le_trans aiQ hcb)) hu).mono ?_;rintro e w2 ⟨da,dc,d',E,rfl,hb2',hD2,hnil,hans⟩;have Hb2:=hid (show Below wI.heap.size wI w2 from(Below.refl _ wI).drew.trans hb2');have HD:=hid (show gZ w2 wI.heap.size (.slice da d'.length dc) d' from hD2);have HAn:=hid hans;clear hb2' hD2 hnil hans))
  all_goals
   obtain⟨hE0,hdd⟩:=HEN.out _ _ HAn.out
   subst hE0 hdd
   have hbw2:=Rt.out.trans (Hb2.out.mono Rt.out.size)
   have H2:=hid (H.out.below hbw2)
   have afg:=hid hbw2
   obtain⟨la,lc,hcv⟩:=H2.out.rc.slice
   have f1:w2.cell? ⟨g.b,1,none⟩=some (.int .i64 g.W):=H2.out.blk.cell 1
   have f17:w2.cell? ⟨g.b,17,none⟩=some (.slice la g.calls.length lc):=(show w2.cell? ⟨g.b,17,none⟩=some g.cv from H2.out.blk.cell 17).trans (by rw[hcv])
   have HCL:=hid (show g.st.calls.length=g.calls.length by unfold CG.st;simp)
   clear hcv hbw2 HAn
   go_upto_region 7 with fail
   go_cut [57] (fun s57 wx=>s57=.bool (g.st.oD g.W)∧Hid (Below w2.heap.size w2 wx))
   case first=>
    cases hcW:decide (g.W≤g.calls.length) with
    | true=>
     have hcP:g.W≤g.calls.length:=of_decide_eq_true hcW
     have HNC:=hid (Kq (show g.st.calls.length=g.calls.length from HCL.out) hcW)
     go_region
     all_goals
      go_wp2_with fail
      go_meet
      case rel=>exact⟨by rw[HNC.out],hid (Below.refl _ _).drew⟩
    | false=>
     have hcP:¬ g.W≤g.calls.length:=of_decide_eq_false hcW
     have HNC:=hid (Hw (show g.st.calls.length=g.calls.length from HCL.out) hcW)
     go_region_with (go_at_call 55;refine(YM (w:=w2.drew) H2.out.drew).mono ?_;rintro e w3 ⟨rfl,hb3⟩)
     all_goals
      go_wp2_with fail
      go_meet
      case rel=>exact⟨by rw[HNC.out],hid ((Below.refl _ w2).drew.trans hb3)⟩
   case rest=>
    obtain⟨rfl,Hb3⟩:=hcut
    have hbw3:=afg.out.trans (Hb3.out.mono afg.out.size)
    cases hfull:g.st.oD g.W with
    | true=>
     go_wp2_with fail
     go_ret2
     exact Or.inl ⟨hfull,rfl,hbw3⟩
    | false=>
     have H3:=hid (H.out.below hbw3)
     have hB3:=HBY.out.below (show Below wI.heap.size wI wc from Hb2.out.trans (Hb3.out.mono Hb2.out.size))
     have hD3:=HD.out.same Hb3.out
     have HCO:=hid hD3.rd.conv
     have hcv:(convert 64 9 (.slice da d'.length dc)).run Tryz.prog wc=.ok (.string (strOf d')) wc:=HCO.out
     have hsd:(strOf d').size≤64:=by have:(strOf d').size=d'.length:=(by show (List.toArray d').size=_;simp);omega
     have c3:wc.cell? ⟨ib,1,none⟩=some (.string nm):=hB3.cell 1
     have HB3:=hid hB3
     have hlo3:lo≤wc.heap.size:=Nat.le_trans hlo hbw3.size
     have aiR:=hid hbw3
     obtain⟨sd,hsd2⟩:∃ sd,strOf d'=sd:=⟨_,rfl⟩
     rw[hsd2] at hcv hsd
     have UM:=hid hsd2
     clear hB3 hbw3 hD3 hsd2 HCO
     go_wp2_with fail
     obtain⟨dat,hdat⟩:∃ dat,nm++ByteArray.mk #[32]++sd=dat:=⟨_,rfl⟩
     rw[hdat]
     have aiS:=hid hdat
     clear hdat
     refine(TS H3.out hlo3 hs1 hs6 ⟨3,0,0,0,0,dat⟩).mono ?_;rintro e w4 ⟨rfl,g4,h4⟩
     have hI4:=h4.blk HB3.out Aj.out
     have hB4:=hI4.1
     have em:g4.called=g.called:=by have:=congrArg CP.called h4.st;rw[CV] at this;exact this
     obtain⟨sa,sc,hsv⟩:=h4.cli.rc.slice
     have YP:=h4.b
     have r7:w4.cell? ⟨ib,7,none⟩=some (.string ab):=hB4.cell 7
     have d18:w4.cell? ⟨g.b,18,none⟩=some (.int .i64 g.called):=by
      have:=h4.cli.blk.cell 18
      rw[YP] at this
      rw[this]
      show some (Value.int .i64 g4.called)=_
      rw[em]
     have hb5:Below w4.heap.size w4 (w4.alloc (.cells #[.int .i64 g.called,.int .u64 g.next,.string ab,.int .i64 0,.string ⟨#[]⟩,.string ⟨#[]⟩] 129)).drew:=((Below.refl _ _).alloc (Nat.le_refl _) _).drew
     have hS5:aK (w4.alloc (.cells #[.int .i64 g.called,.int .u64 g.next,.string ab,.int .i64 0,.string ⟨#[]⟩,.string ⟨#[]⟩] 129)).drew w4.heap.size 129 [.int .i64 g.called,.int .u64 g.next,.string ab,.int .i64 0,.string ⟨#[]⟩,.string ⟨#[]⟩]:=heap_alloc_new w4 _
     obtain⟨w5,hw5⟩:∃ w5,(w4.alloc (.cells #[.int .i64 g.called,.int .u64 g.next,.string ab,.int .i64 0,.string ⟨#[]⟩,.string ⟨#[]⟩] 129)).drew=w5:=⟨_,rfl⟩
     rw[hw5] at hb5 hS5
     have h5:=h4.cli.below hb5
     have Jc:w5.cell? ⟨g.b,17,none⟩=some (.slice sa g4.calls.length sc):=by
      have:=h5.blk.cell 17
      rw[YP] at this
      rw[this]
      show some g4.cv=_
      rw[hsv]
     have hl4:g4.calls.length≤1000:=by
      have:=congrArg (fun c=>c.calls.length) h4.st
      rw[Ej] at this
      have e1:g4.calls.length=g.calls.length:=by simpa[CG.st] using this
      omega
     have MN:=hid (show w5.ownsRow lo 125 1 (.slice sa g4.calls.length sc) g4.calls.length (g4.calls.map (fun m=>aJ m.blk)) by
      have:=h5.sV
      unfold uV at this
      rw[hsv,List.length_map,List.map_map] at this
      exact this)
     have LG:=hid hsv
     have H4:=hid h4
     have H5:=hid h5
     have Qn:=hid hS5
     have Hb5:=hid hb5
     have Uu:w4.heap.size<w5.heap.size:=hS5.lt
     have hzA:w5.heap.size<(w5.alloc (.cells #[.pointer (some ⟨w4.heap.size,0,none⟩)] 125)).heap.size:=by simp
     have aiT:lo≤w4.heap.size:=Nat.le_trans hlo3 h4.grow.c.size
     have aiU:=hid YP
     have HEM:=hid em
     obtain⟨L,hL⟩:∃ L,g4.calls.length=L:=⟨_,rfl⟩
     rw[hL] at Jc hl4 MN LG
     have HLL:=hid hL
     clear hI4 hB4 h4 h5 hS5 hb5 hsv YP em hL hcv
     go_wp2_with fail
     go_region
     all_goals
      go_wp2_with (at_builtin;refine eG _ rfl (.tmp 82) (.tmp 84) 94 125 (.pointer none) 1 8 rfl underlying94 Tryz.infodelCalD rfl (by decide) (.slice sa L sc) L (g4.calls.map (fun m=>aJ m.blk)) lo rfl (MN.out.alloc _) ⟨w5.heap.size,0,none⟩ 1 1 [.pointer (some ⟨w4.heap.size,0,none⟩)] rfl rfl (U1 _ _ _) (fun u hu=>by simp at hu;rw[hu];rfl) (L+1) rfl (g4.calls.map (fun m=>aJ m.blk)++[.pointer (some ⟨w4.heap.size,0,none⟩)]) rfl (by unfold maxLen;omega) (by omega) (by omega) ?_)
      intro a7 c7 w7 hown hgr
      have hav:∀ k,(Value.slice sa L sc).ownBlock=some k→g4.cv.ownBlock=some k:=fun k hk=>by rw[LG.out];exact hk
      have hcg:aG (fun k=>g4.cv.ownBlock=some k) w5 w7:=(aG.of_below ((Below.refl _ w5).alloc (Nat.le_refl _) _)).same (aG.grew hgr hav)
      have afh:aG (fun k=>g4.cv.ownBlock=some k) w4 w7:=(aG.of_below Hb5.out).same hcg
      have hL:=HLL.out
      have hP:=H4.out.cli.YK (w7:=w7) ⟨w4.heap.size,⟨g.called,g.next,ab,0,⟨#[]⟩⟩⟩ aiT (.slice a7 (L+1) c7) afh (by
       rw[List.length_append,List.map_append,hL]
       exact hown) (fun k hk=>by
       rcases hgr.b k hk with e | e
       ·exact Or.inl (hav k e)
       ·have:w5.heap.size≤(w5.alloc (.cells #[.pointer (some ⟨w4.heap.size,0,none⟩)] 125)).heap.size:=by omega
        exact Or.inr (by omega)) (Qn.out.dB hcg (fun e=>by
       have:=(H4.out.cli.sV.lt w4.heap.size e).2
       omega)) (Nat.le_refl _)
      obtain⟨DT,OQ,YL,hT9⟩:=hP
      rw[aiU.out] at DT OQ YL hT9
      rw[HEM.out] at YL hT9
      have e17:w7.cell? ⟨g.b,17,none⟩=some (.slice sa L sc):=(show w7.cell? ⟨g.b,17,none⟩=some g4.cv from DT.cell 17).trans (by rw[LG.out])
      have g17:=DT.frozen 17
      obtain⟨w8,hw8⟩:∃ w8,w7.setCell ⟨g.b,17,none⟩ (.slice a7 (L+1) c7)=w8:=⟨_,rfl⟩
      rw[hw8] at OQ YL hT9
      have e18:w8.cell? ⟨g.b,18,none⟩=some (.int .i64 g.called):=(show w8.cell? ⟨g.b,18,none⟩=some (.int .i64 g4.called) from OQ.cell 18).trans (by rw[HEM.out])
      have g18:=OQ.frozen 18
      obtain⟨w9,hw9⟩:∃ w9,w8.setCell ⟨g.b,18,none⟩ (.int .i64 ((g.called:Int)+1))=w9:=⟨_,rfl⟩
      rw[hw9] at YL hT9
      have q0:w9.cell? ⟨w4.heap.size,0,none⟩=some (.int .i64 g.called):=YL.cell 0
      have HT:=hid ((H4.out.before aiR.out).trans hT9)
      clear DT OQ YL hT9 hown hgr hav hcg afh hL
      go_wp2_with fail
      go_ret2
      have e:=HT.out
      rw[YN aiS.out H4.out.st] at e
      rw[Je.out,UM.out]
      exact Or.inr ⟨hfull,rfl,_,e⟩
end Go.Proofs.YtolfcabodiphmaaGreatDoor
