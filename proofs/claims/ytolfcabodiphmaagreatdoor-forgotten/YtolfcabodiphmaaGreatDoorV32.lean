/- Package ends: the server: Reply. -/
import Derived.Test.YtolfcabodiphmaaGreatDoorV31
set_option linter.unusedSimpArgs false
set_option linter.unusedVariables false
set_option maxHeartbeats 4000000
set_option maxRecDepth 100000
namespace Go.Proofs.YtolfcabodiphmaaGreatDoor
open Go.Proofs.Tryz
open Go.RowKit Go.Conc
theorem Wx{lo:Nat}{w:World}{g:SG}(h:Srv lo w g)(id:Nat)(u:ByteArray)(hx:g.owed.find? (fun x=>decide (x.1=id))=none):
  Calls Tryz.prog 65 #[.pointer (some ⟨g.b,0,none⟩),.int .i64 id,.string u] w (fun e w'=>e=.returned (.int .i64 16)∧Below w.heap.size w w'):=by
 have d15:w.cell? ⟨g.b,15,none⟩=some (.map (some g.mo)):=h.blk.cell 15
 have hlk:=yV h.tY hx
 clear h hx
 go_enter func65,ntmps65
 go_wp2_with fail
 go_ret
 exact⟨rfl,(Below.refl _ _).alloc (Nat.le_refl _) _⟩
theorem Wy{lo:Nat}{w:World}{g:SG}{X:List aO}{y:zK}{i0:Nat}(h:Srv lo w g)(hlo:lo≤w.heap.size)(hst:Stat lo w g.iv X)(hS:YU g.st)(id:Nat)(u:ByteArray)(hu:u.size≤maxLen)(hx:g.owed.find? (fun x=>decide (x.1=id))=some (i0,y))(d:List UInt8)(henc:∀ E d',Fh X y.answer u E d'→E=0∧d'=d){s:gy}(hs:g.aT=some s)(ht:s.token=y.token)(hne:s.number=y.session)(hal:s.answers.length≤1000000):
  Calls Tryz.prog 65 #[.pointer (some ⟨g.b,0,none⟩),.int .i64 id,.string u] w (fun e w'=>e=.returned (.int .i64 0)∧∃ g',dV lo w g (g.st.reply id d) w' g'):=by
 have d15:w.cell? ⟨g.b,15,none⟩=some (.map (some g.mo)):=h.blk.cell 15
 have hlk:(Instr.lookup 103 (.map (some g.mo)) (.int .i64 id) true).run Tryz.prog w=.ok (.tuple #[.agg #[.int .u64 y.token,.int .u64 y.session,.int .u64 y.request,.string y.answer],.bool true]) w:=yU h.tY hx
 have KF:Below w.heap.size w (w.alloc (.cells #[.int .u64 y.token,.int .u64 y.session,.int .u64 y.request,.string y.answer] 137)):=(Below.refl _ _).alloc (Nat.le_refl _) _
 have hBw1:aK (w.alloc (.cells #[.int .u64 y.token,.int .u64 y.session,.int .u64 y.request,.string y.answer] 137)) w.heap.size 137 [.int .u64 y.token,.int .u64 y.session,.int .u64 y.request,.string y.answer]:=heap_alloc_new w _
 obtain⟨w1,ajx⟩:∃ w1,w.alloc (.cells #[.int .u64 y.token,.int .u64 y.session,.int .u64 y.request,.string y.answer] 137)=w1:=⟨_,rfl⟩
 rw[ajx] at KF hBw1
 have b0:w1.cell? ⟨w.heap.size,0,none⟩=some (.int .u64 y.token):=hBw1.cell 0
 have b1:w1.cell? ⟨w.heap.size,1,none⟩=some (.int .u64 y.session):=hBw1.cell 1
 have b2:w1.cell? ⟨w.heap.size,2,none⟩=some (.int .u64 y.request):=hBw1.cell 2
 have b3:w1.cell? ⟨w.heap.size,3,none⟩=some (.string y.answer):=hBw1.cell 3
 have h1:=h.below KF
 have hst1:=hst.below KF
 obtain⟨pl,hi⟩:=hst1.i
 obtain⟨ia,ic,hiv⟩:∃ a c,g.iv=.slice a X.length c:=ay hi.own
 have e0:w1.cell? ⟨g.b,0,none⟩=some (.slice ia X.length ic):=(show w1.cell? ⟨g.b,0,none⟩=some g.iv from h1.blk.cell 0).trans (by rw[hiv])
 have OT:=hid hiv
 have HII:=hid (hiv ▸ hi:dK w1 pl (.slice ia X.length ic) X)
 have HX:=hid hst1.xo
 have HEI:=hid hst1.env
 have HOw:=hid hst1.own
 have HEN:=hid henc
 have H1:=hid h1
 have HW1:=hid hBw1
 have Hb1:=hid KF
 have hlo1:lo≤w1.heap.size:=Nat.le_trans hlo KF.size
 have HKP:=hid (show ∀ w',Below w1.heap.size w1 w'→(w'.cell? ⟨g.b,0,none⟩=some (.slice ia X.length ic)∧w'.cell? ⟨w.heap.size,3,none⟩=some (.string y.answer)) from fun w' hw'=>⟨(show w'.cell? ⟨g.b,0,none⟩=some g.iv from(h1.below hw').blk.cell 0).trans (by rw[hiv]),(hBw1.below hw').cell 3⟩)
 have HXF:=hid hx
 have HND:=hid hS.ow.1
 have HMO:=hid h.tY.lt
 have HE:=hid (fun(sd:ByteArray) (hsd:strOf d=sd)=>show g.st.reply id d=(if g.cur=true then({ g.st with owed:=(g.owed.filter (fun x=>!decide (x.1=id))),aT:=some { s.o with answers:=s.answers++[⟨12,s.token,s.number,y.request,0,sd⟩] } }:SP).post ⟨12,s.token,s.number,y.request,0,sd⟩ else { g.st with owed:=(g.owed.filter (fun x=>!decide (x.1=id))),aT:=some { s.o with answers:=s.answers++[⟨12,s.token,s.number,y.request,0,sd⟩] } }) by
  subst hsd
  unfold SP.reply
  rw[show g.st.owed.find? (fun x=>decide (x.1=id))=some (i0,y) from hx]
  simp only[SG.oAt hs,if_pos (show s.o.number=y.session from hne)]
  rfl)
 have Hs:=hid hs
 have Ht:=hid ht
 have b1:((s.number:Int) != (y.session:Int))=false:=by simp;omega
 clear h h1 hst hst1 hS hi hiv hx henc KF hBw1
 clear hs ht hne
 go_enter func65,ntmps65
 go_wp2_with fail
 go_region_held3 (fun w'=>w'.cell? ⟨g.b,0,none⟩=some (.slice ia X.length ic)∧w'.cell? ⟨w.heap.size,3,none⟩=some (.string y.answer))
  (exact HKP.out _ (by repeat (first | with_reducible assumption | with_reducible exact Hb2.out | with_reducible exact Below.refl _ _ | with_reducible apply Below.drew)))
  (first | (go_at_call 54;refine(zH w1.drew pl ia X.length ic X y.answer u (HII.out.below (Below.refl _ _).drew) HX.out (HEI.out.below (Below.refl _ _).drew) (fun cb hcb=>HOw.out cb (Nat.le_trans hlo1 hcb)) hu).mono ?_;rintro e w2 ⟨da,dc,d',E,rfl,hb2',hD2,hnil,hans⟩;have Hb2:=hid (show Below w1.heap.size w1 w2 from(Below.refl _ w1).drew.trans hb2');have HD:=hid (show gZ w2 w1.heap.size (.slice da d'.length dc) d' from hD2);have HAn:=hid hans;clear hb2' hD2 hnil hans))
 all_goals
  obtain⟨hE0,hdd⟩:=HEN.out _ _ HAn.out
  subst hE0 hdd
  have H2:=hid (H1.out.below Hb2.out)
  have HW2:=hid (HW1.out.below Hb2.out)
  have k15:w2.cell? ⟨g.b,15,none⟩=some (.map (some g.mo)):=H2.out.blk.cell 15
  obtain⟨w3,hdel,IV,hc3⟩:=Kv H2.out.tY HND.out HXF.out 0
  have kF:=H2.out.aaH IV hc3
  have hw3:=HW2.out.dB hc3 (fun e=>by have e:w.heap.size=g.mo:=e;have:=HMO.out;omega)
  have k10:w3.cell? ⟨g.b,10,none⟩=some (.map (some g.ms)):=kF.srv.blk.cell 10
  have k0:w3.cell? ⟨w.heap.size,0,none⟩=some (.int .u64 y.token):=hw3.cell 0
  have k1:w3.cell? ⟨w.heap.size,1,none⟩=some (.int .u64 y.session):=hw3.cell 1
  have k2:w3.cell? ⟨w.heap.size,2,none⟩=some (.int .u64 y.request):=hw3.cell 2
  have HT3:=hid ((dV.refl H1.out Hb2.out).trans kF)
  have HG3:=hid kF.srv
  have HW3:=hid hw3
  have Ja:=hid hc3
  clear IV kF hw3 hc3
  have hml:bF w3 g.ms [(y.token,s.blk)]:=by have:=HG3.out.iW;rw[show ({ g with owed:=(g.owed.filter (fun x=>!decide (x.1=id))) }:SG).aT=some s from Hs.out] at this;rw[← Ht.out];exact this
  have hlq:(Instr.lookup 100 (.map (some g.ms)) (.int .u64 y.token) false).run Tryz.prog w3=.ok (.pointer (some ⟨s.blk,0,none⟩)) w3:=dA hml
  have aoI:(Instr.lookup 100 (.map (some g.ms)) (.int .u64 y.token) false).run Tryz.prog w3.drew=.ok (.pointer (some ⟨s.blk,0,none⟩)) w3.drew:=dA hml.drew
  have c2:w3.cell? ⟨s.blk,2,none⟩=some (.int .u64 s.number):=(HG3.out.jm (s:=s) Hs.out).cell 2
  clear hml
  go_wp2_with fail
  go_region
  all_goals
   go_wp2_with fail
   go_quiet (fail)
   obtain⟨wz,hwz⟩:∃ wz,w3.drew.drewN nq=wz:=⟨_,rfl⟩
   have hbz:=below_drewN (Below.refl w3.heap.size w3).drew nq
   rw[hwz] at hbz ⊢
   have HGz:=hid (HG3.out.below hbz)
   have HSz:=hid (HGz.out.jm (s:=s) Hs.out)
   have HWz:=hid (HW3.out.below hbz)
   have z2:wz.cell? ⟨w.heap.size,2,none⟩=some (.int .u64 y.request):=HWz.out.cell 2
   have Nk:=hid hbz
   clear hwz hbz
   go_wp2_with fail
   obtain⟨x,HXe⟩:∃ x:ByteArray,Hid (x=⟨#[]⟩):=⟨_,hid rfl⟩
   refine(yS (s:=s) HSz.out 12 y.request).mono ?_;rintro e w4 ⟨he,hb4⟩;rw[← HXe.out] at he;subst he
   have hb5:Below w4.heap.size w4 (w4.alloc (.cells #[.int .u8 12,.int .u64 s.token,.int .u64 s.number,.int .u64 y.request,.int .u64 0,.string x] 124)):=(Below.refl _ _).alloc (Nat.le_refl _) _
   have TA:aK (w4.alloc (.cells #[.int .u8 12,.int .u64 s.token,.int .u64 s.number,.int .u64 y.request,.int .u64 0,.string x] 124)) w4.heap.size 124 [.int .u8 12,.int .u64 s.token,.int .u64 s.number,.int .u64 y.request,.int .u64 0,.string x]:=heap_alloc_new w4 _
   obtain⟨w5,hw5⟩:∃ w5,w4.alloc (.cells #[.int .u8 12,.int .u64 s.token,.int .u64 s.number,.int .u64 y.request,.int .u64 0,.string x] 124)=w5:=⟨_,rfl⟩
   rw[hw5] at hb5 TA
   have aco:=hb4.trans (hb5.mono hb4.size)
   have hD3:=Ja.out.own HD.out (fun k hk e=>by
    have e:k=g.mo:=e
    have h1:=(HD.out.lt k hk).1
    have h2:=HMO.out
    have h3:=Hb1.out.size
    omega)
   have afL:=Nk.out.trans (aco.mono Nk.out.size)
   have hD5:gZ w5 w1.heap.size (.slice da d'.length dc) d':=aC hD3 (fun k hk=>afL.block k (hD3.lt k hk).2)
   obtain⟨sd,hsd⟩:∃ sd,strOf d'=sd:=⟨_,rfl⟩
   have hcv:(convert 64 9 (.slice da d'.length dc)).run Tryz.prog w5=.ok (.string sd) w5:=by
    have:=hD5.rd.conv
    rw[hsd] at this
    exact this
   have q5:w5.cell? ⟨w4.heap.size,5,none⟩=some (.string x):=TA.cell 5
   have f5:=TA.frozen 5
   have Zg:aK (w5.setCell ⟨w4.heap.size,5,none⟩ (.string sd)) w4.heap.size 124 [.int .u8 12,.int .u64 s.token,.int .u64 s.number,.int .u64 y.request,.int .u64 0,.string sd]:=TA.set 5 _
   have Sj:Below wz.heap.size wz (w5.setCell ⟨w4.heap.size,5,none⟩ (.string sd)):=aco.setCell (p:=⟨w4.heap.size,5,none⟩) hb4.size _
   obtain⟨w6,hw6⟩:∃ w6,w5.setCell ⟨w4.heap.size,5,none⟩ (.string sd)=w6:=⟨_,rfl⟩
   rw[hw6] at Zg Sj
   have hG6:=HGz.out.below Sj
   have hS6:=HSz.out.below Sj
   obtain⟨aa,ac,hav⟩:=(hG6.yT (s:=s) Hs.out).rn.slice
   have s6:w6.cell? ⟨s.blk,6,none⟩=some (.slice aa s.answers.length ac):=(show w6.cell? ⟨s.blk,6,none⟩=some s.av from hS6.cell 6).trans (by rw[hav])
   have p0:w6.cell? ⟨w4.heap.size,0,none⟩=some (.int .u8 12):=Zg.cell 0
   have p1:w6.cell? ⟨w4.heap.size,1,none⟩=some (.int .u64 s.token):=Zg.cell 1
   have p2:w6.cell? ⟨w4.heap.size,2,none⟩=some (.int .u64 s.number):=Zg.cell 2
   have p3:w6.cell? ⟨w4.heap.size,3,none⟩=some (.int .u64 y.request):=Zg.cell 3
   have p4:w6.cell? ⟨w4.heap.size,4,none⟩=some (.int .u64 0):=Zg.cell 4
   have p5:w6.cell? ⟨w4.heap.size,5,none⟩=some (.string sd):=Zg.cell 5
   have hbN:=(iK (Below.refl w6.heap.size w6) (.cells #[.int .u8 12,.int .u64 s.token,.int .u64 s.number,.int .u64 y.request,.int .u64 0,.string sd] 124)).drew
   have ajA:lo≤w6.heap.size:=Nat.le_trans hlo1 (Nat.le_trans Hb2.out.size (Nat.le_trans Ja.out.size (Nat.le_trans Nk.out.size Sj.size)))
   obtain⟨a',c',w7,RU,Tz,hf7,Sl,OX⟩:=(hG6.below hbN).ai5 (s:=s) Hs.out (Nat.le_trans ajA hbN.size) hal (nb:=w6.heap.size) (x:=⟨12,s.token,s.number,y.request,0,sd⟩) (aK.drew (heap_alloc_new w6 _)) hav
   have s6N:(w6.alloc (.cells #[.int .u8 12,.int .u64 s.token,.int .u64 s.number,.int .u64 y.request,.int .u64 0,.string sd] 124)).drew.cell? ⟨s.blk,6,none⟩=some (.slice aa s.answers.length ac):=(show _=some s.av from(hS6.below hbN).cell 6).trans (by rw[hav])
   have afM:s.av.ownBlock≠some w4.heap.size:=fun e=>by have h1:=(HGz.out.Ns (s:=s) Hs.out).lt _ e;have h2:=hb4.size;omega
   have hN7:=(Zg.below hbN).dB Sl afM
   have hsb:s.blk<wz.heap.size:=HSz.out.lt
   have O4:aK (w7.setCell ⟨s.blk,6,none⟩ (.slice a' (s.answers.length+1) c')) w4.heap.size 124 [.int .u8 12,.int .u64 s.token,.int .u64 s.number,.int .u64 y.request,.int .u64 0,.string sd]:=hN7.dB ((aG.refl (fun k=>k=s.blk) w7).setCell ⟨s.blk,6,none⟩ _ (fun _=>rfl)) (fun e=>by have e:w4.heap.size=s.blk:=e;have h2:=hb4.size;omega)
   obtain⟨w8,hw8⟩:∃ w8,w7.setCell ⟨s.blk,6,none⟩ (.slice a' (s.answers.length+1) c')=w8:=⟨_,rfl⟩
   rw[hw8] at OX O4
   have HR7:=hid RU
   have Dn:=hid (((HT3.out.before Hb1.out).below (Nk.out.trans (Sj.mono Nk.out.size))).trans ((dV.refl hG6 hbN).trans OX))
   have HN8:=hid O4
   have UM:=hid hsd
   have u0:w8.cell? ⟨w4.heap.size,0,none⟩=some (.int .u8 12):=O4.cell 0
   have u1:w8.cell? ⟨w4.heap.size,1,none⟩=some (.int .u64 s.token):=O4.cell 1
   have u2:w8.cell? ⟨w4.heap.size,2,none⟩=some (.int .u64 s.number):=O4.cell 2
   have u3:w8.cell? ⟨w4.heap.size,3,none⟩=some (.int .u64 y.request):=O4.cell 3
   have u4:w8.cell? ⟨w4.heap.size,4,none⟩=some (.int .u64 0):=O4.cell 4
   have u5:w8.cell? ⟨w4.heap.size,5,none⟩=some (.string sd):=O4.cell 5
   clear hb4 hb5 TA aco hD3 afL hD5 Zg Sj hG6 hS6 hav hbN RU Sl OX afM hN7 O4 hsd
   have HG8:=hid Dn.out.srv
   rcases Bool.eq_false_or_eq_true g.cur with hcur | hcur
   ·have k11:w8.cell? ⟨g.b,11,none⟩=some (.pointer (some ⟨s.blk,0,none⟩)):=(show w8.cell? ⟨g.b,11,none⟩=some _ from HG8.out.blk.cell 11).trans (by unfold SG.jB;simp only[hcur];rfl)
    have hq:∀ w',(binOp .eql 101 (.pointer (some ⟨s.blk,0,none⟩)) (.pointer (some ⟨s.blk,0,none⟩))).run Tryz.prog w'=.ok (.bool true) w':=fun w'=>xP w' _
    have HEE:=hid ((HE.out sd UM.out).trans (if_pos hcur))
    clear hcur
    go_wp2_with fail
    go_region_law (refine fQ rfl (.tmp 73) (.tmp 75) 92 rfl _ _ rfl rfl _ w7 HR7.out ?_)
    all_goals
     go_wp2_with fail
     go_region_with (go_at_call 71;refine(HG8.out.drew.post ⟨12,s.token,s.number,y.request,0,sd⟩).mono ?_;rintro e w9 ⟨rfl,h9,_⟩;have H9:=hid h9;clear h9)
     all_goals
      go_wp2_with fail
      go_ret
      exact⟨rfl,_,by rw[HEE.out];exact Dn.out.trans (H9.out.before (Below.refl _ w8).drew)⟩
   ·have k11:w8.cell? ⟨g.b,11,none⟩=some (.pointer none):=(show w8.cell? ⟨g.b,11,none⟩=some _ from HG8.out.blk.cell 11).trans (by unfold SG.jB;simp only[hcur])
    have hq:∀ w',(binOp .eql 101 (.pointer none) (.pointer (some ⟨s.blk,0,none⟩))).run Tryz.prog w'=.ok (.bool false) w':=fun w'=>Ia w' _
    have HEE:=hid ((HE.out sd UM.out).trans (if_neg (by rw[hcur];simp)))
    clear hcur
    go_wp2_with fail
    go_region_law (refine fQ rfl (.tmp 73) (.tmp 75) 92 rfl _ _ rfl rfl _ w7 HR7.out ?_)
    all_goals
     go_wp2_with fail
     go_ret
     exact⟨rfl,_,by rw[HEE.out];exact Dn.out⟩
end Go.Proofs.YtolfcabodiphmaaGreatDoor
