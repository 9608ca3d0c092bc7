/- Package ends: the server: request. -/
import Derived.Test.YtolfcabodiphmaaGreatDoorV23
import Derived.Test.YtolfcabodiphmaaGreatDoorV02
import Derived.Test.YtolfcabodiphmaaGreatDoorV21
import Derived.Test.YtolfcabodiphmaaGreatDoorShelf6
set_option linter.unusedSimpArgs false
set_option linter.unusedVariables false
set_option maxHeartbeats 4000000
set_option maxRecDepth 100000
namespace Go.Proofs.YtolfcabodiphmaaGreatDoor
open Go.Proofs.Tryz
open Go.RowKit Go.Conc
theorem SP.Nq{W:Nat}{s:SP}{p:aP}(h:s.oI p=false):s.request W p=(s.post (fK 13 p.token p.session 0 0),false):=by
 unfold SP.request
 simp only[SP.jM,h,Bool.false_eq_true,if_false,SP.Ap h]
theorem SP.Kw{W:Nat}{s:SP}{p:aP}{o:IU}(h:s.oI p=true)(ho:(s.aW W p).1.aT=some o)(hn:¬ p.number=o.next):s.request W p=((s.aW W p).1.post o.heard,false):=by
 unfold SP.request
 simp only[SP.jM,h,if_true,ho,if_neg hn]
theorem SP.Ig{W:Nat}{s:SP}{p:aP}{o:IU}(h:s.oI p=true)(ho:(s.aW W p).1.aT=some o)(hn:p.number=o.next):s.request W p=({ (s.aW W p).1 with aT:=some { o with next:=o.next+1 } }.post { o with next:=o.next+1 }.heard,true):=by
 unfold SP.request
 simp only[SP.jM,h,if_true,ho,if_pos hn]
theorem V6{lo:Nat}{w:World}{g:SG}(h:Srv lo w g)(p:aP)(hS:SSp g.st)(hW:g.W≤1000)(hp:p.number≤1000000000000)(ht:∀ s,g.aT=some s→s.token=p.token)(ho:g.st.oI p=true)(h2:(g.st.request g.W p).2=true):
  Calls Tryz.prog 168 #[.pointer (some ⟨g.b,0,none⟩),.agg #[.int .u8 p.kind,.int .u64 p.token,.int .u64 p.session,.int .u64 p.number,.int .u64 p.position,.string p.data]] w (fun e w'=>∃ b,e=.returned (.pointer (some ⟨b,0,none⟩))∧∃ g',dV lo w g (g.st.request g.W p).1 w' g'∧g'.aT.map (fun s=>s.blk)=some b):=by
 have hbw0:Below w.heap.size w (w.alloc (.cells #[.int .u8 p.kind,.int .u64 p.token,.int .u64 p.session,.int .u64 p.number,.int .u64 p.position,.string p.data] 124)):=(Below.refl _ _).alloc (Nat.le_refl _) _
 have au:aK (w.alloc (.cells #[.int .u8 p.kind,.int .u64 p.token,.int .u64 p.session,.int .u64 p.number,.int .u64 p.position,.string p.data] 124)) w.heap.size 124 [.int .u8 p.kind,.int .u64 p.token,.int .u64 p.session,.int .u64 p.number,.int .u64 p.position,.string p.data]:=heap_alloc_new w _
 obtain⟨w0,dw⟩:∃ w0,w.alloc (.cells #[.int .u8 p.kind,.int .u64 p.token,.int .u64 p.session,.int .u64 p.number,.int .u64 p.position,.string p.data] 124)=w0:=⟨_,rfl⟩
 rw[dw] at hbw0 au
 have e0:w0.cell? ⟨w.heap.size,0,none⟩=some (.int .u8 p.kind):=au.cell 0
 have e1:w0.cell? ⟨w.heap.size,1,none⟩=some (.int .u64 p.token):=au.cell 1
 have e2:w0.cell? ⟨w.heap.size,2,none⟩=some (.int .u64 p.session):=au.cell 2
 have e3:w0.cell? ⟨w.heap.size,3,none⟩=some (.int .u64 p.number):=au.cell 3
 have e4:w0.cell? ⟨w.heap.size,4,none⟩=some (.int .u64 p.position):=au.cell 4
 have e5:w0.cell? ⟨w.heap.size,5,none⟩=some (.string p.data):=au.cell 5
 obtain⟨s,hs,hn⟩:=SG.Dh ho
 have ht:=ht s hs
 have H0:=hid (h.below hbw0)
 have Hb0:=hid hbw0
 have Hs:=hid hs
 have Ht:=hid ht
 have Hn:=hid hn
 have HS:=hid hS
 have HO:=hid ho
 have HB0:=hid au
 have Aj:=hid (show ¬ Key g.res w.heap.size from h.lM)
 have H2:=hid h2
 clear h hS ht hs hn ho h2 hbw0 au
 go_enter func168,ntmps168
 go_wp2_with fail
 refine(Df (s:=s) H0.out p HS.out hW Hs.out Ht.out Hn.out).mono ?_;rintro e w1 ⟨rfl,g1,h1,hk1⟩;have H1:=hid (h1.before Hb0.out);have hB1:=(h1.blk HB0.out Aj.out).1;have y3:w1.cell? ⟨w.heap.size,3,none⟩=some (.int .u64 p.number):=hB1.cell 3;have HB1:=hid hB1;clear hB1;have HK1:=hid hk1;clear h1 hk1
 obtain⟨s1,hs1,hb1⟩:=SG.OV HK1.out
 have Np:=hid hs1
 have hgb:g1.b=g.b:=H1.out.b
 have VP:=hid (H1.out.srv.jm hs1)
 rw[← hb1]
 have BP:=hid (show (g.st.aW g.W p).1.aT=some s1.o from(congrArg SP.aT H1.out.st).symm.trans (SG.oAt hs1))
 clear hs1 hb1
 have hne:p.number=s1.next:=by
  by_cases e:p.number=s1.next
  ·exact e
  ·have:=H2.out
   rw[SP.Kw HO.out BP.out e] at this
   cases this
 have HE:=hid (SP.Ig HO.out BP.out hne)
 have x4:w1.cell? ⟨s1.blk,4,none⟩=some (.int .u64 s1.next):=VP.out.cell 4
 have b1:((p.number:Int)==(s1.next:Int))=true:=by simp;omega
 have hnb:s1.next≤1000000000000:=by omega
 have hww:IntKind.u64.wrap ((s1.next:Int)+1)=(s1.next:Int)+1:=by rw[IntKind.wrap_u64];omega
 rw[← hgb]
 clear hgb hne
 go_wp2_with fail
 go_quiet (fail)
 obtain⟨wz,hwz⟩:∃ wz,w1.drewN nq=wz:=⟨_,rfl⟩
 have hbz:=below_drewN (Below.refl w1.heap.size w1) nq
 rw[hwz] at hbz ⊢
 have hSz:=VP.out.below hbz
 have hGz:=H1.out.srv.below hbz
 have z4:wz.cell? ⟨s1.blk,4,none⟩=some (.int .u64 s1.next):=hSz.cell 4
 have v4:=hSz.frozen 4
 have hB4:aK (wz.setCell ⟨s1.blk,4,none⟩ (.int .u64 ((s1.next:Int)+1))) s1.blk 132 (fJ { s1 with next:=s1.next+1 }):=hSz.set 4 _
 have hc4:aG (fun k=>k=s1.blk) wz (wz.setCell ⟨s1.blk,4,none⟩ (.int .u64 ((s1.next:Int)+1))):=(aG.refl (fun k=>k=s1.blk) wz).setCell ⟨s1.blk,4,none⟩ _ (fun _=>rfl)
 have HT:=hid ((H1.out.same.below hbz).trans (hGz.C9 (s':={ s1 with next:=s1.next+1 }) Np.out hc4 hB4 rfl rfl ⟨rfl,rfl,rfl,rfl⟩))
 obtain⟨wy,hwy⟩:∃ wy,wz.setCell ⟨s1.blk,4,none⟩ (.int .u64 ((s1.next:Int)+1))=wy:=⟨_,rfl⟩
 rw[hwy] at HT hB4
 have HSX:=hid hB4
 have HGX:=hid HT.out.srv
 clear hwz hbz hSz hGz hB4 hc4
 go_wp2_with fail
 go_region_with (first | (go_at_call 81;refine(Hy (w:=wy.drew) (s:={ s1 with next:=s1.next+1 }) HSX.out).mono ?_;rintro e w2 ⟨rfl,hb2⟩) | (go_at_call 71;refine((HGX.out.drew.below hb2).post (fK 7 s1.token s1.number (s1.next+1) 0)).mono ?_;rintro e w3 ⟨rfl,h3,_⟩;have H3:=hid h3;clear h3))
 all_goals
  go_wp2_with fail
  go_ret
  exact⟨s1.blk,rfl,_,by rw[HE.out];exact(by rw[← H1.out.st];exact HT.out.trans (H3.out.before ((Below.refl _ wy).drew.trans hb2))),rfl⟩
theorem Nr{lo:Nat}{w:World}{g:SG}(h:Srv lo w g)(hlo:lo≤w.heap.size)(hbg:g.begun≤1000000000000)(p:aP)(hs:g.aT=none):
  Calls Tryz.prog 120 #[.pointer (some ⟨g.b,0,none⟩),.agg #[.int .u8 p.kind,.int .u64 p.token,.int .u64 p.session,.int .u64 p.number,.int .u64 p.position,.string p.data]] w (fun e w'=>e=.returned (.tuple #[])∧∃ g',dV lo w g (g.st.hello p) w' g'):=by
 have hbw0:Below w.heap.size w (w.alloc (.cells #[.int .u8 p.kind,.int .u64 p.token,.int .u64 p.session,.int .u64 p.number,.int .u64 p.position,.string p.data] 124)):=(Below.refl _ _).alloc (Nat.le_refl _) _
 have au:aK (w.alloc (.cells #[.int .u8 p.kind,.int .u64 p.token,.int .u64 p.session,.int .u64 p.number,.int .u64 p.position,.string p.data] 124)) w.heap.size 124 [.int .u8 p.kind,.int .u64 p.token,.int .u64 p.session,.int .u64 p.number,.int .u64 p.position,.string p.data]:=heap_alloc_new w _
 obtain⟨w0,dw⟩:∃ w0,w.alloc (.cells #[.int .u8 p.kind,.int .u64 p.token,.int .u64 p.session,.int .u64 p.number,.int .u64 p.position,.string p.data] 124)=w0:=⟨_,rfl⟩
 rw[dw] at hbw0 au
 have e0:w0.cell? ⟨w.heap.size,0,none⟩=some (.int .u8 p.kind):=au.cell 0
 have e1:w0.cell? ⟨w.heap.size,1,none⟩=some (.int .u64 p.token):=au.cell 1
 have e2:w0.cell? ⟨w.heap.size,2,none⟩=some (.int .u64 p.session):=au.cell 2
 have e3:w0.cell? ⟨w.heap.size,3,none⟩=some (.int .u64 p.number):=au.cell 3
 have e4:w0.cell? ⟨w.heap.size,4,none⟩=some (.int .u64 p.position):=au.cell 4
 have e5:w0.cell? ⟨w.heap.size,5,none⟩=some (.string p.data):=au.cell 5
 have h0:=h.below hbw0
 have hm:bF w0 g.ms []:=by have:=h0.iW;rw[hs] at this;exact this
 have d10:w0.cell? ⟨g.b,10,none⟩=some (.map (some g.ms)):=h0.blk.cell 10
 have hlk:(Instr.lookup 100 (.map (some g.ms)) (.int .u64 p.token) false).run Tryz.prog w0=.ok (.pointer none) w0:=iC hm p.token
 have hlk2:(Instr.lookup 100 (.map (some g.ms)) (.int .u64 p.token) false).run Tryz.prog w0.drew=.ok (.pointer none) w0.drew:=iC hm.drew p.token
 have H0:=hid h0
 have Hb0:=hid hbw0
 have HB0:=hid au
 have Hs:=hid hs
 have HGB:=hid h.blk.lt
 have HL:=hid (show g.aT.toList.map (fun s=>(s.token,s.blk))=[]∨∃ b0,g.aT.toList.map (fun s=>(s.token,s.blk))=[(p.token,b0)] from Or.inl (by rw[hs];rfl))
 have HE:=hid (show g.st.hello p=({ g.st with aT:=some ⟨p.token,p.number,g.begun+1,0,0,[],[]⟩,cur:=true,begun:=g.begun+1 }:SP).post (fK 6 p.token (g.begun+1) p.number 0) by
  unfold SP.hello
  rw[show g.st.aT=none by unfold SG.st;rw[hs];rfl]
  simp only[if_true]
  rfl)
 have hwb:IntKind.u64.wrap ((g.begun:Int)+1)=(g.begun:Int)+1:=by rw[IntKind.wrap_u64];omega
 clear h h0 hm hs hbw0 au
 go_enter func120,ntmps120
 go_wp2_with fail
 go_region
 all_goals
  go_wp2_with fail
  go_quiet (fail)
  obtain⟨wz,hwz⟩:∃ wz,w0.drew.drewN nq=wz:=⟨_,rfl⟩
  have hbz:=below_drewN (Below.refl w0.heap.size w0).drew nq
  rw[hwz] at hbz ⊢
  have HZ:=hid (H0.out.below hbz)
  have Nj:=hid (HB0.out.below hbz)
  have Nk:=hid (Hb0.out.trans (hbz.mono Hb0.out.size))
  have y1:wz.cell? ⟨w.heap.size,1,none⟩=some (.int .u64 p.token):=Nj.out.cell 1
  have y3:wz.cell? ⟨w.heap.size,3,none⟩=some (.int .u64 p.number):=Nj.out.cell 3
  have RJ:=hid hbz
  clear hwz hbz
  have z12:wz.cell? ⟨g.b,12,none⟩=some (.int .u64 g.begun):=HZ.out.blk.cell 12
  have v12:=HZ.out.blk.frozen 12
  have hcA:aG (fun k=>k=g.b) wz (wz.setCell ⟨g.b,12,none⟩ (.int .u64 ((g.begun:Int)+1))):=(aG.refl _ _).setCell _ _ (fun _=>rfl)
  have hBA:=HZ.out.blk.set 12 (.int .u64 ((g.begun:Int)+1))
  have hPA:=Nj.out.dB hcA (fun e=>by have:w.heap.size=g.b:=e;have:=HGB.out;omega)
  obtain⟨wA,hwA⟩:∃ wA,wz.setCell ⟨g.b,12,none⟩ (.int .u64 ((g.begun:Int)+1))=wA:=⟨_,rfl⟩
  rw[hwA] at hcA hBA hPA
  have a12:wA.cell? ⟨g.b,12,none⟩=some (.int .u64 ((g.begun:Int)+1)):=hBA.cell 12
  have a10:wA.cell? ⟨g.b,10,none⟩=some (.map (some g.ms)):=hBA.cell 10
  have a1:wA.cell? ⟨w.heap.size,1,none⟩=some (.int .u64 p.token):=hPA.cell 1
  have a3:wA.cell? ⟨w.heap.size,3,none⟩=some (.int .u64 p.number):=hPA.cell 3
  have hbB:Below wA.heap.size wA (wA.drew.alloc (.cells #[.int .u64 p.token,.int .u64 p.number,.int .u64 ((g.begun:Int)+1),.int .i64 0,.int .u64 0,.slice none 0 0,.slice none 0 0] 132)):=iK (Below.refl wA.heap.size wA).drew _
  have Ih:aK (wA.drew.alloc (.cells #[.int .u64 p.token,.int .u64 p.number,.int .u64 ((g.begun:Int)+1),.int .i64 0,.int .u64 0,.slice none 0 0,.slice none 0 0] 132)) wA.heap.size 132 [.int .u64 p.token,.int .u64 p.number,.int .u64 ((g.begun:Int)+1),.int .i64 0,.int .u64 0,.slice none 0 0,.slice none 0 0]:=heap_alloc_new wA.drew _
  have hPB:=hPA.below hbB
  have hGB:=hBA.below hbB
  have hmA:bF wA g.ms (g.aT.toList.map (fun s=>(s.token,s.blk))):=HZ.out.iW.dB hcA HZ.out.RF
  have YJ:=hmA.dB (aG.of_below (F:=fun _=>False) hbB) id
  obtain⟨wB,hwB⟩:∃ wB,wA.drew.alloc (.cells #[.int .u64 p.token,.int .u64 p.number,.int .u64 ((g.begun:Int)+1),.int .i64 0,.int .u64 0,.slice none 0 0,.slice none 0 0] 132)=wB:=⟨_,rfl⟩
  rw[hwB] at hbB Ih hPB hGB YJ
  have q10:wB.cell? ⟨g.b,10,none⟩=some (.map (some g.ms)):=hGB.cell 10
  have q1:wB.cell? ⟨w.heap.size,1,none⟩=some (.int .u64 p.token):=hPB.cell 1
  obtain⟨wC,hup,hmC,hcC⟩:=Nc (b:=wA.heap.size) YJ.drew HL.out
  have hup:(Instr.mapUpdate 100 (.map (some g.ms)) (.int .u64 p.token) (.pointer (some ⟨wA.heap.size,0,none⟩))).run Tryz.prog wB.drew=.ok () wC:=hup
  have aoc:g.ms<wA.heap.size:=hmA.lt
  have TB:=aK.dB (w:=wB.drew) Ih hcC (fun e=>by have:wA.heap.size=g.ms:=e;omega)
  have hPC:=aK.dB (w:=wB.drew) hPB hcC (fun e=>by
   have e:w.heap.size=g.ms:=e
   have h1:wB.heap[w.heap.size]? = _:=hPB
   obtain⟨es,cl,h2,_⟩:=YJ
   rw[← e] at h2
   rw[h1] at h2
   cases h2)
  have hGC:=aK.dB (w:=wB.drew) hGB hcC (fun e=>HZ.out.RF (Eq.symm e))
  have t1:wC.cell? ⟨wA.heap.size,1,none⟩=some (.int .u64 p.number):=TB.cell 1
  have t3:wC.cell? ⟨w.heap.size,3,none⟩=some (.int .u64 p.number):=hPC.cell 3
  have b9:((p.number:Int)==(p.number:Int))=true:=by simp
  have HmC:=hid hmC
  have HBC:=hid TB
  have HGC:=hid hGC
  have HzA:=hid hcA
  have HzB:=hid hbB
  have HzC:=hid hcC
  have hzz:wz.heap.size≤wA.heap.size:=hcA.size
  clear hBA hPA hbB Ih hPB hGB hmA YJ hmC TB hPC hGC hcA hcC
  go_wp2_with fail
  go_region
  all_goals
   go_wp2_with fail
   go_region
   all_goals
    go_wp2_with fail
    go_quiet (fail)
    obtain⟨wy,hwy⟩:∃ wy,wC.drewN nq=wy:=⟨_,rfl⟩
    have hby:=below_drewN (Below.refl wC.heap.size wC) nq
    rw[hwy] at hby ⊢
    have hGy:=HGC.out.below hby
    have hSy:=HBC.out.below hby
    have y11:wy.cell? ⟨g.b,11,none⟩=some g.jB:=hGy.cell 11
    have v11:=hGy.frozen 11
    have hcD:aG (fun k=>k=g.b) wy (wy.setCell ⟨g.b,11,none⟩ (.pointer (some ⟨wA.heap.size,0,none⟩))):=(aG.refl _ _).setCell _ _ (fun _=>rfl)
    have hBD:aK (wy.setCell ⟨g.b,11,none⟩ (.pointer (some ⟨wA.heap.size,0,none⟩))) g.b 105 ({ g with aT:=some ⟨wA.heap.size,p.token,p.number,g.begun+1,0,0,.slice none 0 0,[],.slice none 0 0,[]⟩,cur:=true,begun:=g.begun+1 }:SG).cells:=hGy.set 11 _
    have hSD:=hSy.dB hcD (fun e=>by have e:wA.heap.size=g.b:=e;have:=HGB.out;have:=Nk.out.size;omega)
    have hmD:=(HmC.out.dB (aG.of_below (F:=fun _=>False) hby) id).dB hcD HZ.out.RF
    have hcZ:aG (fun k=>k=g.b∨k=g.ms) wz (wy.setCell ⟨g.b,11,none⟩ (.pointer (some ⟨wA.heap.size,0,none⟩))):=(HzA.out.mono (fun _ _ e=>Or.inl e)).same ((aG.of_below (HzB.out.drew)).same ((HzC.out.mono (fun _ _ e=>Or.inr e)).same ((aG.of_below hby).same (hcD.mono (fun _ _ e=>Or.inl e)))))
    have hN:=HZ.out.newS (tok:=p.token) (YZ:=p.number) (num:=g.begun+1) (Nat.le_trans hlo Nk.out.size) hzz hBD hSD hmD hcZ
    obtain⟨wD,hwD⟩:∃ wD,wy.setCell ⟨g.b,11,none⟩ (.pointer (some ⟨wA.heap.size,0,none⟩))=wD:=⟨_,rfl⟩
    rw[hwD] at hN hSD
    have UM:=hid hSD
    have HN:=hid hN
    have x1:wD.cell? ⟨wA.heap.size,1,none⟩=some (.int .u64 p.number):=hSD.cell 1
    clear hby hGy hSy hcD hBD hSD hmD hcZ hN hwy
    go_wp2_with fail
    go_region_with (first | (go_at_call 90;refine(yS (w:=wD.drew) (s:=⟨wA.heap.size,p.token,p.number,g.begun+1,0,0,.slice none 0 0,[],.slice none 0 0,[]⟩) UM.out 6 p.number).mono ?_;rintro e w2 ⟨rfl,hb2⟩) | (go_at_call 71;refine((HN.out.srv.drew.below hb2).post (fK 6 p.token (g.begun+1) p.number 0)).mono ?_;rintro e w3 ⟨rfl,h3,_⟩;have H3:=hid h3;clear h3))
    all_goals
     go_wp2_with fail
     go_end0
     exact⟨rfl,_,by rw[HE.out];exact(HN.out.before Nk.out).trans (H3.out.before ((Below.refl _ wD).drew.trans hb2))⟩
theorem Tryz.infoQu:(Tryz.prog.info? 139).map (fun i=>(i.zero,i.size,i.bytes))=some (some (.agg #[.string ⟨#[]⟩,.string ⟨#[]⟩,.int .u64 0,.int .u64 0,.int .u64 0,.string ⟨#[]⟩]),6,72):=by kernel_rfl
theorem RN(l:List Lp)(x:Lp):oV (l++[x])=oV l++CW x:=by unfold oV;simp
theorem Srv.sF{lo:Nat}{w:World}{g:SG}(h:Srv lo w g):w.ownsRow lo 139 6 g.wv g.waits.length (oV g.waits) :=
 h.has.own h.rw (fun p hp=>by unfold SG.res SG.rest;simp only[List.mem_append];exact Or.inr (Or.inr (Or.inr (Or.inr (Or.inr (Or.inr (Or.inl hp)))))))
theorem Srv.aaI{lo:Nat}{w w':World}{g:SG}{wv':Value}{q':List Lp}{OW:Nat}(h:Srv lo w g)(hc:aG (fun k=>k=g.b∨g.wv.ownBlock=some k) w w')(hB:aK w' g.b 105 ({ g with wv:=wv',waits:=q',given:=OW }:SG).cells)(hA:w'.ownsRow lo 139 6 wv' q'.length (oV q'))(hnew:∀ k,wv'.ownBlock=some k→g.wv.ownBlock=some k∨w.heap.size≤k):
  dV lo w g { g.st with waits:=q',given:=OW } w' { g with wv:=wv',waits:=q',given:=OW }:=by
 obtain⟨hA1,hA2⟩:=jR hA (by decide)
 have hh:Has lo w' (({ g with wv:=wv',waits:=q',given:=OW }:SG).aU++({ g with wv:=wv',waits:=q',given:=OW }:SG).oW):=aA.2 ⟨dH h.Oa hB (by decide),hA1,fun a ha c hc' e=>by
  rw[List.mem_singleton.1 ha] at e
  have hk:=(bQ (e:=139) hA2).1 ⟨c,hc',rfl⟩
  have e':g.b=c.1:=e
  rw[← e'] at hk
  exact hB.dF hA (by decide) hk⟩
 have hg:Grow w (g.aU++g.oW) w' (({ g with wv:=wv',waits:=q',given:=OW }:SG).aU++({ g with wv:=wv',waits:=q',given:=OW }:SG).oW):=⟨hc.mono (fun i _ hi=>by
  rcases hi with rfl | hi
  ·exact Key.app.2 (Or.inl (Key.one.2 rfl))
  ·exact Key.app.2 (Or.inr ((bQ h.rw).2 hi))),fun k hk=>by
  rcases Key.app.1 hk with e | e
  ·exact Or.inl (Key.app.2 (Or.inl (Key.one.2 (show k=g.b from Key.one.1 e))))
  ·rcases hnew k ((bQ hA2).1 e) with e | e
   ·exact Or.inl (Key.app.2 (Or.inr ((bQ h.rw).2 e)))
   ·exact Or.inr e⟩
 have p1:g.res.Perm ((g.aU++g.oW)++(g.aQ++(g.rowT++(g.qL++(g.lH++(g.nJ++g.qM)))))):=aY (fun p=>by unfold SG.res SG.rest;simp only[aH];omega)
 have p2:((({ g with wv:=wv',waits:=q',given:=OW }:SG).aU++({ g with wv:=wv',waits:=q',given:=OW }:SG).oW)++(g.aQ++(g.rowT++(g.qL++(g.lH++(g.nJ++g.qM)))))).Perm ({ g with wv:=wv',waits:=q',given:=OW }:SG).res:=aY (fun p=>by
  show _=cnt p (({ g with wv:=wv',waits:=q',given:=OW }:SG).aU++(g.aQ++(g.rowT++(g.qL++(g.lH++(g.nJ++(({ g with wv:=wv',waits:=q',given:=OW }:SG).oW++g.qM)))))))
  simp only[aH];omega)
 exact⟨⟨((h.has.perm p1).swap hh hg).perm p2,h.rt,h.tp,h.ss,hA2⟩,rfl,hg.swap.perm p1.symm p2,rfl,rfl,rfl,rfl,rfl⟩
theorem Srv.appW{lo:Nat}{w:World}{g:SG}(h:Srv lo w g)(hlo:lo≤w.heap.size)(hn:g.waits.length≤1000000){nb:Nat}{T:TypeId}{x:Lp}(hN:aK w nb T (CW x)){aa:Option Addr}{ac:Nat}(hv:g.wv=.slice aa g.waits.length ac):
  ∃ a' c' w',(Builtin.append_ #[102,102] 102 #[.slice aa g.waits.length ac,.slice (some ⟨nb,0,none⟩) 1 1]).run Tryz.prog w=.ok (.slice a' (g.waits.length+1) c') w'∧w'.cell? ⟨g.b,13,none⟩=some (.slice aa g.waits.length ac)∧w'.frozen? ⟨g.b,13,none⟩=false∧dV lo w g { g.st with waits:=g.waits++[x] } (w'.setCell ⟨g.b,13,none⟩ (.slice a' (g.waits.length+1) c')) { g with wv:=.slice a' (g.waits.length+1) c',waits:=g.waits++[x] }:=by
 have hA:=h.sF
 have hA':=hA
 rw[hv] at hA'
 obtain⟨a',c',w4,hr,Tn,hg4⟩:=jU w 102 102 139 _ 6 72 underlying102 Tryz.infoQu rfl (by decide) (.slice aa g.waits.length ac) g.waits.length (oV g.waits) lo hA' ⟨nb,0,none⟩ 1 1 (CW x) rfl (fun j u hu=>by
  rw[fE _ _ rfl]
  have:=hN.cell (0+j)
  rw[this]
  simpa using hu) (fun u hu=>by simp at hu;rcases hu with rfl | rfl | rfl | rfl | rfl | rfl<;>rfl) (by unfold maxLen;omega) (by omega) hlo
 have zM:∀ k,(Value.slice aa g.waits.length ac).ownBlock=some k→g.wv.ownBlock=some k:=fun k hk=>by rw[hv];exact hk
 have hc4:aG (fun k=>g.wv.ownBlock=some k) w w4:=aG.grew hg4 zM
 have hnb:=h.blk.dF hA (by decide)
 have hB4:=h.blk.dB hc4 hnb
 have hnb':(Value.slice a' (g.waits.length+1) c').ownBlock≠some g.b:=hB4.dF Tn (by decide)
 have hc5:aG (fun k=>k=g.b) w4 (w4.setCell ⟨g.b,13,none⟩ (.slice a' (g.waits.length+1) c')):=(aG.refl _ _).setCell _ _ (fun _=>rfl)
 have XQ:=hc5.own Tn (fun k hk e=>hnb' (e ▸ hk))
 have Ac:aK (w4.setCell ⟨g.b,13,none⟩ (.slice a' (g.waits.length+1) c')) g.b 105 ({ g with wv:=.slice a' (g.waits.length+1) c',waits:=g.waits++[x],given:=g.given }:SG).cells:=hB4.set 13 _
 refine⟨a',c',w4,hr,(show w4.cell? ⟨g.b,13,none⟩=some g.wv from hB4.cell 13).trans (by rw[hv]),hB4.frozen 13,?_⟩
 exact h.aaI (OW:=g.given) ((hc4.mono (fun i _ e=>Or.inr e)).same (hc5.mono (fun i _ e=>Or.inl e))) Ac (by
  rw[RN,List.length_append,List.length_singleton]
  exact XQ) (fun k hk=>by
  rcases hg4.b k hk with e | e
  ·exact Or.inl (zM k e)
  ·exact Or.inr e)
theorem Srv.Ns{lo:Nat}{w:World}{g:SG}{s:gy}(h:Srv lo w g)(hs:g.aT=some s):w.ownsRow lo 124 6 s.av s.answers.length (dD s.answers) :=
 (h.oH hs).own (h.yT hs).rn (fun p hp=>by unfold gy.res;simp only[List.mem_append];exact Or.inr (Or.inr (Or.inr hp)))
theorem Srv.aaJ{lo:Nat}{w w':World}{g:SG}{s:gy}{Nu:Value}{l':List aP}(h:Srv lo w g)(hs:g.aT=some s)(hc:aG (fun k=>k=s.blk∨s.av.ownBlock=some k) w w')(hB:aK w' s.blk 132 (fJ { s with av:=Nu,answers:=l' }))(hA:w'.ownsRow lo 124 6 Nu l'.length (dD l'))(hnew:∀ k,Nu.ownBlock=some k→s.av.ownBlock=some k∨w.heap.size≤k):
  dV lo w g { g.st with aT:=some { s.o with answers:=l' } } w' { g with aT:=some { s with av:=Nu,answers:=l' } }:=by
 have hS:=h.oH hs
 have hok:=h.yT hs
 have hlo:lo≤s.blk:=(hS.lt (Key.app.2 (Or.inl (Key.one.2 rfl)))).1
 obtain⟨hA1,hA2⟩:=jR hA (by decide)
 have hh:Has lo w' (({ s with av:=Nu,answers:=l' }:gy).dX++({ s with av:=Nu,answers:=l' }:gy).oU):=aA.2 ⟨dH hlo hB (by decide),hA1,fun a ha c hc' e=>by
  rw[List.mem_singleton.1 ha] at e
  have hk:=(bQ (e:=124) hA2).1 ⟨c,hc',rfl⟩
  have e':s.blk=c.1:=e
  rw[← e'] at hk
  exact hB.dF hA (by decide) hk⟩
 have hg:Grow w (s.dX++s.oU) w' (({ s with av:=Nu,answers:=l' }:gy).dX++({ s with av:=Nu,answers:=l' }:gy).oU):=⟨hc.mono (fun i _ hi=>by
  rcases hi with rfl | hi
  ·exact Key.app.2 (Or.inl (Key.one.2 rfl))
  ·exact Key.app.2 (Or.inr ((bQ hok.rn).2 hi))),fun k hk=>by
  rcases Key.app.1 hk with e | e
  ·exact Or.inl (Key.app.2 (Or.inl (Key.one.2 (show k=s.blk from Key.one.1 e))))
  ·rcases hnew k ((bQ hA2).1 e) with e | e
   ·exact Or.inl (Key.app.2 (Or.inr ((bQ hok.rn).2 e)))
   ·exact Or.inr e⟩
 have p1:(s.res g.oG).Perm ((s.dX++s.oU)++(s.sD++s.feeds.flatMap (xJ.res s.blk g.oG))):=aY (fun p=>by unfold gy.res;simp only[aH];omega)
 have p2:((({ s with av:=Nu,answers:=l' }:gy).dX++({ s with av:=Nu,answers:=l' }:gy).oU)++(s.sD++s.feeds.flatMap (xJ.res s.blk g.oG))).Perm (({ s with av:=Nu,answers:=l' }:gy).res g.oG):=aY (fun p=>by
  show _=cnt p (({ s with av:=Nu,answers:=l' }:gy).dX++(s.sD++(s.feeds.flatMap (xJ.res s.blk g.oG)++({ s with av:=Nu,answers:=l' }:gy).oU)))
  simp only[aH];omega)
 exact h.lK (s':={ s with av:=Nu,answers:=l' }) hs (((hS.perm p1).swap hh hg).perm p2) (hg.swap.perm p1.symm p2) rfl rfl ⟨hok.rf,hA2⟩
theorem Srv.ai5{lo:Nat}{w:World}{g:SG}{s:gy}(h:Srv lo w g)(hs:g.aT=some s)(hlo:lo≤w.heap.size)(hn:s.answers.length≤1000000){nb:Nat}{T:TypeId}{x:aP}(hN:aK w nb T (pc x).toList){aa:Option Addr}{ac:Nat}(hv:s.av=.slice aa s.answers.length ac):
  ∃ a' c' w',(Builtin.append_ #[92,92] 92 #[.slice aa s.answers.length ac,.slice (some ⟨nb,0,none⟩) 1 1]).run Tryz.prog w=.ok (.slice a' (s.answers.length+1) c') w'∧w'.cell? ⟨s.blk,6,none⟩=some (.slice aa s.answers.length ac)∧w'.frozen? ⟨s.blk,6,none⟩=false∧aG (fun k=>s.av.ownBlock=some k) w w'∧dV lo w g { g.st with aT:=some { s.o with answers:=s.answers++[x] } } (w'.setCell ⟨s.blk,6,none⟩ (.slice a' (s.answers.length+1) c')) { g with aT:=some { s with av:=.slice a' (s.answers.length+1) c',answers:=s.answers++[x] } }:=by
 have hA:=h.Ns hs
 have hA':=hA
 rw[hv] at hA'
 obtain⟨a',c',w4,hr,Tn,hg4⟩:=jU w 92 92 124 _ 6 56 underlying92 Tryz.infoPay rfl (by decide) (.slice aa s.answers.length ac) s.answers.length (dD s.answers) lo hA' ⟨nb,0,none⟩ 1 1 (pc x).toList rfl (fun j u hu=>by
  rw[fE _ _ rfl]
  have:=hN.cell (0+j)
  rw[this]
  simpa using hu) (fun u hu=>by simp[pc] at hu;rcases hu with rfl | rfl | rfl | rfl | rfl | rfl<;>rfl) (by unfold maxLen;omega) (by omega) hlo
 have zM:∀ k,(Value.slice aa s.answers.length ac).ownBlock=some k→s.av.ownBlock=some k:=fun k hk=>by rw[hv];exact hk
 have hc4:aG (fun k=>s.av.ownBlock=some k) w w4:=aG.grew hg4 zM
 have hSb:=h.jm hs
 have hnb:=hSb.dF hA (by decide)
 have hB4:=hSb.dB hc4 hnb
 have hnb':(Value.slice a' (s.answers.length+1) c').ownBlock≠some s.blk:=hB4.dF Tn (by decide)
 have hc5:aG (fun k=>k=s.blk) w4 (w4.setCell ⟨s.blk,6,none⟩ (.slice a' (s.answers.length+1) c')):=(aG.refl _ _).setCell _ _ (fun _=>rfl)
 have XQ:=hc5.own Tn (fun k hk e=>hnb' (e ▸ hk))
 have Ac:aK (w4.setCell ⟨s.blk,6,none⟩ (.slice a' (s.answers.length+1) c')) s.blk 132 (fJ { s with av:=.slice a' (s.answers.length+1) c',answers:=s.answers++[x] }):=hB4.set 6 _
 refine⟨a',c',w4,hr,(show w4.cell? ⟨s.blk,6,none⟩=some s.av from hB4.cell 6).trans (by rw[hv]),hB4.frozen 6,hc4,?_⟩
 exact h.aaJ hs ((hc4.mono (fun i _ e=>Or.inr e)).same (hc5.mono (fun i _ e=>Or.inl e))) Ac (by
  rw[AQ,List.length_append,List.length_singleton]
  exact XQ) (fun k hk=>by
  rcases hg4.b k hk with e | e
  ·exact Or.inl (zM k e)
  ·exact Or.inr e)
theorem xQ(c:UInt8):∀ (n d:List UInt8),(∀ x∈n,x≠c)→Lib.indexByte (n++c::d) c=n.length
 | [],d,_=>by simp[Lib.indexByte]
 | x::n,d,h=>by
  have ih:=xQ c n d (fun y hy=>h y (List.mem_cons_of_mem _ hy))
  have hx:(x==c)=false:=by simpa using h x (List.mem_cons_self ..)
  simp only[List.cons_append,Lib.indexByte,hx,Bool.false_eq_true,if_false,ih]
  rw[if_neg (by simp)]
  simp
theorem V7(n d:ByteArray):(n++⟨#[32]⟩++d).data.toList=n.data.toList++32::d.data.toList:=by
 simp
theorem Ky(w:World)(s n d:ByteArray)(hs:s=n++⟨#[32]⟩++d)(hn:∀ c∈n.data.toList,c≠32)(h1:1<s.size):
  Calls Tryz.prog 240 #[.string s,.string ⟨#[32]⟩] w (fun e w'=>e=.returned (.int .i64 n.size)∧w'=w):=by
 have HX:=hid (show Lib.indexByte s.data.toList (32:Int).toNat.toUInt8=(n.size:Int) by
  rw[hs,V7]
  exact xQ 32 _ _ hn)
 have hne2:([32]==s.toList)=false:=by
  rw[beq_eq_false_iff_ne]
  intro e
  have:=congrArg List.length e
  rw[ByteArray.toList_eq] at this
  have h3:s.data.toList.length=s.size:=rfl
  simp at this
  omega
 clear hs hn
 go_enter func240,ntmps240
 go_wp2_with fail
 show Calls _ _ #[.string s,.int .u8 32] w _
 refine(Tryz.v_stringslite_IndexByte s 32 w).mono ?_;rintro e w1 ⟨rfl,rfl⟩
 rw[HX.out]
 go_wp2_with fail
 go_ret
 exact⟨rfl,rfl⟩
theorem V8(n d:ByteArray):(n++⟨#[32]⟩++d).extract 0 n.size=n:=by
 apply ByteArray.ext
 apply Array.toList_inj.1
 simp[ByteArray.data_extract]
theorem RP(n d:ByteArray):(n++⟨#[32]⟩++d).extract (n.size+1) (n++⟨#[32]⟩++d).size=d:=by
 have h1:(⟨#[32]⟩:ByteArray).size=1:=rfl
 have h2:n.data.toList.length=n.size:=rfl
 have h3:d.data.toList.length=d.size:=rfl
 have h4:List.drop (n.size+1) (n.data.toList++[32])=[]:=List.drop_of_length_le (by simp)
 apply ByteArray.ext
 apply Array.toList_inj.1
 simp[ByteArray.data_extract,h1,h4]
 rw[List.take_of_length_le (by omega)]
theorem RQ(w:World)(s n d:ByteArray)(hs:s=n++⟨#[32]⟩++d)(hn:∀ c∈n.data.toList,c≠32)(h1:1<s.size)(hz:s.size≤100000)(hnz:n.size+1≤s.size):
  Calls Tryz.prog 209 #[.string s,.string ⟨#[32]⟩] w (fun e w'=>e=.returned (.tuple #[.string n,.string d,.bool true])∧Below w.heap.size w w'):=by
 have HL:=hid (show s.extract 0 n.size=n by rw[hs];exact V8 n d)
 have HR:=hid (show s.extract (n.size+1) s.size=d by rw[hs];exact RP n d)
 have HI:=hid (Ky w s n d hs hn h1)
 clear hs hn
 go_enter func209,ntmps209
 go_wp2_with fail
 refine HI.out.mono ?_;rintro e w1 ⟨rfl,rfl⟩
 go_wp2_with fail
 go_region
 all_goals
  go_wp2_with fail
  go_ret3
  rw[HL.out]
  exact⟨by rw[HR.out];rfl,(Below.refl _ _).drew⟩
theorem RS(w:World)(s n d:ByteArray)(hs:s=n++⟨#[32]⟩++d)(hn:∀ c∈n.data.toList,c≠32)(h1:1<s.size)(hz:s.size≤100000)(hnz:n.size+1≤s.size):
  Calls Tryz.prog 171 #[.string s,.string ⟨#[32]⟩] w (fun e w'=>e=.returned (.tuple #[.string n,.string d,.bool true])∧Below w.heap.size w w'):=by
 have HI:=hid (RQ w s n d hs hn h1 hz hnz)
 clear hs hn
 go_enter func171,ntmps171
 go_wp2_with fail
 refine HI.out.mono ?_;rintro e w1 ⟨rfl,hb⟩
 go_wp2_with fail
 go_ret3
 exact⟨rfl,hb⟩
end Go.Proofs.YtolfcabodiphmaaGreatDoor
