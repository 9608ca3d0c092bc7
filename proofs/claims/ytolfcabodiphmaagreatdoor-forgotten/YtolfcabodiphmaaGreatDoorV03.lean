/- Package ends: the client: request. -/
import Derived.Test.YtolfcabodiphmaaGreatDoorV01
import Derived.Test.YtolfcabodiphmaaGreatDoorV02
set_option linter.unusedSimpArgs false
set_option linter.unusedVariables false
set_option maxHeartbeats 2000000
set_option maxRecDepth 100000
namespace Go.Proofs.YtolfcabodiphmaaGreatDoor
open Go.Proofs.Tryz
open Go.RowKit Go.Conc
theorem xY{lo:Nat}{w:World}{g:CG}(h:Cli lo w g)(ha:g.asked.length≤1000):
  Calls Tryz.prog 51 #[.pointer (some ⟨g.b,0,none⟩)] w (fun e w'=>e=.returned (.tuple #[])∧∃ g',gG lo w g g.st.speak w' g'):=by
 by_cases hs:g.session=0
 ·exact XM h hs
 ·exact XO h hs ha
def CG.I5(g:CG):List fM:=dh 161 1 g.sv g.streams.length (g.streams.map (fun m=>aJ m.blk))++(g.streams.flatMap kZ.res++(dh 125 1 g.cv g.calls.length (g.calls.map (fun m=>aJ m.blk))++g.calls.flatMap jE.res))
def CG.rowA(g:CG):List fM:=dh 124 6 g.av g.asked.length (dD g.asked)
theorem CG.Oe(g:CG):g.rest=g.rowA++g.I5:=rfl
theorem Cli.asked{lo:Nat}{w:World}{g:CG}(h:Cli lo w g):w.ownsRow lo 124 6 g.av g.asked.length (dD g.asked) :=
 h.has.own h.ra (fun p hp=>by unfold CG.res CG.rest;simp only[List.mem_append];exact Or.inr (Or.inr (Or.inl hp)))
theorem Cli.EG{lo:Nat}{w w':World}{g g':CG}(h:Cli lo w g)(hc:aG (fun k=>k=g.b∨g.av.ownBlock=some k) w w')(hB:aK w' g.b 96 g'.cells)(hA:w'.ownsRow lo 124 6 g'.av g'.asked.length (dD g'.asked))(hnew:∀ k,g'.av.ownBlock=some k→g.av.ownBlock=some k∨w.heap.size≤k)
  (hb:g'.b=g.b) (hq:g'.aQ=g.aQ) (hr:g'.I5=g.I5) (hi:g'.iv=g.iv) (hf:g'.W=g.W∧g'.D=g.D∧g'.R=g.R)
  (rs:eX 1 g'.sv g'.streams.length (g'.streams.map (fun m=>aJ m.blk))) (rc:eX 1 g'.cv g'.calls.length (g'.calls.map (fun m=>aJ m.blk))) (rv:∀ m∈g'.streams,eX 1 m.vv m.s.values.length (lg m.s.values)):gG lo w g g'.st w' g':=by
 obtain⟨hA1,hA2⟩:=jR hA (by decide)
 have hh:Has lo w' (g'.aU++g'.rowA):=aA.2 ⟨by unfold CG.aU;rw[hb];exact dH h.Oa hB (by decide),hA1,fun a ha c hc' e=>by
  rw[List.mem_singleton.1 ha] at e
  have hk:=(bQ (e:=124) hA2).1 ⟨c,hc',rfl⟩
  have e':g.b=c.1:=by rw[← hb];exact e
  rw[← e'] at hk
  exact hB.dF hA (by decide) hk⟩
 have hg:Grow w (g.aU++g.rowA) w' (g'.aU++g'.rowA):=⟨hc.mono (fun i _ hi=>by
  rcases hi with rfl | hi
  ·exact Key.app.2 (Or.inl (Key.one.2 rfl))
  ·exact Key.app.2 (Or.inr ((bQ h.ra).2 hi))),fun k hk=>by
  rcases Key.app.1 hk with e | e
  ·exact Or.inl (Key.app.2 (Or.inl (Key.one.2 ((Key.one.1 e).trans hb))))
  ·rcases hnew k ((bQ hA2).1 e) with e | e
   ·exact Or.inl (Key.app.2 (Or.inr ((bQ h.ra).2 e)))
   ·exact Or.inr e⟩
 have p1:g.res.Perm ((g.aU++g.rowA)++(g.aQ++g.I5)):=aY (fun p=>by unfold CG.res;rw[CG.Oe];simp only[aH];omega)
 have p2:((g'.aU++g'.rowA)++(g.aQ++g.I5)).Perm g'.res:=aY (fun p=>by unfold CG.res;rw[CG.Oe,hq,hr];simp only[aH];omega)
 exact⟨⟨((h.has.perm p1).swap hh hg).perm p2,hA2,rs,rc,rv⟩,rfl,hg.swap.perm p1.symm p2,hb,hi,hf⟩
theorem TR{gb:Nat}{g:CG}{q p:aP}{n:Nat}{w:World}{R:Ending→World→Prop}(hb:g.b=gb)(hq:q = { p with number:=n })(h:Calls Tryz.prog 73 #[.pointer (some ⟨g.b,0,none⟩),.agg #[.int .u8 q.kind,.int .u64 q.token,.int .u64 q.session,.int .u64 q.number,.int .u64 q.position,.string q.data]] w R):
  Calls Tryz.prog 73 #[.pointer (some ⟨gb,0,none⟩),.agg #[.int .u8 p.kind,.int .u64 p.token,.int .u64 p.session,.int .u64 n,.int .u64 p.position,.string p.data]] w R:=by
 subst hb hq
 exact h
theorem AQ(l:List aP)(p:aP):dD (l++[p])=dD l++(pc p).toList:=by unfold dD;simp
theorem TS{lo:Nat}{w:World}{g:CG}(h:Cli lo w g)(hlo:lo≤w.heap.size)(ha:g.asked.length≤1000)(hn:g.next≤1000000000000)(p:aP):
  Calls Tryz.prog 56 #[.pointer (some ⟨g.b,0,none⟩),.agg #[.int .u8 p.kind,.int .u64 p.token,.int .u64 p.session,.int .u64 p.number,.int .u64 p.position,.string p.data]] w (fun e w'=>e=.returned (.int .u64 g.next)∧∃ g',gG lo w g (g.st.request p) w' g'):=by
 have hlt:=h.blk.lt
 have hbw0:Below w.heap.size w (w.alloc (.cells #[.int .u8 p.kind,.int .u64 p.token,.int .u64 p.session,.int .u64 p.number,.int .u64 p.position,.string p.data] 124)):=(Below.refl _ _).alloc (Nat.le_refl _) _
 have au:aK (w.alloc (.cells #[.int .u8 p.kind,.int .u64 p.token,.int .u64 p.session,.int .u64 p.number,.int .u64 p.position,.string p.data] 124)) w.heap.size 124 [.int .u8 p.kind,.int .u64 p.token,.int .u64 p.session,.int .u64 p.number,.int .u64 p.position,.string p.data]:=heap_alloc_new w _
 obtain⟨w0,dw⟩:∃ w0,w.alloc (.cells #[.int .u8 p.kind,.int .u64 p.token,.int .u64 p.session,.int .u64 p.number,.int .u64 p.position,.string p.data] 124)=w0:=⟨_,rfl⟩
 rw[dw] at hbw0 au
 have e0:w0.cell? ⟨w.heap.size,0,none⟩=some (.int .u8 p.kind):=au.cell 0
 have fe0:=au.frozen 0
 have e1:w0.cell? ⟨w.heap.size,1,none⟩=some (.int .u64 p.token):=au.cell 1
 have fe1:=au.frozen 1
 have e2:w0.cell? ⟨w.heap.size,2,none⟩=some (.int .u64 p.session):=au.cell 2
 have fe2:=au.frozen 2
 have e3:w0.cell? ⟨w.heap.size,3,none⟩=some (.int .u64 p.number):=au.cell 3
 have fe3:=au.frozen 3
 have e4:w0.cell? ⟨w.heap.size,4,none⟩=some (.int .u64 p.position):=au.cell 4
 have fe4:=au.frozen 4
 have e5:w0.cell? ⟨w.heap.size,5,none⟩=some (.string p.data):=au.cell 5
 have fe5:=au.frozen 5
 have h0:=h.below hbw0
 have hz0:w0.heap.size=w.heap.size+1:=by rw[← dw];simp
 have d14:w0.cell? ⟨g.b,14,none⟩=some (.int .u64 g.next):=h0.blk.cell 14
 have lJ:g.b≠w.heap.size:=by omega
 -- the number
 have hP1:aK (w0.setCell ⟨w.heap.size,3,none⟩ (.int .u64 g.next)) w.heap.size 124 [.int .u8 p.kind,.int .u64 p.token,.int .u64 p.session,.int .u64 g.next,.int .u64 p.position,.string p.data]:=au.set 3 _
 have hb1:Below w.heap.size w (w0.setCell ⟨w.heap.size,3,none⟩ (.int .u64 g.next)):=hbw0.setCell (p:=⟨w.heap.size,3,none⟩) (Nat.le_refl _) _
 have hz1:(w0.setCell ⟨w.heap.size,3,none⟩ (.int .u64 g.next)).heap.size=w.heap.size+1:=by simp[hz0]
 obtain⟨w1,hw1⟩:∃ w1,w0.setCell ⟨w.heap.size,3,none⟩ (.int .u64 g.next)=w1:=⟨_,rfl⟩
 rw[hw1] at hP1 hb1 hz1
 have h1:=h.below hb1
 have e14:w1.cell? ⟨g.b,14,none⟩=some (.int .u64 g.next):=h1.blk.cell 14
 have g14:=h1.blk.frozen 14
 have hB2:aK (w1.setCell ⟨g.b,14,none⟩ (.int .u64 ((g.next:Int)+1))) g.b 96 ({ g with next:=g.next+1 }:CG).cells:=h1.blk.set 14 _
 have hc2:aG (fun k=>k=g.b) w1 (w1.setCell ⟨g.b,14,none⟩ (.int .u64 ((g.next:Int)+1))):=(aG.refl _ _).setCell _ _ (fun _=>rfl)
 have hP2:=hP1.dB hc2 (fun e=>lJ e.symm)
 have hA2:=hc2.own h1.asked (fun k hk e=>h1.blk.dF h1.asked (by decide) (e ▸ hk))
 have hz2:(w1.setCell ⟨g.b,14,none⟩ (.int .u64 ((g.next:Int)+1))).heap.size=w.heap.size+1:=by simp[hz1]
 obtain⟨w2,hw2⟩:∃ w2,w1.setCell ⟨g.b,14,none⟩ (.int .u64 ((g.next:Int)+1))=w2:=⟨_,rfl⟩
 rw[hw2] at hB2 hc2 hP2 hA2 hz2
 obtain⟨aa,ac,hav⟩:=h.ra.slice
 have k13:w2.drew.cell? ⟨g.b,13,none⟩=some (.slice aa g.asked.length ac):=(show w2.drew.cell? ⟨g.b,13,none⟩=some g.av from hB2.cell 13).trans (by rw[hav])
 have r0:w2.drew.cell? ⟨w.heap.size,0,none⟩=some (.int .u8 p.kind):=hP2.cell 0
 have r1:w2.drew.cell? ⟨w.heap.size,1,none⟩=some (.int .u64 p.token):=hP2.cell 1
 have r2:w2.drew.cell? ⟨w.heap.size,2,none⟩=some (.int .u64 p.session):=hP2.cell 2
 have r3:w2.drew.cell? ⟨w.heap.size,3,none⟩=some (.int .u64 g.next):=hP2.cell 3
 have r4:w2.drew.cell? ⟨w.heap.size,4,none⟩=some (.int .u64 p.position):=hP2.cell 4
 have r5:w2.drew.cell? ⟨w.heap.size,5,none⟩=some (.string p.data):=hP2.cell 5
 have hb3:Below w2.heap.size w2 (w2.alloc (.cells #[.int .u8 p.kind,.int .u64 p.token,.int .u64 p.session,.int .u64 g.next,.int .u64 p.position,.string p.data] 124)).drew:=((Below.refl _ _).alloc (Nat.le_refl _) _).drew
 have hN3:aK (w2.alloc (.cells #[.int .u8 p.kind,.int .u64 p.token,.int .u64 p.session,.int .u64 g.next,.int .u64 p.position,.string p.data] 124)).drew w2.heap.size 124 [.int .u8 p.kind,.int .u64 p.token,.int .u64 p.session,.int .u64 g.next,.int .u64 p.position,.string p.data]:=aK.drew (heap_alloc_new w2 _)
 have hB3:=hB2.below hb3
 have hA3:=aC hA2 (fun k hk=>hb3.block k (hA2.lt k hk).2)
 have v13:(w2.alloc (.cells #[.int .u8 p.kind,.int .u64 p.token,.int .u64 p.session,.int .u64 g.next,.int .u64 p.position,.string p.data] 124)).drew.cell? ⟨g.b,13,none⟩=some (.slice aa g.asked.length ac):=(show (w2.alloc (.cells #[.int .u8 p.kind,.int .u64 p.token,.int .u64 p.session,.int .u64 g.next,.int .u64 p.position,.string p.data] 124)).drew.cell? ⟨g.b,13,none⟩=some g.av from hB3.cell 13).trans (by rw[hav])
 have hz3:(w2.alloc (.cells #[.int .u8 p.kind,.int .u64 p.token,.int .u64 p.session,.int .u64 g.next,.int .u64 p.position,.string p.data] 124)).drew.heap.size=w.heap.size+2:=by show (w2.alloc _).heap.size=_;simp[hz2]
 rw[hav] at hA3
 obtain⟨a',c',w4,hr,Tn,hg4⟩:=jU _ 92 92 124 _ 6 56 underlying92 Tryz.infoPay rfl (by decide) (.slice aa g.asked.length ac) g.asked.length (dD g.asked) lo hA3 ⟨w2.heap.size,0,none⟩ 1 1 [.int .u8 p.kind,.int .u64 p.token,.int .u64 p.session,.int .u64 g.next,.int .u64 p.position,.string p.data] rfl (fun j u hu=>by
  rw[fE _ _ rfl]
  have:=hN3.cell (0+j)
  rw[this]
  simpa using hu) (fun u hu=>by simp at hu;rcases hu with rfl | rfl | rfl | rfl | rfl | rfl<;>rfl) (by unfold maxLen;omega) (by omega) (by omega)
 have zM:∀ k,(Value.slice aa g.asked.length ac).ownBlock=some k→g.av.ownBlock=some k:=fun k hk=>by rw[hav];exact hk
 have hc4:aG (fun k=>g.av.ownBlock=some k) w2 w4:=(aG.of_below hb3).same (aG.grew hg4 zM)
 have hnb:=h1.blk.dF h1.asked (by decide)
 have hB4:=hB2.dB hc4 hnb
 have hP4:=hP2.dB hc4 (fun e=>by have:=(h.asked.lt _ e).2;omega)
 have j13:w4.cell? ⟨g.b,13,none⟩=some (.slice aa g.asked.length ac):=(show w4.cell? ⟨g.b,13,none⟩=some g.av from hB4.cell 13).trans (by rw[hav])
 have l13:=hB4.frozen 13
 obtain⟨N,hN⟩:∃ N,g.asked.length+1=N:=⟨_,rfl⟩
 obtain⟨q,hq⟩:∃ q:aP,q = { p with number:=g.next }:=⟨_,rfl⟩
 have Ac:aK (w4.setCell ⟨g.b,13,none⟩ (.slice a' (g.asked.length+1) c')) g.b 96 ({ g with next:=g.next+1,av:=.slice a' (g.asked.length+1) c',asked:=g.asked++[q] }:CG).cells:=hB4.set 13 _
 have hc5:aG (fun k=>k=g.b) w4 (w4.setCell ⟨g.b,13,none⟩ (.slice a' (g.asked.length+1) c')):=(aG.refl _ _).setCell _ _ (fun _=>rfl)
 have hnew:∀ k,(Value.slice a' (g.asked.length+1) c').ownBlock=some k→g.av.ownBlock=some k∨w.heap.size≤k:=fun k hk=>by
  rcases hg4.b k hk with e | e
  ·exact Or.inl (zM k e)
  ·exact Or.inr (by omega)
 have hnb':(Value.slice a' (g.asked.length+1) c').ownBlock≠some g.b:=hB4.dF Tn (by decide)
 have XQ:=hc5.own Tn (fun k hk e=>hnb' (e ▸ hk))
 have XR:=hP4.dB hc5 (fun e=>lJ e.symm)
 have hcA:aG (fun k=>k=g.b∨g.av.ownBlock=some k) w (w4.setCell ⟨g.b,13,none⟩ (.slice a' (g.asked.length+1) c')):=(aG.of_below (F:=fun k=>k=g.b∨g.av.ownBlock=some k) (hb1)).same ((hc2.mono (fun i _ e=>Or.inl e)).same ((hc4.mono (fun i _ e=>Or.inr e)).same (hc5.mono (fun i _ e=>Or.inl e))))
 obtain⟨w5,hw5⟩:∃ w5,w4.setCell ⟨g.b,13,none⟩ (.slice a' (g.asked.length+1) c')=w5:=⟨_,rfl⟩
 rw[hw5] at Ac hc5 XQ XR hcA
 have H5:=hid (h.EG (g':={ g with next:=g.next+1,av:=.slice a' (g.asked.length+1) c',asked:=g.asked++[q] }) hcA Ac (by
  show w5.ownsRow lo _ 6 _ (g.asked++[q]).length (dD (g.asked++[q]))
  rw[AQ,List.length_append,List.length_singleton,hq]
  exact XQ) hnew rfl rfl rfl rfl ⟨rfl,rfl,rfl⟩ h.rs h.rc h.rv)
 have s0:w5.cell? ⟨w.heap.size,0,none⟩=some (.int .u8 p.kind):=XR.cell 0
 have s1:w5.cell? ⟨w.heap.size,1,none⟩=some (.int .u64 p.token):=XR.cell 1
 have s2:w5.cell? ⟨w.heap.size,2,none⟩=some (.int .u64 p.session):=XR.cell 2
 have s3:w5.cell? ⟨w.heap.size,3,none⟩=some (.int .u64 g.next):=XR.cell 3
 have s4:w5.cell? ⟨w.heap.size,4,none⟩=some (.int .u64 p.position):=XR.cell 4
 have s5:w5.cell? ⟨w.heap.size,5,none⟩=some (.string p.data):=XR.cell 5
 have Ad:=hid XR
 have HR:=hid hr
 have HQ:=hid hq
 have HS:=hid (show g.st.request p=(if g.session=0 then({ g with next:=g.next+1,av:=.slice a' (g.asked.length+1) c',asked:=g.asked++[q] }:CG).st else({ g with next:=g.next+1,av:=.slice a' (g.asked.length+1) c',asked:=g.asked++[q] }:CG).st.post (g.st.sealed q)) by rw[hq];rfl)
 generalize hgN:({ g with next:=g.next+1,av:=.slice a' (g.asked.length+1) c',asked:=g.asked++[q] }:CG)=gN at *
 have HGb:=hid (show gN.b=g.b by rw[← hgN])
 have HGs:=hid (show gN.session=g.session by rw[← hgN])
 have HGq:=hid (show gN.q<w.heap.size∧gN.m<w.heap.size by rw[← hgN];exact⟨h.ends.uH.lt,h.ends.AL.lt⟩)
 have HGt:=hid (show gN.st.sealed q=g.st.sealed q by rw[← hgN];rfl)
 clear h h0 h1 hgN hA2 hA3 Tn XQ au hP1 hP2 hP4 XR hB2 hB3 hB4 Ac hN3 hc2 hc4 hc5 hr hg4 hnew hcA hbw0 hb1 hb3 hz0 hz1 hz2 hz3 hav zM hnb hnb' hN
 go_enter func56,ntmps56
 go_wp2_with fail
 go_region_law (refine fQ rfl (.tmp 21) (.tmp 23) 92 rfl _ _ rfl rfl _ w4 HR.out ?_)
 all_goals
  go_wp2_with fail
  by_cases hs:g.session=0
  ·refine(TR HGb.out HQ.out (adO H5.out.cli q (HGs.out.trans hs))).mono ?_;rintro e w6 ⟨rfl,hb6⟩
   have u3:w6.cell? ⟨w.heap.size,3,none⟩=some (.int .u64 g.next):=(Ad.out.below hb6).cell 3
   go_wp2_with fail
   go_ret
   exact⟨rfl,gN,by rw[HS.out,if_pos hs];exact H5.out.below hb6⟩
  ·refine(TR HGb.out HQ.out (aak H5.out.cli q (fun e=>hs (HGs.out.symm.trans e)))).mono ?_;rintro e w6 ⟨rfl,h6,h7⟩
   have u3:w6.cell? ⟨w.heap.size,3,none⟩=some (.int .u64 g.next):=(Ad.out.dB h7 (fun e=>by
    have:=HGq.out
    omega)).cell 3
   have H6:=hid h6
   clear h6 h7
   go_wp2_with fail
   go_ret
   exact⟨rfl,_,by rw[HS.out,if_neg hs,← HGt.out];exact H5.out.trans H6.out⟩
end Go.Proofs.YtolfcabodiphmaaGreatDoor
