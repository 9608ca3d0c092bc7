/- Package ends: the client: Answer. -/
import Derived.Test.YtolfcabodiphmaaGreatDoorV17
set_option linter.unusedSimpArgs false
set_option linter.unusedVariables false
set_option maxHeartbeats 4000000
set_option maxRecDepth 100000
namespace Go.Proofs.YtolfcabodiphmaaGreatDoor
open Go.Proofs.Tryz
open Go.RowKit Go.Conc
theorem abR(w:World)(lo:Nat)(v:Value)(Bs:List Nat)(cb:Nat)(f:Nat→Bool)(h:uV w lo 125 v Bs)(hl:Bs.length≤1000)
  (hcl:∀ wr,Below w.heap.size w wr→∀ i (hi:i<Bs.length),Calls Tryz.prog 131 #[aJ Bs[i],.pointer (some ⟨cb,0,none⟩)] wr (fun e w'=>e=.returned (.bool (f i))∧Below wr.heap.size wr w')) :
  Calls Tryz.prog 130 #[v,.func (Fn.func 131) #[] #[.pointer (some ⟨cb,0,none⟩)]] w (fun e w'=>∃ z:Int,e=.returned (.int .i64 z)∧wH Bs.length f z∧Below w.heap.size w w'):=by
 obtain⟨la,lc,rfl⟩:=h.slice
 have H:=hid h
 have HC:=hid hcl
 clear h hcl
 go_enter func130,ntmps130
 go_wp2_with fail
 go_loopg [5,8] Bs.length (fun gk t i wr=>∃ k:Nat,k+gk=Bs.length∧i=.int .i64 k∧Hid (∀ j,j<k→f j=false)∧Below w.heap.size w wr)
 case atStart=>exact⟨0,by omega,rfl,hid (fun j hj=>by omega),Below.refl _ _⟩
 case round=>
  obtain⟨k,hk,rfl,HA,hbel⟩:=hrel
  by_cases hlt:k<Bs.length
  ·obtain⟨g,cap,hv,hlo,hgs,hcell⟩:=H.out.cell (by omega)
   obtain⟨rfl,rfl⟩:la=some ⟨g,0,none⟩∧lc=cap:=by simpa using hv
   have hck:wr.cell? ⟨g,k,none⟩=some (aJ Bs[k]):=(hbel.cell (p:=⟨g,k,none⟩) hgs).trans (hcell k hlt)
   unfold aJ at hck
   have fO:(k:Int)<(Bs.length:Int):=by omega
   clear hv hcell
   go_wp2_with fail
   refine(HC.out _ hbel k hlt).mono ?_;rintro e w1 ⟨rfl,hb1⟩
   have hb2:=hbel.trans (hb1.mono hbel.size)
   clear hb1 hck
   cases hm:f k with
   | false=>
    go_wp2_with fail
    go_roundg (gk-1)
    case rel=>exact⟨k+1,by omega,by go_num,hid (fun j hj=>by
     rcases Nat.lt_or_ge j k with h | h
     ·exact HA.out j h
     ·rw[show j=k from by omega];exact hm),hb2⟩
    case measure=>omega
   | true=>
    go_wp2_with fail
    go_ret
    exact⟨k,rfl,Or.inl ⟨k,hlt,hm,HA.out,rfl⟩,hb2⟩
  ·have fO:¬ (k:Int)<(Bs.length:Int):=by omega
   go_wp2_with fail
   go_ret
   exact⟨-1,rfl,Or.inr ⟨fun j hj=>HA.out j (by omega),rfl⟩,hbel⟩
def CP.Hu(c:CP)(num:Int):Option Nat:=c.calls.findIdx? (fun o=>((o.number:Int)==num))
def CP.answer(c:CP)(num:Int):CP × Nat × ByteArray:=match c.Hu num with
 | none=>(c,0,⟨#[]⟩)
 | some i=>match c.calls[i]? with
  | some o=>(if o.kind=0 then c else { c with calls:=c.calls.eraseIdx i },o.kind,o.value)
  | none=>(c,0,⟨#[]⟩)
theorem Rn{lo:Nat}{w:World}{g:CG}(h:Cli lo w g)(hS:vS g.st)(num:Int)(hn0:0≤num)(hn1:num<g.called):
  Calls Tryz.prog 94 #[.pointer (some ⟨g.b,0,none⟩),.int .i64 num] w (fun e w'=>e=.returned (.tuple #[.agg #[.int .i64 (g.st.answer num).2.1,.string (g.st.answer num).2.2,.string ⟨#[]⟩],.int .i64 0])∧∃ g',gG lo w g (g.st.answer num).1 w' g'):=by
 obtain⟨hs1,hs2,hs3,hs4,hs5,hs6⟩:=hS.g
 have hb0:Below w.heap.size w (w.alloc (.cells #[.int .i64 num] 3)):=(Below.refl _ _).alloc (Nat.le_refl _) _
 have hN0:aK (w.alloc (.cells #[.int .i64 num] 3)) w.heap.size 3 [.int .i64 num]:=heap_alloc_new w _
 obtain⟨w0,hw0⟩:∃ w0,w.alloc (.cells #[.int .i64 num] 3)=w0:=⟨_,rfl⟩
 rw[hw0] at hb0 hN0
 have hb1:Below w0.heap.size w0 (w0.alloc (.cells #[.int .i64 0,.string ⟨#[]⟩,.string ⟨#[]⟩] 127)):=(Below.refl _ _).alloc (Nat.le_refl _) _
 have hB1:aK (w0.alloc (.cells #[.int .i64 0,.string ⟨#[]⟩,.string ⟨#[]⟩] 127)) w0.heap.size 127 [.int .i64 0,.string ⟨#[]⟩,.string ⟨#[]⟩]:=heap_alloc_new w0 _
 have hN1:=hN0.below hb1
 obtain⟨w1,hw1⟩:∃ w1,w0.alloc (.cells #[.int .i64 0,.string ⟨#[]⟩,.string ⟨#[]⟩] 127)=w1:=⟨_,rfl⟩
 rw[hw1] at hb1 hB1 hN1
 have eF:Below w.heap.size w w1:=hb0.trans (hb1.mono hb0.size)
 have hlo:=hb0.size
 have h1:=h.below eF
 have ae8:=(h.below hb0).lM
 obtain⟨sa,sc,hsv⟩:=h.rc.slice
 have dn:w1.cell? ⟨w.heap.size,0,none⟩=some (.int .i64 num):=hN1.cell 0
 have dm:w1.cell? ⟨g.b,18,none⟩=some (.int .i64 g.called):=h1.blk.cell 18
 have dS:w1.cell? ⟨g.b,17,none⟩=some (.slice sa g.calls.length sc):=(show w1.cell? ⟨g.b,17,none⟩=some g.cv from h1.blk.cell 17).trans (by rw[hsv])
 have HC:Hid (∀ wr,Below w1.drew.heap.size w1.drew wr→∀ i (hi:i<(g.calls.map (fun m=>m.blk)).length),Calls Tryz.prog 131 #[aJ (g.calls.map (fun m=>m.blk))[i],.pointer (some ⟨w.heap.size,0,none⟩)] wr (fun e w'=>e=.returned (.bool (atB g.calls (fun m=>((m.c.number:Int)==num)) i))∧Below wr.heap.size wr w')):=fun wr hwr i hi=>by
  have hi':i<g.calls.length:=by simpa using hi
  rw[AV hi',List.getElem_map]
  exact xG g.calls[i].blk _ g.calls[i].c.number num w.heap.size wr (jE.ru ((h1.drew.below hwr).Ol hi')) rfl ((aK.below (w:=w1.drew) hN1 hwr).cell 0)
 have HR:=hid (show g.st.Hu num=g.calls.findIdx? (fun m=>((m.c.number:Int)==num)) by
  unfold CP.Hu CG.st
  simp only[List.findIdx?_map]
  rfl)
 have HP:=hid (show uV w1.drew lo 125 (.slice sa g.calls.length sc) (g.calls.map (fun m=>m.blk)) by rw[← hsv];exact h1.drew.sV)
 have LG:=hid hsv
 have HB1:=hid hB1
 have H:=hid h
 have H1:=hid h1
 have VJ:=hid eF
 have Aj:=hid ae8
 have HL:=hid (show (g.calls.map (fun m=>m.blk)).length=g.calls.length by simp)
 have hdn:decide (num<0)=false:=by simp;omega
 have hdg:decide ((g.called:Int)≤num)=false:=by simp;omega
 clear h h1 hN0 hN1 hB1 hb0 hb1 eF hsv ae8 hn0 hn1
 go_enter func94,ntmps94
 go_wp2_with fail
 go_region
 all_goals
  go_wp2_with fail
  refine(abR w1.drew lo _ (g.calls.map (fun m=>m.blk)) w.heap.size _ HP.out (by have:=HL.out;omega) HC.out).mono ?_;rintro e w2 ⟨z,rfl,hz,hb2⟩
  rw[HL.out] at hz
  have hfi:=AX hz
  have Gv:Below w1.heap.size w1 w2:=⟨hb2.os,hb2.tape,hb2.output,hb2.size,hb2.block⟩
  have H2:=hid (H1.out.below Gv)
  have HB2:=hid (HB1.out.below Gv)
  have hbW:=VJ.out.trans (Gv.mono VJ.out.size)
  have HbW:=hid hbW
  clear hz HC hb2 hbW
  rcases hfi with⟨k,rfl,hk,hf⟩ | ⟨rfl,hf⟩
  ·have b0:decide ((k:Int)<0)=false:=by simp
   obtain⟨ga,c,hav,hgl,hcell⟩:=H2.out.eY hk
   obtain⟨rfl,rfl⟩:sa=some ⟨ga,0,none⟩∧sc=c:=by simpa using LG.out.symm.trans hav
   have k17:w2.cell? ⟨g.b,17,none⟩=some (.slice (some ⟨ga,0,none⟩) g.calls.length sc):=(show w2.cell? ⟨g.b,17,none⟩=some g.cv from H2.out.blk.cell 17).trans (by rw[LG.out])
   have hck:w2.cell? ⟨ga,k,none⟩=some (.pointer (some ⟨g.calls[k].blk,0,none⟩)):=hcell
   have HM:=hid (List.getElem?_eq_getElem hk)
   have HMB:=hid (jE.ru (H2.out.Ol hk))
   have HE:=hid (show g.st.answer num=(if g.calls[k].c.kind=0 then g.st else { g.st with calls:=g.st.calls.eraseIdx k },g.calls[k].c.kind,g.calls[k].c.value) by
    have e:g.st.calls[k]? = some g.calls[k].c:=by unfold CG.st;simp[hk]
    unfold CP.answer
    rw[HR.out.trans hf]
    simp only[e])
   generalize g.calls[k]=mm at *
   have hkI:(k:Int)<(g.calls.length:Int):=by omega
   have m3:w2.cell? ⟨mm.blk,3,none⟩=some (.int .i64 mm.c.kind):=HMB.out.cell 3
   have m4:w2.cell? ⟨mm.blk,4,none⟩=some (.string mm.c.value):=HMB.out.cell 4
   have m5:w2.cell? ⟨mm.blk,5,none⟩=some (.string ⟨#[]⟩):=HMB.out.cell 5
   have hb4:Below w2.heap.size w2 (w2.alloc (.cells #[.int .i64 mm.c.kind,.string mm.c.value,.string ⟨#[]⟩] 127)):=(Below.refl _ _).alloc (Nat.le_refl _) _
   have hN4:aK (w2.alloc (.cells #[.int .i64 mm.c.kind,.string mm.c.value,.string ⟨#[]⟩] 127)) w2.heap.size 127 [.int .i64 mm.c.kind,.string mm.c.value,.string ⟨#[]⟩]:=heap_alloc_new w2 _
   obtain⟨w4,hw4⟩:∃ w4,w2.alloc (.cells #[.int .i64 mm.c.kind,.string mm.c.value,.string ⟨#[]⟩] 127)=w4:=⟨_,rfl⟩
   rw[hw4] at hb4 hN4
   have n2:w4.cell? ⟨w2.heap.size,2,none⟩=some (.string ⟨#[]⟩):=hN4.cell 2
   have nf:=hN4.frozen 2
   have hb5:=hb4.setCell (p:=⟨w2.heap.size,2,none⟩) (Nat.le_refl _) (.string ⟨#[]⟩)
   have TA:aK (w4.setCell ⟨w2.heap.size,2,none⟩ (.string ⟨#[]⟩)) w2.heap.size 127 [.int .i64 mm.c.kind,.string mm.c.value,.string ⟨#[]⟩]:=hN4.set 2 _
   obtain⟨w5,hw5⟩:∃ w5,w4.setCell ⟨w2.heap.size,2,none⟩ (.string ⟨#[]⟩)=w5:=⟨_,rfl⟩
   rw[hw5] at hb5 TA
   have hB4:=HB2.out.below hb5
   have H4:=hid (H2.out.below hb5)
   have hbY:=HbW.out.trans (hb5.mono HbW.out.size)
   have HbY:=hid hbY
   have HB4:=hid hB4
   have HN5:=hid TA
   have q0:w5.cell? ⟨w2.heap.size,0,none⟩=some (.int .i64 mm.c.kind):=TA.cell 0
   have q1:w5.cell? ⟨w2.heap.size,1,none⟩=some (.string mm.c.value):=TA.cell 1
   have q2:w5.cell? ⟨w2.heap.size,2,none⟩=some (.string ⟨#[]⟩):=TA.cell 2
   have y17:w5.cell? ⟨g.b,17,none⟩=some (.slice (some ⟨ga,0,none⟩) g.calls.length sc):=(show w5.cell? ⟨g.b,17,none⟩=some g.cv from H4.out.blk.cell 17).trans (by rw[LG.out])
   have p0:w5.cell? ⟨w0.heap.size,0,none⟩=some (.int .i64 0):=hB4.cell 0
   have p1:w5.cell? ⟨w0.heap.size,1,none⟩=some (.string ⟨#[]⟩):=hB4.cell 1
   have p2:w5.cell? ⟨w0.heap.size,2,none⟩=some (.string ⟨#[]⟩):=hB4.cell 2
   have r0:=hB4.frozen 0
   have r1:=hB4.frozen 1
   have r2:=hB4.frozen 2
   clear hav hcell hf hb4 hN4 hB4 hbY hb5 TA
   by_cases hkd:mm.c.kind=0
   ·have bk:((mm.c.kind:Int) != 0)=false:=by simp[hkd]
    have HE2:=hid (show g.st.answer num=(g.st,mm.c.kind,mm.c.value) by rw[HE.out,if_pos hkd])
    have MW:=hid (qm _ _ _ _ _ (Ai HB4.out (.int .i64 mm.c.kind) (.string mm.c.value) (.string ⟨#[]⟩)))
    have Ro:=hid (Fj HbY.out hlo (.int .i64 mm.c.kind) (.string mm.c.value) (.string ⟨#[]⟩))
    clear hkd
    go_wp2_with fail
    (try simp only[Exit.inBlock,Exit.then])
    refine bodyPost_ret (v:=.tuple #[.agg #[.int .i64 mm.c.kind,.string mm.c.value,.string ⟨#[]⟩],.int .i64 0]) ?_ rfl ⟨by rw[HE2.out],g,by rw[HE2.out];exact gG.refl H.out Ro.out⟩
    rw[results_cell_tmp rfl]
    have:=MW.out
    simp[asAddr,this]
   ·have bk:((mm.c.kind:Int) != 0)=true:=by simp[hkd]
    have HE2:=hid (show g.st.answer num=({ g.st with calls:=g.st.calls.eraseIdx k },mm.c.kind,mm.c.value) by rw[HE.out,if_neg hkd])
    clear hkd
    go_wp2_with fail
    refine(aa5 w5 lo _ (g.calls.map (fun m=>m.blk)) k (show w5.ownsRow lo 125 1 (.slice (some ⟨ga,0,none⟩) g.calls.length sc) (g.calls.map (fun m=>m.blk)).length ((g.calls.map (fun m=>m.blk)).map aJ) by have:=H4.out.sV;rw[LG.out] at this;exact this) (by have:=HL.out;omega)).mono ?_
    rintro e w6 ⟨v6,rfl,hrow,hob,hc6⟩
    obtain⟨hB6,g7,hT⟩:=H4.out.abQ (v:=v6) HM.out hrow (by rw[LG.out];exact hob) (hc6.mono (fun k _ hk=>by rw[LG.out];exact hk))
    obtain⟨a6,c6,rfl⟩:=ay hrow
    generalize ((g.calls.map (fun m=>m.blk)).eraseIdx k).length=n6 at *
    have k6:w6.cell? ⟨g.b,17,none⟩=some g.cv:=hB6.cell 17
    have f6:=hB6.frozen 17
    have vH:=hT.blk HB4.out Aj.out
    have hV7:=hT.blk HN5.out H2.out.lM
    have Xv:=hid (hT.before HbY.out)
    obtain⟨w7,hw7⟩:∃ w7,w6.setCell ⟨g.b,17,none⟩ (.slice a6 n6 c6)=w7:=⟨_,rfl⟩
    rw[hw7] at Xv vH hV7
    have s0:w7.cell? ⟨w2.heap.size,0,none⟩=some (.int .i64 mm.c.kind):=hV7.1.cell 0
    have s1:w7.cell? ⟨w2.heap.size,1,none⟩=some (.string mm.c.value):=hV7.1.cell 1
    have s2:w7.cell? ⟨w2.heap.size,2,none⟩=some (.string ⟨#[]⟩):=hV7.1.cell 2
    have u0:w7.cell? ⟨w0.heap.size,0,none⟩=some (.int .i64 0):=vH.1.cell 0
    have u1:w7.cell? ⟨w0.heap.size,1,none⟩=some (.string ⟨#[]⟩):=vH.1.cell 1
    have u2:w7.cell? ⟨w0.heap.size,2,none⟩=some (.string ⟨#[]⟩):=vH.1.cell 2
    have v0:=vH.1.frozen 0
    have v1:=vH.1.frozen 1
    have v2:=vH.1.frozen 2
    have MW:=hid (qm _ _ _ _ _ (Ai vH.1 (.int .i64 mm.c.kind) (.string mm.c.value) (.string ⟨#[]⟩)))
    have HCd:=hid (OO w7 w0.heap.size (.int .i64 mm.c.kind) (.string mm.c.value) (.string ⟨#[]⟩))
    have aiK:=hid vH.2
    clear hrow hob hc6 hB6 hT vH hV7
    go_wp2_with fail
    (try simp only[Exit.inBlock,Exit.then])
    refine⟨rfl,.tuple #[.agg #[.int .i64 mm.c.kind,.string mm.c.value,.string ⟨#[]⟩],.int .i64 0],?_,by rw[HE2.out],_,by rw[HE2.out];exact Xv.out.side HCd.out (fun k hk=>by subst hk;exact⟨hlo,aiK.out⟩)⟩
    rw[results_cell_tmp rfl]
    have:=MW.out
    simp[asAddr,this]
  ·have HE:=hid (show g.st.answer num=(g.st,0,⟨#[]⟩) by unfold CP.answer;rw[HR.out.trans hf])
   have e0:w2.cell? ⟨w0.heap.size,0,none⟩=some (.int .i64 0):=HB2.out.cell 0
   have e1:w2.cell? ⟨w0.heap.size,1,none⟩=some (.string ⟨#[]⟩):=HB2.out.cell 1
   have e2:w2.cell? ⟨w0.heap.size,2,none⟩=some (.string ⟨#[]⟩):=HB2.out.cell 2
   have g0:=HB2.out.frozen 0
   have g1:=HB2.out.frozen 1
   have g2:=HB2.out.frozen 2
   have MW:=hid (qm _ _ _ _ _ (Ai HB2.out (.int .i64 0) (.string ⟨#[]⟩) (.string ⟨#[]⟩)))
   have Ro:=hid (Fj HbW.out hlo (.int .i64 0) (.string ⟨#[]⟩) (.string ⟨#[]⟩))
   clear hf
   go_wp2_with fail
   (try simp only[Exit.inBlock,Exit.then])
   refine⟨rfl,.tuple #[.agg #[.int .i64 0,.string ⟨#[]⟩,.string ⟨#[]⟩],.int .i64 0],?_,by rw[HE.out];rfl,g,by rw[HE.out];exact gG.refl H.out Ro.out⟩
   rw[results_cell_tmp rfl]
   have:=MW.out
   simp[asAddr,this]
theorem Cli.afa{lo:Nat}{w w':World}{g:CG}{m:jE}(h:Cli lo w g)(hlo:lo≤w.heap.size)(v:Value)(hc:aG (fun k=>k=g.b∨g.cv.ownBlock=some k) w w')(hB:aK w' g.b 96 ({ g with cv:=v,calls:=g.calls++[m],called:=g.called+1 }:CG).cells)
  (hA:w'.ownsRow lo 125 1 v (g.calls++[m]).length ((g.calls++[m]).map (fun m=>aJ m.blk))) (hnew:∀ k,v.ownBlock=some k→g.cv.ownBlock=some k∨w.heap.size≤k) (YJ:aK w' m.blk 129 (nP m)) (hml:w.heap.size≤m.blk) :gG lo w g ({ g with cv:=v,calls:=g.calls++[m],called:=g.called+1 }:CG).st w' ({ g with cv:=v,calls:=g.calls++[m],called:=g.called+1 }:CG):=by
 obtain⟨hA1,hA2⟩:=jR hA (by decide)
 have em:m.res=[iO m.blk 129 (nP m)]:=rfl
 have hbl:=h.blk.lt
 have hM:Has lo w' m.res:=by rw[em];exact dH (Nat.le_trans hlo hml) YJ (by decide)
 have hh:Has lo w' (({ g with cv:=v,calls:=g.calls++[m],called:=g.called+1 }:CG).aU++(dh 125 1 v (g.calls++[m]).length ((g.calls++[m]).map (fun m=>aJ m.blk))++m.res)):=aA.2 ⟨dH h.Oa hB (by decide),aA.2 ⟨hA1,hM,fun a ha c hc' e=>by
   rw[em] at hc'
   rw[List.mem_singleton.1 hc'] at e
   have hk:=(bQ (e:=125) hA2).1 ⟨a,ha,rfl⟩
   have e':a.1=m.blk:=e
   rw[e'] at hk
   exact YJ.dF hA (by decide) hk⟩,fun a ha c hc' e=>by
  rw[List.mem_singleton.1 ha] at e
  have e':g.b=c.1:=e
  rcases List.mem_append.1 hc' with hc' | hc'
  ·have hk:=(bQ (e:=125) hA2).1 ⟨c,hc',rfl⟩
   rw[← e'] at hk
   exact hB.dF hA (by decide) hk
  ·rw[em] at hc'
   rw[List.mem_singleton.1 hc'] at e'
   have e'':g.b=m.blk:=e'
   omega⟩
 have hg:Grow w (g.aU++dh 125 1 g.cv g.calls.length (g.calls.map (fun m=>aJ m.blk))) w' (({ g with cv:=v,calls:=g.calls++[m],called:=g.called+1 }:CG).aU++(dh 125 1 v (g.calls++[m]).length ((g.calls++[m]).map (fun m=>aJ m.blk))++m.res)):=⟨hc.mono (fun i _ hi=>by
  rcases hi with rfl | hi
  ·exact Key.app.2 (Or.inl (Key.one.2 rfl))
  ·exact Key.app.2 (Or.inr ((bQ h.rc).2 hi))),fun k hk=>by
  rcases Key.app.1 hk with e | e
  ·exact Or.inl (Key.app.2 (Or.inl (Key.one.2 ((Key.one.1 e).trans rfl))))
  ·rcases Key.app.1 e with e | e
   ·rcases hnew k ((bQ hA2).1 e) with e | e
    ·exact Or.inl (Key.app.2 (Or.inr ((bQ h.rc).2 e)))
    ·exact Or.inr e
   ·rw[em] at e
    rw[Key.one.1 e]
    exact Or.inr hml⟩
 have p1:g.res.Perm ((g.aU++dh 125 1 g.cv g.calls.length (g.calls.map (fun m=>aJ m.blk)))++(g.aQ++(g.rowA++(dh 161 1 g.sv g.streams.length (g.streams.map (fun m=>aJ m.blk))++(g.streams.flatMap kZ.res++g.calls.flatMap jE.res))))):=aY (fun p=>by
  unfold CG.res CG.rest CG.rowA
  simp only[aH]
  omega)
 have p2:((({ g with cv:=v,calls:=g.calls++[m],called:=g.called+1 }:CG).aU++(dh 125 1 v (g.calls++[m]).length ((g.calls++[m]).map (fun m=>aJ m.blk))++m.res))++(g.aQ++(g.rowA++(dh 161 1 g.sv g.streams.length (g.streams.map (fun m=>aJ m.blk))++(g.streams.flatMap kZ.res++g.calls.flatMap jE.res))))).Perm ({ g with cv:=v,calls:=g.calls++[m],called:=g.called+1 }:CG).res:=aY (fun p=>by
  show _=cnt p (({ g with cv:=v,calls:=g.calls++[m],called:=g.called+1 }:CG).aU++(g.aQ++(g.rowA++(dh 161 1 g.sv g.streams.length (g.streams.map (fun m=>aJ m.blk))++(g.streams.flatMap kZ.res++(dh 125 1 v (g.calls++[m]).length ((g.calls++[m]).map (fun m=>aJ m.blk))++(g.calls++[m]).flatMap jE.res))))))
  have e1:(g.calls++[m]).flatMap jE.res=g.calls.flatMap jE.res++m.res:=by simp
  rw[e1]
  simp only[aH]
  omega)
 exact⟨⟨((h.has.perm p1).swap hh hg).perm p2,h.ra,h.rs,hA2,h.rv⟩,rfl,hg.swap.perm p1.symm p2,rfl,rfl,rfl,rfl,rfl⟩
theorem afb(g:CG)(v:Value)(m:jE):(g.cells.set 17 v).set 18 (.int .i64 ((g.called:Int)+1))=({ g with cv:=v,calls:=g.calls++[m],called:=g.called+1 }:CG).cells:=rfl
theorem Cli.YK{lo:Nat}{w w7:World}{g:CG}(m:jE)(h:Cli lo w g)(hlo:lo≤w.heap.size)(v:Value)(hc:aG (fun k=>g.cv.ownBlock=some k) w w7)(hA:w7.ownsRow lo 125 1 v (g.calls++[m]).length ((g.calls++[m]).map (fun m=>aJ m.blk)))(hnew:∀ k,v.ownBlock=some k→g.cv.ownBlock=some k∨w.heap.size≤k)(YJ:aK w7 m.blk 129 (nP m))(hml:w.heap.size≤m.blk):
  aK w7 g.b 96 g.cells∧aK (w7.setCell ⟨g.b,17,none⟩ v) g.b 96 (g.cells.set 17 v)∧aK ((w7.setCell ⟨g.b,17,none⟩ v).setCell ⟨g.b,18,none⟩ (.int .i64 ((g.called:Int)+1))) m.blk 129 (nP m)∧gG lo w g ({ g with cv:=v,calls:=g.calls++[m],called:=g.called+1 }:CG).st ((w7.setCell ⟨g.b,17,none⟩ v).setCell ⟨g.b,18,none⟩ (.int .i64 ((g.called:Int)+1))) ({ g with cv:=v,calls:=g.calls++[m],called:=g.called+1 }:CG):=by
 have hnb:=h.aaE
 have hbl:=h.blk.lt
 have DT:=h.blk.dB hc hnb
 have OQ:=DT.set 17 v
 have hB9:=OQ.set 18 (.int .i64 ((g.called:Int)+1))
 rw[afb g v m] at hB9
 have hc9:aG (fun k=>k=g.b) w7 ((w7.setCell ⟨g.b,17,none⟩ v).setCell ⟨g.b,18,none⟩ (.int .i64 ((g.called:Int)+1))):=((aG.refl (fun k=>k=g.b) w7).setCell ⟨g.b,17,none⟩ v (fun _=>rfl)).setCell ⟨g.b,18,none⟩ _ (fun _=>rfl)
 have YL:=YJ.dB hc9 (fun e=>by have:m.blk=g.b:=e;omega)
 have hA9:=hc9.own hA (fun k hk e=>DT.dF hA (by decide) (by rw[hk,e]))
 exact⟨DT,OQ,YL,h.afa hlo v ((hc.mono (fun k _ e=>Or.inr e)).same (hc9.mono (fun k _ e=>Or.inl e))) hB9 hA9 hnew YL hml ⟩
end Go.Proofs.YtolfcabodiphmaaGreatDoor
