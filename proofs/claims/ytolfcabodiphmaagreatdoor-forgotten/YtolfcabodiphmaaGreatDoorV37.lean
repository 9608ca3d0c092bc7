/- Package courierkeep: answer, the walk. -/
import Derived.Test.YtolfcabodiphmaaGreatDoorV36
set_option linter.unusedSimpArgs false
set_option linter.unusedVariables false
set_option maxHeartbeats 4000000
set_option maxRecDepth 100000
namespace Go.Proofs.YtolfcabodiphmaaGreatDoor
open Go.Proofs.Tryz
open Go.RowKit Go.Conc
theorem ZI{lo:Nat}{XC XS:List aO}{w:World}{g:WG}{p p':WP}(h:jh lo XC XS w g p)(i:Nat)(hA:p.kY i=some p'):
  Calls Tryz.prog 47 #[.pointer (some ⟨g.b,0,none⟩),.int .i64 i] w (fun e w'=>e=.returned (.bool true)∧∃ g',mg lo XC XS w g p' w' g'):=by
 obtain⟨x,c',k,v,hY,hca,hcase⟩:=vP hA
 obtain⟨ga,cc,hcv,hcell⟩:=h.wld.eY (k:=i) (x:=x) (by rw[h.eP];exact hY.at_)
 have hil:i<p.calls.length:=(List.getElem?_eq_some_iff.1 hY.at_).1
 have hl8:=hY.le
 obtain⟨N,hN⟩:∃ N,p.calls.length=N:=⟨_,rfl⟩
 have eL:g.calls.length=N:=by rw[h.eP];exact hN
 rw[eL] at hcv
 rw[hN] at hil hl8
 have Jc:w.cell? ⟨g.b,17,none⟩=some (.slice (some ⟨ga,0,none⟩) N cc):=(show w.cell? ⟨g.b,17,none⟩=some g.kX from h.wld.blk.cell 17).trans (by rw[hcv])
 have d1:w.cell? ⟨g.b,1,none⟩=some (.pointer (some ⟨g.cb,0,none⟩)):=h.wld.blk.cell 1
 have hgb:g.b<w.heap.size:=h.wld.blk.lt
 have b0:((N:Int)==0)=false:=by simp;omega
 have fO:(i:Int)<(N:Int):=by omega
 have hpk:jK (i:Int) N=i:=by
  unfold jK
  rw[if_neg (by omega),Int.emod_eq_of_lt (by omega) (by omega)]
  simp
 have aaR:=hid (show ∀ w',Calls Tryz.prog 6 #[.int .i64 i,.int .i64 N] w' (fun e w''=>e=.returned (.int .i64 i)∧w''=w') from fun w'=>by
  have:=pick_any (i:Int) N w' (by omega) (by unfold maxLen;omega) (by omega)
  rw[hpk] at this
  exact this)
 have agb:=hid (fun wa hb=>af8 h hY hca wa hb)
 have HKP:=hid (show ∀ w',Sb g.b w w'→(w'.cell? ⟨g.b,17,none⟩=some (.slice (some ⟨ga,0,none⟩) N cc)∧w'.cell? ⟨g.b,1,none⟩=some (.pointer (some ⟨g.cb,0,none⟩))) from fun w' hs=>⟨hs.cell 17 Jc,hs.cell 1 d1⟩)
 have HNC:=hid (g.ZH h.wld)
 have H:=hid h
 have HY:=hid hY
 have agc:=hid hcase
 have uI:=hid hcv
 have Xd:=hid eL
 have HN:=hid hN
 clear h hA hY hca hcase hcv hcell eL hN hpk
 go_enter func47,ntmps47
 go_wp2_with fail
 go_region_held3 (fun w'=>w'.cell? ⟨g.b,17,none⟩=some (.slice (some ⟨ga,0,none⟩) N cc)∧w'.cell? ⟨g.b,1,none⟩=some (.pointer (some ⟨g.cb,0,none⟩)))
  (exact HKP.out _ (by repeat (first | with_reducible assumption | with_reducible exact Sb.refl _ _ | with_reducible apply Sb.drew)))
  (first | (go_at_call 6;refine(aaR.out w.drew).mono ?_;rintro e wp ⟨rfl,rfl⟩))
 obtain⟨wd,hwd⟩:∃ wd,w.drew=wd:=⟨_,rfl⟩
 have hbd:Below w.heap.size w wd:=by rw[← hwd];exact(Below.refl _ _).drew
 have hsd:wd.heap.size=w.heap.size:=by rw[← hwd];rfl
 have HSd:=hid (show Sb g.b w wd from⟨hbd.block _ hgb,hbd.size⟩)
 have Hbd:=hid hbd
 have Hsd:=hid hsd
 rw[hwd]
 clear hwd hbd hsd
 go_upto_region 5 with fail
 go_cut [8,9] (fun s8 s9 wx=>∃ eb:Nat,s8=.pointer (some ⟨eb,0,none⟩)∧s9=.int .i64 0∧Hid (AnsAt lo w g c' k v eb wx))
 case first=>
  have HA1:=hid (agb.out wd.drew Hbd.out.drew)
  have HbZ:=hid (show Below w.heap.size w (wd.drew.alloc (.cells #[.int .i64 0,.string ⟨#[]⟩,.string ⟨#[]⟩] 127)) from Hbd.out.drew.alloc Hbd.out.size _)
  have HA2:=hid (agb.out (wd.drew.alloc (.cells #[.int .i64 0,.string ⟨#[]⟩,.string ⟨#[]⟩] 127)) HbZ.out)
  go_region_held3 (fun w'=>w'.cell? ⟨g.b,17,none⟩=some (.slice (some ⟨ga,0,none⟩) N cc)∧w'.cell? ⟨g.b,1,none⟩=some (.pointer (some ⟨g.cb,0,none⟩)))
   (exact HKP.out _ (by repeat (first | with_reducible exact Le.out | with_reducible exact HSd.out | with_reducible apply Sb.drew | with_reducible refine Sb.alloc ?_ hgb _ | with_reducible refine Sb.set ?_ _ _ HNE.out hgb)))
   (first | (go_at_call 6;refine(aaR.out _).mono ?_;rintro e wp ⟨rfl,rfl⟩) | (go_at_call 68;refine HA1.out.mono ?_;rintro e w1 ⟨rfl,cg1,h1⟩;have Le:=hid (show Sb g.b w w1 from⟨(h1.grow.c.block g.b (by rw[show wd.drew.heap.size=w.heap.size from Hsd.out];exact hgb) HNC.out).trans HSd.out.e,Nat.le_trans HSd.out.s h1.grow.c.size⟩);have HF:=hid (ake (k:=k) (v:=v) H.out.wld Hbd.out.drew h1);clear h1) | (go_at_call 68;refine HA2.out.mono ?_;rintro e w1 ⟨rfl,cg1,h1⟩;have Le:=hid (show Sb g.b w w1 from⟨(h1.grow.c.block g.b (Nat.lt_of_lt_of_le hgb HbZ.out.size) HNC.out).trans (HbZ.out.block _ hgb),Nat.le_trans HbZ.out.size h1.grow.c.size⟩);have Ag:=hid (akf (k:=k) (v:=v) H.out.wld Hbd.out.drew (eb:=wd.heap.size) rfl ((Below.refl _ wd.drew).alloc (Nat.le_refl _) _) (heap_alloc_new wd.drew _) h1);have HNE:=hid (show wd.heap.size≠g.b by have:=Hsd.out;omega);have z0:w1.cell? ⟨wd.heap.size,0,none⟩=some (.int .i64 0):=Ag.out.1.cell 0;have z1:w1.cell? ⟨wd.heap.size,1,none⟩=some (.string ⟨#[]⟩):=Ag.out.1.cell 1;have z2:w1.cell? ⟨wd.heap.size,2,none⟩=some (.string ⟨#[]⟩):=Ag.out.1.cell 2;have y0:=Ag.out.1.frozen 0;have y1:=Ag.out.1.frozen 1;have y2:=Ag.out.1.frozen 2;clear h1))
  all_goals
   go_wp2_with fail
   go_meet
   case rel=>
    first
    | exact⟨w1.heap.size,rfl,rfl,HF⟩
    | exact⟨wd.heap.size,rfl,rfl,hid Ag.out.2⟩
 case rest=>
  obtain⟨eb,rfl,rfl,HAt⟩:=hcut
  obtain⟨qP,hT,hBe,hnk,hle⟩:=HAt.out
  have HT:=hid hT
  have HBe:=hid hBe
  have v0:wc.cell? ⟨eb,0,none⟩=some (.int .i64 k):=hBe.cell 0
  have v1:wc.cell? ⟨eb,1,none⟩=some (.string v):=hBe.cell 1
  have v2:wc.cell? ⟨eb,2,none⟩=some (.string ⟨#[]⟩):=hBe.cell 2
  have hxn:({ g with cg:=qP }:WG).calls[i]? = some x:=by show g.calls[i]? = _;rw[H.out.eP];exact HY.out.at_
  obtain⟨ga2,cc2,hv2,hcell2⟩:=hT.wld.eY hxn
  obtain⟨rfl,rfl⟩:ga=ga2∧cc=cc2:=by
   have:=uI.out.symm.trans (show g.kX=_ from hv2)
   simp at this
   exact⟨this.1,this.2.2⟩
  have n2:wc.cell? ⟨ga,i*5+2,none⟩=some (.string x.answer):=hcell2 2 _ rfl
  have n4:wc.cell? ⟨ga,i*5+4,none⟩=some (.int .i64 x.ended):=hcell2 4 _ rfl
  have f4:wc.frozen? ⟨ga,i*5+4,none⟩=false:=by
   have:=hT.wld.iY
   rw[hv2] at this
   exact iD this _
  have hge:ga≠eb:=fun e=>by
   have h1:=hBe.dF hT.wld.iY (by decide)
   rw[hv2] at h1
   exact h1 (by rw[e];rfl)
  have HV2:=hid hv2
  have HXn:=hid hxn
  have HGe:=hid hge
  clear hT hBe hnk hle hxn hv2 hcell2 hge
  rcases agc.out with⟨rfl,rfl,he⟩ | ⟨rfl,hen,han,rfl,he⟩ | ⟨rfl,hen,rfl,hcs,he⟩
  ·have HFin:=hid (H.out.to (p':=p') HT.out.same (by
    have e1:({ g with cg:=qP }:WG).st = { g.st with c:=qP.st }:=rfl
    have e2:qP.st=c':=congrArg WP.c HT.out.st
    rw[e1,e2,H.out.st,he]) (by rw[he];exact H.out.cf))
   clear he
   go_wp2_with fail
   go_ret
   exact⟨rfl,_,HFin.out⟩
  ·have n40:wc.cell? ⟨ga,i*5+4,none⟩=some (.int .i64 0):=by rw[n4,hen];rfl
   have kF:=HT.out.trans (HT.out.wld.WJ (k:=i) (j:=4) (x:=x) (x':={ x with ended:=1 }) (v:=.int .i64 1) HXn.out (by decide) rfl HV2.out)
   have hc3:aG (fun j=>j=ga) wc (wc.setCell ⟨ga,i*5+4,none⟩ (.int .i64 1)):=(aG.refl (fun j=>j=ga) wc).setCell ⟨ga,i*5+4,none⟩ _ (fun _=>rfl)
   have hB3:=HBe.out.dB hc3 (fun e=>HGe.out (Eq.symm e))
   obtain⟨w3,hw3⟩:∃ w3,wc.setCell ⟨ga,i*5+4,none⟩ (.int .i64 1)=w3:=⟨_,rfl⟩
   rw[hw3] at kF hB3
   obtain⟨ga3,cc3,hv3,oJ⟩:=kF.wld.eY (k:=i) (x:={ x with ended:=1 }) (by show (g.calls.set i _)[i]? = _;rw[H.out.eP];simp[hil,HN.out])
   obtain⟨rfl,rfl⟩:ga=ga3∧cc=cc3:=by
    have:=uI.out.symm.trans (show g.kX=_ from hv3)
    simp at this
    exact⟨this.1,this.2.2⟩
   have m2:w3.cell? ⟨ga,i*5+2,none⟩=some (.string x.answer):=oJ 2 _ rfl
   have u1:w3.cell? ⟨eb,1,none⟩=some (.string x.answer):=hB3.cell 1
   have Iy:x.answer.toList≠[]:=fun e0=>han (ug (by rw[e0,ByteArray.toList_eq]))
   have b5:(x.answer.toList != ([]:List UInt8))=true:=by simpa using Iy
   have b5a:(x.answer.toList != (ByteArray.mk #[]).toList)=true:=by rw[ByteArray.toList_eq (ByteArray.mk #[])];simpa using Iy
   have b5b:(x.answer.toList==([]:List UInt8))=false:=by simpa using Iy
   have b5c:(x.answer.toList==(ByteArray.mk #[]).toList)=false:=by rw[ByteArray.toList_eq (ByteArray.mk #[])];simpa using Iy
   have b5d:x.answer.toList≠(ByteArray.mk #[]).toList:=by rw[ByteArray.toList_eq (ByteArray.mk #[])];exact Iy
   have b6:(x.answer.toList==x.answer.toList)=true:=by simp
   have HFin:=hid (H.out.to (p':=p') kF.same (by
    have e1:({ g with cg:=qP,calls:=g.calls.set i { x with ended:=1 } }:WG).st = { g.st with c:=qP.st,calls:=g.calls.set i { x with ended:=1 } }:=rfl
    have e2:qP.st=c':=congrArg WP.c HT.out.st
    show ({ g with cg:=qP,calls:=g.calls.set i { x with ended:=1 } }:WG).st=_
    rw[e1,e2,H.out.st,H.out.eP,he]) (by rw[he];exact H.out.cf))
   clear he n4 hen kF hc3 hB3 hv3 oJ
   go_wp2_with fail
   go_quiet (fail)
   go_wp2_with fail
   go_ret
   exact⟨rfl,_,HFin.out.below (below_drewN (Below.refl w3.heap.size w3) nq)⟩
  ·have n40:wc.cell? ⟨ga,i*5+4,none⟩=some (.int .i64 0):=by rw[n4,hen];rfl
   have kF:=HT.out.trans (HT.out.wld.WJ (k:=i) (j:=4) (x:=x) (x':={ x with ended:=3 }) (v:=.int .i64 3) HXn.out (by decide) rfl HV2.out)
   have hc3:aG (fun j=>j=ga) wc (wc.setCell ⟨ga,i*5+4,none⟩ (.int .i64 3)):=(aG.refl (fun j=>j=ga) wc).setCell ⟨ga,i*5+4,none⟩ _ (fun _=>rfl)
   have hB3:=HBe.out.dB hc3 (fun e=>HGe.out (Eq.symm e))
   obtain⟨w3,hw3⟩:∃ w3,wc.setCell ⟨ga,i*5+4,none⟩ (.int .i64 3)=w3:=⟨_,rfl⟩
   rw[hw3] at kF hB3
   obtain⟨ga3,cc3,hv3,oJ⟩:=kF.wld.eY (k:=i) (x:={ x with ended:=3 }) (by show (g.calls.set i _)[i]? = _;rw[H.out.eP];simp[hil,HN.out])
   obtain⟨rfl,rfl⟩:ga=ga3∧cc=cc3:=by
    have:=uI.out.symm.trans (show g.kX=_ from hv3)
    simp at this
    exact⟨this.1,this.2.2⟩
   have u1:w3.cell? ⟨eb,1,none⟩=some (.string ⟨#[]⟩):=hB3.cell 1
   have u21:w3.cell? ⟨g.b,21,none⟩=some (.bool true):=(show w3.cell? ⟨g.b,21,none⟩=some (.bool g.cause) from kF.wld.blk.cell 21).trans (by rw[H.out.acC,hcs])
   have HFin:=hid (H.out.to (p':=p') kF.same (by
    have e1:({ g with cg:=qP,calls:=g.calls.set i { x with ended:=3 } }:WG).st = { g.st with c:=qP.st,calls:=g.calls.set i { x with ended:=3 } }:=rfl
    have e2:qP.st=c':=congrArg WP.c HT.out.st
    show ({ g with cg:=qP,calls:=g.calls.set i { x with ended:=3 } }:WG).st=_
    rw[e1,e2,H.out.st,H.out.eP,he]) (by rw[he];exact H.out.cf))
   clear he n4 hen kF hc3 hB3 hv3 oJ
   go_wp2_with fail
   go_ret
   exact⟨rfl,_,HFin.out⟩
theorem mJ{α β:Type}{f:β → α → Option β}(P:β → Prop)(hs:∀ x a y,P x→f x a=some y→P y):∀ (l:List α) {w r:β},P w→bY f w l=some r→P r
 | [],w,r,h0,h=>by rw[SA] at h;rw[← Option.some.inj h];exact h0
 | a::l,w,r,h0,h=>by
  have e:bY f w (a::l)=(f w a).bind (fun x=>bY f x l):=by
   have:=FK f w [a] l
   rw[show ([a]++l)=a::l from rfl] at this
   rw[this]
   rfl
  rw[e] at h
  cases ha:f w a with
  | none=>rw[ha] at h;cases h
  | some x=>rw[ha] at h;exact mJ P hs l (hs w a x h0 ha) h
theorem FU{p r:WP}(h:p.qy=some r):∃ p2 p3,p.Dt=true∧WP.nY 51 p.jQ.lG=some p2∧p2.bK=0∧p2.bC=0∧p2.streams=[]∧WP.qx 10 p2=some p3∧(∀ x∈p3.calls,x.id<0∨x.answer≠⟨#[]⟩)∧p3.calls.length≤8∧bY WP.kY p3 (List.range p3.calls.length)=some r:=by
 unfold WP.qy WP.Ik at h
 split at h
 ·rename_i hT
  rw[Option.bind_some] at h
  rcases Option.eq_none_or_eq_some (WP.nY 51 p.jQ.lG) with e | ⟨p2,e⟩
  ·rw[e] at h;cases h
  ·rw[e,Option.bind_some] at h
   split at h
   ·rename_i h1
    simp only[Bool.and_eq_true,decide_eq_true_eq,List.isEmpty_iff] at h1
    rcases Option.eq_none_or_eq_some (WP.qx 10 p2) with e2 | ⟨p3,e2⟩
    ·rw[e2] at h;cases h
    ·rw[e2,Option.bind_some] at h
     split at h
     ·rename_i h2
      simp only[Bool.and_eq_true,decide_eq_true_eq,List.all_eq_true,Bool.or_eq_true,Bool.not_eq_true',decide_eq_false_iff_not] at h2
      exact⟨p2,p3,hT,e,h1.1.1,h1.1.2,h1.2,e2,h2.1,h2.2,h⟩
     ·cases h
   ·cases h
 ·cases h
theorem FV{n:Nat}{p r:WP}(h:WP.qx n p=some r):∃ (m:Nat) (p':WP) (b:Bool),n=m+1∧p.FM=some (p',b)∧((b=false∧p'=r)∨(b=true∧WP.qx m p'=some r)):=by
 cases n with
 | zero=>cases h
 | succ m=>
  unfold WP.qx at h
  rcases Option.eq_none_or_eq_some p.FM with e | ⟨⟨p',b⟩,e⟩
  ·rw[e] at h;cases h
  ·rw[e] at h
   refine⟨m,p',b,rfl,e,?_⟩
   cases b with
   | false=>exact Or.inl ⟨rfl,Option.some.inj h⟩
   | true=>exact Or.inr ⟨rfl,h⟩
theorem KX{p p':WP}{i:Nat}(h:p.kY i=some p'):p'.calls.length=p.calls.length:=by
 obtain⟨z,c',k,v,_,_,hc⟩:=vP h
 rcases hc with⟨_,_,rfl⟩ | ⟨_,_,_,_,rfl⟩ | ⟨_,_,_,_,rfl⟩<;>simp
theorem FW{p p':WP}(l:List Nat)(h:bY WP.kY p l=some p'):p'.calls.length=p.calls.length :=
 mJ (fun x=>x.calls.length=p.calls.length) (fun x a y hx hy=>(KX hy).trans hx) l rfl h
def ZJ(lo:Nat)(XC XS:List aO)(w:World)(g:WG)(p3:WP)(gk:Nat)(th:Bool)(wr:World):Prop:=∃ (n:Nat) (pk:WP) (gg:WG),mg lo XC XS w g pk wr gg∧((th=true∧n+1=gk∧WP.qx n pk=some p3)∨(th=false∧pk=p3))
theorem acO{lo:Nat}{XC XS:List aO}{w:World}{g:WG}{p r:WP}(h:jh lo XC XS w g p)(hXC:(aV bH).1=some (XC.map (fun x=>x.it)))(SN:(aV bH).1=some (XS.map (fun x=>x.it)))(hR:p.qy=some r):
  Calls Tryz.prog 29 #[.pointer (some ⟨g.b,0,none⟩)] w (fun e w'=>e=.returned (.bool true)∧∃ g',mg lo XC XS w g r w' g'):=by
 obtain⟨p2,p3,hT,hE,hs0,hs1,hst,hN,agf,hl3,hA⟩:=FU hR
 have ZE:=hid hXC
 have ZF:=hid SN
 have HT:=hid hT
 have HE:=hid hE
 have HS0:=hid hs0
 have Le:=hid hs1
 have HST:=hid hst
 have HN:=hid hN
 have HID:=hid agf
 have HL3:=hid hl3
 have HA:=hid hA
 have HC0:=hid (Pj h hT)
 clear h hXC SN hT hE hs0 hs1 hst hN agf hl3 hA hR
 go_enter func29,ntmps29
 go_wp2_with fail
 refine HC0.out.mono ?_;rintro e w1 ⟨rfl,g1,h1⟩
 have wO:=hid (Pm h1.jO HT.out)
 rw[h1.b] at wO
 have H1:=hid h1
 clear h1
 go_wp2_with fail
 refine wO.out.mono ?_;rintro e w2 ⟨rfl,g2,h2⟩
 have HC2:=hid (aaO h2.jO ZE.out ZF.out HE.out)
 rw[h2.b,H1.out.b] at HC2
 have H2:=hid (H1.out.trans h2)
 clear h2
 go_wp2_with fail
 refine HC2.out.mono ?_;rintro e w3 ⟨rfl,g3,h3⟩
 have H3:=hid (H2.out.trans h3)
 have k19:w3.cell? ⟨g.b,19,none⟩=some (.int .i64 0):=by
  have:=H3.out.jO.wld.blk.cell 19
  rw[H3.out.b] at this
  exact this.trans (by show some (Value.int .i64 g3.bK)=_;rw[H3.out.jO.gS0,HS0.out];rfl)
 have k20:w3.cell? ⟨g.b,20,none⟩=some (.int .i64 0):=by
  have:=H3.out.jO.wld.blk.cell 20
  rw[H3.out.b] at this
  exact this.trans (by show some (Value.int .i64 g3.bC)=_;rw[H3.out.jO.gS1,Le.out];rfl)
 have Ja:=hid (Zo H3.out.jO.wld (by rw[H3.out.jO.Dy];exact HST.out))
 rw[H3.out.b] at Ja
 clear h3
 go_wp2_with fail
 refine Ja.out.mono ?_;rintro e w4 ⟨rfl,rfl⟩
 go_wp2_with fail
 go_loopg [3,4] 11 (fun gk ok th wr=>ok=.bool true∧∃ b:Bool,th=.bool b∧Hid (ZJ lo XC XS w g p3 gk b wr))
 case atStart=>exact⟨rfl,true,rfl,hid ⟨10,p2,g3,H3.out,Or.inl ⟨rfl,rfl,HN.out⟩⟩⟩
 case round=>
  obtain⟨rfl,b,rfl,HK⟩:=hrel
  obtain⟨n,pk,gg,hF,hcase⟩:=HK.out
  cases b with
  | true=>
   obtain⟨_,hn,hnx⟩ | ⟨hx,_⟩:=hcase
   ·obtain⟨m,pn,b2,hnm,hng,hrest⟩:=FV hnx
    have HF:=hid hF
    have HC4:=hid (fNext hF.jO ZF.out hng)
    rw[hF.b] at HC4
    have HR2:=hid hrest
    have Je:=hid hnm
    clear hF hnx hng hrest HK hnm
    go_wp2_with fail
    refine HC4.out.mono ?_;rintro e w5 ⟨rfl,g5,h5⟩
    have HF5:=hid (HF.out.trans h5)
    clear h5
    go_wp2_with fail
    go_roundg (gk-1)
    case rel=>exact⟨rfl,b2,rfl,hid ⟨m,pn,g5,HF5.out,by
     rcases HR2.out with⟨e1,e2⟩ | ⟨e1,e2⟩
     ·exact Or.inr ⟨e1,e2⟩
     ·exact Or.inl ⟨e1,by have:=Je.out;omega,e2⟩⟩⟩
    case measure=>omega
   ·cases hx
  | false=>
   obtain⟨hx,_⟩ | ⟨_,rfl⟩:=hcase
   ·cases hx
   have HF:=hid hF
   obtain⟨ca,cc,hcv⟩:=hF.jO.wld.ra.slice
   have eL:gg.calls.length=pk.calls.length:=by rw[hF.jO.eP]
   have Jc:wr.cell? ⟨g.b,17,none⟩=some (.slice ca pk.calls.length cc):=by
    have:wr.cell? ⟨gg.b,17,none⟩=some gg.kX:=hF.jO.wld.blk.cell 17
    rw[hF.b] at this
    rw[this,hcv,eL]
   have hl8:=HL3.out
   obtain⟨N,O4⟩:∃ N,pk.calls.length=N:=⟨_,rfl⟩
   rw[O4] at Jc hl8
   have HN8:=hid O4
   have uI:=hid hcv
   have Xd:=hid eL
   clear hF hcv eL O4 HK
   go_wp2_with fail
   go_loopg [3,5] N (fun YR ok i wq=>ok=.bool true∧∃ k:Nat,k+YR=N∧i=.int .i64 k∧wq=wr)
   case atStart=>exact⟨rfl,0,by omega,rfl,rfl⟩
   case round=>
    obtain⟨rfl,k,hk,rfl,rfl⟩:=hrel
    by_cases hlt:k<N
    ·obtain⟨x,hx⟩:∃ x,pk.calls[k]? = some x:=⟨_,List.getElem?_eq_getElem (by rw[HN8.out];exact hlt)⟩
     obtain⟨ga,c,hv,hcell⟩:=HF.out.jO.wld.eY (k:=k) (x:=x) (by rw[HF.out.jO.eP];exact hx)
     obtain⟨rfl,rfl⟩:ca=some ⟨ga,0,none⟩∧cc=c:=by simpa using uI.out.symm.trans hv
     have c3:wr.cell? ⟨ga,k*5+3,none⟩=some (.int .i64 x.id):=hcell 3 _ rfl
     have c2:wr.cell? ⟨ga,k*5+2,none⟩=some (.string x.answer):=hcell 2 _ rfl
     have fO:(k:Int)<(N:Int):=by omega
     have hxx:=HID.out x (List.mem_of_getElem? hx)
     clear hv hcell hx
     by_cases agh:x.id<0
     ·have b0:¬ (0:Int)≤x.id:=by omega
      clear hxx
      go_wp2_with fail
      go_roundg (gk-1)
      case rel=>exact⟨rfl,k+1,by omega,by go_num,rfl⟩
      case measure=>omega
     ·have b0:(0:Int)≤x.id:=by omega
      have Iy:x.answer.toList≠[]:=by
       rcases hxx with e | e
       ·exact absurd e agh
       ·exact fun e0=>e (ug (by rw[e0,ByteArray.toList_eq]))
      have b1:(x.answer.toList==([]:List UInt8))=false:=by simpa using Iy
      have b2:(x.answer.toList==(ByteArray.mk #[]).toList)=false:=by rw[ByteArray.toList_eq (ByteArray.mk #[])];simpa using Iy
      have b3:x.answer.toList≠(ByteArray.mk #[]).toList:=by rw[ByteArray.toList_eq (ByteArray.mk #[])];exact Iy
      clear hxx agh
      go_wp2_with fail
      go_roundg (gk-1)
      case rel=>exact⟨rfl,k+1,by omega,by go_num,rfl⟩
      case measure=>omega
    ·have fO:¬ (k:Int)<(N:Int):=by omega
     go_wp2_with fail
     go_loopg [3,6] N (fun gk3 ok i wz=>ok=.bool true∧∃ k:Nat,k+gk3=N∧i=.int .i64 k∧∃ (pj:WP) (gj:WG),Hid (bY WP.kY pk ((List.range N).take k)=some pj)∧Hid (mg lo XC XS w g pj wz gj))
     case atStart=>exact⟨rfl,0,by omega,rfl,pk,gg,hid rfl,HF⟩
     case round=>
      obtain⟨rfl,j,hj,rfl,pj,gj,HFj,nZ⟩:=hrel
      have hAr:bY WP.kY pk (List.range N)=some r:=by have:=HA.out;rw[HN8.out] at this;exact this
      have eLj:gj.calls.length=N:=by rw[nZ.out.jO.eP,FW _ HFj.out,HN8.out]
      obtain⟨ja,jc,hjv⟩:=nZ.out.jO.wld.ra.slice
      have e17:wr.cell? ⟨g.b,17,none⟩=some (.slice ja N jc):=by
       have:wr.cell? ⟨gj.b,17,none⟩=some gj.kX:=nZ.out.jO.wld.blk.cell 17
       rw[nZ.out.b] at this
       rw[this,hjv,eLj]
      have HAR:=hid hAr
      clear hAr hjv eLj
      by_cases hlj:j<N
      ·obtain⟨pj2,hs1,hs2⟩:=jI HAR.out (k:=j) (a:=j) (by simp[hlj]) HFj.out
       have HCj:=hid (ZI nZ.out.jO j hs1)
       rw[nZ.out.b] at HCj
       have HS2:=hid hs2
       have acP:(j:Int)<(N:Int):=by omega
       clear hs1 hs2
       go_wp2_with fail
       refine HCj.out.mono ?_;rintro e w6 ⟨rfl,g6,h6⟩
       have HT6:=hid (nZ.out.trans h6)
       clear h6
       go_wp2_with fail
       go_roundg (gk-1)
       case rel=>exact⟨rfl,j+1,by omega,by go_num,pj2,g6,HS2,HT6⟩
       case measure=>omega
      ·have acP:¬ (j:Int)<(N:Int):=by omega
       have HEq:=hid (kQ HAR.out (by simp;omega) HFj.out)
       go_wp2_with fail
       go_ret
       exact⟨rfl,gj,by rw[← HEq.out];exact nZ.out⟩
theorem KY{p r:WP}(h:p.Du=some r):∃ p1,p.streams=[]∧p.v0=[]∧p.v1=[]∧p.v2=[]∧p.calls.length≤8∧p.Xz=some p1∧bY (fun x (_:Nat)=>WP.qy x) p1 (List.range (20+p.calls.length))=some r∧l9 r.calls=0:=by
 unfold WP.Du at h
 split at h
 ·rename_i hB
  simp only[Bool.and_eq_true,decide_eq_true_eq,List.isEmpty_iff] at hB
  rcases Option.eq_none_or_eq_some p.Xz with e | ⟨p1,e⟩
  ·rw[e] at h;cases h
  ·rw[e,Option.bind_some] at h
   rcases Option.eq_none_or_eq_some (bY (fun x (_:Nat)=>WP.qy x) p1 (List.range (20+p.calls.length))) with e2 | ⟨p2,e2⟩
   ·rw[e2] at h;cases h
   ·rw[e2,Option.bind_some] at h
    split at h
    ·rename_i hA
     obtain rfl:=Option.some.inj h
     exact⟨p1,hB.1.1.1.1,hB.1.1.1.2,hB.1.1.2,hB.1.2,hB.2,e,e2,of_decide_eq_true hA⟩
    ·cases h
 ·cases h
theorem NP{p p':WP}{i:Nat}(h:p.vN i=some p'):p'.streams=p.streams∧p'.calls.length=p.calls.length:=by
 unfold WP.vN at h
 split at h
 ·split at h
  ·split at h
   ·split at h
    ·obtain rfl:=Option.some.inj h;simp
    ·cases h
   ·cases h
  ·cases h
 ·cases h
theorem SV{p p':WP}(l:List aP)(h:bY WP.sJ p l=some p'):p'.streams=p.streams∧p'.calls=p.calls :=
 mJ (fun x=>x.streams=p.streams∧x.calls=p.calls) (fun x a y hx hy=>by
  unfold WP.sJ at hy
  split at hy
  ·obtain rfl:=Option.some.inj hy
   exact hx
  ·cases hy) l ⟨rfl,rfl⟩ h
theorem SX{p p':WP}(l:List aP)(h:bY WP.sK p l=some p'):p'.streams=p.streams∧p'.calls=p.calls :=
 mJ (fun x=>x.streams=p.streams∧x.calls=p.calls) (fun x a y hx hy=>by
  unfold WP.sK at hy
  split at hy
  ·obtain rfl:=Option.some.inj hy
   exact hx
  ·cases hy) l ⟨rfl,rfl⟩ h
theorem FX:∀ {n:Nat} {p r:WP},WP.nY n p=some r→r.streams=p.streams∧r.calls=p.calls
 | 0,p,r,h=>by cases h
 | n+1,p,r,h=>by
  obtain⟨m,p',b,hm,ht,hr⟩:=KU h
  obtain⟨p1,_,h1,_,h2,_⟩:=KT ht
  obtain⟨a1,a2⟩:=SV _ h1
  obtain⟨b1,b2⟩:=SX _ h2
  have e:p'.streams=p.streams∧p'.calls=p.calls:=⟨b1.trans a1,b2.trans a2⟩
  rcases hr with⟨_,rfl⟩ | ⟨_,hr⟩
  ·exact e
  ·obtain rfl:n=m:=by omega
   obtain⟨c1,c2⟩:=FX hr
   exact⟨c1.trans e.1,c2.trans e.2⟩
theorem DI:∀ {n:Nat} {p r:WP},WP.qx n p=some r→r.streams=p.streams∧r.calls.length=p.calls.length
 | 0,p,r,h=>by cases h
 | n+1,p,r,h=>by
  obtain⟨m,p',b,hm,ht,hr⟩:=FV h
  have e:p'.streams=p.streams∧p'.calls.length=p.calls.length:=by
   rcases KW ht with⟨_,rfl,_⟩ | ⟨_,q,r,i,x,hY⟩
   ·exact⟨rfl,rfl⟩
   ·have:=NP hY.rp
    simpa using this
  rcases hr with⟨_,rfl⟩ | ⟨_,hr⟩
  ·exact e
  ·obtain rfl:n=m:=by omega
   obtain⟨c1,c2⟩:=DI hr
   exact⟨c1.trans e.1,c2.trans e.2⟩
theorem SY{p p':WP}(l:List Nat)(h:bY WP.kY p l=some p'):p'.streams=p.streams :=
 mJ (fun x=>x.streams=p.streams) (fun x a y hx hy=>by
  obtain⟨z,c',k,v,_,_,hc⟩:=vP hy
  rcases hc with⟨_,_,rfl⟩ | ⟨_,_,_,_,rfl⟩ | ⟨_,_,_,_,rfl⟩
  ·exact hx
  ·exact hx
  ·exact hx) l rfl h
theorem NQ{p r:WP}(h:p.qy=some r):r.streams=p.streams∧r.calls.length=p.calls.length:=by
 obtain⟨p2,p3,_,hE,_,_,_,hN,_,_,hA⟩:=FU h
 obtain⟨a1,a2⟩:=FX hE
 obtain⟨b1,b2⟩:=DI hN
 have e1:p.jQ.lG.streams=p.streams:=rfl
 have e2:p.jQ.lG.calls=p.calls:=rfl
 exact⟨(SY _ hA).trans (b1.trans (a1.trans e1)),(FW _ hA).trans (b2.trans (by rw[a2,e2]))⟩
theorem FY{p p':WP}(l:List Nat)(h:bY (fun x (_:Nat)=>WP.qy x) p l=some p'):p'.streams=p.streams∧p'.calls.length=p.calls.length :=
 mJ (fun x=>x.streams=p.streams∧x.calls.length=p.calls.length) (fun x a y hx hy=>by
  obtain⟨b1,b2⟩:=NQ hy
  exact⟨b1.trans hx.1,b2.trans hx.2⟩) l ⟨rfl,rfl⟩ h
theorem NR{p p':WP}(h:p.Xz=some p'):p'=p.up0:=by
 unfold WP.Xz at h
 split at h
 ·exact(Option.some.inj h).symm
 ·cases h
theorem nilRow{w:World}{b o:Nat}{v:Value}{l:List ByteArray}(hr:eX 1 v l.length (lg l))(hl:l=[])(hc:w.cell? ⟨b,o,none⟩=some v):∃ a c,w.cell? ⟨b,o,none⟩=some (.slice a 0 c):=by
 obtain⟨a,c,e⟩:=hr.slice
 subst hl
 exact⟨a,c,by rw[hc,e];rfl⟩
theorem aaS{lo:Nat}{XC XS:List aO}{w:World}{g:WG}{p r:WP}(h:jh lo XC XS w g p)(hXC:(aV bH).1=some (XC.map (fun x=>x.it)))(SN:(aV bH).1=some (XS.map (fun x=>x.it)))(hR:p.Du=some r):
  Calls Tryz.prog 12 #[.pointer (some ⟨g.b,0,none⟩)] w (fun e w'=>e=.returned (.bool true)∧∃ g',mg lo XC XS w g r w' g'):=by
 obtain⟨p1,hst,hv0,hv1,hv2,hl8,hU,hF,hA⟩:=KY hR
 have hp1:=NR hU
 have ZE:=hid hXC
 have ZF:=hid SN
 have HC0:=hid (fUp h hU)
 have HF:=hid hF
 have HA:=hid hA
 have HP:=hid (show p1.streams=[]∧p1.v0=[]∧p1.v1=[]∧p1.v2=[]∧p1.calls.length=p.calls.length by
  rw[hp1]
  exact⟨hst,hv0,hv1,hv2,rfl⟩)
 obtain⟨N,hN⟩:∃ N,p.calls.length=N:=⟨_,rfl⟩
 rw[hN] at HF HP hl8
 clear h hXC SN hR hst hv0 hv1 hv2 hU hF hA hN hp1
 go_enter func12,ntmps12
 go_wp2_with fail
 refine HC0.out.mono ?_;rintro e w1 ⟨rfl,g1,h1⟩
 have eb:=h1.b
 obtain⟨sa,sc,hsv⟩:=h1.jO.wld.rt.slice
 obtain⟨ca,cc,hcv⟩:=h1.jO.wld.ra.slice
 have d16:w1.cell? ⟨g.b,16,none⟩=some (.slice sa 0 sc):=by
  have:w1.cell? ⟨g1.b,16,none⟩=some g1.stv:=h1.jO.wld.blk.cell 16
  rw[eb] at this
  rw[this,hsv,h1.jO.Dy,HP.out.1]
  rfl
 have Jc:w1.cell? ⟨g.b,17,none⟩=some (.slice ca N cc):=by
  have:w1.cell? ⟨g1.b,17,none⟩=some g1.kX:=h1.jO.wld.blk.cell 17
  rw[eb] at this
  rw[this,hcv,h1.jO.eP,HP.out.2.2.2.2]
 have hV:∀ j,j<3→∃ a c,w1.cell? ⟨g.b,10+j,none⟩=some (.slice a 0 c):=fun j hj=>by
  have e0:g1.v0=[]:=(congrArg WP.v0 h1.jO.st).trans HP.out.2.1
  have e1:g1.v1=[]:=(congrArg WP.v1 h1.jO.st).trans HP.out.2.2.1
  have e2:g1.v2=[]:=(congrArg WP.v2 h1.jO.st).trans HP.out.2.2.2.1
  rcases(by omega:j=0∨j=1∨j=2) with rfl | rfl | rfl
  ·exact nilRow h1.jO.wld.r0 e0 (by have:w1.cell? ⟨g1.b,10,none⟩=some g1.vv0:=h1.jO.wld.blk.cell 10;rw[eb] at this;exact this)
  ·exact nilRow h1.jO.wld.r1 e1 (by have:w1.cell? ⟨g1.b,11,none⟩=some g1.vv1:=h1.jO.wld.blk.cell 11;rw[eb] at this;exact this)
  ·exact nilRow h1.jO.wld.r2 e2 (by have:w1.cell? ⟨g1.b,12,none⟩=some g1.vv2:=h1.jO.wld.blk.cell 12;rw[eb] at this;exact this)
 have HV:=hid hV
 have H1:=hid h1
 clear h1 eb hsv hcv hV
 go_wp2_with fail
 go_quiet (fail)
 obtain⟨wq,hwq⟩:∃ wq,w1.drewN nq=wq:=⟨_,rfl⟩
 have HQ:=hid (below_drewN (Below.refl w1.heap.size w1) nq)
 rw[hwq] at HQ ⊢
 have HVq:=hid (show ∀ j,j<3→∃ a c,wq.cell? ⟨g.b,10+j,none⟩=some (.slice a 0 c) from fun j hj=>by rw[← hwq];exact HV.out j hj)
 have HTq:=hid (H1.out.below HQ.out)
 clear hwq
 go_wp2_with fail
 go_loopg [4,5] 3 (fun gk n t wr=>∃ j:Nat,j+gk=3∧n=.int .i64 (20+N)∧t=.int .i64 j∧wr=wq)
 case atStart=>exact⟨0,rfl,by go_num,rfl,rfl⟩
 case round=>
  obtain⟨j,hj,rfl,rfl,rfl⟩:=hrel
  by_cases hlt:j<3
  ·obtain⟨a,c,hc⟩:=HVq.out j hlt
   have fO:(j:Int)<3:=by omega
   go_wp2_with fail
   go_roundg (gk-1)
   case rel=>exact⟨j+1,by omega,by go_num,by go_num,rfl⟩
   case measure=>omega
  ·have fO:¬ (j:Int)<3:=by omega
   go_wp2_with fail
   go_loopg [3,6] (20+N) (fun gk3 ok i wz=>ok=.bool true∧∃ k:Nat,k+gk3=20+N∧i=.int .i64 k∧∃ (pj:WP) (gj:WG),Hid (bY (fun x (_:Nat)=>WP.qy x) p1 ((List.range (20+N)).take k)=some pj)∧Hid (mg lo XC XS w g pj wz gj))
   case atStart=>exact⟨rfl,0,by omega,rfl,p1,g1,hid rfl,HTq⟩
   case round=>
    obtain⟨rfl,k,hk,rfl,pj,gj,HFj,nZ⟩:=hrel
    by_cases hlk:k<20+N
    ·obtain⟨pj2,hs1,hs2⟩:=jI HF.out (k:=k) (a:=k) (by simp[hlk]) HFj.out
     have HCj:=hid (acO nZ.out.jO ZE.out ZF.out hs1)
     rw[nZ.out.b] at HCj
     have HS2:=hid hs2
     have aki:(k:Int)<20+(N:Int):=by omega
     clear hs1 hs2
     go_wp2_with fail
     refine HCj.out.mono ?_;rintro e w6 ⟨rfl,g6,h6⟩
     have HT6:=hid (nZ.out.trans h6)
     clear h6
     go_wp2_with fail
     go_roundg (gk-1)
     case rel=>exact⟨rfl,k+1,by omega,by go_num,pj2,g6,HS2,HT6⟩
     case measure=>omega
    ·have aki:¬ (k:Int)<20+(N:Int):=by omega
     obtain rfl:=kQ HF.out (by simp;omega) HFj.out
     obtain⟨za,zc,hzv⟩:=nZ.out.jO.wld.rt.slice
     have hLn:=FY _ HFj.out
     have z16:wr.cell? ⟨g.b,16,none⟩=some (.slice za 0 zc):=by
      have:wr.cell? ⟨gj.b,16,none⟩=some gj.stv:=nZ.out.jO.wld.blk.cell 16
      rw[nZ.out.b] at this
      rw[this,hzv,nZ.out.jO.Dy,hLn.1,HP.out.1]
      rfl
     have HAk:=hid (Ii nZ.out.jO.wld (by rw[nZ.out.jO.eP,hLn.2,HP.out.2.2.2.2];omega))
     rw[nZ.out.b,nZ.out.jO.eP,HA.out] at HAk
     clear hzv hLn
     go_wp2_with fail
     go_loopg [7] 1 (fun gk4 i wy=>i=.int .i64 0∧wy=wr)
     case atStart=>exact⟨rfl,rfl⟩
     case round=>
      obtain⟨rfl,rfl⟩:=hrel
      go_wp2_with fail
      refine HAk.out.mono ?_;rintro e w8 ⟨rfl,rfl⟩
      go_wp2_with fail
      go_ret
      exact⟨rfl,gj,nZ.out⟩
end Go.Proofs.YtolfcabodiphmaaGreatDoor
