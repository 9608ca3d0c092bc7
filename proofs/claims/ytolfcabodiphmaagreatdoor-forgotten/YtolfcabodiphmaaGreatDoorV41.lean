/- Package courierkeep: Forgotten answers true. -/
import Derived.Test.YtolfcabodiphmaaGreatDoorV37
import Derived.Test.YtolfcabodiphmaaGreatDoorV39
import Derived.Test.YtolfcabodiphmaaGreatDoorV40
set_option linter.unusedSimpArgs false
set_option linter.unusedVariables false
set_option maxHeartbeats 8000000
set_option maxRecDepth 100000
namespace Go.Proofs.YtolfcabodiphmaaGreatDoor
open Go.Proofs.Tryz
open Go.RowKit Go.Conc
structure ZY(W n t:Nat)(u1 c1 t1 r1 u2 c2 r2:WP):Prop where
 hu1:(WP.init W 1).Xz=some u1
 hc1:bY WP.xR u1 (List.range n)=some c1
 ht1:bY (fun x (_:Nat)=>WP.Dv x) c1 (List.range t)=some t1
 hr1:t1.aaM.Du=some r1
 hu2:(WP.init W 2).Xz=some u2
 hc2:bY WP.xR u2 (List.range n)=some c2
 hr2:c2.Du=some r2
 en:∀ x∈r2.calls,x.ended=1
theorem mg.out{lo:Nat}{XC XS:List aO}{w0 w w':World}{g g':WG}{p q:WP}(h:mg lo XC XS w g p w' g')(hF:jh lo XC XS w g q)(hb:Below lo w0 w):Below lo w0 w' :=
 ⟨h.grow.c.os.trans hb.os,h.grow.c.tape.trans hb.tape,h.grow.c.output.trans hb.output,Nat.le_trans hb.size h.grow.c.size,fun k hk=>(h.grow.c.block k (Nat.lt_of_lt_of_le hk hF.hl) (fun e=>by have:=(hF.wld.has.lt e).1;omega)).trans (hb.block k hk)⟩
theorem Env.owns{w:World}(h:Env w):∀ k,w.heap.size≤k→Own k:=fun k hk=>by
 have h1:=h.v.X6
 have h2:=h.v.X7
 have h3:=h.lt
 exact⟨by omega,by omega,by omega⟩
theorem bind_ok{α β:Type}{o:Option α}{f:α → Option β}{r:β}(h:o.bind f=some r):∃ a,o=some a∧f a=some r:=by
 cases o with
 | none=>cases h
 | some a=>exact⟨a,rfl,h⟩
theorem Z4{W n t:Nat}(h1:1≤W)(h2:W≤8)(h3:1≤n)(h4:n≤W)(h5:3≤t)(h6:t≤7):∃ u1 c1 t1 r1 u2 c2 r2,ZY W n t u1 c1 t1 r1 u2 c2 r2:=by
 obtain⟨⟨rv,hv⟩,⟨rw_,hw⟩⟩:=runs h1 h2 h3 h4 h5 h6
 unfold WP.Zn at hv
 obtain⟨c2,hc2,hv⟩:=bind_ok hv
 unfold WP.Il at hc2
 obtain⟨u2,hu2,hc2⟩:=bind_ok hc2
 obtain⟨r2,hr2,hv⟩:=bind_ok hv
 unfold WP.Zm at hw
 obtain⟨c1,hc1,hw⟩:=bind_ok hw
 unfold WP.Il at hc1
 obtain⟨u1,hu1,hc1⟩:=bind_ok hc1
 obtain⟨t1,ht1,hw⟩:=bind_ok hw
 refine⟨u1,c1,t1,rw_,u2,c2,r2,hu1,hc1,ht1,hw,hu2,hc2,hr2,?_⟩
 split at hv
 ·rename_i hB
  intro x hx
  exact of_decide_eq_true (List.all_eq_true.1 hB x hx)
 ·cases hv
theorem Tc{u c:WP}{n:Nat}(hn:1≤n)(h:bY WP.xR u (List.range n)=some c):c.calls.length=n:=by
 obtain⟨m,rfl⟩:∃ m,n=m+1:=⟨n-1,by omega⟩
 rw[List.range_succ,Dp] at h
 obtain⟨a,_,h⟩:=bind_ok h
 obtain⟨q,hY⟩:=DK h
 rw[hY.eq]
 simp[hY.le]
theorem aaU{lo:Nat}{XC XS:List aO}{w:World}{g:WG}{p p':WP}{i:Nat}(h:jh lo XC XS w g p)(hX:(aV bH).1=some (XC.map (fun x=>x.it)))(hG:p.xR i=some p'):
  Calls Tryz.prog 7 #[.pointer (some ⟨g.b,0,none⟩),.agg #[.int .i64 0,.int .i64 i,.int .i64 0,.int .i64 0]] w (fun e w'=>e=.returned (.bool true)∧∃ g',mg lo XC XS w g p' w' g'):=by
 obtain⟨q,hY⟩:=DK hG
 by_cases hp:i % 2=0
 ·exact acW h hX hY hp
 ·exact acY h hX hY hp
theorem Xm{lo:Nat}{XC XS:List aO}{w:World}{g:WG}{p:WP}(h:jh lo XC XS w g p):
  Calls Tryz.prog 10 #[.pointer (some ⟨g.sb,0,none⟩)] w (fun e w'=>e=.returned (.tuple #[])∧∃ g',mg lo XC XS w g { p with s:=p.s.restart } w' g'):=by
 refine(Sv w g.sb g.sg.b (h.wld.dX.cell 0) (fun w'=>∃ g',dV lo w g.sg g.sg.st.restart w' g') (VY h.wld.srv h.hl)).mono ?_
 rintro e w' ⟨rfl,DU,hh⟩
 exact⟨rfl,_,h.to (h.wld.lK hh) (by rw[h.st,h.s]) h.cf⟩
theorem acZ{lo:Nat}{XC XS:List aO}{w:World}{g:WG}{p:WP}(h:jh lo XC XS w g p):mg lo XC XS w g { p with cause:=true } (w.setCell ⟨g.b,21,none⟩ (.bool true)) { g with cause:=true }:=by
 have hB:aK (w.setCell ⟨g.b,21,none⟩ (.bool true)) g.b 39 ({ g with cause:=true }:WG).cells:=h.wld.blk.set 21 _
 have hc:aG (fun j=>j=g.b) w (w.setCell ⟨g.b,21,none⟩ (.bool true)):=(aG.refl _ _).setCell _ _ (fun _=>rfl)
 exact h.to (h.wld.jS (g':={ g with cause:=true }) hc hB rfl ⟨rfl,rfl⟩ rfl rfl ⟨rfl,rfl,rfl⟩ ⟨rfl,rfl,rfl,rfl⟩ ⟨rfl,rfl,rfl,rfl,rfl,rfl⟩ ⟨rfl,rfl,rfl,rfl⟩) (by
  have e:({ g with cause:=true }:WG).st = { g.st with cause:=true }:=rfl
  rw[e,h.st]) h.cf
theorem Z5{lo:Nat}{XC XS:List aO}{w:World}{g:WG}{p:WP}(h:jh lo XC XS w g p)(rep:Bool)(hn:p.s.waits=[]):
  Calls Tryz.prog 11 #[.pointer (some ⟨g.b,0,none⟩),.bool rep] w (fun e w'=>e=.returned (.tuple #[.bool false,.bool true])∧∃ g',mg lo XC XS w g p w' g'):=by
 refine(Pg h.wld rep ((congrArg SP.waits h.s).trans hn)).mono ?_
 rintro e w' ⟨rfl,g',hh⟩
 exact⟨rfl,g',h.to hh (by rw[h.st]) h.cf⟩
theorem Td{p r:WP}(h:p.Dv=some r):p.Dt=true∧WP.nY 51 p.jQ.lG=some r:=by
 unfold WP.Dv at h
 obtain⟨a,ha,h⟩:=bind_ok h
 unfold WP.Ik at ha
 split at ha
 ·rename_i hT
  obtain rfl:=Option.some.inj ha
  exact⟨hT,h⟩
 ·cases ha
theorem Et(window deadline retain count turns:Int)(h1:-9223372036854775808≤window∧window≤9223372036854775807)(h2:-9223372036854775808≤deadline∧deadline≤9223372036854775807)(h3:-9223372036854775808≤retain∧retain≤9223372036854775807)(h4:-9223372036854775808≤count∧count≤9223372036854775807)(h5:-9223372036854775808≤turns∧turns≤9223372036854775807)(w:World)(hE:Env w):
  Calls Tryz.prog 3 #[.int .i64 window,.int .i64 deadline,.int .i64 retain,.int .i64 count,.int .i64 turns] w (fun e w'=>e=.returned (.bool true)∧Below w.heap.size w w'):=by
 have hO:=hE.owns
 have hb1:=Xj window deadline retain 1 (by decide) h1 h2 h3 w hE hO
 have hb2:=fun(w1:World) (hb:Below w.heap.size w w1)=>Xj window deadline retain 2 (by decide) h1 h2 h3 w1 (hE.below hb) (fun k hk=>hO k (Nat.le_trans hb.size hk))
 have lW:=oO window (n:=8) (by decide)
 obtain⟨W,hW⟩:∃ W,1+jK window 8=W:=⟨_,rfl⟩
 obtain⟨D,hD⟩:∃ D,4+jK deadline 20=D:=⟨_,rfl⟩
 obtain⟨R,hR⟩:∃ R,1+jK retain 16=R:=⟨_,rfl⟩
 rw[hW,hD,hR] at hb1
 simp only[hW,hD,hR] at hb2
 have hW1:1≤W∧W≤8:=by omega
 have lN:=oO count (n:=W) (by omega)
 have lT:=oO turns (n:=5) (by decide)
 have HPc:=hid (fun w'=>pick_any count W w' (by omega) (by unfold maxLen;omega) h4)
 have HPt:=hid (fun w'=>pick_any turns 5 w' (by decide) (by unfold maxLen;omega) h5)
 obtain⟨n0,hn0⟩:∃ n0,jK count W=n0:=⟨_,rfl⟩
 obtain⟨t0,ht0⟩:∃ t0,jK turns 5=t0:=⟨_,rfl⟩
 rw[hn0] at HPc lN
 rw[ht0] at HPt lT
 obtain⟨u1,c1,t1,r1,u2,c2,r2,agv⟩:=Z4 (W:=W) (n:=1+n0) (t:=3+t0) hW1.1 hW1.2 (by omega) (by omega) (by omega) (by omega)
 have xX:=hid agv
 have HB1:=hid hb1
 have HB2:=hid hb2
 have HO:=hid hO
 clear hb1 hb2 hE hO hW hD hR hn0 ht0 agv h1 h2 h3 h4 h5 lW
 go_enter func3,ntmps3
 go_wp2_with fail
 refine HB1.out.mono ?_;rintro e w1 ⟨g,XC,XS,rfl,hN1,hw1⟩
 have HC2:=hid (HB2.out w1 hw1)
 have Tv:=hid hN1
 have Hw1:=hid hw1
 clear hN1 hw1
 go_wp2_with fail
 refine HC2.out.mono ?_;rintro e w2 ⟨v,YC,YS,rfl,IJ,hw2⟩
 have ac0:Two w.heap.size XC XS YC YS w2 g v (WP.init W 1) (WP.init W 2):=⟨Tv.out.jO.below hw2,IJ.jO.lower Hw1.out.size HO.out,fun k k1 k2=>by
  have a1:=(Tv.out.jO.wld.has.lt k1).2
  have a2:=(IJ.jO.wld.has.lt k2).1
  omega⟩
 have ZE:=hid Tv.out.pc
 have ZF:=hid Tv.out.ps
 have HYC:=hid IJ.pc
 have HYS:=hid IJ.ps
 have HT:=hid ac0
 have HU1:=hid (fUp ac0.a xX.out.hu1)
 have akB:Below w.heap.size w w2:=Hw1.out.trans (hw2.mono Hw1.out.size)
 clear IJ hw2 ac0
 have Hw2:=hid akB
 go_wp2_with fail
 refine HU1.out.mono ?_;rintro e w3 ⟨rfl,g3,k3⟩
 have HT3:=hid (HT.out.fst k3)
 have HE3:=hid k3.b
 have Hw3:=hid (k3.out HT.out.a Hw2.out)
 have HU2:=hid (fUp HT3.out.b xX.out.hu2)
 clear k3
 go_wp2_with fail
 refine HU2.out.mono ?_;rintro e w4 ⟨rfl,v4,k4⟩
 have HT4:=hid (HT3.out.snd k4)
 have HE4:=hid k4.b
 have Hw4:=hid (k4.out HT3.out.b Hw3.out)
 clear k4
 go_wp2_with fail
 go_loopg [12,16] (1+n0) (fun gk ok i wr=>ok=.bool true∧∃ k:Nat,k+gk=1+n0∧i=.int .i64 k∧∃ (p q:WP) (gk' vk:WG),Hid (bY WP.xR u1 ((List.range (1+n0)).take k)=some p)∧Hid (bY WP.xR u2 ((List.range (1+n0)).take k)=some q)∧Hid (gk'.b=g.b∧vk.b=v.b)∧Hid (Two w.heap.size XC XS YC YS wr gk' vk p q)∧Hid (Below w.heap.size w wr)∧Hid (p.W=W))
 case atStart=>exact⟨rfl,0,by omega,rfl,u1,u2,g3,v4,hid rfl,hid rfl,hid ⟨HE3.out,HE4.out⟩,HT4,Hw4,hid (by rw[NR xX.out.hu1];rfl)⟩
 case round=>
  obtain⟨rfl,k,hk,rfl,p,q,gk',vk,HFp,HFq,Z7,Xw,Hwk,HWk⟩:=hrel
  have k2:wr.cell? ⟨g.b,2,none⟩=some (.int .i64 W):=by
   have:wr.cell? ⟨gk'.b,2,none⟩=some (.int .i64 gk'.W):=Xw.out.a.wld.blk.cell 2
   rw[Z7.out.1,Xw.out.a.gW,HWk.out] at this
   exact this
  have HPk:=hid (HPc.out wr)
  by_cases hlt:k<1+n0
  ·obtain⟨p2,hp1,hp2⟩:=jI xX.out.hc1 (k:=k) (a:=k) (by simp[hlt]) HFp.out
   obtain⟨q2,hq1,hq2⟩:=jI xX.out.hc2 (k:=k) (a:=k) (by simp[hlt]) HFq.out
   have HCa:=hid (aaU Xw.out.a ZE.out hp1)
   rw[Z7.out.1] at HCa
   have fO:(k:Int)<1+(n0:Int):=by omega
   have HP2:=hid hp2
   have XA:=hid hq1
   have Jw:=hid hq2
   have HW2:=hid (show p2.W=W by
    obtain⟨qq,hY⟩:=DK hp1
    rw[hY.eq]
    exact HWk.out)
   clear hp1 hp2 hq1 hq2
   go_wp2_with fail
   refine HPk.out.mono ?_;rintro e wx ⟨rfl,rfl⟩
   go_wp2_with fail
   refine HCa.out.mono ?_;rintro e w5 ⟨rfl,g5,k5⟩
   have OY:=hid (Xw.out.fst k5)
   have HE5:=hid (k5.b.trans Z7.out.1)
   have Hw5:=hid (k5.out Xw.out.a Hwk.out)
   have HCb:=hid (aaU OY.out.b HYC.out XA.out)
   rw[Z7.out.2] at HCb
   clear k5
   go_wp2_with fail
   refine HCb.out.mono ?_;rintro e w6 ⟨rfl,v6,k6⟩
   have HT6:=hid (OY.out.snd k6)
   have HE6:=hid (k6.b.trans Z7.out.2)
   have Hw6:=hid (k6.out OY.out.b Hw5.out)
   clear k6
   go_wp2_with fail
   go_roundg (gk-1)
   case rel=>exact⟨rfl,k+1,by omega,by go_num,p2,q2,g5,v6,HP2,Jw,hid ⟨HE5.out,HE6.out⟩,HT6,Hw6,HW2⟩
   case measure=>omega
  ·have fO:¬ (k:Int)<1+(n0:Int):=by omega
   obtain rfl:=kQ xX.out.hc1 (by simp;omega) HFp.out
   obtain rfl:=kQ xX.out.hc2 (by simp;omega) HFq.out
   go_wp2_with fail
   refine HPk.out.mono ?_;rintro e wx ⟨rfl,rfl⟩
   go_wp2_with fail
   go_loopg [12,17] (3+t0) (fun YR ok i wq=>ok=.bool true∧∃ j:Nat,j+YR=3+t0∧i=.int .i64 j∧∃ (pj:WP) (gj:WG),Hid (bY (fun x (_:Nat)=>WP.Dv x) p ((List.range (3+t0)).take j)=some pj)∧Hid (gj.b=g.b)∧Hid (Two w.heap.size XC XS YC YS wq gj vk pj q)∧Hid (Below w.heap.size w wq))
   case atStart=>exact⟨rfl,0,by omega,rfl,p,gk',hid rfl,hid Z7.out.1,Xw,Hwk⟩
   case round=>
    obtain⟨rfl,j,hj,rfl,pj,gj,HFj,HEj,nZ,Hwj⟩:=hrel
    have agw:=hid (HPt.out wr)
    by_cases hlj:j<3+t0
    ·obtain⟨pj2,hs1,hs2⟩:=jI xX.out.ht1 (k:=j) (a:=j) (by simp[hlj]) HFj.out
     obtain⟨hTk,hEx⟩:=Td hs1
     have pz:=hid hTk
     have HEX:=hid hEx
     have HC0:=hid (Pj nZ.out.a hTk)
     rw[HEj.out] at HC0
     have acP:(j:Int)<3+(t0:Int):=by omega
     have HS2:=hid hs2
     clear hs1 hs2 hTk hEx
     go_wp2_with fail
     refine agw.out.mono ?_;rintro e wx ⟨rfl,rfl⟩
     go_wp2_with fail
     refine HC0.out.mono ?_;rintro e w7 ⟨rfl,g7,k7⟩
     have Xv:=hid (nZ.out.fst k7)
     have HE7:=hid (k7.b.trans HEj.out)
     have Hw7:=hid (k7.out nZ.out.a Hwj.out)
     have wO:=hid (Pm Xv.out.a pz.out)
     rw[HE7.out] at wO
     clear k7
     go_wp2_with fail
     refine wO.out.mono ?_;rintro e w8 ⟨rfl,g8,k8⟩
     have Dn:=hid (Xv.out.fst k8)
     have HE8:=hid (k8.b.trans HE7.out)
     have Hw8:=hid (k8.out Xv.out.a Hw7.out)
     have agx:=hid (aaO Dn.out.a ZE.out ZF.out HEX.out)
     rw[HE8.out] at agx
     clear k8
     go_wp2_with fail
     refine agx.out.mono ?_;rintro e w9 ⟨rfl,g9,k9⟩
     have HT9:=hid (Dn.out.fst k9)
     have HE9:=hid (k9.b.trans HE8.out)
     have Hw9:=hid (k9.out Dn.out.a Hw8.out)
     clear k9
     go_wp2_with fail
     go_roundg (gk-1)
     case rel=>exact⟨rfl,j+1,by omega,by go_num,pj2,g9,HS2,HE9,HT9,Hw9⟩
     case measure=>omega
    ·have acP:¬ (j:Int)<3+(t0:Int):=by omega
     obtain rfl:=kQ xX.out.ht1 (by simp;omega) HFj.out
     obtain⟨va,vc,hvv⟩:=nZ.out.b.wld.ra.slice
     have hcl:q.calls.length=1+n0:=Tc (by omega) xX.out.hc2
     have Jc:wr.cell? ⟨v.b,17,none⟩=some (.slice va (1+n0) vc):=by
      have:wr.cell? ⟨vk.b,17,none⟩=some vk.kX:=nZ.out.b.wld.blk.cell 17
      rw[Z7.out.2] at this
      rw[this,hvv,nZ.out.b.eP,hcl]
     have k0:wr.cell? ⟨g.b,0,none⟩=some (.pointer (some ⟨gj.sb,0,none⟩)):=by
      have:=nZ.out.a.wld.blk.cell 0
      rw[HEj.out] at this
      exact this
     have HR1:=hid (Xm nZ.out.a)
     have b1:((1+(n0:Int))==0)=false:=by simp;omega
     clear hvv hcl
     go_wp2_with fail
     refine agw.out.mono ?_;rintro e wx ⟨rfl,rfl⟩
     go_wp2_with fail
     refine HR1.out.mono ?_;rintro e wa ⟨rfl,ga,ka⟩
     have HTa:=hid (nZ.out.fst ka)
     have HEa:=hid (ka.b.trans HEj.out)
     have Hwa:=hid (ka.out nZ.out.a Hwj.out)
     clear ka
     have kc:=acZ HTa.out.a
     rw[HEa.out] at kc
     have c21:wa.cell? ⟨g.b,21,none⟩=some (.bool ga.cause):=by
      have:=HTa.out.a.wld.blk.cell 21
      rw[HEa.out] at this
      exact this
     have f21:wa.frozen? ⟨g.b,21,none⟩=false:=by
      have:=HTa.out.a.wld.blk.frozen 21
      rw[HEa.out] at this
      exact this
     obtain⟨wb,hwb⟩:∃ wb,wa.setCell ⟨g.b,21,none⟩ (.bool true)=wb:=⟨_,rfl⟩
     rw[hwb] at kc
     have HTb:=hid (HTa.out.fst kc)
     have akE:=hid (kc.b.trans HEa.out)
     have Hwb:=hid (kc.out HTa.out.a Hwa.out)
     clear kc
     have HNx:=hid (Z5 HTb.out.a false rfl)
     rw[akE.out] at HNx
     go_wp2_with fail
     refine HNx.out.mono ?_;rintro e wc ⟨rfl,gc,kc⟩
     have HTc:=hid (HTb.out.fst kc)
     have HEc:=hid (show gc.b=g.b from kc.b)
     have Hwc:=hid (kc.out HTb.out.a Hwb.out)
     clear kc
     have HCm:=hid (aaS HTc.out.a ZE.out ZF.out xX.out.hr1)
     rw[HEc.out] at HCm
     go_wp2_with fail
     refine HCm.out.mono ?_;rintro e wd ⟨rfl,gd,kd⟩
     have HTd:=hid (HTc.out.fst kd)
     have Hwd:=hid (kd.out HTc.out.a Hwc.out)
     clear kd
     have HCv:=hid (aaS HTd.out.b HYC.out HYS.out xX.out.hr2)
     rw[Z7.out.2] at HCv
     go_wp2_with fail
     refine HCv.out.mono ?_;rintro e we ⟨rfl,ve,ke⟩
     have HFe:=hid ke.jO
     have HEe:=hid (ke.b.trans Z7.out.2)
     have Hwe:=hid (ke.out HTd.out.b Hwd.out)
     clear ke
     obtain⟨ea,ec,hev⟩:=HFe.out.wld.ra.slice
     obtain⟨N,hN⟩:∃ N,r2.calls.length=N:=⟨_,rfl⟩
     have e17:we.cell? ⟨v.b,17,none⟩=some (.slice ea N ec):=by
      have:we.cell? ⟨ve.b,17,none⟩=some ve.kX:=HFe.out.wld.blk.cell 17
      rw[HEe.out] at this
      rw[this,hev,HFe.out.eP,hN]
     have HEV:=hid hev
     have HN:=hid hN
     have O4:N≤100000:=by
      obtain⟨p1,_,_,_,_,hl8,hU,hF,_⟩:=KY xX.out.hr2
      have:=(FY _ hF).2
      have h2:p1.calls=q.calls:=by rw[NR hU];rfl
      rw[h2] at this
      omega
     clear hev hN
     go_wp2_with fail
     go_loopg [15,19] N (fun gk3 b i wz=>b=.bool true∧∃ y:Nat,y+gk3=N∧i=.int .i64 y∧wz=we)
     case atStart=>exact⟨rfl,0,by omega,rfl,rfl⟩
     case round=>
      obtain⟨rfl,y,hy,rfl,rfl⟩:=hrel
      by_cases hly:y<N
      ·obtain⟨x,hx⟩:∃ x,r2.calls[y]? = some x:=⟨_,List.getElem?_eq_getElem (by rw[HN.out];exact hly)⟩
       obtain⟨gx,cx,hv,hcell⟩:=HFe.out.wld.eY (k:=y) (x:=x) (by rw[HFe.out.eP];exact hx)
       obtain⟨rfl,rfl⟩:ea=some ⟨gx,0,none⟩∧ec=cx:=by simpa using HEV.out.symm.trans hv
       have c4:wr.cell? ⟨gx,y*5+4,none⟩=some (.int .i64 1):=(hcell 4 _ rfl).trans (by rw[xX.out.en x (List.mem_of_getElem? hx)];rfl)
       have akF:(y:Int)<(N:Int):=by omega
       clear hx hv hcell
       go_wp2_with fail
       go_roundg (gk-1)
       case rel=>exact⟨rfl,y+1,by omega,by go_num,rfl⟩
       case measure=>omega
      ·have akF:¬ (y:Int)<(N:Int):=by omega
       go_wp2_with fail
       go_ret
       exact⟨rfl,Hwe.out⟩
end Go.Proofs.YtolfcabodiphmaaGreatDoor
