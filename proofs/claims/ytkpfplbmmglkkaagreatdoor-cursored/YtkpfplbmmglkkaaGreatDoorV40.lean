/- Package courierkeep: subscribe, from any position (nothing tame, the client not full). -/
import Derived.Test.YtkpfplbmmglkkaaGreatDoorV36
set_option linter.all false
set_option maxHeartbeats 4000000
set_option maxRecDepth 100000
namespace Go.Proofs.YtkpfplbmmglkkaaGreatDoor
open Go.Proofs.Tryz
open Go.RowKit Go.Conc
theorem I6{lo:Nat}{w:World}{g:WG}{t n fr:Nat}{q:CP}(h:gO lo w g)(di:lo≤w.heap.size)(I2:JR w)(kd A B C:Int)(hA:-9223372036854775808≤A∧A≤9223372036854775807)(hB:-9223372036854775808≤B∧B≤9223372036854775807)(hC:-9223372036854775808≤C∧C≤9223372036854775807)(htm:g.vu=false)(ht:cI A 3=t)(hn:(g.dO t).length=n)(zO:cI B (n+3)=fr)(vQ:g.ae.length≤90000)(hR:g.R≤1000)(BM:n≤90000)(Pb:g.cg.bQ=g.ae.length)(hop:nZ g.ae<8)(hSub:∀ w2,Below w.heap.size w w2→aT 32 #[aM g.cg.b,.string (cr t),.string (uR t fr C)] w2 (fun e w'=>e=.returned (.tuple #[vI g.cg.bQ,vI 0])∧∃ tP,fW lo w2 g.cg q w' tP)):
  aT 7 #[aM g.b,.agg #[vI kd,vI A,vI B,vI C]] w (fun e w'=>e=.returned (.bool true)∧∃ g',kz lo w g { g.st with c:=q,ae:=g.ae++[⟨t,fr,0,0,decide (n<fr) || !g.st.eh t (fr+1)⟩] } w' g'):=by
 have rW:=fw A (n:=3) (by omega);have hpf:=fw B (n:=n+3) (by omega);have QL:=U (fun w=>gE A 3 w (by omega) (by unfold maxLen;omega) hA);have Zl:=U (fun w=>gE B (n+3) w (by omega) (by unfold maxLen;omega) hB);rw[ht] at rW;rw[zO] at hpf;obtain⟨w0,nF,cj,Hq⟩:=cS w [vI kd,vI A,vI B,vI C] 41;have a1:=Hq.ce 1 rfl;have a2:=Hq.ce 2 rfl;have HD0:=U Hq;have ii:=U cj;have H0:=U (h.below cj);obtain⟨va,vc,pu,ry⟩:=H0.o.lO rW;rw[hn] at ry;have d22:w0.cell? (aj g.b 22)=some (.bool false):=(show w0.cell? (aj g.b 22)=some (.bool g.vu) from H0.o.ap.cell 22).trans (by rw[htm]);have Ug:=U (fun w' (hb:Below w0.heap.size w0 w')=>(I2.below ii.o).below hb);have HSub:=U hSub;have ahb:(t:Int)<3:=by omega
 have avu:0≤(t:Int):=by omega
 clear Hq cj h hSub pu I2
 go_enter func7,ntmps7
 go_wp2_with fail
 refine(QL.o w0).mono ?_;rintro e w1 ⟨rfl,ee⟩;rw[ee,ht];clear ee QL
 go_wp2_with fail
 have mN:=Zl.o w0;rw[show ((n+3:Nat):Int)=(n:Int)+3 by omega,zO] at mN;refine mN.mono ?_;rintro e w1 ⟨rfl,ee⟩;rw[ee];clear ee Zl mN a1 ry
 go_wp2_with fail
 have QG:(cr t).size≤5:=DN rW
 go_cut [9] (fun s9 wx=>s9=.string (jV (cr t) fr)∧Hid (Below w0.heap.size w0 wx))
 case first=>
  go_region_with
   (first | (go_at_call 17;refine(uQ w0.drew).mono ?_;rintro e wt ⟨tb,rfl,Gk,hle,b0,b1,b2⟩;have xL:=U (show Below w0.heap.size w0 wt from(Below.refl _ _).drew.trans Gk);have tt:wt.cell? (aj tb t)=some (.string (cr t)):=fY.at' rW b0 b1 b2;clear b0 b1 b2 Gk hle) | (go_at_call 18;refine(ld fr (by omega) wt (Ug.o _ xL.o)).mono ?_;rintro e wn ⟨V,rfl,QN,hV,hVs⟩;have HBn:=U (show Below w0.heap.size w0 wn from xL.o.trans (QN.mono xL.o.size));have tn:wn.cell? (aj tb t)=some (.string (cr t)):=(QN.cell (p:=(aj tb t)) (World.block_lt_of_cell? _ _ tt)).trans tt;have HV:=U (NF (t:=t) hV);clear hV QN))
  all_goals
   go_wp2_with fail
   go_meet
   case rel=>
    exact⟨congrArg Value.string HV.o,HBn⟩
 case rest=>
  obtain⟨rfl,NH⟩:=hcut;have a3:=(HD0.o.below NH.o).ce 3 rfl;obtain⟨cb,yR⟩:∃ cb,decide (fr=0∧C.tmod 2=0)=cb:=⟨_,rfl⟩
  have HCB:=U yR;clear yR
  go_upto_region 10 with fail
  go_cut [60] (fun s60 wx=>s60=.bool cb∧Hid (wx=wc))
  case first=>
   by_cases hz:fr=0
   ·have b1:((fr:Int)==0)=true:=by simp[hz]
    by_cases hc:C.tmod 2=0
    ·have b2:(C.tmod 2==0)=true:=by simp[hc]
     have TC:=U (show true=cb by rw[← HCB.o];simp[hz,hc]);clear hz hc
     go_wp2_with fail
     go_meet
     case rel=>exact⟨congrArg Value.bool TC.o,U rfl⟩
    ·have b2:(C.tmod 2==0)=false:=by simp[hc]
     have TC:=U (show false=cb by rw[← HCB.o];simp[hc]);clear hz hc
     go_wp2_with fail
     go_meet
     case rel=>exact⟨congrArg Value.bool TC.o,U rfl⟩
   ·have b1:((fr:Int)==0)=false:=by simp;omega
    have TC:=U (show false=cb by rw[← HCB.o];simp[hz]);clear hz
    go_wp2_with fail
    go_meet
    case rel=>exact⟨congrArg Value.bool TC.o,U rfl⟩
  case rest=>
  obtain⟨rfl,HWE⟩:=hcut;rw[HWE.o]
  go_upto_if 60 with fail
  go_cut [9] (fun s9 wx=>s9=.string (uR t fr C)∧Hid (Below w0.heap.size w0 wx))
  case first=>
   cases cb with
   | true=>
    have TC:=U (show uR t fr C=⟨#[]⟩ by unfold uR;rw[if_pos (of_decide_eq_true HCB.o)])
    go_wp2_with fail
    go_meet
    case rel=>exact⟨by rw[TC.o],NH⟩
   | false=>
    have TC:=U (show jV (cr t) fr=uR t fr C by unfold uR;rw[if_neg (of_decide_eq_false HCB.o)])
    go_wp2_with fail
    go_meet
    case rel=>exact⟨by rw[← TC.o],NH⟩
  case rest=>
  obtain⟨rfl,NH⟩:=hcut;have HHc:=U (H0.o.below NH.o);have e1:=HHc.o.ap.ce 1 rfl
  go_wp2_with fail
  go_cut [10,11] (fun s10 s11 wx=>s10=.int .i64 g.cg.bQ∧s11=.int .i64 0∧∃ tP,Hid (kz lo w g { g.st with c:=q } wx { g with cg:=tP }))
  case first=>
   go_region_with
    (first | (go_at_call 17;refine(uQ wc.drew).mono ?_;rintro e wt ⟨tb,rfl,Gk,hle,b0,b1,b2⟩;have xL:=U (show Below w0.heap.size w0 wt from NH.o.drew.trans (Gk.mono NH.o.drew.size));have tt:wt.cell? (aj tb t)=some (.string (cr t)):=fY.at' rW b0 b1 b2;have e1t:wt.cell? (aj g.b 1)=some (aM g.cb):=(H0.o.below xL.o).ap.cell 1;clear b0 b1 b2 Gk hle) | (go_at_call 19;refine((py wt g.cb g.cg.b ((H0.o.below xL.o).bB.cell 0)).sS (cr t) (uR t fr C) (fun n z w'=>n=g.cg.bQ∧z=0∧∃ tP,Hid (fW lo wt g.cg q w' tP)) ((HSub.o wt (ii.o.trans (xL.o.mono ii.o.size))).mono (by rintro e w' ⟨rfl,tP,h5⟩;exact⟨_,0,rfl,rfl,rfl,tP,U h5⟩))).mono ?_;rintro e w5 ⟨z1,z,rfl,rfl,rfl,tP,H5⟩))
   all_goals
    go_wp2_with fail
    go_meet
    case rel=>exact⟨by rw[Pb],rfl,tP,U (((H0.o.below xL.o).AU H5.o).bz (ii.o.trans (xL.o.mono ii.o.size)))⟩
  case rest=>
   obtain⟨rfl,rfl,tP,ir⟩:=hcut;obtain⟨g1,ku⟩:∃ g1,({ g with cg:=tP }:WG)=g1:=⟨_,rfl⟩
   rw[ku] at ir
   have q1:g1.b=g.b∧g1.ae=g.ae∧g1.iP=g.iP∧g1.dO t=g.dO t∧g1.R=g.R∧g1.st.eh t (fr+1)=g.st.eh t (fr+1):=by
    rw[← ku];exact ahl g tP t fr
   have Uh:=U (NC ir.o.bL rW (fr+1) (by rw[q1.2.2.2.1,hn];omega) (by rw[q1.2.2.2.2.1];exact hR) (by omega));rw[q1.2.2.2.2.2,q1.1,show ((fr+1:Nat):Int)=(fr:Int)+1 by omega] at Uh;obtain⟨kp,Il⟩:∃ kp,g.st.eh t (fr+1)=kp:=⟨_,rfl⟩
   rw[Il] at Uh;have zq:=U q1;clear q1 ku
   go_wp2_with fail
   refine Uh.o.mono ?_;rintro e wk ⟨rfl,vj⟩;have jo:=U (ir.o.below vj);obtain⟨sa,sc,jU⟩:=jo.o.bL.rt.slice;obtain⟨ns,hns⟩:∃ ns,g.ae.length=ns:=⟨_,rfl⟩
   have eS:g1.ae.length=ns:=by rw[zq.o.2.1,hns]
   have d16:wk.cell? (aj g.b 16)=some (.slice sa ns sc):=by
    have:=jo.o.bL.ap.cell 16;rw[zq.o.1] at this;exact this.trans (by show some g1.iP=_;rw[jU,eS])
   have tj:=U jU;have EO:=U hns;have HES:=U eS;clear vj jU eS hns;obtain⟨lt,bC⟩:∃ lt,(decide (n<fr) || !kp)=lt:=⟨_,rfl⟩
   have BF:(decide (n<fr)=true∧(n:Int)<(fr:Int)∧lt=true)∨(decide (n<fr)=false∧¬ (n:Int)<(fr:Int)∧kp=true∧lt=false)∨(decide (n<fr)=false∧¬ (n:Int)<(fr:Int)∧kp=false∧lt=true):=by
    rw[← bC]
    by_cases e:n<fr
    ·exact Or.inl ⟨decide_eq_true e,by omega,by simp[e]⟩
    ·cases kp
     ·exact Or.inr (Or.inr ⟨decide_eq_false e,by omega,rfl,by simp⟩)
     ·exact Or.inr (Or.inl ⟨decide_eq_false e,by omega,rfl,by simp[e]⟩)
   have FY:Below wk.heap.size wk (wk.alloc (.cells #[vI t,vI fr,vI 0,vI 0,.bool (lt)] 44)):=(Below.refl _ _).alloc (Nat.le_refl _) _;have MO:lo≤wk.heap.size:=Nat.le_trans di jo.o.grow.c.size;obtain⟨a',c',w7,Vp,PE,hf7,anx,LC⟩:=(jo.o.bL.below FY).amC (Nat.le_trans MO FY.size) (by rw[HES.o];have:=EO.o;omega) (nb:=wk.heap.size) (T:=44) (x:=⟨t,fr,0,0,lt⟩) (heap_alloc_new wk _) tj.o;rw[HES.o] at Vp PE LC;obtain⟨G3,hG3⟩:∃ G3,({ g1 with iP:=.slice a' (ns+1) c',ae:=g1.ae++[⟨t,fr,0,0,lt⟩] }:WG)=G3:=⟨_,rfl⟩
   rw[hG3] at LC;have eb:G3.b=g.b:=by rw[← hG3];exact zq.o.1
   have es:G3.ae=g1.ae++[⟨t,fr,0,0,lt⟩]:=by rw[← hG3]
   have ev:G3.iP=.slice a' (ns+1) c':=by rw[← hG3]
   rw[zq.o.1] at PE hf7 LC;have HR7:=U Vp;have hT8:=(jo.o.below FY).trans LC;obtain⟨w8,ND⟩:∃ w8,w7.setCell (aj g.b 16) (.slice a' (ns+1) c')=w8:=⟨_,rfl⟩
   rw[ND] at hT8;have FX:=U hT8
   have w16:w8.cell? (aj g.b 16)=some (.slice a' (ns+1) c'):=by
    have:=hT8.bL.ap.cell 16;rw[eb] at this;exact this.trans (by show some G3.iP=_;rw[ev])
   have tq:=U (show ({ g1.st with ae:=g1.ae++[⟨t,fr,0,0,lt⟩] }:WP) = { g.st with c:=q,ae:=g.ae++[⟨t,fr,0,0,decide (n<fr) || !g.st.eh t (fr+1)⟩] } by rw[ir.o.st,zq.o.2.1,Il,bC]);have HOp:=U (ab4 FX.o.bL (by rw[es,List.length_append,HES.o,List.length_singleton];have:=EO.o;omega))
   have hoN:nZ (g1.ae++[(⟨t,fr,0,0,lt⟩:gp)])≤8:=by
    rw[zq.o.2.1];unfold nZ at hop ⊢;rw[List.filter_append,List.length_append];simp;omega
   obtain⟨on,hon⟩:∃ on,nZ (g1.ae++[(⟨t,fr,0,0,lt⟩:gp)])=on:=⟨_,rfl⟩
   have anA:=U (show aT 20 #[aM g.b] w8 (fun e w'=>e=.returned (vI on)∧w'=w8) by
    have:=HOp.o;rw[eb,es,hon] at this
    exact this)
   rw[hon] at hoN;have avB:(on:Int)≤8:=by omega
   clear FY MO Vp LC hT8 anx hon hoN hG3 eb es ev Pb hop Il zO hn ht hA hB hC htm Uh a2 d22;have HW8:=U ND;rw[EO.o];clear bC
   rcases BF with⟨hqd,hq,rfl⟩ | ⟨hqd,hq,rfl,rfl⟩ | ⟨hqd,hq,rfl,rfl⟩
   all_goals
    go_upto_region 17 with(at_builtin;refine mV rfl (.tmp 111) (.tmp 122) 34 rfl _ _ rfl rfl _ w7 HR7.o ?_)
    try rw[HW8.o]
    clear ND PE hf7 d16 e1;obtain⟨N1,R4⟩:∃ N1,Hid (ns+1=N1):=⟨_,U rfl⟩
    rw[R4.o] at w16;have vp:1≤N1∧N1≤90001:=by have:=R4.o;have:=EO.o;omega
    have b9:((ns:Int)==(N1:Int)-1)=true:=by have:=R4.o;simp;omega
    clear vQ
    go_wp2_with fail
    refine anA.o.mono ?_;rintro e wx ⟨rfl,Vq⟩;rw[Vq]
    go_wp2_with fail
    go_ret
    exact⟨rfl,G3,by rw[← tq.o];exact FX.o⟩
end Go.Proofs.YtkpfplbmmglkkaaGreatDoor
