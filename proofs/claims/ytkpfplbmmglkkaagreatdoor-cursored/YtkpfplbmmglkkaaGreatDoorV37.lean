/- Package courierkeep: told of a value. -/
import Derived.Test.YtkpfplbmmglkkaaGreatDoorV36
set_option linter.all false
set_option maxHeartbeats 4000000
set_option maxRecDepth 100000
namespace Go.Proofs.YtkpfplbmmglkkaaGreatDoor
open Go.Proofs.Tryz
variable {lo:Nat}{w:World}{g:WG}
open Go.RowKit Go.Conc
theorem xM{P:Program}{md:Region.Mode}{ops:Array Oper}{Q:Exit→Act→World→Prop}{S S':World→Prop}(h:∀ w,S w→S' w):∀ (yE:Nat) (listed:Array Bool) (a:Act) (w:World),wpAnyH P md ops Q S yE listed a w→wpAnyH P md ops Q S' yE listed a w
 | 0,_,_,_,hh=>hh
 | yE+1,_,_,_,hh=>⟨hh.1,fun i hi=>wpOp_mono (fun a' w' h'=>⟨h w' h'.1,xM h yE _ a' w' h'.2⟩) (hh.2 i hi)⟩
theorem acw(h:gO lo w g)(I2:JR w)(hTG:¬ aL g.aF 0)(i:Nat){x:gp}{t nK:Nat}{v:ByteArray}(hx:g.ae[i]? = some x)(hl:g.ae.length≤90000)(he:x.ended=0)(ht:x.aG=t)(rW:t<3)(BI:x.start+x.aE=nK)(BM:(g.dO t).length≤90000)(hv:(g.dO t)[nK]? = some v):
  aT 62 #[aM g.b,vI i,.agg #[vI 1,.string v,.string (jV (cr t) (nK+1))]] w (fun e w'=>e=.returned (.bool true)∧∃ g',kz lo w g { g.st with ae:=g.ae.set i { x with aE:=x.aE+1 } } w' g'):=by
 obtain⟨cu,hcu⟩:∃ cu,jV (cr t) (nK+1)=cu:=⟨_,rfl⟩
 rw[hcu];have HCU:=U hcu;clear hcu;obtain⟨w0,eM,aN,aD⟩:=cS w [vI 1,.string v,.string cu] 134;have h0:=h.below aN;obtain⟨ga,c,jU,aK⟩:=h0.iO hx;obtain⟨va,vc,pu,ry⟩:=h0.lO rW;have e0:=aD.ce 0 rfl;have d16:w0.cell? (aj g.b 16)=some (.slice (some (aj ga 0)) g.ae.length c):=(show w0.cell? (aj g.b 16)=some g.iP from h0.ap.cell 16).trans (by rw[jU]);have c0:w0.cell? ⟨ga,i*5,none⟩=some (vI t):=by rw[← ht];exact aK 0 _ rfl
 have c1:w0.cell? ⟨ga,i*5+1,none⟩=some (vI x.start):=aK 1 _ rfl;have c2:w0.cell? ⟨ga,i*5+2,none⟩=some (vI x.aE):=aK 2 _ rfl;have c3:w0.cell? ⟨ga,i*5+3,none⟩=some (vI 0):=(aK 3 _ rfl).trans (by rw[he];rfl);have jQ:i<g.ae.length:=(List.getElem?_eq_some_iff.1 hx).1;obtain⟨n,hn⟩:∃ n,(g.dO t).length=n:=⟨_,rfl⟩
 have am3:nK<n:=by rw[← hn];exact(List.getElem?_eq_some_iff.1 hv).1
 obtain⟨N,hN⟩:∃ N,g.ae.length=N:=⟨_,rfl⟩
 rw[hN] at d16 jQ hl;rw[hn] at ry BM;have rE:(i:Int)<(N:Int):=by omega
 have RI:x.start≤90000∧x.aE≤90000:=by omega
 have acx:=U (show (x.start:Int)+(x.aE:Int)+1=(nK:Int)+1 by omega);have H:=U h;have H0:=U h0;have ii:=U aN;have OO:=U aD;have HX:=U hx;have tj:=U jU;have qA:=U pu;have HN:=U hn;have Pc:=U hN;have HV:=U hv;have HT:=U ht;have HTB:=U I2;have HTG:=U hTG;clear h h0 hx jU aK pu aN aD hN hn he ht hv BI I2 hTG
 go_enter func62,ntmps62
 go_wp2_with fail
 go_cut [8] (fun s8 wx=>s8=.int .i64 ((nK:Int)+1)∧Hid (Below w0.heap.size w0 wx))
 case first=>
  go_quiet (fail)
  go_wp2_with fail
  go_meet
  case rel=>exact⟨congrArg (Value.int .i64) acx.o,U (below_drewN (Below.refl _ _) _)⟩
 case rest=>
 obtain⟨rfl,Wc⟩:=hcut;have c0a:wc.cell? ⟨ga,i*5,none⟩=some (vI t):=(Wc.o.cell (p:=⟨ga,i*5,none⟩) (World.block_lt_of_cell? _ _ c0)).trans c0;have aho:wc.cell? ⟨g.b,10+t,none⟩=some (.slice va n vc):=(Wc.o.cell (p:=⟨g.b,10+t,none⟩) (World.block_lt_of_cell? _ _ ry)).trans ry
 go_wp2_with fail
 go_cut [9] (fun s9 wx=>s9=.slice va n vc∧Hid (Below w0.heap.size w0 wx))
 case first=>
  go_quiet (fail)
  go_wp2_with fail
  go_meet
  case rel=>exact⟨rfl,U (below_drewN Wc.o _)⟩
 case rest=>
 obtain⟨rfl,LK⟩:=hcut;have dD:=ii.o.trans (LK.o.mono ii.o.size);have h1:=H0.o.below LK.o;obtain⟨XG,c',jU,aK⟩:=h1.iO HX.o
 obtain⟨rfl,rfl⟩:ga=XG∧c=c':=by
  have:=tj.o;rw[jU] at this;simp at this;exact⟨this.1.symm,this.2.symm⟩
 have e0b:=(OO.o.below LK.o).ce 0 rfl;have c2b:wc.cell? ⟨ga,i*5+2,none⟩=some (vI x.aE):=aK 2 _ rfl
 have f2:wc.frozen? ⟨ga,i*5+2,none⟩=false:=by
  have:=h1.tB;rw[jU] at this;exact gJ this _
 have mA:=h1.Qa (k:=i) (j:=2) (x:=x) (x':={ x with aE:=x.aE+1 }) (v:=vI ((x.aE:Int)+1)) HX.o (by decide) (by simp) jU;obtain⟨w1,ee⟩:∃ w1,wc.setCell ⟨ga,i*5+2,none⟩ (vI ((x.aE:Int)+1))=w1:=⟨_,rfl⟩
 rw[ee] at mA;obtain⟨g1,ku⟩:∃ g1,({ g with ae:=g.ae.set i { x with aE:=x.aE+1 } }:WG)=g1:=⟨_,rfl⟩
 have q1:g1.b=g.b∧g1.dO t=g.dO t∧g1.Zn t=g.Zn t∧g1.ae=g.ae.set i { x with aE:=x.aE+1 } ∧ g1.iP=g.iP:=by
  rw[← ku];refine⟨rfl,WG.AZ _ _ _,?_,rfl,rfl⟩
  match t with | 0=>rfl | 1=>rfl | _+2=>rfl
 rw[ku] at mA;have JM:g1.ae[i]? = some { x with aE:=x.aE+1 }:=by rw[q1.2.2.2.1];simp[Pc.o,jQ]
 obtain⟨XG,c',Bb,tD⟩:=mA.bL.iO JM
 obtain⟨rfl,rfl⟩:ga=XG∧c=c':=by
  rw[q1.2.2.2.2,jU] at Bb;simp at Bb;exact⟨Bb.1,Bb.2.2⟩
 have k0:w1.cell? ⟨ga,i*5,none⟩=some (vI t):=by rw[← HT.o];exact tD 0 _ rfl
 obtain⟨Zr,vc',XH,ou⟩:=mA.bL.ahm rW (k:=nK) (x:=v) (by rw[q1.2.1];exact HV.o)
 obtain⟨rfl,rfl⟩:va=some (aj Zr 0)∧vc=vc':=by
  rw[q1.2.2.1,q1.2.1,qA.o] at XH;simp at XH;exact XH
 have NG:=(mA.ap (OO.o.below LK.o) H.o.kf).1;have Ck:=U (show ∀ w',Below w1.heap.size w1 w'→(w'.cell? (aj w.heap.size 1)=some (.string v)∧w'.cell? (aj w.heap.size 2)=some (.string cu))∧w'.cell? ⟨ga,i*5,none⟩=some (vI t)∧w'.cell? (aj Zr nK)=some (.string v) from fun w' kW=>⟨⟨(NG.below kW).cell 1,(NG.below kW).cell 2⟩,(kW.cell (p:=⟨ga,i*5,none⟩) (World.block_lt_of_cell? _ _ k0)).trans k0,(kW.cell (p:=(aj Zr nK)) (World.block_lt_of_cell? _ _ ou)).trans ou⟩);have a1:decide ((nK:Int)+1≤(n:Int))=true:=decide_eq_true (by omega);have a2:(nK:Int)+1≤(n:Int):=by omega
 have b1:(v.toList==v.toList)=true:=by simp
 have b2:(cu.toList==cu.toList)=true:=by simp
 have ir:=U (mA.bz dD);have Ug:=U (show ∀ W,Below w1.heap.size w1 W→JR W from fun W hb=>((HTB.o.below dD).dW mA.grow.c HTG.o).below hb);have am4:(nK:Int)+1≤90000:=by omega
 have QG:(cr t).size≤5:=DN rW;have hw:IntKind.i64.wrap ((nK:Int)+1-1)=(nK:Int):=by rw[IntKind.wrap_i64]<;>omega
 have hwa:IntKind.i64.wrap (nK:Int)=(nK:Int):=by rw[IntKind.wrap_i64]<;>omega
 have hai:(0:Int)≤(nK:Int)∧(nK:Int)<(n:Int):=by omega
 obtain⟨am5,am6⟩:=hai;have ahp:(0:Int)≤(t:Int):=by omega
 have ahq:(t:Int)<3:=by omega
 clear jU Bb aK tD XH mA NG ku q1 JM h1 dD k0 ou;obtain⟨TB,hTB⟩:∃ TB,cr t=TB:=⟨_,rfl⟩
 have ahr:=U hTB;rw[hTB] at QG;clear hTB;have yY:TB.size≤9223372036854775806:=by omega
 have am7:=U (show ∀ W,Below w1.heap.size w1 W→aT 18 #[vI ((nK:Int)+1)] W (fun e w'=>∃ V,e=.returned (.string V)∧Below W.heap.size W w'∧V.toList=y8 (nK+1)∧V.size≤100) from fun W hb=>by
  have:=ld (nK+1) (by omega) W (Ug.o W hb);rw[show ((nK+1:Nat):Int)=(nK:Int)+1 by omega] at this;refine this.mono ?_;rintro e w' ⟨V,rfl,h1,h2,h3⟩
  exact⟨V,rfl,h1,h2,by omega⟩)
 go_upto_region 10 with fail
 go_cut [6] (fun s6 wx=>s6=.bool true∧Hid (Below w1.heap.size w1 wx))
 case first=>
  refine wp_region_noPanic ?_;refine wp_region_held_drew (S:=(fun w'=>(w'.cell? (aj w.heap.size 1)=some (.string v)∧w'.cell? (aj w.heap.size 2)=some (.string cu))∧w'.cell? ⟨ga,i*5,none⟩=some (vI t)∧w'.cell? (aj Zr nK)=some (.string v))) (by kernel_rfl) (Ck.o _ (Below.refl _ _).drew) (fun gP=>?_);refine wpAnyH_take (i:=0) (v:=?_) rfl (by kernel_rfl) (by kernel_rfl) (by kernel_rfl) (fun _ _ _ h=>h) (Or.inl ⟨by rfl,?_⟩) gP ?_
  rotate_left 1
  ·(intro w' jW;(try dsimp only at jW);(try simp only[List.getElem_toArray,List.getElem_cons_succ,List.getElem_cons_zero]);go_simp;(try rw[if_neg (by omega)]);try with_reducible rfl)
  try simp only[List.getElem_toArray,List.getElem_cons_succ,List.getElem_cons_zero]
  try simp only[Act.put,List.setIfInBounds_toArray,List.set_cons_zero,List.set_cons_succ]
  refine wpAnyH_take (i:=1) (v:=?_) rfl (by kernel_rfl) (by kernel_rfl) (by kernel_rfl) (fun _ _ _ h=>h) (Or.inl ⟨by rfl,?_⟩) gP ?_
  rotate_left 1
  ·(intro w' jW;(try dsimp only at jW);(try simp only[List.getElem_toArray,List.getElem_cons_succ,List.getElem_cons_zero]);go_simp;(try rw[if_neg (by omega)]);try with_reducible rfl)
  try simp only[List.getElem_toArray,List.getElem_cons_succ,List.getElem_cons_zero]
  try simp only[Act.put,List.setIfInBounds_toArray,List.set_cons_zero,List.set_cons_succ]
  refine wpAnyH_take (i:=2) (v:=?_) rfl (by kernel_rfl) (by kernel_rfl) (by kernel_rfl) (fun _ _ _ h=>h) (Or.inl ⟨by rfl,?_⟩) gP ?_
  rotate_left 1
  ·(intro w' jW;(try dsimp only at jW);(try simp only[List.getElem_toArray,List.getElem_cons_succ,List.getElem_cons_zero]);go_simp;(try rw[if_neg (by omega)]);try with_reducible rfl)
  try simp only[List.getElem_toArray,List.getElem_cons_succ,List.getElem_cons_zero]
  try simp only[Act.put,List.setIfInBounds_toArray,List.set_cons_zero,List.set_cons_succ]
  refine wpAnyH_take (i:=3) (v:=?_) rfl (by kernel_rfl) (by kernel_rfl) (by kernel_rfl) (fun _ _ _ h=>h) (Or.inl ⟨by rfl,?_⟩) gP ?_
  rotate_left 1
  ·(intro w' jW;(try dsimp only at jW);(try simp only[List.getElem_toArray,List.getElem_cons_succ,List.getElem_cons_zero]);go_simp;(try rw[if_neg (by omega)]);try with_reducible rfl)
  try simp only[List.getElem_toArray,List.getElem_cons_succ,List.getElem_cons_zero]
  try simp only[Act.put,List.setIfInBounds_toArray,List.set_cons_zero,List.set_cons_succ]
  refine wpAnyH_take (i:=4) (v:=?_) rfl (by kernel_rfl) (by kernel_rfl) (by kernel_rfl) (fun _ _ _ h=>h) (Or.inl ⟨by rfl,?_⟩) gP ?_
  rotate_left 1
  ·(intro w' jW;(try dsimp only at jW);(try simp only[List.getElem_toArray,List.getElem_cons_succ,List.getElem_cons_zero]);go_simp;(try rw[if_neg (by omega)]);try with_reducible rfl)
  try simp only[List.getElem_toArray,List.getElem_cons_succ,List.getElem_cons_zero]
  try simp only[Act.put,List.setIfInBounds_toArray,List.set_cons_zero,List.set_cons_succ]
  refine wpAnyH_take (i:=5) (v:=?_) rfl (by kernel_rfl) (by kernel_rfl) (by kernel_rfl) (fun _ _ _ h=>h) (Or.inl ⟨by rfl,?_⟩) gP ?_
  rotate_left 1
  ·(intro w' jW;(try dsimp only at jW);(try simp only[List.getElem_toArray,List.getElem_cons_succ,List.getElem_cons_zero]);go_simp;(try rw[if_neg (by omega)]);try with_reducible rfl)
  try simp only[List.getElem_toArray,List.getElem_cons_succ,List.getElem_cons_zero]
  try simp only[Act.put,List.setIfInBounds_toArray,List.set_cons_zero,List.set_cons_succ]
  refine wpAnyH_take (i:=6) (v:=?_) rfl (by kernel_rfl) (by kernel_rfl) (by kernel_rfl) (fun _ _ _ h=>h) (Or.inl ⟨by rfl,?_⟩) gP ?_
  rotate_left 1
  ·(intro w' jW;(try dsimp only at jW);(try simp only[List.getElem_toArray,List.getElem_cons_succ,List.getElem_cons_zero]);go_simp;(try rw[if_neg (by omega)]);try with_reducible rfl)
  try simp only[List.getElem_toArray,List.getElem_cons_succ,List.getElem_cons_zero]
  try simp only[Act.put,List.setIfInBounds_toArray,List.set_cons_zero,List.set_cons_succ]
  refine wpAnyH_take (i:=7) (v:=?_) rfl (by kernel_rfl) (by kernel_rfl) (by kernel_rfl) (fun _ _ _ h=>h) (Or.inl ⟨by rfl,?_⟩) gP ?_
  rotate_left 1
  ·(intro w' jW;(try dsimp only at jW);(try simp only[List.getElem_toArray,List.getElem_cons_succ,List.getElem_cons_zero]);go_simp;(try rw[if_neg (by omega)]);try with_reducible rfl)
  try simp only[List.getElem_toArray,List.getElem_cons_succ,List.getElem_cons_zero]
  try simp only[Act.put,List.setIfInBounds_toArray,List.set_cons_zero,List.set_cons_succ]
  refine wpAnyH_take (i:=8) (v:=?_) rfl (by kernel_rfl) (by kernel_rfl) (by kernel_rfl) (fun _ _ _ h=>h) (Or.inl ⟨by rfl,?_⟩) gP ?_
  rotate_left 1
  ·(intro w' jW;(try dsimp only at jW);(try simp only[List.getElem_toArray,List.getElem_cons_succ,List.getElem_cons_zero]);go_simp;(try rw[if_neg (by omega)]);try with_reducible rfl)
  try simp only[List.getElem_toArray,List.getElem_cons_succ,List.getElem_cons_zero]
  try simp only[Act.put,List.setIfInBounds_toArray,List.set_cons_zero,List.set_cons_succ]
  refine wpAnyH_take (i:=9) (v:=?_) rfl (by kernel_rfl) (by kernel_rfl) (by kernel_rfl) (fun _ _ _ h=>h) (Or.inl ⟨by rfl,?_⟩) gP ?_
  rotate_left 1
  ·(intro w' jW;(try dsimp only at jW);(try simp only[List.getElem_toArray,List.getElem_cons_succ,List.getElem_cons_zero]);go_simp;(try rw[if_neg (by omega)]);try with_reducible rfl)
  try simp only[List.getElem_toArray,List.getElem_cons_succ,List.getElem_cons_zero]
  try simp only[Act.put,List.setIfInBounds_toArray,List.set_cons_zero,List.set_cons_succ]
  refine wpAnyH_take (i:=10) (v:=?_) rfl (by kernel_rfl) (by kernel_rfl) (by kernel_rfl) (fun _ _ _ h=>h) (Or.inl ⟨by rfl,?_⟩) gP ?_
  rotate_left 1
  ·(intro w' jW;(try dsimp only at jW);(try simp only[List.getElem_toArray,List.getElem_cons_succ,List.getElem_cons_zero]);go_simp;(try rw[if_neg (by omega)]);try with_reducible rfl)
  try simp only[List.getElem_toArray,List.getElem_cons_succ,List.getElem_cons_zero]
  try simp only[Act.put,List.setIfInBounds_toArray,List.set_cons_zero,List.set_cons_succ]
  refine wpAnyH_take (i:=11) (v:=?_) rfl (by kernel_rfl) (by kernel_rfl) (by kernel_rfl) (fun _ _ _ h=>h) (Or.inl ⟨by rfl,?_⟩) gP ?_
  rotate_left 1
  ·(intro w' jW;(try dsimp only at jW);(try simp only[List.getElem_toArray,List.getElem_cons_succ,List.getElem_cons_zero]);go_simp;(try rw[if_neg (by omega)]);try with_reducible rfl)
  try simp only[List.getElem_toArray,List.getElem_cons_succ,List.getElem_cons_zero]
  try simp only[Act.put,List.setIfInBounds_toArray,List.set_cons_zero,List.set_cons_succ]
  refine wpAnyH_take (i:=12) (v:=?_) rfl (by kernel_rfl) (by kernel_rfl) (by kernel_rfl) (fun _ _ _ h=>h) (Or.inl ⟨by rfl,?_⟩) gP ?_
  rotate_left 1
  ·(intro w' jW;(try dsimp only at jW);(try simp only[List.getElem_toArray,List.getElem_cons_succ,List.getElem_cons_zero]);go_simp;(try rw[if_neg (by omega)]);try with_reducible rfl)
  try simp only[List.getElem_toArray,List.getElem_cons_succ,List.getElem_cons_zero]
  try simp only[Act.put,List.setIfInBounds_toArray,List.set_cons_zero,List.set_cons_succ]
  refine wpAnyH_take (i:=13) (v:=?_) rfl (by kernel_rfl) (by kernel_rfl) (by kernel_rfl) (fun _ _ _ h=>h) (Or.inl ⟨by rfl,?_⟩) gP ?_
  rotate_left 1
  ·(intro w' jW;(try dsimp only at jW);(try simp only[List.getElem_toArray,List.getElem_cons_succ,List.getElem_cons_zero]);go_simp;(try rw[if_neg (by omega)]);try with_reducible rfl)
  try simp only[List.getElem_toArray,List.getElem_cons_succ,List.getElem_cons_zero]
  try simp only[Act.put,List.setIfInBounds_toArray,List.set_cons_zero,List.set_cons_succ]
  refine wpAnyH_take (i:=14) (v:=?_) rfl (by kernel_rfl) (by kernel_rfl) (by kernel_rfl) (fun _ _ _ h=>h) (Or.inl ⟨by rfl,?_⟩) gP ?_
  rotate_left 1
  ·(intro w' jW;(try dsimp only at jW);(try simp only[List.getElem_toArray,List.getElem_cons_succ,List.getElem_cons_zero]);go_simp;(try rw[if_neg (by omega)]);try with_reducible rfl)
  try simp only[List.getElem_toArray,List.getElem_cons_succ,List.getElem_cons_zero]
  try simp only[Act.put,List.setIfInBounds_toArray,List.set_cons_zero,List.set_cons_succ]
  refine wpAnyH_take (i:=15) (v:=?_) rfl (by kernel_rfl) (by kernel_rfl) (by kernel_rfl) (fun _ _ _ h=>h) (Or.inl ⟨by rfl,?_⟩) gP ?_
  rotate_left 1
  ·(intro w' jW;(try dsimp only at jW);(try simp only[List.getElem_toArray,List.getElem_cons_succ,List.getElem_cons_zero]);go_simp;(try rw[if_neg (by omega)]);try with_reducible rfl)
  try simp only[List.getElem_toArray,List.getElem_cons_succ,List.getElem_cons_zero]
  try simp only[Act.put,List.setIfInBounds_toArray,List.set_cons_zero,List.set_cons_succ]
  refine wpAnyH_take (i:=16) (v:=?_) rfl (by kernel_rfl) (by kernel_rfl) (by kernel_rfl) (fun _ _ _ h=>h) (Or.inl ⟨by rfl,?_⟩) gP ?_
  rotate_left 1
  ·(intro w' jW;(try dsimp only at jW);(try simp only[List.getElem_toArray,List.getElem_cons_succ,List.getElem_cons_zero]);go_simp;(try rw[if_neg (by omega)]);try with_reducible rfl)
  try simp only[List.getElem_toArray,List.getElem_cons_succ,List.getElem_cons_zero]
  try simp only[Act.put,List.setIfInBounds_toArray,List.set_cons_zero,List.set_cons_succ]
  refine wpAnyH_take (i:=18) (v:=?_) rfl (by kernel_rfl) (by kernel_rfl) (by kernel_rfl) (fun _ _ _ h=>h) (Or.inl ⟨by rfl,?_⟩) gP ?_
  rotate_left 1
  ·(intro w' jW;(try dsimp only at jW);(try simp only[List.getElem_toArray,List.getElem_cons_succ,List.getElem_cons_zero]);go_simp;(try rw[if_neg (by omega)]);try with_reducible rfl)
  try simp only[List.getElem_toArray,List.getElem_cons_succ,List.getElem_cons_zero]
  try simp only[Act.put,List.setIfInBounds_toArray,List.set_cons_zero,List.set_cons_succ]
  refine wpAnyH_take (i:=19) (v:=?_) rfl (by kernel_rfl) (by kernel_rfl) (by kernel_rfl) (fun _ _ _ h=>h) (Or.inl ⟨by rfl,?_⟩) gP ?_
  rotate_left 1
  ·(intro w' jW;(try dsimp only at jW);(try simp only[List.getElem_toArray,List.getElem_cons_succ,List.getElem_cons_zero]);go_simp;(try rw[if_neg (by omega)]);try with_reducible rfl)
  try simp only[List.getElem_toArray,List.getElem_cons_succ,List.getElem_cons_zero]
  try simp only[Act.put,List.setIfInBounds_toArray,List.set_cons_zero,List.set_cons_succ]
  refine wpAnyH_take (i:=20) (v:=?_) rfl (by kernel_rfl) (by kernel_rfl) (by kernel_rfl) (fun _ _ _ h=>h) (Or.inl ⟨by rfl,?_⟩) gP ?_
  rotate_left 1
  ·(intro w' jW;(try dsimp only at jW);(try simp only[List.getElem_toArray,List.getElem_cons_succ,List.getElem_cons_zero]);go_simp;(try rw[if_neg (by omega)]);try with_reducible rfl)
  try simp only[List.getElem_toArray,List.getElem_cons_succ,List.getElem_cons_zero]
  try simp only[Act.put,List.setIfInBounds_toArray,List.set_cons_zero,List.set_cons_succ]
  refine wpAnyH_take (i:=21) (v:=?_) rfl (by kernel_rfl) (by kernel_rfl) (by kernel_rfl) (fun _ _ _ h=>h) (Or.inl ⟨by rfl,?_⟩) gP ?_
  rotate_left 1
  ·(intro w' jW;(try dsimp only at jW);(try simp only[List.getElem_toArray,List.getElem_cons_succ,List.getElem_cons_zero]);go_simp;(try rw[if_neg (by omega)]);try with_reducible rfl)
  try simp only[List.getElem_toArray,List.getElem_cons_succ,List.getElem_cons_zero]
  try simp only[Act.put,List.setIfInBounds_toArray,List.set_cons_zero,List.set_cons_succ]
  refine wpAnyH_take (i:=25) (v:=?_) rfl (by kernel_rfl) (by kernel_rfl) (by kernel_rfl) (fun _ _ _ h=>h) (Or.inl ⟨by rfl,?_⟩) gP ?_
  rotate_left 1
  ·(intro w' jW;(try dsimp only at jW);(try simp only[List.getElem_toArray,List.getElem_cons_succ,List.getElem_cons_zero]);go_simp;(try rw[if_neg (by omega)]);try with_reducible rfl)
  try simp only[List.getElem_toArray,List.getElem_cons_succ,List.getElem_cons_zero]
  try simp only[Act.put,List.setIfInBounds_toArray,List.set_cons_zero,List.set_cons_succ]
  refine wpAnyH_ready (rs:=[17]) (by kernel_rfl) (by simp) ?_;refine AllReadyH.cons rfl (fun K hK=>?_) AllReadyH.nil
  try simp only[List.getElem_toArray,List.getElem_cons_succ,List.getElem_cons_zero]
  go_simp
  refine(uQ w1.drew).mono ?_;rintro e wt ⟨tb,rfl,Gk,hle,d0,d1,d2⟩;have xL:=U (show Below w1.heap.size w1 wt from(Below.refl _ _).drew.trans Gk);have tt:wt.cell? (aj tb t)=some (.string TB):=by rw[← ahr.o];exact fY.at' rW d0 d1 d2
  have hS1:(fun w'=>((w'.cell? (aj w.heap.size 1)=some (.string v)∧w'.cell? (aj w.heap.size 2)=some (.string cu))∧w'.cell? ⟨ga,i*5,none⟩=some (vI t)∧w'.cell? (aj Zr nK)=some (.string v))∧w'.cell? (aj tb t)=some (.string TB)) wt:=⟨Ck.o wt xL.o,tt⟩
  clear d0 d1 d2 Gk hle gP
  try go_wp2_with fail
  refine hK.out _ _ hS1.1 (fun _=>?_);clear hK K
  try simp only[List.getElem_toArray,List.getElem_cons_succ,List.getElem_cons_zero]
  try simp only[Act.put,List.setIfInBounds_toArray,List.set_cons_zero,List.set_cons_succ]
  refine xM (S:=(fun w'=>((w'.cell? (aj w.heap.size 1)=some (.string v)∧w'.cell? (aj w.heap.size 2)=some (.string cu))∧w'.cell? ⟨ga,i*5,none⟩=some (vI t)∧w'.cell? (aj Zr nK)=some (.string v))∧w'.cell? (aj tb t)=some (.string TB))) (fun _ h=>h.1) _ _ _ _ ?_;clear a1 a2 b1 hw hwa am5 am6 am4 e0 d16 c0 c1 c2 c3 ry hl BM am3 jQ rE RI eM ee e0b c2b f2 c0a aho;refine wpAnyH_take (i:=22) (v:=?_) rfl (by kernel_rfl) (by kernel_rfl) (by kernel_rfl) (fun _ _ _ h=>h) (Or.inl ⟨by rfl,?_⟩) hS1 ?_
  rotate_left 1
  ·(intro w' jW;(try dsimp only at jW);(try simp only[List.getElem_toArray,List.getElem_cons_succ,List.getElem_cons_zero]);go_simp;(try rw[if_neg (by omega)]);try with_reducible rfl)
  try simp only[List.getElem_toArray,List.getElem_cons_succ,List.getElem_cons_zero]
  try simp only[Act.put,List.setIfInBounds_toArray,List.set_cons_zero,List.set_cons_succ]
  refine wpAnyH_take (i:=23) (v:=?_) rfl (by kernel_rfl) (by kernel_rfl) (by kernel_rfl) (fun _ _ _ h=>h) (Or.inl ⟨by rfl,?_⟩) hS1 ?_
  rotate_left 1
  ·(intro w' jW;(try dsimp only at jW);(try simp only[List.getElem_toArray,List.getElem_cons_succ,List.getElem_cons_zero]);go_simp;(try rw[if_neg (by omega)]);try with_reducible rfl)
  try simp only[List.getElem_toArray,List.getElem_cons_succ,List.getElem_cons_zero]
  try simp only[Act.put,List.setIfInBounds_toArray,List.set_cons_zero,List.set_cons_succ]
  refine wpAnyH_take (i:=24) (v:=?_) rfl (by kernel_rfl) (by kernel_rfl) (by kernel_rfl) (fun _ _ _ h=>h) (Or.inl ⟨by rfl,?_⟩) hS1 ?_
  rotate_left 1
  ·(intro w' jW;(try dsimp only at jW);(try simp only[List.getElem_toArray,List.getElem_cons_succ,List.getElem_cons_zero]);go_simp;(try rw[if_neg (by omega)]);try with_reducible rfl)
  try simp only[List.getElem_toArray,List.getElem_cons_succ,List.getElem_cons_zero]
  try simp only[Act.put,List.setIfInBounds_toArray,List.set_cons_zero,List.set_cons_succ]
  refine wpAnyH_ready (rs:=[26]) (by kernel_rfl) (by simp) ?_;refine AllReadyH.cons rfl (fun K hK=>?_) AllReadyH.nil
  try simp only[List.getElem_toArray,List.getElem_cons_succ,List.getElem_cons_zero]
  go_simp
  refine(am7.o wt xL.o).mono ?_;rintro e wn ⟨V,rfl,QN,hV,hVs⟩;have HBn:=U (show Below w1.heap.size w1 wn from xL.o.trans (QN.mono xL.o.size));have tn:wn.cell? (aj tb t)=some (.string TB):=(QN.cell (p:=(aj tb t)) (World.block_lt_of_cell? _ _ tt)).trans tt;have HVC:=U (NF (t:=t) hV);have hA3:TB.size+1+V.size≤9223372036854775807:=by omega
  have rQ:(fun w'=>((w'.cell? (aj w.heap.size 1)=some (.string v)∧w'.cell? (aj w.heap.size 2)=some (.string cu))∧w'.cell? ⟨ga,i*5,none⟩=some (vI t)∧w'.cell? (aj Zr nK)=some (.string v))∧w'.cell? (aj tb t)=some (.string TB)) wn:=⟨Ck.o wn HBn.o,tn⟩
  clear hV QN
  try go_wp2_with fail
  refine hK.out _ _ rQ (fun _=>?_);clear hK K
  try simp only[List.getElem_toArray,List.getElem_cons_succ,List.getElem_cons_zero]
  try simp only[Act.put,List.setIfInBounds_toArray,List.set_cons_zero,List.set_cons_succ]
  refine wpAnyH_take (i:=27) (v:=?_) rfl (by kernel_rfl) (by kernel_rfl) (by kernel_rfl) (fun _ _ _ h=>h) (Or.inl ⟨by rfl,?_⟩) rQ ?_
  rotate_left 1
  ·(intro w' jW;(try dsimp only at jW);(try simp only[List.getElem_toArray,List.getElem_cons_succ,List.getElem_cons_zero]);go_simp;(try rw[if_neg (by omega)]);try with_reducible rfl)
  try simp only[List.getElem_toArray,List.getElem_cons_succ,List.getElem_cons_zero]
  try simp only[Act.put,List.setIfInBounds_toArray,List.set_cons_zero,List.set_cons_succ]
  refine wpAnyH_take (i:=28) (v:=?_) rfl (by kernel_rfl) (by kernel_rfl) (by kernel_rfl) (fun _ _ _ h=>h) (Or.inl ⟨by rfl,?_⟩) rQ ?_
  rotate_left 1
  ·(intro w' jW;(try dsimp only at jW);(try simp only[List.getElem_toArray,List.getElem_cons_succ,List.getElem_cons_zero]);go_simp;(try rw[if_neg (by omega)]);try with_reducible rfl)
  try simp only[List.getElem_toArray,List.getElem_cons_succ,List.getElem_cons_zero]
  try simp only[Act.put,List.setIfInBounds_toArray,List.set_cons_zero,List.set_cons_succ]
  refine wpAnyH_take (i:=29) (v:=?_) rfl (by kernel_rfl) (by kernel_rfl) (by kernel_rfl) (fun _ _ _ h=>h) (Or.inl ⟨by rfl,?_⟩) rQ ?_
  rotate_left 1
  ·(intro w' jW;(try dsimp only at jW);(try simp only[List.getElem_toArray,List.getElem_cons_succ,List.getElem_cons_zero]);go_simp;(try rw[if_neg (by omega)]);try with_reducible rfl)
  try simp only[List.getElem_toArray,List.getElem_cons_succ,List.getElem_cons_zero]
  try simp only[Act.put,List.setIfInBounds_toArray,List.set_cons_zero,List.set_cons_succ]
  refine wpAnyH_take (i:=30) (v:=?_) rfl (by kernel_rfl) (by kernel_rfl) (by kernel_rfl) (fun _ _ _ h=>h) (Or.inl ⟨by rfl,?_⟩) rQ ?_
  rotate_left 1
  ·(intro w' jW;(try dsimp only at jW);(try simp only[List.getElem_toArray,List.getElem_cons_succ,List.getElem_cons_zero]);go_simp;(try rw[if_neg (by omega)]);try with_reducible rfl)
  try simp only[List.getElem_toArray,List.getElem_cons_succ,List.getElem_cons_zero]
  try simp only[Act.put,List.setIfInBounds_toArray,List.set_cons_zero,List.set_cons_succ]
  refine wpAnyH_done (by kernel_rfl) ?_ _;refine NoPanic.normal ?_
  go_wp2_with fail
  go_meet
  case rel=>exact⟨by rw[← ahr.o,HVC.o,HCU.o];simp,HBn⟩
 case rest=>
  obtain⟨rfl,NH⟩:=hcut
  go_wp2_with fail
  go_ret
  exact⟨rfl,g1,ir.o.below NH.o⟩
theorem acy(h:gO lo w g)(i:Nat){x:gp}{t nK:Nat}(hx:g.ae[i]? = some x)(hl:g.ae.length≤90000)(he:x.ended=0)(ht:x.aG=t)(rW:t<3)(BI:x.start+x.aE=nK)(RG:nK≤200000)(BM:(g.dO t).length≤90000)(hR:g.R≤1000)(k:Nat)(hk:k=2∧g.Fm t=true∧nK=(g.dO t).length∨k=4∧x.aE=0∧x.ni=true∨k=3∧(g.dN=true∨g.st.eh t (nK+1)=false)):
  aT 62 #[aM g.b,vI i,.agg #[vI k,.string ⟨#[]⟩,.string ⟨#[]⟩]] w (fun e w'=>e=.returned (.bool true)∧∃ g',kz lo w g { g.st with ae:=g.ae.set i { x with ended:=k } } w' g'):=by
 obtain⟨w0,eM,aN,aD⟩:=cS w [vI k,.string ⟨#[]⟩,.string ⟨#[]⟩] 134;have h0:=h.below aN;obtain⟨ga,c,jU,aK⟩:=h0.iO hx;obtain⟨va,vc,pu,ry⟩:=h0.lO rW;have e0:=aD.ce 0 rfl;have d16:w0.cell? (aj g.b 16)=some (.slice (some (aj ga 0)) g.ae.length c):=(show w0.cell? (aj g.b 16)=some g.iP from h0.ap.cell 16).trans (by rw[jU]);have c0:w0.cell? ⟨ga,i*5,none⟩=some (vI t):=by rw[← ht];exact aK 0 _ rfl
 have c1:w0.cell? ⟨ga,i*5+1,none⟩=some (vI x.start):=aK 1 _ rfl;have c2:w0.cell? ⟨ga,i*5+2,none⟩=some (vI x.aE):=aK 2 _ rfl;have c3:w0.cell? ⟨ga,i*5+3,none⟩=some (vI 0):=(aK 3 _ rfl).trans (by rw[he];rfl);have jQ:i<g.ae.length:=(List.getElem?_eq_some_iff.1 hx).1;obtain⟨n,hn⟩:∃ n,(g.dO t).length=n:=⟨_,rfl⟩
 obtain⟨N,hN⟩:∃ N,g.ae.length=N:=⟨_,rfl⟩
 rw[hN] at d16 jQ hl;rw[hn] at ry BM;have rE:(i:Int)<(N:Int):=by omega
 have RI:x.start≤200000∧x.aE≤200000:=by omega
 have acx:=U (show (x.start:Int)+(x.aE:Int)+1=(nK:Int)+1 by omega);have H:=U h;have H0:=U h0;have ii:=U aN;have OO:=U aD;have HX:=U hx;have tj:=U jU;have qA:=U pu;have HN:=U hn;have Pc:=U hN;have HT:=U ht;have HR:=U hR;have z0:((k:Int)==0)=false:=by simp;omega
 have z1:((k:Int)==1)=false:=by simp;omega
 have HK:=U hk;clear h h0 hx jU aK pu aN aD hN hn he ht BI hR hk
 go_enter func62,ntmps62
 go_wp2_with fail
 go_cut [8] (fun s8 wx=>s8=.int .i64 ((nK:Int)+1)∧Hid (Below w0.heap.size w0 wx))
 case first=>
  go_quiet (fail)
  go_wp2_with fail
  go_meet
  case rel=>exact⟨congrArg (Value.int .i64) acx.o,U (below_drewN (Below.refl _ _) _)⟩
 case rest=>
 obtain⟨rfl,Wc⟩:=hcut;have c0a:wc.cell? ⟨ga,i*5,none⟩=some (vI t):=(Wc.o.cell (p:=⟨ga,i*5,none⟩) (World.block_lt_of_cell? _ _ c0)).trans c0;have aho:wc.cell? ⟨g.b,10+t,none⟩=some (.slice va n vc):=(Wc.o.cell (p:=⟨g.b,10+t,none⟩) (World.block_lt_of_cell? _ _ ry)).trans ry
 go_wp2_with fail
 go_cut [9] (fun s9 wx=>s9=.slice va n vc∧Hid (Below w0.heap.size w0 wx))
 case first=>
  go_quiet (fail)
  go_wp2_with fail
  go_meet
  case rel=>exact⟨rfl,U (below_drewN Wc.o _)⟩
 case rest=>
 obtain⟨rfl,LK⟩:=hcut;have dD:=ii.o.trans (LK.o.mono ii.o.size);have h1:=H0.o.below LK.o;obtain⟨XG,c',jU,aK⟩:=h1.iO HX.o
 obtain⟨rfl,rfl⟩:ga=XG∧c=c':=by
  have:=tj.o;rw[jU] at this;simp at this;exact⟨this.1.symm,this.2.symm⟩
 have e0b:=(OO.o.below LK.o).ce 0 rfl;have c3b:wc.cell? ⟨ga,i*5+3,none⟩=some (vI x.ended):=aK 3 _ rfl
 have f3:wc.frozen? ⟨ga,i*5+3,none⟩=false:=by
  have:=h1.tB;rw[jU] at this;exact gJ this _
 have mA:=h1.Qa (k:=i) (j:=3) (x:=x) (x':={ x with ended:=k }) (v:=vI k) HX.o (by decide) (by simp) jU;obtain⟨w1,ee⟩:∃ w1,wc.setCell ⟨ga,i*5+3,none⟩ (vI k)=w1:=⟨_,rfl⟩
 rw[ee] at mA;obtain⟨g1,ku⟩:∃ g1,({ g with ae:=g.ae.set i { x with ended:=k } }:WG)=g1:=⟨_,rfl⟩
 have q1:g1.b=g.b∧g1.dO t=g.dO t∧g1.Fm t=g.Fm t∧g1.ae=g.ae.set i { x with ended:=k } ∧ g1.iP=g.iP∧g1.R=g.R∧g1.st.eh t (nK+1)=g.st.eh t (nK+1)∧g1.dN=g.dN:=by
  rw[← ku];exact⟨rfl,WG.AZ _ _ _,WG.XB _ _ _,rfl,rfl,rfl,WG.Qc _ _ _ _,rfl⟩
 rw[ku] at mA;have JM:g1.ae[i]? = some { x with ended:=k }:=by rw[q1.2.2.2.1];simp[Pc.o,jQ]
 have NG:=(mA.ap (OO.o.below LK.o) H.o.kf).1;have m1:=NG.ce 1 rfl;have m2:=NG.ce 2 rfl;have CY:=U NG;obtain⟨XG,c',Bb,tD⟩:=mA.bL.iO JM
 obtain⟨rfl,rfl⟩:ga=XG∧c=c':=by
  rw[q1.2.2.2.2.1,jU] at Bb;simp at Bb;exact⟨Bb.1,Bb.2.2⟩
 have k0:w1.cell? ⟨ga,i*5,none⟩=some (vI t):=by rw[← HT.o];exact tD 0 _ rfl
 have k2:w1.cell? ⟨ga,i*5+2,none⟩=some (vI x.aE):=tD 2 _ rfl;have k4:w1.cell? ⟨ga,i*5+4,none⟩=some (.bool x.ni):=tD 4 _ rfl;have Uh:=U (NC mA.bL rW (nK+1) (by rw[q1.2.1,HN.o];omega) (by rw[q1.2.2.2.2.2.1];exact HR.o) (by omega));rw[q1.2.2.2.2.2.2.1,q1.1,show ((nK+1:Nat):Int)=(nK:Int)+1 by omega] at Uh;obtain⟨kp,Il⟩:∃ kp,g.st.eh t (nK+1)=kp:=⟨_,rfl⟩
 rw[Il] at Uh;have Ck:=U Il;have ir:=U (mA.bz dD);have HT0:=U mA;have HQ:=U q1;have cj:((x.ended:Int) != 0)=false:=by rw[show x.ended=0 by have:=c3b.symm.trans ((LK.o.cell (p:=⟨ga,i*5+3,none⟩) (World.block_lt_of_cell? _ _ c3)).trans c3);simpa using this];rfl
 clear jU Bb aK tD mA NG ku q1 JM h1 dD Il
 go_wp2_with fail
 refine Uh.o.mono ?_;rintro e wk ⟨rfl,vj⟩;have j0:=(CY.o.below vj).ce 0 rfl;have jo:=U (ir.o.below vj);have pU:=U (HT0.o.below vj);have l0:wk.cell? ⟨ga,i*5,none⟩=some (vI t):=(vj.cell (p:=⟨ga,i*5,none⟩) (World.block_lt_of_cell? _ _ k0)).trans k0;have l2:wk.cell? ⟨ga,i*5+2,none⟩=some (vI x.aE):=(vj.cell (p:=⟨ga,i*5+2,none⟩) (World.block_lt_of_cell? _ _ k2)).trans k2;have l4:wk.cell? ⟨ga,i*5+4,none⟩=some (.bool x.ni):=(vj.cell (p:=⟨ga,i*5+4,none⟩) (World.block_lt_of_cell? _ _ k4)).trans k4;clear vj
 rcases HK.o with⟨e,hd,hlen⟩ | ⟨e,e1,e2⟩ | ⟨e,hc⟩
 ·have z2:((k:Int)==2)=true:=by simp[e]
  have d13:wk.cell? ⟨g.b,13+t,none⟩=some (.bool true):=by
   have:=pU.o.bL.Fo rW;rw[HQ.o.1,HQ.o.2.2.1,hd] at this;exact this
  have bb:((nK:Int)+1==(n:Int)+1)=true:=by have:=HN.o;simp;omega
  clear hd hlen e
  go_upto_region 17 with fail
  go_cut [6] (fun s6 wx=>s6=.bool true∧Hid (Below wk.heap.size wk wx))
  case first=>
   go_quiet (fail)
   go_wp2_with fail
   go_meet
   case rel=>exact⟨rfl,U (below_drewN (Below.refl _ _) _)⟩
  case rest=>
  obtain⟨rfl,HBz⟩:=hcut
  go_wp2_with fail
  go_ret
  exact⟨rfl,g1,jo.o.below HBz.o⟩
 ·have z2:((k:Int)==2)=false:=by simp[e]
  have z4:((k:Int)==4)=true:=by simp[e]
  rw[e1] at l2;rw[e2] at l4;clear e e1 e2
  go_wp2_with fail
  go_ret
  exact⟨rfl,g1,jo.o⟩
 ·have z2:((k:Int)==2)=false:=by simp[e]
  have z4:((k:Int)==4)=false:=by simp[e]
  have z3:((k:Int)==3)=true:=by simp[e]
  have d21:wk.cell? (aj g.b 21)=some (.bool g.dN):=by
   have:=pU.o.bL.ap.cell 21;rw[HQ.o.1] at this;exact this.trans (by show some (Value.bool g1.dN)=_;rw[HQ.o.2.2.2.2.2.2.2])
  rw[Ck.o] at hc;clear e
  cases BE:g.dN with
  | true=>
   rw[BE] at d21;clear hc BE
   go_wp2_with fail
   go_ret
   exact⟨rfl,g1,jo.o⟩
  | false=>
   rw[BE] at d21 hc;obtain rfl:kp=false:=by simpa using hc
   clear hc BE
   go_wp2_with fail
   go_ret
   exact⟨rfl,g1,jo.o⟩
end Go.Proofs.YtkpfplbmmglkkaaGreatDoor
