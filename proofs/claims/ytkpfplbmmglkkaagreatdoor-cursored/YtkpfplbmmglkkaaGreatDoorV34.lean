/- Package courierkeep: finish. -/
import Derived.Test.YtkpfplbmmglkkaaGreatDoorV32
import Derived.Test.YtkpfplbmmglkkaaGreatDoorV33
set_option linter.all false
set_option maxHeartbeats 4000000
set_option maxRecDepth 100000
namespace Go.Proofs.YtkpfplbmmglkkaaGreatDoor
open Go.Proofs.Tryz
variable {t lo:Nat}{w:World}
open Go.RowKit Go.Conc
theorem fY.at'{f:Nat→ByteArray}{b:Nat}(ht:t<3)(h0:w.cell? (aj b 0)=some (.string (f 0)))(h1:w.cell? (aj b 1)=some (.string (f 1)))(h2:w.cell? (aj b 2)=some (.string (f 2))):w.cell? (aj b t)=some (.string (f t)):=by
 match t,ht with
 | 0,_=>exact h0
 | 1,_=>exact h1
 | 2,_=>exact h2
def WP.dnP(p:WP)(t:Nat):WP:=match t with
 | 0=>{ p with d0:=true }
 | 1=>{ p with d1:=true }
 | _=>{ p with d2:=true }
def WG.ag9(g:WG)(t:Nat):WG:=match t with
 | 0=>{ g with d0:=true }
 | 1=>{ g with d1:=true }
 | _=>{ g with d2:=true }
theorem gO.aha{g:WG}(ht:t<3)(h:gO lo w g):kz lo w g (g.st.dnP t) (w.setCell ⟨g.b,13+t,none⟩ (.bool true)) (g.ag9 t):=by
 have hc:aQ (fun k=>k=g.b) w (w.setCell ⟨g.b,13+t,none⟩ (.bool true)):=(aQ.refl (fun k=>k=g.b) w).setCell ⟨g.b,13+t,none⟩ _ (fun _=>rfl)
 match t,ht with
 | 0,_=>exact h.ke (g':={ g with d0:=true }) hc (h.ap.set 13 _) rfl ⟨rfl,rfl⟩ rfl rfl ⟨rfl,rfl,rfl⟩ ⟨rfl,rfl,rfl,rfl⟩ ⟨rfl,rfl,rfl,rfl,rfl,rfl⟩ ⟨rfl,rfl,rfl,rfl⟩
 | 1,_=>exact h.ke (g':={ g with d1:=true }) hc (h.ap.set 14 _) rfl ⟨rfl,rfl⟩ rfl rfl ⟨rfl,rfl,rfl⟩ ⟨rfl,rfl,rfl,rfl⟩ ⟨rfl,rfl,rfl,rfl,rfl,rfl⟩ ⟨rfl,rfl,rfl,rfl⟩
 | 2,_=>exact h.ke (g':={ g with d2:=true }) hc (h.ap.set 15 _) rfl ⟨rfl,rfl⟩ rfl rfl ⟨rfl,rfl,rfl⟩ ⟨rfl,rfl,rfl,rfl⟩ ⟨rfl,rfl,rfl,rfl,rfl,rfl⟩ ⟨rfl,rfl,rfl,rfl⟩
theorem Xv{g:WG}(h:gO lo w g)(kd A B C:Int)(hA:-9223372036854775808≤A∧A≤9223372036854775807)(Nv:g.Fm (cI A 3)=false)(acb:∀ w2,Below w.heap.size w w2→aT 42 #[aM g.sg.b,.string (cr (cI A 3))] w2 (fun e w'=>e=.returned (vI 0)∧∃ pV,dw lo w2 g.sg (g.sg.st.finish g.W (cI A 3)) w' pV)):
  aT 11 #[aM g.b,.agg #[vI kd,vI A,vI B,vI C]] w (fun e w'=>e=.returned (.bool true)∧∃ g',kz lo w g ({ g.st with s:=g.sg.st.finish g.W (cI A 3) }.dnP (cI A 3)) w' g'):=by
 have rW:=fw A (n:=3) (by omega);have QL:=U (fun w=>gE A 3 w (by omega) (by unfold maxLen;omega) hA);obtain⟨t,ht⟩:∃ t,cI A 3=t:=⟨_,rfl⟩
 rw[ht] at rW Nv acb;obtain⟨w0,nF,cj,Hq⟩:=cS w [vI kd,vI A,vI B,vI C] 41;have a1:=Hq.ce 1 rfl;have ii:=U cj;have H0:=U (h.below cj);have e0:w0.cell? (aj g.b 0)=some (aM g.sb):=(h.below cj).ap.cell 0;have HFn:=U acb;have ahb:(t:Int)<3:=by omega
 clear Hq cj h acb;rw[ht]
 go_enter func11,ntmps11
 go_wp2_with fail
 refine(QL.o w0).mono ?_;rintro e w1 ⟨rfl,ee⟩;rw[ee,ht];clear ee QL
 go_wp2_with fail
 go_cut [6] (fun s6 wx=>s6=.int .i64 0∧∃ pV,Hid (kz lo w g { g.st with s:=g.sg.st.finish g.W t } wx { g with sg:=pV }))
 case first=>
  go_region_with
   (first | (go_at_call 17;refine(uQ w0.drew).mono ?_;rintro e wt ⟨tb,rfl,Gk,hle,b0,b1,b2⟩;have xL:=U (show Below w0.heap.size w0 wt from(Below.refl _ _).drew.trans Gk);have tt:wt.cell? (aj tb t)=some (.string (cr t)):=fY.at' rW b0 b1 b2;have e0t:wt.cell? (aj g.b 0)=some (aM g.sb):=(H0.o.below xL.o).ap.cell 0;clear b0 b1 b2 Gk hle) | (go_at_call 26;refine((py wt g.sb g.sg.b ((H0.o.below xL.o).cT.cell 0)).ES (cr t) (fun z w'=>z=0∧∃ pV,Hid (dw lo wt g.sg (g.sg.st.finish g.W t) w' pV)) ((HFn.o wt (ii.o.trans (xL.o.mono ii.o.size))).mono (by rintro e w' ⟨rfl,pV,h5⟩;exact⟨0,rfl,rfl,pV,U h5⟩))).mono ?_;rintro e w5 ⟨z,rfl,rfl,pV,H5⟩))
  all_goals
   go_wp2_with fail
   go_meet
   case rel=>exact⟨rfl,pV,U (((H0.o.below xL.o).ko H5.o).bz (ii.o.trans (xL.o.mono ii.o.size)))⟩
 case rest=>
  obtain⟨rfl,pV,ir⟩:=hcut;obtain⟨g1,ku⟩:∃ g1,({ g with sg:=pV }:WG)=g1:=⟨_,rfl⟩
  rw[ku] at ir
  have q1:g1.b=g.b∧g1.Fm t=g.Fm t:=by
   rw[← ku];refine⟨rfl,?_⟩
   match t with | 0=>rfl | 1=>rfl | _+2=>rfl
  have dd:wc.cell? ⟨g.b,13+t,none⟩=some (.bool false):=by
   have:=ir.o.bL.Fo rW;rw[q1.1,q1.2,Nv] at this;exact this
  have ff:wc.frozen? ⟨g.b,13+t,none⟩=false:=by rw[← q1.1];exact ir.o.bL.ap.aq (13+t)
  have hM:=ir.o.bL.aha rW;rw[q1.1] at hM;have HM:=U (ir.o.trans hM);have El:=U ir.o.st;clear q1 hM ku e0 a1
  go_wp2_with fail
  go_ret
  refine⟨rfl,g1.ag9 t,?_⟩;have:=HM.o;rw[El.o] at this;exact this
theorem Xw{g:CG}(h:eH lo w g):
  aT 52 #[aM g.b] w (fun e w'=>e=.returned (.bool (g.st.jv g.W))∧Below w.heap.size w w'):=by
 obtain⟨sa,sc,jU⟩:=h.rs.slice;obtain⟨aa,ac,kn⟩:=h.ra.slice;have d1:=h.ap.ce 1 rfl;have d13:w.cell? (aj g.b 13)=some (.slice aa g.aB.length ac):=(show w.cell? (aj g.b 13)=some g.av from h.ap.cell 13).trans (by rw[kn]);have d15:w.cell? (aj g.b 15)=some (.slice sa g.ae.length sc):=(show w.cell? (aj g.b 15)=some g.sv from h.ap.cell 15).trans (by rw[jU])
 have HO:Hid (g.st.jv g.W=(decide (8≤g.ae.length)||decide (g.W≤g.aB.length))):=by
  unfold CP.jv CG.st Hid;simp
 rw[HO.o];clear h HO jU kn
 by_cases h8:8≤g.ae.length
 ·have h8I:decide ((8:Int)≤(g.ae.length:Int))=true:=by simp;omega
  go_enter func52,ntmps52
  go_wp2_with fail
  go_region
  all_goals
   go_wp2_with fail
   go_ret
   exact⟨bR (by simp[h8]),(Below.refl _ _).drew⟩
 ·have h8I:decide ((8:Int)≤(g.ae.length:Int))=false:=by simp;omega
  go_enter func52,ntmps52
  go_wp2_with fail
  go_region
  all_goals
   go_wp2_with fail
   go_ret
   exact⟨bR (by simp[h8]),(Below.refl _ _).drew⟩
theorem Zo:Tryz.prog.globalNamed "internal/strconv.uint64pow10" = some 0:=by kernel_rfl
structure JR(w:World):Prop where
 t:Lib.TabIs Tryz.prog w "internal/strconv.uint64pow10" .u64 Lib.pow10Tab
 lt:0<w.heap.size
theorem JR.below{w':World}(h:JR w)(hb:Below w.heap.size w w'):JR w':=by
 refine⟨?_,Nat.lt_of_lt_of_le h.lt hb.size⟩;have:=h.t;unfold Lib.TabIs World.var? at this ⊢;rw[Zo] at this ⊢;simp only[Option.bind_some] at this ⊢;rw[hb.block _ h.lt];exact this
theorem IT(w:World)(n:Nat)(os:Array Obj):Below w.heap.size w (Sort.grow (w.drewN n) os) :=
 ⟨rfl,rfl,rfl,by simp[Sort.grow],fun k hk=>by
  have h1:=(below_drewN (Below.refl w.heap.size w) n).block k hk;have h2:(w.drewN n).heap=w.heap:=rfl;simp only[Sort.grow,h2]
  rw[Array.getElem?_append_left hk]⟩
theorem AX:∀ (k u:Nat),u<10 ^ (k+1)→(Lib.decDigits u).length≤k+1
 | 0,u,h=>by rw[Lib.decDigits,dif_pos (by omega)];simp
 | k+1,u,h=>by
  rw[Lib.decDigits]
  by_cases h1:u<10
  ·rw[dif_pos h1];simp
  ·rw[dif_neg h1,List.length_append]
   have:=AX k (u / 10) (by rw[Nat.pow_succ] at h;omega);simp;omega
def y8(n:Nat):List UInt8:=Lib.itoa (n:Int)
theorem Xx(n:Nat)(h:n≤100000):(y8 n).length≤6:=by
 unfold y8 Lib.itoa;rw[if_neg (by omega)];exact AX 5 _ (by show _<10 ^ 6;have:(10:Nat) ^ 6=1000000:=(by decide);omega)
theorem LD(t:ByteArray):t.toList.length=t.size:=by rw[ByteArray.toList_eq];rfl
theorem ru(a b:ByteArray):(a++b).toList=a.toList++b.toList:=by rw[ByteArray.toList_eq,ByteArray.toList_eq,ByteArray.toList_eq];simp
theorem Xy(l:Array UInt8):(ByteArray.mk l).toList=l.toList:=by rw[ByteArray.toList_eq]
def Ua(n:Nat)(w:World)(e:Ending)(w':World):Prop:=∃ t:ByteArray,e=.returned (.string t)∧Below w.heap.size w w'∧t.toList=y8 n∧t.size≤6
theorem ld(n:Nat)(hn:n≤100000)(w:World)(hE:JR w):aT 18 #[vI n] w (Ua n w):=by
 have HE:=U hE;clear hE;have OR:=U (show (ByteArray.mk (Lib.itoa (n:Int)).toArray).toList=y8 n by rw[ByteArray.toList_eq];rfl);have VO:=U (Xx n hn);obtain⟨fb,YZ⟩:∃ fb,Hid (ByteArray.mk (Lib.itoa (n:Int)).toArray=fb):=⟨_,U rfl⟩
 rw[YZ.o] at OR;have JJ:fb.size≤6:=by rw[← LD,OR.o];exact VO.o
 go_enter func18,ntmps18
 go_wp2_with fail
 refine(xW (n:Int) (by omega) (by omega) _ HE.o.t).mono ?_;rintro e w1 ⟨rfl,kk,os,ee⟩;rw[YZ.o];have aA:Below w.heap.size w w1:=by rw[ee];exact IT _ _ _
 clear ee
 go_wp2_with fail
 go_ret
 exact⟨fb,rfl,aA,OR.o,JJ⟩
def y9(V:List UInt8)(w:World)(e:Ending)(w':World):Prop:=∃ t:ByteArray,e=.returned (.string t)∧Below w.heap.size w w'∧t.toList=V∧t.size≤200
def rX(b:Nat)(n:Nat):List UInt8:=match b with
 | 0=>y8 n
 | 1=>[123,120,58]++y8 n++[44,121,58,45,49]++(if n % 2=0 then [44,116,97,103,58,34,92,48,97]++y8 (n % 7)++[34] else [])++(if n % 3=0 then [44,109,111,114,101,58,91,123,120,58,48,44,121,58]++y8 (n % 5)++[44,109,111,114,101,58,91,93,125,93,125] else [44,109,111,114,101,58,91,93,125])
 | 2=>if n % 2=0 then [114,101,100] else [103,114,101,101,110]
 | _=>[34,116]++y8 n++[92,48,48,34]
theorem Qb(n:Nat)(hn:n≤2000)(w:World)(hE:JR w):aT 14 #[.string (ByteArray.mk #[105,110,116]),vI n] w (y9 (rX 0 n) w):=by
 have HE:=U hE;clear hE;have HN:=U (show ∀ w',Below w.heap.size w w'→∀ m:Nat,m≤100000→aT 18 #[vI m] w' (fun e vb=>∃ t:ByteArray,e=.returned (.string t)∧Below w.heap.size w vb∧t.toList=y8 m∧t.size≤6) from fun w' kW m hm=>(ld m hm w' (HE.o.below kW)).mono (fun e vb h=>by obtain⟨t,h1,h2,h3,h4⟩:=h;exact⟨t,h1,kW.trans (h2.mono kW.size),h3,h4⟩))
 go_enter func14,ntmps14
 go_wp2_with fail
 (first | (refine(HN.o _ (by repeat (first | with_reducible assumption | with_reducible exact Below.refl _ _ | with_reducible apply Below.drew)) n (by omega)).mono ?_;rintro e w1 ⟨t1,rfl,aA,ij,gY⟩;have ir:=U ij;clear ij) | (first | (go_region_with (first | (go_at_call 18;refine(HN.o _ (by repeat (first | with_reducible assumption | with_reducible exact Below.refl _ _ | with_reducible apply Below.drew)) n (by omega)).mono ?_;rintro e w1 ⟨t1,rfl,aA,ij,gY⟩;have ir:=U ij;clear ij))) | fail))
 go_wp2_with fail
 go_ret
 exact⟨t1,rfl,aA,ir.o,by omega⟩
theorem IU(n:Nat)(hn:n≤2000)(w:World)(hE:JR w):aT 14 #[.string (ByteArray.mk #[99,111,108,111,114]),vI n] w (y9 (rX 2 n) w):=by
 have HE:=U hE;clear hE;have HN:=U (show ∀ w',Below w.heap.size w w'→∀ m:Nat,m≤100000→aT 18 #[vI m] w' (fun e vb=>∃ t:ByteArray,e=.returned (.string t)∧Below w.heap.size w vb∧t.toList=y8 m∧t.size≤6) from fun w' kW m hm=>(ld m hm w' (HE.o.below kW)).mono (fun e vb h=>by obtain⟨t,h1,h2,h3,h4⟩:=h;exact⟨t,h1,kW.trans (h2.mono kW.size),h3,h4⟩))
 by_cases h2:n % 2=0
 ·have h2I:((n:Int) % 2==0)=true:=by simp;omega
  have HV:=U (show rX 2 n=[114,101,100] from if_pos h2);clear h2
  go_enter func14,ntmps14
  go_wp2_with fail
  go_ret
  exact⟨ByteArray.mk #[114,101,100],rfl,Below.refl _ _,by rw[HV.o,ByteArray.toList_eq],by decide⟩
 ·have h2I:((n:Int) % 2==0)=false:=by simp;omega
  have HV:=U (show rX 2 n=[103,114,101,101,110] from if_neg h2);clear h2
  go_enter func14,ntmps14
  go_wp2_with fail
  go_ret
  exact⟨ByteArray.mk #[103,114,101,101,110],rfl,Below.refl _ _,by rw[HV.o,ByteArray.toList_eq],by decide⟩
theorem Ub(n:Nat)(hn:n≤2000)(w:World)(hE:JR w):aT 14 #[.string (ByteArray.mk #[112,111,105,110,116]),vI n] w (y9 (rX 1 n) w):=by
 have HE:=U hE;clear hE;have HN:=U (show ∀ w',Below w.heap.size w w'→∀ m:Nat,m≤100000→aT 18 #[vI m] w' (fun e vb=>∃ t:ByteArray,e=.returned (.string t)∧Below w.heap.size w vb∧t.toList=y8 m∧t.size≤6) from fun w' kW m hm=>(ld m hm w' (HE.o.below kW)).mono (fun e vb h=>by obtain⟨t,h1,h2,h3,h4⟩:=h;exact⟨t,h1,kW.trans (h2.mono kW.size),h3,h4⟩))
 by_cases h2:n % 2=0
 ·by_cases h3:n % 3=0
  ·have h2I:((n:Int) % 2==0)=true:=by simp;omega
   have h3I:((n:Int) % 3==0)=true:=by simp;omega
   have h7:(n:Int) % 7=((n % 7:Nat):Int):=by omega
   have h5:(n:Int) % 5=((n % 5:Nat):Int):=by omega
   have h7b:n % 7≤100000:=by omega
   have h5b:n % 5≤100000:=by omega
   have HV:=U (show rX 1 n=[123,120,58]++y8 n++[44,121,58,45,49]++([44,116,97,103,58,34,92,48,97]++y8 (n % 7)++[34])++([44,109,111,114,101,58,91,123,120,58,48,44,121,58]++y8 (n % 5)++[44,109,111,114,101,58,91,93,125,93,125]) from by unfold rX;rw[if_pos h2,if_pos h3];rfl);generalize n % 7=n7 at *;generalize n % 5=n5 at *;clear h2 h3
   go_enter func14,ntmps14
   go_wp2_with fail
   (first | (refine(HN.o _ (by repeat (first | with_reducible assumption | with_reducible exact Below.refl _ _ | with_reducible apply Below.drew)) n (by omega)).mono ?_;rintro e w1 ⟨t1,rfl,aA,ij,gY⟩;have ir:=U ij;clear ij) | (first | (go_region_with (first | (go_at_call 18;refine(HN.o _ (by repeat (first | with_reducible assumption | with_reducible exact Below.refl _ _ | with_reducible apply Below.drew)) n (by omega)).mono ?_;rintro e w1 ⟨t1,rfl,aA,ij,gY⟩;have ir:=U ij;clear ij))) | fail))
   all_goals
    have ju:(ByteArray.mk #[123,120,58]).size=3:=rfl;have BY:(ByteArray.mk #[44,121,58,45,49]).size=5:=rfl
    go_wp2_with fail
    (first | (refine(HN.o _ (by repeat (first | with_reducible assumption | with_reducible exact Below.refl _ _ | with_reducible apply Below.drew)) n7 (by omega)).mono ?_;rintro e w2 ⟨t2,rfl,aW,np,il⟩;have jo:=U np;clear np) | (first | (go_region_with (first | (go_at_call 18;refine(HN.o _ (by repeat (first | with_reducible assumption | with_reducible exact Below.refl _ _ | with_reducible apply Below.drew)) n7 (by omega)).mono ?_;rintro e w2 ⟨t2,rfl,aW,np,il⟩;have jo:=U np;clear np))) | fail))
    all_goals
     have BD:(ByteArray.mk #[44,116,97,103,58,34,92,48,97]).size=9:=rfl;have Yj:(ByteArray.mk #[34]).size=1:=rfl
     go_wp2_with fail
     (first | (refine(HN.o _ (by repeat (first | with_reducible assumption | with_reducible exact Below.refl _ _ | with_reducible apply Below.drew)) n5 (by omega)).mono ?_;rintro e w3 ⟨t3,rfl,bP,FU,Cb⟩;have pU:=U FU;clear FU) | (first | (go_region_with (first | (go_at_call 18;refine(HN.o _ (by repeat (first | with_reducible assumption | with_reducible exact Below.refl _ _ | with_reducible apply Below.drew)) n5 (by omega)).mono ?_;rintro e w3 ⟨t3,rfl,bP,FU,Cb⟩;have pU:=U FU;clear FU))) | fail))
     all_goals
      go_wp2_with fail
      go_ret
      exact⟨ByteArray.mk #[123,120,58]++t1++ByteArray.mk #[44,121,58,45,49]++ByteArray.mk #[44,116,97,103,58,34,92,48,97]++t2++ByteArray.mk #[34]++ByteArray.mk #[44,109,111,114,101,58,91,123,120,58,48,44,121,58]++t3++ByteArray.mk #[44,109,111,114,101,58,91,93,125,93,125],rfl,bP,by simp only[ru,ir.o,jo.o,pU.o,Xy,HV.o];simp,by simp only[ByteArray.size_append];have e:∀ l:Array UInt8,(ByteArray.mk l).size=l.size:=fun _=>rfl;simp only[e];simp;omega⟩
  ·have h2I:((n:Int) % 2==0)=true:=by simp;omega
   have h3I:((n:Int) % 3==0)=false:=by simp;omega
   have h7:(n:Int) % 7=((n % 7:Nat):Int):=by omega
   have h5:(n:Int) % 5=((n % 5:Nat):Int):=by omega
   have h7b:n % 7≤100000:=by omega
   have h5b:n % 5≤100000:=by omega
   have HV:=U (show rX 1 n=[123,120,58]++y8 n++[44,121,58,45,49]++([44,116,97,103,58,34,92,48,97]++y8 (n % 7)++[34])++[44,109,111,114,101,58,91,93,125] from by unfold rX;rw[if_pos h2,if_neg h3];rfl);generalize n % 7=n7 at *;generalize n % 5=n5 at *;clear h2 h3
   go_enter func14,ntmps14
   go_wp2_with fail
   (first | (refine(HN.o _ (by repeat (first | with_reducible assumption | with_reducible exact Below.refl _ _ | with_reducible apply Below.drew)) n (by omega)).mono ?_;rintro e w1 ⟨t1,rfl,aA,ij,gY⟩;have ir:=U ij;clear ij) | (first | (go_region_with (first | (go_at_call 18;refine(HN.o _ (by repeat (first | with_reducible assumption | with_reducible exact Below.refl _ _ | with_reducible apply Below.drew)) n (by omega)).mono ?_;rintro e w1 ⟨t1,rfl,aA,ij,gY⟩;have ir:=U ij;clear ij))) | fail))
   all_goals
    have ju:(ByteArray.mk #[123,120,58]).size=3:=rfl;have BY:(ByteArray.mk #[44,121,58,45,49]).size=5:=rfl
    go_wp2_with fail
    (first | (refine(HN.o _ (by repeat (first | with_reducible assumption | with_reducible exact Below.refl _ _ | with_reducible apply Below.drew)) n7 (by omega)).mono ?_;rintro e w2 ⟨t2,rfl,aW,np,il⟩;have jo:=U np;clear np) | (first | (go_region_with (first | (go_at_call 18;refine(HN.o _ (by repeat (first | with_reducible assumption | with_reducible exact Below.refl _ _ | with_reducible apply Below.drew)) n7 (by omega)).mono ?_;rintro e w2 ⟨t2,rfl,aW,np,il⟩;have jo:=U np;clear np))) | fail))
    all_goals
     have BD:(ByteArray.mk #[44,116,97,103,58,34,92,48,97]).size=9:=rfl;have Yj:(ByteArray.mk #[34]).size=1:=rfl
     go_wp2_with fail
     go_ret
     exact⟨ByteArray.mk #[123,120,58]++t1++ByteArray.mk #[44,121,58,45,49]++ByteArray.mk #[44,116,97,103,58,34,92,48,97]++t2++ByteArray.mk #[34]++ByteArray.mk #[44,109,111,114,101,58,91,93,125],rfl,aW,by simp only[ru,ir.o,jo.o,Xy,HV.o];simp,by simp only[ByteArray.size_append];have e:∀ l:Array UInt8,(ByteArray.mk l).size=l.size:=fun _=>rfl;simp only[e];simp;omega⟩
 ·by_cases h3:n % 3=0
  ·have h2I:((n:Int) % 2==0)=false:=by simp;omega
   have h3I:((n:Int) % 3==0)=true:=by simp;omega
   have h7:(n:Int) % 7=((n % 7:Nat):Int):=by omega
   have h5:(n:Int) % 5=((n % 5:Nat):Int):=by omega
   have h7b:n % 7≤100000:=by omega
   have h5b:n % 5≤100000:=by omega
   have HV:=U (show rX 1 n=[123,120,58]++y8 n++[44,121,58,45,49]++[]++([44,109,111,114,101,58,91,123,120,58,48,44,121,58]++y8 (n % 5)++[44,109,111,114,101,58,91,93,125,93,125]) from by unfold rX;rw[if_neg h2,if_pos h3];rfl);generalize n % 7=n7 at *;generalize n % 5=n5 at *;clear h2 h3
   go_enter func14,ntmps14
   go_wp2_with fail
   (first | (refine(HN.o _ (by repeat (first | with_reducible assumption | with_reducible exact Below.refl _ _ | with_reducible apply Below.drew)) n (by omega)).mono ?_;rintro e w1 ⟨t1,rfl,aA,ij,gY⟩;have ir:=U ij;clear ij) | (first | (go_region_with (first | (go_at_call 18;refine(HN.o _ (by repeat (first | with_reducible assumption | with_reducible exact Below.refl _ _ | with_reducible apply Below.drew)) n (by omega)).mono ?_;rintro e w1 ⟨t1,rfl,aA,ij,gY⟩;have ir:=U ij;clear ij))) | fail))
   all_goals
    have ju:(ByteArray.mk #[123,120,58]).size=3:=rfl;have BY:(ByteArray.mk #[44,121,58,45,49]).size=5:=rfl
    go_wp2_with fail
    (first | (refine(HN.o _ (by repeat (first | with_reducible assumption | with_reducible exact Below.refl _ _ | with_reducible apply Below.drew)) n5 (by omega)).mono ?_;rintro e w3 ⟨t3,rfl,bP,FU,Cb⟩;have pU:=U FU;clear FU) | (first | (go_region_with (first | (go_at_call 18;refine(HN.o _ (by repeat (first | with_reducible assumption | with_reducible exact Below.refl _ _ | with_reducible apply Below.drew)) n5 (by omega)).mono ?_;rintro e w3 ⟨t3,rfl,bP,FU,Cb⟩;have pU:=U FU;clear FU))) | fail))
    all_goals
     go_wp2_with fail
     go_ret
     exact⟨ByteArray.mk #[123,120,58]++t1++ByteArray.mk #[44,121,58,45,49]++ByteArray.mk #[44,109,111,114,101,58,91,123,120,58,48,44,121,58]++t3++ByteArray.mk #[44,109,111,114,101,58,91,93,125,93,125],rfl,bP,by simp only[ru,ir.o,pU.o,Xy,HV.o];simp,by simp only[ByteArray.size_append];have e:∀ l:Array UInt8,(ByteArray.mk l).size=l.size:=fun _=>rfl;simp only[e];simp;omega⟩
  ·have h2I:((n:Int) % 2==0)=false:=by simp;omega
   have h3I:((n:Int) % 3==0)=false:=by simp;omega
   have h7:(n:Int) % 7=((n % 7:Nat):Int):=by omega
   have h5:(n:Int) % 5=((n % 5:Nat):Int):=by omega
   have h7b:n % 7≤100000:=by omega
   have h5b:n % 5≤100000:=by omega
   have HV:=U (show rX 1 n=[123,120,58]++y8 n++[44,121,58,45,49]++[]++[44,109,111,114,101,58,91,93,125] from by unfold rX;rw[if_neg h2,if_neg h3];rfl);generalize n % 7=n7 at *;generalize n % 5=n5 at *;clear h2 h3
   go_enter func14,ntmps14
   go_wp2_with fail
   (first | (refine(HN.o _ (by repeat (first | with_reducible assumption | with_reducible exact Below.refl _ _ | with_reducible apply Below.drew)) n (by omega)).mono ?_;rintro e w1 ⟨t1,rfl,aA,ij,gY⟩;have ir:=U ij;clear ij) | (first | (go_region_with (first | (go_at_call 18;refine(HN.o _ (by repeat (first | with_reducible assumption | with_reducible exact Below.refl _ _ | with_reducible apply Below.drew)) n (by omega)).mono ?_;rintro e w1 ⟨t1,rfl,aA,ij,gY⟩;have ir:=U ij;clear ij))) | fail))
   all_goals
    have ju:(ByteArray.mk #[123,120,58]).size=3:=rfl;have BY:(ByteArray.mk #[44,121,58,45,49]).size=5:=rfl
    go_wp2_with fail
    go_ret
    exact⟨ByteArray.mk #[123,120,58]++t1++ByteArray.mk #[44,121,58,45,49]++ByteArray.mk #[44,109,111,114,101,58,91,93,125],rfl,aA,by simp only[ru,ir.o,Xy,HV.o];simp,by simp only[ByteArray.size_append];have e:∀ l:Array UInt8,(ByteArray.mk l).size=l.size:=fun _=>rfl;simp only[e];simp;omega⟩
end Go.Proofs.YtkpfplbmmglkkaaGreatDoor
