/- Package ends: NewServer. -/
import Derived.Test.YtkpfplbmmglkkaaGreatDoorV14
set_option linter.all false
set_option maxHeartbeats 8000000
set_option maxRecDepth 100000
namespace Go.Proofs.YtkpfplbmmglkkaaGreatDoor
open Go.Proofs.Tryz
open Go.RowKit Go.Conc
theorem CD(s:ByteArray)(W D R:Int)(w:World)(hE:mR w)(hs:s.size≤maxLen):
  aT 27 #[.string s,.agg #[vI W,vI D,vI R]] w (sV s W D R w):=by
 obtain⟨w0,nF,cj,BO⟩:=cS w [vI W,vI D,vI R] 27;have c0:=BO.ce 0 rfl;have c1:=BO.ce 1 rfl;have c2:=BO.ce 2 rfl;have HE:=U (hE.below cj);have mF:=cj.size;clear hE BO
 go_enter func27,ntmps27
 go_wp2_with fail
 refine(AE s W D R w0 HE.o hs).mono ?_;rintro e w1 ⟨aA,⟨rfl,hA⟩ | ⟨rfl,hA,hO⟩ | ⟨a,n,c,q,m,X,rfl,hA,hO,h4,hp,hl,hI,hq,hm,hQ,hW⟩⟩
 ·have HA:=U hA
  have HB:=U (show Below w.heap.size w (w1.alloc (.cells #[.slice none 0 0,vI 0,vI 0,vI 0,vI 0,.bool false,.bool false,.chan none,.map none] 84)) from(cj.trans (aA.mono mF)).alloc (by have:=aA.size;omega) _);clear hA
  go_wp2_with fail
  go_ret2
  exact⟨HB.o,Or.inl ⟨rfl,HA.o⟩⟩
 ·have HA:=U hA
  have HO:=U hO;have HB:=U (show Below w.heap.size w (w1.alloc (.cells #[.slice none 0 0,vI 0,vI 0,vI 0,vI 0,.bool false,.bool false,.chan none,.map none] 84)) from(cj.trans (aA.mono mF)).alloc (by have:=aA.size;omega) _);clear hA hO
  go_wp2_with fail
  go_ret2
  exact⟨HB.o,Or.inr (Or.inl ⟨rfl,HA.o,HO.o⟩)⟩
 ·have Wp:Below w1.heap.size w1 (w1.alloc (.cells #[.slice a n c,vI W,vI D,vI R,vI 0,.bool false,.bool false,.chan (some q),.map (some m)] 84)):=(Below.refl _ _).alloc (Nat.le_refl _) _
  have ju:=aA.size;have BS:=U (show aZ (w1.alloc (.cells #[.slice a n c,vI W,vI D,vI R,vI 0,.bool false,.bool false,.chan (some q),.map (some m)] 84)) w1.heap.size 84 [.slice a n c,vI W,vI D,vI R,vI 0,.bool false,.bool false,.chan (some q),.map (some m)] from heap_alloc_new w1 _);have HXO:=U (M0.of h4 hp hl);have HQ:=U (hQ.dW (F:=fun _=>False) (aQ.aI Wp) id);have HW:=U (hW.dW (F:=fun _=>False) (aQ.aI Wp) id);have HI:=U (hI.below Wp);have HA:=U hA;have HO:=U hO;have HP:=U hp;have HB:=U ((cj.trans (aA.mono mF)).trans (Wp.mono (by omega)));have hlq:w.heap.size≤q:=by omega
  have Pn:w.heap.size≤m:=by omega
  clear hQ hW hI hA hO hp Wp
  go_wp2_with fail
  generalize (w1.alloc (.cells #[.slice a n c,vI W,vI D,vI R,vI 0,.bool false,.bool false,.chan (some q),.map (some m)] 84))=wM at *;generalize w1.heap.size=mb at *;have avZ:∀ W:World,(Instr.makeMap 86 none).run Tryz.prog W=.ok (.map (some W.heap.size)) (W.alloc (.map #[] 0)):=fun W=>rfl
  have av0:∀ W:World,(Instr.makeMap 89 none).run Tryz.prog W=.ok (.map (some W.heap.size)) (W.alloc (.map #[] 0)):=fun W=>rfl
  have j0:=BS.o.ce 0 rfl;have j1:=BS.o.ce 1 rfl;have j2:=BS.o.ce 2 rfl;have j3:=BS.o.ce 3 rfl;have j4:=BS.o.ce 4 rfl;have j5:=BS.o.ce 5 rfl;have j6:=BS.o.ce 6 rfl;have j7:=BS.o.ce 7 rfl;have j8:=BS.o.ce 8 rfl;have RR:=BS.o.lt;generalize Value.tuple #[.agg #[.slice a n c,vI W,vI D,vI R,vI 0,.bool false,.bool false,.chan (some q),.map (some m)],vI 0]=tv;generalize Value.agg #[vI W,vI D,vI R]=cv;clear nF c0 c1 c2;have HKM:=U (show ∀ w',Below wM.heap.size wM w'→w'.cell? (aj mb 0)=some (.slice a n c)∧w'.cell? (aj mb 1)=some (vI W)∧w'.cell? (aj mb 2)=some (vI D)∧w'.cell? (aj mb 3)=some (vI R)∧w'.cell? (aj mb 4)=some (vI 0)∧w'.cell? (aj mb 5)=some (.bool false)∧w'.cell? (aj mb 6)=some (.bool false)∧w'.cell? (aj mb 7)=some (.chan (some q))∧w'.cell? (aj mb 8)=some (.map (some m)) from fun w' kW=>⟨(BS.o.below kW).cell 0,(BS.o.below kW).cell 1,(BS.o.below kW).cell 2,(BS.o.below kW).cell 3,(BS.o.below kW).cell 4,(BS.o.below kW).cell 5,(BS.o.below kW).cell 6,(BS.o.below kW).cell 7,(BS.o.below kW).cell 8⟩)
  go_region_held3 (fun w'=>w'.cell? (aj mb 0)=some (.slice a n c)∧w'.cell? (aj mb 1)=some (vI W)∧w'.cell? (aj mb 2)=some (vI D)∧w'.cell? (aj mb 3)=some (vI R)∧w'.cell? (aj mb 4)=some (vI 0)∧w'.cell? (aj mb 5)=some (.bool false)∧w'.cell? (aj mb 6)=some (.bool false)∧w'.cell? (aj mb 7)=some (.chan (some q))∧w'.cell? (aj mb 8)=some (.map (some m)))
   (exact HKM.o _ (by repeat (first | with_reducible assumption | with_reducible exact Below.refl _ _ | with_reducible apply Below.drew | (with_reducible refine Below.alloc ?_ (by first | exact Nat.le_refl _ | exact EU.size | (simp;done) | (simp;have:=EU.size;omega) | (have:=EU.size;simp;omega)) _))))
   (first | (go_at_call 44;first
   | (refine(oO wM.drew _ a n c X (HI.o.below ((Below.refl _ wM).drew)) HXO.o.YS hl).mono ?_;rintro e w2 ⟨ta,tn,tc,Ts,rfl,hT,BQ,aW⟩;have hh:Below wM.heap.size wM wM.drew:=(Below.refl _ wM).drew;have HT:=U (hT.l9 hh.size);have HTR:=U (BQ.l9 hh.size);have EU:Below wM.heap.size wM w2:=hh.trans (aW.mono hh.size);have VP:=U EU;have cz:=BS.o.below EU;have k0:w2.cell? (aj mb 0)=some (.slice a n c):=cz.cell 0;have k1:w2.cell? (aj mb 1)=some (vI W):=cz.cell 1;have k2:w2.cell? (aj mb 2)=some (vI D):=cz.cell 2;have k3:w2.cell? (aj mb 3)=some (vI R):=cz.cell 3;have k4:w2.cell? (aj mb 4)=some (vI 0):=cz.cell 4;have k5:w2.cell? (aj mb 5)=some (.bool false):=cz.cell 5;have k6:w2.cell? (aj mb 6)=some (.bool false):=cz.cell 6;have k7:w2.cell? (aj mb 7)=some (.chan (some q)):=cz.cell 7;have k8:w2.cell? (aj mb 8)=some (.map (some m)):=cz.cell 8;have Qh:=cz.lt;clear hT BQ cz hh aW)
   | (refine(oO (wM.alloc (.map #[] 0)).drew _ a n c X (HI.o.below (((Below.refl _ wM).alloc (Nat.le_refl _) (.map #[] 0)).drew)) HXO.o.YS hl).mono ?_;rintro e w2 ⟨ta,tn,tc,Ts,rfl,hT,BQ,aW⟩;have hh:Below wM.heap.size wM (wM.alloc (.map #[] 0)).drew:=((Below.refl _ wM).alloc (Nat.le_refl _) (.map #[] 0)).drew;have HT:=U (hT.l9 hh.size);have HTR:=U (BQ.l9 hh.size);have EU:Below wM.heap.size wM w2:=hh.trans (aW.mono hh.size);have VP:=U EU;have cz:=BS.o.below EU;have k0:w2.cell? (aj mb 0)=some (.slice a n c):=cz.cell 0;have k1:w2.cell? (aj mb 1)=some (vI W):=cz.cell 1;have k2:w2.cell? (aj mb 2)=some (vI D):=cz.cell 2;have k3:w2.cell? (aj mb 3)=some (vI R):=cz.cell 3;have k4:w2.cell? (aj mb 4)=some (vI 0):=cz.cell 4;have k5:w2.cell? (aj mb 5)=some (.bool false):=cz.cell 5;have k6:w2.cell? (aj mb 6)=some (.bool false):=cz.cell 6;have k7:w2.cell? (aj mb 7)=some (.chan (some q)):=cz.cell 7;have k8:w2.cell? (aj mb 8)=some (.map (some m)):=cz.cell 8;have Qh:=cz.lt;have HV1:Hid (pJ w2 wM.heap.size):=U ((aW.block wM.heap.size (Wq _ _)).trans (heap_alloc_new wM _));clear hT BQ cz hh aW)
   | (refine(oO ((wM.alloc (.map #[] 0)).alloc (.map #[] 0)).drew _ a n c X (HI.o.below ((vS wM (.map #[] 0) (.map #[] 0)).drew)) HXO.o.YS hl).mono ?_;rintro e w2 ⟨ta,tn,tc,Ts,rfl,hT,BQ,aW⟩;have hh:Below wM.heap.size wM ((wM.alloc (.map #[] 0)).alloc (.map #[] 0)).drew:=(vS wM (.map #[] 0) (.map #[] 0)).drew;have HT:=U (hT.l9 hh.size);have HTR:=U (BQ.l9 hh.size);have EU:Below wM.heap.size wM w2:=hh.trans (aW.mono hh.size);have VP:=U EU;have cz:=BS.o.below EU;have k0:w2.cell? (aj mb 0)=some (.slice a n c):=cz.cell 0;have k1:w2.cell? (aj mb 1)=some (vI W):=cz.cell 1;have k2:w2.cell? (aj mb 2)=some (vI D):=cz.cell 2;have k3:w2.cell? (aj mb 3)=some (vI R):=cz.cell 3;have k4:w2.cell? (aj mb 4)=some (vI 0):=cz.cell 4;have k5:w2.cell? (aj mb 5)=some (.bool false):=cz.cell 5;have k6:w2.cell? (aj mb 6)=some (.bool false):=cz.cell 6;have k7:w2.cell? (aj mb 7)=some (.chan (some q)):=cz.cell 7;have k8:w2.cell? (aj mb 8)=some (.map (some m)):=cz.cell 8;have Qh:=cz.lt;have HV1:Hid (pJ w2 wM.heap.size):=U ((aW.block wM.heap.size (Wr _ _ _)).trans ((M7 wM _ _).trans (heap_alloc_new wM _)));have Zt:Hid (pJ w2 (wM.heap.size+1)):=U ((aW.block (wM.heap.size+1) (Ws _ _ _)).trans (M8 wM _ _));clear hT BQ cz hh aW)))
  all_goals
   go_wp2_with fail
   go_ret2
   have hzz:=VP.o.size
   try have Ko:=HV1.o.lt
   refine afq HQ.o HW.o HI.o HT.o HTR.o mF hlq Pn HA.o HO.o h4 HP.o hl HB.o VP.o ?_ ?_ ?_ ?_ ?_ ?_ ?_
   all_goals first | omega | exact vS _ _ _ | exact(Below.refl _ _).alloc (Nat.le_refl _) _ | exact Below.refl _ _ | exact M8 _ _ _ | exact(M7 _ _ _).trans (heap_alloc_new _ _) | exact HV1.o | exact Zt.o | exact HV1.o.dW (F:=fun _=>False) (aQ.aI ((Below.refl _ _).alloc (Nat.le_refl _) _)) id | exact heap_alloc_new _ _ | simp
theorem ahX{w:World}{lo lo':Nat}{lv:Value}{X:List PIV}(h:PIts w lo lv X)(hl:lo'≤lo):PIts w lo' lv X:=Dn h hl
def NU(s:ByteArray)(W D R:Int)(ah:Nat)(lo:Nat)(w':World)(x:Nat):Prop:=∃ (b:Nat) (a:Option Addr) (n c q m:Nat) (X:List PIV),aZ w' x 72 [.pointer (some ⟨b,0,none⟩)]∧lo≤x∧cC s 0 0∧iw W D R=true∧s.size≤400∧(parseP s).1=some (X.map (fun x=>x.it))∧X.length≤400∧PIts w' lo (.slice a n c) X∧lo≤b∧lo≤q∧lo≤m∧jY w' b 99 (.slice a n c) (.int .i64 W) (.int .i64 D) (.int .i64 R) 0 false false (aei ah 0 (.slice none 0 0) 0 (.slice none 0 0) 0 (.slice none 0 0) 0) [] q m
def NV(s:ByteArray)(W D R:Int)(lo:Nat)(w':World)(x:Nat):Prop:=∃ (b:Nat) (a:Option Addr) (n c q m:Nat) (X:List PIV) (au:Value) (ms mo:Nat) (Ts:List pO),aZ w' x 67 [.pointer (some ⟨b,0,none⟩)]∧lo≤x∧cC s 0 0∧iw W D R=true∧s.size≤400∧(parseP s).1=some (X.map (fun x=>x.it))∧X.length≤400∧PIts w' lo (.slice a n c) X∧lo≤b∧lo≤q∧lo≤m∧jY w' b 91 (.slice a n c) (.int .i64 W) (.int .i64 D) (.int .i64 R) 0 false false (ZH au ms mo) [] q m∧oC w' lo au Ts∧gH lo X Ts∧pJ w' ms∧pJ w' mo∧lo≤ms∧lo≤mo∧ms≠mo∧ms≠m∧mo≠m
theorem Mo(s:ByteArray)(W D R:Int)(ah:Nat)(w:World)(hE:mR w)(hs:s.size≤maxLen):
  aT 13 #[.string s,.agg #[vI W,vI D,vI R],vU ah] w (fun e w'=>Below w.heap.size w w' ∧
   ((e=.returned (.tuple #[.pointer none,vI 8])∧∃ E P,cC s E P∧E≠0)∨(e=.returned (.tuple #[.pointer none,vI 9])∧cC s 0 0∧iw W D R=false)∨∃ x,e=.returned (.tuple #[aM x,vI 0])∧NU s W D R ah w.heap.size w' x)):=by
 obtain⟨w0,nF,cj,BO⟩:=cS w [vI W,vI D,vI R] 27;have c0:=BO.ce 0 rfl;have c1:=BO.ce 1 rfl;have c2:=BO.ce 2 rfl;have HE:=U (hE.below cj);have mF:=cj.size;clear hE BO
 go_enter func13,ntmps13
 go_wp2_with fail
 refine(Cp s W D R ah w0 HE.o hs).mono ?_;rintro e w1 ⟨aA,⟨rfl,hA⟩ | ⟨rfl,hA,hO⟩ | ⟨b,a,n,c,q,m,X,rfl,hA,hO,h4,hp,hl,hI,hb,hq,hm,NG⟩⟩
 ·have HA:=U hA
  have HB:=U (cj.trans (aA.mono mF));clear hA
  go_wp2_with fail
  go_ret2
  exact⟨HB.o,Or.inl ⟨rfl,HA.o⟩⟩
 ·have HA:=U hA
  have HO:=U hO;have HB:=U (cj.trans (aA.mono mF));clear hA hO
  go_wp2_with fail
  go_ret2
  exact⟨HB.o,Or.inr (Or.inl ⟨rfl,HA.o,HO.o⟩)⟩
 ·have CZ:Below w1.heap.size w1 (w1.alloc (.cells #[aM b] 72)):=(Below.refl _ _).alloc (Nat.le_refl _) _
  have X7:aZ (w1.alloc (.cells #[aM b] 72)) w1.heap.size 72 [aM b]:=heap_alloc_new w1 _;have HB:=U ((cj.trans (aA.mono mF)).trans (CZ.mono (by have:=aA.size;omega)));have UZ:=U (show NU s W D R ah w.heap.size (w1.alloc (.cells #[aM b] 72)) w1.heap.size from⟨b,a,n,c,q,m,X,X7,by have:=aA.size;omega,hA,hO,h4,hp,hl,ahX (hI.below CZ) mF,by omega,by omega,by omega,NG.below CZ⟩);clear hA hO hp hI NG CZ X7
  go_wp2_with fail
  go_ret2
  exact⟨HB.o,Or.inr (Or.inr ⟨w1.heap.size,rfl,UZ.o⟩)⟩
theorem Mq(s:ByteArray)(W D R:Int)(w:World)(hE:mR w)(hs:s.size≤maxLen):
  aT 12 #[.string s,.agg #[vI W,vI D,vI R]] w (fun e w'=>Below w.heap.size w w' ∧
   ((e=.returned (.tuple #[.pointer none,vI 8])∧∃ E P,cC s E P∧E≠0)∨(e=.returned (.tuple #[.pointer none,vI 9])∧cC s 0 0∧iw W D R=false)∨∃ x,e=.returned (.tuple #[aM x,vI 0])∧NV s W D R w.heap.size w' x)):=by
 obtain⟨w0,nF,cj,BO⟩:=cS w [vI W,vI D,vI R] 27;have c0:=BO.ce 0 rfl;have c1:=BO.ce 1 rfl;have c2:=BO.ce 2 rfl;have HE:=U (hE.below cj);have mF:=cj.size;clear hE BO
 go_enter func12,ntmps12
 go_wp2_with fail
 refine(CD s W D R w0 HE.o hs).mono ?_;rintro e w1 ⟨aA,⟨rfl,hA⟩ | ⟨rfl,hA,hO⟩ | ⟨b,a,n,c,q,m,X,au,ms,mo,Ts,rfl,hA,hO,h4,hp,hl,hI,hb,hq,hm,NG,hT,BQ,TX,hvo,l1,l2,d1,d2,d3⟩⟩
 ·have HA:=U hA
  have HB:=U (cj.trans (aA.mono mF));clear hA
  go_wp2_with fail
  go_ret2
  exact⟨HB.o,Or.inl ⟨rfl,HA.o⟩⟩
 ·have HA:=U hA
  have HO:=U hO;have HB:=U (cj.trans (aA.mono mF));clear hA hO
  go_wp2_with fail
  go_ret2
  exact⟨HB.o,Or.inr (Or.inl ⟨rfl,HA.o,HO.o⟩)⟩
 ·have CZ:Below w1.heap.size w1 (w1.alloc (.cells #[aM b] 67)):=(Below.refl _ _).alloc (Nat.le_refl _) _
  have X7:aZ (w1.alloc (.cells #[aM b] 67)) w1.heap.size 67 [aM b]:=heap_alloc_new w1 _;have HB:=U ((cj.trans (aA.mono mF)).trans (CZ.mono (by have:=aA.size;omega)));have UZ:=U (show NV s W D R w.heap.size (w1.alloc (.cells #[aM b] 67)) w1.heap.size from⟨b,a,n,c,q,m,X,au,ms,mo,Ts,X7,by have:=aA.size;omega,hA,hO,h4,hp,hl,ahX (hI.below CZ) mF,by omega,by omega,by omega,NG.below CZ,(hT.below CZ).l9 mF,BQ.l9 mF,TX.dW (F:=fun _=>False) (aQ.aI CZ) id,hvo.dW (F:=fun _=>False) (aQ.aI CZ) id,by omega,by omega,d1,d2,d3⟩);clear hA hO hp hI NG CZ X7 hT BQ TX hvo
  go_wp2_with fail
  go_ret2
  exact⟨HB.o,Or.inr (Or.inr ⟨w1.heap.size,rfl,UZ.o⟩)⟩
end Go.Proofs.YtkpfplbmmglkkaaGreatDoor
