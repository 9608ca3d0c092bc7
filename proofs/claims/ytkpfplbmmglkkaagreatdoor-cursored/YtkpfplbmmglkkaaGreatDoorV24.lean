/- Package ends: the server's own words: payload, heard of a session; payload of a feed; first of a topic. -/
import Derived.Test.YtkpfplbmmglkkaaGreatDoorV04
import Derived.Test.YtkpfplbmmglkkaaGreatDoorV23
set_option linter.all false
set_option maxHeartbeats 4000000
set_option maxRecDepth 100000
namespace Go.Proofs.YtkpfplbmmglkkaaGreatDoor
open Go.Proofs.Tryz
variable {w w':World}{s:cZ}{dz:List Nat}{m:iq}{lo i k:Nat}{t:eZ}{g:SG}{α:Type}
open Go.RowKit Go.Conc
theorem rj(h:aZ w s.ap 157 (ec s))(kind number:Nat):
  aT 130 #[aM s.ap,vB kind,vU number] w (fun e w'=>e=.returned (.agg #[vB kind,vU s.ah,vU s.number,vU number,vU 0,.string ⟨#[]⟩])∧Below w.heap.size w w'):=by
 obtain⟨w0,eM,aN,aD⟩:=zw w 0 0 0 0 0 ⟨#[]⟩;obtain⟨e0,e1,e2,e3,e4,e5⟩:=aD.c6;have Rj:=aD.aq 0;have U3:=aD.aq 1;have U4:=aD.aq 2;have ZL:=aD.aq 3;have ZM:=aD.aq 4;have ZN:=aD.aq 5;have hL:=h.below aN;have d0:=hL.ce 0 rfl;have d2:=hL.ce 2 rfl;have Cs:=U (lX _ _ _ _ _ _ _ _ (aZ.drew (oS aD (vB kind) (vU s.ah) (vU s.number) (vU number) (vU 0) (.string ⟨#[]⟩))));have K7:=U (je aN (Nat.le_refl _) (vB kind) (vU s.ah) (vU s.number) (vU number) (vU 0) (.string ⟨#[]⟩)).drew;clear h hL aD aN
 go_enter func130,ntmps130
 go_wp2_with fail
 go_big_region
 all_goals
  go_wp2_with fail
  (try simp only[Exit.inBlock,Exit.then])
  refine⟨rfl,.agg #[vB kind,vU s.ah,vU s.number,vU number,vU 0,.string ⟨#[]⟩],?_,rfl,K7.o⟩;have:=Cs.o;simp[results,Tryz.results130,asAddr,this]
theorem Fa(h:aZ w s.ap 157 (ec s)):
  aT 169 #[aM s.ap] w (fun e w'=>e=.returned (.agg #[vB 7,vU s.ah,vU s.number,vU s.next,vU 0,.string ⟨#[]⟩])∧Below w.heap.size w w'):=by
 obtain⟨w0,eM,aN,aD⟩:=zw w 0 0 0 0 0 ⟨#[]⟩;obtain⟨e0,e1,e2,e3,e4,e5⟩:=aD.c6;have Rj:=aD.aq 0;have U3:=aD.aq 1;have U4:=aD.aq 2;have ZL:=aD.aq 3;have ZM:=aD.aq 4;have ZN:=aD.aq 5;have hL:=h.below aN;have d4:=hL.ce 4 rfl;have ii:=U aD;have gZ:=U aN;have HL:=U hL;clear h hL aD aN
 go_enter func169,ntmps169
 go_wp2_with fail
 refine(rj HL.o 7 s.next).mono ?_;rintro e w1 ⟨rfl,aA⟩;have dD:=ii.o.below aA;obtain⟨r0,r1,r2,r3,r4,r5⟩:=dD.c6;have g0:=dD.aq 0;have g1:=dD.aq 1;have g2:=dD.aq 2;have g3:=dD.aq 3;have g4:=dD.aq 4;have g5:=dD.aq 5;have Cs:=U (lX _ _ _ _ _ _ _ _ (oS dD (vB 7) (vU s.ah) (vU s.number) (vU s.next) (vU 0) (.string ⟨#[]⟩)));have K7:=U (je (gZ.o.trans (aA.mono gZ.o.size)) (Nat.le_refl _) (vB 7) (vU s.ah) (vU s.number) (vU s.next) (vU 0) (.string ⟨#[]⟩));clear dD aA
 go_wp2_with fail
 (try simp only[Exit.inBlock,Exit.then])
 refine⟨rfl,.agg #[vB 7,vU s.ah,vU s.number,vU s.next,vU 0,.string ⟨#[]⟩],?_,rfl,K7.o⟩;have:=Cs.o;simp[results,Tryz.results169,asAddr,this]
theorem rl(h:aZ w m.ap 160 (eU s.ap dz m))(hs:aZ w s.ap 157 (ec s))(kind ai:Nat):
  aT 107 #[aM m.ap,vB kind,vU ai] w (fun e w'=>e=.returned (.agg #[vB kind,vU s.ah,vU s.number,vU m.f.number,vU ai,.string ⟨#[]⟩])∧Below w.heap.size w w'):=by
 obtain⟨w0,eM,aN,aD⟩:=zw w 0 0 0 0 0 ⟨#[]⟩;obtain⟨e0,e1,e2,e3,e4,e5⟩:=aD.c6;have Rj:=aD.aq 0;have U3:=aD.aq 1;have U4:=aD.aq 2;have ZL:=aD.aq 3;have ZM:=aD.aq 4;have ZN:=aD.aq 5;have hL:=h.below aN;have d0:=hL.ce 0 rfl;have d1:=hL.ce 1 rfl;have Ck:=U (show ∀ w',Below w0.heap.size w0 w'→(w'.cell? (aj m.ap 0)=some (aM s.ap)∧w'.cell? (aj m.ap 1)=some (vU m.f.number)) from fun w' kW=>⟨(hL.below kW).cell 0,(hL.below kW).cell 1⟩);have HS:=U (hs.below aN);have ii:=U aD;have gZ:=U aN;have mF:=aD.lt;have HbQ:=U (Below.refl w0.heap.size w0);have HbZ:=U (kY (Below.refl w0.heap.size w0).drew (.cells #[vB 0,vU 0,vU 0,vU 0,vU 0,.string ⟨#[]⟩] 125));clear h hs hL aD aN
 go_enter func107,ntmps107
 go_wp2_with fail
 go_upto_region 1 with fail
 go_cut [7] (fun s7 wx=>∃ eb:Nat,s7=aM eb∧Hid (Below w0.heap.size w0 wx)∧Hid (w0.heap.size≤eb)∧Hid (aZ wx eb 125 [vB kind,vU s.ah,vU s.number,vU m.f.number,vU 0,.string ⟨#[]⟩]))
 case first=>
  go_region_held3 (fun w'=>w'.cell? (aj m.ap 0)=some (aM s.ap)∧w'.cell? (aj m.ap 1)=some (vU m.f.number))
   (exact Ck.o _ (by repeat (first | with_reducible assumption | with_reducible exact iV.o | with_reducible exact Below.refl _ _ | with_reducible apply Below.drew | with_reducible apply kY | with_reducible refine je ?_ (Nat.le_refl _) _ _ _ _ _ _)))
   (first | (go_at_call 130;refine(rj (w:=w0.drew) (s:=s) HS.o kind m.f.number).mono ?_;rintro e w1 ⟨rfl,aA⟩;have HX:=U aA;have iV:=U (show Below w0.heap.size w0 w1 from(Below.refl _ w0).drew.trans aA);clear aA) | (go_at_call 130;refine(rj (w:=w0.drew.alloc (.cells #[vB 0,vU 0,vU 0,vU 0,vU 0,.string ⟨#[]⟩] 125)) (s:=s) (HS.o.below HbZ.o) kind m.f.number).mono ?_;rintro e w1 ⟨rfl,aA⟩;have HX:=U aA;have iV:=U (HbZ.o.trans (aA.mono HbZ.o.size));have DG:aZ w1 w0.heap.size 125 [vB 0,vU 0,vU 0,vU 0,vU 0,.string ⟨#[]⟩]:=aZ.below (w:=w0.drew.alloc (.cells #[vB 0,vU 0,vU 0,vU 0,vU 0,.string ⟨#[]⟩] 125)) (heap_alloc_new w0.drew _) aA;have z0:w1.cell? (aj w0.heap.size 0)=some (vB 0):=DG.cell 0;have y0:=DG.aq 0;have z1:w1.cell? (aj w0.heap.size 1)=some (vU 0):=DG.cell 1;have y1:=DG.aq 1;have z2:w1.cell? (aj w0.heap.size 2)=some (vU 0):=DG.cell 2;have y2:=DG.aq 2;have z3:w1.cell? (aj w0.heap.size 3)=some (vU 0):=DG.cell 3;have y3:=DG.aq 3;have z4:w1.cell? (aj w0.heap.size 4)=some (vU 0):=DG.cell 4;have y4:=DG.aq 4;have z5:w1.cell? (aj w0.heap.size 5)=some (.string ⟨#[]⟩):=DG.cell 5;have y5:=DG.aq 5;clear aA))
  all_goals
   go_wp2_with fail
   go_meet
   case rel=>
    first
    | (refine⟨w0.heap.size,rfl,?_,?_,?_⟩;exact U (je iV.o (Nat.le_refl _) _ _ _ _ _ _);exact U (Nat.le_refl _);exact U (oS DG (vB kind) (vU s.ah) (vU s.number) (vU m.f.number) (vU 0) (.string ⟨#[]⟩)))
    | (refine⟨w1.heap.size,rfl,?_,?_,?_⟩;exact U (kY iV.o _);exact U iV.o.size;exact U (heap_alloc_new w1 _))
 case rest=>
  obtain⟨eb,rfl,HbC,Heb,OO⟩:=hcut;have q4:=OO.o.ce 4 rfl;have k4:=OO.o.aq 4;have cz:aZ (wc.setCell (aj eb 4) (vU ai)) eb 125 [vB kind,vU s.ah,vU s.number,vU m.f.number,vU ai,.string ⟨#[]⟩]:=OO.o.set 4 _;have jO:aQ (fun k=>k=eb) wc (wc.setCell (aj eb 4) (vU ai)):=(aQ.refl (fun k=>k=eb) wc).setCell (aj eb 4) _ (fun _=>rfl);have mC:=(ii.o.below HbC.o).dW jO (fun e=>by have:w.heap.size=eb:=e;have:=Heb.o;omega);have aW:Below w.heap.size w (wc.setCell (aj eb 4) (vU ai)):=(gZ.o.trans (HbC.o.mono gZ.o.size)).setCell (p:=(aj eb 4)) (Nat.le_trans gZ.o.size Heb.o) _;obtain⟨w2,dX⟩:∃ w2,wc.setCell (aj eb 4) (vU ai)=w2:=⟨_,rfl⟩
  rw[dX] at cz mC aW;obtain⟨p0,p1,p2,p3,p4,p5⟩:=cz.c6;obtain⟨r0,r1,r2,r3,r4,r5⟩:=mC.c6;have g0:=mC.aq 0;have g1:=mC.aq 1;have g2:=mC.aq 2;have g3:=mC.aq 3;have g4:=mC.aq 4;have g5:=mC.aq 5;have Cs:=U (lX _ _ _ _ _ _ _ _ (oS mC (vB kind) (vU s.ah) (vU s.number) (vU m.f.number) (vU ai) (.string ⟨#[]⟩)));have K7:=U (je aW (Nat.le_refl _) (vB kind) (vU s.ah) (vU s.number) (vU m.f.number) (vU ai) (.string ⟨#[]⟩));clear cz jO mC aW
  go_wp2_with fail
  (try simp only[Exit.inBlock,Exit.then])
  refine⟨rfl,.agg #[vB kind,vU s.ah,vU s.number,vU m.f.number,vU ai,.string ⟨#[]⟩],?_,rfl,K7.o⟩;have:=Cs.o;simp[results,Tryz.results107,asAddr,this]
theorem yZ{m:eZ}(h:aZ w m.ap 108 (dl m))(hr:du 1 m.kv m.ks.length (m.ks.map (fun k=>k.v)))(hl:m.ks.length≤m.count)(hc:m.count≤1000000000000):
  aT 108 #[aM m.ap] w (fun e w'=>e=.returned (vU m.t.first)∧Below w.heap.size w w'):=by
 obtain⟨ka,kc,Pm⟩:=hr.slice;have d2:=h.ce 2 rfl;have d3:w.cell? (aj m.ap 3)=some (.slice ka m.ks.length kc):=(show w.cell? (aj m.ap 3)=some m.kv from h.cell 3).trans (by rw[Pm]);have HF:=U (show (m.t.first:Int)=(m.count:Int)-(m.ks.length:Int)+1 by unfold jS.first eZ.t;simp only[List.length_map];omega);have hlI:(m.ks.length:Int)≤(m.count:Int):=by omega
 clear h hr Pm
 go_enter func108,ntmps108
 go_wp2_with fail
 go_quiet (fail)
 go_wp2_with fail
 go_ret
 refine⟨?_,below_drewN (Below.refl _ _) _⟩;rw[HF.o];rfl
theorem eZ.iz{m:eZ}(h:cE lo w m.aF):aZ w m.ap 108 (dl m):=h.ap (List.mem_append_left _ (List.mem_singleton.2 rfl))
theorem eZ.row{m:eZ}(h:cE lo w m.aF)(ho:m.Ok):w.ownsRow lo 103 1 m.kv m.ks.length (m.ks.map (fun k=>k.v)):=h.own ho.rk (fun _ hp=>List.mem_append_right _ (List.mem_append_left _ hp))
theorem eZ.bys{m:eZ}(h:cE lo w m.aF)(ho:m.Ok){k:B8}(hk:k∈m.ks):fG w lo k.v k.d:=h.own (ho.rb k hk) (fun _ hp=>List.mem_append_right _ (List.mem_append_right _ (List.mem_flatMap.2 ⟨k,hk,hp⟩)))
theorem eZ.cellAt{m:eZ}(h:cE lo w m.aF)(ho:m.Ok){j:Nat}{k:B8}(hj:m.ks[j]? = some k):∃ ga c,m.kv=.slice (some (aj ga 0)) m.ks.length c∧ga<w.heap.size∧w.cell? (aj ga j)=some k.v:=by
 have hr:=eZ.row h ho;have hl:j<m.ks.length:=(List.getElem?_eq_some_iff.1 hj).1
 rcases hr.2 with⟨_,e⟩ | ⟨ga,c,cur,hv,r⟩
 ·omega
 ·refine⟨ga,c,hv,(hr.lt ga (by rw[hv];rfl)).2,?_⟩
  have:=hr.cells (g:=ga) (by rw[hv];rfl) j k.v (by rw[List.getElem?_map,hj];rfl);rw[dF _ _ rfl] at this;simpa using this
theorem alN{m:eZ}(h:cE lo w m.aF)(ho:m.Ok)(hl:m.ks.length≤m.count)(hc:m.count≤1000000000000)(pos:Nat)(k:B8)(hp:m.t.first≤pos)(hk:m.ks[pos-m.t.first]? = some k):
  aT 153 #[aM m.ap,vU pos] w (fun e w'=>e=.returned k.v∧Below w.heap.size w w'):=by
 obtain⟨ga,kc,Pm,vH,aK⟩:=eZ.cellAt h ho hk;have hB:=eZ.iz h;have N7:pos-m.t.first<m.ks.length:=(List.getElem?_eq_some_iff.1 hk).1;obtain⟨va,vc,hv⟩:=(ho.rb k (List.mem_of_getElem? hk)).slice;obtain⟨Fi,Fb⟩:∃ Fi,m.t.first=Fi:=⟨_,rfl⟩
 rw[Fb] at hp hk N7 aK;obtain⟨j,rfl⟩:∃ j,pos=Fi+j:=⟨pos-Fi,by omega⟩
 have hj:Fi+j-Fi=j:=by omega
 rw[hj] at aK N7;obtain⟨n,hn⟩:∃ n,m.ks.length=n:=⟨_,rfl⟩
 rw[hn] at N7 Pm
 have hFb:Fi≤1000000000001:=by
  have:Fi≤m.count+1:=by rw[← Fb];unfold jS.first eZ.t;simp only[List.length_map];omega
  omega
 have hjb:j≤1000000000000:=by omega
 have hj1:(j:Int)<(n:Int):=by omega
 have VK:IntKind.u64.wrap ((Fi:Int)+(j:Int)-(Fi:Int))=(j:Int):=by rw[show (Fi:Int)+(j:Int)-(Fi:Int)=j by omega,IntKind.wrap_u64];omega
 have d3:w.cell? (aj m.ap 3)=some (.slice (some (aj ga 0)) n kc):=(show w.cell? (aj m.ap 3)=some m.kv from hB.cell 3).trans (by rw[Pm]);rw[hv] at aK;have HV:=U hv;have HB:=U hB;have yB:=U Fb;have HO:=U ho;have HL:=U hl;have Ck:=U (show ∀ w',Below w.heap.size w w'→(w'.cell? (aj m.ap 3)=some (.slice (some (aj ga 0)) n kc)∧w'.cell? (aj ga j)=some (.slice va k.d.length vc)) from fun w' kW=>⟨(kW.cell (p:=(aj m.ap 3)) hB.lt).trans d3,(kW.cell (p:=(aj ga j)) vH).trans aK⟩);clear h ho hB Pm hk Fb hv hl hj hn
 go_enter func153,ntmps153
 go_wp2_with fail
 go_region_held3 (fun w'=>w'.cell? (aj m.ap 3)=some (.slice (some (aj ga 0)) n kc)∧w'.cell? (aj ga j)=some (.slice va k.d.length vc))
  (exact Ck.o _ (by repeat (first | with_reducible assumption | with_reducible exact iV.o | with_reducible exact Below.refl _ _ | with_reducible apply Below.drew)))
  (first | (go_at_call 108;refine(yZ (w:=w.drew) (m:=m) HB.o HO.o.rk HL.o hc).mono ?_;rintro e w1 ⟨rfl,aA⟩;have iV:=U (show Below w.heap.size w w1 from(Below.refl _ w).drew.trans aA);clear aA;rw[yB.o]))
 all_goals
  go_wp2_with fail
  go_ret
  refine⟨?_,iV.o⟩;rw[HV.o];rfl
theorem abm(h:aZ w m.ap 160 (eU s.ap dz m))(hs:aZ w s.ap 157 (ec s))(ht:cE lo w t.aF)(ho:t.Ok)(htb:vw dz m.f.aG=t.ap)(hl:t.ks.length≤t.count)(hc:t.count≤1000000000000)(pos:Nat)(k:B8)(hp:t.t.first≤pos)(hk:t.ks[pos-t.t.first]? = some k):
  aT 109 #[aM m.ap,vU pos] w (fun e w'=>e=.returned (.agg #[vB 8,vU s.ah,vU s.number,vU m.f.number,vU pos,.string (qd k.d)])∧Below w.heap.size w w'):=by
 obtain⟨w0,eM,aN,aD⟩:=zw w 0 0 0 0 0 ⟨#[]⟩;obtain⟨e0,e1,e2,e3,e4,e5⟩:=aD.c6;have Rj:=aD.aq 0;have U3:=aD.aq 1;have U4:=aD.aq 2;have ZL:=aD.aq 3;have ZM:=aD.aq 4;have ZN:=aD.aq 5;have HF:=U (h.below aN);have HS:=U (hs.below aN);have HT:=U (ht.below aN);have HO:=U ho;have HTB:=U htb;have HLc:=U hl;have HK:=U hk;have HPp:=U hp;have ii:=U aD;have gZ:=U aN;have mF:=aD.lt;obtain⟨va,vc,hv⟩:=(ho.rb k (List.mem_of_getElem? hk)).slice;have HV:=U hv;obtain⟨sd,hsd⟩:∃ sd,qd k.d=sd:=⟨_,rfl⟩
 rw[hsd];have Ve:=U hsd;clear h hs ht ho htb hl hk hp aD aN hv hsd
 go_enter func109,ntmps109
 go_wp2_with fail
 obtain⟨x,HX⟩:∃ x:ByteArray,Hid (x=⟨#[]⟩):=⟨_,U rfl⟩
 refine(rl (m:=m) (s:=s) HF.o HS.o 8 pos).mono ?_;rintro e w1 ⟨he,aA⟩;rw[← HX.o] at he;subst he;obtain⟨w2,dX,aW,Kx⟩:=zw w1 8 s.ah s.number m.f.number pos x;have ju:=aA.size;have sH:=aA.trans (aW.mono aA.size);have Rf:=U (HF.o.below sH);have jo:=U (HT.o.below sH);have gX:=U (ii.o.below sH);have ago:=U sH;have Vd:=U Kx;have c2:w2.cell? (aj m.ap 2)=some (aM t.ap):=(show w2.cell? (aj m.ap 2)=some (aJ (vw dz m.f.aG)) from Rf.o.cell 2).trans (by rw[HTB.o];rfl);clear aA aW Kx sH
 go_wp2_with fail
 refine(alN jo.o HO.o HLc.o hc pos k HPp.o HK.o).mono ?_;rintro e w3 ⟨rfl,bP⟩;have PG:=eZ.bys (jo.o.below bP) HO.o (List.mem_of_getElem? HK.o)
 have Cm:(convert 103 9 (.slice va k.d.length vc)).run Tryz.prog w3=.ok (.string sd) w3:=by
  have:=PG.rd.conv;rw[HV.o,Ve.o] at this;exact this
 rw[HV.o];have R6:=Vd.o.below bP;have hR3:=gX.o.below bP;have q5:=R6.ce 5 rfl;have k5:=R6.aq 5;have QO:aZ (w3.setCell (aj w1.heap.size 5) (.string sd)) w1.heap.size 125 [vB 8,vU s.ah,vU s.number,vU m.f.number,vU pos,.string sd]:=R6.set 5 _;have jr:aQ (fun k=>k=w1.heap.size) w3 (w3.setCell (aj w1.heap.size 5) (.string sd)):=(aQ.refl (fun k=>k=w1.heap.size) w3).setCell (aj w1.heap.size 5) _ (fun _=>rfl);have Vm:=hR3.dW jr (fun e=>by have:w.heap.size=w1.heap.size:=e;omega);have iA:Below w.heap.size w (w3.setCell (aj w1.heap.size 5) (.string sd)):=(gZ.o.trans ((ago.o.mono gZ.o.size).trans (bP.mono (Nat.le_trans gZ.o.size ago.o.size)))).setCell (p:=(aj w1.heap.size 5)) (by show w.heap.size≤w1.heap.size;omega) _;obtain⟨w4,tV⟩:∃ w4,w3.setCell (aj w1.heap.size 5) (.string sd)=w4:=⟨_,rfl⟩
 rw[tV] at QO Vm iA;obtain⟨p0,p1,p2,p3,p4,p5⟩:=QO.c6;obtain⟨r0,r1,r2,r3,r4,r5⟩:=Vm.c6;have g0:=Vm.aq 0;have g1:=Vm.aq 1;have g2:=Vm.aq 2;have g3:=Vm.aq 3;have g4:=Vm.aq 4;have g5:=Vm.aq 5;have Cs:=U (lX _ _ _ _ _ _ _ _ (oS Vm (vB 8) (vU s.ah) (vU s.number) (vU m.f.number) (vU pos) (.string sd)));have K7:=U (je iA (Nat.le_refl _) (vB 8) (vU s.ah) (vU s.number) (vU m.f.number) (vU pos) (.string sd));clear bP PG R6 hR3 QO jr Vm iA
 go_wp2_with fail
 (try simp only[Exit.inBlock,Exit.then])
 refine⟨rfl,.agg #[vB 8,vU s.ah,vU s.number,vU m.f.number,vU pos,.string sd],?_,rfl,K7.o⟩;have:=Cs.o;simp[results,Tryz.results109,asAddr,this]
theorem cE.left{A B G:List fm}(h:cE lo w G)(hp:G.Perm (A++B)):cE lo w A:=(ay.1 (h.bZ hp)).1
theorem SG.uK(hs:g.aY=some s):g.aF.Perm (s.aF g.dz++(g.bB++(g.bq++(g.jy++(g.vx++(g.nQ++(g.yd++g.vy))))))):=bF (fun p=>by
 have e:g.nR=s.aF g.dz:=by unfold SG.nR;rw[hs];simp
 unfold SG.aF SG.rest;rw[e];simp only[aP]
 omega)
theorem cB.gK(h:cB lo w g)(hs:g.aY=some s):cE lo w (s.aF g.dz):=h.dR.left (SG.uK hs)
theorem cB.nw(h:cB lo w g)(hs:g.aY=some s):s.Ok:=h.ss s (by rw[hs];simp)
theorem cB.fL(h:cB lo w g)(hs:g.aY=some s):aZ w s.ap 157 (ec s):=(h.gK hs).ap (List.mem_append_left _ (List.mem_singleton.2 rfl))
theorem SG.Nn{l1 l2:List eZ}(ht:g.au=l1++t::l2):g.aF.Perm (t.aF++(g.bB++(g.bq++(g.jy++(l1.flatMap eZ.aF++(l2.flatMap eZ.aF++(g.nQ++(g.nR++(g.yd++g.vy))))))))):=bF (fun p=>by
 have e:g.vx=l1.flatMap eZ.aF++(t.aF++l2.flatMap eZ.aF):=by unfold SG.vx;rw[ht];simp
 unfold SG.aF SG.rest;rw[e];simp only[aP]
 omega)
theorem qJ{l:List α}{a:α}(h:l[i]? = some a):l=l.take i++a::l.drop (i+1):=by
 have hi:i<l.length:=(List.getElem?_eq_some_iff.1 h).1;have e:=(List.getElem?_eq_some_iff.1 h).2;rw[← e,← List.drop_eq_getElem_cons hi,List.take_append_drop]
theorem cB.ny(h:cB lo w g)(ht:g.au[k]? = some t):cE lo w t.aF:=h.dR.left (SG.Nn (qJ ht))
theorem cB.xG(h:cB lo w g)(ht:g.au[k]? = some t):t.Ok:=h.tp t (List.mem_of_getElem? ht)
theorem SG.Lj(ht:g.au[k]? = some t):vw g.dz k=t.ap:=by
 unfold vw SG.dz;rw[List.getElem?_map,ht];rfl
theorem cZ.It(hi:s.af[i]? = some m):(s.aF dz).Perm (m.aF s.ap dz++(s.cT++(s.jm++((s.af.take i).flatMap (iq.aF s.ap dz)++((s.af.drop (i+1)).flatMap (iq.aF s.ap dz)++s.kR))))):=bF (fun p=>by
 have e:s.af.flatMap (iq.aF s.ap dz)=(s.af.take i).flatMap (iq.aF s.ap dz)++(m.aF s.ap dz++(s.af.drop (i+1)).flatMap (iq.aF s.ap dz)):=by
  conv=>lhs;rw[qJ hi]
  simp
 unfold cZ.aF;rw[e];simp only[aP]
 omega)
theorem cB.uL(h:cB lo w g)(hs:g.aY=some s)(hi:s.af[i]? = some m):aZ w m.ap 160 (eU s.ap g.dz m):=((h.gK hs).left (cZ.It hi)).ap (List.mem_singleton.2 rfl)
theorem cB.ko{s':cZ}(h:cB lo w g)(hs:g.aY=some s)(hh:cE lo w' (s'.aF g.dz))(hg:cM w (s.aF g.dz) w' (s'.aF g.dz))(hb:s'.ap=s.ap)(ht:s'.ah=s.ah)(ok:s'.Ok):dw lo w g { g.st with aY:=some s'.o } w' { g with aY:=some s' }:=by
 have e1:({ g with aY:=some s' }:SG).bB=g.bB:=by
  have:({ g with aY:=some s' }:SG).cells=g.cells:=by
   have e:({ g with aY:=some s' }:SG).fR=g.fR:=by
    unfold SG.fR;rw[hs];cases g.cur
    ·rfl
    ·show aJ s'.ap=aJ s.ap
     rw[hb]
   show pZ g.iv _ _ _ g.bu g.fN g.up g.q g.m [g.tv,.map (some g.ms),({ g with aY:=some s' }:SG).fR,_,g.wv,_,_]=_;rw[e]
  show [eL g.b _ ({ g with aY:=some s' }:SG).cells]=_;rw[this];rfl
 have e2:({ g with aY:=some s' }:SG).nQ=g.nQ:=by
  unfold SG.nQ;rw[hs];show [eI g.ms [(s'.ah,s'.ap)]]=[eI g.ms [(s.ah,s.ap)]];rw[hb,ht]
 have p2:(s'.aF g.dz++(g.bB++(g.bq++(g.jy++(g.vx++(g.nQ++(g.yd++g.vy))))))).Perm ({ g with aY:=some s' }:SG).aF:=by
  have:=(SG.uK (g:={ g with aY:=some s' }) (s:=s') rfl).symm;rw[e1,e2] at this;exact this
 exact⟨⟨((h.dR.bZ (SG.uK hs)).dE hh hg).bZ p2,h.rt,h.tp,fun x hx=>by
  have:x=s':=by simpa using hx
  rw[this];exact ok,h.rw⟩,rfl,hg.dE.bZ (SG.uK hs).symm p2,rfl,rfl,rfl,rfl,rfl⟩
theorem cB.TE{m':iq}(h:cB lo w g)(hs:g.aY=some s)(hi:s.af[i]? = some m)(hb:m'.ap=m.ap)(hc:aQ (fun k=>k=m.ap) w w')(hB:aZ w' m.ap 160 (eU s.ap g.dz m')):
  dw lo w g { g.st with aY:=some { s.o with af:=s.o.af.set i m'.f } } w' { g with aY:=some { s with af:=s.af.set i m' } }:=by
 have jQ:i<s.af.length:=(List.getElem?_eq_some_iff.1 hi).1;have hS:=h.gK hs;have Gj:({ s with af:=s.af.set i m' }:cZ).af[i]? = some m':=by show (s.af.set i m')[i]? = _;simp[jQ]
 have hl:lo≤m.ap:=(hS.lt ((aL.bZ (cZ.It hi)).2 (aL.bM.2 (Or.inl (aL.one.2 rfl))))).1
 have hm:cE lo w' (m'.aF s.ap g.dz):=by
  unfold iq.aF;rw[hb];exact ct hl hB (by decide)
 have hgm:cM w (m.aF s.ap g.dz) w' (m'.aF s.ap g.dz):=⟨hc.mono (fun k _ e=>aL.one.2 e),fun k hk=>Or.inl (aL.one.2 ((aL.one.1 hk).trans hb))⟩
 have ep:s.af.map (fun f=>aJ f.ap)=(s.af.set i m').map (fun f=>aJ f.ap):=by
  apply List.ext_getElem?;intro j;rw[List.getElem?_map,List.getElem?_map,List.getElem?_set]
  by_cases hj:i=j
  ·subst hj
   rw[if_pos rfl,if_pos jQ,hi];show some (aJ m.ap)=some (aJ m'.ap);rw[hb]
  ·rw[if_neg hj]
 have er:({ s with af:=s.af.set i m' }:cZ).jm=s.jm:=by
  show cx _ 1 s.fv (s.af.set i m').length _=_;rw[List.length_set,← ep];rfl
 have p2:(m'.aF s.ap g.dz++(s.cT++(s.jm++((s.af.take i).flatMap (iq.aF s.ap g.dz)++((s.af.drop (i+1)).flatMap (iq.aF s.ap g.dz)++s.kR))))).Perm (({ s with af:=s.af.set i m' }:cZ).aF g.dz):=by
  have:=(cZ.It (s:={ s with af:=s.af.set i m' }) (dz:=g.dz) Gj).symm;rw[er] at this;have e1:(s.af.set i m').take i=s.af.take i:=by rw[List.take_set_of_le (Nat.le_refl _)]
  have e2:(s.af.set i m').drop (i+1)=s.af.drop (i+1):=by rw[List.drop_set_of_lt (by omega)]
  have e3:({ s with af:=s.af.set i m' }:cZ).af=s.af.set i m':=rfl;rw[e3,e1,e2] at this;exact this
 have bX:=h.nw hs
 have hT:=h.ko (s':={ s with af:=s.af.set i m' }) hs (((hS.bZ (cZ.It hi)).dE hm hgm).bZ p2) (hgm.dE.bZ (cZ.It hi).symm p2) rfl rfl ⟨by
  show du 1 s.fv (s.af.set i m').length ((s.af.set i m').map (fun f=>aJ f.ap));rw[List.length_set,← ep]
  exact bX.rf,bX.rn⟩
 have es:({ s with af:=s.af.set i m' }:cZ).o = { s.o with af:=s.o.af.set i m'.f }:=by
  unfold cZ.o;simp only[List.map_set]
 rw[es] at hT;exact hT
theorem uM{l:List α}{a:α}(h:l[i]? = some a):l.set i a=l:=by
 apply List.ext_getElem?;intro j;rw[List.getElem?_set]
 by_cases hj:i=j
 ·subst hj
  rw[if_pos rfl,if_pos (List.getElem?_eq_some_iff.1 h).1,h]
 ·rw[if_neg hj]
def uN(g:SG)(s:cZ)(i:Nat)(m:iq)(az:Nat)(L:List aS):SG:={ g with L:=L,aY:=some { s with af:=s.af.set i { m with f:={ m.f with az:=az } } } }
theorem No(hs:g.aY=some s)(hi:s.af[i]? = some m)(L:List aS):uN g s i m m.f.az L = { g with L:=L }:=by
 unfold uN;rw[uM hi];cases g;simp only at hs;rw[hs]
theorem SG.tO(hs:g.aY=some s):g.st.aY=some s.o:=by unfold SG.st;rw[hs];rfl
theorem cZ.fAt(hi:s.af[i]? = some m):s.o.af[i]? = some m.f:=by unfold cZ.o;rw[List.getElem?_map,hi];rfl
theorem SG.WV(ht:g.au[k]? = some t):g.st.au[k]? = some t.t:=by unfold SG.st;rw[List.getElem?_map,ht];rfl
theorem ww(hs:g.aY=some s)(hi:s.af[i]? = some m)(ht:g.au[m.f.aG]? = some t)(W:Nat):
  g.st.fP W i = { g.st with aY:=some { s.o with af:=s.o.af.set i (cw g.up W s.ah s.number t.t m.f g.L).1 },L:=(cw g.up W s.ah s.number t.t m.f g.L).2 }:=by
 unfold SP.fP;rw[SG.tO hs];simp only[cZ.fAt hi,SG.WV ht];rfl
theorem qK(hs:g.aY=some s)(hi:s.af[i]? = some m)(ht:g.au[m.f.aG]? = some t)(W:Nat)(p:aS)(hp:cw g.up W s.ah s.number t.t m.f g.L=(m.f,bo g.up g.L p)):g.st.fP W i=g.st.post p:=by
 rw[ww hs hi ht,hp];simp only[uM (cZ.fAt hi)];unfold SP.post;rw[← SG.tO hs];rfl
theorem Iu(h:cB lo w g)(hs:g.aY=some s)(hi:s.af[i]? = some m)(ht:g.au[m.f.aG]? = some t)(hm:m.f.ey=true):
  aT 73 #[aM g.b,aM m.ap] w (fun e w'=>e=.returned (.tuple #[])∧∃ az L,dw lo w g (g.st.fP g.W i) w' (uN g s i m az L)):=by
 have hF:=h.uL hs hi;have d2:w.cell? (aj m.ap 2)=some (aM t.ap):=(show w.cell? (aj m.ap 2)=some (aJ (vw g.dz m.f.aG)) from hF.cell 2).trans (by rw[SG.Lj ht];rfl);have H:=U h;have HF:=U hF;have HS:=U (h.fL hs);have HT:=U (eZ.iz (h.ny ht));have HTO:=U (h.xG ht).rk;have HGL:=U (fun L'=>No hs hi L');have HE:=U (qK hs hi ht g.W (aw 11 s.ah s.number m.f.number 0) (by unfold cw;rw[if_pos hm]))
 have d5:w.cell? (aj m.ap 5)=some (.bool true):=by
  have:=hF.cell 5;rw[this];show some (Value.bool m.f.ey)=_;rw[hm]
 have HFx:=HF;have HSx:=HS;have Hx:=H;clear h hs hi ht hF
 go_enter func73,ntmps73
 go_wp2_with fail
 go_region_with (first | (go_at_call 107;refine(rl (w:=w.drew) (s:=s) (m:=m) (dz:=g.dz) HFx.o HSx.o 11 0).mono ?_;rintro e wp ⟨rfl,PH⟩) | (go_at_call 106;refine((Hx.o.drew.below PH).post (aw 11 s.ah s.number m.f.number 0)).mono ?_;rintro e wq ⟨rfl,hq,_⟩;have HQ:=U hq;clear hq))
 all_goals
  go_wp2_with fail
  go_end0
  exact⟨rfl,m.f.az,bo g.up g.L (aw 11 s.ah s.number m.f.number 0),by rw[HE.o,HGL.o];exact HQ.o.bz ((Below.refl _ w).drew.trans PH)⟩
theorem PI(h:cB lo w g)(hs:g.aY=some s)(hi:s.af[i]? = some m)(ht:g.au[m.f.aG]? = some t)(hl:t.ks.length≤t.count)(hc:t.count≤1000000000000)(alO:m.f.aX≤1000000000000)(hm:m.f.ey=false)(bC:m.f.aX+1<t.t.first):
  aT 73 #[aM g.b,aM m.ap] w (fun e w'=>e=.returned (.tuple #[])∧∃ az L,dw lo w g (g.st.fP g.W i) w' (uN g s i m az L)):=by
 have hF:=h.uL hs hi;have d2:w.cell? (aj m.ap 2)=some (aM t.ap):=(show w.cell? (aj m.ap 2)=some (aJ (vw g.dz m.f.aG)) from hF.cell 2).trans (by rw[SG.Lj ht];rfl);have H:=U h;have HF:=U hF;have HS:=U (h.fL hs);have HT:=U (eZ.iz (h.ny ht));have HTO:=U (h.xG ht).rk;have HGL:=U (fun L'=>No hs hi L');have HLl:=U hl;have HE:=U (qK hs hi ht g.W (aw 10 s.ah s.number m.f.number (m.f.aX+1)) (by unfold cw;rw[if_neg (by rw[hm];simp),if_pos bC]));have hwg:IntKind.u64.wrap ((m.f.aX:Int)+1)=(m.f.aX:Int)+1:=by rw[IntKind.wrap_u64];omega
 obtain⟨Fi,Fb⟩:∃ Fi,t.t.first=Fi:=⟨_,rfl⟩
 rw[Fb] at bC;have yB:=U Fb
 have d5:w.cell? (aj m.ap 5)=some (.bool false):=by
  have:=hF.cell 5;rw[this];show some (Value.bool m.f.ey)=_;rw[hm]
 have d3:=hF.ce 3 rfl;have Ck:=U (show ∀ w',Below w.heap.size w w'→w'.cell? (aj m.ap 3)=some (vU m.f.aX) from fun w' kW=>(hF.below kW).cell 3);have ej:(m.f.aX:Int)+1<(Fi:Int):=by omega
 have vr:decide ((m.f.aX:Int)+1<(Fi:Int))=true:=by simp;omega
 clear h hs hi ht hF hl Fb bC
 go_enter func73,ntmps73
 go_wp2_with fail
 go_region_held3 (fun w'=>w'.cell? (aj m.ap 3)=some (vU m.f.aX))
  (exact Ck.o _ (by repeat (first | with_reducible assumption | with_reducible exact iV.o | with_reducible exact Below.refl _ _ | with_reducible apply Below.drew)))
  (first | (go_at_call 108;refine(yZ (w:=w.drew) (m:=t) HT.o HTO.o HLl.o hc).mono ?_;rintro e w1 ⟨rfl,aA⟩;have iV:=U (show Below w.heap.size w w1 from(Below.refl _ w).drew.trans aA);clear aA;rw[yB.o]))
 all_goals
  have HFx:=U (HF.o.below iV.o);have HSx:=U (HS.o.below iV.o);have Hx:=U (H.o.below iV.o);have k3:=HFx.o.ce 3 rfl
  go_wp2_with fail
  go_region_with (first | (go_at_call 107;refine(rl (w:=w1.drew) (s:=s) (m:=m) (dz:=g.dz) HFx.o HSx.o 10 (m.f.aX+1)).mono ?_;rintro e wp ⟨rfl,PH⟩) | (go_at_call 106;refine((Hx.o.drew.below PH).post (aw 10 s.ah s.number m.f.number (m.f.aX+1))).mono ?_;rintro e wq ⟨rfl,hq,_⟩;have HQ:=U hq;clear hq))
  all_goals
   go_wp2_with fail
   go_end0
   exact⟨rfl,m.f.az,bo g.up g.L (aw 10 s.ah s.number m.f.number (m.f.aX+1)),by rw[HE.o,HGL.o];exact HQ.o.bz (iV.o.trans (((Below.refl _ w1).drew.trans PH).mono iV.o.size))⟩
theorem TF(h:cB lo w g)(hs:g.aY=some s)(hi:s.af[i]? = some m)(ht:g.au[m.f.aG]? = some t)(hl:t.ks.length≤t.count)(hc:t.count≤1000000000000)(hm:m.f.ey=false)(bC:¬ m.f.aX+1<t.t.first)(rG:t.bD=true)(WW:m.f.aX=t.count):
  aT 73 #[aM g.b,aM m.ap] w (fun e w'=>e=.returned (.tuple #[])∧∃ az L,dw lo w g (g.st.fP g.W i) w' (uN g s i m az L)):=by
 have hF:=h.uL hs hi;have d2:w.cell? (aj m.ap 2)=some (aM t.ap):=(show w.cell? (aj m.ap 2)=some (aJ (vw g.dz m.f.aG)) from hF.cell 2).trans (by rw[SG.Lj ht];rfl);have H:=U h;have HF:=U hF;have HS:=U (h.fL hs);have HT:=U (eZ.iz (h.ny ht));have HTO:=U (h.xG ht).rk;have HGL:=U (fun L'=>No hs hi L');have HLl:=U hl;have HE:=U (qK hs hi ht g.W (aw 9 s.ah s.number m.f.number t.count) (by unfold cw;rw[if_neg (by rw[hm];simp),if_neg bC,if_pos ⟨rG,WW⟩];rfl));have hwg:IntKind.u64.wrap ((m.f.aX:Int)+1)=(m.f.aX:Int)+1:=by rw[IntKind.wrap_u64];omega
 obtain⟨Fi,Fb⟩:∃ Fi,t.t.first=Fi:=⟨_,rfl⟩
 rw[Fb] at bC;have yB:=U Fb
 have d5:w.cell? (aj m.ap 5)=some (.bool false):=by
  have:=hF.cell 5;rw[this];show some (Value.bool m.f.ey)=_;rw[hm]
 have d3:=hF.ce 3 rfl;have Ck:=U (show ∀ w',Below w.heap.size w w'→w'.cell? (aj m.ap 3)=some (vU m.f.aX) from fun w' kW=>(hF.below kW).cell 3);have vr:decide ((m.f.aX:Int)+1<(Fi:Int))=false:=by simp;omega
 have hde:((m.f.aX:Int)==(t.count:Int))=true:=by simp;omega
 have tq:=U rG;clear h hs hi ht hF hl Fb bC rG WW
 go_enter func73,ntmps73
 go_wp2_with fail
 go_region_held3 (fun w'=>w'.cell? (aj m.ap 3)=some (vU m.f.aX))
  (exact Ck.o _ (by repeat (first | with_reducible assumption | with_reducible exact iV.o | with_reducible exact Below.refl _ _ | with_reducible apply Below.drew)))
  (first | (go_at_call 108;refine(yZ (w:=w.drew) (m:=t) HT.o HTO.o HLl.o hc).mono ?_;rintro e w1 ⟨rfl,aA⟩;have iV:=U (show Below w.heap.size w w1 from(Below.refl _ w).drew.trans aA);clear aA;rw[yB.o]))
 all_goals
  have VI:=HF.o.below iV.o;have mA:=HT.o.below iV.o;have k3:=VI.ce 3 rfl;have t2:=mA.ce 2 rfl;have t4:w1.cell? (aj t.ap 4)=some (.bool true):=(show w1.cell? (aj t.ap 4)=some (.bool t.bD) from mA.cell 4).trans (by rw[tq.o]);clear VI mA
  go_wp2_with fail
  go_quiet (fail)
  obtain⟨wz,Cz⟩:∃ wz,w1.drewN nq=wz:=⟨_,rfl⟩
  have mP:=below_drewN (Below.refl w1.heap.size w1) nq;rw[Cz] at mP ⊢;have ja:=iV.o.trans (mP.mono iV.o.size);have HFx:=U (HF.o.below ja);have HSx:=U (HS.o.below ja);have Hx:=U (H.o.below ja);have Iv:=U ja;have z2:=(HT.o.below ja).ce 2 rfl;clear Cz mP ja
  go_wp2_with fail
  go_region_with (first | (go_at_call 107;refine(rl (w:=wz.drew) (s:=s) (m:=m) (dz:=g.dz) HFx.o HSx.o 9 t.count).mono ?_;rintro e wp ⟨rfl,PH⟩) | (go_at_call 106;refine((Hx.o.drew.below PH).post (aw 9 s.ah s.number m.f.number t.count)).mono ?_;rintro e wq ⟨rfl,hq,_⟩;have HQ:=U hq;clear hq))
  all_goals
   go_wp2_with fail
   go_end0
   exact⟨rfl,m.f.az,bo g.up g.L (aw 9 s.ah s.number m.f.number t.count),by rw[HE.o,HGL.o];exact HQ.o.bz (Iv.o.trans (((Below.refl _ wz).drew.trans PH).mono Iv.o.size))⟩
end Go.Proofs.YtkpfplbmmglkkaaGreatDoor
