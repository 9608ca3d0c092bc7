/- courierlaw: House.conn at Up. -/
import Derived.Test.YtgalebcpagmohaaGreatDoorMDHouse
set_option linter.unusedSimpArgs false
set_option linter.unusedVariables false
set_option maxHeartbeats 8000000
set_option maxRecDepth 100000
namespace Go.Proofs.YtgalebcpagmohaaGreatDoor
open Go.Proofs.Tryz
open Go.RowKit Go.Conc
theorem Xa (w:World) (K:HK) (N:Nat) (G:HG) (h:Inv w K N G) (hn:N+1≤100000000) (A:Int) (S T:ByteArray) :
  Calls Tryz.prog 12 #[.pointer (some ⟨K.H,0,none⟩),.agg #[.int .i64 1,.int .i64 A,.string S,.string T],.int .i64 0] w (gX w K N):=by
 have hb0:Below w.heap.size w (w.alloc (.cells #[.int .i64 1,.int .i64 A,.string S,.string T] 43)):=(Below.refl _ _).alloc (Nat.le_refl _) _
 have hK0:aU (w.alloc (.cells #[.int .i64 1,.int .i64 A,.string S,.string T] 43)) w.heap.size 43 [.int .i64 1,.int .i64 A,.string S,.string T]:=heap_alloc_new w _
 have h0:=h.below hb0
 have xK:=h.h.lt
 obtain⟨w0,hw0⟩:∃ w0,w.alloc (.cells #[.int .i64 1,.int .i64 A,.string S,.string T] 43)=w0:=⟨_,rfl⟩
 rw[hw0] at hb0 hK0 h0
 have k0:w0.cell? ⟨w.heap.size,0,none⟩=some (.int .i64 1):=hK0.cell 0
 have k1:w0.cell? ⟨w.heap.size,1,none⟩=some (.int .i64 A):=hK0.cell 1
 have k2:w0.cell? ⟨w.heap.size,2,none⟩=some (.string S):=hK0.cell 2
 have hc6:w0.cell? ⟨K.H,6,none⟩=some (.int .i64 G.c.last):=h0.h.cell 6
 have hc8:w0.cell? ⟨K.H,8,none⟩=some (.bool G.c.up):=h0.h.cell 8
 have hcp:w0.cell? ⟨K.H,5,none⟩=some (.pointer (some ⟨K.cx,0,none⟩)):=h0.h.cell 5
 have hlow:K.lo≤w.heap.size:=by have:=h.wd.bH;omega
 have HI:=hid h0
 have HB0:=hid (hb0.mono hlow)
 have rE:=hid hK0
 clear h0 hK0 h
 have HI2:=hid (HI.out.below (Below.refl _ _).drew.drew)
 cases hup:G.c.up
 all_goals
  rw[hup] at hc8
  go_enter func12,ntmps12
  go_wp2_with fail
  go_region
  all_goals
   go_wp2_with fail
   go_region_with (go_at_call 26;refine(agm HI2.out.wd.c (HI2.out.wd.x.cell 0) A).mono ?_;rintro e w1 ⟨z,rfl,hP⟩;have HP:=hid hP;clear hP)
   all_goals
    obtain⟨g',oV,eF,hSt,hA⟩:=HP.out
    have HW:=hid (HI2.out.wd.cli oV eF hSt (by rcases hA with⟨_,_,_,rfl⟩ | ⟨_,_,q,m,L,rfl⟩<;>exact HI2.out.wd.sl))
    have hK1:=aU.only (w:=w0.drew.drew) rE.out eF HI2.out.wd.c.only (by decide)
    have qV:=hid hK1
    have j1:w1.cell? ⟨w.heap.size,1,none⟩=some (.int .i64 A):=hK1.cell 1
    have hH1:=HW.out.2.1 _ HI2.out.h
    have i12:w1.cell? ⟨K.H,12,none⟩=some (.bool G.c.had):=hH1.cell 12
    have i10:w1.cell? ⟨K.H,10,none⟩=some (.int .i64 G.c.last):=hH1.cell 10
    have Nc:=hid hH1
    have HA:=hid hA
    clear oV eF hSt hA hK1 hH1 HP
    rcases HA.out with⟨hh,hle,rfl,rfl⟩ | ⟨hno,rfl,q,m,L,rfl⟩
    ·rw[hh] at i12
     have hd:decide (G.c.last<A)=false:=by simp;omega
     go_wp2_with fail
     go_region
     all_goals
      go_wp2_with fail
      go_ret
      exact⟨rfl,⟨_,(Inv.mk HW.out.1 Nc.out |>.below (Below.refl _ _).drew).wd.more hn,(Nc.out.below (Below.refl _ _).drew)⟩,(HB0.out.trans (Below.mono (Below.refl _ _).drew.drew (by have:=HB0.out.size;omega))).trans (HW.out.2.2.drew)⟩
    ·have HHB:=hid (show aU w1.drew K.H 33 (nJ K G) from Nc.out)
     have Y2:=hid (show Wd w1.drew K N _ from HW.out.1.below (Below.refl _ _).drew)
     have WB:=hid (show Below K.lo w w1.drew from((HB0.out.trans (Below.mono (Below.refl _ _).drew.drew (by have:=HB0.out.size;omega))).trans HW.out.2.2).drew)
     have j1d:w1.drew.cell? ⟨w.heap.size,1,none⟩=some (.int .i64 A):=qV.out.cell 1
     have HKB:=hid (show aU w1.drew w.heap.size 43 _ from qV.out)
     have hno':G.c.had=true→G.c.last<A:=fun e=>by
      exact Decidable.byContradiction (fun h=>hno ⟨e,by omega⟩)
     clear hno
     cases Xb:G.c.had
     all_goals
      rw[Xb] at i12
      try (have hlast:=hno' Xb)
      clear hno'
      go_wp2_with fail
      go_region
      all_goals
       generalize w1.drew=w2 at *
       have hB2:=HHB.out
       have e12:w2.cell? ⟨K.H,12,none⟩=some (.bool G.c.had):=hB2.cell 12
       have f12:=hB2.frozen 12
       have hB3:=hB2.set 12 (.bool true)
       have hc3:aN (fun i=>i=K.H) w2 (w2.setCell ⟨K.H,12,none⟩ (.bool true)):=(aN.refl _ _).setCell _ _ (fun _=>rfl)
       obtain⟨w3,hw3⟩:∃ w3,w2.setCell ⟨K.H,12,none⟩ (.bool true)=w3:=⟨_,rfl⟩
       rw[hw3] at hB3 hc3
       have hne:w.heap.size≠K.H:=by omega
       have j3:w3.cell? ⟨w.heap.size,1,none⟩=some (.int .i64 A):=(HKB.out.fZ hc3 hne).cell 1
       have e10:w3.cell? ⟨K.H,10,none⟩=some (.int .i64 G.c.last):=hB3.cell 10
       have f10:=hB3.frozen 10
       have hB4:aU (w3.setCell ⟨K.H,10,none⟩ (.int .i64 A)).drew K.H 33 _:=hB3.set 10 (.int .i64 A)
       have hc4:aN (fun i=>i=K.H) w2 (w3.setCell ⟨K.H,10,none⟩ (.int .i64 A)).drew:=(hc3.setCell _ _ (fun _=>rfl)).drew
       have HB4:=hid hB4
       have uo:=hid hc4
       clear hB3 hB4 hB2 hc3 hc4
       go_wp2_with fail
       go_region
       all_goals
        generalize (w3.setCell ⟨K.H,10,none⟩ (.int .i64 A)).drew=w4 at *
        have hB4:=HB4.out
        have j4:w4.cell? ⟨w.heap.size,1,none⟩=some (.int .i64 A):=(HKB.out.fZ uo.out hne).cell 1
        have e6:w4.cell? ⟨K.H,6,none⟩=some (.int .i64 G.c.last):=hB4.cell 6
        have f6:=hB4.frozen 6
        have BI:aU (w4.setCell ⟨K.H,6,none⟩ (.int .i64 A)).drew K.H 33 _:=hB4.set 6 (.int .i64 A)
        have jM:=hid BI
        have jW:=hid (show aN (fun i=>i=K.H) w2 (w4.setCell ⟨K.H,6,none⟩ (.int .i64 A)).drew from(uo.out.setCell _ _ (fun _=>rfl)).drew)
        clear hB4 BI
        go_wp2_with fail
        go_region
        all_goals
         generalize (w4.setCell ⟨K.H,6,none⟩ (.int .i64 A)).drew=w5 at *
         have BI:=jM.out
         have e8:w5.cell? ⟨K.H,8,none⟩=some (.bool G.c.up):=BI.cell 8
         have f8:=BI.frozen 8
         have xJ:=hid (BI.set 8 (.bool true))
         have Ej:=hid (jW.out.setCell ⟨K.H,8,none⟩ (.bool true) (fun _=>rfl))
         clear BI
         go_wp2_with fail
         go_ret
         have hfin:=Y2.out.oL HHB.out Ej.out
         exact⟨rfl,⟨_,hfin.1.more hn,xJ.out⟩,WB.out.trans hfin.2⟩
theorem Xc (w:World) (K:HK) (N:Nat) (G:HG) (h:Inv w K N G) (hn:N+1≤100000000) (A:Int) (S T:ByteArray) :
  Calls Tryz.prog 12 #[.pointer (some ⟨K.H,0,none⟩),.agg #[.int .i64 1,.int .i64 A,.string S,.string T],.int .i64 1] w (gX w K N):=by
 have hb0:Below w.heap.size w (w.alloc (.cells #[.int .i64 1,.int .i64 A,.string S,.string T] 43)):=(Below.refl _ _).alloc (Nat.le_refl _) _
 have hK0:aU (w.alloc (.cells #[.int .i64 1,.int .i64 A,.string S,.string T] 43)) w.heap.size 43 [.int .i64 1,.int .i64 A,.string S,.string T]:=heap_alloc_new w _
 have h0:=h.below hb0
 have xK:=h.h.lt
 obtain⟨w0,hw0⟩:∃ w0,w.alloc (.cells #[.int .i64 1,.int .i64 A,.string S,.string T] 43)=w0:=⟨_,rfl⟩
 rw[hw0] at hb0 hK0 h0
 have k0:w0.cell? ⟨w.heap.size,0,none⟩=some (.int .i64 1):=hK0.cell 0
 have k1:w0.cell? ⟨w.heap.size,1,none⟩=some (.int .i64 A):=hK0.cell 1
 have k2:w0.cell? ⟨w.heap.size,2,none⟩=some (.string S):=hK0.cell 2
 have QD:w0.cell? ⟨K.H,7,none⟩=some (.int .i64 G.s.last):=h0.h.cell 7
 have Jp:w0.cell? ⟨K.H,9,none⟩=some (.bool G.s.up):=h0.h.cell 9
 have hcp:w0.cell? ⟨K.H,4,none⟩=some (.pointer (some ⟨K.cs,0,none⟩)):=h0.h.cell 4
 have hlow:K.lo≤w.heap.size:=by have:=h.wd.bH;omega
 have HI:=hid h0
 have HB0:=hid (hb0.mono hlow)
 have rE:=hid hK0
 clear h0 hK0 h
 have HI2:=hid (HI.out.below (Below.refl _ _).drew.drew)
 cases hup:G.s.up
 all_goals
  rw[hup] at Jp
  go_enter func12,ntmps12
  go_wp2_with fail
  go_region
  all_goals
   go_wp2_with fail
   go_region_with (go_at_call 27;refine(agu HI2.out.wd.s (HI2.out.wd.y.cell 0) A).mono ?_;rintro e w1 ⟨z,rfl,hP⟩;have HP:=hid hP;clear hP)
   all_goals
    obtain⟨g',oV,eF,hSt,hA⟩:=HP.out
    have HW:=hid (HI2.out.wd.srv oV eF hSt (by rcases hA with⟨_,_,_,rfl⟩ | ⟨_,_,q,m,L,rfl⟩<;>exact HI2.out.wd.fin) (by rcases hA with⟨_,_,_,rfl⟩ | ⟨_,_,q,m,L,rfl⟩<;>exact HI2.out.wd.tu) (by rcases hA with⟨_,_,_,rfl⟩ | ⟨_,_,q,m,L,rfl⟩<;>exact HI2.out.wd.tr) (by rcases hA with⟨_,_,_,rfl⟩ | ⟨_,_,q,m,L,rfl⟩<;>exact HI2.out.wd.tl) (by rcases hA with⟨_,_,_,rfl⟩ | ⟨_,_,q,m,L,rfl⟩<;>exact HI2.out.wd.sn))
    have hK1:=aU.only (w:=w0.drew.drew) rE.out eF HI2.out.wd.s.only (by decide)
    have qV:=hid hK1
    have j1:w1.cell? ⟨w.heap.size,1,none⟩=some (.int .i64 A):=hK1.cell 1
    have hH1:=HW.out.2.1 _ HI2.out.h
    have i12:w1.cell? ⟨K.H,13,none⟩=some (.bool G.s.had):=hH1.cell 13
    have i10:w1.cell? ⟨K.H,11,none⟩=some (.int .i64 G.s.last):=hH1.cell 11
    have Nc:=hid hH1
    have HA:=hid hA
    clear oV eF hSt hA hK1 hH1 HP
    rcases HA.out with⟨hh,hle,rfl,rfl⟩ | ⟨hno,rfl,q,m,L,rfl⟩
    ·rw[hh] at i12
     have hd:decide (G.s.last<A)=false:=by simp;omega
     go_wp2_with fail
     go_region
     all_goals
      go_wp2_with fail
      go_ret
      exact⟨rfl,⟨_,(Inv.mk HW.out.1 Nc.out |>.below (Below.refl _ _).drew).wd.more hn,(Nc.out.below (Below.refl _ _).drew)⟩,(HB0.out.trans (Below.mono (Below.refl _ _).drew.drew (by have:=HB0.out.size;omega))).trans (HW.out.2.2.drew)⟩
    ·have HHB:=hid (show aU w1.drew K.H 33 (nJ K G) from Nc.out)
     have Y2:=hid (show Wd w1.drew K N _ from HW.out.1.below (Below.refl _ _).drew)
     have WB:=hid (show Below K.lo w w1.drew from((HB0.out.trans (Below.mono (Below.refl _ _).drew.drew (by have:=HB0.out.size;omega))).trans HW.out.2.2).drew)
     have j1d:w1.drew.cell? ⟨w.heap.size,1,none⟩=some (.int .i64 A):=qV.out.cell 1
     have HKB:=hid (show aU w1.drew w.heap.size 43 _ from qV.out)
     have hno':G.s.had=true→G.s.last<A:=fun e=>by
      exact Decidable.byContradiction (fun h=>hno ⟨e,by omega⟩)
     clear hno
     cases Xb:G.s.had
     all_goals
      rw[Xb] at i12
      try (have hlast:=hno' Xb)
      clear hno'
      go_wp2_with fail
      go_region
      all_goals
       generalize w1.drew=w2 at *
       have hB2:=HHB.out
       have e12:w2.cell? ⟨K.H,13,none⟩=some (.bool G.s.had):=hB2.cell 13
       have f12:=hB2.frozen 13
       have hB3:=hB2.set 13 (.bool true)
       have hc3:aN (fun i=>i=K.H) w2 (w2.setCell ⟨K.H,13,none⟩ (.bool true)):=(aN.refl _ _).setCell _ _ (fun _=>rfl)
       obtain⟨w3,hw3⟩:∃ w3,w2.setCell ⟨K.H,13,none⟩ (.bool true)=w3:=⟨_,rfl⟩
       rw[hw3] at hB3 hc3
       have hne:w.heap.size≠K.H:=by omega
       have j3:w3.cell? ⟨w.heap.size,1,none⟩=some (.int .i64 A):=(HKB.out.fZ hc3 hne).cell 1
       have e10:w3.cell? ⟨K.H,11,none⟩=some (.int .i64 G.s.last):=hB3.cell 11
       have f10:=hB3.frozen 11
       have hB4:aU (w3.setCell ⟨K.H,11,none⟩ (.int .i64 A)).drew K.H 33 _:=hB3.set 11 (.int .i64 A)
       have hc4:aN (fun i=>i=K.H) w2 (w3.setCell ⟨K.H,11,none⟩ (.int .i64 A)).drew:=(hc3.setCell _ _ (fun _=>rfl)).drew
       have HB4:=hid hB4
       have uo:=hid hc4
       clear hB3 hB4 hB2 hc3 hc4
       go_wp2_with fail
       go_region
       all_goals
        generalize (w3.setCell ⟨K.H,11,none⟩ (.int .i64 A)).drew=w4 at *
        have hB4:=HB4.out
        have j4:w4.cell? ⟨w.heap.size,1,none⟩=some (.int .i64 A):=(HKB.out.fZ uo.out hne).cell 1
        have e6:w4.cell? ⟨K.H,7,none⟩=some (.int .i64 G.s.last):=hB4.cell 7
        have f6:=hB4.frozen 7
        have BI:aU (w4.setCell ⟨K.H,7,none⟩ (.int .i64 A)).drew K.H 33 _:=hB4.set 7 (.int .i64 A)
        have jM:=hid BI
        have jW:=hid (show aN (fun i=>i=K.H) w2 (w4.setCell ⟨K.H,7,none⟩ (.int .i64 A)).drew from(uo.out.setCell _ _ (fun _=>rfl)).drew)
        clear hB4 BI
        go_wp2_with fail
        go_region
        all_goals
         generalize (w4.setCell ⟨K.H,7,none⟩ (.int .i64 A)).drew=w5 at *
         have BI:=jM.out
         have e8:w5.cell? ⟨K.H,9,none⟩=some (.bool G.s.up):=BI.cell 9
         have f8:=BI.frozen 9
         have xJ:=hid (BI.set 9 (.bool true))
         have Ej:=hid (jW.out.setCell ⟨K.H,9,none⟩ (.bool true) (fun _=>rfl))
         clear BI
         go_wp2_with fail
         go_ret
         have hfin:=Y2.out.oL HHB.out Ej.out
         exact⟨rfl,⟨_,hfin.1.more hn,xJ.out⟩,WB.out.trans hfin.2⟩
end Go.Proofs.YtgalebcpagmohaaGreatDoor
