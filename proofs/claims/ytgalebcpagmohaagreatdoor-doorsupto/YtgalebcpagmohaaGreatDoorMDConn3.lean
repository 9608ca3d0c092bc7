/- courierlaw: House.conn at Down. -/
import Derived.Test.YtgalebcpagmohaaGreatDoorMDHouse
import Derived.Test.YtgalebcpagmohaaGreatDoorMFrA
set_option linter.unusedSimpArgs false
set_option linter.unusedVariables false
set_option maxHeartbeats 8000000
set_option maxRecDepth 100000
namespace Go.Proofs.YtgalebcpagmohaaGreatDoor
open Go.Proofs.Tryz
open Go.RowKit Go.Conc
theorem PE (w:World) (K:HK) (N:Nat) (G:HG) (h:Inv w K N G) (hn:N+1≤100000000) (A:Int) (S T:ByteArray) :
  Calls Tryz.prog 12 #[.pointer (some ⟨K.H,0,none⟩),.agg #[.int .i64 2,.int .i64 A,.string S,.string T],.int .i64 0] w (gX w K N):=by
 have hb0:Below w.heap.size w (w.alloc (.cells #[.int .i64 2,.int .i64 A,.string S,.string T] 43)):=(Below.refl _ _).alloc (Nat.le_refl _) _
 have hK0:aU (w.alloc (.cells #[.int .i64 2,.int .i64 A,.string S,.string T] 43)) w.heap.size 43 [.int .i64 2,.int .i64 A,.string S,.string T]:=heap_alloc_new w _
 have h0:=h.below hb0
 have xK:=h.h.lt
 obtain⟨w0,hw0⟩:∃ w0,w.alloc (.cells #[.int .i64 2,.int .i64 A,.string S,.string T] 43)=w0:=⟨_,rfl⟩
 rw[hw0] at hb0 hK0 h0
 have k0:w0.cell? ⟨w.heap.size,0,none⟩=some (.int .i64 2):=hK0.cell 0
 have k1:w0.cell? ⟨w.heap.size,1,none⟩=some (.int .i64 A):=hK0.cell 1
 have k2:w0.cell? ⟨w.heap.size,2,none⟩=some (.string S):=hK0.cell 2
 have hc6:w0.cell? ⟨K.H,6,none⟩=some (.int .i64 G.c.last):=h0.h.cell 6
 have hc8:w0.cell? ⟨K.H,8,none⟩=some (.bool G.c.up):=h0.h.cell 8
 have hcp:w0.cell? ⟨K.H,5,none⟩=some (.pointer (some ⟨K.cx,0,none⟩)):=h0.h.cell 5
 have hlow:K.lo≤w.heap.size:=by have:=h.wd.bH;omega
 have HI:=hid h0
 have HB0:=hid (hb0.mono hlow)
 have rE:=hid hK0
 clear h0 hK0 h
 have HI2:=hid (HI.out.below (Below.refl _ _).drew.drew)
 have hbe:(G.c.last==A)=decide (A=G.c.last):=by rw[Bool.eq_iff_iff];simp;omega
 have Si:=hid hbe
 clear hbe
 cases hup:G.c.up
 all_goals
  rw[hup] at hc8
  cases hdA:(G.c.last==A)
  all_goals
   have Y3:=hid (show (G.c.up&&decide (A=G.c.last))=_ by rw[hup,← Si.out,hdA]<;>rfl)
   go_enter func12,ntmps12
   go_wp2_with fail
   go_region
   all_goals
    go_wp2_with fail
    go_region_with (go_at_call 28;refine(aaU HI2.out.wd.c (HI2.out.wd.x.cell 0) A).mono ?_;rintro e w1 ⟨z,rfl,hP⟩;have HP:=hid hP;clear hP)
    all_goals
     obtain⟨g',oV,eF,hSt,hA⟩:=HP.out
     have HW:=hid (HI2.out.wd.cli oV eF hSt (by rcases hA with⟨_,_,rfl⟩ | ⟨_,_,q,m,L,rfl⟩<;>exact HI2.out.wd.sl))
     have hH1:=HW.out.2.1 _ HI2.out.h
     have Nc:=hid hH1
     have HA:=hid hA
     have WB:=hid (show Below K.lo w w1 from(HB0.out.trans (Below.mono (Below.refl _ _).drew.drew (by have:=HB0.out.size;omega))).trans HW.out.2.2)
     have e8:w1.cell? ⟨K.H,8,none⟩=some (.bool G.c.up):=hH1.cell 8
     have f8:=hH1.frozen 8
     clear oV eF hSt hA hH1 HP
     rcases HA.out with⟨hu,rfl,rfl⟩ | ⟨hu,rfl,q,m,L,rfl⟩
     ·first
      | (rw[Y3.out] at hu;cases hu;done)
      |
       (clear hu;go_wp2_with fail;go_ret;exact⟨rfl,⟨_,HW.out.1.more hn,Nc.out⟩,WB.out⟩)
     ·first
      | (rw[Y3.out] at hu;cases hu;done)
      |
       (clear hu;have xJ:=hid (Nc.out.set 8 (.bool false));have Ej:=hid (show aN (fun i=>i=K.H) w1 _ from(aN.refl _ w1).setCell ⟨K.H,8,none⟩ (.bool false) (fun _=>rfl));go_wp2_with fail;go_ret;have hfin:=HW.out.1.oL Nc.out Ej.out;exact⟨rfl,⟨_,hfin.1.more hn,xJ.out⟩,WB.out.trans hfin.2⟩)
theorem PG (w:World) (K:HK) (N:Nat) (G:HG) (h:Inv w K N G) (hn:N+1≤100000000) (A:Int) (S T:ByteArray) :
  Calls Tryz.prog 12 #[.pointer (some ⟨K.H,0,none⟩),.agg #[.int .i64 2,.int .i64 A,.string S,.string T],.int .i64 1] w (gX w K N):=by
 have hb0:Below w.heap.size w (w.alloc (.cells #[.int .i64 2,.int .i64 A,.string S,.string T] 43)):=(Below.refl _ _).alloc (Nat.le_refl _) _
 have hK0:aU (w.alloc (.cells #[.int .i64 2,.int .i64 A,.string S,.string T] 43)) w.heap.size 43 [.int .i64 2,.int .i64 A,.string S,.string T]:=heap_alloc_new w _
 have h0:=h.below hb0
 have xK:=h.h.lt
 obtain⟨w0,hw0⟩:∃ w0,w.alloc (.cells #[.int .i64 2,.int .i64 A,.string S,.string T] 43)=w0:=⟨_,rfl⟩
 rw[hw0] at hb0 hK0 h0
 have k0:w0.cell? ⟨w.heap.size,0,none⟩=some (.int .i64 2):=hK0.cell 0
 have k1:w0.cell? ⟨w.heap.size,1,none⟩=some (.int .i64 A):=hK0.cell 1
 have k2:w0.cell? ⟨w.heap.size,2,none⟩=some (.string S):=hK0.cell 2
 have QD:w0.cell? ⟨K.H,7,none⟩=some (.int .i64 G.s.last):=h0.h.cell 7
 have Jp:w0.cell? ⟨K.H,9,none⟩=some (.bool G.s.up):=h0.h.cell 9
 have hcp:w0.cell? ⟨K.H,4,none⟩=some (.pointer (some ⟨K.cs,0,none⟩)):=h0.h.cell 4
 have hlow:K.lo≤w.heap.size:=by have:=h.wd.bH;omega
 have HI:=hid h0
 have HB0:=hid (hb0.mono hlow)
 have rE:=hid hK0
 clear h0 hK0 h
 have HI2:=hid (HI.out.below (Below.refl _ _).drew.drew)
 have hbe:(G.s.last==A)=decide (A=G.s.last):=by rw[Bool.eq_iff_iff];simp;omega
 have Si:=hid hbe
 clear hbe
 cases hup:G.s.up
 all_goals
  rw[hup] at Jp
  cases hdA:(G.s.last==A)
  all_goals
   have Y3:=hid (show (G.s.up&&decide (A=G.s.last))=_ by rw[hup,← Si.out,hdA]<;>rfl)
   go_enter func12,ntmps12
   go_wp2_with fail
   go_region
   all_goals
    go_wp2_with fail
    go_region_with (go_at_call 29;refine(aa0 HI2.out.wd.s (HI2.out.wd.y.cell 0) A).mono ?_;rintro e w1 ⟨z,rfl,hP⟩;have HP:=hid hP;clear hP)
    all_goals
     obtain⟨g',oV,eF,hSt,hA⟩:=HP.out
     have HW:=hid (HI2.out.wd.srv oV eF hSt (by rcases hA with⟨_,_,rfl⟩ | ⟨_,_,q,m,L,rfl⟩<;>exact HI2.out.wd.fin) (by rcases hA with⟨_,_,rfl⟩ | ⟨_,_,q,m,L,rfl⟩<;>exact HI2.out.wd.tu) (by rcases hA with⟨_,_,rfl⟩ | ⟨_,_,q,m,L,rfl⟩<;>exact HI2.out.wd.tr) (by rcases hA with⟨_,_,rfl⟩ | ⟨_,_,q,m,L,rfl⟩<;>exact HI2.out.wd.tl) (by rcases hA with⟨_,_,rfl⟩ | ⟨_,_,q,m,L,rfl⟩<;>exact HI2.out.wd.sn))
     have hH1:=HW.out.2.1 _ HI2.out.h
     have Nc:=hid hH1
     have HA:=hid hA
     have WB:=hid (show Below K.lo w w1 from(HB0.out.trans (Below.mono (Below.refl _ _).drew.drew (by have:=HB0.out.size;omega))).trans HW.out.2.2)
     have e8:w1.cell? ⟨K.H,9,none⟩=some (.bool G.s.up):=hH1.cell 9
     have f8:=hH1.frozen 9
     clear oV eF hSt hA hH1 HP
     rcases HA.out with⟨hu,rfl,rfl⟩ | ⟨hu,rfl,q,m,L,rfl⟩
     ·first
      | (rw[Y3.out] at hu;cases hu;done)
      |
       (clear hu;go_wp2_with fail;go_ret;exact⟨rfl,⟨_,HW.out.1.more hn,Nc.out⟩,WB.out⟩)
     ·first
      | (rw[Y3.out] at hu;cases hu;done)
      |
       (clear hu;have xJ:=hid (Nc.out.set 9 (.bool false));have Ej:=hid (show aN (fun i=>i=K.H) w1 _ from(aN.refl _ w1).setCell ⟨K.H,9,none⟩ (.bool false) (fun _=>rfl));go_wp2_with fail;go_ret;have hfin:=HW.out.1.oL Nc.out Ej.out;exact⟨rfl,⟨_,hfin.1.more hn,xJ.out⟩,WB.out.trans hfin.2⟩)
theorem Hg (S:ByteArray):(ByteArray.mk #[0]++S).toList=0::S.toList:=by rw[ByteArray.toList_eq,ByteArray.toList_eq];simp
theorem PI (w:World) (K:HK) (N:Nat) (G:HG) (h:Inv w K N G) (hn:N+1≤100000000) (A:Int) (S T:ByteArray) (hS:S.size≤1900000) :
  Calls Tryz.prog 12 #[.pointer (some ⟨K.H,0,none⟩),.agg #[.int .i64 3,.int .i64 A,.string S,.string T],.int .i64 0] w (gX w K N):=by
 have jK:=hid h
 have hb0:Below w.heap.size w (w.alloc (.cells #[.int .i64 3,.int .i64 A,.string S,.string T] 43)):=(Below.refl _ _).alloc (Nat.le_refl _) _
 have hK0:aU (w.alloc (.cells #[.int .i64 3,.int .i64 A,.string S,.string T] 43)) w.heap.size 43 [.int .i64 3,.int .i64 A,.string S,.string T]:=heap_alloc_new w _
 have h0:=h.below hb0
 have xK:=h.h.lt
 obtain⟨w0,hw0⟩:∃ w0,w.alloc (.cells #[.int .i64 3,.int .i64 A,.string S,.string T] 43)=w0:=⟨_,rfl⟩
 rw[hw0] at hb0 hK0 h0
 have k0:w0.cell? ⟨w.heap.size,0,none⟩=some (.int .i64 3):=hK0.cell 0
 have k1:w0.cell? ⟨w.heap.size,1,none⟩=some (.int .i64 A):=hK0.cell 1
 have k2:w0.cell? ⟨w.heap.size,2,none⟩=some (.string S):=hK0.cell 2
 have hc6:w0.cell? ⟨K.H,6,none⟩=some (.int .i64 G.c.last):=h0.h.cell 6
 have hc8:w0.cell? ⟨K.H,8,none⟩=some (.bool G.c.up):=h0.h.cell 8
 have hcp:w0.cell? ⟨K.H,5,none⟩=some (.pointer (some ⟨K.cx,0,none⟩)):=h0.h.cell 5
 have hlow:K.lo≤w.heap.size:=by have:=h.wd.bH;omega
 have HI:=hid h0
 have HB0:=hid (hb0.mono hlow)
 have rE:=hid hK0
 clear h0 hK0 h
 have Y4:=hid (show Below w.heap.size w w0 by rw[← hw0];exact(Below.refl _ _).alloc (Nat.le_refl _) _)
 have hbe:(G.c.last==A)=decide (A=G.c.last):=by rw[Bool.eq_iff_iff];simp;omega
 have Si:=hid hbe
 have hzs:(ByteArray.mk #[0]++S).size=1+S.size:=by simp[ByteArray.size_append];rfl
 have HZS:=hid hzs
 have HUN:=hid (show iO bK (ByteArray.mk #[0]++S).toList=none by rw[Hg];exact Aa _)
 have hsl:(ByteArray.mk #[0]++S).toList.length=(ByteArray.mk #[0]++S).size:=by rw[ByteArray.toList_eq];rfl
 have HSL:=hid hsl
 have HLN:=hid (show (ByteArray.mk #[0]++S).toList.length≤2000000 by omega)
 clear hbe hzs hsl
 obtain⟨ub,hub⟩:∃ ub,G.c.up=ub:=⟨_,rfl⟩
 obtain⟨db,hdb⟩:∃ db,decide (A=G.c.last)=db:=⟨_,rfl⟩
 have Y3:=hid (show (G.c.up&&decide (A=G.c.last))=(ub&&db) by rw[hub,hdb])
 have hdA:(G.c.last==A)=db:=Si.out.trans hdb
 rw[hub] at hc8
 clear hub hdb
 cases ub
 all_goals
  cases db
  all_goals
   go_enter func12,ntmps12
   go_wp2_with fail
   go_region
   all_goals
    go_wp2_with fail
    refine(JK w0.drew (ByteArray.mk #[0]++S) (by rw[HZS.out];omega)).mono ?_;rintro e w1 ⟨v,rfl,hWd,hb1⟩
    have iV:Below w.heap.size w w1:=Y4.out.trans ((Below.mono (Below.refl _ w0).drew Y4.out.size).trans (hb1.mono Y4.out.size))
    have JZ:=hid iV
    have Y2:=hid hWd
    obtain⟨gq,cq,rfl,hBy⟩:=hWd
    have hcap:=(mV hBy).1
    rw[List.length_append,List.length_singleton] at hcap
    have hcap':(ByteArray.mk #[0]++S).toList.length≤cq:=by omega
    have hgl:=(hBy.lt gq rfl).1
    have I1:=hid (jK.out.below iV)
    have m5:w1.cell? ⟨K.H,5,none⟩=some (.pointer (some ⟨K.cx,0,none⟩)):=I1.out.h.cell 5
    have Xd:=hid (rE.out.below (show Below w0.heap.size w0 w1 from(Below.refl _ w0).drew.trans hb1))
    have n1:w1.cell? ⟨w.heap.size,1,none⟩=some (.int .i64 A):=Xd.out.cell 1
    have HCP:=hid hcap'
    have Xe:w0.heap.size≤gq:=hgl
    have HGL:=hid Xe
    clear hBy hcap hcap' iV hgl Xe
    go_wp2_with fail
    go_region_with (go_at_call 31;refine(Tz (w:=w1.drew) (I1.out.below (Below.refl _ _).drew).wd.c ((I1.out.below (Below.refl _ _).drew).wd.x.cell 0) A (some ⟨gq,0,none⟩) cq (ByteArray.mk #[0]++S).toList (show Rd w1.drew _ _ from Y2.out.rd) HLN.out HCP.out HUN.out).mono ?_;rintro e w2 ⟨z,rfl,hz,hb2⟩;have HZ:=hid hz;clear hz)
    all_goals
     have hz:=HZ.out
     rw[Y3.out] at hz
     have hbB:Below w1.heap.size w1 w2:=(Below.refl _ w1).drew.trans hb2
     have I2:=hid (jK.out.below (JZ.out.trans (hbB.mono JZ.out.size)))
     have HKw2:=hid (Xd.out.below hbB)
     have n2:w2.cell? ⟨w.heap.size,2,none⟩=some (.string S):=HKw2.out.cell 2
     have abh:=hid (show Ib w2 w0.heap.size _ (ByteArray.mk #[0]++S).toList from by
      obtain⟨g',c',hv',hB'⟩:=Y2.out
      exact⟨g',c',hv',hB'.same hbB⟩)
     simp only[cond_true,cond_false,Bool.and_true,Bool.and_false,Bool.true_and,Bool.false_and] at hz
     subst hz
     go_wp2_with fail
     refine(FT w2 w0.heap.size _ (ByteArray.mk #[0]++S) abh.out (by rw[HZS.out];omega)).mono ?_;rintro e w3 ⟨rfl,hT⟩
     have hbC:Below w0.heap.size w2 w3:=⟨hT.os,hT.tape,hT.output,hT.size,fun q hq=>hT.block q (by have:=hbB.size;have:=JZ.out.size;have:=hb1.size;have:w0.heap.size≤w1.heap.size:=this;omega) (fun e=>by have:=HGL.out;simp[Value.ownBlock] at e;omega)⟩
     have hbD:Below w.heap.size w w3:=(JZ.out.trans (hbB.mono JZ.out.size)).trans (hbC.mono Y4.out.size)
     have HbD:=hid hbD
     clear hT hbC hbD
     go_wp2_with fail
     go_ret
     exact⟨rfl,⟨G,(jK.out.below HbD.out).wd.more hn,(jK.out.below HbD.out).h⟩,HbD.out.mono hlow⟩
theorem PK (w:World) (K:HK) (N:Nat) (G:HG) (h:Inv w K N G) (hn:N+1≤100000000) (A:Int) (S T:ByteArray) (hS:S.size≤1900000) :
  Calls Tryz.prog 12 #[.pointer (some ⟨K.H,0,none⟩),.agg #[.int .i64 3,.int .i64 A,.string S,.string T],.int .i64 1] w (gX w K N):=by
 have jK:=hid h
 have hb0:Below w.heap.size w (w.alloc (.cells #[.int .i64 3,.int .i64 A,.string S,.string T] 43)):=(Below.refl _ _).alloc (Nat.le_refl _) _
 have hK0:aU (w.alloc (.cells #[.int .i64 3,.int .i64 A,.string S,.string T] 43)) w.heap.size 43 [.int .i64 3,.int .i64 A,.string S,.string T]:=heap_alloc_new w _
 have h0:=h.below hb0
 have xK:=h.h.lt
 obtain⟨w0,hw0⟩:∃ w0,w.alloc (.cells #[.int .i64 3,.int .i64 A,.string S,.string T] 43)=w0:=⟨_,rfl⟩
 rw[hw0] at hb0 hK0 h0
 have k0:w0.cell? ⟨w.heap.size,0,none⟩=some (.int .i64 3):=hK0.cell 0
 have k1:w0.cell? ⟨w.heap.size,1,none⟩=some (.int .i64 A):=hK0.cell 1
 have k2:w0.cell? ⟨w.heap.size,2,none⟩=some (.string S):=hK0.cell 2
 have QD:w0.cell? ⟨K.H,7,none⟩=some (.int .i64 G.s.last):=h0.h.cell 7
 have Jp:w0.cell? ⟨K.H,9,none⟩=some (.bool G.s.up):=h0.h.cell 9
 have hcp:w0.cell? ⟨K.H,4,none⟩=some (.pointer (some ⟨K.cs,0,none⟩)):=h0.h.cell 4
 have hlow:K.lo≤w.heap.size:=by have:=h.wd.bH;omega
 have HI:=hid h0
 have HB0:=hid (hb0.mono hlow)
 have rE:=hid hK0
 clear h0 hK0 h
 have Y4:=hid (show Below w.heap.size w w0 by rw[← hw0];exact(Below.refl _ _).alloc (Nat.le_refl _) _)
 have hbe:(G.s.last==A)=decide (A=G.s.last):=by rw[Bool.eq_iff_iff];simp;omega
 have Si:=hid hbe
 have hzs:(ByteArray.mk #[0]++S).size=1+S.size:=by simp[ByteArray.size_append];rfl
 have HZS:=hid hzs
 have HUN:=hid (show iO bK (ByteArray.mk #[0]++S).toList=none by rw[Hg];exact Aa _)
 have hsl:(ByteArray.mk #[0]++S).toList.length=(ByteArray.mk #[0]++S).size:=by rw[ByteArray.toList_eq];rfl
 have HSL:=hid hsl
 have HLN:=hid (show (ByteArray.mk #[0]++S).toList.length≤2000000 by omega)
 clear hbe hzs hsl
 obtain⟨ub,hub⟩:∃ ub,G.s.up=ub:=⟨_,rfl⟩
 obtain⟨db,hdb⟩:∃ db,decide (A=G.s.last)=db:=⟨_,rfl⟩
 have Y3:=hid (show (G.s.up&&decide (A=G.s.last))=(ub&&db) by rw[hub,hdb])
 have hdA:(G.s.last==A)=db:=Si.out.trans hdb
 rw[hub] at Jp
 clear hub hdb
 cases ub
 all_goals
  cases db
  all_goals
   go_enter func12,ntmps12
   go_wp2_with fail
   go_region
   all_goals
    go_wp2_with fail
    refine(JK w0.drew (ByteArray.mk #[0]++S) (by rw[HZS.out];omega)).mono ?_;rintro e w1 ⟨v,rfl,hWd,hb1⟩
    have iV:Below w.heap.size w w1:=Y4.out.trans ((Below.mono (Below.refl _ w0).drew Y4.out.size).trans (hb1.mono Y4.out.size))
    have JZ:=hid iV
    have Y2:=hid hWd
    obtain⟨gq,cq,rfl,hBy⟩:=hWd
    have hcap:=(mV hBy).1
    rw[List.length_append,List.length_singleton] at hcap
    have hcap':(ByteArray.mk #[0]++S).toList.length≤cq:=by omega
    have hgl:=(hBy.lt gq rfl).1
    have I1:=hid (jK.out.below iV)
    have m4:w1.cell? ⟨K.H,4,none⟩=some (.pointer (some ⟨K.cs,0,none⟩)):=I1.out.h.cell 4
    have Xd:=hid (rE.out.below (show Below w0.heap.size w0 w1 from(Below.refl _ w0).drew.trans hb1))
    have n1:w1.cell? ⟨w.heap.size,1,none⟩=some (.int .i64 A):=Xd.out.cell 1
    have HCP:=hid hcap'
    have Xe:w0.heap.size≤gq:=hgl
    have HGL:=hid Xe
    clear hBy hcap hcap' iV hgl Xe
    go_wp2_with fail
    go_region_with (go_at_call 32;refine(TK (w:=w1.drew) (I1.out.below (Below.refl _ _).drew).wd.s ((I1.out.below (Below.refl _ _).drew).wd.y.cell 0) A (some ⟨gq,0,none⟩) cq (ByteArray.mk #[0]++S).toList (show Rd w1.drew _ _ from Y2.out.rd) HLN.out HCP.out HUN.out).mono ?_;rintro e w2 ⟨z,rfl,hz,hb2⟩;have HZ:=hid hz;clear hz)
    all_goals
     have hz:=HZ.out
     rw[Y3.out] at hz
     have hbB:Below w1.heap.size w1 w2:=(Below.refl _ w1).drew.trans hb2
     have I2:=hid (jK.out.below (JZ.out.trans (hbB.mono JZ.out.size)))
     have HKw2:=hid (Xd.out.below hbB)
     have n2:w2.cell? ⟨w.heap.size,2,none⟩=some (.string S):=HKw2.out.cell 2
     have abh:=hid (show Ib w2 w0.heap.size _ (ByteArray.mk #[0]++S).toList from by
      obtain⟨g',c',hv',hB'⟩:=Y2.out
      exact⟨g',c',hv',hB'.same hbB⟩)
     simp only[cond_true,cond_false,Bool.and_true,Bool.and_false,Bool.true_and,Bool.false_and] at hz
     subst hz
     go_wp2_with fail
     refine(FT w2 w0.heap.size _ (ByteArray.mk #[0]++S) abh.out (by rw[HZS.out];omega)).mono ?_;rintro e w3 ⟨rfl,hT⟩
     have hbC:Below w0.heap.size w2 w3:=⟨hT.os,hT.tape,hT.output,hT.size,fun q hq=>hT.block q (by have:=hbB.size;have:=JZ.out.size;have:=hb1.size;have:w0.heap.size≤w1.heap.size:=this;omega) (fun e=>by have:=HGL.out;simp[Value.ownBlock] at e;omega)⟩
     have hbD:Below w.heap.size w w3:=(JZ.out.trans (hbB.mono JZ.out.size)).trans (hbC.mono Y4.out.size)
     have HbD:=hid hbD
     clear hT hbC hbD
     go_wp2_with fail
     go_ret
     exact⟨rfl,⟨G,(jK.out.below HbD.out).wd.more hn,(jK.out.below HbD.out).h⟩,HbD.out.mono hlow⟩
end Go.Proofs.YtgalebcpagmohaaGreatDoor
