/- courierlaw: House.server: Next, Reply, Restart. -/
import Derived.Test.YtgalebcpagmohaaGreatDoorMDHouse
set_option linter.unusedSimpArgs false
set_option linter.unusedVariables false
set_option maxHeartbeats 8000000
set_option maxRecDepth 100000
namespace Go.Proofs.YtgalebcpagmohaaGreatDoor
open Go.Proofs.Tryz
open Go.RowKit Go.Conc
theorem Bf (w:World) (K:HK) (N:Nat) (G:HG) (h:Inv w K N G) (hn:N+1≤100000000) (A:Int) (S T:ByteArray) :
  Calls Tryz.prog 16 #[.pointer (some ⟨K.H,0,none⟩),.agg #[.int .i64 10,.int .i64 A,.string S,.string T]] w (gX w K N):=by
 have hb0:Below w.heap.size w (w.alloc (.cells #[.int .i64 10,.int .i64 A,.string S,.string T] 43)):=(Below.refl _ _).alloc (Nat.le_refl _) _
 have hK0:aU (w.alloc (.cells #[.int .i64 10,.int .i64 A,.string S,.string T] 43)) w.heap.size 43 [.int .i64 10,.int .i64 A,.string S,.string T]:=heap_alloc_new w _
 have h0:=h.below hb0
 have xK:=h.h.lt
 have hlow:K.lo≤w.heap.size:=by have:=h.wd.bH;omega
 have jK:=hid h
 obtain⟨w0,hw0⟩:∃ w0,w.alloc (.cells #[.int .i64 10,.int .i64 A,.string S,.string T] 43)=w0:=⟨_,rfl⟩
 rw[hw0] at hb0 hK0 h0
 have k0:w0.cell? ⟨w.heap.size,0,none⟩=some (.int .i64 10):=hK0.cell 0
 have k2:w0.cell? ⟨w.heap.size,2,none⟩=some (.string S):=hK0.cell 2
 have s0:w0.cell? ⟨K.H,0,none⟩=some (.string K.schema):=h0.h.cell 0
 have rE:=hid hK0
 have Hb0:=hid hb0
 have HKB:=hid (show ∀ w',Below w0.heap.size w0 w'→w'.cell? ⟨K.H,0,none⟩=some (.string K.schema)∧w'.cell? ⟨w.heap.size,2,none⟩=some (.string S) from fun w' hw'=>⟨(h0.h.below hw').cell 0,(rE.out.below hw').cell 2⟩)
 have zV:=hid ((lV (s:=K.schema) (kind:=ByteArray.mk #[115,116,114,101,97,109]) (name:=S) (X:=G.s.X) w0.drew jK.out.wd.ps (Or.inl ⟨mJ,rfl⟩) jK.out.wd.px).mono (R':=fun e w'=>∃ (a:Option Addr) (n c:Nat),e=.returned (.slice a n c)∧Below w0.heap.size w0 w'∧BQ G.s.X 2 S w0.drew w' a n c) (fun e w' h=>by
  obtain⟨a,n,c,he,hb,hq⟩:=h
  exact⟨a,n,c,he,(Below.refl _ w0).drew.trans hb,hq⟩))
 clear h0 hK0 hb0 h
 go_enter func16,ntmps16
 go_wp2_with fail
 go_region_held3 (fun w'=>w'.cell? ⟨K.H,0,none⟩=some (.string K.schema)∧w'.cell? ⟨w.heap.size,2,none⟩=some (.string S))
  (exact HKB.out _ (by repeat (first | with_reducible assumption | with_reducible exact Below.refl _ _ | with_reducible apply Below.drew)))
  (first | (go_at_call 41;refine zV.out.mono ?_;rintro e w1 ⟨ba,bn,bc,rfl,iV,Ho⟩))
 all_goals
  have KX:=hid Ho
  clear Ho
  have kX:Below w.heap.size w w1:=Hb0.out.trans (iV.mono Hb0.out.size)
  have qV:=hid (rE.out.below iV)
  have I1:=hid (jK.out.below kX)
  have m0:w1.cell? ⟨w.heap.size,0,none⟩=some (.int .i64 10):=qV.out.cell 0
  have m1:w1.cell? ⟨w.heap.size,1,none⟩=some (.int .i64 A):=qV.out.cell 1
  have m2:w1.cell? ⟨w.heap.size,2,none⟩=some (.string S):=qV.out.cell 2
  have m3:w1.cell? ⟨w.heap.size,3,none⟩=some (.string T):=qV.out.cell 3
  have m4:w1.cell? ⟨K.H,4,none⟩=some (.pointer (some ⟨K.cs,0,none⟩)):=I1.out.h.cell 4
  have mO:=hid kX
  clear iV kX
  go_wp2_with fail
  refine(TL I1.out.wd.s (I1.out.wd.y.cell 0)).mono ?_;rintro e w2 ⟨rfl,g',oV,eF,hSt,q,m,L,rfl⟩
  have HW:=hid ((I1.out.wd.more hn).srv oV eF hSt I1.out.wd.fin I1.out.wd.tu I1.out.wd.tr I1.out.wd.tl (I1.out.wd.more hn).sn)
  have HH:=hid (HW.out.2.1 _ I1.out.h)
  clear oV eF hSt
  go_wp2_with fail
  go_ret
  exact⟨rfl,⟨_,HW.out.1,HH.out⟩,(mO.out.mono hlow).trans HW.out.2.2⟩
theorem Nb (w:World) (K:HK) (N:Nat) (G:HG) (h:Inv w K N G) (hn:N+1≤100000000) (A:Int) (S T:ByteArray) :
  Calls Tryz.prog 16 #[.pointer (some ⟨K.H,0,none⟩),.agg #[.int .i64 8,.int .i64 A,.string S,.string T]] w (gX w K N):=by
 have hb0:Below w.heap.size w (w.alloc (.cells #[.int .i64 8,.int .i64 A,.string S,.string T] 43)):=(Below.refl _ _).alloc (Nat.le_refl _) _
 have hK0:aU (w.alloc (.cells #[.int .i64 8,.int .i64 A,.string S,.string T] 43)) w.heap.size 43 [.int .i64 8,.int .i64 A,.string S,.string T]:=heap_alloc_new w _
 have h0:=h.below hb0
 have xK:=h.h.lt
 have hlow:K.lo≤w.heap.size:=by have:=h.wd.bH;omega
 have jK:=hid h
 obtain⟨w0,hw0⟩:∃ w0,w.alloc (.cells #[.int .i64 8,.int .i64 A,.string S,.string T] 43)=w0:=⟨_,rfl⟩
 rw[hw0] at hb0 hK0 h0
 have k0:w0.cell? ⟨w.heap.size,0,none⟩=some (.int .i64 8):=hK0.cell 0
 have k2:w0.cell? ⟨w.heap.size,2,none⟩=some (.string S):=hK0.cell 2
 have s0:w0.cell? ⟨K.H,0,none⟩=some (.string K.schema):=h0.h.cell 0
 have rE:=hid hK0
 have Hb0:=hid hb0
 have HKB:=hid (show ∀ w',Below w0.heap.size w0 w'→w'.cell? ⟨K.H,0,none⟩=some (.string K.schema)∧w'.cell? ⟨w.heap.size,2,none⟩=some (.string S) from fun w' hw'=>⟨(h0.h.below hw').cell 0,(rE.out.below hw').cell 2⟩)
 have zV:=hid ((lV (s:=K.schema) (kind:=ByteArray.mk #[115,116,114,101,97,109]) (name:=S) (X:=G.s.X) w0.drew jK.out.wd.ps (Or.inl ⟨mJ,rfl⟩) jK.out.wd.px).mono (R':=fun e w'=>∃ (a:Option Addr) (n c:Nat),e=.returned (.slice a n c)∧Below w0.heap.size w0 w'∧BQ G.s.X 2 S w0.drew w' a n c) (fun e w' h=>by
  obtain⟨a,n,c,he,hb,hq⟩:=h
  exact⟨a,n,c,he,(Below.refl _ w0).drew.trans hb,hq⟩))
 clear h0 hK0 hb0 h
 go_enter func16,ntmps16
 go_wp2_with fail
 go_region_held3 (fun w'=>w'.cell? ⟨K.H,0,none⟩=some (.string K.schema)∧w'.cell? ⟨w.heap.size,2,none⟩=some (.string S))
  (exact HKB.out _ (by repeat (first | with_reducible assumption | with_reducible exact Below.refl _ _ | with_reducible apply Below.drew)))
  (first | (go_at_call 41;refine zV.out.mono ?_;rintro e w1 ⟨ba,bn,bc,rfl,iV,Ho⟩))
 all_goals
  have KX:=hid Ho
  clear Ho
  have kX:Below w.heap.size w w1:=Hb0.out.trans (iV.mono Hb0.out.size)
  have qV:=hid (rE.out.below iV)
  have I1:=hid (jK.out.below kX)
  have m0:w1.cell? ⟨w.heap.size,0,none⟩=some (.int .i64 8):=qV.out.cell 0
  have m1:w1.cell? ⟨w.heap.size,1,none⟩=some (.int .i64 A):=qV.out.cell 1
  have m2:w1.cell? ⟨w.heap.size,2,none⟩=some (.string S):=qV.out.cell 2
  have m3:w1.cell? ⟨w.heap.size,3,none⟩=some (.string T):=qV.out.cell 3
  have m4:w1.cell? ⟨K.H,4,none⟩=some (.pointer (some ⟨K.cs,0,none⟩)):=I1.out.h.cell 4
  have mO:=hid kX
  clear iV kX
  have hyl:=I1.out.wd.y.lt
  go_wp2_with fail
  refine(aa2 I1.out.wd.s (I1.out.wd.y.cell 0) hyl).mono ?_;rintro e w2 ⟨rfl,hb2⟩
  have hbq:Below w2.heap.size w2 (w2.alloc (.cells #[.int .i64 0,.string ⟨#[]⟩,.string ⟨#[]⟩] 115)):=(Below.refl _ _).alloc (Nat.le_refl _) _
  have HB:=hid (show Below w.heap.size w (w2.alloc (.cells #[.int .i64 0,.string ⟨#[]⟩,.string ⟨#[]⟩] 115)) from(mO.out.trans (hb2.mono mO.out.size)).trans (hbq.mono (by have:=hb2.size;have:=mO.out.size;omega)))
  clear hbq
  go_wp2_with fail
  go_ret
  exact⟨rfl,⟨G,(jK.out.below HB.out).wd.more hn,(jK.out.below HB.out).h⟩,HB.out.mono hlow⟩
theorem Hq (w:World) (K:HK) (N:Nat) (G:HG) (h:Inv w K N G) (hn:N+1≤100000000) (A:Int) (S T:ByteArray) :
  Calls Tryz.prog 16 #[.pointer (some ⟨K.H,0,none⟩),.agg #[.int .i64 9,.int .i64 A,.string S,.string T]] w (gX w K N):=by
 have hb0:Below w.heap.size w (w.alloc (.cells #[.int .i64 9,.int .i64 A,.string S,.string T] 43)):=(Below.refl _ _).alloc (Nat.le_refl _) _
 have hK0:aU (w.alloc (.cells #[.int .i64 9,.int .i64 A,.string S,.string T] 43)) w.heap.size 43 [.int .i64 9,.int .i64 A,.string S,.string T]:=heap_alloc_new w _
 have h0:=h.below hb0
 have xK:=h.h.lt
 have hlow:K.lo≤w.heap.size:=by have:=h.wd.bH;omega
 have jK:=hid h
 obtain⟨w0,hw0⟩:∃ w0,w.alloc (.cells #[.int .i64 9,.int .i64 A,.string S,.string T] 43)=w0:=⟨_,rfl⟩
 rw[hw0] at hb0 hK0 h0
 have k0:w0.cell? ⟨w.heap.size,0,none⟩=some (.int .i64 9):=hK0.cell 0
 have k2:w0.cell? ⟨w.heap.size,2,none⟩=some (.string S):=hK0.cell 2
 have s0:w0.cell? ⟨K.H,0,none⟩=some (.string K.schema):=h0.h.cell 0
 have rE:=hid hK0
 have Hb0:=hid hb0
 have HKB:=hid (show ∀ w',Below w0.heap.size w0 w'→w'.cell? ⟨K.H,0,none⟩=some (.string K.schema)∧w'.cell? ⟨w.heap.size,2,none⟩=some (.string S) from fun w' hw'=>⟨(h0.h.below hw').cell 0,(rE.out.below hw').cell 2⟩)
 have zV:=hid ((lV (s:=K.schema) (kind:=ByteArray.mk #[115,116,114,101,97,109]) (name:=S) (X:=G.s.X) w0.drew jK.out.wd.ps (Or.inl ⟨mJ,rfl⟩) jK.out.wd.px).mono (R':=fun e w'=>∃ (a:Option Addr) (n c:Nat),e=.returned (.slice a n c)∧Below w0.heap.size w0 w'∧BQ G.s.X 2 S w0.drew w' a n c) (fun e w' h=>by
  obtain⟨a,n,c,he,hb,hq⟩:=h
  exact⟨a,n,c,he,(Below.refl _ w0).drew.trans hb,hq⟩))
 clear h0 hK0 hb0 h
 go_enter func16,ntmps16
 go_wp2_with fail
 go_region_held3 (fun w'=>w'.cell? ⟨K.H,0,none⟩=some (.string K.schema)∧w'.cell? ⟨w.heap.size,2,none⟩=some (.string S))
  (exact HKB.out _ (by repeat (first | with_reducible assumption | with_reducible exact Below.refl _ _ | with_reducible apply Below.drew)))
  (first | (go_at_call 41;refine zV.out.mono ?_;rintro e w1 ⟨ba,bn,bc,rfl,iV,Ho⟩))
 all_goals
  have KX:=hid Ho
  clear Ho
  have kX:Below w.heap.size w w1:=Hb0.out.trans (iV.mono Hb0.out.size)
  have qV:=hid (rE.out.below iV)
  have I1:=hid (jK.out.below kX)
  have m0:w1.cell? ⟨w.heap.size,0,none⟩=some (.int .i64 9):=qV.out.cell 0
  have m1:w1.cell? ⟨w.heap.size,1,none⟩=some (.int .i64 A):=qV.out.cell 1
  have m2:w1.cell? ⟨w.heap.size,2,none⟩=some (.string S):=qV.out.cell 2
  have m3:w1.cell? ⟨w.heap.size,3,none⟩=some (.string T):=qV.out.cell 3
  have m4:w1.cell? ⟨K.H,4,none⟩=some (.pointer (some ⟨K.cs,0,none⟩)):=I1.out.h.cell 4
  have mO:=hid kX
  clear iV kX
  go_wp2_with fail
  go_region_with (go_at_call 47;refine(YZ (I1.out.below (Below.refl _ _).drew).wd.s ((I1.out.below (Below.refl _ _).drew).wd.y.cell 0) A S).mono ?_;rintro e w2 ⟨z,rfl,hz,hb2'⟩;have HZ:=hid hz;clear hz)
  all_goals
   have hz:=HZ.out
   subst hz
   have HB:=hid (show Below w.heap.size w w2 from mO.out.trans (Below.mono ((Below.refl _ w1).drew.trans hb2') mO.out.size))
   go_wp2_with fail
   go_ret
   exact⟨rfl,⟨G,(jK.out.below HB.out).wd.more hn,(jK.out.below HB.out).h⟩,HB.out.mono hlow⟩
theorem QE (w:World) (K:HK) (N:Nat) (G:HG) (h:Inv w K N G) (hn:N+1≤100000000) (A:Int) (S T:ByteArray) (hT:T.size≤maxLen) :
  Calls Tryz.prog 16 #[.pointer (some ⟨K.H,0,none⟩),.agg #[.int .i64 6,.int .i64 A,.string S,.string T]] w (gX w K N):=by
 have hb0:Below w.heap.size w (w.alloc (.cells #[.int .i64 6,.int .i64 A,.string S,.string T] 43)):=(Below.refl _ _).alloc (Nat.le_refl _) _
 have hK0:aU (w.alloc (.cells #[.int .i64 6,.int .i64 A,.string S,.string T] 43)) w.heap.size 43 [.int .i64 6,.int .i64 A,.string S,.string T]:=heap_alloc_new w _
 have h0:=h.below hb0
 have xK:=h.h.lt
 have hlow:K.lo≤w.heap.size:=by have:=h.wd.bH;omega
 have jK:=hid h
 obtain⟨w0,hw0⟩:∃ w0,w.alloc (.cells #[.int .i64 6,.int .i64 A,.string S,.string T] 43)=w0:=⟨_,rfl⟩
 rw[hw0] at hb0 hK0 h0
 have k0:w0.cell? ⟨w.heap.size,0,none⟩=some (.int .i64 6):=hK0.cell 0
 have k2:w0.cell? ⟨w.heap.size,2,none⟩=some (.string S):=hK0.cell 2
 have s0:w0.cell? ⟨K.H,0,none⟩=some (.string K.schema):=h0.h.cell 0
 have rE:=hid hK0
 have Hb0:=hid hb0
 have HKB:=hid (show ∀ w',Below w0.heap.size w0 w'→w'.cell? ⟨K.H,0,none⟩=some (.string K.schema)∧w'.cell? ⟨w.heap.size,2,none⟩=some (.string S) from fun w' hw'=>⟨(h0.h.below hw').cell 0,(rE.out.below hw').cell 2⟩)
 have zV:=hid ((lV (s:=K.schema) (kind:=ByteArray.mk #[115,116,114,101,97,109]) (name:=S) (X:=G.s.X) w0.drew jK.out.wd.ps (Or.inl ⟨mJ,rfl⟩) jK.out.wd.px).mono (R':=fun e w'=>∃ (a:Option Addr) (n c:Nat),e=.returned (.slice a n c)∧Below w0.heap.size w0 w'∧BQ G.s.X 2 S w0.drew w' a n c) (fun e w' h=>by
  obtain⟨a,n,c,he,hb,hq⟩:=h
  exact⟨a,n,c,he,(Below.refl _ w0).drew.trans hb,hq⟩))
 clear h0 hK0 hb0 h
 go_enter func16,ntmps16
 go_wp2_with fail
 go_region_held3 (fun w'=>w'.cell? ⟨K.H,0,none⟩=some (.string K.schema)∧w'.cell? ⟨w.heap.size,2,none⟩=some (.string S))
  (exact HKB.out _ (by repeat (first | with_reducible assumption | with_reducible exact Below.refl _ _ | with_reducible apply Below.drew)))
  (first | (go_at_call 41;refine zV.out.mono ?_;rintro e w1 ⟨ba,bn,bc,rfl,iV,Ho⟩))
 all_goals
  have KX:=hid Ho
  clear Ho
  have kX:Below w.heap.size w w1:=Hb0.out.trans (iV.mono Hb0.out.size)
  have qV:=hid (rE.out.below iV)
  have I1:=hid (jK.out.below kX)
  have m0:w1.cell? ⟨w.heap.size,0,none⟩=some (.int .i64 6):=qV.out.cell 0
  have m1:w1.cell? ⟨w.heap.size,1,none⟩=some (.int .i64 A):=qV.out.cell 1
  have m2:w1.cell? ⟨w.heap.size,2,none⟩=some (.string S):=qV.out.cell 2
  have m3:w1.cell? ⟨w.heap.size,3,none⟩=some (.string T):=qV.out.cell 3
  have m4:w1.cell? ⟨K.H,4,none⟩=some (.pointer (some ⟨K.cs,0,none⟩)):=I1.out.h.cell 4
  have mO:=hid kX
  clear iV kX
  have kM:=hid (I1.out.below (Below.refl _ _).drew)
  have HU:=hid (tN jK.out.wd.pa jK.out.wd.px)
  go_wp2_with fail
  have HKS:=hid (show ∀ w',aN (qB G.s) w1.drew w'→w'.cell? ⟨K.H,4,none⟩=some (.pointer (some ⟨K.cs,0,none⟩))∧w'.cell? ⟨w.heap.size,2,none⟩=some (.string S)∧w'.cell? ⟨w.heap.size,3,none⟩=some (.string T) from fun w' hw'=>
   ⟨(aU.only (w:=w1.drew) kM.out.h hw' kM.out.wd.s.only (by decide)).cell 4,(aU.only (w:=w1.drew) qV.out hw' kM.out.wd.s.only (by decide)).cell 2,(aU.only (w:=w1.drew) qV.out hw' kM.out.wd.s.only (by decide)).cell 3⟩)
  have HDo:=hid ((TN kM.out.wd.s (kM.out.wd.y.cell 0) kM.out.wd.env kM.out.wd.own kM.out.wd.cr (by have:=kM.out.wd.sn;have:=kM.out.wd.nn;omega) S T hT).mono (R':=fun e w'=>∃ z:Int,e=.returned (.int .i64 z)∧aN (qB G.s) w1.drew w'∧∃ o,Named G.s.Ts S o∧nI w1.drew K.lo K.W K.D K.R G.s (fun g'=>match o with | none=>z=11∧g'=G.s | some (k,t)=>(t.fin=true∧z=12∧g'=G.s)∨(t.fin=false∧∃ d,AZ G.s.X t.base T z d∧((z≠0∧g'=G.s)∨(z=0∧∃ c kept kv,g' = { G.s with Ts:=G.s.Ts.set k { t with count:=c,kept:=kept,kv:=kv },N:=G.s.N+1 })))) w') (fun e w' h=>by
   obtain⟨z,he,o,hN,g',h1,h2,h3,h4⟩:=h
   exact⟨z,he,h2,o,hN,g',h1,h2,h3,h4⟩))
  go_region_held3 (fun w'=>w'.cell? ⟨K.H,4,none⟩=some (.pointer (some ⟨K.cs,0,none⟩))∧w'.cell? ⟨w.heap.size,2,none⟩=some (.string S)∧w'.cell? ⟨w.heap.size,3,none⟩=some (.string T))
   (exact HKS.out _ (by first | with_reducible assumption | exact aN.refl _ _))
   (first | (go_at_call 42;refine HDo.out.mono ?_;rintro e w2 ⟨z,rfl,Xn,o,hNm,hP⟩))
  all_goals
   have HNm:=hid hNm
   have HP:=hid hP
   clear hNm hP Xn
   rcases Ba jK.out.wd.tr HNm.out HU.out with⟨rfl,hf⟩ | ⟨k,t,i,x,rfl,hk,hname,hf,hx,hbase⟩
   ·obtain⟨g',oV,eF,hSt,rfl,rfl⟩:=HP.out
    rcases KX.out with⟨hfb,rfl,rfl,rfl⟩ | ⟨i',x',gb,hfb,_⟩
    ·have HW:=hid ((kM.out.wd.more hn).srv oV eF hSt kM.out.wd.fin kM.out.wd.tu kM.out.wd.tr kM.out.wd.tl (kM.out.wd.more hn).sn)
     have hH2:=HW.out.2.1 _ kM.out.h
     have hK2:=aU.only (w:=w1.drew) qV.out eF kM.out.wd.s.only (by decide)
     have p2:w2.cell? ⟨w.heap.size,2,none⟩=some (.string S):=hK2.cell 2
     have wF:=hid hH2
     clear oV eF hSt hK2 hH2 hf hfb
     go_wp2_with fail
     refine(ou w2 K.lo K.H G.done G.dn (wF.out.cell 15) wF.out.lt HW.out.1.d (by have h1:G.dn.length≤N+1:=HW.out.1.dl;omega) S).mono ?_;rintro e w3 ⟨rfl,hb3⟩
     have hq:=zk w3
     go_wp2_with fail
     go_ret
     exact⟨rfl,⟨_,HW.out.1.below hb3,wF.out.below hb3⟩,((mO.out.mono hlow).drew.trans HW.out.2.2).trans (hb3.mono (by have:=HW.out.1.bH;have:=wF.out.lt;omega))⟩
    ·have:=hf.uniq hfb
     omega
   ·obtain⟨g',oV,eF,hSt,hA⟩:=HP.out
    rcases KX.out with⟨hfb,_⟩ | ⟨i',x',gb,hfb,hx',rfl,hn1,hn2,hgl,hgc,hgt⟩
    ·have:=hf.uniq hfb
     omega
    ·have hii:i=i':=by have:=hf.uniq hfb;omega
     subst hii
     rw[hx] at hx'
     obtain rfl:x=x':=Option.some.inj hx'
     rw[hbase] at hgc
     have hfin:=jK.out.wd.fin t (List.mem_of_getElem? hk)
     have hdn:Js G.dn S=t.fin:=by
      rw[Bool.eq_iff_iff,MZ,hfin,hname]
     have Y7:=hid hdn
     have CJ:=List.mem_of_getElem? hk
     have hK2:=aU.only (w:=w1.drew) qV.out eF kM.out.wd.s.only (by decide)
     have p2:w2.cell? ⟨w.heap.size,2,none⟩=some (.string S):=hK2.cell 2
     have p3:w2.cell? ⟨w.heap.size,3,none⟩=some (.string T):=hK2.cell 3
     have Nh:=hid hK2
     have HF:=hid hfin
     have Y8:=hid hk
     have HNt:=hid hname
     clear hdn hK2 hx' hfin hf hfb
     rcases hA with⟨hft,rfl,rfl⟩ | ⟨Xo,hA⟩
     ·rw[hft] at Y7
      have HW:=hid ((kM.out.wd.more hn).srv oV eF hSt kM.out.wd.fin kM.out.wd.tu kM.out.wd.tr kM.out.wd.tl (kM.out.wd.more hn).sn)
      have hH2:=HW.out.2.1 _ kM.out.h
      have wF:=hid hH2
      clear oV eF hSt hH2 hft
      go_wp2_with fail
      refine(ou w2 K.lo K.H G.done G.dn (wF.out.cell 15) wF.out.lt HW.out.1.d (by have h1:G.dn.length≤N+1:=HW.out.1.dl;omega) S).mono ?_;rintro e w3 ⟨rfl,hb3⟩
      rw[Y7.out]
      have hq:=sN w3 ⟨gb,0,none⟩ bn bc
      go_wp2_with fail
      go_ret
      exact⟨rfl,⟨_,HW.out.1.below hb3,wF.out.below hb3⟩,((mO.out.mono hlow).drew.trans HW.out.2.2).trans (hb3.mono (by have:=HW.out.1.bH;have:=wF.out.lt;omega))⟩
     ·rw[Xo] at Y7
      obtain⟨d,hPE,hcase⟩:=hA
      have HPE:=hid (show Je K.schema t.base T z d from Or.inr ⟨G.s.X,jK.out.wd.pa,jK.out.wd.ps,jK.out.wd.px,hPE⟩)
      have HWB:Hid (∃ s',Wd w2 K (N+1) { G with s:=s' } ∧ (∀ hl,aU w1.drew K.H 33 hl→aU w2 K.H 33 hl)∧Below K.lo w1.drew w2∧s'.last=G.s.last∧s'.up=G.s.up∧s'.had=G.s.had):=by
       rcases hcase with⟨_,rfl⟩ | ⟨_,c,kept,kv,rfl⟩
       ·have r:=(kM.out.wd.more hn).srv oV eF hSt kM.out.wd.fin kM.out.wd.tu kM.out.wd.tr kM.out.wd.tl (kM.out.wd.more hn).sn
        exact⟨_,r.1,r.2.1,r.2.2,rfl,rfl,rfl⟩
       ·have r:=(kM.out.wd.more hn).srv oV eF hSt (Jv (t':={ t with count:=c,kept:=kept,kv:=kv }) Y8.out kM.out.wd.fin (fun h=>h)) (kM.out.wd.tu.set Y8.out rfl) ((MX (t':={ t with count:=c,kept:=kept,kv:=kv }) Y8.out rfl rfl).trans kM.out.wd.tr) (Jv (t':={ t with count:=c,kept:=kept,kv:=kv }) Y8.out kM.out.wd.tl (fun h=>h)) (by show G.s.N+1≤N+1;have:=kM.out.wd.sn;omega)
        exact⟨_,r.1,r.2.1,r.2.2,rfl,rfl,rfl⟩
      obtain⟨s',hWd,hHb,hBl,e1,e2,e3⟩:=HWB.out
      have hH2:aU w2 K.H 33 (nJ K { G with s:=s' }):=by
       have:=hHb _ kM.out.h
       unfold nJ at this ⊢
       rw[e1,e2,e3]
       exact this
      have Xh:=hid hWd
      have wF:=hid hH2
      have HBl:=hid hBl
      have ag1:w2.cell? ⟨gb,0,none⟩=some (.string t.base):=by
       have hbl:gb<w1.drew.heap.size:=hgl
       rw[eF.cell (p:=⟨gb,0,none⟩) hbl (fun hF=>by
        have:=kM.out.wd.s.only gb hF _ (show Tag w1.drew gb _ from hgt)
        revert this;decide)]
       exact hgc
      have hz2:=eF.size
      clear oV eF hSt hcase hPE hWd hH2 hBl hHb Xo
      go_wp2_with fail
      refine(ou w2 K.lo K.H G.done G.dn (wF.out.cell 15) wF.out.lt Xh.out.d (by have h1:G.dn.length≤N+1:=Xh.out.dl;omega) S).mono ?_;rintro e w3 ⟨rfl,hb3⟩
      rw[Y7.out]
      have hq:=sN w3 ⟨gb,0,none⟩ bn bc
      have ag2:gb<w2.heap.size:=Nat.lt_of_lt_of_le hgl hz2
      have q1:w3.cell? ⟨gb,0,none⟩=some (.string t.base):=(hb3.cell (p:=⟨gb,0,none⟩) ag2).trans ag1
      have q3:w3.cell? ⟨w.heap.size,3,none⟩=some (.string T):=(Nh.out.below hb3).cell 3
      have HI3:=hid (Inv.mk (Xh.out.below hb3) (wF.out.below hb3))
      have Xp:K.lo≤w3.heap.size:=by have:=HI3.out.wd.bH;have:=HI3.out.h.lt;omega
      go_wp2_with fail
      go_region_with (go_at_call 44;refine(EO w3.drew K.H K.schema t.base T ((HI3.out.below (Below.refl _ _).drew).h.cell 0) jK.out.wd.ps hT (HI3.out.below (Below.refl _ _).drew).wd.env (fun cb hcb=>jK.out.wd.own cb (Nat.le_trans Xp hcb))).mono ?_;rintro e w4 ⟨E,b,rfl,hEA,ag3⟩;have HEA:=hid hEA;clear hEA)
      all_goals
       have hzE:=(yX HPE.out HEA.out).1
       subst hzE
       have hb4:Below w3.heap.size w3 w4:=(Below.refl _ w3).drew.trans ag3
       have HI4:=hid (HI3.out.below hb4)
       go_wp2_with fail
       go_ret
       exact⟨aG (by simp),⟨_,HI4.out⟩,(((mO.out.mono hlow).drew.trans HBl.out).trans (hb3.mono (by have:=Xh.out.bH;have:=wF.out.lt;omega))).trans (hb4.mono Xp)⟩
theorem QF (w:World) (K:HK) (N:Nat) (G:HG) (h:Inv w K N G) (hn:N+1≤100000000) (A:Int) (S T:ByteArray) :
  Calls Tryz.prog 16 #[.pointer (some ⟨K.H,0,none⟩),.agg #[.int .i64 7,.int .i64 A,.string S,.string T]] w (gX w K N):=by
 have hb0:Below w.heap.size w (w.alloc (.cells #[.int .i64 7,.int .i64 A,.string S,.string T] 43)):=(Below.refl _ _).alloc (Nat.le_refl _) _
 have hK0:aU (w.alloc (.cells #[.int .i64 7,.int .i64 A,.string S,.string T] 43)) w.heap.size 43 [.int .i64 7,.int .i64 A,.string S,.string T]:=heap_alloc_new w _
 have h0:=h.below hb0
 have xK:=h.h.lt
 have hlow:K.lo≤w.heap.size:=by have:=h.wd.bH;omega
 have jK:=hid h
 obtain⟨w0,hw0⟩:∃ w0,w.alloc (.cells #[.int .i64 7,.int .i64 A,.string S,.string T] 43)=w0:=⟨_,rfl⟩
 rw[hw0] at hb0 hK0 h0
 have k0:w0.cell? ⟨w.heap.size,0,none⟩=some (.int .i64 7):=hK0.cell 0
 have k2:w0.cell? ⟨w.heap.size,2,none⟩=some (.string S):=hK0.cell 2
 have s0:w0.cell? ⟨K.H,0,none⟩=some (.string K.schema):=h0.h.cell 0
 have rE:=hid hK0
 have Hb0:=hid hb0
 have HKB:=hid (show ∀ w',Below w0.heap.size w0 w'→w'.cell? ⟨K.H,0,none⟩=some (.string K.schema)∧w'.cell? ⟨w.heap.size,2,none⟩=some (.string S) from fun w' hw'=>⟨(h0.h.below hw').cell 0,(rE.out.below hw').cell 2⟩)
 have zV:=hid ((lV (s:=K.schema) (kind:=ByteArray.mk #[115,116,114,101,97,109]) (name:=S) (X:=G.s.X) w0.drew jK.out.wd.ps (Or.inl ⟨mJ,rfl⟩) jK.out.wd.px).mono (R':=fun e w'=>∃ (a:Option Addr) (n c:Nat),e=.returned (.slice a n c)∧Below w0.heap.size w0 w'∧BQ G.s.X 2 S w0.drew w' a n c) (fun e w' h=>by
  obtain⟨a,n,c,he,hb,hq⟩:=h
  exact⟨a,n,c,he,(Below.refl _ w0).drew.trans hb,hq⟩))
 clear h0 hK0 hb0 h
 go_enter func16,ntmps16
 go_wp2_with fail
 go_region_held3 (fun w'=>w'.cell? ⟨K.H,0,none⟩=some (.string K.schema)∧w'.cell? ⟨w.heap.size,2,none⟩=some (.string S))
  (exact HKB.out _ (by repeat (first | with_reducible assumption | with_reducible exact Below.refl _ _ | with_reducible apply Below.drew)))
  (first | (go_at_call 41;refine zV.out.mono ?_;rintro e w1 ⟨ba,bn,bc,rfl,iV,Ho⟩))
 all_goals
  have KX:=hid Ho
  clear Ho
  have kX:Below w.heap.size w w1:=Hb0.out.trans (iV.mono Hb0.out.size)
  have qV:=hid (rE.out.below iV)
  have I1:=hid (jK.out.below kX)
  have m0:w1.cell? ⟨w.heap.size,0,none⟩=some (.int .i64 7):=qV.out.cell 0
  have m1:w1.cell? ⟨w.heap.size,1,none⟩=some (.int .i64 A):=qV.out.cell 1
  have m2:w1.cell? ⟨w.heap.size,2,none⟩=some (.string S):=qV.out.cell 2
  have m3:w1.cell? ⟨w.heap.size,3,none⟩=some (.string T):=qV.out.cell 3
  have m4:w1.cell? ⟨K.H,4,none⟩=some (.pointer (some ⟨K.cs,0,none⟩)):=I1.out.h.cell 4
  have mO:=hid kX
  clear iV kX
  have kM:=hid (I1.out.below (Below.refl _ _).drew)
  have HU:=hid (tN jK.out.wd.pa jK.out.wd.px)
  go_wp2_with fail
  have HKS:=hid (show ∀ w',aN (qB G.s) w1.drew w'→w'.cell? ⟨K.H,4,none⟩=some (.pointer (some ⟨K.cs,0,none⟩))∧w'.cell? ⟨w.heap.size,2,none⟩=some (.string S)∧w'.cell? ⟨w.heap.size,3,none⟩=some (.string T) from fun w' hw'=>
   ⟨(aU.only (w:=w1.drew) kM.out.h hw' kM.out.wd.s.only (by decide)).cell 4,(aU.only (w:=w1.drew) qV.out hw' kM.out.wd.s.only (by decide)).cell 2,(aU.only (w:=w1.drew) qV.out hw' kM.out.wd.s.only (by decide)).cell 3⟩)
  have HDo:=hid ((WV kM.out.wd.s (kM.out.wd.y.cell 0) S).mono (R':=fun e w'=>∃ z:Int,e=.returned (.int .i64 z)∧aN (qB G.s) w1.drew w'∧∃ o,Named G.s.Ts S o∧nI w1.drew K.lo K.W K.D K.R G.s (fun g'=>match o with | none=>z=11∧g'=G.s | some (k,t)=>(t.fin=true∧z=12∧g'=G.s)∨(t.fin=false∧z=0∧g' = { G.s with Ts:=G.s.Ts.set k { t with fin:=true } })) w') (fun e w' h=>by
   obtain⟨z,he,o,hN,g',h1,h2,h3,h4⟩:=h
   exact⟨z,he,h2,o,hN,g',h1,h2,h3,h4⟩))
  go_region_held3 (fun w'=>w'.cell? ⟨K.H,4,none⟩=some (.pointer (some ⟨K.cs,0,none⟩))∧w'.cell? ⟨w.heap.size,2,none⟩=some (.string S)∧w'.cell? ⟨w.heap.size,3,none⟩=some (.string T))
   (exact HKS.out _ (by first | with_reducible assumption | exact aN.refl _ _))
   (first | (go_at_call 45;refine HDo.out.mono ?_;rintro e w2 ⟨z,rfl,Xn,o,hNm,hP⟩))
  all_goals
   have HNm:=hid hNm
   have HP:=hid hP
   clear hNm hP Xn
   rcases Ba jK.out.wd.tr HNm.out HU.out with⟨rfl,hf⟩ | ⟨k,t,i,x,rfl,hk,hname,hf,hx,hbase⟩
   ·obtain⟨g',oV,eF,hSt,rfl,rfl⟩:=HP.out
    rcases KX.out with⟨hfb,rfl,rfl,rfl⟩ | ⟨i',x',gb,hfb,_⟩
    ·have HW:=hid ((kM.out.wd.more hn).srv oV eF hSt kM.out.wd.fin kM.out.wd.tu kM.out.wd.tr kM.out.wd.tl (kM.out.wd.more hn).sn)
     have hH2:=HW.out.2.1 _ kM.out.h
     have hK2:=aU.only (w:=w1.drew) qV.out eF kM.out.wd.s.only (by decide)
     have p2:w2.cell? ⟨w.heap.size,2,none⟩=some (.string S):=hK2.cell 2
     have wF:=hid hH2
     clear oV eF hSt hK2 hH2 hf hfb
     go_wp2_with fail
     refine(ou w2 K.lo K.H G.done G.dn (wF.out.cell 15) wF.out.lt HW.out.1.d (by have h1:G.dn.length≤N+1:=HW.out.1.dl;omega) S).mono ?_;rintro e w3 ⟨rfl,hb3⟩
     have hq:=zk w3
     go_wp2_with fail
     go_ret
     exact⟨rfl,⟨_,HW.out.1.below hb3,wF.out.below hb3⟩,((mO.out.mono hlow).drew.trans HW.out.2.2).trans (hb3.mono (by have:=HW.out.1.bH;have:=wF.out.lt;omega))⟩
    ·have:=hf.uniq hfb
     omega
   ·obtain⟨g',oV,eF,hSt,hA⟩:=HP.out
    rcases KX.out with⟨hfb,_⟩ | ⟨i',x',gb,hfb,hx',rfl,hn1,hn2,hgl,hgc,hgt⟩
    ·have:=hf.uniq hfb
     omega
    ·have hii:i=i':=by have:=hf.uniq hfb;omega
     subst hii
     rw[hx] at hx'
     obtain rfl:x=x':=Option.some.inj hx'
     rw[hbase] at hgc
     have hfin:=jK.out.wd.fin t (List.mem_of_getElem? hk)
     have hdn:Js G.dn S=t.fin:=by
      rw[Bool.eq_iff_iff,MZ,hfin,hname]
     have Y7:=hid hdn
     have CJ:=List.mem_of_getElem? hk
     have hK2:=aU.only (w:=w1.drew) qV.out eF kM.out.wd.s.only (by decide)
     have p2:w2.cell? ⟨w.heap.size,2,none⟩=some (.string S):=hK2.cell 2
     have p3:w2.cell? ⟨w.heap.size,3,none⟩=some (.string T):=hK2.cell 3
     have Nh:=hid hK2
     have HF:=hid hfin
     have Y8:=hid hk
     have HNt:=hid hname
     clear hdn hK2 hx' hfin hf hfb
     rcases hA with⟨hft,rfl,rfl⟩ | ⟨Xo,hA⟩
     ·rw[hft] at Y7
      have HW:=hid ((kM.out.wd.more hn).srv oV eF hSt kM.out.wd.fin kM.out.wd.tu kM.out.wd.tr kM.out.wd.tl (kM.out.wd.more hn).sn)
      have hH2:=HW.out.2.1 _ kM.out.h
      have wF:=hid hH2
      clear oV eF hSt hH2 hft
      go_wp2_with fail
      refine(ou w2 K.lo K.H G.done G.dn (wF.out.cell 15) wF.out.lt HW.out.1.d (by have h1:G.dn.length≤N+1:=HW.out.1.dl;omega) S).mono ?_;rintro e w3 ⟨rfl,hb3⟩
      rw[Y7.out]
      have hq:=sN w3 ⟨gb,0,none⟩ bn bc
      go_wp2_with fail
      go_ret
      exact⟨rfl,⟨_,HW.out.1.below hb3,wF.out.below hb3⟩,((mO.out.mono hlow).drew.trans HW.out.2.2).trans (hb3.mono (by have:=HW.out.1.bH;have:=wF.out.lt;omega))⟩
     ·obtain⟨rfl,rfl⟩:=hA
      rw[Xo] at Y7
      have XP:=hid ((kM.out.wd.more hn).toWc.srv oV eF hSt (kM.out.wd.tu.set Y8.out rfl) ((MX (t':={ t with fin:=true }) Y8.out rfl rfl).trans kM.out.wd.tr) (Jv (t':={ t with fin:=true }) Y8.out kM.out.wd.tl (fun h=>h)) (kM.out.wd.more hn).sn)
      have hH2:=XP.out.2.1 _ kM.out.h
      have wF:=hid hH2
      clear oV eF hSt hH2 Xo
      go_wp2_with fail
      refine(ou w2 K.lo K.H G.done G.dn (wF.out.cell 15) wF.out.lt XP.out.1.d (by have h1:G.dn.length≤N+1:=XP.out.1.dl;omega) S).mono ?_;rintro e w3 ⟨rfl,hb3⟩
      rw[Y7.out]
      have hq:=sN w3 ⟨gb,0,none⟩ bn bc
      have hH3:=wF.out.below hb3
      have hK3:=Nh.out.below hb3
      have hd3:w3.ownsRow K.lo 9 1 G.done G.dn.length (G.dn.map aY):=au XP.out.1.d (fun g hg=>hb3.block g (XP.out.1.d.lt g hg).2)
      obtain⟨da,dc,hdv⟩:=ak hd3
      have q15:w3.drew.cell? ⟨K.H,15,none⟩=some (.slice da G.dn.length dc):=by rw[← hdv];exact hH3.cell 15
      have q2:w3.drew.cell? ⟨w.heap.size,2,none⟩=some (.string S):=hK3.cell 2
      have hbS:Below w3.heap.size w3 (w3.alloc (.cells #[.string S] 9)).drew:=((Below.refl _ _).alloc (Nat.le_refl _) _).drew
      have ZT:aU (w3.alloc (.cells #[.string S] 9)).drew w3.heap.size 9 [.string S]:=heap_alloc_new w3 _
      have hd4:=au hd3 (fun g hg=>hbS.block g (hd3.lt g hg).2)
      have akL:=hH3.lt
      have Xp:K.lo≤w3.heap.size:=by have:=XP.out.1.bH;omega
      have JQ:(w3.alloc (.cells #[.string S] 9)).drew.heap.size=w3.heap.size+1:=by show (w3.alloc _).heap.size=_;simp
      have hdl:G.dn.length≤N+1:=XP.out.1.dl
      obtain⟨a',c',w5,hr,ho5,hg5⟩:=uF (w3.alloc (.cells #[.string S] 9)).drew 31 31 9 (.string ⟨#[]⟩) 1 16 underlying31 Tryz.infoStr rfl (by decide) G.done G.dn.length (G.dn.map aY) K.lo hd4 ⟨w3.heap.size,0,none⟩ 1 1 [.string S] rfl (fun j u hu=>by
       rw[jO _ _ rfl]
       have:=ZT.cell (0+j)
       rw[this]
       simpa using hu) (fun u hu=>by simp at hu;subst hu;rfl) (by unfold maxLen;omega) (by omega) (by omega)
      rw[hdv] at hr
      have v15:(w3.alloc (.cells #[.string S] 9)).drew.cell? ⟨K.H,15,none⟩=some (.slice da G.dn.length dc):=by rw[← hdv];exact(hH3.below hbS).cell 15
      have v2:(w3.alloc (.cells #[.string S] 9)).drew.cell? ⟨w.heap.size,2,none⟩=some (.string S):=(hK3.below hbS).cell 2
      have hc5:aN (fun k=>G.done.ownBlock=some k) w3 w5:=(aN.of_below hbS).same (aN.grew hg5 (fun k hk=>hk))
      have hH5:aU w5 K.H 33 _:=hH3.fZ hc5 (fun e=>by
       have:=(gJ hd3 e).uniq hH3.tag
       revert this;decide)
      have e15:w5.cell? ⟨K.H,15,none⟩=some G.done:=hH5.cell 15
      have f15:=hH5.frozen 15
      have hH6:=hH5.set 15 (.slice a' (G.dn.length+1) c')
      have hc6:aN (fun k=>k=K.H) w5 (w5.setCell ⟨K.H,15,none⟩ (.slice a' (G.dn.length+1) c')):=(aN.refl _ _).setCell _ _ (fun _=>rfl)
      have adK:aN (fun k=>k=K.H∨G.done.ownBlock=some k) w3 (w5.setCell ⟨K.H,15,none⟩ (.slice a' (G.dn.length+1) c')):=(hc5.mono (fun k _ e=>Or.inr e)).same (hc6.mono (fun k _ e=>Or.inl e))
      have Qa:(w5.setCell ⟨K.H,15,none⟩ (.slice a' (G.dn.length+1) c')).ownsRow K.lo 9 1 (.slice a' (G.dn.length+1) c') (G.dn++[S]).length ((G.dn++[S]).map aY):=by
       have:=hc6.own ho5 (fun k hk e=>by
        have:=(gJ ho5 hk).uniq (e ▸ hH5.tag)
        revert this;decide)
       simpa[aY] using this
      have adL:=hid (Wc.done (G:={ G with s:={ G.s with Ts:=G.s.Ts.set k { t with fin:=true } } }) (XP.out.1.abf hb3) hH3 adK Qa (by rw[List.length_append,List.length_singleton];have:=jK.out.wd.dl;omega))
      have HH6:=hid hH6
      have HR:=hid hr
      have Xq:=hid ((((mO.out.mono hlow).drew.trans XP.out.2.2).trans (hb3.mono (by have:=XP.out.1.bH;have:=wF.out.lt;omega))).trans adL.out.2)
      clear hH3 hK3 hd3 ZT hd4 hr ho5 hg5 hc5 hH5 hH6 hc6 adK Qa hdv hbS JQ
      go_wp2_with fail
      go_region_law (refine oN rfl (.tmp 81) (.tmp 84) 31 rfl _ _ rfl rfl _ w5 HR.out ?_)
      all_goals
       go_wp2_with fail
       go_ret
       refine⟨rfl,⟨_,{ adL.out.1 with fin:=?_ },HH6.out⟩,Xq.out⟩
       intro x hx
       show x.fin=true↔∃ n∈G.dn++[S],n.toList=x.name.toList
       rcases xX (show x∈G.s.Ts.set k { t with fin:=true } from hx) with rfl | ⟨j,hjk,hj⟩
       ·exact⟨fun _=>⟨S,by simp,HNt.out.symm⟩,fun _=>rfl⟩
       ·rw[jK.out.wd.fin x (List.mem_of_getElem? hj)]
        constructor
        ·rintro⟨n,hn',e⟩;exact⟨n,by simp[hn'],e⟩
        ·rintro⟨n,hn',e⟩
         rcases List.mem_append.1 hn' with h | h
         ·exact⟨n,h,e⟩
         ·simp at h;subst h
          exact absurd (jK.out.wd.tu j k x t hj Y8.out (by rw[HNt.out];exact e.symm)) hjk
theorem abv (w:World) (K:HK) (N:Nat) (G:HG) (h:Inv w K N G) (hn:N+1≤100000000) (A:Int) (S T:ByteArray) (hS:S.size≤1900000) (hT:T.size≤1900000) :
  Calls Tryz.prog 7 #[.pointer (some ⟨K.H,0,none⟩),.agg #[.int .i64 6,.int .i64 A,.string S,.string T]] w (gX w K N):=by
 have hb0:Below w.heap.size w (w.alloc (.cells #[.int .i64 6,.int .i64 A,.string S,.string T] 43)):=(Below.refl _ _).alloc (Nat.le_refl _) _
 have hK0:aU (w.alloc (.cells #[.int .i64 6,.int .i64 A,.string S,.string T] 43)) w.heap.size 43 [.int .i64 6,.int .i64 A,.string S,.string T]:=heap_alloc_new w _
 have h0:=h.below hb0
 have xK:=h.h.lt
 have hlow:K.lo≤w.heap.size:=by have:=h.wd.bH;omega
 obtain⟨w0,hw0⟩:∃ w0,w.alloc (.cells #[.int .i64 6,.int .i64 A,.string S,.string T] 43)=w0:=⟨_,rfl⟩
 rw[hw0] at hb0 hK0 h0
 have k0:w0.cell? ⟨w.heap.size,0,none⟩=some (.int .i64 6):=hK0.cell 0
 have k1:w0.cell? ⟨w.heap.size,1,none⟩=some (.int .i64 A):=hK0.cell 1
 have k2:w0.cell? ⟨w.heap.size,2,none⟩=some (.string S):=hK0.cell 2
 have k3:w0.cell? ⟨w.heap.size,3,none⟩=some (.string T):=hK0.cell 3
 have I0:=hid h0
 have tZ:=hid (hb0.mono hlow)
 have hTm:T.size≤maxLen:=by unfold maxLen;omega
 obtain⟨te,hte⟩:∃ te,T.toList.isEmpty=te:=⟨_,rfl⟩
 clear hK0 h h0
 cases te with
 | true=>
  go_enter func7,ntmps7
  go_wp2_with fail
  refine(QE w0 K N G I0.out hn A S T hTm).mono ?_;rintro e w1 ⟨rfl,⟨G',hG⟩,hb⟩
  have HG:=hid hG
  clear hG
  go_wp2_with fail
  go_ret
  exact⟨rfl,⟨G',HG.out⟩,tZ.out.trans hb⟩
 | false=>
  go_enter func7,ntmps7
  go_wp2_with fail
  refine(QE w0 K N G I0.out hn A S T hTm).mono ?_;rintro e w1 ⟨rfl,⟨G',hG⟩,hb⟩
  have HG:=hid hG
  clear hG
  go_wp2_with fail
  go_ret
  exact⟨rfl,⟨G',HG.out⟩,tZ.out.trans hb⟩
theorem abw (w:World) (K:HK) (N:Nat) (G:HG) (h:Inv w K N G) (hn:N+1≤100000000) (A:Int) (S T:ByteArray) (hS:S.size≤1900000) (hT:T.size≤1900000) :
  Calls Tryz.prog 7 #[.pointer (some ⟨K.H,0,none⟩),.agg #[.int .i64 7,.int .i64 A,.string S,.string T]] w (gX w K N):=by
 have hb0:Below w.heap.size w (w.alloc (.cells #[.int .i64 7,.int .i64 A,.string S,.string T] 43)):=(Below.refl _ _).alloc (Nat.le_refl _) _
 have hK0:aU (w.alloc (.cells #[.int .i64 7,.int .i64 A,.string S,.string T] 43)) w.heap.size 43 [.int .i64 7,.int .i64 A,.string S,.string T]:=heap_alloc_new w _
 have h0:=h.below hb0
 have xK:=h.h.lt
 have hlow:K.lo≤w.heap.size:=by have:=h.wd.bH;omega
 obtain⟨w0,hw0⟩:∃ w0,w.alloc (.cells #[.int .i64 7,.int .i64 A,.string S,.string T] 43)=w0:=⟨_,rfl⟩
 rw[hw0] at hb0 hK0 h0
 have k0:w0.cell? ⟨w.heap.size,0,none⟩=some (.int .i64 7):=hK0.cell 0
 have k1:w0.cell? ⟨w.heap.size,1,none⟩=some (.int .i64 A):=hK0.cell 1
 have k2:w0.cell? ⟨w.heap.size,2,none⟩=some (.string S):=hK0.cell 2
 have k3:w0.cell? ⟨w.heap.size,3,none⟩=some (.string T):=hK0.cell 3
 have I0:=hid h0
 have tZ:=hid (hb0.mono hlow)
 have hTm:T.size≤maxLen:=by unfold maxLen;omega
 obtain⟨te,hte⟩:∃ te,T.toList.isEmpty=te:=⟨_,rfl⟩
 clear hK0 h h0
 cases te with
 | true=>
  go_enter func7,ntmps7
  go_wp2_with fail
  refine(QF w0 K N G I0.out hn A S T).mono ?_;rintro e w1 ⟨rfl,⟨G',hG⟩,hb⟩
  have HG:=hid hG
  clear hG
  go_wp2_with fail
  go_ret
  exact⟨rfl,⟨G',HG.out⟩,tZ.out.trans hb⟩
 | false=>
  go_enter func7,ntmps7
  go_wp2_with fail
  refine(QF w0 K N G I0.out hn A S T).mono ?_;rintro e w1 ⟨rfl,⟨G',hG⟩,hb⟩
  have HG:=hid hG
  clear hG
  go_wp2_with fail
  go_ret
  exact⟨rfl,⟨G',HG.out⟩,tZ.out.trans hb⟩
theorem abx (w:World) (K:HK) (N:Nat) (G:HG) (h:Inv w K N G) (hn:N+1≤100000000) (A:Int) (S T:ByteArray) (hS:S.size≤1900000) (hT:T.size≤1900000) :
  Calls Tryz.prog 7 #[.pointer (some ⟨K.H,0,none⟩),.agg #[.int .i64 8,.int .i64 A,.string S,.string T]] w (gX w K N):=by
 have hb0:Below w.heap.size w (w.alloc (.cells #[.int .i64 8,.int .i64 A,.string S,.string T] 43)):=(Below.refl _ _).alloc (Nat.le_refl _) _
 have hK0:aU (w.alloc (.cells #[.int .i64 8,.int .i64 A,.string S,.string T] 43)) w.heap.size 43 [.int .i64 8,.int .i64 A,.string S,.string T]:=heap_alloc_new w _
 have h0:=h.below hb0
 have xK:=h.h.lt
 have hlow:K.lo≤w.heap.size:=by have:=h.wd.bH;omega
 obtain⟨w0,hw0⟩:∃ w0,w.alloc (.cells #[.int .i64 8,.int .i64 A,.string S,.string T] 43)=w0:=⟨_,rfl⟩
 rw[hw0] at hb0 hK0 h0
 have k0:w0.cell? ⟨w.heap.size,0,none⟩=some (.int .i64 8):=hK0.cell 0
 have k1:w0.cell? ⟨w.heap.size,1,none⟩=some (.int .i64 A):=hK0.cell 1
 have k2:w0.cell? ⟨w.heap.size,2,none⟩=some (.string S):=hK0.cell 2
 have k3:w0.cell? ⟨w.heap.size,3,none⟩=some (.string T):=hK0.cell 3
 have I0:=hid h0
 have tZ:=hid (hb0.mono hlow)
 have hTm:T.size≤maxLen:=by unfold maxLen;omega
 obtain⟨te,hte⟩:∃ te,T.toList.isEmpty=te:=⟨_,rfl⟩
 clear hK0 h h0
 cases te with
 | true=>
  go_enter func7,ntmps7
  go_wp2_with fail
  refine(Nb w0 K N G I0.out hn A S T).mono ?_;rintro e w1 ⟨rfl,⟨G',hG⟩,hb⟩
  have HG:=hid hG
  clear hG
  go_wp2_with fail
  go_ret
  exact⟨rfl,⟨G',HG.out⟩,tZ.out.trans hb⟩
 | false=>
  go_enter func7,ntmps7
  go_wp2_with fail
  refine(Nb w0 K N G I0.out hn A S T).mono ?_;rintro e w1 ⟨rfl,⟨G',hG⟩,hb⟩
  have HG:=hid hG
  clear hG
  go_wp2_with fail
  go_ret
  exact⟨rfl,⟨G',HG.out⟩,tZ.out.trans hb⟩
theorem aby (w:World) (K:HK) (N:Nat) (G:HG) (h:Inv w K N G) (hn:N+1≤100000000) (A:Int) (S T:ByteArray) (hS:S.size≤1900000) (hT:T.size≤1900000) :
  Calls Tryz.prog 7 #[.pointer (some ⟨K.H,0,none⟩),.agg #[.int .i64 9,.int .i64 A,.string S,.string T]] w (gX w K N):=by
 have hb0:Below w.heap.size w (w.alloc (.cells #[.int .i64 9,.int .i64 A,.string S,.string T] 43)):=(Below.refl _ _).alloc (Nat.le_refl _) _
 have hK0:aU (w.alloc (.cells #[.int .i64 9,.int .i64 A,.string S,.string T] 43)) w.heap.size 43 [.int .i64 9,.int .i64 A,.string S,.string T]:=heap_alloc_new w _
 have h0:=h.below hb0
 have xK:=h.h.lt
 have hlow:K.lo≤w.heap.size:=by have:=h.wd.bH;omega
 obtain⟨w0,hw0⟩:∃ w0,w.alloc (.cells #[.int .i64 9,.int .i64 A,.string S,.string T] 43)=w0:=⟨_,rfl⟩
 rw[hw0] at hb0 hK0 h0
 have k0:w0.cell? ⟨w.heap.size,0,none⟩=some (.int .i64 9):=hK0.cell 0
 have k1:w0.cell? ⟨w.heap.size,1,none⟩=some (.int .i64 A):=hK0.cell 1
 have k2:w0.cell? ⟨w.heap.size,2,none⟩=some (.string S):=hK0.cell 2
 have k3:w0.cell? ⟨w.heap.size,3,none⟩=some (.string T):=hK0.cell 3
 have I0:=hid h0
 have tZ:=hid (hb0.mono hlow)
 have hTm:T.size≤maxLen:=by unfold maxLen;omega
 obtain⟨te,hte⟩:∃ te,T.toList.isEmpty=te:=⟨_,rfl⟩
 clear hK0 h h0
 cases te with
 | true=>
  go_enter func7,ntmps7
  go_wp2_with fail
  refine(Hq w0 K N G I0.out hn A S T).mono ?_;rintro e w1 ⟨rfl,⟨G',hG⟩,hb⟩
  have HG:=hid hG
  clear hG
  go_wp2_with fail
  go_ret
  exact⟨rfl,⟨G',HG.out⟩,tZ.out.trans hb⟩
 | false=>
  go_enter func7,ntmps7
  go_wp2_with fail
  refine(Hq w0 K N G I0.out hn A S T).mono ?_;rintro e w1 ⟨rfl,⟨G',hG⟩,hb⟩
  have HG:=hid hG
  clear hG
  go_wp2_with fail
  go_ret
  exact⟨rfl,⟨G',HG.out⟩,tZ.out.trans hb⟩
theorem Y9 (w:World) (K:HK) (N:Nat) (G:HG) (h:Inv w K N G) (hn:N+1≤100000000) (A:Int) (S T:ByteArray) (hS:S.size≤1900000) (hT:T.size≤1900000) :
  Calls Tryz.prog 7 #[.pointer (some ⟨K.H,0,none⟩),.agg #[.int .i64 10,.int .i64 A,.string S,.string T]] w (gX w K N):=by
 have hb0:Below w.heap.size w (w.alloc (.cells #[.int .i64 10,.int .i64 A,.string S,.string T] 43)):=(Below.refl _ _).alloc (Nat.le_refl _) _
 have hK0:aU (w.alloc (.cells #[.int .i64 10,.int .i64 A,.string S,.string T] 43)) w.heap.size 43 [.int .i64 10,.int .i64 A,.string S,.string T]:=heap_alloc_new w _
 have h0:=h.below hb0
 have xK:=h.h.lt
 have hlow:K.lo≤w.heap.size:=by have:=h.wd.bH;omega
 obtain⟨w0,hw0⟩:∃ w0,w.alloc (.cells #[.int .i64 10,.int .i64 A,.string S,.string T] 43)=w0:=⟨_,rfl⟩
 rw[hw0] at hb0 hK0 h0
 have k0:w0.cell? ⟨w.heap.size,0,none⟩=some (.int .i64 10):=hK0.cell 0
 have k1:w0.cell? ⟨w.heap.size,1,none⟩=some (.int .i64 A):=hK0.cell 1
 have k2:w0.cell? ⟨w.heap.size,2,none⟩=some (.string S):=hK0.cell 2
 have k3:w0.cell? ⟨w.heap.size,3,none⟩=some (.string T):=hK0.cell 3
 have I0:=hid h0
 have tZ:=hid (hb0.mono hlow)
 have hTm:T.size≤maxLen:=by unfold maxLen;omega
 obtain⟨te,hte⟩:∃ te,T.toList.isEmpty=te:=⟨_,rfl⟩
 clear hK0 h h0
 cases te with
 | true=>
  go_enter func7,ntmps7
  go_wp2_with fail
  refine(Bf w0 K N G I0.out hn A S T).mono ?_;rintro e w1 ⟨rfl,⟨G',hG⟩,hb⟩
  have HG:=hid hG
  clear hG
  go_wp2_with fail
  go_ret
  exact⟨rfl,⟨G',HG.out⟩,tZ.out.trans hb⟩
 | false=>
  go_enter func7,ntmps7
  go_wp2_with fail
  refine(Bf w0 K N G I0.out hn A S T).mono ?_;rintro e w1 ⟨rfl,⟨G',hG⟩,hb⟩
  have HG:=hid hG
  clear hG
  go_wp2_with fail
  go_ret
  exact⟨rfl,⟨G',HG.out⟩,tZ.out.trans hb⟩
end Go.Proofs.YtgalebcpagmohaaGreatDoor
