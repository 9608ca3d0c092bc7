/- courierlaw: House.client: Poll. -/
import Derived.Test.YtgalebcpagmohaaGreatDoorMDHouse
import Derived.Deep.RegionHeld3
set_option linter.unusedSimpArgs false
set_option linter.unusedVariables false
set_option maxHeartbeats 8000000
set_option maxRecDepth 100000
namespace Go.Proofs.YtgalebcpagmohaaGreatDoor
open Go.Proofs.Tryz
open Go.RowKit Go.Conc
theorem Xr (w:World) (K:HK) (N:Nat) (G:HG) (h:Inv w K N G) (hn:N+1≤100000000) (A:Int) (S T:ByteArray) :
  Calls Tryz.prog 17 #[.pointer (some ⟨K.H,0,none⟩),.agg #[.int .i64 12,.int .i64 A,.string S,.string T]] w (gX w K N):=by
 have hb0:Below w.heap.size w (w.alloc (.cells #[.int .i64 12,.int .i64 A,.string S,.string T] 43)):=(Below.refl _ _).alloc (Nat.le_refl _) _
 have hK0:aU (w.alloc (.cells #[.int .i64 12,.int .i64 A,.string S,.string T] 43)) w.heap.size 43 [.int .i64 12,.int .i64 A,.string S,.string T]:=heap_alloc_new w _
 have h0:=h.below hb0
 have xK:=h.h.lt
 have hlow:K.lo≤w.heap.size:=by have:=h.wd.bH;omega
 have jK:=hid h
 have hBs:=h.wd.c.nb
 have hCs:=h.wd.c.nc
 obtain⟨w0,hw0⟩:∃ w0,w.alloc (.cells #[.int .i64 12,.int .i64 A,.string S,.string T] 43)=w0:=⟨_,rfl⟩
 rw[hw0] at hb0 hK0 h0
 have k0:w0.cell? ⟨w.heap.size,0,none⟩=some (.int .i64 12):=hK0.cell 0
 have k1:w0.cell? ⟨w.heap.size,1,none⟩=some (.int .i64 A):=hK0.cell 1
 have k2:w0.cell? ⟨w.heap.size,2,none⟩=some (.string S):=hK0.cell 2
 have k3:w0.cell? ⟨w.heap.size,3,none⟩=some (.string T):=hK0.cell 3
 have s1:w0.cell? ⟨K.H,1,none⟩=some (.int .i64 K.W):=h0.h.cell 1
 have s5:w0.cell? ⟨K.H,5,none⟩=some (.pointer (some ⟨K.cx,0,none⟩)):=h0.h.cell 5
 have s16:w0.cell? ⟨K.H,16,none⟩=some (.int .i64 G.c.Bs.length):=h0.h.cell 16
 have s17:w0.cell? ⟨K.H,17,none⟩=some (.int .i64 G.c.Cs.length):=h0.h.cell 17
 have rE:=hid hK0
 have Hb0:=hid hb0
 have I0:=hid (h0.below (Below.refl _ _).drew.drew)
 clear h0 hK0 hb0 h
 by_cases hA0:A<0
 case' pos=>
  have O8:=hid (show (if 0≤A∧A<(G.c.Bs.length:Nat) then(0:Int) else 15)=15 by rw[if_neg (by omega)])
  have dA:decide (A<0)=true:=by simp;omega
  clear hA0
 case' neg=>
  by_cases hAl:A<(G.c.Bs.length:Nat)
  case' pos=>
   have O8:=hid (show (if 0≤A∧A<(G.c.Bs.length:Nat) then(0:Int) else 15)=0 by rw[if_pos (by omega)])
   have dB:decide ((G.c.Bs.length:Int)≤A)=false:=by simp;omega
  case' neg=>
   have O8:=hid (show (if 0≤A∧A<(G.c.Bs.length:Nat) then(0:Int) else 15)=15 by rw[if_neg (by omega)])
   have dB:decide ((G.c.Bs.length:Int)≤A)=true:=by simp;omega
  all_goals
   have dA:decide (A<0)=false:=by simp;omega
   clear hA0 hAl
 all_goals
  have hxl:=I0.out.wd.x.lt
  have JA:Below w0.heap.size w0 (w0.alloc (.cells #[.int .i64 0,.string ⟨#[]⟩,.string ⟨#[]⟩] 123)).drew.drew:=((Below.refl _ _).alloc (Nat.le_refl _) _).drew.drew
  have Xt:=hid JA
  have IA:=hid (jK.out.below (Hb0.out.trans (JA.mono Hb0.out.size)))
  have abz:=IA.out.wd.x.lt
  have Si:=hid (show aU (w0.alloc (.cells #[.int .i64 0,.string ⟨#[]⟩,.string ⟨#[]⟩] 123)).drew.drew w0.heap.size 123 [.int .i64 0,.string ⟨#[]⟩,.string ⟨#[]⟩] from heap_alloc_new w0 _)
  have s5a:(w0.alloc (.cells #[.int .i64 0,.string ⟨#[]⟩,.string ⟨#[]⟩] 123)).cell? ⟨K.H,5,none⟩=some (.pointer (some ⟨K.cx,0,none⟩)):=IA.out.h.cell 5
  have k1a:(w0.alloc (.cells #[.int .i64 0,.string ⟨#[]⟩,.string ⟨#[]⟩] 123)).cell? ⟨w.heap.size,1,none⟩=some (.int .i64 A):=(rE.out.below JA).cell 1
  have HKC:=hid (show ∀ w',Below w0.heap.size w0 w'→w'.cell? ⟨K.H,5,none⟩=some (.pointer (some ⟨K.cx,0,none⟩))∧w'.cell? ⟨w.heap.size,1,none⟩=some (.int .i64 A) from fun w' hw'=>⟨(jK.out.below (Hb0.out.trans (hw'.mono Hb0.out.size))).h.cell 5,(rE.out.below hw').cell 1⟩)
  have hz0:=Hb0.out.size
  clear JA
  go_enter func17,ntmps17
  go_wp2_with fail
  go_region
  all_goals
   go_wp2_with fail
   go_region_held3 (fun w'=>w'.cell? ⟨K.H,5,none⟩=some (.pointer (some ⟨K.cx,0,none⟩))∧w'.cell? ⟨w.heap.size,1,none⟩=some (.int .i64 A))
    (exact HKC.out _ (by repeat (first | with_reducible assumption | with_reducible exact Below.refl _ _ | with_reducible apply Below.drew | (with_reducible refine Below.setCell ?_ (by first | exact Nat.le_refl _ | exact hbX.size) _) | (with_reducible refine Below.alloc ?_ (by first | exact Nat.le_refl _ | exact hbX.size) _))))
    (first | (go_at_call 51;first
    | (refine(WM (w:=w0.drew.drew) I0.out.wd.c (I0.out.wd.x.cell 0) hxl A).mono ?_;rintro e w1 ⟨rfl,hb1'⟩;rw[O8.out];have hbX:Below w0.heap.size w0 w1:=(Below.refl _ w0).drew.drew.trans hb1';have hbE:Below w1.heap.size w1 (w1.alloc (.cells #[.int .i64 0,.string ⟨#[]⟩,.string ⟨#[]⟩] 123)):=(Below.refl _ _).alloc (Nat.le_refl _) _;have BN:Below w0.heap.size w0 (w1.alloc (.cells #[.int .i64 0,.string ⟨#[]⟩,.string ⟨#[]⟩] 123)):=hbX.trans (hbE.mono hbX.size);have n1:(w1.alloc (.cells #[.int .i64 0,.string ⟨#[]⟩,.string ⟨#[]⟩] 123)).cell? ⟨w.heap.size,1,none⟩=some (.int .i64 A):=(rE.out.below BN).cell 1;have n16:(w1.alloc (.cells #[.int .i64 0,.string ⟨#[]⟩,.string ⟨#[]⟩] 123)).cell? ⟨K.H,16,none⟩=some (.int .i64 G.c.Bs.length):=(jK.out.below (Hb0.out.trans (BN.mono Hb0.out.size))).h.cell 16;have HB:=hid (show Below w.heap.size w (w1.alloc (.cells #[.int .i64 0,.string ⟨#[]⟩,.string ⟨#[]⟩] 123)).drew from(Hb0.out.trans (BN.mono Hb0.out.size)).drew);clear hbE BN hb1')
    | (refine(WM (w:=(w0.alloc (.cells #[.int .i64 0,.string ⟨#[]⟩,.string ⟨#[]⟩] 123)).drew.drew) IA.out.wd.c (IA.out.wd.x.cell 0) abz A).mono ?_;rintro e w1 ⟨rfl,hb1'⟩;rw[O8.out];have hbX:Below w0.heap.size w0 w1:=Xt.out.trans (hb1'.mono Xt.out.size);have hE1:=Si.out.below hb1';have v0:w1.cell? ⟨w0.heap.size,0,none⟩=some (.int .i64 0):=hE1.cell 0;have v1:w1.cell? ⟨w0.heap.size,1,none⟩=some (.string ⟨#[]⟩):=hE1.cell 1;have v2:w1.cell? ⟨w0.heap.size,2,none⟩=some (.string ⟨#[]⟩):=hE1.cell 2;have u0:=hE1.frozen 0;have u1:=hE1.frozen 1;have u2:=hE1.frozen 2;have BN:Below w0.heap.size w0 (((w1.setCell ⟨w0.heap.size,0,none⟩ (.int .i64 0)).setCell ⟨w0.heap.size,1,none⟩ (.string ⟨#[]⟩)).setCell ⟨w0.heap.size,2,none⟩ (.string ⟨#[]⟩)):=((hbX.setCell (p:=⟨w0.heap.size,0,none⟩) (Nat.le_refl _) _).setCell (p:=⟨w0.heap.size,1,none⟩) (Nat.le_refl _) _).setCell (p:=⟨w0.heap.size,2,none⟩) (Nat.le_refl _) _;have n1:(((w1.setCell ⟨w0.heap.size,0,none⟩ (.int .i64 0)).setCell ⟨w0.heap.size,1,none⟩ (.string ⟨#[]⟩)).setCell ⟨w0.heap.size,2,none⟩ (.string ⟨#[]⟩)).cell? ⟨w.heap.size,1,none⟩=some (.int .i64 A):=(rE.out.below BN).cell 1;have n16:(((w1.setCell ⟨w0.heap.size,0,none⟩ (.int .i64 0)).setCell ⟨w0.heap.size,1,none⟩ (.string ⟨#[]⟩)).setCell ⟨w0.heap.size,2,none⟩ (.string ⟨#[]⟩)).cell? ⟨K.H,16,none⟩=some (.int .i64 G.c.Bs.length):=(jK.out.below (Hb0.out.trans (BN.mono Hb0.out.size))).h.cell 16;have HB:=hid (show Below w.heap.size w (((w1.setCell ⟨w0.heap.size,0,none⟩ (.int .i64 0)).setCell ⟨w0.heap.size,1,none⟩ (.string ⟨#[]⟩)).setCell ⟨w0.heap.size,2,none⟩ (.string ⟨#[]⟩)).drew from(Hb0.out.trans (BN.mono Hb0.out.size)).drew);clear BN hb1' hE1)))
   all_goals
    go_wp2_with fail
    go_region
    all_goals
     go_wp2_with fail
     go_ret
     exact⟨rfl,⟨G,(jK.out.below HB.out).wd.more hn,(jK.out.below HB.out).h⟩,HB.out.mono hlow⟩
theorem PV (w:World) (K:HK) (N:Nat) (G:HG) (h:Inv w K N G) (hn:N+1≤100000000) (A:Int) (S T:ByteArray) :
  Calls Tryz.prog 17 #[.pointer (some ⟨K.H,0,none⟩),.agg #[.int .i64 14,.int .i64 A,.string S,.string T]] w (gX w K N):=by
 have hb0:Below w.heap.size w (w.alloc (.cells #[.int .i64 14,.int .i64 A,.string S,.string T] 43)):=(Below.refl _ _).alloc (Nat.le_refl _) _
 have hK0:aU (w.alloc (.cells #[.int .i64 14,.int .i64 A,.string S,.string T] 43)) w.heap.size 43 [.int .i64 14,.int .i64 A,.string S,.string T]:=heap_alloc_new w _
 have h0:=h.below hb0
 have xK:=h.h.lt
 have hlow:K.lo≤w.heap.size:=by have:=h.wd.bH;omega
 have jK:=hid h
 have hBs:=h.wd.c.nb
 have hCs:=h.wd.c.nc
 obtain⟨w0,hw0⟩:∃ w0,w.alloc (.cells #[.int .i64 14,.int .i64 A,.string S,.string T] 43)=w0:=⟨_,rfl⟩
 rw[hw0] at hb0 hK0 h0
 have k0:w0.cell? ⟨w.heap.size,0,none⟩=some (.int .i64 14):=hK0.cell 0
 have k1:w0.cell? ⟨w.heap.size,1,none⟩=some (.int .i64 A):=hK0.cell 1
 have k2:w0.cell? ⟨w.heap.size,2,none⟩=some (.string S):=hK0.cell 2
 have k3:w0.cell? ⟨w.heap.size,3,none⟩=some (.string T):=hK0.cell 3
 have s1:w0.cell? ⟨K.H,1,none⟩=some (.int .i64 K.W):=h0.h.cell 1
 have s5:w0.cell? ⟨K.H,5,none⟩=some (.pointer (some ⟨K.cx,0,none⟩)):=h0.h.cell 5
 have s16:w0.cell? ⟨K.H,16,none⟩=some (.int .i64 G.c.Bs.length):=h0.h.cell 16
 have s17:w0.cell? ⟨K.H,17,none⟩=some (.int .i64 G.c.Cs.length):=h0.h.cell 17
 have rE:=hid hK0
 have Hb0:=hid hb0
 have I0:=hid (h0.below (Below.refl _ _).drew.drew)
 clear h0 hK0 hb0 h
 by_cases hA0:A<0
 case' pos=>
  have O8:=hid (show (if 0≤A∧A<(G.c.Cs.length:Nat) then(0:Int) else 15)=15 by rw[if_neg (by omega)])
  have dA:decide (A<0)=true:=by simp;omega
  clear hA0
 case' neg=>
  by_cases hAl:A<(G.c.Cs.length:Nat)
  case' pos=>
   have O8:=hid (show (if 0≤A∧A<(G.c.Cs.length:Nat) then(0:Int) else 15)=0 by rw[if_pos (by omega)])
   have dB:decide ((G.c.Cs.length:Int)≤A)=false:=by simp;omega
  case' neg=>
   have O8:=hid (show (if 0≤A∧A<(G.c.Cs.length:Nat) then(0:Int) else 15)=15 by rw[if_neg (by omega)])
   have dB:decide ((G.c.Cs.length:Int)≤A)=true:=by simp;omega
  all_goals
   have dA:decide (A<0)=false:=by simp;omega
   clear hA0 hAl
 all_goals
  have hxl:=I0.out.wd.x.lt
  have JA:Below w0.heap.size w0 (w0.alloc (.cells #[.int .i64 0,.string ⟨#[]⟩,.string ⟨#[]⟩] 123)).drew.drew:=((Below.refl _ _).alloc (Nat.le_refl _) _).drew.drew
  have Xt:=hid JA
  have IA:=hid (jK.out.below (Hb0.out.trans (JA.mono Hb0.out.size)))
  have abz:=IA.out.wd.x.lt
  have Si:=hid (show aU (w0.alloc (.cells #[.int .i64 0,.string ⟨#[]⟩,.string ⟨#[]⟩] 123)).drew.drew w0.heap.size 123 [.int .i64 0,.string ⟨#[]⟩,.string ⟨#[]⟩] from heap_alloc_new w0 _)
  have s5a:(w0.alloc (.cells #[.int .i64 0,.string ⟨#[]⟩,.string ⟨#[]⟩] 123)).cell? ⟨K.H,5,none⟩=some (.pointer (some ⟨K.cx,0,none⟩)):=IA.out.h.cell 5
  have k1a:(w0.alloc (.cells #[.int .i64 0,.string ⟨#[]⟩,.string ⟨#[]⟩] 123)).cell? ⟨w.heap.size,1,none⟩=some (.int .i64 A):=(rE.out.below JA).cell 1
  have HKC:=hid (show ∀ w',Below w0.heap.size w0 w'→w'.cell? ⟨K.H,5,none⟩=some (.pointer (some ⟨K.cx,0,none⟩))∧w'.cell? ⟨w.heap.size,1,none⟩=some (.int .i64 A) from fun w' hw'=>⟨(jK.out.below (Hb0.out.trans (hw'.mono Hb0.out.size))).h.cell 5,(rE.out.below hw').cell 1⟩)
  have hz0:=Hb0.out.size
  clear JA
  go_enter func17,ntmps17
  go_wp2_with fail
  go_region
  all_goals
   go_wp2_with fail
   go_region_held3 (fun w'=>w'.cell? ⟨K.H,5,none⟩=some (.pointer (some ⟨K.cx,0,none⟩))∧w'.cell? ⟨w.heap.size,1,none⟩=some (.int .i64 A))
    (exact HKC.out _ (by repeat (first | with_reducible assumption | with_reducible exact Below.refl _ _ | with_reducible apply Below.drew | (with_reducible refine Below.setCell ?_ (by first | exact Nat.le_refl _ | exact hbX.size) _) | (with_reducible refine Below.alloc ?_ (by first | exact Nat.le_refl _ | exact hbX.size) _))))
    (first | (go_at_call 53;first
    | (refine(MP (w:=w0.drew.drew) I0.out.wd.c (I0.out.wd.x.cell 0) hxl A).mono ?_;rintro e w1 ⟨rfl,hb1'⟩;rw[O8.out];have hbX:Below w0.heap.size w0 w1:=(Below.refl _ w0).drew.drew.trans hb1';have hbE:Below w1.heap.size w1 (w1.alloc (.cells #[.int .i64 0,.string ⟨#[]⟩,.string ⟨#[]⟩] 123)):=(Below.refl _ _).alloc (Nat.le_refl _) _;have BN:Below w0.heap.size w0 (w1.alloc (.cells #[.int .i64 0,.string ⟨#[]⟩,.string ⟨#[]⟩] 123)):=hbX.trans (hbE.mono hbX.size);have n1:(w1.alloc (.cells #[.int .i64 0,.string ⟨#[]⟩,.string ⟨#[]⟩] 123)).cell? ⟨w.heap.size,1,none⟩=some (.int .i64 A):=(rE.out.below BN).cell 1;have n16:(w1.alloc (.cells #[.int .i64 0,.string ⟨#[]⟩,.string ⟨#[]⟩] 123)).cell? ⟨K.H,17,none⟩=some (.int .i64 G.c.Cs.length):=(jK.out.below (Hb0.out.trans (BN.mono Hb0.out.size))).h.cell 17;have HB:=hid (show Below w.heap.size w (w1.alloc (.cells #[.int .i64 0,.string ⟨#[]⟩,.string ⟨#[]⟩] 123)).drew from(Hb0.out.trans (BN.mono Hb0.out.size)).drew);clear hbE BN hb1')
    | (refine(MP (w:=(w0.alloc (.cells #[.int .i64 0,.string ⟨#[]⟩,.string ⟨#[]⟩] 123)).drew.drew) IA.out.wd.c (IA.out.wd.x.cell 0) abz A).mono ?_;rintro e w1 ⟨rfl,hb1'⟩;rw[O8.out];have hbX:Below w0.heap.size w0 w1:=Xt.out.trans (hb1'.mono Xt.out.size);have hE1:=Si.out.below hb1';have v0:w1.cell? ⟨w0.heap.size,0,none⟩=some (.int .i64 0):=hE1.cell 0;have v1:w1.cell? ⟨w0.heap.size,1,none⟩=some (.string ⟨#[]⟩):=hE1.cell 1;have v2:w1.cell? ⟨w0.heap.size,2,none⟩=some (.string ⟨#[]⟩):=hE1.cell 2;have u0:=hE1.frozen 0;have u1:=hE1.frozen 1;have u2:=hE1.frozen 2;have BN:Below w0.heap.size w0 (((w1.setCell ⟨w0.heap.size,0,none⟩ (.int .i64 0)).setCell ⟨w0.heap.size,1,none⟩ (.string ⟨#[]⟩)).setCell ⟨w0.heap.size,2,none⟩ (.string ⟨#[]⟩)):=((hbX.setCell (p:=⟨w0.heap.size,0,none⟩) (Nat.le_refl _) _).setCell (p:=⟨w0.heap.size,1,none⟩) (Nat.le_refl _) _).setCell (p:=⟨w0.heap.size,2,none⟩) (Nat.le_refl _) _;have n1:(((w1.setCell ⟨w0.heap.size,0,none⟩ (.int .i64 0)).setCell ⟨w0.heap.size,1,none⟩ (.string ⟨#[]⟩)).setCell ⟨w0.heap.size,2,none⟩ (.string ⟨#[]⟩)).cell? ⟨w.heap.size,1,none⟩=some (.int .i64 A):=(rE.out.below BN).cell 1;have n16:(((w1.setCell ⟨w0.heap.size,0,none⟩ (.int .i64 0)).setCell ⟨w0.heap.size,1,none⟩ (.string ⟨#[]⟩)).setCell ⟨w0.heap.size,2,none⟩ (.string ⟨#[]⟩)).cell? ⟨K.H,17,none⟩=some (.int .i64 G.c.Cs.length):=(jK.out.below (Hb0.out.trans (BN.mono Hb0.out.size))).h.cell 17;have HB:=hid (show Below w.heap.size w (((w1.setCell ⟨w0.heap.size,0,none⟩ (.int .i64 0)).setCell ⟨w0.heap.size,1,none⟩ (.string ⟨#[]⟩)).setCell ⟨w0.heap.size,2,none⟩ (.string ⟨#[]⟩)).drew from(Hb0.out.trans (BN.mono Hb0.out.size)).drew);clear BN hb1' hE1)))
   all_goals
    go_wp2_with fail
    go_region
    all_goals
     go_wp2_with fail
     go_ret
     exact⟨rfl,⟨G,(jK.out.below HB.out).wd.more hn,(jK.out.below HB.out).h⟩,HB.out.mono hlow⟩
end Go.Proofs.YtgalebcpagmohaaGreatDoor
