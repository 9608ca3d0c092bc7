/- courierlaw: House.client: Subscribe. -/
import Derived.Test.YtgalebcpagmohaaGreatDoorMDHouse
import Derived.Test.YtgalebcpagmohaaGreatDoorMDF
import Derived.Test.YtgalebcpagmohaaGreatDoorKDCallD
import Derived.Deep.RegionHeld3
set_option linter.unusedSimpArgs false
set_option linter.unusedVariables false
set_option maxHeartbeats 8000000
set_option maxRecDepth 100000
namespace Go.Proofs.YtgalebcpagmohaaGreatDoor
open Go.Proofs.Tryz
open Go.RowKit Go.Conc
theorem adN {w:World} {lo x:Nat} {W D R:Int} {g:jY} (h:Cl w lo W D R g) (hx:w.cell? ⟨x,0,none⟩=some (.pointer (some ⟨g.b,0,none⟩))) (hE:Env w) (t u:ByteArray) (hu:u.size≤100000000) :
  Calls Tryz.prog 49 #[.pointer (some ⟨x,0,none⟩),.string t,.string u] w (fun e w'=>∃ n z:Int,e=.returned (.tuple #[.int .i64 n,.int .i64 z])∧mG w lo W D R g (adw g W t u n z) w') :=
 MO w x g.b hx t u _ (EL w lo W D R g h hE t u hu)
theorem abA {w:World} {lo x:Nat} {W D R:Int} {g:jY} (h:Cl w lo W D R g) (hx:w.cell? ⟨x,0,none⟩=some (.pointer (some ⟨g.b,0,none⟩))) (hE:Env w) (hO:∀ cb,lo≤cb→Own cb) (hW8:W≤8) (t u:ByteArray) (hu:u.size≤maxLen) :
  Calls Tryz.prog 52 #[.pointer (some ⟨x,0,none⟩),.string t,.string u] w (fun e w'=>∃ n z:Int,e=.returned (.tuple #[.int .i64 n,.int .i64 z])∧mG w lo W D R g (ZJ g W t u n z) w') :=
 aaR w x g.b hx t u _ (TT w lo W D R g h hE hO hW8 t u hu)
theorem Inv.asked {w w1:World} {K:HK} {N:Nat} {G:HG} {g':jY} (h:Inv w K N G) (hn:N+1≤100000000) (oV:Cl w1 K.lo K.W K.D K.R g') (eF:aN (vG G.c) w w1) (hSt:GY w G.c g') (JB:g'.silence=G.c.silence):Wd w1 K (N+1) { G with c:=g' } ∧ aU w1 K.H 33 (nJ K G)∧Below K.lo w w1:=by
 have r:=(h.wd.more hn).cli oV eF hSt (by rw[JB];exact(h.wd.more hn).sl)
 exact⟨r.1,r.2.1 _ h.h,r.2.2⟩
theorem Za (w:World) (K:HK) (N:Nat) (G:HG) (h:Inv w K N G) (hn:N+1≤100000000) (A:Int) (S T:ByteArray) (hS:S.size≤100000000) (hT:T.size≤100000000) :
  Calls Tryz.prog 17 #[.pointer (some ⟨K.H,0,none⟩),.agg #[.int .i64 11,.int .i64 A,.string S,.string T]] w (gX w K N):=by
 have hb0:Below w.heap.size w (w.alloc (.cells #[.int .i64 11,.int .i64 A,.string S,.string T] 43)):=(Below.refl _ _).alloc (Nat.le_refl _) _
 have hK0:aU (w.alloc (.cells #[.int .i64 11,.int .i64 A,.string S,.string T] 43)) w.heap.size 43 [.int .i64 11,.int .i64 A,.string S,.string T]:=heap_alloc_new w _
 have h0:=h.below hb0
 have xK:=h.h.lt
 have hlow:K.lo≤w.heap.size:=by have:=h.wd.bH;omega
 have jK:=hid h
 have hBs:=h.wd.c.nb
 have hCs:=h.wd.c.nc
 obtain⟨w0,hw0⟩:∃ w0,w.alloc (.cells #[.int .i64 11,.int .i64 A,.string S,.string T] 43)=w0:=⟨_,rfl⟩
 rw[hw0] at hb0 hK0 h0
 have k0:w0.cell? ⟨w.heap.size,0,none⟩=some (.int .i64 11):=hK0.cell 0
 have k1:w0.cell? ⟨w.heap.size,1,none⟩=some (.int .i64 A):=hK0.cell 1
 have k2:w0.cell? ⟨w.heap.size,2,none⟩=some (.string S):=hK0.cell 2
 have k3:w0.cell? ⟨w.heap.size,3,none⟩=some (.string T):=hK0.cell 3
 have s1:w0.cell? ⟨K.H,1,none⟩=some (.int .i64 K.W):=h0.h.cell 1
 have s5:w0.cell? ⟨K.H,5,none⟩=some (.pointer (some ⟨K.cx,0,none⟩)):=h0.h.cell 5
 have s16:w0.cell? ⟨K.H,16,none⟩=some (.int .i64 G.c.Bs.length):=h0.h.cell 16
 have s17:w0.cell? ⟨K.H,17,none⟩=some (.int .i64 G.c.Cs.length):=h0.h.cell 17
 have rE:=hid hK0
 have Hb0:=hid hb0
 have I0:=hid (h0.below (Below.refl _ _).drew.drew)
 clear h0 hK0 hb0 h
 have HKP:=hid (show ∀ w',aN (vG G.c) w0.drew.drew w'→w'.cell? ⟨K.H,5,none⟩=some (.pointer (some ⟨K.cx,0,none⟩))∧w'.cell? ⟨w.heap.size,2,none⟩=some (.string S)∧w'.cell? ⟨w.heap.size,3,none⟩=some (.string T) from fun w' hw'=>
  ⟨(aU.only (w:=w0.drew.drew) I0.out.h hw' I0.out.wd.c.only (by decide)).cell 5,(aU.only (w:=w0.drew.drew) rE.out hw' I0.out.wd.c.only (by decide)).cell 2,(aU.only (w:=w0.drew.drew) rE.out hw' I0.out.wd.c.only (by decide)).cell 3⟩)
 have HSub:=hid (adN I0.out.wd.c (I0.out.wd.x.cell 0) I0.out.wd.env S T hT)
 obtain⟨fb,hfb⟩:∃ fb,decide (K.W≤(G.c.Bs.length:Int)+(G.c.Cs.length:Int))=fb:=⟨_,rfl⟩
 have HFB:=hid hfb
 go_enter func17,ntmps17
 go_wp2_with fail
 go_region
 all_goals
  go_wp2_with fail
  go_region_held3 (fun w'=>w'.cell? ⟨K.H,5,none⟩=some (.pointer (some ⟨K.cx,0,none⟩))∧w'.cell? ⟨w.heap.size,2,none⟩=some (.string S)∧w'.cell? ⟨w.heap.size,3,none⟩=some (.string T))
   (exact HKP.out _ (by first | with_reducible assumption | exact aN.refl _ _))
   (first | (go_at_call 49;refine HSub.out.mono ?_;rintro e w1 ⟨n,z,rfl,g',oV,eF,hSt,hA⟩))
  have JB:g'.silence=G.c.silence∧g'.last=G.c.last∧g'.up=G.c.up∧g'.had=G.c.had∧g'.Cs=G.c.Cs:=by
   rcases hA with⟨_,_,_,rfl⟩ | ⟨_,_,⟨_,_,_,rfl⟩ | ⟨_,_,_,_,rfl⟩ | ⟨_,_,_,_,_,_,_,_,rfl⟩⟩<;>exact⟨rfl,rfl,rfl,rfl,rfl⟩
  have HA:=hid hA
  have BK:=hid JB
  have HW:=hid (I0.out.asked hn oV eF hSt JB.1)
  have qV:=hid (aU.only (w:=w0.drew.drew) rE.out eF I0.out.wd.c.only (by decide))
  have HKQ:=hid (show ∀ w',Below w1.heap.size w1 w'→w'.cell? ⟨K.H,0,none⟩=some (.string K.schema)∧w'.cell? ⟨w.heap.size,2,none⟩=some (.string S) from fun w' hw'=>⟨(HW.out.2.1.below hw').cell 0,(qV.out.below hw').cell 2⟩)
  have zV:=hid ((lV (s:=K.schema) (kind:=ByteArray.mk #[115,116,114,101,97,109]) (name:=S) (X:=G.c.X) w1.drew jK.out.wd.ps (Or.inl ⟨mJ,rfl⟩) jK.out.wd.pc).mono (R':=fun e w'=>∃ (a:Option Addr) (n c:Nat),e=.returned (.slice a n c)∧Below w1.heap.size w1 w'∧BQ G.c.X 2 S w1.drew w' a n c) (fun e w' h=>by
   obtain⟨a,n,c,he,hb,hq⟩:=h
   exact⟨a,n,c,he,(Below.refl _ w1).drew.trans hb,hq⟩))
  have q0:=(HKQ.out w1 (Below.refl _ _)).1
  have q2:=(HKQ.out w1 (Below.refl _ _)).2
  clear oV eF hSt hA JB
  go_wp2_with fail
  go_region_held3 (fun w'=>w'.cell? ⟨K.H,0,none⟩=some (.string K.schema)∧w'.cell? ⟨w.heap.size,2,none⟩=some (.string S))
   (exact HKQ.out _ (by repeat (first | with_reducible assumption | with_reducible exact Below.refl _ _ | with_reducible apply Below.drew)))
   (first | (go_at_call 41;refine zV.out.mono ?_;rintro e w2 ⟨ba,bn,bc,rfl,hb2,Ho⟩))
  have KX:=hid Ho
  have Nh:=hid (qV.out.below hb2)
  have p2:w2.cell? ⟨w.heap.size,2,none⟩=some (.string S):=Nh.out.cell 2
  have p3:w2.cell? ⟨w.heap.size,3,none⟩=some (.string T):=Nh.out.cell 3
  clear Ho q0 q2
  go_wp2_with fail
  refine(Jm S T w2 (HW.out.1.env.below hb2) hS hT).mono ?_;rintro e w3 ⟨cb,rfl,hcb,hb3⟩
  have HCB:=hid hcb
  have rW:Below w1.heap.size w1 w3:=hb2.trans (hb3.mono hb2.size)
  have XQ:=hid (HW.out.2.1.below rW)
  have HW3:=hid (HW.out.1.below rW)
  have h16:w3.cell? ⟨K.H,16,none⟩=some (.int .i64 G.c.Bs.length):=XQ.out.cell 16
  have f16:=XQ.out.frozen 16
  have hlow1:K.lo≤w1.heap.size:=by have:=HW.out.1.bH;have:=HW.out.2.1.lt;omega
  have Xq:=hid (show Below K.lo w w3 from((Hb0.out.mono hlow).trans (Below.mono (Below.refl _ w0).drew.drew (by have:=Hb0.out.size;omega))).trans (HW.out.2.2.trans (rW.mono hlow1)))
  have ZK:=hid (show ∀ Bs',G.c.Bs=Bs'→g'.Bs=Bs'→aU w3 K.H 33 (nJ K { G with c:=g' }) from fun Bs' e1 e2=>by
   have:=XQ.out
   unfold nJ at this ⊢
   obtain⟨_,e3,e4,e5,e6⟩:=BK.out
   rw[e3,e4,e5,e6,e2,← e1]
   exact this)
  have htot:=jK.out.wd.c.tot
  have Xu:=hid htot
  clear hcb hb2 hb3 rW htot hfb
  rcases KX.out with⟨hf,rfl,rfl,rfl⟩ | ⟨i,x,gb,hf,hx,rfl,hn1,hn2,hgl,hgc,hgt⟩
  ·have hq:=zk w3
   rcases HA.out with⟨_,rfl,rfl,rfl⟩ | ⟨i,hfi,_⟩
   ·clear hf
    go_wp2_with fail
    go_ret
    exact⟨rfl,⟨_,HW3.out,ZK.out _ rfl rfl⟩,Xq.out⟩
   ·have:=hf.uniq hfi;omega
  ·have hq:=sN w3 ⟨gb,0,none⟩ bn bc
   rcases HA.out with⟨hfi,_⟩ | ⟨i',hfi,hcs⟩
   ·have:=hf.uniq hfi;omega
   ·clear hf hx hgl hgc hgt hfi
    rcases hcs with⟨hno,rfl,rfl,rfl⟩ | ⟨hyes,TU,rfl,rfl,rfl⟩ | ⟨hyes,hnf,rfl,rfl,asked,ax,streams,B,rfl⟩
    ·have hcf:cb=false:=by
      cases hc:cb with
      | false=>rfl
      | true=>exact absurd (HCB.out.1 hc) hno
     subst hcf
     clear hno
     go_wp2_with fail
     go_ret
     exact⟨rfl,⟨_,HW3.out,ZK.out _ rfl rfl⟩,Xq.out⟩
    ·have hct:=HCB.out.2 hyes
     subst hct
     cases fb with
     | true=>
      clear TU hyes
      go_wp2_with fail
      go_ret
      exact⟨rfl,⟨_,HW3.out,ZK.out _ rfl rfl⟩,Xq.out⟩
     | false=>
      have h8:decide ((8:Int)≤(G.c.Bs.length:Int))=true:=by
       have h1:=HFB.out
       have h2:=Xu.out
       simp only[decide_eq_false_iff_not] at h1
       simp only[decide_eq_true_eq]
       rcases TU with h | h<;>omega
      clear TU hyes
      go_wp2_with fail
      go_ret
      exact⟨rfl,⟨_,HW3.out,ZK.out _ rfl rfl⟩,Xq.out⟩
    ·have hct:=HCB.out.2 hyes
     subst hct
     have Xo:fb=false:=by
      cases hf:fb with
      | false=>rfl
      | true=>
       have h1:=HFB.out
       have h2:=Xu.out
       rw[hf] at h1
       simp only[decide_eq_true_eq] at h1
       exact absurd (Or.inr (by omega)) hnf
     subst Xo
     have h8:decide ((8:Int)≤(G.c.Bs.length:Int))=false:=by
      simp only[decide_eq_false_iff_not]
      intro h
      exact hnf (Or.inl (by omega))
     have hB4:=XQ.out.set 16 (.int .i64 ((G.c.Bs.length:Int)+1))
     have hc4:aN (fun k=>k=K.H) w3 (w3.setCell ⟨K.H,16,none⟩ (.int .i64 ((G.c.Bs.length:Int)+1))):=(aN.refl _ _).setCell _ _ (fun _=>rfl)
     have hfin:=HW3.out.oL XQ.out hc4
     have HB4:=hid hB4
     have HFin:=hid hfin
     have abC:=hid (show (G.c.Bs++[B]).length=G.c.Bs.length+1 by simp)
     have g16:(w3.setCell ⟨K.H,16,none⟩ (.int .i64 ((G.c.Bs.length:Int)+1))).cell? ⟨K.H,16,none⟩=some (.int .i64 ((G.c.Bs.length:Int)+1)):=hB4.cell 16
     clear hnf hyes hB4 hc4 hfin
     go_wp2_with fail
     go_ret
     refine⟨aG (by simp),⟨_,HFin.out.1,?_⟩,Xq.out.trans HFin.out.2⟩
     have:=HB4.out
     unfold nJ at this ⊢
     show aU _ K.H _ [_,_,_,_,_,_,_,_,_,_,_,_,_,_,_,_,.int .i64 ((G.c.Bs++[B]).length:Nat),_]
     rw[abC.out]
     exact this
theorem Xv (w:World) (K:HK) (N:Nat) (G:HG) (h:Inv w K N G) (hn:N+1≤100000000) (A:Int) (S T:ByteArray) (hT:T.size≤maxLen) :
  Calls Tryz.prog 17 #[.pointer (some ⟨K.H,0,none⟩),.agg #[.int .i64 13,.int .i64 A,.string S,.string T]] w (gX w K N):=by
 have hb0:Below w.heap.size w (w.alloc (.cells #[.int .i64 13,.int .i64 A,.string S,.string T] 43)):=(Below.refl _ _).alloc (Nat.le_refl _) _
 have hK0:aU (w.alloc (.cells #[.int .i64 13,.int .i64 A,.string S,.string T] 43)) w.heap.size 43 [.int .i64 13,.int .i64 A,.string S,.string T]:=heap_alloc_new w _
 have h0:=h.below hb0
 have xK:=h.h.lt
 have hlow:K.lo≤w.heap.size:=by have:=h.wd.bH;omega
 have jK:=hid h
 have hBs:=h.wd.c.nb
 have hCs:=h.wd.c.nc
 obtain⟨w0,hw0⟩:∃ w0,w.alloc (.cells #[.int .i64 13,.int .i64 A,.string S,.string T] 43)=w0:=⟨_,rfl⟩
 rw[hw0] at hb0 hK0 h0
 have k0:w0.cell? ⟨w.heap.size,0,none⟩=some (.int .i64 13):=hK0.cell 0
 have k1:w0.cell? ⟨w.heap.size,1,none⟩=some (.int .i64 A):=hK0.cell 1
 have k2:w0.cell? ⟨w.heap.size,2,none⟩=some (.string S):=hK0.cell 2
 have k3:w0.cell? ⟨w.heap.size,3,none⟩=some (.string T):=hK0.cell 3
 have s1:w0.cell? ⟨K.H,1,none⟩=some (.int .i64 K.W):=h0.h.cell 1
 have s5:w0.cell? ⟨K.H,5,none⟩=some (.pointer (some ⟨K.cx,0,none⟩)):=h0.h.cell 5
 have s16:w0.cell? ⟨K.H,16,none⟩=some (.int .i64 G.c.Bs.length):=h0.h.cell 16
 have s17:w0.cell? ⟨K.H,17,none⟩=some (.int .i64 G.c.Cs.length):=h0.h.cell 17
 have rE:=hid hK0
 have Hb0:=hid hb0
 have I0:=hid (h0.below (Below.refl _ _).drew.drew)
 clear h0 hK0 hb0 h
 have HKP:=hid (show ∀ w',aN (vG G.c) w0.drew.drew w'→w'.cell? ⟨K.H,5,none⟩=some (.pointer (some ⟨K.cx,0,none⟩))∧w'.cell? ⟨w.heap.size,2,none⟩=some (.string S)∧w'.cell? ⟨w.heap.size,3,none⟩=some (.string T) from fun w' hw'=>
  ⟨(aU.only (w:=w0.drew.drew) I0.out.h hw' I0.out.wd.c.only (by decide)).cell 5,(aU.only (w:=w0.drew.drew) rE.out hw' I0.out.wd.c.only (by decide)).cell 2,(aU.only (w:=w0.drew.drew) rE.out hw' I0.out.wd.c.only (by decide)).cell 3⟩)
 have ag9:=hid (abA I0.out.wd.c (I0.out.wd.x.cell 0) I0.out.wd.env I0.out.wd.own I0.out.wd.cw.2 S T hT)
 obtain⟨fb,hfb⟩:∃ fb,decide (K.W≤(G.c.Bs.length:Int)+(G.c.Cs.length:Int))=fb:=⟨_,rfl⟩
 have HFB:=hid hfb
 go_enter func17,ntmps17
 go_wp2_with fail
 go_region
 all_goals
  go_wp2_with fail
  go_region_held3 (fun w'=>w'.cell? ⟨K.H,5,none⟩=some (.pointer (some ⟨K.cx,0,none⟩))∧w'.cell? ⟨w.heap.size,2,none⟩=some (.string S)∧w'.cell? ⟨w.heap.size,3,none⟩=some (.string T))
   (exact HKP.out _ (by first | with_reducible assumption | exact aN.refl _ _))
   (first | (go_at_call 52;refine ag9.out.mono ?_;rintro e w1 ⟨n,z,rfl,g',oV,eF,hSt,hA⟩))
  have JB:g'.silence=G.c.silence∧g'.last=G.c.last∧g'.up=G.c.up∧g'.had=G.c.had∧g'.Bs=G.c.Bs:=by
   rcases hA with⟨_,_,_,rfl⟩ | ⟨_,_,_,_,_,_,_,⟨_,_,_,rfl⟩ | ⟨_,_,_,_,rfl⟩ | ⟨_,_,_,_,_,_,_,_,rfl⟩⟩<;>exact⟨rfl,rfl,rfl,rfl,rfl⟩
  have HA:=hid hA
  have BK:=hid JB
  have HW:=hid (I0.out.asked hn oV eF hSt JB.1)
  have qV:=hid (aU.only (w:=w0.drew.drew) rE.out eF I0.out.wd.c.only (by decide))
  have HKQ:=hid (show ∀ w',Below w1.heap.size w1 w'→w'.cell? ⟨K.H,0,none⟩=some (.string K.schema)∧w'.cell? ⟨w.heap.size,2,none⟩=some (.string S) from fun w' hw'=>⟨(HW.out.2.1.below hw').cell 0,(qV.out.below hw').cell 2⟩)
  have zV:=hid ((lV (s:=K.schema) (kind:=ByteArray.mk #[99,97,108,108]) (name:=S) (X:=G.c.X) w1.drew jK.out.wd.ps (Or.inr ⟨TP,rfl⟩) jK.out.wd.pc).mono (R':=fun e w'=>∃ (a:Option Addr) (n c:Nat),e=.returned (.slice a n c)∧Below w1.heap.size w1 w'∧BQ G.c.X 3 S w1.drew w' a n c) (fun e w' h=>by
   obtain⟨a,n,c,he,hb,hq⟩:=h
   exact⟨a,n,c,he,(Below.refl _ w1).drew.trans hb,hq⟩))
  have q0:=(HKQ.out w1 (Below.refl _ _)).1
  have q2:=(HKQ.out w1 (Below.refl _ _)).2
  clear oV eF hSt hA JB
  go_wp2_with fail
  go_region_held3 (fun w'=>w'.cell? ⟨K.H,0,none⟩=some (.string K.schema)∧w'.cell? ⟨w.heap.size,2,none⟩=some (.string S))
   (exact HKQ.out _ (by repeat (first | with_reducible assumption | with_reducible exact Below.refl _ _ | with_reducible apply Below.drew)))
   (first | (go_at_call 41;refine zV.out.mono ?_;rintro e w2 ⟨ba,bn,bc,rfl,hb2,Ho⟩))
  have KX:=hid Ho
  have Nh:=hid (qV.out.below hb2)
  have wF:=hid (HW.out.2.1.below hb2)
  have HW2:=hid (HW.out.1.below hb2)
  have hlow1:K.lo≤w1.heap.size:=by have:=HW.out.1.bH;have:=HW.out.2.1.lt;omega
  have hlow2:K.lo≤w2.heap.size:=by have:=hb2.size;omega
  have adP:=hid (show Below K.lo w w2 from((Hb0.out.mono hlow).trans (Below.mono (Below.refl _ w0).drew.drew (by have:=Hb0.out.size;omega))).trans (HW.out.2.2.trans (hb2.mono hlow1)))
  have ZK:=hid (show ∀ w',Below w2.heap.size w2 w'→g'.Cs=G.c.Cs→aU w' K.H 33 (nJ K { G with c:=g' }) from fun w' hw' e2=>by
   have:=wF.out.below hw'
   unfold nJ at this ⊢
   obtain⟨_,e3,e4,e5,e6⟩:=BK.out
   rw[e3,e4,e5,e6,e2]
   exact this)
  have htot:=jK.out.wd.c.tot
  have Xu:=hid htot
  have hcw:=jK.out.wd.cw
  clear Ho q0 q2 hb2 htot hfb
  rcases KX.out with⟨hf,rfl,rfl,rfl⟩ | ⟨i,x,gb,hf,hx,rfl,hn1,hn2,hgl,hgc,hgt⟩
  ·have hq:=zk w2
   rcases HA.out with⟨_,rfl,rfl,rfl⟩ | ⟨i,_,hfi,_⟩
   ·clear hf
    go_wp2_with fail
    go_ret
    exact⟨rfl,⟨_,HW2.out,ZK.out _ (Below.refl _ _) (by trivial)⟩,adP.out⟩
   ·have:=hf.uniq hfi;omega
  ·have hq:=sN w2 ⟨gb,0,none⟩ bn bc
   rcases HA.out with⟨hfi,_⟩ | ⟨i',x',hfi,hx',E,d,hPE,hcs⟩
   ·have:=hf.uniq hfi;omega
   ·have hii:i=i':=by have:=hf.uniq hfi;omega
    subst hii
    rw[hx] at hx'
    obtain rfl:x=x':=Option.some.inj hx'
    have HPE:=hid (show Je K.schema (cellText x.it.base) T E d from Or.inr ⟨G.c.X,jK.out.wd.pa,jK.out.wd.ps,jK.out.wd.pc,hPE⟩)
    generalize cellText x.it.base=bt at *
    have ZF:=hid hcs
    have HKV:=hid (show ∀ w',Below w2.heap.size w2 w'→w'.cell? ⟨gb,0,none⟩=some (.string bt)∧w'.cell? ⟨w.heap.size,3,none⟩=some (.string T) from fun w' hw'=>⟨(hw'.cell (p:=⟨gb,0,none⟩) hgl).trans hgc,(Nh.out.below hw').cell 3⟩)
    have ahb:=hid ((EO w2.drew K.H K.schema bt T (show w2.drew.cell? ⟨K.H,0,none⟩=_ from wF.out.cell 0) jK.out.wd.ps hT (HW2.out.env.below (Below.refl _ _).drew) (fun cb hcb=>jK.out.wd.own cb (Nat.le_trans hlow2 hcb))).mono (R':=fun e w'=>∃ (E':Int) (b:List UInt8),e=.returned (.int .i64 E')∧zO K.schema bt T E' b∧Below w2.heap.size w2 w') (fun e w' h=>by
     obtain⟨E',b,he,ha,hb⟩:=h
     exact⟨E',b,he,ha,(Below.refl _ w2).drew.trans hb⟩))
    have r0:=(HKV.out w2 (Below.refl _ _)).1
    have r3:=(HKV.out w2 (Below.refl _ _)).2
    clear hf hx hgl hgc hgt hfi hcs hPE hx'
    have hbn:bn=1∨bn=2:=by omega
    rcases hbn with rfl | rfl
    all_goals
     go_wp2_with fail
     go_region_held3 (fun w'=>w'.cell? ⟨gb,0,none⟩=some (.string bt)∧w'.cell? ⟨w.heap.size,3,none⟩=some (.string T))
      (exact HKV.out _ (by repeat (first | with_reducible assumption | with_reducible exact Below.refl _ _ | with_reducible apply Below.drew)))
      (first | (go_at_call 44;refine ahb.out.mono ?_;rintro e w3 ⟨E',b,rfl,hEA,hb3⟩))
     have hEE:=(yX HPE.out hEA).1
     subst hEE
     have HW3:=hid (HW2.out.below hb3)
     have XQ:=hid (wF.out.below hb3)
     have Xq:=hid (adP.out.trans (hb3.mono hlow2))
     have Hb3:=hid hb3
     have h17:w3.cell? ⟨K.H,17,none⟩=some (.int .i64 G.c.Cs.length):=XQ.out.cell 17
     have f17:=XQ.out.frozen 17
     clear hEA r0 r3 hb3
     rcases ZF.out with⟨hE,rfl,rfl,rfl⟩ | ⟨rfl,TU,rfl,rfl,rfl⟩ | ⟨rfl,hnf,rfl,rfl,asked,ax,calls,B,rfl⟩
     ·have hEB:(z != 0)=true:=by simpa using hE
      clear hE
      go_wp2_with fail
      go_ret
      exact⟨aG (by simp),⟨_,HW3.out,ZK.out _ Hb3.out (by trivial)⟩,Xq.out⟩
     ·have Xo:fb=true:=by
       cases hf:fb with
       | true=>rfl
       | false=>
        have h1:=HFB.out
        have h2:=Xu.out
        rw[hf] at h1
        simp only[decide_eq_false_iff_not] at h1
        rcases TU with h | h | h<;>omega
      subst Xo
      clear TU
      go_wp2_with fail
      go_ret
      exact⟨rfl,⟨_,HW3.out,ZK.out _ Hb3.out (by trivial)⟩,Xq.out⟩
     ·have Xo:fb=false:=by
       cases hf:fb with
       | false=>rfl
       | true=>
        have h1:=HFB.out
        have h2:=Xu.out
        rw[hf] at h1
        simp only[decide_eq_true_eq] at h1
        exact absurd (Or.inr (Or.inr (by omega))) hnf
      subst Xo
      have hB4:=XQ.out.set 17 (.int .i64 ((G.c.Cs.length:Int)+1))
      have hc4:aN (fun k=>k=K.H) w3 (w3.setCell ⟨K.H,17,none⟩ (.int .i64 ((G.c.Cs.length:Int)+1))):=(aN.refl _ _).setCell _ _ (fun _=>rfl)
      have hfin:=HW3.out.oL XQ.out hc4
      have HB4:=hid hB4
      have HFin:=hid hfin
      have abC:=hid (show (G.c.Cs++[B]).length=G.c.Cs.length+1 by simp)
      have g17:(w3.setCell ⟨K.H,17,none⟩ (.int .i64 ((G.c.Cs.length:Int)+1))).cell? ⟨K.H,17,none⟩=some (.int .i64 ((G.c.Cs.length:Int)+1)):=hB4.cell 17
      clear hnf hB4 hc4 hfin
      go_wp2_with fail
      go_ret
      refine⟨aG (by simp),⟨_,HFin.out.1,?_⟩,Xq.out.trans HFin.out.2⟩
      have:=HB4.out
      unfold nJ at this ⊢
      show aU _ K.H _ [_,_,_,_,_,_,_,_,_,_,_,_,_,_,_,_,_,.int .i64 ((G.c.Cs++[B]).length:Nat)]
      rw[abC.out]
      exact this
end Go.Proofs.YtgalebcpagmohaaGreatDoor
