/- courierlaw: House.out. -/
import Derived.Test.YtgalebcpagmohaaGreatDoorMDHouse
import Derived.Test.YtgalebcpagmohaaGreatDoorMHouse
import Derived.Test.YtgalebcpagmohaaGreatDoorMDConn
import Derived.Test.YtgalebcpagmohaaGreatDoorMDConn3
set_option linter.unusedSimpArgs false
set_option linter.unusedVariables false
set_option maxHeartbeats 8000000
set_option maxRecDepth 100000
namespace Go.Proofs.YtgalebcpagmohaaGreatDoor
open Go.Proofs.Tryz
open Go.RowKit Go.Conc
theorem adH (w:World) (K:HK) (N:Nat) (G:HG) (h:Inv w K N G) (hn:N+1≤100000000) :
  Calls Tryz.prog 15 #[.pointer (some ⟨K.H,0,none⟩),.int .i64 0] w (gX w K N):=by
 have hcp:w.cell? ⟨K.H,5,none⟩=some (.pointer (some ⟨K.cx,0,none⟩)):=h.h.cell 5
 have ZI:=hid h
 have hlow:K.lo≤w.heap.size:=by have:=h.wd.bH;have:=h.h.lt;omega
 clear h
 go_enter func15,ntmps15
 go_wp2_with fail
 refine(adn ZI.out.wd.c (ZI.out.wd.x.cell 0)).mono ?_;rintro e w1 ⟨a,n,c,rfl,⟨vs,hL⟩,g',oV,eF,hSt,hA⟩
 have h:=ZI.out
 have HW:=hid (h.wd.cli oV eF hSt (by rw[hA];exact h.wd.sl))
 have hH1:=HW.out.2.1 _ h.h
 have i8:w1.cell? ⟨K.H,8,none⟩=some (.bool G.c.up):=hH1.cell 8
 have HI1:=hid (show Inv w1 K (N+1) _ from⟨HW.out.1.more hn,(by rw[hA];exact hH1)⟩)
 have HBl:=hid HW.out.2.2
 have Jy:=hid hL
 have hz1:=eF.size
 have WI:=h.wd.c.lu
 have hll:=h.wd.c.l
 clear oV eF hSt hA hH1 hL h HW
 rcases hll with he | he
 ·have hls:=Jy.out
  rw[he,List.map_nil] at hls
  have hn0:n=0:=by
   obtain⟨a',c',e⟩:=ak hls.own
   simp only[Value.slice.injEq] at e
   simpa using e.2.1
  subst hn0
  clear hls
  cases hup:G.c.up
  all_goals
   rw[hup] at i8
   clear WI
   go_wp2_with fail
   go_loopg [6] 0 (fun gk i wr=>i=.int .i64 0∧wr=w1)
   case atStart=>exact⟨rfl,rfl⟩
   case round=>
    obtain⟨rfl,rfl⟩:=hrel
    go_wp2_with fail
    go_ret
    exact⟨rfl,⟨_,HI1.out⟩,HBl.out⟩
 ·have hup:G.c.up=true:=by
   cases hu:G.c.up with
   | true=>rfl
   | false=>have:=WI hu;rw[this] at he;cases he
  rw[hup] at i8
  have hls:=Jy.out
  rw[he,List.map_singleton] at hls
  obtain⟨P,HP⟩:∃ P,Hid (iL (qc G.c.token)=P):=⟨_,hid rfl⟩
  have Xm:okB P.length=true:=by rw[← HP.out];exact jk.2 ⟨xC _,(Qs ZI.out.wd.c.tk).2⟩
  have hPl:=(jk.1 Xm).2
  rw[HP.out] at hls
  obtain⟨FF,QK⟩:∃ FF,Hid (aS bK P=FF):=⟨_,hid rfl⟩
  have XC:FF.length=P.length+5:=by rw[← QK.out];exact nR rF _
  have Nj:=hid (show bP bK (some []) FF=([P],some []) by rw[← QK.out];exact BP rF _ Xm)
  rw[QK.out] at hls
  have hn1:n=1:=by
   obtain⟨a',c',e⟩:=ak hls.own
   simp only[Value.slice.injEq] at e
   simpa using e.2.1
  subst hn1
  obtain⟨u,hu,Y6⟩:=hls.at (i:=0) (by simp)
  obtain⟨ua,uc,rfl⟩:=ak Y6
  simp only[List.getElem_cons_zero] at Y6 hu
  obtain⟨gb,cap,hv,hgl,hgs⟩:=dM hls.own (by simp)
  obtain⟨rfl,rfl⟩:a=some ⟨gb,0,none⟩∧c=cap:=by simpa using hv
  have hcell:w1.cell? ⟨gb,0,none⟩=some (.slice ua FF.length uc):=by
   have:=hls.own.cells (g:=gb) rfl 0 _ hu
   rw[jO _ _ rfl] at this
   simpa using this
  have HBu:=hid Y6
  have Vd:=hid XC
  clear hls Y6 hu hv XC WI
  go_wp2_with fail
  go_loopg [6,7,8,9] 1 (fun gk i v7 v8 v9 wr=>∃ k:Nat,k+gk=1∧i=.int .i64 k∧Below w1.heap.size w1 wr)
  case atStart=>exact⟨0,by omega,rfl,Below.refl _ _⟩
  case round=>
   obtain⟨k,hk,rfl,hbel⟩:=hrel
   by_cases hk1:k=1
   ·subst hk1
    go_wp2_with fail
    go_ret
    exact⟨rfl,⟨_,HI1.out.below hbel⟩,HBl.out.trans (hbel.mono (by omega))⟩
   ·obtain rfl:k=0:=by omega
    have hbD:Below wr.heap.size wr (wr.alloc (.cells #[.slice none 0 0,.int .i64 0,.bool false] 107)):=(Below.refl _ _).alloc (Nat.le_refl _) _
    have Jz:Below w1.heap.size w1 (wr.alloc (.cells #[.slice none 0 0,.int .i64 0,.bool false] 107)):=hbel.trans (hbD.mono hbel.size)
    have hRD:Y5 (wr.alloc (.cells #[.slice none 0 0,.int .i64 0,.bool false] 107)) wr.heap.size wr.heap.size (.slice none 0 0) []:=⟨heap_alloc_new wr _,World.ownsRow_nil _ _ _ _⟩
    have lc0:(wr.alloc (.cells #[.slice none 0 0,.int .i64 0,.bool false] 107)).cell? ⟨gb,0,none⟩=some (.slice ua FF.length uc):=(Jz.cell (p:=⟨gb,0,none⟩) hgs).trans hcell
    have HRD:=hid hRD
    have HR:=hid (show Rd (wr.alloc (.cells #[.slice none 0 0,.int .i64 0,.bool false] 107)) (.slice ua FF.length uc) FF from(HBu.out.same Jz).rd)
    have HZD:=hid (show (wr.alloc (.cells #[.slice none 0 0,.int .i64 0,.bool false] 107)).heap.size=wr.heap.size+1 by simp)
    have abm:=hid Jz
    clear hRD hbD Jz
    go_wp2_with fail
    refine(Bd (wr.alloc (.cells #[.slice none 0 0,.int .i64 0,.bool false] 107)) wr.heap.size wr.heap.size (.slice none 0 0) (.slice ua FF.length uc) [] FF HRD.out HR.out (by rw[Vd.out];simp;omega) (by rw[HZD.out];omega)).mono ?_
    rintro e w2 ⟨v,av',A',rfl,hRL,abn,hf2,hl2,hT,hnw⟩
    rw[JH,Nj.out] at *
    obtain⟨va,vc,rfl,hva⟩:=hRL
    obtain⟨vb,vo,rfl,hvb,ZH⟩:=hva (by simp)
    obtain⟨u2,hu2,hr2⟩:=ZH 0 (by simp)
    simp only[List.getElem_cons_zero,Nat.add_zero] at hu2 hr2
    obtain⟨pa,pc,rfl⟩:=hr2.slice
    have hb2:Below wr.heap.size (wr.alloc (.cells #[.slice none 0 0,.int .i64 0,.bool false] 107)) w2:=⟨hT.os,hT.tape,hT.output,hT.size,fun q hq=>hT.block q (by rw[HZD.out];omega) (fun e=>by
     rcases e with e | e
     ·omega
     ·simp[Value.ownBlock] at e)⟩
    have fC:Below w1.heap.size w1 w2:=abm.out.trans (hb2.mono hbel.size)
    have lc2:w2.cell? ⟨gb,0,none⟩=some (.slice ua FF.length uc):=(fC.cell (p:=⟨gb,0,none⟩) hgs).trans hcell
    have hfe:BG (some [])=0:=rfl
    have hFI:((FF.length:Int)==(P.length:Int)+5)=true:=by rw[Vd.out];simp
    have hFn:((FF.length:Int) != (P.length:Int)+5)=false:=by rw[Vd.out];simp
    have abo:FF.length≤125:=by rw[Vd.out];omega
    clear abn hf2 hl2 hT hnw hva ZH hr2 hb2
    go_wp2_with fail
    go_region
    all_goals
     go_wp2_with fail
     go_roundg (gk-1)
     case rel=>exact⟨1,by omega,by go_num,fC.drew⟩
     case measure=>omega
theorem hout1 (w:World) (K:HK) (N:Nat) (G:HG) (h:Inv w K N G) (hn:N+1≤100000000) :
  Calls Tryz.prog 15 #[.pointer (some ⟨K.H,0,none⟩),.int .i64 1] w (gX w K N):=by
 have hcp:w.cell? ⟨K.H,4,none⟩=some (.pointer (some ⟨K.cs,0,none⟩)):=h.h.cell 4
 have ZI:=hid h
 have hlow:K.lo≤w.heap.size:=by have:=h.wd.bH;have:=h.h.lt;omega
 clear h
 go_enter func15,ntmps15
 go_wp2_with fail
 refine(adv ZI.out.wd.s (ZI.out.wd.y.cell 0)).mono ?_;rintro e w1 ⟨a,n,c,rfl,⟨vs,hL⟩,g',oV,eF,hSt,hA⟩
 have h:=ZI.out
 have HW:=hid (h.wd.srv oV eF hSt (by rw[hA];exact h.wd.fin) (by rw[hA];exact h.wd.tu) (by rw[hA];exact h.wd.tr) (by rw[hA];exact h.wd.tl) (by rw[hA];exact h.wd.sn))
 have hH1:=HW.out.2.1 _ h.h
 have i8:w1.cell? ⟨K.H,9,none⟩=some (.bool G.s.up):=hH1.cell 9
 have HI1:=hid (show Inv w1 K (N+1) _ from⟨HW.out.1.more hn,(by rw[hA];exact hH1)⟩)
 have HBl:=hid HW.out.2.2
 have Jy:=hid hL
 have hz1:=eF.size
 have WI:=h.wd.s.lu
 have hll:=h.wd.s.l
 clear oV eF hSt hA hH1 hL h HW
 rcases hll with he | he
 ·have hls:=Jy.out
  rw[he,List.map_nil] at hls
  have hn0:n=0:=by
   obtain⟨a',c',e⟩:=ak hls.own
   simp only[Value.slice.injEq] at e
   simpa using e.2.1
  subst hn0
  clear hls
  cases hup:G.s.up
  all_goals
   rw[hup] at i8
   clear WI
   go_wp2_with fail
   go_loopg [6] 0 (fun gk i wr=>i=.int .i64 0∧wr=w1)
   case atStart=>exact⟨rfl,rfl⟩
   case round=>
    obtain⟨rfl,rfl⟩:=hrel
    go_wp2_with fail
    go_ret
    exact⟨rfl,⟨_,HI1.out⟩,HBl.out⟩
 ·have hup:G.s.up=true:=by
   cases hu:G.s.up with
   | true=>rfl
   | false=>have:=WI hu;rw[this] at he;cases he
  rw[hup] at i8
  have hls:=Jy.out
  rw[he,List.map_singleton] at hls
  obtain⟨P,HP⟩:∃ P,Hid (iL qW=P):=⟨_,hid rfl⟩
  have Xm:okB P.length=true:=by rw[← HP.out];exact jk.2 ⟨xC _,(Qu).2⟩
  have hPl:=(jk.1 Xm).2
  rw[HP.out] at hls
  obtain⟨FF,QK⟩:∃ FF,Hid (aS bK P=FF):=⟨_,hid rfl⟩
  have XC:FF.length=P.length+5:=by rw[← QK.out];exact nR rF _
  have Nj:=hid (show bP bK (some []) FF=([P],some []) by rw[← QK.out];exact BP rF _ Xm)
  rw[QK.out] at hls
  have hn1:n=1:=by
   obtain⟨a',c',e⟩:=ak hls.own
   simp only[Value.slice.injEq] at e
   simpa using e.2.1
  subst hn1
  obtain⟨u,hu,Y6⟩:=hls.at (i:=0) (by simp)
  obtain⟨ua,uc,rfl⟩:=ak Y6
  simp only[List.getElem_cons_zero] at Y6 hu
  obtain⟨gb,cap,hv,hgl,hgs⟩:=dM hls.own (by simp)
  obtain⟨rfl,rfl⟩:a=some ⟨gb,0,none⟩∧c=cap:=by simpa using hv
  have hcell:w1.cell? ⟨gb,0,none⟩=some (.slice ua FF.length uc):=by
   have:=hls.own.cells (g:=gb) rfl 0 _ hu
   rw[jO _ _ rfl] at this
   simpa using this
  have HBu:=hid Y6
  have Vd:=hid XC
  clear hls Y6 hu hv XC WI
  go_wp2_with fail
  go_loopg [6,7,8,9] 1 (fun gk i v7 v8 v9 wr=>∃ k:Nat,k+gk=1∧i=.int .i64 k∧Below w1.heap.size w1 wr)
  case atStart=>exact⟨0,by omega,rfl,Below.refl _ _⟩
  case round=>
   obtain⟨k,hk,rfl,hbel⟩:=hrel
   by_cases hk1:k=1
   ·subst hk1
    go_wp2_with fail
    go_ret
    exact⟨rfl,⟨_,HI1.out.below hbel⟩,HBl.out.trans (hbel.mono (by omega))⟩
   ·obtain rfl:k=0:=by omega
    have hbD:Below wr.heap.size wr (wr.alloc (.cells #[.slice none 0 0,.int .i64 0,.bool false] 107)):=(Below.refl _ _).alloc (Nat.le_refl _) _
    have Jz:Below w1.heap.size w1 (wr.alloc (.cells #[.slice none 0 0,.int .i64 0,.bool false] 107)):=hbel.trans (hbD.mono hbel.size)
    have hRD:Y5 (wr.alloc (.cells #[.slice none 0 0,.int .i64 0,.bool false] 107)) wr.heap.size wr.heap.size (.slice none 0 0) []:=⟨heap_alloc_new wr _,World.ownsRow_nil _ _ _ _⟩
    have lc0:(wr.alloc (.cells #[.slice none 0 0,.int .i64 0,.bool false] 107)).cell? ⟨gb,0,none⟩=some (.slice ua FF.length uc):=(Jz.cell (p:=⟨gb,0,none⟩) hgs).trans hcell
    have HRD:=hid hRD
    have HR:=hid (show Rd (wr.alloc (.cells #[.slice none 0 0,.int .i64 0,.bool false] 107)) (.slice ua FF.length uc) FF from(HBu.out.same Jz).rd)
    have HZD:=hid (show (wr.alloc (.cells #[.slice none 0 0,.int .i64 0,.bool false] 107)).heap.size=wr.heap.size+1 by simp)
    have abm:=hid Jz
    clear hRD hbD Jz
    go_wp2_with fail
    refine(Bd (wr.alloc (.cells #[.slice none 0 0,.int .i64 0,.bool false] 107)) wr.heap.size wr.heap.size (.slice none 0 0) (.slice ua FF.length uc) [] FF HRD.out HR.out (by rw[Vd.out];simp;omega) (by rw[HZD.out];omega)).mono ?_
    rintro e w2 ⟨v,av',A',rfl,hRL,abn,hf2,hl2,hT,hnw⟩
    rw[JH,Nj.out] at *
    obtain⟨va,vc,rfl,hva⟩:=hRL
    obtain⟨vb,vo,rfl,hvb,ZH⟩:=hva (by simp)
    obtain⟨u2,hu2,hr2⟩:=ZH 0 (by simp)
    simp only[List.getElem_cons_zero,Nat.add_zero] at hu2 hr2
    obtain⟨pa,pc,rfl⟩:=hr2.slice
    have hb2:Below wr.heap.size (wr.alloc (.cells #[.slice none 0 0,.int .i64 0,.bool false] 107)) w2:=⟨hT.os,hT.tape,hT.output,hT.size,fun q hq=>hT.block q (by rw[HZD.out];omega) (fun e=>by
     rcases e with e | e
     ·omega
     ·simp[Value.ownBlock] at e)⟩
    have fC:Below w1.heap.size w1 w2:=abm.out.trans (hb2.mono hbel.size)
    have lc2:w2.cell? ⟨gb,0,none⟩=some (.slice ua FF.length uc):=(fC.cell (p:=⟨gb,0,none⟩) hgs).trans hcell
    have hfe:BG (some [])=0:=rfl
    have hFI:((FF.length:Int)==(P.length:Int)+5)=true:=by rw[Vd.out];simp
    have hFn:((FF.length:Int) != (P.length:Int)+5)=false:=by rw[Vd.out];simp
    have abo:FF.length≤125:=by rw[Vd.out];omega
    clear abn hf2 hl2 hT hnw hva ZH hr2 hb2
    go_wp2_with fail
    go_region
    all_goals
     go_wp2_with fail
     go_roundg (gk-1)
     case rel=>exact⟨1,by omega,by go_num,fC.drew⟩
     case measure=>omega
theorem abp (w:World) (K:HK) (N:Nat) (G:HG) (h:Inv w K N G) (hn:N+1≤100000000) (A:Int) (S T:ByteArray) (hS:S.size≤1900000) (hT:T.size≤1900000) :
  Calls Tryz.prog 7 #[.pointer (some ⟨K.H,0,none⟩),.agg #[.int .i64 1,.int .i64 A,.string S,.string T]] w (gX w K N):=by
 have hb0:Below w.heap.size w (w.alloc (.cells #[.int .i64 1,.int .i64 A,.string S,.string T] 43)):=(Below.refl _ _).alloc (Nat.le_refl _) _
 have hK0:aU (w.alloc (.cells #[.int .i64 1,.int .i64 A,.string S,.string T] 43)) w.heap.size 43 [.int .i64 1,.int .i64 A,.string S,.string T]:=heap_alloc_new w _
 have h0:=h.below hb0
 have xK:=h.h.lt
 have hlow:K.lo≤w.heap.size:=by have:=h.wd.bH;omega
 obtain⟨w0,hw0⟩:∃ w0,w.alloc (.cells #[.int .i64 1,.int .i64 A,.string S,.string T] 43)=w0:=⟨_,rfl⟩
 rw[hw0] at hb0 hK0 h0
 have k0:w0.cell? ⟨w.heap.size,0,none⟩=some (.int .i64 1):=hK0.cell 0
 have k1:w0.cell? ⟨w.heap.size,1,none⟩=some (.int .i64 A):=hK0.cell 1
 have k2:w0.cell? ⟨w.heap.size,2,none⟩=some (.string S):=hK0.cell 2
 have k3:w0.cell? ⟨w.heap.size,3,none⟩=some (.string T):=hK0.cell 3
 have I0:=hid h0
 have tZ:=hid (hb0.mono hlow)
 have hTm:T.size≤maxLen:=by unfold maxLen;omega
 obtain⟨te,hte⟩:∃ te,T.toList.isEmpty=te:=⟨_,rfl⟩
 clear hK0 h h0
 cases te with
 | true=>
  go_enter func7,ntmps7
  go_wp2_with fail
  refine(Xa w0 K N G I0.out hn A S T).mono ?_;rintro e w1 ⟨rfl,⟨G',hG⟩,hb⟩
  have HG:=hid hG
  clear hG
  go_wp2_with fail
  go_ret
  exact⟨rfl,⟨G',HG.out⟩,tZ.out.trans hb⟩
 | false=>
  go_enter func7,ntmps7
  go_wp2_with fail
  refine(Xc w0 K N G I0.out hn A S T).mono ?_;rintro e w1 ⟨rfl,⟨G',hG⟩,hb⟩
  have HG:=hid hG
  clear hG
  go_wp2_with fail
  go_ret
  exact⟨rfl,⟨G',HG.out⟩,tZ.out.trans hb⟩
theorem abq (w:World) (K:HK) (N:Nat) (G:HG) (h:Inv w K N G) (hn:N+1≤100000000) (A:Int) (S T:ByteArray) (hS:S.size≤1900000) (hT:T.size≤1900000) :
  Calls Tryz.prog 7 #[.pointer (some ⟨K.H,0,none⟩),.agg #[.int .i64 2,.int .i64 A,.string S,.string T]] w (gX w K N):=by
 have hb0:Below w.heap.size w (w.alloc (.cells #[.int .i64 2,.int .i64 A,.string S,.string T] 43)):=(Below.refl _ _).alloc (Nat.le_refl _) _
 have hK0:aU (w.alloc (.cells #[.int .i64 2,.int .i64 A,.string S,.string T] 43)) w.heap.size 43 [.int .i64 2,.int .i64 A,.string S,.string T]:=heap_alloc_new w _
 have h0:=h.below hb0
 have xK:=h.h.lt
 have hlow:K.lo≤w.heap.size:=by have:=h.wd.bH;omega
 obtain⟨w0,hw0⟩:∃ w0,w.alloc (.cells #[.int .i64 2,.int .i64 A,.string S,.string T] 43)=w0:=⟨_,rfl⟩
 rw[hw0] at hb0 hK0 h0
 have k0:w0.cell? ⟨w.heap.size,0,none⟩=some (.int .i64 2):=hK0.cell 0
 have k1:w0.cell? ⟨w.heap.size,1,none⟩=some (.int .i64 A):=hK0.cell 1
 have k2:w0.cell? ⟨w.heap.size,2,none⟩=some (.string S):=hK0.cell 2
 have k3:w0.cell? ⟨w.heap.size,3,none⟩=some (.string T):=hK0.cell 3
 have I0:=hid h0
 have tZ:=hid (hb0.mono hlow)
 have hTm:T.size≤maxLen:=by unfold maxLen;omega
 obtain⟨te,hte⟩:∃ te,T.toList.isEmpty=te:=⟨_,rfl⟩
 clear hK0 h h0
 cases te with
 | true=>
  go_enter func7,ntmps7
  go_wp2_with fail
  refine(PE w0 K N G I0.out hn A S T).mono ?_;rintro e w1 ⟨rfl,⟨G',hG⟩,hb⟩
  have HG:=hid hG
  clear hG
  go_wp2_with fail
  go_ret
  exact⟨rfl,⟨G',HG.out⟩,tZ.out.trans hb⟩
 | false=>
  go_enter func7,ntmps7
  go_wp2_with fail
  refine(PG w0 K N G I0.out hn A S T).mono ?_;rintro e w1 ⟨rfl,⟨G',hG⟩,hb⟩
  have HG:=hid hG
  clear hG
  go_wp2_with fail
  go_ret
  exact⟨rfl,⟨G',HG.out⟩,tZ.out.trans hb⟩
theorem abr (w:World) (K:HK) (N:Nat) (G:HG) (h:Inv w K N G) (hn:N+1≤100000000) (A:Int) (S T:ByteArray) (hS:S.size≤1900000) (hT:T.size≤1900000) :
  Calls Tryz.prog 7 #[.pointer (some ⟨K.H,0,none⟩),.agg #[.int .i64 3,.int .i64 A,.string S,.string T]] w (gX w K N):=by
 have hb0:Below w.heap.size w (w.alloc (.cells #[.int .i64 3,.int .i64 A,.string S,.string T] 43)):=(Below.refl _ _).alloc (Nat.le_refl _) _
 have hK0:aU (w.alloc (.cells #[.int .i64 3,.int .i64 A,.string S,.string T] 43)) w.heap.size 43 [.int .i64 3,.int .i64 A,.string S,.string T]:=heap_alloc_new w _
 have h0:=h.below hb0
 have xK:=h.h.lt
 have hlow:K.lo≤w.heap.size:=by have:=h.wd.bH;omega
 obtain⟨w0,hw0⟩:∃ w0,w.alloc (.cells #[.int .i64 3,.int .i64 A,.string S,.string T] 43)=w0:=⟨_,rfl⟩
 rw[hw0] at hb0 hK0 h0
 have k0:w0.cell? ⟨w.heap.size,0,none⟩=some (.int .i64 3):=hK0.cell 0
 have k1:w0.cell? ⟨w.heap.size,1,none⟩=some (.int .i64 A):=hK0.cell 1
 have k2:w0.cell? ⟨w.heap.size,2,none⟩=some (.string S):=hK0.cell 2
 have k3:w0.cell? ⟨w.heap.size,3,none⟩=some (.string T):=hK0.cell 3
 have I0:=hid h0
 have tZ:=hid (hb0.mono hlow)
 have hTm:T.size≤maxLen:=by unfold maxLen;omega
 obtain⟨te,hte⟩:∃ te,T.toList.isEmpty=te:=⟨_,rfl⟩
 clear hK0 h h0
 cases te with
 | true=>
  go_enter func7,ntmps7
  go_wp2_with fail
  refine(PI w0 K N G I0.out hn A S T hS).mono ?_;rintro e w1 ⟨rfl,⟨G',hG⟩,hb⟩
  have HG:=hid hG
  clear hG
  go_wp2_with fail
  go_ret
  exact⟨rfl,⟨G',HG.out⟩,tZ.out.trans hb⟩
 | false=>
  go_enter func7,ntmps7
  go_wp2_with fail
  refine(PK w0 K N G I0.out hn A S T hS).mono ?_;rintro e w1 ⟨rfl,⟨G',hG⟩,hb⟩
  have HG:=hid hG
  clear hG
  go_wp2_with fail
  go_ret
  exact⟨rfl,⟨G',HG.out⟩,tZ.out.trans hb⟩
theorem abt (w:World) (K:HK) (N:Nat) (G:HG) (h:Inv w K N G) (hn:N+1≤100000000) (A:Int) (S T:ByteArray) (hS:S.size≤1900000) (hT:T.size≤1900000) :
  Calls Tryz.prog 7 #[.pointer (some ⟨K.H,0,none⟩),.agg #[.int .i64 4,.int .i64 A,.string S,.string T]] w (gX w K N):=by
 have hb0:Below w.heap.size w (w.alloc (.cells #[.int .i64 4,.int .i64 A,.string S,.string T] 43)):=(Below.refl _ _).alloc (Nat.le_refl _) _
 have hK0:aU (w.alloc (.cells #[.int .i64 4,.int .i64 A,.string S,.string T] 43)) w.heap.size 43 [.int .i64 4,.int .i64 A,.string S,.string T]:=heap_alloc_new w _
 have h0:=h.below hb0
 have xK:=h.h.lt
 have hlow:K.lo≤w.heap.size:=by have:=h.wd.bH;omega
 obtain⟨w0,hw0⟩:∃ w0,w.alloc (.cells #[.int .i64 4,.int .i64 A,.string S,.string T] 43)=w0:=⟨_,rfl⟩
 rw[hw0] at hb0 hK0 h0
 have k0:w0.cell? ⟨w.heap.size,0,none⟩=some (.int .i64 4):=hK0.cell 0
 have k1:w0.cell? ⟨w.heap.size,1,none⟩=some (.int .i64 A):=hK0.cell 1
 have k2:w0.cell? ⟨w.heap.size,2,none⟩=some (.string S):=hK0.cell 2
 have k3:w0.cell? ⟨w.heap.size,3,none⟩=some (.string T):=hK0.cell 3
 have I0:=hid h0
 have tZ:=hid (hb0.mono hlow)
 have hTm:T.size≤maxLen:=by unfold maxLen;omega
 obtain⟨te,hte⟩:∃ te,T.toList.isEmpty=te:=⟨_,rfl⟩
 clear hK0 h h0
 have t14:w0.cell? ⟨K.H,14,none⟩=some (.int .i64 G.ticks):=I0.out.h.cell 14
 have g14:=I0.out.h.frozen 14
 have htk:=I0.out.wd.tk
 have hsl:=I0.out.wd.sl
 have hB1:aU (w0.setCell ⟨K.H,14,none⟩ (.int .i64 ((G.ticks:Int)+1))) K.H 33 (nJ K { G with ticks:=G.ticks+1 }):=I0.out.h.set 14 _
 have hc1:aN (fun k=>k=K.H) w0 (w0.setCell ⟨K.H,14,none⟩ (.int .i64 ((G.ticks:Int)+1))):=(aN.refl _ _).setCell _ _ (fun _=>rfl)
 have hW1:=(I0.out.wd.more hn).oL I0.out.h hc1
 obtain⟨w1,hw1⟩:∃ w1,w0.setCell ⟨K.H,14,none⟩ (.int .i64 ((G.ticks:Int)+1))=w1:=⟨_,rfl⟩
 rw[hw1] at hB1 hc1 hW1
 have HW1:=hid (show Wd w1 K (N+1) { G with ticks:=G.ticks+1 } from { hW1.1 with tk:=(by show G.ticks+1≤N+1;omega) })
 have HB1:=hid hB1
 have HL1:=hid hW1.2
 have p5:w1.cell? ⟨K.H,5,none⟩=some (.pointer (some ⟨K.cx,0,none⟩)):=hB1.cell 5
 have p4:w1.cell? ⟨K.H,4,none⟩=some (.pointer (some ⟨K.cs,0,none⟩)):=hB1.cell 4
 clear hB1 hc1 hW1
 cases te with
 | true=>
  go_enter func7,ntmps7
  go_wp2_with fail
  refine(aaV HW1.out.c (HW1.out.x.cell 0) (by show 0≤G.c.silence∧G.c.silence≤1000000000000;omega)).mono ?_;rintro e w2 ⟨rfl,g',oV,eF,hSt,L,rfl⟩
  have HR:=hid (HW1.out.cli oV eF hSt (by show 0≤G.c.silence+1∧G.c.silence+1≤((N+1:Nat):Int);omega))
  have HB2:=hid (HR.out.2.1 _ HB1.out)
  clear oV eF hSt
  go_wp2_with fail
  go_ret
  exact⟨rfl,⟨_,HR.out.1,HB2.out⟩,(tZ.out.trans HL1.out).trans HR.out.2.2⟩
 | false=>
  go_enter func7,ntmps7
  go_wp2_with fail
  refine(aa1 HW1.out.s (HW1.out.y.cell 0)).mono ?_;rintro e w2 ⟨rfl,g',oV,eF,hSt,L,rfl⟩
  have HR:=hid (HW1.out.srv oV eF hSt HW1.out.fin HW1.out.tu HW1.out.tr HW1.out.tl HW1.out.sn)
  have HB2:=hid (HR.out.2.1 _ HB1.out)
  clear oV eF hSt
  go_wp2_with fail
  go_ret
  exact⟨rfl,⟨_,HR.out.1,HB2.out⟩,(tZ.out.trans HL1.out).trans HR.out.2.2⟩
theorem abu (w:World) (K:HK) (N:Nat) (G:HG) (h:Inv w K N G) (hn:N+1≤100000000) (A:Int) (S T:ByteArray) (hS:S.size≤1900000) (hT:T.size≤1900000) :
  Calls Tryz.prog 7 #[.pointer (some ⟨K.H,0,none⟩),.agg #[.int .i64 5,.int .i64 A,.string S,.string T]] w (gX w K N):=by
 have hb0:Below w.heap.size w (w.alloc (.cells #[.int .i64 5,.int .i64 A,.string S,.string T] 43)):=(Below.refl _ _).alloc (Nat.le_refl _) _
 have hK0:aU (w.alloc (.cells #[.int .i64 5,.int .i64 A,.string S,.string T] 43)) w.heap.size 43 [.int .i64 5,.int .i64 A,.string S,.string T]:=heap_alloc_new w _
 have h0:=h.below hb0
 have xK:=h.h.lt
 have hlow:K.lo≤w.heap.size:=by have:=h.wd.bH;omega
 obtain⟨w0,hw0⟩:∃ w0,w.alloc (.cells #[.int .i64 5,.int .i64 A,.string S,.string T] 43)=w0:=⟨_,rfl⟩
 rw[hw0] at hb0 hK0 h0
 have k0:w0.cell? ⟨w.heap.size,0,none⟩=some (.int .i64 5):=hK0.cell 0
 have k1:w0.cell? ⟨w.heap.size,1,none⟩=some (.int .i64 A):=hK0.cell 1
 have k2:w0.cell? ⟨w.heap.size,2,none⟩=some (.string S):=hK0.cell 2
 have k3:w0.cell? ⟨w.heap.size,3,none⟩=some (.string T):=hK0.cell 3
 have I0:=hid h0
 have tZ:=hid (hb0.mono hlow)
 have hTm:T.size≤maxLen:=by unfold maxLen;omega
 obtain⟨te,hte⟩:∃ te,T.toList.isEmpty=te:=⟨_,rfl⟩
 clear hK0 h h0
 cases te with
 | true=>
  go_enter func7,ntmps7
  go_wp2_with fail
  refine(adH w0 K N G I0.out hn).mono ?_;rintro e w1 ⟨rfl,⟨G',hG⟩,hb⟩
  have HG:=hid hG
  clear hG
  go_wp2_with fail
  go_ret
  exact⟨rfl,⟨G',HG.out⟩,tZ.out.trans hb⟩
 | false=>
  go_enter func7,ntmps7
  go_wp2_with fail
  refine(hout1 w0 K N G I0.out hn).mono ?_;rintro e w1 ⟨rfl,⟨G',hG⟩,hb⟩
  have HG:=hid hG
  clear hG
  go_wp2_with fail
  go_ret
  exact⟨rfl,⟨G',HG.out⟩,tZ.out.trans hb⟩
end Go.Proofs.YtgalebcpagmohaaGreatDoor
