/- items of package courierref: the walk. -/
import Derived.Test.YtgalebcpagmohaaGreatDoorMRead
import Derived.Test.YtgalebcpagmohaaGreatDoorMIn
import Derived.Deep.RegionWith
import Derived.Test.YtgalebcpagmohaaGreatDoorMRefFault
set_option maxHeartbeats 8000000
set_option maxRecDepth 100000
namespace Go.Proofs.YtgalebcpagmohaaGreatDoor
open Go.Proofs.Tryz
open Go.RowKit
theorem OG (w:World) (lo b o:Nat) (x:IV) (a:Nat) (t:Tok) (hn:fO w lo x) (hs:Seg w b 88 o (bJ x)) (hlo:b<lo) (hsz:lo≤w.heap.size) (hfit:Fit x.it a) :
  Calls Tryz.prog 21 #[.pointer (some ⟨b,o,none⟩),.int .i64 a,.agg #[.string t.text,.int .i64 t.at_,.bool t.bad]] w (sQ w lo b o x.it a t):=by
 have h1:=hfit.1
 have h2:=hfit.2.1
 rcases(show a=1∨a=2∨a=3∨a=4∨a=5∨a=6∨a=7∨a=8 by omega) with rfl | rfl | rfl | rfl | rfl | rfl | rfl | rfl
 ·exact Vh w lo b o x t hn hs hlo hsz hfit
 ·exact Vj w lo b o x t hn hs hlo hsz hfit
 ·exact Vk w lo b o x t hn hs hlo hsz hfit
 ·exact Vl w lo b o x t hn hs hlo hsz hfit
 ·exact Vm w lo b o x t hn hs hlo hsz hfit
 ·exact Vo w lo b o x t hn hs hlo hsz hfit
 ·exact Vp w lo b o x t hn hs hlo hsz hfit
 ·exact Vs w lo b o x t hn hs hlo hsz hfit
theorem Tryz.infoItem:(Tryz.prog.info? 88).map (fun i=>(i.zero,i.size,i.bytes))=some (some (.agg #[.string ⟨#[]⟩,.string ⟨#[]⟩,.int .i64 0,.slice none 0 0,.slice none 0 0,.slice none 0 0,.slice none 0 0,.slice none 0 0]),8,160):=by kernel_rfl
structure Yr (Y last:List IV) (a k:Nat):Prop where
 st:(a=0∧last=[])∨(∃ x,last=[x]∧Di x.it a)
 ok:∀ y∈Y++last,yD y.it k
 sum:((Y++last).map (fun y=>y.it.fields.length)).sum+(Y++last).length≤k
theorem Vt (l:List Tok) (k:Nat) (x:Tok) (h:l[k]? = some x):((l.flatMap fD).drop (k*3)).take 3=fD x:=by
 induction l generalizing k with
 | nil=>simp at h
 | cons a r ih=>
  rw[List.flatMap_cons]
  cases k with
  | zero=>simp at h;subst h;simp[fD]
  | succ k=>
   simp at h
   rw[List.drop_append,List.drop_eq_nil_of_le (by simp[fD];omega),List.nil_append,show (k+1)*3-(fD a).length=k*3 from by simp[fD];omega]
   exact ih k h
theorem P8.seg {w:World} {W0 hi:Nat} {tv:Value} {T:List Tok} (h:P8 w W0 hi tv T) {k:Nat} {t:Tok} (hk:T[k]? = some t):∃ g c,tv=.slice (some ⟨g,0,none⟩) T.length c∧g<w.heap.size∧Seg w g 84 (k*3) (fD t):=by
 have hlt:k<T.length:=by
  rcases Nat.lt_or_ge k T.length with h | h
  ·exact h
  ·rw[List.getElem?_eq_none h] at hk;cases hk
 obtain⟨g,c,hv,_,hg⟩:=h.own.form (by omega)
 have ho:=h.own
 rw[hv] at ho
 have:=(qM ho).part (k*3) 3 (fD t) (Vt _ k t hk) rfl (by omega)
 exact⟨g,c,hv,hg,by simpa using this⟩
theorem Kept.toBelow {w w':World} {W0 lo b o:Nat} (h:Kept w w' lo b o) (hb:W0≤b) (hl:W0≤lo):Below W0 w w' :=
 ⟨h.os,h.tape,h.output,h.size,fun k hk=>h.block k (by omega) (by omega)⟩
theorem IK {n:Nat} {t:Tok} {r:List Tok} {L:List bI} {a:Nat} (h:nP L a t=none):pW n (t::r) L a=(none,(t.at_:Int)):=by simp only[pW,h]
theorem Vu {n:Nat} {t:Tok} {r:List Tok} {L L':List bI} {a a':Nat} (h:nP L a t=some (L',a')):pW n (t::r) L a=pW n r L' a':=by simp only[pW,h]
theorem DR {Y:List IV} {x:IV} {a:Nat} {t:Tok} (hb:t.bad=false) (ha:a≠0):nP ((Y++[x]).map (fun y=>y.it)) a t=if (ay x.it a t).2=9 then none else some (Y.map (fun y=>y.it)++[(ay x.it a t).1],(ay x.it a t).2):=by
 simp[nP,hb,ha]
theorem Kept.Vw {w w':World} {lo b o:Nat} (h:Kept w.drew w' lo b o):Kept w w' lo b o:=⟨h.os,h.tape,h.output,h.size,h.block,h.seg,h.len⟩
theorem KP {Y:List IV} {x x':IV} {a k:Nat} (h:Yr Y [x] a k) (hf:x'.it.fields.length≤x.it.fields.length+1):((Y++[x']).map (fun y=>y.it.fields.length)).sum+(Y++[x']).length≤k+1:=by
 have:=h.sum
 simp at *
 omega
theorem Qj {Y:List IV} {x x':IV} {a k:Nat} (h:Yr Y [x] a k) (ho:yD x'.it (k+1)):∀ y∈Y++[x'],yD y.it (k+1):=by
 intro y hy
 rcases List.mem_append.1 hy with hy | hy
 ·exact(h.ok y (by simp[hy])).mono (Nat.le_succ _)
 ·simp at hy;subst hy;exact ho
theorem wrap_small (n:Int) (h1:0≤n) (h2:n≤1000000):IntKind.i64.wrap n=n:=by rw[IntKind.wrap_i64];omega
theorem zL (s:ByteArray) (w:World) (hs:s.size≤400) :
  Calls Tryz.prog 10 #[.string s] w fun e w'=>∃ lv,e=.returned (.tuple #[lv,.int .i64 (pW s.size (fE s) [] 0).2])∧Below w.heap.size w w' ∧
   (((pW s.size (fE s) [] 0).1=none∧lv=Bj)∨∃ X,(pW s.size (fE s) [] 0).1=some (X.map (fun y=>y.it))∧Its w' w.heap.size lv X∧X.length≤400∧(∀ y∈X,yD y.it 400)∧(X.map (fun y=>y.it.fields.length)).sum≤400):=by
 obtain⟨iT,hiT,hT0,hT1,hT2⟩:=info_parts Tryz.infoItem
 have hTl:(fE s).length≤400:=by have:=qK s (s.size+1) 0;unfold fE;omega
 generalize hR:pW s.size (fE s) [] 0=R
 have HR:=hid hR
 clear hR
 generalize hTT:fE s=T at *
 have HT:=hid hTT
 clear hTT
 go_enter func10,ntmps10
 go_wp2_with fail
 refine(NU _ _ hs).mono ?_;rintro e w1 ⟨tv,rfl,htk,hb1⟩
 rw[HT.out] at htk
 obtain⟨ta,tc,U6⟩:∃ a c,tv=.slice a T.length c:=ak htk
 subst U6
 have Iw:=hid (⟨htk,fun g hg=>(htk.lt g hg).2⟩:P8 w1 w.heap.size w1.heap.size (.slice ta T.length tc) T)
 clear htk
 go_wp2_with fail
 go_loopg [4,5,7,8] T.length (fun gk l at_ i t wr=>∃ k Y last a lo,k+gk=T.length∧i=.int .i64 (k:Nat)∧at_=.int .i64 (a:Nat)∧Hid (Mem wr w.heap.size lo l Y last)∧Hid (P8 wr w.heap.size w1.heap.size (.slice ta T.length tc) T)∧w1.heap.size≤lo∧Hid (pW s.size (T.drop k) ((Y++last).map (fun y=>y.it)) a=R)∧Hid (Yr Y last a k)∧Below w.heap.size w wr)
 case atStart=>
  exact⟨0,[],[],0,w1.heap.size,by omega,rfl,rfl,hid ⟨World.ownsRow_nil _ _ _ _,fun y hy=>(by simp at hy),fun y hy=>(by simp at hy),fun g hg=>(by cases hg),hb1.size,Nat.le_refl _⟩,Iw,Nat.le_refl _,hid HR.out,hid ⟨Or.inl ⟨rfl,rfl⟩,fun y hy=>(by simp at hy),by simp⟩,hb1⟩
 case round=>
  obtain⟨k,Y,last,a,lo,hk,rfl,rfl,HM,HTk,hlo,HG,HP,hbel⟩:=hrel
  by_cases hlt:k<T.length
  ·obtain⟨t,ht⟩:∃ t,T[k]? = some t:=⟨T[k],List.getElem?_eq_getElem hlt⟩
   have HD:=hid (show T.drop k=t::T.drop (k+1) by
    rw[List.drop_eq_getElem_cons hlt];rw[List.getElem?_eq_getElem hlt] at ht;simp at ht;rw[ht])
   obtain⟨tg,tc',U6,htg,hts⟩:=HTk.out.seg ht
   obtain⟨rfl,rfl⟩:ta=some ⟨tg,0,none⟩∧tc=tc':=by simpa using U6
   obtain⟨tt,KQ,tb⟩:=t
   have t0:wr.cell? ⟨tg,k*3,none⟩=some (.string tt):=hts.cell (j:=0) rfl
   have t1:wr.cell? ⟨tg,k*3+1,none⟩=some (.int .i64 KQ):=hts.cell (j:=1) rfl
   have t2:wr.cell? ⟨tg,k*3+2,none⟩=some (.bool tb):=hts.cell (j:=2) rfl
   clear U6 hts ht
   have hwr:wr.heap.size<(wr.alloc (.cells #[.string tt,.int .i64 KQ,.bool tb] 84)).heap.size:=by simp
   cases tb with
   | true=>
    have HB:=hid (show R=(none,(KQ:Int)) by rw[← HG.out,HD.out];exact IK (by simp[nP]))
    go_wp2_with fail
    go_quiet (fail)
    go_wp2_with fail
    go_ret2
    exact⟨Bj,by rw[HB.out];rfl,below_drewN (hbel.alloc hbel.size _) _,Or.inl ⟨by rw[HB.out],rfl⟩⟩
   | false=>
    by_cases ha:a=0
    ·subst ha
     obtain⟨_,hl⟩:(0:Nat)=0∧last=[]:=by
      rcases HP.out.st with h | ⟨x,_,h⟩
      ·exact h
      ·have:=h.lo;omega
     subst hl
     cases hkw:Dh tt.toList with
     | false=>
      have HB:=hid (show R=(none,(KQ:Int)) by rw[← HG.out,HD.out];exact IK (by simp[nP,hkw]))
      simp only[Dh,aX,kR,dV,iE,Bool.or_eq_false_iff] at hkw
      have k1:(tt.toList==[109,101,115,115,97,103,101])=false:=hkw.1.1.1
      have k2:(tt.toList==[101,110,117,109])=false:=hkw.1.1.2
      have k3:(tt.toList==[115,116,114,101,97,109])=false:=hkw.1.2
      have k4:(tt.toList==[99,97,108,108])=false:=hkw.2
      clear hkw
      go_wp2_with fail
      go_quiet (fail)
      go_wp2_with fail
      go_ret2
      exact⟨Bj,by rw[HB.out];rfl,below_drewN (hbel.alloc hbel.size _) _,Or.inl ⟨by rw[HB.out],rfl⟩⟩
     | true=>
      have HS:=hid (show pW s.size (T.drop (k+1)) ((Y++[rU tt]).map (fun y=>y.it)) 1=R by
       rw[← HG.out,HD.out];symm;exact Vu (by simp[nP,hkw,rU]))
      have hYl:Y.length≤400:=by have:=HP.out.sum;simp only[List.append_nil] at this;omega
      have hown:=(HM.out.below ((Below.refl wr.heap.size wr).alloc (Nat.le_refl _) (.cells #[.string tt,.int .i64 KQ,.bool false] 84))).own
      rw[List.append_nil] at hown
      have HOW:=hid hown
      clear hown
      have hw4:(tt.toList==[109,101,115,115,97,103,101])=true∨((tt.toList==[109,101,115,115,97,103,101])=false∧(tt.toList==[101,110,117,109])=true)∨((tt.toList==[109,101,115,115,97,103,101])=false∧(tt.toList==[101,110,117,109])=false∧(tt.toList==[115,116,114,101,97,109])=true)∨((tt.toList==[109,101,115,115,97,103,101])=false∧(tt.toList==[101,110,117,109])=false∧(tt.toList==[115,116,114,101,97,109])=false∧(tt.toList==[99,97,108,108])=true):=by
       simp only[Dh,aX,kR,dV,iE] at hkw
       revert hkw
       cases (tt.toList==[109,101,115,115,97,103,101])<;>cases (tt.toList==[101,110,117,109])<;>cases (tt.toList==[115,116,114,101,97,109])<;>cases (tt.toList==[99,97,108,108])<;>simp
      clear hkw
      rcases hw4 with k1 | ⟨k1,k2⟩ | ⟨k1,k2,k3⟩ | ⟨k1,k2,k3,k4⟩
      all_goals
       go_wp2_with (at_builtin;refine wpList_append_lies _ rfl _ _ 55 rfl w.heap.size 88 iT _ 8 160 underlying55 hiT hT0 hT1 hT2 rfl (by decide) _ _ _ rfl (HOW.out.alloc _) ⟨_,0,none⟩ 1 1 (bJ (rU tt)) rfl rfl (dh _ _ (by simp) #[.string tt,.string ⟨#[]⟩,.int .i64 0,.slice none 0 0,.slice none 0 0,.slice none 0 0,.slice none 0 0,.slice none 0 0] _) (by simp[bJ,rU,Bj,fG,Value.oneCell']) (by omega) (by unfold maxLen;omega) (by omega) (by have:=hbel.size;simp;omega) _ rfl ?_)
       intro g5 cp5 w5 hown5 dw _ _
       have hm4:=HM.out.below ((Below.refl wr.heap.size wr).alloc (Nat.le_refl _) (.cells #[.string tt,.int .i64 KQ,.bool false] 84))
       have ht4:=HTk.out.below ((Below.refl wr.heap.size wr).alloc (Nat.le_refl _) (.cells #[.string tt,.int .i64 KQ,.bool false] 84))
       have HM5:=hid (hm4.push hown5 dw)
       have HT5:=hid (ht4.push hm4 dw)
       have hb5:Below w.heap.size w w5:=((hbel.alloc hbel.size _).alloc (by have:=hbel.size;simp;omega) _).grown dw (by have:=hbel.size;simp;omega) (fun k hk=>(HOW.out.lt k hk).1)
       have hsz5:w1.heap.size≤w5.heap.size:=by have:=dw.size;have:=HM.out.sz;simp at *;omega
       have wZ:=hid (show Yr Y [rU tt] 1 (k+1) from⟨Or.inr ⟨_,rfl,⟨by omega,by omega,fun _=>⟨rfl,rfl,rfl,rfl,rfl⟩,fun h=>(by omega),fun h=>(by omega),fun h=>(by omega)⟩⟩,fun y hy=>by
        rcases List.mem_append.1 hy with hy | hy
        ·exact(HP.out.ok y (by simpa using hy)).mono (Nat.le_succ _)
        ·simp at hy;subst hy;exact⟨rfl,rfl,by simp[rU,fG],by simp[rU,fG],by simp[rU,fG]⟩,by
        have:=HP.out.sum;simp[rU,fG] at *;omega⟩)
       clear hown5 dw hm4 ht4
       go_wp2_with fail
       go_roundg (gk-1)
       case rel=>exact⟨k+1,Y,[rU tt],1,w5.heap.size,by omega,by go_num,rfl,HM5,HT5,hsz5,HS,wZ,hb5⟩
       case measure=>omega
    ·obtain⟨x,hx,Yt⟩:∃ x,last=[x]∧Di x.it a:=by
      rcases HP.out.st with h | h
      ·exact absurd h.1 ha
      ·exact h
     subst hx
     have hz:((a:Int)==0)=false:=by simp;omega
     obtain⟨b,c,hlv,hb0,hb1'⟩:=HM.out.own.form (by simp)
     have hlen:(Y++[x]).length=Y.length+1:=by simp
     rw[hlen] at hlv
     subst hlv
     have hYl:Y.length+1≤400:=by have:=HP.out.sum;simp at this;omega
     have hm4:=HM.out.below ((Below.refl wr.heap.size wr).alloc (Nat.le_refl _) (.cells #[.string tt,.int .i64 KQ,.bool false] 84))
     have ht4:=HTk.out.below ((Below.refl wr.heap.size wr).alloc (Nat.le_refl _) (.cells #[.string tt,.int .i64 KQ,.bool false] 84))
     have XD:=hid hm4
     have HT4:=hid ht4
     have afe:=hid (ZX (HP.out.ok x (by simp)) Yt (show k≤400 by omega))
     have aff:b<lo:=HM.out.lb b rfl
     have ib1:(0:Int)≤(Y.length:Int):=by omega
     have ib2:(Y.length:Int)<(Y.length:Int)+1:=by omega
     have aeM:IntKind.i64.wrap (Y.length:Int)=(Y.length:Int):=wrap_small _ (by omega) (by omega)
     have HSO:=hid (step_ok (t:=⟨tt,KQ,false⟩) (HP.out.ok x (by simp)) Yt)
     have HLO:=hid Yt
     clear hm4 ht4 Yt
     go_wp2_with fail
     go_region_with (go_at_call 21;refine(OG _ lo b (Y.length*8) x a ⟨tt,KQ,false⟩ (XD.out.cur x (by simp)).drew XD.out.seg aff (Nat.le_trans XD.out.sz (Nat.le_refl _)) afe.out).mono ?_;rintro e w5 ⟨x',rfl,hx',hs5,hn5,hk5,h95⟩)
     all_goals
      by_cases h9:(ay x.it a ⟨tt,KQ,false⟩).2=9
      ·have HB:=hid (show R=(none,(KQ:Int)) by rw[← HG.out,HD.out];exact IK (by rw[DR rfl ha,if_pos h9]))
       have hb5:=h95 h9
       have hc5:w5.cell? ⟨wr.heap.size,1,none⟩=some (.int .i64 KQ):=by
        rw[hb5.cell (by show wr.heap.size<(wr.alloc _).heap.size;simp)];show (wr.alloc _).cell? _=_;simp
       have BN:Below w.heap.size w w5:=((hbel.alloc hbel.size _).drew).trans (hb5.mono (by have:=hbel.size;show w.heap.size≤(wr.alloc _).heap.size;simp;omega))
       rw[h9]
       clear h95 hk5 hn5 hs5 hx'
       go_wp2_with fail
       go_quiet (fail)
       go_wp2_with fail
       go_ret2
       exact⟨Bj,by rw[HB.out];rfl,below_drewN BN _,Or.inl ⟨by rw[HB.out],rfl⟩⟩
      ·have h9':(((ay x.it a ⟨tt,KQ,false⟩).2:Int)==9)=false:=by simp;omega
       have HS:=hid (show pW s.size (T.drop (k+1)) ((Y++[x']).map (fun y=>y.it)) (ay x.it a ⟨tt,KQ,false⟩).2=R by
        rw[← HG.out,HD.out];symm;rw[Vu (by rw[DR rfl ha,if_neg h9])];simp[hx'])
       have hm5:=XD.out.step hs5 hn5 hk5.Vw
       have ht5:=P8.step HT4.out XD.out.seg hk5.Vw hlo
       have BN:Below w.heap.size w w5:=((hbel.alloc hbel.size _).drew).trans (hk5.toBelow hb0 (by have:=HM.out.w0;omega))
       have hso:=HSO.out
       rw[← hx'] at hso
       have HPN:=hid hso
       generalize (ay x.it a ⟨tt,KQ,false⟩).2=a' at *
       have HM5:=hid hm5
       have HT5:=hid ht5
       clear hm5 ht5 hso h95 hk5 hn5 hs5 HSO
       go_wp2_with fail
       rcases HPN.out.2.2 with h | h | h
       ·exact absurd h h9
       ·subst h
        go_roundg (gk-1)
        case rel=>exact⟨k+1,Y++[x'],[],0,w5.heap.size,by omega,by go_num,rfl,hid HM5.out.close,HT5,by have:=HM5.out.sz;omega,hid (by have:=HS.out;rw[List.append_nil];exact this),hid ⟨Or.inl ⟨rfl,rfl⟩,by rw[List.append_nil];exact Qj HP.out HPN.out.1,by rw[List.append_nil];exact KP HP.out HPN.out.2.1⟩,BN⟩
        case measure=>omega
       ·go_roundg (gk-1)
        case rel=>exact⟨k+1,Y,[x'],a',lo,by omega,by go_num,rfl,HM5,HT5,hlo,HS,hid ⟨Or.inr ⟨x',rfl,h⟩,Qj HP.out HPN.out.1,KP HP.out HPN.out.2.1⟩,BN⟩
        case measure=>omega
  ·have HE:=hid (show pW s.size [] ((Y++last).map (fun y=>y.it)) a=R by rw[← HG.out,List.drop_eq_nil_of_le (by omega)])
   by_cases ha:a=0
   ·subst ha
    obtain⟨_,hl⟩:(0:Nat)=0∧last=[]:=by
     rcases HP.out.st with h | ⟨x,_,h⟩
     ·exact h
     ·have:=h.lo;omega
    subst hl
    have HE2:=hid (show R=(some (Y.map (fun y=>y.it)),-1) by rw[← HE.out];simp[pW])
    go_wp2_with fail
    go_ret2
    refine⟨u4,by rw[HE2.out];rfl,hbel,Or.inr ⟨Y,by rw[HE2.out],HM.out.its,?_,?_,?_⟩⟩
    ·have:=HP.out.sum;simp at this;omega
    ·intro y hy;exact(HP.out.ok y (by simpa using hy)).mono (by omega)
    ·have:=HP.out.sum;simp at this;omega
   ·have hz:((a:Int) != 0)=true:=by simp;omega
    have HE2:=hid (show R=(none,(s.size:Int)) by rw[← HE.out];simp[pW,ha])
    go_wp2_with fail
    go_ret2
    exact⟨Bj,by rw[HE2.out];rfl,hbel,Or.inl ⟨by rw[HE2.out],rfl⟩⟩
theorem KR (w:World) (lo:Nat) (lv:Value) (X:List IV) (i:Nat) (x:IV) (h:Its w lo lv X) (hi:X[i]? = some x) (hX:X.length≤400) (hU:(univ X x.it.name).length≤1000) (hn1:x.it.aQ.length=x.it.names.length) (hn2:x.it.aV.length=x.it.bases.length) (hn3:x.it.names.length≤400) (hn4:x.it.bases.length≤400) :
  Calls Tryz.prog 11 #[lv,.int .i64 i] w fun e w'=>e=.returned (.int .i64 (cZ (fP X i x.it)))∧Below w.heap.size w w':=by
 have hil:i<X.length:=by
  rcases Nat.lt_or_ge i X.length with h | h
  ·exact h
  ·rw[List.getElem?_eq_none h] at hi;cases hi
 obtain⟨lg,lc,hlv,hl1,hl2⟩:=dM h.own (by omega)
 subst hlv
 have hs:=h.seg hi
 obtain⟨af,cf,hvf⟩:∃ a c,x.vf=.slice a x.it.fields.length c:=ak (h.nest x (List.mem_of_getElem? hi)).f
 obtain⟨an,cn,hvn⟩:∃ a c,x.vn=.slice a x.it.names.length c:=ak (h.nest x (List.mem_of_getElem? hi)).n
 obtain⟨ab,cb,hvb⟩:∃ a c,x.vb=.slice a x.it.bases.length c:=ak (h.nest x (List.mem_of_getElem? hi)).b
 obtain⟨aa,ca,hva⟩:∃ a c,x.jA=.slice a x.it.aQ.length c:=ak (h.nest x (List.mem_of_getElem? hi)).na
 obtain⟨az,cz,hvz⟩:∃ a c,x.jB=.slice a x.it.aV.length c:=ak (h.nest x (List.mem_of_getElem? hi)).ba
 obtain⟨it,vf,vn,jA,vb,jB⟩:=x
 simp only at hva hvz hvf hvn hvb hU hn1 hn2 hn3 hn4
 subst hvf hvn hvb hva hvz
 have c0:w.cell? ⟨lg,i*8,none⟩=some (.string it.kind):=hs.cell (j:=0) rfl
 have c1:w.cell? ⟨lg,i*8+1,none⟩=some (.string it.name):=hs.cell (j:=1) rfl
 have c2:w.cell? ⟨lg,i*8+2,none⟩=some (.int .i64 it.nameAt):=hs.cell (j:=2) rfl
 have c3:w.cell? ⟨lg,i*8+3,none⟩=some (.slice af it.fields.length cf):=hs.cell (j:=3) rfl
 have c4:w.cell? ⟨lg,i*8+4,none⟩=some (.slice an it.names.length cn):=hs.cell (j:=4) rfl
 have c5:w.cell? ⟨lg,i*8+5,none⟩=some (.slice aa it.aQ.length ca):=hs.cell (j:=5) rfl
 have c6:w.cell? ⟨lg,i*8+6,none⟩=some (.slice ab it.bases.length cb):=hs.cell (j:=6) rfl
 have c7:w.cell? ⟨lg,i*8+7,none⟩=some (.slice az it.aV.length cz):=hs.cell (j:=7) rfl
 have H:=hid h
 have HI:=hid hi
 have HU:=hid hU
 have XH:=hid hn1
 have XI:=hid hn2
 clear h hi hs hU hn1 hn2
 generalize hR:cZ (fP X i it)=R
 have HR:=hid hR
 clear hR
 go_enter func11,ntmps11
 go_wp2_with fail
 have hb0:Below w.heap.size w (w.alloc (.cells #[.string it.kind,.string it.name,.int .i64 it.nameAt,.slice af it.fields.length cf,.slice an it.names.length cn,.slice aa it.aQ.length ca,.slice ab it.bases.length cb,.slice az it.aV.length cz] 88)):=(Below.refl _ _).alloc (Nat.le_refl _) _
 have hbox:Seg (w.alloc (.cells #[.string it.kind,.string it.name,.int .i64 it.nameAt,.slice af it.fields.length cf,.slice an it.names.length cn,.slice aa it.aQ.length ca,.slice ab it.bases.length cb,.slice az it.aV.length cz] 88)) w.heap.size 88 0 (bJ ⟨it,.slice af it.fields.length cf,.slice an it.names.length cn,.slice aa it.aQ.length ca,.slice ab it.bases.length cb,.slice az it.aV.length cz⟩) :=
  ⟨_,heap_alloc_new w _,by simp[bJ],by simp[bJ]⟩
 generalize hw0:w.alloc (.cells #[.string it.kind,.string it.name,.int .i64 it.nameAt,.slice af it.fields.length cf,.slice an it.names.length cn,.slice aa it.aQ.length ca,.slice ab it.bases.length cb,.slice az it.aV.length cz] 88)=w0 at *
 clear hw0 c0 c1 c2 c3 c4 c5 c6 c7
 have HB0:=hid hb0
 have IL:=hid hbox
 have HI0:=hid (H.out.same hb0)
 clear hb0 hbox
 go_loopg [6,7,8,9] i (fun gk p k a b wr=>∃ j:Nat,j+gk=i∧k=.int .i64 j∧p=.int .i64 (cZ (jX (uq X j it) it.nameAt))∧Below w0.heap.size w0 wr)
 case atStart=>exact⟨0,by omega,rfl,by rw[Sr];rfl,Below.refl _ _⟩
 case round=>
  obtain⟨j,hj,rfl,rfl,hbel⟩:=hrel
  have hbx:=IL.out.same (hbel.block _ IL.out.lt)
  have c0:wr.cell? ⟨w.heap.size,0,none⟩=some (.string it.kind):=hbx.cell (j:=0) rfl
  have c1:wr.cell? ⟨w.heap.size,1,none⟩=some (.string it.name):=hbx.cell (j:=1) rfl
  have c2:wr.cell? ⟨w.heap.size,2,none⟩=some (.int .i64 it.nameAt):=hbx.cell (j:=2) rfl
  have c3:wr.cell? ⟨w.heap.size,3,none⟩=some (.slice af it.fields.length cf):=hbx.cell (j:=3) rfl
  have c4:wr.cell? ⟨w.heap.size,4,none⟩=some (.slice an it.names.length cn):=hbx.cell (j:=4) rfl
  have c5:wr.cell? ⟨w.heap.size,5,none⟩=some (.slice aa it.aQ.length ca):=hbx.cell (j:=5) rfl
  have c6:wr.cell? ⟨w.heap.size,6,none⟩=some (.slice ab it.bases.length cb):=hbx.cell (j:=6) rfl
  have c7:wr.cell? ⟨w.heap.size,7,none⟩=some (.slice az it.aV.length cz):=hbx.cell (j:=7) rfl
  clear hbx
  by_cases hlt:j<i
  ·obtain⟨y,hy⟩:∃ y,X[j]? = some y:=⟨X[j]'(by omega),List.getElem?_eq_getElem (by omega)⟩
   have hys:=(HI0.out.same hbel).seg hy
   obtain⟨yt,yf,yn,yna,yb,yba⟩:=y
   have hD:=Sz it hy
   go_wp2_with fail
   refine(zy _ _ _ _ _ _ _ _ _).mono ?_;rintro e w1 ⟨rfl,hb1⟩
   have Oq:=hbel.trans (hb1.mono hbel.size)
   have Fj:=hys.same (hb1.block _ hys.lt)
   have d0:w1.cell? ⟨lg,j*8,none⟩=some (.string yt.kind):=Fj.cell (j:=0) rfl
   have d1:w1.cell? ⟨lg,j*8+1,none⟩=some (.string yt.name):=Fj.cell (j:=1) rfl
   have d2:w1.cell? ⟨lg,j*8+2,none⟩=some (.int .i64 yt.nameAt):=Fj.cell (j:=2) rfl
   have d3:w1.cell? ⟨lg,j*8+3,none⟩=some yf:=Fj.cell (j:=3) rfl
   have d4:w1.cell? ⟨lg,j*8+4,none⟩=some yn:=Fj.cell (j:=4) rfl
   have d5:w1.cell? ⟨lg,j*8+5,none⟩=some yna:=Fj.cell (j:=5) rfl
   have d6:w1.cell? ⟨lg,j*8+6,none⟩=some yb:=Fj.cell (j:=6) rfl
   have d7:w1.cell? ⟨lg,j*8+7,none⟩=some yba:=Fj.cell (j:=7) rfl
   have HD:=hid hD
   clear c0 c1 c2 c3 c4 c5 c6 c7 hys hD hy hbel hb1
   have HYS:=hid Fj
   clear Fj
   go_wp2_with fail
   refine(zy _ _ _ _ _ _ _ _ _).mono ?_;rintro e w2 ⟨rfl,hb2⟩
   have nM:=Oq.trans (hb2.mono Oq.size)
   have hbx:=IL.out.same (nM.block _ IL.out.lt)
   have acM:=HYS.out.same (hb2.block _ HYS.out.lt)
   have c1:w2.cell? ⟨w.heap.size,1,none⟩=some (.string it.name):=hbx.cell (j:=1) rfl
   have c2:w2.cell? ⟨w.heap.size,2,none⟩=some (.int .i64 it.nameAt):=hbx.cell (j:=2) rfl
   have d1:w2.cell? ⟨lg,j*8+1,none⟩=some (.string yt.name):=acM.cell (j:=1) rfl
   clear d0 d2 d3 d4 d5 d6 d7 hbx acM hb2 Oq HYS
   cases hnm:(yt.name.toList==it.name.toList) with
   | false=>
    go_wp2_with fail
    go_quiet (fail)
    go_wp2_with fail
    go_roundg (gk-1)
    case rel=>exact⟨j+1,by omega,by go_num,by rw[HD.out,hnm];simp,below_drewN nM _⟩
    case measure=>omega
   | true=>
    cases hty:(dQ it.kind.toList==dQ yt.kind.toList) with
    | false=>
     go_wp2_with fail
     go_quiet (fail)
     go_wp2_with fail
     go_roundg (gk-1)
     case rel=>exact⟨j+1,by omega,by go_num,by rw[HD.out,hnm,hty];simp,below_drewN nM _⟩
     case measure=>omega
    | true=>
     go_wp2_with fail
     go_quiet (fail)
     go_wp2_with fail
     go_roundg (gk-1)
     case rel=>exact⟨j+1,by omega,by go_num,by rw[HD.out,hnm,hty];simp[jX,cZ,kS],below_drewN nM _⟩
     case measure=>omega
  ·have hji:j=i:=by omega
   subst hji
   have hfl:it.fields.length≤1000:=by have:=AA it.name (List.mem_of_getElem? HI.out);simp only at this;have:=HU.out;omega
   clear c5 c7
   cases hm:(it.kind.toList==[109,101,115,115,97,103,101])
   case' false=>
    have HP:=hid (show cZ (jX (uq X j it) it.nameAt)=cZ (oP X j it) by simp only[oP,hm,Bool.false_and,jX];simp)
    rw[HP.out]
    have hbz:=hbel
    clear HP
    go_wp2_with fail
   case' true=>
    go_wp2_with fail
    refine(Sm _ _ _ _ _ (HI0.out.same hbel) hX HU.out).mono ?_;rintro e w3 ⟨rfl,hb3⟩
    have hbz:=hbel.trans (hb3.mono hbel.size)
    have c2':w3.cell? ⟨w.heap.size,2,none⟩=some (.int .i64 it.nameAt):=by rw[hb3.cell (by have:=IL.out.lt;have:=hbel.size;show w.heap.size<_;omega)];exact c2
    cases hh:kU X it.name (univ X it.name).length [it.name] 0
    case' false=>
     have HP:=hid (show cZ (jX (uq X j it) it.nameAt)=cZ (oP X j it) by simp only[oP,hm,holdsB,hh,Bool.true_and,jX];simp)
     rw[HP.out]
     clear HP c2' hb3 hh
     go_wp2_with fail
    case' true=>
     go_wp2_with fail
     refine(pR _ _ _).mono ?_;rintro e w4 ⟨rfl,rfl⟩
     have HP:=hid (show kS (cZ (jX (uq X j it) it.nameAt)) it.nameAt=cZ (oP X j it) by simp only[oP,hm,holdsB,hh,Bool.true_and];rw[vW];rfl)
     rw[HP.out]
     clear HP c2' hb3 hh
     go_wp2_with fail
   all_goals
    clear c0 c1 c2 c3 c4 c6 hbel hm
    generalize hP:oP X j it=PH
    have HPH:=hid hP
    clear hP
    go_loopg [6,11,12,13,14] it.fields.length (fun gk p k f jj t wr=>∃ q:Nat,q+gk=it.fields.length∧k=.int .i64 q∧p=.int .i64 (cZ (PH++(List.range q).flatMap (jT X it.fields)))∧Below w0.heap.size w0 wr)
    case atStart=>exact⟨0,by omega,rfl,by simp,hbz⟩
    case round=>
     obtain⟨q,hq,rfl,rfl,hbel⟩:=hrel
     have hbx:=IL.out.same (hbel.block _ IL.out.lt)
     have c3:wr.cell? ⟨w.heap.size,3,none⟩=some (.slice af it.fields.length cf):=hbx.cell (j:=3) rfl
     have c4:wr.cell? ⟨w.heap.size,4,none⟩=some (.slice an it.names.length cn):=hbx.cell (j:=4) rfl
     have hwl:w.heap.size<wr.heap.size:=hbx.lt
     clear hbx hbz
     by_cases JC:q<it.fields.length
     ·obtain⟨f,hf⟩:∃ f,it.fields[q]? = some f:=⟨it.fields[q],List.getElem?_eq_getElem JC⟩
      obtain⟨fg,fc,hfv,ae5,ae6,hfs⟩:=((HI0.out.same hbel).nest _ (List.mem_of_getElem? HI.out)).seg hf
      obtain⟨rfl,rfl⟩:af=some ⟨fg,0,none⟩∧cf=fc:=by simpa using hfv
      clear hfv
      have HFQ:=hid hf
      have hgq:fg<w0.heap.size:=by
       have:=((HI0.out.nest _ (List.mem_of_getElem? HI.out)).f.lt fg rfl).2;exact this
      obtain⟨zI,fname,AB,jc,Qg,Bq,XF⟩:=f
      have e0:wr.cell? ⟨fg,q*7,none⟩=some (.int .i64 zI):=hfs.cell (j:=0) rfl
      have e1:wr.cell? ⟨fg,q*7+1,none⟩=some (.string fname):=hfs.cell (j:=1) rfl
      have e2:wr.cell? ⟨fg,q*7+2,none⟩=some (.string AB):=hfs.cell (j:=2) rfl
      have e3:wr.cell? ⟨fg,q*7+3,none⟩=some (.string jc):=hfs.cell (j:=3) rfl
      have e4:wr.cell? ⟨fg,q*7+4,none⟩=some (.int .i64 Qg):=hfs.cell (j:=4) rfl
      have e5:wr.cell? ⟨fg,q*7+5,none⟩=some (.int .i64 Bq):=hfs.cell (j:=5) rfl
      have e6:wr.cell? ⟨fg,q*7+6,none⟩=some (.int .i64 XF):=hfs.cell (j:=6) rfl
      clear hf hfs
      generalize hA:PH++(List.range q).flatMap (jT X it.fields)=A
      have HA:=hid hA
      clear hA
      go_wp2_with fail
      have hbf:Below wr.heap.size wr (wr.alloc (.cells #[.int .i64 zI,.string fname,.string AB,.string jc,.int .i64 Qg,.int .i64 Bq,.int .i64 XF] 95)):=(Below.refl _ _).alloc (Nat.le_refl _) _
      have hfx:Seg (wr.alloc (.cells #[.int .i64 zI,.string fname,.string AB,.string jc,.int .i64 Qg,.int .i64 Bq,.int .i64 XF] 95)) wr.heap.size 95 0 (aP ⟨zI,fname,AB,jc,Qg,Bq,XF⟩):=⟨_,heap_alloc_new wr _,by simp[aP],by simp[aP]⟩
      generalize hwf:wr.alloc (.cells #[.int .i64 zI,.string fname,.string AB,.string jc,.int .i64 Qg,.int .i64 Bq,.int .i64 XF] 95)=wf at *
      clear hwf e0 e1 e2 e3 e4 e5 e6
      have aag:=hbel.trans (hbf.mono hbel.size)
      have c3f:wf.cell? ⟨w.heap.size,3,none⟩=some (.slice (some ⟨fg,0,none⟩) it.fields.length cf):=by rw[hbf.cell hwl];exact c3
      have f0:wf.cell? ⟨wr.heap.size,0,none⟩=some (.int .i64 zI):=hfx.cell (j:=0) rfl
      have f4:wf.cell? ⟨wr.heap.size,4,none⟩=some (.int .i64 Qg):=hfx.cell (j:=4) rfl
      have HFX:=hid hfx
      clear c3 c4 hbf hfx hbel
      have hNF:(q=0∧uP it.fields q=false)∨(∃ q' Vx,q=q'+1∧wf.cell? ⟨fg,q'*7,none⟩=some (.int .i64 Vx)∧((¬ zI≤Vx∧uP it.fields q=false)∨(zI≤Vx∧uP it.fields q=true))):=by
       rcases Nat.eq_zero_or_pos q with h0 | h0
       ·left;exact⟨h0,by rw[h0];exact SA _⟩
       ·right
        obtain⟨q',rfl⟩:∃ q',q=q'+1:=⟨q-1,by omega⟩
        obtain⟨gf,hgf⟩:∃ gf,it.fields[q']? = some gf:=⟨it.fields[q']'(by omega),List.getElem?_eq_getElem (by omega)⟩
        obtain⟨fg',fc',Yu,_,_,Yv⟩:=((HI0.out.same aag).nest _ (List.mem_of_getElem? HI.out)).seg hgf
        obtain⟨e1,e2⟩:fg=fg'∧cf=fc':=by simpa using Yu
        subst e1
        refine⟨q',gf.number,rfl,Yv.cell (j:=0) rfl,?_⟩
        have:uP it.fields (q'+1)=decide (zI≤gf.number):=SB HFQ.out hgf
        rw[this]
        by_cases hle:zI≤gf.number
        ·right;exact⟨hle,by simp[hle]⟩
        ·left;exact⟨hle,by simp[hle]⟩
      have HA1:=hid (vW A (uP it.fields q) Qg)
      rcases hNF with⟨hq0,hnf⟩ | ⟨q',Vx,hqq,hgc,⟨hle,hnf⟩ | ⟨hle,hnf⟩⟩
      case' inl=>
       have hg0:¬ ((0:Int)<(q:Int)):=by omega
       have hg1:decide ((0:Int)<(q:Int))=false:=by simp;omega
       have hg2:decide (0<q)=false:=by simp;omega
       rw[hnf] at HA1
       have QS:=hid (show cZ A=cZ (A++jX (uP it.fields q) Qg) by rw[hnf];exact HA1.out.symm)
       rw[QS.out]
       clear HA1 QS hnf hq0
       go_quiet (fail)
       go_wp2_with fail
      case' inr.inl=>
       have hg0:(0:Int)<(q:Int):=by omega
       have hg1:0<q:=by omega
       have hg2:decide (0<q)=true:=by simp;omega
       have hq1:(q:Int)-1=(q':Int):=by omega
       have hq2:(0:Int)≤(q':Int):=by omega
       have hq3:(q':Int)<(it.fields.length:Int):=by omega
       have hle':decide (zI≤Vx)=false:=by simpa using hle
       rw[hnf] at HA1
       have QS:=hid (show cZ A=cZ (A++jX (uP it.fields q) Qg) by rw[hnf];exact HA1.out.symm)
       rw[QS.out]
       have HQQ:=hid hqq
       clear HA1 QS hnf hqq hle
       go_quiet (fail)
       go_wp2_with fail
      case' inr.inr=>
       have hg0:(0:Int)<(q:Int):=by omega
       have hg1:0<q:=by omega
       have hg2:decide (0<q)=true:=by simp;omega
       have hq1:(q:Int)-1=(q':Int):=by omega
       have hq2:(0:Int)≤(q':Int):=by omega
       have hq3:(q':Int)<(it.fields.length:Int):=by omega
       rw[hnf] at HA1
       have QS:=hid (show kS (cZ A) Qg=cZ (A++jX (uP it.fields q) Qg) by rw[hnf];exact HA1.out.symm)
       have HQQ:=hid hqq
       clear HA1 hnf hqq
       go_quiet (fail)
       go_wp2_with fail
       refine(pR _ _ _).mono ?_;rintro e w4 ⟨rfl,rfl⟩
       rw[QS.out]
       go_wp2_with fail
      all_goals
       try clear hg0
       try clear hg1
       try clear hg2
       try clear hle
       try clear hle'
       try clear hq1
       try clear hq2
       try clear hq3
       try clear hgc
       clear f0 f4 c3f
       generalize hA1:A++jX (uP it.fields q) Qg=A1
       have HA1:=hid hA1
       clear hA1
       go_loopg [6,13] q (fun gk p jj wr2=>∃ r:Nat,r+gk=q∧jj=.int .i64 r∧p=.int .i64 (cZ (A1++jX (ug it.fields q r) Bq))∧Below wf.heap.size wf wr2)
       case atStart=>exact⟨0,by omega,rfl,by simp[ug,HFQ.out,jX],below_drewN (Below.refl _ _) _⟩
       case round=>
        rename_i _ wx _
        obtain⟨r,hr,rfl,rfl,hbr⟩:=hrel
        have SH:=aag.trans (hbr.mono aag.size)
        have hbx:=IL.out.same (SH.block _ IL.out.lt)
        have hfx:=HFX.out.same (hbr.block _ HFX.out.lt)
        by_cases hrq:r<q
        ·obtain⟨gf,hgf⟩:∃ gf,it.fields[r]? = some gf:=⟨it.fields[r]'(by omega),List.getElem?_eq_getElem (by omega)⟩
         obtain⟨fg',fc',Yu,_,_,Yv⟩:=((HI0.out.same SH).nest _ (List.mem_of_getElem? HI.out)).seg hgf
         obtain⟨e1,e2⟩:fg=fg'∧cf=fc':=by simpa using Yu
         subst e1
         have c3:=hbx.cell (j:=3) (v:=.slice (some ⟨fg,0,none⟩) it.fields.length cf) rfl
         have g1:=Yv.cell (j:=1) (v:=.string gf.name) rfl
         have f1:=hfx.cell (j:=1) (v:=.string fname) rfl
         have f5:=hfx.cell (j:=5) (v:=.int .i64 Bq) rfl
         simp only[Nat.zero_add] at c3 f1 f5
         have HNF:=hid (Oy HFQ.out hgf)
         have ib1:(0:Int)≤(r:Int):=by omega
         have ib2:(r:Int)<(it.fields.length:Int):=by omega
         have HLO:=hid (Gt A1 (ug it.fields q r) (gf.name.toList==fname.toList) Bq)
         clear hbx hfx Yv hgf Yu e2
         cases hnm:(gf.name.toList==fname.toList)
         case' false=>
          go_wp2_with fail
          go_quiet (fail)
          go_wp2_with fail
          go_roundg (gk-1)
          case rel=>exact⟨r+1,by omega,by go_num,by rw[HNF.out,HLO.out,hnm];rfl,below_drewN hbr _⟩
          case measure=>omega
         case' true=>
          go_wp2_with fail
          go_quiet (fail)
          go_wp2_with fail
          refine(pR _ _ _).mono ?_;rintro e w4 ⟨rfl,rfl⟩
          go_wp2_with fail
          go_roundg (gk-1)
          case rel=>exact⟨r+1,by omega,by go_num,by rw[HNF.out,HLO.out,hnm];rfl,below_drewN hbr _⟩
          case measure=>omega
        ·have aah:r=q:=by omega
         subst aah
         have f3:=hfx.cell (j:=3) (v:=.string jc) rfl
         have f6:=hfx.cell (j:=6) (v:=.int .i64 XF) rfl
         simp only[Nat.zero_add] at f3 f6
         have afk:=hfx.lt
         clear hbx hfx
         go_wp2_with fail
         refine(xg _ _ _ _ _ (HI0.out.same SH) hX).mono ?_;rintro e w5 ⟨rfl,hb5⟩
         have OH:=SH.trans (hb5.mono SH.size)
         have f6':=OA hb5 f6 afk
         have OI:=hid (show PH++(List.range (r+1)).flatMap (jT X it.fields)=A1++jX (ug it.fields r r) Bq++jX (!jS X jc.toList) XF by
          rw[xw,← List.append_assoc,HA.out,← HA1.out];simp only[jT,HFQ.out,List.append_assoc])
         generalize A1++jX (ug it.fields r r) Bq=A2 at *
         have HL2:=hid (vW A2 (!jS X jc.toList) XF)
         clear f3 f6 hb5 SH hbr
         cases hty:jS X jc.toList
         case' false=>
          go_wp2_with fail
          refine(pR _ _ _).mono ?_;rintro e w6 ⟨rfl,rfl⟩
          go_wp2_with fail
          go_roundg (it.fields.length-(r+1))
          case rel=>exact⟨r+1,by omega,by go_num,by rw[OI.out,HL2.out,hty];rfl,OH⟩
          case measure=>omega
         case' true=>
          go_wp2_with fail
          go_roundg (it.fields.length-(r+1))
          case rel=>exact⟨r+1,by omega,by go_num,by rw[OI.out,HL2.out,hty];rfl,OH⟩
          case measure=>omega
     ·have hqe:q=it.fields.length:=by omega
      have EW:=hid (show PH++(List.range q).flatMap (jT X it.fields)=oP X j it++(List.range it.fields.length).flatMap (jT X it.fields) by rw[HPH.out,hqe])
      generalize PH++(List.range q).flatMap (jT X it.fields)=P3 at *
      clear HPH hqe
      go_wp2_with fail
      clear c3
      go_loopg [6,15,16] it.names.length (fun gk p k jj wr=>∃ q:Nat,q+gk=it.names.length∧k=.int .i64 q∧p=.int .i64 (cZ (P3++(List.range q).flatMap (qw it.names it.aQ)))∧Below w0.heap.size w0 wr)
      case atStart=>exact⟨0,by omega,rfl,by simp,hbel⟩
      case round=>
       obtain⟨q,hq,rfl,rfl,hbel⟩:=hrel
       have hbx:=IL.out.same (hbel.block _ IL.out.lt)
       have c4:=hbx.cell (j:=4) (v:=.slice an it.names.length cn) rfl
       have c6:=hbx.cell (j:=6) (v:=.slice ab it.bases.length cb) rfl
       simp only[Nat.zero_add] at c4 c6
       clear hbx
       by_cases JC:q<it.names.length
       ·obtain⟨nq,hnq⟩:∃ nq,it.names[q]? = some nq:=⟨it.names[q],List.getElem?_eq_getElem JC⟩
        obtain⟨pq,hpq⟩:∃ pq,it.aQ[q]? = some pq:=⟨it.aQ[q]'(by have:=XH.out;omega),List.getElem?_eq_getElem (by have:=XH.out;omega)⟩
        obtain⟨ng,nc,uy,hng,DT⟩:=Qh (HI0.out.nest _ (List.mem_of_getElem? HI.out)).n (by show 0<it.names.length;omega)
        obtain⟨rfl,rfl⟩:an=some ⟨ng,0,none⟩∧cn=nc:=by simpa using uy
        obtain⟨pg,pc,hpv,hpg,DU⟩:=IJ (HI0.out.nest _ (List.mem_of_getElem? HI.out)).na (by show 0<it.aQ.length;have:=XH.out;omega)
        obtain⟨rfl,rfl⟩:aa=some ⟨pg,0,none⟩∧ca=pc:=by simpa using hpv
        have HC:=hid (⟨DT,DU⟩:(∀ k s,it.names[k]? = some s→w0.cell? ⟨ng,k,none⟩=some (.string s))∧(∀ (k s:Nat),it.aQ[k]? = some s→w0.cell? ⟨pg,k,none⟩=some (.int .i64 s)))
        have HQ:=hid (⟨hnq,hpq⟩:it.names[q]? = some nq∧it.aQ[q]? = some pq)
        have HNL:=hid XH.out
        clear DT DU hnq hpq uy hpv
        generalize hA:P3++(List.range q).flatMap (qw it.names it.aQ)=A
        have HA:=hid hA
        clear hA
        go_wp2_with fail
        clear c4 c6
        go_loopg [6,16] q (fun gk p jj wr2=>∃ r:Nat,r+gk=q∧jj=.int .i64 r∧p=.int .i64 (cZ (A++jX (uQ it.names q r) pq))∧Below w0.heap.size w0 wr2)
        case atStart=>exact⟨0,by omega,rfl,by simp[uQ,HQ.out.1,jX],hbel⟩
        case round=>
         obtain⟨r,hr,rfl,rfl,hbr⟩:=hrel
         by_cases hrq:r<q
         ·obtain⟨gn,hgn⟩:∃ gn,it.names[r]? = some gn:=⟨it.names[r]'(by omega),List.getElem?_eq_getElem (by omega)⟩
          have hbx:=IL.out.same (hbr.block _ IL.out.lt)
          have c4:=hbx.cell (j:=4) (v:=.slice (some ⟨ng,0,none⟩) it.names.length cn) rfl
          have c5:=hbx.cell (j:=5) (v:=.slice (some ⟨pg,0,none⟩) it.aQ.length ca) rfl
          simp only[Nat.zero_add] at c4 c5
          have n1:=(hbr.cell (p:=⟨ng,r,none⟩) hng).trans (HC.out.1 r gn hgn)
          have n2:=(hbr.cell (p:=⟨ng,q,none⟩) hng).trans (HC.out.1 q nq HQ.out.1)
          have n3:=(hbr.cell (p:=⟨pg,q,none⟩) hpg).trans (HC.out.2 q pq HQ.out.2)
          have ib1:(0:Int)≤(r:Int):=by omega
          have ib2:(r:Int)<(it.names.length:Int):=by omega
          have ib3:(0:Int)≤(q:Int):=by omega
          have ib4:(q:Int)<(it.names.length:Int):=by omega
          have ib5:(q:Int)<(it.aQ.length:Int):=by have:=HNL.out;omega
          have Fp:=hid (Oz HQ.out.1 hgn)
          have HLO:=hid (Gt A (uQ it.names q r) (gn.toList==nq.toList) pq)
          clear hbx hgn
          cases hnm:(gn.toList==nq.toList)
          case' false=>
           go_wp2_with fail
           go_quiet (fail)
           go_wp2_with fail
           go_roundg (gk-1)
           case rel=>exact⟨r+1,by omega,by go_num,by rw[Fp.out,HLO.out,hnm];rfl,below_drewN hbr _⟩
           case measure=>omega
          case' true=>
           go_wp2_with fail
           go_quiet (fail)
           go_wp2_with fail
           refine(pR _ _ _).mono ?_;rintro e w4 ⟨rfl,rfl⟩
           go_wp2_with fail
           go_roundg (gk-1)
           case rel=>exact⟨r+1,by omega,by go_num,by rw[Fp.out,HLO.out,hnm];rfl,below_drewN hbr _⟩
           case measure=>omega
         ·have aah:r=q:=by omega
          subst aah
          have OI:=hid (show P3++(List.range (r+1)).flatMap (qw it.names it.aQ)=A++jX (uQ it.names r r) pq by
           rw[xw,← List.append_assoc,HA.out];simp only[qw,HQ.out.2])
          go_wp2_with fail
          go_roundg (it.names.length-(r+1))
          case rel=>exact⟨r+1,by omega,by go_num,by rw[OI.out],hbr⟩
          case measure=>omega
       ·have hqe:q=it.names.length:=by omega
        have Uh:=hid (show P3++(List.range q).flatMap (qw it.names it.aQ)=oP X j it++(List.range it.fields.length).flatMap (jT X it.fields)++(List.range it.names.length).flatMap (qw it.names it.aQ) by rw[EW.out,hqe])
        generalize P3++(List.range q).flatMap (qw it.names it.aQ)=P4 at *
        clear EW hqe
        go_wp2_with fail
        clear c4 c6
        go_loopg [6,17,18] it.bases.length (fun gk p k jj wr=>∃ q:Nat,q+gk=it.bases.length∧k=.int .i64 q∧p=.int .i64 (cZ (P4++(List.range q).flatMap (qY X it.bases it.aV)))∧Below w0.heap.size w0 wr)
        case atStart=>exact⟨0,by omega,rfl,by simp,hbel⟩
        case round=>
         obtain⟨q,hq,rfl,rfl,hbel⟩:=hrel
         have hbx:=IL.out.same (hbel.block _ IL.out.lt)
         have c6:=hbx.cell (j:=6) (v:=.slice ab it.bases.length cb) rfl
         simp only[Nat.zero_add] at c6
         clear hbx
         by_cases JC:q<it.bases.length
         ·obtain⟨nq,hnq⟩:∃ nq,it.bases[q]? = some nq:=⟨it.bases[q],List.getElem?_eq_getElem JC⟩
          obtain⟨pq,hpq⟩:∃ pq,it.aV[q]? = some pq:=⟨it.aV[q]'(by have:=XI.out;omega),List.getElem?_eq_getElem (by have:=XI.out;omega)⟩
          obtain⟨ng,nc,uy,hng,DT⟩:=Qh (HI0.out.nest _ (List.mem_of_getElem? HI.out)).b (by show 0<it.bases.length;omega)
          obtain⟨rfl,rfl⟩:ab=some ⟨ng,0,none⟩∧cb=nc:=by simpa using uy
          obtain⟨pg,pc,hpv,hpg,DU⟩:=IJ (HI0.out.nest _ (List.mem_of_getElem? HI.out)).ba (by show 0<it.aV.length;have:=XI.out;omega)
          obtain⟨rfl,rfl⟩:az=some ⟨pg,0,none⟩∧cz=pc:=by simpa using hpv
          have n1:=(hbel.cell (p:=⟨ng,q,none⟩) hng).trans (DT q nq hnq)
          have ib5:(q:Int)<(it.aV.length:Int):=by have:=XI.out;omega
          have OI:=hid (show P4++(List.range (q+1)).flatMap (qY X it.bases it.aV)=P4++(List.range q).flatMap (qY X it.bases it.aV)++jX (!jS X nq.toList) pq by
           rw[xw,← List.append_assoc];simp only[qY,hnq,hpq])
          have HC2:=hid (DU q pq hpq)
          clear DT DU hnq hpq uy hpv
          generalize P4++(List.range q).flatMap (qY X it.bases it.aV)=A at *
          have HL2:=hid (vW A (!jS X nq.toList) pq)
          go_wp2_with fail
          refine(xg _ _ _ _ _ (HI0.out.same hbel) hX).mono ?_;rintro e w5 ⟨rfl,hb5⟩
          have OH:=hbel.trans (hb5.mono hbel.size)
          have hbx:=IL.out.same (OH.block _ IL.out.lt)
          have c7:=hbx.cell (j:=7) (v:=.slice (some ⟨pg,0,none⟩) it.aV.length cz) rfl
          have n3:=(OH.cell (p:=⟨pg,q,none⟩) hpg).trans HC2.out
          simp only[Nat.zero_add] at c7
          clear hbx c6 n1 hb5
          cases hty:jS X nq.toList
          case' false=>
           go_wp2_with fail
           refine(pR _ _ _).mono ?_;rintro e w6 ⟨rfl,rfl⟩
           go_wp2_with fail
           go_roundg (it.bases.length-(q+1))
           case rel=>exact⟨q+1,by omega,by go_num,by rw[OI.out,HL2.out,hty];rfl,OH⟩
           case measure=>omega
          case' true=>
           go_wp2_with fail
           go_roundg (it.bases.length-(q+1))
           case rel=>exact⟨q+1,by omega,by go_num,by rw[OI.out,HL2.out,hty];rfl,OH⟩
           case measure=>omega
         ·have hqe:q=it.bases.length:=by omega
          have wZ:=hid (show cZ (P4++(List.range q).flatMap (qY X it.bases it.aV))=R by rw[← HR.out,Uh.out,hqe];rfl)
          rw[wZ.out]
          go_wp2_with fail
          go_ret
          exact⟨rfl,HB0.out.trans (hbel.mono HB0.out.size)⟩
end Go.Proofs.YtgalebcpagmohaaGreatDoor
