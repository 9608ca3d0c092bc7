/- Package courierref's cursor: a message and a list deeper than may be. -/
import Derived.Test.YtgalebcpagmohaaGreatDoorKEncMsg
import Derived.Deep.RegionHeld3
set_option maxHeartbeats 4000000
set_option maxRecDepth 100000
namespace Go.Proofs.YtgalebcpagmohaaGreatDoor
open Go.Proofs.Tryz
open Go.RowKit
theorem LX (w:World) (cb:Nat) (la:Option Addr) (ll lc:Nat) (s:ByteArray) (i:Nat) (base:ByteArray) (h:Cu w cb (.slice la ll lc) s i true 6) (hs:s.size≤400) :
  Calls Tryz.prog 234 #[.pointer (some ⟨cb,0,none⟩),.string base] w (jq (fun _=>none) w cb (.slice la ll lc) s i 6 0):=by
 unfold jq
 have e4:=h.seg.cell (j:=4) rfl
 have XK:=h.seg.frozen 4
 simp only[Nat.zero_add] at e4
 have H:=hid h
 clear h
 go_enter func234,ntmps234
 go_wp2_with fail
 refine(iK _ cb la ll lc s (ByteArray.mk #[91]) i true 7 (H.out.jU 7) hs (by decide)).mono ?_;rintro e w1 ⟨⟨v,rfl⟩,hb1,hc1⟩
 simp only[Bool.true_and] at hc1
 generalize (aK (ByteArray.mk #[91]).toList (aC s i)).isSome=r at *
 have hz1:(ByteArray.mk #[91]).size=1:=rfl
 rw[hz1] at hc1
 have hge:i≤upTo r i 1:=by cases r<;>simp[upTo]
 generalize upTo r i 1=k at *
 have wP:=hid hc1
 have kX:But cb w w1:=((But.refl cb w).setCell 4 (.int .i64 7)).trans hb1
 clear hc1 hb1 e4 XK
 go_wp2_with fail
 go_loopg [5,6,7,8] 0 (fun gk o5 n6 x7 x8 wr=>o5=.slice none 0 0∧wr=w1)
 case atStart=>exact⟨rfl,rfl⟩
 case round=>
  obtain⟨rfl,rfl⟩:=hrel
  have e3:=wP.out.seg.cell (j:=3) rfl
  have e4:=wP.out.seg.cell (j:=4) rfl
  have XK:=wP.out.seg.frozen 4
  have ef3:=wP.out.seg.frozen 3
  simp only[Nat.zero_add] at e3 e4
  cases r with
  | true=>
   go_wp2_with fail
   go_ret
   exact⟨none,0,[],k,false,rfl,World.ownsRow_nil _ _ _ _,(kX.setCell _ _).setCell _ _,(wP.out.ji false).jU 6,hge,fun h=>(by cases h),by simp,rfl⟩
  | false=>
   go_wp2_with fail
   go_ret
   exact⟨none,0,[],k,false,rfl,World.ownsRow_nil _ _ _ _,(kX.setCell _ _).setCell _ _,(wP.out.ji false).jU 6,hge,fun h=>(by cases h),by simp,rfl⟩
theorem O7 (w:World) (cb:Nat) (la:Option Addr) (ll lc:Nat) (s:ByteArray) (i:Nat) (h:Cu w cb (.slice la ll lc) s i true 6) (hs:s.size≤400) (kd nm:ByteArray) (nA:Int) (fa na za ba xa:Option Addr) (fl fc nl nc zl zc bl bc xl xc:Nat) :
  Calls Tryz.prog 175 #[.pointer (some ⟨cb,0,none⟩),.agg #[.string kd,.string nm,.int .i64 nA,.slice fa fl fc,.slice na nl nc,.slice za zl zc,.slice ba bl bc,.slice xa xl xc]] w (jq (fun _=>none) w cb (.slice la ll lc) s i 6 0):=by
 unfold jq
 have hcl:=h.seg.lt
 have e4:=h.seg.cell (j:=4) rfl
 have e3:=h.seg.cell (j:=3) rfl
 have XK:=h.seg.frozen 4
 have ef3:=h.seg.frozen 3
 simp only[Nat.zero_add] at e4 e3
 have Vq:(cb=w.heap.size)=False:=by simp;omega
 have Vr:(w.heap.size=cb)=False:=by simp;omega
 have Zz:=hid (show But cb w (((w.setCell ⟨cb,4,none⟩ (.int .i64 7)).setCell ⟨cb,3,none⟩ (.bool false)).alloc (.cells #[.string kd,.string nm,.int .i64 nA,.slice fa fl fc,.slice na nl nc,.slice za zl zc,.slice ba bl bc,.slice xa xl xc] 88)) from(((But.refl cb w).setCell 4 _).setCell 3 _).trans (But.dJ ((Below.refl _ _).alloc (Nat.le_refl _) _)))
 have H0:=hid (show Cu (((w.setCell ⟨cb,4,none⟩ (.int .i64 7)).setCell ⟨cb,3,none⟩ (.bool false)).alloc (.cells #[.string kd,.string nm,.int .i64 nA,.slice fa fl fc,.slice na nl nc,.slice za zl zc,.slice ba bl bc,.slice xa xl xc] 88)) cb (.slice la ll lc) s i false 7 from((h.jU 7).ji false).same (((Below.refl _ _).alloc (Nat.le_refl _) _).block cb ((h.jU 7).ji false).seg.lt))
 have HI3:=hid (show (((w.setCell ⟨cb,4,none⟩ (.int .i64 7)).setCell ⟨cb,3,none⟩ (.bool false)).alloc (.cells #[.string kd,.string nm,.int .i64 nA,.slice fa fl fc,.slice na nl nc,.slice za zl zc,.slice ba bl bc,.slice xa xl xc] 88)).cell? ⟨w.heap.size,3,none⟩=some (.slice fa fl fc) from(by have:=dh ((w.setCell ⟨cb,4,none⟩ (.int .i64 7)).setCell ⟨cb,3,none⟩ (.bool false)) w.heap.size (by simp) #[.string kd,.string nm,.int .i64 nA,.slice fa fl fc,.slice na nl nc,.slice za zl zc,.slice ba bl bc,.slice xa xl xc] 88 3 (.slice fa fl fc) rfl;simpa[Addr.add] using this))
 have aat:w.heap.size<(((w.setCell ⟨cb,4,none⟩ (.int .i64 7)).setCell ⟨cb,3,none⟩ (.bool false)).alloc (.cells #[.string kd,.string nm,.int .i64 nA,.slice fa fl fc,.slice na nl nc,.slice za zl zc,.slice ba bl bc,.slice xa xl xc] 88)).heap.size:=by simp
 clear h
 go_enter func175,ntmps175
 go_wp2_with fail
 generalize (((w.setCell ⟨cb,4,none⟩ (.int .i64 7)).setCell ⟨cb,3,none⟩ (.bool false)).alloc (.cells #[.string kd,.string nm,.int .i64 nA,.slice fa fl fc,.slice na nl nc,.slice za zl zc,.slice ba bl bc,.slice xa xl xc] 88))=w0 at *
 refine(iK w0 cb la ll lc s (ByteArray.mk #[123]) i false 7 H0.out hs (by decide)).mono ?_;rintro e w1 ⟨⟨v,rfl⟩,hb1,hc1⟩
 simp only[Bool.false_and] at hc1
 generalize (aK (ByteArray.mk #[123]).toList (aC s i)).isSome=r at *
 have hz1:(ByteArray.mk #[123]).size=1:=rfl
 rw[hz1] at hc1
 have hge:i≤upTo r i 1:=by cases r<;>simp[upTo]
 generalize upTo r i 1=k at *
 have wP:=hid hc1
 have kX:But cb w w1:=Zz.out.trans hb1
 have i3:w1.cell? ⟨w.heap.size,3,none⟩=some (.slice fa fl fc):=(World.cell?_of_block (w:=w0) (hb1.block w.heap.size aat (by omega))).trans HI3.out
 clear hc1 hb1 e4 XK e3 ef3
 go_wp2_with fail
 go_loopg [5,6,7,8,9,10,11,12] 0 (fun gk o5 n6 j7 x8 x9 x10 x11 x12 wr=>o5=.slice none 0 0∧j7=.int .i64 0∧wr=w1)
 case atStart=>exact⟨rfl,rfl,rfl⟩
 case round=>
  obtain⟨rfl,rfl,rfl⟩:=hrel
  have e3:=wP.out.seg.cell (j:=3) rfl
  simp only[Nat.zero_add] at e3
  by_cases hfl:0<fl
  ·have afK:(0:Int)<(fl:Int):=by omega
   go_wp2_with fail
   refine(iK _ cb la ll lc s (ByteArray.mk #[125]) k false 7 wP.out hs (by decide)).mono ?_;rintro e w2 ⟨⟨v2,rfl⟩,hb2,hc2⟩
   simp only[Bool.false_and] at hc2
   generalize (aK (ByteArray.mk #[125]).toList (aC s k)).isSome=r2 at *
   have hz2:(ByteArray.mk #[125]).size=1:=rfl
   rw[hz2] at hc2
   have afL:k≤upTo r2 k 1:=by cases r2<;>simp[upTo]
   generalize upTo r2 k 1=k2 at *
   have HC2:=hid hc2
   have hbw2:=kX.trans hb2
   have f4:=HC2.out.seg.cell (j:=4) rfl
   have ff4:=HC2.out.seg.frozen 4
   simp only[Nat.zero_add] at f4
   clear hc2 hb2
   go_wp2_with fail
   go_ret
   exact⟨none,0,[],k2,false,rfl,World.ownsRow_nil _ _ _ _,hbw2.setCell _ _,HC2.out.jU 6,by omega,fun h=>(by cases h),by simp,rfl⟩
  ·have afK:¬ (0:Int)<(fl:Int):=by omega
   have ajw:decide ((0:Int)<(fl:Int))=false:=by simp;omega
   go_wp2_with fail
   refine(iK _ cb la ll lc s (ByteArray.mk #[125]) k false 7 wP.out hs (by decide)).mono ?_;rintro e w2 ⟨⟨v2,rfl⟩,hb2,hc2⟩
   simp only[Bool.false_and] at hc2
   generalize (aK (ByteArray.mk #[125]).toList (aC s k)).isSome=r2 at *
   have hz2:(ByteArray.mk #[125]).size=1:=rfl
   rw[hz2] at hc2
   have afL:k≤upTo r2 k 1:=by cases r2<;>simp[upTo]
   generalize upTo r2 k 1=k2 at *
   have HC2:=hid hc2
   have hbw2:=kX.trans hb2
   have f4:=HC2.out.seg.cell (j:=4) rfl
   have ff4:=HC2.out.seg.frozen 4
   simp only[Nat.zero_add] at f4
   clear hc2 hb2
   go_wp2_with fail
   go_ret
   exact⟨none,0,[],k2,false,rfl,World.ownsRow_nil _ _ _ _,hbw2.setCell _ _,HC2.out.jU 6,by omega,fun h=>(by cases h),by simp,rfl⟩
def mspec (Y:List IV):Nat→List FD→List UInt8→Got
 | 0=>fun _ _=>none
 | n+1=>msgP (encR Y n).1 (encR Y n).2
theorem V7 (Y:List IV) (n:Nat):(encR Y n).1=kW bF bF (GK Y) (mspec Y n):=by cases n<;>rfl
def aay (Y:List IV) (n K:Nat):Prop:=∀ (w:World) (cb lo:Nat) (la:Option Addr) (ll lc:Nat) (s:ByteArray) (i:Nat),Its w lo (.slice la ll lc) Y→Cu w cb (.slice la ll lc) s i true ((6:Int)-n)→Env w→Own cb→s.size≤400→∀ (q:Nat) (y:IV),Y[q]? = some y→∀ (fa na za ba xa:Option Addr) (fc nl nc zl zc bl bc xl xc:Nat),y.vf=.slice fa y.it.fields.length fc →
 Calls Tryz.prog 175 #[.pointer (some ⟨cb,0,none⟩),.agg #[.string y.it.kind,.string y.it.name,.int .i64 y.it.nameAt,.slice fa y.it.fields.length fc,.slice na nl nc,.slice za zl zc,.slice ba bl bc,.slice xa xl xc]] w (jq (mspec Y n (y.it.fields.map uj)) w cb (.slice la ll lc) s i ((6:Int)-n) K)
theorem jq.weak {spec:List UInt8→Got} {w:World} {cb:Nat} {lv:Value} {s:ByteArray} {i:Nat} {d:Int} {K K':Nat} {e:Ending} {w':World} (h:jq spec w cb lv s i d K e w') (hk:K≤K'):jq spec w cb lv s i d K' e w':=by
 obtain⟨a,c,out,i',ok,h1,h2,h3,h4,h5,h6,h7,h8⟩:=h
 exact⟨a,c,out,i',ok,h1,h2,h3,h4,h5,h6,by omega,h8⟩
theorem jq.turn {spec spec':List UInt8→Got} {w:World} {cb:Nat} {lv:Value} {s:ByteArray} {i:Nat} {d:Int} {K:Nat} {e:Ending} {w':World} (h:jq spec w cb lv s i d K e w') (hk:spec' (aC s i)=spec (aC s i)):jq spec' w cb lv s i d K e w':=by
 obtain⟨a,c,out,i',ok,h1,h2,h3,h4,h5,h6,h7,h8⟩:=h
 exact⟨a,c,out,i',ok,h1,h2,h3,h4,h5,h6,h7,hk.trans h8⟩
theorem jq.back {spec:List UInt8→Got} {w wf:World} {cb:Nat} {lv:Value} {s:ByteArray} {i:Nat} {d:Int} {K:Nat} {e:Ending} {w':World} (h:jq spec wf cb lv s i d K e w') (hb:Below w.heap.size w wf):jq spec w cb lv s i d K e w':=by
 obtain⟨a,c,out,i',ok,h1,h2,h3,h4,h5,h6,h7,h8⟩:=h
 exact⟨a,c,out,i',ok,h1,own_base h2 hb.size,(But.dJ hb).trans h3,h4,h5,h6,h7,h8⟩
theorem GR {Y:List IV} {n K:Nat} (hM:aay Y n K) (hY:YOk Y) (hX:Y.length≤400) (hK:10≤K):YB Y n K:=by
 intro w cb lo la ll lc s i base hI h hE hO hs hB
 generalize hd:(6:Int)-n=d at *
 have hle:=h.le
 have e3:=h.seg.cell (j:=3) rfl
 have e0:=h.seg.cell (j:=0) rfl
 simp only[Nat.zero_add] at e3 e0
 rw[V7]
 have hge:=Lj s i
 have HRT:=hid (run_text s i)
 have HRR:=hid (Ll s i)
 have HRL:=hid (Lh (s:=s) hle)
 have H:=hid h
 have HE:=hid hE
 have HI:=hid hI
 have HM:=hid hM
 have HD:=hid hd
 clear h hE hI hM hd
 cases hb1:(base.toList==[105,110,116]) with
 | true=>
  have HS:=hid (show kW bF bF (GK Y) (mspec Y n) base.toList (aC s i)=uw bF (aC s i) by unfold kW;rw[if_pos (by simpa[IQ] using hb1)])
  go_enter func116,ntmps116
  go_wp2_with fail
  refine(LH w cb la ll lc s i d H.out hs HE.out hO).mono ?_;intro e w1 h1
  have HP:=hid ((h1.weak hK).turn HS.out)
  obtain⟨a,c,out,i',ok,rfl,_⟩:=h1
  go_wp2_with fail
  go_ret
  exact HP.out
 | false=>
  cases hb2:(base.toList==[98,111,111,108]) with
  | true=>
   have HS:=hid (show kW bF bF (GK Y) (mspec Y n) base.toList (aC s i)=oQ bF nX (aC s i) by unfold kW;rw[if_neg (by simpa[IQ] using hb1),if_pos (by simpa[DY] using hb2)])
   go_enter func116,ntmps116
   go_wp2_with fail
   refine(run_any w cb la ll lc s i true d H.out hs).mono ?_;rintro e w1 ⟨rfl,sG,hc1⟩
   have wP:=hid hc1
   have f3:=hc1.seg.cell (j:=3) rfl
   have Zx:=hc1.seg.frozen 3
   simp only[Nat.zero_add] at f3
   have hz1:=sG.size
   have Uk:=hid (show (s.extract i (dZ s i)).toList.length=dZ s i-i by rw[aB,ByteArray.size_extract];have:=HRL.out;omega)
   generalize s.extract i (dZ s i)=t at *
   unfold jq
   clear hc1
   cases ht1:(t.toList==[116,114,117,101]) with
   | true=>
    go_wp2_with fail
    go_ret
    refine⟨some ⟨w1.heap.size,0,none⟩,1,[1],dZ s i,true,rfl,own_base (zN _ w1.heap.size (by simp) 1 1 (by decide)) hz1,(sG.setCell _ _).trans (But.dJ ((Below.refl _ _).alloc (Nat.le_refl _) _)),(wP.out.ji true).same (((Below.refl _ _).alloc (Nat.le_refl _) _).block cb (wP.out.ji true).seg.lt),hge,fun _=>by have:=Uk.out;simp at ht1;rw[ht1] at this;simp at this ⊢;omega,by simp;omega,?_⟩
    rw[HS.out];unfold oQ;rw[← HRT.out]
    have e:t.toList=[116,114,117,101]:=by simpa using ht1
    rw[e,← HRR.out,show nX.findIdx? (fun n=>n==[116,114,117,101])=some 1 by decide]
    simp only[Option.map_some,qR (show 1<128 by omega)];rfl
   | false=>
    cases ht2:(t.toList==[102,97,108,115,101]) with
    | true=>
     go_wp2_with fail
     go_ret
     refine⟨some ⟨w1.heap.size,0,none⟩,1,[0],dZ s i,true,rfl,own_base (zN _ w1.heap.size (by simp) 0 0 (by decide)) hz1,(sG.setCell _ _).trans (But.dJ ((Below.refl _ _).alloc (Nat.le_refl _) _)),(wP.out.ji true).same (((Below.refl _ _).alloc (Nat.le_refl _) _).block cb (wP.out.ji true).seg.lt),hge,fun _=>by have:=Uk.out;simp at ht2;rw[ht2] at this;simp at this ⊢;omega,by simp;omega,?_⟩
     rw[HS.out];unfold oQ;rw[← HRT.out]
     have e:t.toList=[102,97,108,115,101]:=by simpa using ht2
     rw[e,← HRR.out,show nX.findIdx? (fun n=>n==[102,97,108,115,101])=some 0 by decide]
     simp only[Option.map_some,qR (show 0<128 by omega)];rfl
    | false=>
     go_wp2_with fail
     go_ret
     refine⟨some ⟨w1.heap.size,0,none⟩,1,[0],dZ s i,false,rfl,own_base (zN _ w1.heap.size (by simp) 0 0 (by decide)) hz1,(sG.setCell _ _).trans (But.dJ ((Below.refl _ _).alloc (Nat.le_refl _) _)),(wP.out.ji false).same (((Below.refl _ _).alloc (Nat.le_refl _) _).block cb (wP.out.ji false).seg.lt),hge,fun h=>(by cases h),by simp;omega,?_⟩
     rw[HS.out];unfold oQ;rw[← HRT.out]
     have e1:¬ t.toList=[116,114,117,101]:=by simpa using ht1
     have e2:¬ t.toList=[102,97,108,115,101]:=by simpa using ht2
     rw[show nX.findIdx? (fun n=>n==t.toList)=none by
      rw[List.findIdx?_eq_none_iff]
      intro x hx
      simp only[nX,List.mem_cons,List.not_mem_nil,or_false] at hx
      rcases hx with rfl | rfl
      ·simp;exact fun h=>e2 h.symm
      ·simp;exact fun h=>e1 h.symm]
     rfl
  | false=>
   cases hb3:(base.toList==[116,101,120,116]) with
   | true=>
    have HS:=hid (show kW bF bF (GK Y) (mspec Y n) base.toList (aC s i)=uV (aC s i) by unfold kW;rw[if_neg (by simpa[IQ] using hb1),if_neg (by simpa[DY] using hb2),if_pos (by simpa[wText] using hb3)])
    go_enter func116,ntmps116
    go_wp2_with fail
    refine(VN w cb la ll lc s i d H.out hs).mono ?_;intro e w1 h1
    have HP:=hid ((h1.weak (show 1≤K by omega)).turn HS.out)
    obtain⟨a,c,out,i',ok,rfl,_⟩:=h1
    go_wp2_with fail
    go_ret
    exact HP.out
   | false=>
    have hf0:0≤jm Y base.toList:=by
     unfold jS jl at hB
     rw[hb1,hb2,hb3] at hB
     simpa using hB
    obtain⟨fi,x,hfi,hx⟩:=DF hf0
    have ZB:=hid (show GK Y base.toList=if jH x.it.kind aX then some (.inr (x.it.fields.map uj)) else some (.inl (x.it.names.map ByteArray.toList)) by unfold GK;rw[hfi];simp only[Int.toNat_natCast,hx];rw[if_neg (by omega)])
    have HVP:=hid (show kW bF bF (GK Y) (mspec Y n) base.toList (aC s i)=(match GK Y base.toList with | none=>none | some (.inl ns)=>oQ bF ns (aC s i) | some (.inr fs)=>mspec Y n fs (aC s i)) by unfold kW;rw[if_neg (by simpa[IQ] using hb1),if_neg (by simpa[DY] using hb2),if_neg (by simpa[wText] using hb3)];cases GK Y base.toList with | none=>rfl | some t=>cases t<;>rfl)
    have hfx:fi<Y.length:=iR hx
    obtain⟨va,vc,hvf⟩:∃ a c,x.vf=.slice a x.it.fields.length c:=ak (HI.out.nest x (List.mem_of_getElem? hx)).f
    obtain⟨na,nc,hvn⟩:∃ a c,x.vn=.slice a x.it.names.length c:=ak (HI.out.nest x (List.mem_of_getElem? hx)).n
    obtain⟨za,zl,zc,hvz⟩:∃ a l c,x.jA=.slice a l c:=⟨_,_,_,(ak (HI.out.nest x (List.mem_of_getElem? hx)).na).choose_spec.choose_spec⟩
    obtain⟨ba,bl,bc,hvb⟩:∃ a l c,x.vb=.slice a l c:=⟨_,_,_,(ak (HI.out.nest x (List.mem_of_getElem? hx)).b).choose_spec.choose_spec⟩
    obtain⟨xa,xl,xc,hvx⟩:∃ a l c,x.jB=.slice a l c:=⟨_,_,_,(ak (HI.out.nest x (List.mem_of_getElem? hx)).ba).choose_spec.choose_spec⟩
    obtain⟨lg,aae,Vf,ae4,acE⟩:=dM HI.out.own (by omega)
    obtain⟨rfl,rfl,rfl⟩:la=some ⟨lg,0,none⟩∧ll=Y.length∧lc=aae:=by simpa using Vf
    have hseg:=HI.out.seg hx
    have Nj:=hid (show ∀ w',Below w.heap.size w w'→Calls Tryz.prog 63 #[.slice (some ⟨lg,0,none⟩) Y.length lc,.string base] w' (fun e w''=>e=.returned (.int .i64 (fi:Int))∧Below w.heap.size w w''∧Below w'.heap.size w' w'') from fun w' hw'=>(Df w' lo _ Y base (HI.out.same hw') hX).mono (fun e w'' hh=>⟨by rw[hh.1,hfi],hw'.trans (hh.2.mono hw'.size),hh.2⟩))
    have Nl:=hid hx
    have ajx:(0:Int)≤(fi:Int):=by omega
    have ajy:(fi:Int)<(Y.length:Int):=by omega
    have hcl:=H.out.seg.lt
    clear hfi hx Vf hf0
    obtain⟨it,vf,vn,jA,vb,jB⟩:=x
    simp only at hvf hvn hvz hvb hvx
    subst hvf hvn hvz hvb hvx
    have c0:w.cell? ⟨lg,fi*8,none⟩=some (.string it.kind):=hseg.cell (j:=0) rfl
    have c1:w.cell? ⟨lg,fi*8+1,none⟩=some (.string it.name):=hseg.cell (j:=1) rfl
    have c2:w.cell? ⟨lg,fi*8+2,none⟩=some (.int .i64 it.nameAt):=hseg.cell (j:=2) rfl
    have c3:w.cell? ⟨lg,fi*8+3,none⟩=some (.slice va it.fields.length vc):=hseg.cell (j:=3) rfl
    have c4:w.cell? ⟨lg,fi*8+4,none⟩=some (.slice na it.names.length nc):=hseg.cell (j:=4) rfl
    have c5:w.cell? ⟨lg,fi*8+5,none⟩=some (.slice za zl zc):=hseg.cell (j:=5) rfl
    have c6:w.cell? ⟨lg,fi*8+6,none⟩=some (.slice ba bl bc):=hseg.cell (j:=6) rfl
    have c7:w.cell? ⟨lg,fi*8+7,none⟩=some (.slice xa xl xc):=hseg.cell (j:=7) rfl
    have HKP:=hid (show ∀ w',Below w.heap.size w w'→(w'.cell? ⟨cb,0,none⟩=some (.slice (some ⟨lg,0,none⟩) Y.length lc)∧w'.cell? ⟨lg,fi*8,none⟩=some (.string it.kind)∧w'.cell? ⟨lg,fi*8+1,none⟩=some (.string it.name)∧w'.cell? ⟨lg,fi*8+2,none⟩=some (.int .i64 it.nameAt)∧w'.cell? ⟨lg,fi*8+3,none⟩=some (.slice va it.fields.length vc)∧w'.cell? ⟨lg,fi*8+4,none⟩=some (.slice na it.names.length nc)∧w'.cell? ⟨lg,fi*8+5,none⟩=some (.slice za zl zc)∧w'.cell? ⟨lg,fi*8+6,none⟩=some (.slice ba bl bc)∧w'.cell? ⟨lg,fi*8+7,none⟩=some (.slice xa xl xc)) from fun w' hw'=>by
     have hq:∀ q,w'.cell? ⟨lg,q,none⟩=w.cell? ⟨lg,q,none⟩:=fun q=>World.cell?_of_block (w:=w) (hw'.block lg acE)
     refine⟨(World.cell?_of_block (w:=w) (hw'.block cb hcl)).trans e0,?_⟩
     simp only[hq]
     exact⟨c0,c1,c2,c3,c4,c5,c6,c7⟩)
    have IL:=hid (show ∀ wx w1,wx.heap=(w.alloc (.cells #[.string (ByteArray.mk #[]),.string (ByteArray.mk #[]),.int .i64 0,.slice none 0 0,.slice none 0 0,.slice none 0 0,.slice none 0 0,.slice none 0 0] 88)).heap→Below wx.heap.size wx w1→Seg w1 w.heap.size 88 0 [.string (ByteArray.mk #[]),.string (ByteArray.mk #[]),.int .i64 0,.slice none 0 0,.slice none 0 0,.slice none 0 0,.slice none 0 0,.slice none 0 0] from fun wx w1 hx hw1=>(oI w _ _).same ((hw1.block _ (by rw[hx];simp)).trans (by rw[hx])))
    clear hseg
    go_enter func116,ntmps116
    go_wp2_with fail
    clear c0 c1 c2 c3 c4 c5 c6 c7
    go_region_held3 (fun w'=>w'.cell? ⟨cb,0,none⟩=some (.slice (some ⟨lg,0,none⟩) Y.length lc)∧w'.cell? ⟨lg,fi*8,none⟩=some (.string it.kind)∧w'.cell? ⟨lg,fi*8+1,none⟩=some (.string it.name)∧w'.cell? ⟨lg,fi*8+2,none⟩=some (.int .i64 it.nameAt)∧w'.cell? ⟨lg,fi*8+3,none⟩=some (.slice va it.fields.length vc)∧w'.cell? ⟨lg,fi*8+4,none⟩=some (.slice na it.names.length nc)∧w'.cell? ⟨lg,fi*8+5,none⟩=some (.slice za zl zc)∧w'.cell? ⟨lg,fi*8+6,none⟩=some (.slice ba bl bc)∧w'.cell? ⟨lg,fi*8+7,none⟩=some (.slice xa xl xc))
     (exact HKP.out _ (by repeat (first | with_reducible assumption | with_reducible exact Below.refl _ _ | (with_reducible refine Below.setCell ?_ (by first | exact Nat.le_refl _ | exact sG.size) _) | (with_reducible refine Below.alloc ?_ (by first | exact Nat.le_refl _ | exact sG.size) _) | with_reducible apply Below.drew)))
     (first | (go_at_call 63;refine(Nj.out _ (by repeat (first | with_reducible assumption | with_reducible exact Below.refl _ _ | (with_reducible refine Below.setCell ?_ (by first | exact Nat.le_refl _) _) | (with_reducible refine Below.alloc ?_ (by first | exact Nat.le_refl _) _) | with_reducible apply Below.drew))).mono ?_;rintro e w1 ⟨rfl,sG,aaB⟩;try (have hbx:=IL.out _ w1 (by rfl) aaB;have z0:=hbx.cell (j:=0) rfl;have z1:=hbx.cell (j:=1) rfl;have z2:=hbx.cell (j:=2) rfl;have z3:=hbx.cell (j:=3) rfl;have z4:=hbx.cell (j:=4) rfl;have z5:=hbx.cell (j:=5) rfl;have z6:=hbx.cell (j:=6) rfl;have z7:=hbx.cell (j:=7) rfl;simp only[Nat.zero_add] at z0 z1 z2 z3 z4 z5 z6 z7;have y0:=hbx.frozen 0;have y1:=hbx.frozen 1;have y2:=hbx.frozen 2;have y3:=hbx.frozen 3;have y4:=hbx.frozen 4;have y5:=hbx.frozen 5;have y6:=hbx.frozen 6;have y7:=hbx.frozen 7)))
    ·have hbf:Below w.heap.size w (w1.alloc (.cells #[.string it.kind,.string it.name,.int .i64 it.nameAt,.slice va it.fields.length vc,.slice na it.names.length nc,.slice za zl zc,.slice ba bl bc,.slice xa xl xc] 88)):=sG.alloc sG.size _
     have hsf:Seg (w1.alloc (.cells #[.string it.kind,.string it.name,.int .i64 it.nameAt,.slice va it.fields.length vc,.slice na it.names.length nc,.slice za zl zc,.slice ba bl bc,.slice xa xl xc] 88)) w1.heap.size 88 0 [.string it.kind,.string it.name,.int .i64 it.nameAt,.slice va it.fields.length vc,.slice na it.names.length nc,.slice za zl zc,.slice ba bl bc,.slice xa xl xc]:=oI w1 _ _
     have hbb:=sG.size
     clear sG aaB
     generalize (w1.alloc (.cells #[.string it.kind,.string it.name,.int .i64 it.nameAt,.slice va it.fields.length vc,.slice na it.names.length nc,.slice za zl zc,.slice ba bl bc,.slice xa xl xc] 88))=wf at hbf hsf ⊢
     generalize w1.heap.size=bb at hsf hbb ⊢
     have b0:=hsf.cell (j:=0) rfl
     have b1:=hsf.cell (j:=1) rfl
     have b2:=hsf.cell (j:=2) rfl
     have b3:=hsf.cell (j:=3) rfl
     have b4:=hsf.cell (j:=4) rfl
     have b5:=hsf.cell (j:=5) rfl
     have b6:=hsf.cell (j:=6) rfl
     have b7:=hsf.cell (j:=7) rfl
     simp only[Nat.zero_add] at b0 b1 b2 b3 b4 b5 b6 b7
     have HF:=hid (H.out.same (hbf.block cb hcl))
     have hbl:=hsf.lt
     have HSF:=hid hsf
     have O8:=hid (HI.out.same hbf)
     have HEF:=hid (HE.out.below hbf)
     clear hsf
     cases hkm:(it.kind.toList==[109,101,115,115,97,103,101]) with
     | true=>
      have Yx:=hid (show kW bF bF (GK Y) (mspec Y n) base.toList (aC s i)=mspec Y n (it.fields.map uj) (aC s i) by rw[HVP.out,ZB.out,if_pos (show jH it.kind aX=true from hkm)])
      go_wp2_with fail
      refine(HM.out wf cb lo _ _ _ s i O8.out (by rw[HD.out];exact HF.out) HEF.out hO hs fi _ Nl.out va na za ba xa vc it.names.length nc zl zc bl bc xl xc rfl).mono ?_;intro e w3 h3
      rw[HD.out] at h3
      have HP:=hid ((h3.back hbf).turn Yx.out)
      obtain⟨a,c,out,i',ok,rfl,_⟩:=h3
      go_wp2_with fail
      go_ret
      exact HP.out
     | false=>
      have XJ:=hid (show kW bF bF (GK Y) (mspec Y n) base.toList (aC s i)=oQ bF (it.names.map ByteArray.toList) (aC s i) by rw[HVP.out,ZB.out,if_neg (show ¬ jH it.kind aX=true by show ¬ (it.kind.toList==[109,101,115,115,97,103,101])=true;rw[hkm];decide)])
      go_wp2_with fail
      refine(run_any wf cb _ _ _ s i true d HF.out hs).mono ?_;rintro e w2 ⟨rfl,hb2,hc2⟩
      have Uk:=hid (show (s.extract i (dZ s i)).toList.length=dZ s i-i by rw[aB,ByteArray.size_extract];have:=HRL.out;omega)
      generalize s.extract i (dZ s i)=t at *
      have HC2:=hid hc2
      have bG:But cb w w2:=(But.dJ hbf).trans hb2
      have b4':w2.cell? ⟨bb,4,none⟩=some (.slice na it.names.length nc):=(World.cell?_of_block (w:=wf) (hb2.block bb hbl (by omega))).trans b4
      have HNR:=hid (((O8.out.but HF.out.seg hb2).nest _ (List.mem_of_getElem? Nl.out)).n)
      have f3:=hc2.seg.cell (j:=3) rfl
      have Zx:=hc2.seg.frozen 3
      simp only[Nat.zero_add] at f3
      have hnl:it.names.length≤400:=hY.nl _ (List.mem_of_getElem? Nl.out)
      have Fp:=hid (hY.nn _ (List.mem_of_getElem? Nl.out))
      have hz2:=bG.size
      clear hc2 hb2 b0 b1 b2 b3 b4 b5 b6 b7
      go_wp2_with fail
      unfold jq
      go_loopg [8] it.names.length (fun gk i8 wr=>∃ j:Nat,j+gk=it.names.length∧i8=.int .i64 j∧wr=w2∧Hid (∀ q nm,q<j→it.names[q]? = some nm→(nm.toList==t.toList)=false))
      case atStart=>exact⟨0,by omega,rfl,rfl,hid (fun q nm hq=>by omega)⟩
      case round=>
       obtain⟨j,hj,rfl,rfl,HA⟩:=hrel
       by_cases hlt:j<it.names.length
       ·have oM:(j:Int)<(it.names.length:Int):=by omega
        obtain⟨nm,hnm⟩:∃ nm,it.names[j]? = some nm:=⟨it.names[j],List.getElem?_eq_getElem hlt⟩
        obtain⟨ng,aaC,hv,afO,afP⟩:=dM HNR.out (by show 0<it.names.length;omega)
        obtain⟨rfl,rfl⟩:na=some ⟨ng,0,none⟩∧nc=aaC:=by simpa using hv
        have c0:wr.cell? ⟨ng,j,none⟩=some (.string nm):=by
         rw[HNR.out.cellAt j (by show j<it.names.length*1;omega),List.getElem?_map,hnm];rfl
        have Cb:=hid hnm
        clear hnm hv
        cases heq:(nm.toList==t.toList) with
        | true=>
         go_wp2_with fail
         refine(dP wr w.heap.size (.slice none 0 0) [] j (World.ownsRow_nil _ _ _ _) (by omega) (by simp) hz2).mono ?_;rintro e w5 ⟨a5,c5,rfl,hb5,hg5⟩
         have LY:Below wr.heap.size wr w5:=hg5.below (fun k hk=>by cases hk) (Nat.le_refl _)
         rw[List.nil_append] at hb5 ⊢
         have jM:=hid hb5
         have hvl:(bU j).length≤2:=iJ 1 j (by have:(128:Nat) ^ (1+1)=16384:=(by decide);omega)
         have e:nm.toList=t.toList:=by simpa using heq
         have hrl:1≤dZ s i-i:=by rw[← Uk.out,← e,aB];exact(Fp.out nm (List.mem_of_getElem? Cb.out)).1
         have HFX:=hid (show (it.names.map ByteArray.toList).findIdx? (fun n=>n==t.toList)=some j by
          rw[List.findIdx?_eq_some_iff_getElem]
          refine⟨by rw[List.length_map];exact hlt,?_,fun q hq=>?_⟩
          ·rw[List.getElem_map]
           have hn2:=Cb.out
           rw[List.getElem?_eq_getElem hlt] at hn2
           cases hn2;exact heq
          ·rw[List.getElem_map]
           have:=HA.out q _ hq (List.getElem?_eq_getElem (by omega))
           rw[this];decide)
         clear hb5 hg5 e
         go_wp2_with fail
         go_ret
         refine⟨a5,c5,bU j,dZ s i,true,rfl,jM.out,bG.trans (But.dJ LY),HC2.out.same (LY.block cb HC2.out.seg.lt),hge,fun _=>by omega,by omega,?_⟩
         rw[XJ.out];unfold oQ;rw[← HRT.out,HFX.out,← HRR.out];rfl
        | false=>
         go_wp2_with fail
         go_roundg (gk-1)
         case rel=>exact⟨j+1,by omega,by go_num,rfl,hid (fun q nm' hq hn=>by
          rcases Nat.lt_or_ge q j with h | h
          ·exact HA.out q nm' h hn
          ·have:q=j:=by omega
           subst this
           rw[Cb.out] at hn;cases hn;exact heq)⟩
         case measure=>omega
       ·have oM:¬ (j:Int)<(it.names.length:Int):=by omega
        have hdI:decide ((j:Int)<(it.names.length:Int))=false:=by simp;omega
        go_wp2_with fail
        go_ret
        refine⟨none,0,[],dZ s i,false,rfl,World.ownsRow_nil _ _ _ _,bG.setCell _ _,HC2.out.ji false,hge,fun h=>(by cases h),by simp,?_⟩
        rw[XJ.out];unfold oQ;rw[← HRT.out]
        rw[show (it.names.map ByteArray.toList).findIdx? (fun n=>n==t.toList)=none by
         rw[List.findIdx?_eq_none_iff]
         intro x hx
         obtain⟨q,hq,rfl⟩:=List.getElem_of_mem hx
         rw[List.length_map] at hq
         rw[List.getElem_map]
         exact HA.out q _ (by omega) (List.getElem?_eq_getElem hq)]
        rfl
    ·have hbf:Below w.heap.size w ((((((((w1.setCell ⟨w.heap.size,0,none⟩ (.string it.kind)).setCell ⟨w.heap.size,1,none⟩ (.string it.name)).setCell ⟨w.heap.size,2,none⟩ (.int .i64 it.nameAt)).setCell ⟨w.heap.size,3,none⟩ (.slice va it.fields.length vc)).setCell ⟨w.heap.size,4,none⟩ (.slice na it.names.length nc)).setCell ⟨w.heap.size,5,none⟩ (.slice za zl zc)).setCell ⟨w.heap.size,6,none⟩ (.slice ba bl bc)).setCell ⟨w.heap.size,7,none⟩ (.slice xa xl xc)):=((((((((sG.setCell (Nat.le_refl _) _).setCell (Nat.le_refl _) _).setCell (Nat.le_refl _) _).setCell (Nat.le_refl _) _).setCell (Nat.le_refl _) _).setCell (Nat.le_refl _) _).setCell (Nat.le_refl _) _).setCell (Nat.le_refl _) _)
     have hsf:Seg ((((((((w1.setCell ⟨w.heap.size,0,none⟩ (.string it.kind)).setCell ⟨w.heap.size,1,none⟩ (.string it.name)).setCell ⟨w.heap.size,2,none⟩ (.int .i64 it.nameAt)).setCell ⟨w.heap.size,3,none⟩ (.slice va it.fields.length vc)).setCell ⟨w.heap.size,4,none⟩ (.slice na it.names.length nc)).setCell ⟨w.heap.size,5,none⟩ (.slice za zl zc)).setCell ⟨w.heap.size,6,none⟩ (.slice ba bl bc)).setCell ⟨w.heap.size,7,none⟩ (.slice xa xl xc)) w.heap.size 88 0 [.string it.kind,.string it.name,.int .i64 it.nameAt,.slice va it.fields.length vc,.slice na it.names.length nc,.slice za zl zc,.slice ba bl bc,.slice xa xl xc]:=((((((((hbx.set 0 _).set 1 _).set 2 _).set 3 _).set 4 _).set 5 _).set 6 _).set 7 _)
     clear sG aaB hbx z0 z1 z2 z3 z4 z5 z6 z7 y0 y1 y2 y3 y4 y5 y6 y7
     generalize ((((((((w1.setCell ⟨w.heap.size,0,none⟩ (.string it.kind)).setCell ⟨w.heap.size,1,none⟩ (.string it.name)).setCell ⟨w.heap.size,2,none⟩ (.int .i64 it.nameAt)).setCell ⟨w.heap.size,3,none⟩ (.slice va it.fields.length vc)).setCell ⟨w.heap.size,4,none⟩ (.slice na it.names.length nc)).setCell ⟨w.heap.size,5,none⟩ (.slice za zl zc)).setCell ⟨w.heap.size,6,none⟩ (.slice ba bl bc)).setCell ⟨w.heap.size,7,none⟩ (.slice xa xl xc))=wf at hbf hsf ⊢
     obtain⟨bb,ac3,hbb⟩:∃ bb,w.heap.size=bb∧w.heap.size≤bb:=⟨_,rfl,Nat.le_refl _⟩
     rw[ac3] at hsf ⊢
     clear ac3
     have b0:=hsf.cell (j:=0) rfl
     have b1:=hsf.cell (j:=1) rfl
     have b2:=hsf.cell (j:=2) rfl
     have b3:=hsf.cell (j:=3) rfl
     have b4:=hsf.cell (j:=4) rfl
     have b5:=hsf.cell (j:=5) rfl
     have b6:=hsf.cell (j:=6) rfl
     have b7:=hsf.cell (j:=7) rfl
     simp only[Nat.zero_add] at b0 b1 b2 b3 b4 b5 b6 b7
     have HF:=hid (H.out.same (hbf.block cb hcl))
     have hbl:=hsf.lt
     have HSF:=hid hsf
     have O8:=hid (HI.out.same hbf)
     have HEF:=hid (HE.out.below hbf)
     clear hsf
     cases hkm:(it.kind.toList==[109,101,115,115,97,103,101]) with
     | true=>
      have Yx:=hid (show kW bF bF (GK Y) (mspec Y n) base.toList (aC s i)=mspec Y n (it.fields.map uj) (aC s i) by rw[HVP.out,ZB.out,if_pos (show jH it.kind aX=true from hkm)])
      go_wp2_with fail
      refine(HM.out wf cb lo _ _ _ s i O8.out (by rw[HD.out];exact HF.out) HEF.out hO hs fi _ Nl.out va na za ba xa vc it.names.length nc zl zc bl bc xl xc rfl).mono ?_;intro e w3 h3
      rw[HD.out] at h3
      have HP:=hid ((h3.back hbf).turn Yx.out)
      obtain⟨a,c,out,i',ok,rfl,_⟩:=h3
      go_wp2_with fail
      go_ret
      exact HP.out
     | false=>
      have XJ:=hid (show kW bF bF (GK Y) (mspec Y n) base.toList (aC s i)=oQ bF (it.names.map ByteArray.toList) (aC s i) by rw[HVP.out,ZB.out,if_neg (show ¬ jH it.kind aX=true by show ¬ (it.kind.toList==[109,101,115,115,97,103,101])=true;rw[hkm];decide)])
      go_wp2_with fail
      refine(run_any wf cb _ _ _ s i true d HF.out hs).mono ?_;rintro e w2 ⟨rfl,hb2,hc2⟩
      have Uk:=hid (show (s.extract i (dZ s i)).toList.length=dZ s i-i by rw[aB,ByteArray.size_extract];have:=HRL.out;omega)
      generalize s.extract i (dZ s i)=t at *
      have HC2:=hid hc2
      have bG:But cb w w2:=(But.dJ hbf).trans hb2
      have b4':w2.cell? ⟨bb,4,none⟩=some (.slice na it.names.length nc):=(World.cell?_of_block (w:=wf) (hb2.block bb hbl (by omega))).trans b4
      have HNR:=hid (((O8.out.but HF.out.seg hb2).nest _ (List.mem_of_getElem? Nl.out)).n)
      have f3:=hc2.seg.cell (j:=3) rfl
      have Zx:=hc2.seg.frozen 3
      simp only[Nat.zero_add] at f3
      have hnl:it.names.length≤400:=hY.nl _ (List.mem_of_getElem? Nl.out)
      have Fp:=hid (hY.nn _ (List.mem_of_getElem? Nl.out))
      have hz2:=bG.size
      clear hc2 hb2 b0 b1 b2 b3 b4 b5 b6 b7
      go_wp2_with fail
      unfold jq
      go_loopg [8] it.names.length (fun gk i8 wr=>∃ j:Nat,j+gk=it.names.length∧i8=.int .i64 j∧wr=w2∧Hid (∀ q nm,q<j→it.names[q]? = some nm→(nm.toList==t.toList)=false))
      case atStart=>exact⟨0,by omega,rfl,rfl,hid (fun q nm hq=>by omega)⟩
      case round=>
       obtain⟨j,hj,rfl,rfl,HA⟩:=hrel
       by_cases hlt:j<it.names.length
       ·have oM:(j:Int)<(it.names.length:Int):=by omega
        obtain⟨nm,hnm⟩:∃ nm,it.names[j]? = some nm:=⟨it.names[j],List.getElem?_eq_getElem hlt⟩
        obtain⟨ng,aaC,hv,afO,afP⟩:=dM HNR.out (by show 0<it.names.length;omega)
        obtain⟨rfl,rfl⟩:na=some ⟨ng,0,none⟩∧nc=aaC:=by simpa using hv
        have c0:wr.cell? ⟨ng,j,none⟩=some (.string nm):=by
         rw[HNR.out.cellAt j (by show j<it.names.length*1;omega),List.getElem?_map,hnm];rfl
        have Cb:=hid hnm
        clear hnm hv
        cases heq:(nm.toList==t.toList) with
        | true=>
         go_wp2_with fail
         refine(dP wr w.heap.size (.slice none 0 0) [] j (World.ownsRow_nil _ _ _ _) (by omega) (by simp) hz2).mono ?_;rintro e w5 ⟨a5,c5,rfl,hb5,hg5⟩
         have LY:Below wr.heap.size wr w5:=hg5.below (fun k hk=>by cases hk) (Nat.le_refl _)
         rw[List.nil_append] at hb5 ⊢
         have jM:=hid hb5
         have hvl:(bU j).length≤2:=iJ 1 j (by have:(128:Nat) ^ (1+1)=16384:=(by decide);omega)
         have e:nm.toList=t.toList:=by simpa using heq
         have hrl:1≤dZ s i-i:=by rw[← Uk.out,← e,aB];exact(Fp.out nm (List.mem_of_getElem? Cb.out)).1
         have HFX:=hid (show (it.names.map ByteArray.toList).findIdx? (fun n=>n==t.toList)=some j by
          rw[List.findIdx?_eq_some_iff_getElem]
          refine⟨by rw[List.length_map];exact hlt,?_,fun q hq=>?_⟩
          ·rw[List.getElem_map]
           have hn2:=Cb.out
           rw[List.getElem?_eq_getElem hlt] at hn2
           cases hn2;exact heq
          ·rw[List.getElem_map]
           have:=HA.out q _ hq (List.getElem?_eq_getElem (by omega))
           rw[this];decide)
         clear hb5 hg5 e
         go_wp2_with fail
         go_ret
         refine⟨a5,c5,bU j,dZ s i,true,rfl,jM.out,bG.trans (But.dJ LY),HC2.out.same (LY.block cb HC2.out.seg.lt),hge,fun _=>by omega,by omega,?_⟩
         rw[XJ.out];unfold oQ;rw[← HRT.out,HFX.out,← HRR.out];rfl
        | false=>
         go_wp2_with fail
         go_roundg (gk-1)
         case rel=>exact⟨j+1,by omega,by go_num,rfl,hid (fun q nm' hq hn=>by
          rcases Nat.lt_or_ge q j with h | h
          ·exact HA.out q nm' h hn
          ·have:q=j:=by omega
           subst this
           rw[Cb.out] at hn;cases hn;exact heq)⟩
         case measure=>omega
       ·have oM:¬ (j:Int)<(it.names.length:Int):=by omega
        have hdI:decide ((j:Int)<(it.names.length:Int))=false:=by simp;omega
        go_wp2_with fail
        go_ret
        refine⟨none,0,[],dZ s i,false,rfl,World.ownsRow_nil _ _ _ _,bG.setCell _ _,HC2.out.ji false,hge,fun h=>(by cases h),by simp,?_⟩
        rw[XJ.out];unfold oQ;rw[← HRT.out]
        rw[show (it.names.map ByteArray.toList).findIdx? (fun n=>n==t.toList)=none by
         rw[List.findIdx?_eq_none_iff]
         intro x hx
         obtain⟨q,hq,rfl⟩:=List.getElem_of_mem hx
         rw[List.length_map] at hq
         rw[List.getElem_map]
         exact HA.out q _ (by omega) (List.getElem?_eq_getElem hq)]
        rfl
theorem levels {Y:List IV} (hY:YOk Y) (hX:Y.length≤400):∀ n,n≤6→YB Y n (10+10*n)∧acZ Y n (10+10*n)
 | 0,_=>by
  have hM:aay Y 0 10:=fun w cb lo la ll lc s i hI h hE hO hs q y hy fa na za ba xa fc nl nc zl zc bl bc xl xc hvf=>by
   rw[show (6:Int)-(0:Nat)=6 by omega] at h ⊢
   exact(O7 w cb la ll lc s i h hs y.it.kind y.it.name y.it.nameAt fa na za ba xa y.it.fields.length fc nl nc zl zc bl bc xl xc).mono (fun e w' h'=>h'.weak (by omega))
  refine⟨GR hM hY hX (by omega),fun w cb lo la ll lc s i base hI h hE hO hs hB=>?_⟩
  rw[show (6:Int)-(0:Nat)=6 by omega] at h ⊢
  exact(LX w cb la ll lc s i base h hs).mono (fun e w' h'=>h'.weak (by omega))
 | n+1,hn=>by
  obtain⟨hV,hL⟩:=levels hY hX n (by omega)
  have hM:aay Y (n+1) (10+10*n+10):=fun w cb lo la ll lc s i hI h hE hO hs q y hy fa na za ba xa fc nl nc zl zc bl bc xl xc hvf=>
   LQ hV hL hY w cb lo la ll lc s i ((6:Int)-((n+1:Nat):Int)) (by omega) hI q y hy h hE hO hs (by omega) (by omega) fa na za ba xa fc nl nc zl zc bl bc xl xc hvf
  refine⟨GR hM hY hX (by omega),fun w cb lo la ll lc s i base hI h hE hO hs hB=>?_⟩
  exact VU hV w cb lo la ll lc s i base ((6:Int)-((n+1:Nat):Int)) (by omega) hI h hE hO hs hB (by omega) (by omega)
end Go.Proofs.YtgalebcpagmohaaGreatDoor
