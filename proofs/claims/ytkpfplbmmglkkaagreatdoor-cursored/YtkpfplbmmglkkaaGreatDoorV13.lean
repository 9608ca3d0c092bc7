/- Package values: the encoder's value. -/
import Derived.Test.YtkpfplbmmglkkaaGreatDoorV12
set_option linter.all false
set_option maxHeartbeats 4000000
set_option maxRecDepth 100000
namespace Go.Proofs.YtkpfplbmmglkkaaGreatDoor
open Go.Proofs.Tryz
variable {X:List PIV}{n:Nat}{s:ByteArray}{P:Int}
open Go.RowKit
def mq(X:List PIV):Nat→List FD→List UInt8→qv
 | 0=>fun _ _=>none
 | n+1=>VZ (jp X n).1 (jp X n).2
theorem Sr(X:List PIV)(n:Nat):(jp X n).1=uw mj eX (nJ X) (mq X n):=by cases n<;>rfl
def aay(X:List PIV)(n:Nat):Prop:=∀ (w:World) (eb lo:Nat) (la:Option Addr) (ll lc:Nat) (t:ByteArray) (fv:Value) (fs:List PField),PIts w lo (.slice la ll lc) X→Pe w eb (.slice la ll lc) t→mR w→KK eb→t.size≤400 →
 w.ownsRow lo 246 7 fv fs.length (fs.flatMap pfCells)→fs.length≤400→(∀ f∈fs,0≤f.number∧f.number≤99)→(∀ f∈fs,1≤f.name.size∧f.name.size≤400) →
 Calls Tryz.prog 105 #[.pointer (some ⟨eb,0,none⟩),fv,.int .i64 ((7:Int)-n)] w (iM (mq X n (fs.map yT)) w eb (.slice la ll lc) t)
theorem G4(X:List PIV):aay X 0:=by
 intro w eb lo la ll lc t fv fs hI h hE hO hs hF _ _ _;unfold iM;obtain⟨fa,fc,qo⟩:∃ a c,fv=.slice a fs.length c:=ax hF
 subst qo;have H:=U h;clear h hI hE hF;rw[show (7:Int)-(0:Nat)=7 by omega]
 go_enter func105,ntmps105
 go_wp2_with fail
 go_ret2
 exact⟨none,0,[],t,false,rfl,World.ownsRow_nil _ _ _ _,But.refl _ _,H.o,Nat.le_refl _,by simp,rfl⟩
theorem Ss(hn:n≤6)(hV:O7 X n)(hL:O8 X n):aay X (n+1) :=
 fun w eb lo la ll lc t fv fs hI h hE hO hs hF hl B9 BJ=>EL hV hL w eb lo la ll lc t fv fs _ (by omega) hn hI h hE hO hs hF hl B9 BJ
theorem Aw(hM:aay X n)(hX:M0 X):O7 X n:=by
 intro w eb lo la ll lc t base hI h hE hO hs;obtain⟨d,hd⟩:∃ d:Int,d=(7:Int)-(n:Int):=⟨_,rfl⟩
 rw[← hd];rw[Sr];have e0:=h.MX;have H:=U h;have HE:=U hE;have HI:=U hI;have HM:=U hM;have HD:=U hd;have HX:=U hX;clear h hE hI hM hd hX
 cases aA:(base.toList==[105,110,116]) with
 | true=>
  have HS:=U (show uw mj eX (nJ X) (mq X n) base.toList t.toList=OU mj t.toList by unfold uw;rw[if_pos (by simpa[Cf] using aA)])
  go_enter func71,ntmps71
  go_wp2_with fail
  refine(EJ w eb la ll lc t H.o hs HE.o hO).mono ?_;intro e w1 h1;have HP:=U (h1.sF HS.o);obtain⟨a,c,out,t',ok,rfl,_⟩:=h1
  go_wp2_with fail
  go_ret2
  exact HP.o
 | false=>
  cases aW:(base.toList==[98,111,111,108]) with
  | true=>
   have HS:=U (show uw mj eX (nJ X) (mq X n) base.toList t.toList=GF eX ([ByteArray.mk #[102,97,108,115,101],ByteArray.mk #[116,114,117,101]].map ByteArray.toList) t.toList by
    unfold uw;rw[if_neg (by simpa[Cf] using aA),if_pos (by simpa[xw] using aW)]
    simp[ByteArray.toList_eq,nU])
   go_enter func71,ntmps71
   go_wp2_with fail
   have nF:Below w.heap.size w (w.alloc (.cells #[.string (ByteArray.mk #[102,97,108,115,101]),.string (ByteArray.mk #[116,114,117,101])] 9)):=(Below.refl _ _).alloc (Nat.le_refl _) _;refine(Au _ eb w.heap.size la ll lc t _ [ByteArray.mk #[102,97,108,115,101],ByteArray.mk #[116,114,117,101]] (H.o.same (nF.block eb H.o.lt)) hs (by have:=World.ownsRow_lit (base:=w.heap.size) (e:=9) (size:=1) w #[.string (ByteArray.mk #[102,97,108,115,101]),.string (ByteArray.mk #[116,114,117,101])] 2 (by simp) (by unfold maxLen;omega) rfl;simpa[ie] using this) (by simp) (by decide)).mono ?_;intro e w1 h1;have HP:=U ((h1.nM nF).sF HS.o);obtain⟨a,c,out,t',ok,rfl,_⟩:=h1
   go_wp2_with fail
   go_ret2
   exact HP.o
  | false=>
   cases bP:(base.toList==[116,101,120,116]) with
   | true=>
    have HS:=U (show uw mj eX (nJ X) (mq X n) base.toList t.toList=Ah t.toList by unfold uw;rw[if_neg (by simpa[Cf] using aA),if_neg (by simpa[xw] using aW),if_pos (by simpa[C9] using bP)])
    go_enter func71,ntmps71
    go_wp2_with fail
    refine(GQ w eb la ll lc t H.o hs).mono ?_;intro e w1 h1;have HP:=U (h1.sF HS.o);obtain⟨a,c,out,t',ok,rfl,_⟩:=h1
    go_wp2_with fail
    go_ret2
    exact HP.o
   | false=>
    have HS:=U (show uw mj eX (nJ X) (mq X n) base.toList t.toList=(match nJ X base.toList with | none=>none | some (.inl ns)=>GF eX ns t.toList | some (.inr fs)=>mq X n fs t.toList) by unfold uw;rw[if_neg (by simpa[Cf] using aA),if_neg (by simpa[xw] using aW),if_neg (by simpa[C9] using bP)];cases nJ X base.toList with | none=>rfl | some t=>cases t<;>rfl)
    go_enter func71,ntmps71
    go_wp2_with fail
    refine(qz _ lo _ X base HI.o HX.o.YS HX.o.len).mono ?_;rintro e w1 ⟨yp,hT⟩;have jP:=U (H.o.same (yp.block eb H.o.lt))
    rcases hT with⟨rJ,rfl⟩ | ⟨k,x,nn,hk,hx,iD,MM,RJ,rfl⟩
    ·have YR:=U (show uw mj eX (nJ X) (mq X n) base.toList t.toList=none by
      rw[HS.o];have:nJ X base.toList=none:=by unfold nJ;split<;>simp[rJ]
      rw[this])
     clear rJ
     go_wp2_with fail
     go_ret2
     have qZ:Below w.heap.size w (w1.alloc (.cells #[vI 0,.string ⟨#[]⟩,vI 0,.slice none 0 0,.slice none 0 0,.string ⟨#[]⟩,vI 0,.string ⟨#[]⟩,vI 0] 117)):=yp.alloc yp.size _;exact⟨none,0,[],t,false,rfl,World.ownsRow_nil _ _ _ _,But.ofBelow qZ,H.o.same (qZ.block eb H.o.lt),Nat.le_refl _,by simp,YR.o⟩
    ·have BN:=List.mem_of_getElem? hx
     have uZ:=HI.o.below yp;have tM:=HX.o.fl x BN;have Cl:=HX.o.nl x BN;have YT:=U (uZ.nest x BN).f;have Sk:=U (uZ.nest x BN).n;rw[MM] at YT;rw[RJ] at Sk;have HNU:=U (HX.o.n x BN);have EO:=U (HX.o.s x BN);have Pc:=U (HX.o.nn x BN);have HTY:=U (show nJ X base.toList=if x.it.kind=0 then some (.inr (x.it.fields.map yT)) else some (.inl (x.it.names.map fun t=>t.text.toList)) by unfold nJ;rw[hk];simp only[Int.toNat_natCast,hx];rw[if_neg (by omega)]);obtain⟨it,vf,vn⟩:=x;obtain⟨kind,nm,fields,names,bs,an⟩:=it;obtain⟨YE,YF,Z6,inc,Z7,Z8,Z9,iaa⟩:=nn;simp only at iD tM Cl YT Sk HNU EO Pc HTY ⊢;clear hk hx BN MM RJ uZ;have qZ:Below w.heap.size w (w1.alloc (.cells #[vI kind,.string nm.text,vI nm.at_,.slice YE fields.length YF,.slice Z6 names.length inc,.string Z7,vI Z8,.string Z9,vI iaa] 117)):=yp.alloc yp.size _;have Wg:Below w1.heap.size w1 (w1.alloc (.cells #[vI kind,.string nm.text,vI nm.at_,.slice YE fields.length YF,.slice Z6 names.length inc,.string Z7,vI Z8,.string Z9,vI iaa] 117)):=(Below.refl _ _).alloc (Nat.le_refl _) _
     rcases iD with rfl | rfl
     ·have V2:=U (show uw mj eX (nJ X) (mq X n) base.toList t.toList=mq X n (fields.map yT) t.toList by rw[HS.o,HTY.o];rfl)
      go_wp2_with fail
      refine(HM.o _ eb lo la ll lc t _ fields (HI.o.below qZ) (H.o.same (qZ.block eb H.o.lt)) (HE.o.below qZ) hO hs (aH YT.o (fun g hg=>Wg.block g (YT.o.lt g hg).2)) tM HNU.o EO.o |> fun z=>by rw[HD.o];exact z:Calls _ _ _ _ _).mono ?_;intro e w2 h2;have HP:=U ((h2.nM qZ).sF V2.o);obtain⟨a,c,out,t',ok,rfl,_⟩:=h2
      go_wp2_with fail
      go_ret2
      exact HP.o
     ·have V2:=U (show uw mj eX (nJ X) (mq X n) base.toList t.toList=GF eX ((names.map fun t=>t.text).map ByteArray.toList) t.toList by rw[HS.o,HTY.o];simp[List.map_map,Function.comp_def])
      go_wp2_with fail
      refine(xz _ lo _ _ _ _ _ _ _ _ _ _ _ _ names (aH Sk.o (fun g hg=>Wg.block g (Sk.o.lt g hg).2)) Cl).mono ?_;rintro e w2 ⟨ca,cc,rfl,uD,aW⟩;have KR:Below w.heap.size w w2:=qZ.trans (aW.mono qZ.size);have Yt:=U uD;clear uD
      go_wp2_with fail
      refine(Au w2 eb _ la ll lc t _ (names.map fun t=>t.text) (H.o.same (KR.block eb H.o.lt)) hs (by have:=Yt.o;rw[List.length_map,List.map_map];exact this) (by rw[List.length_map];exact Cl) (fun q hq=>by obtain⟨y,hy,rfl⟩:=List.mem_map.1 hq;exact(Pc.o y hy).1)).mono ?_;intro e w3 h3;have HP:=U ((h3.nM KR).sF V2.o);obtain⟨a,c,out,t',ok,rfl,_⟩:=h3
      go_wp2_with fail
      go_ret2
      exact HP.o
theorem M2(hX:M0 X):∀ n,n≤6→O7 X n∧O8 X n
 | 0,_=>⟨Aw (G4 X) hX,EP X⟩
 | n+1,h=>by
  obtain⟨h1,h2⟩:=M2 hX n (by omega);exact⟨Aw (Ss (by omega) h1 h2) hX,Pa (by omega) h1⟩
theorem M0.of(hs:s.size≤400)(h:(parseP s).1=some (X.map (fun x=>x.it)))(hl:X.length≤400):M0 X:=by
 obtain⟨_,_,_,V1⟩:=vG h;have wZ:=small_of (GB h) hs;have src:∀ x∈X,OZ s x.it:=fun x hx=>Ar h _ (List.mem_map.2 ⟨x,hx,rfl⟩)
 refine⟨fun x hx=>V1 x.it (List.mem_map.2 ⟨x,hx,rfl⟩),hl,fun x hx f hf=>?_,fun x hx f hf=>?_,wZ.f,wZ.n,fun x hx t ht=>((src x hx).n t ht).size hs⟩
 ·have:=((src x hx).f f hf).num;exact⟨by omega,this.2⟩
 ·obtain⟨t,ht,e⟩:=((src x hx).f f hf).name
  rw[e];exact ht.size hs
def M3(X:List PIV)(base v:ByteArray)(E:Int)(b:List UInt8):Prop :=
 (E=4∧b=[]∧hasB X base=false)∨(hasB X base=true ∧
  ((400<v.size∧E=1∧b=[])∨(v.size≤400 ∧
   (((∀ x,(jp X 6).1 base.toList v.toList≠some (x,[]))∧E=5∧b=[])∨∃ x,(jp X 6).1 base.toList v.toList=some (x,[])∧((64<x.length∧E=1∧b=[])∨(x.length≤64∧E=0∧b=x))))))
def G5(A:Int→List UInt8→Prop)(w:World)(e:Ending)(w':World):Prop:=∃ (a:Option Addr) (c:Nat) (b:List UInt8) (E:Int),e=.returned (.tuple #[.slice a b.length c,.int .i64 E])∧Below w.heap.size w w'∧fG w' w.heap.size (.slice a b.length c) b∧(E≠0→a=none∧c=0)∧A E b
theorem St{t:ByteArray}:t.toList=[]↔t.size=0:=by rw[← List.length_eq_zero_iff,aO]
theorem G6(w:World)(lo:Nat)(la:Option Addr)(ll lc:Nat)(X:List PIV)(base v:ByteArray)(hI:PIts w lo (.slice la ll lc) X)(hX:M0 X)(hE:mR w)(hO:∀ cb,w.heap.size≤cb→KK cb)(hv:v.size≤maxLen):
  aT 46 #[.slice la ll lc,.string base,.string v] w (G5 (M3 X base v) w):=by
 unfold G5;unfold maxLen at hv;have HI:=U hI;have HX:=U hX;have HE:=U hE;have HO:=U hO;clear hI hX hE hO
 go_enter func46,ntmps46
 go_wp2_with fail
 refine(hasBase_any w lo _ X base HI.o HX.o.YS HX.o.len).mono ?_;rintro e w1 ⟨rfl,aA⟩;have ju:=aA.size
 cases hh:hasB X base with
 | false=>
  have HH:=U hh;clear hh
  go_wp2_with fail
  go_ret2
  exact⟨none,0,[],4,rfl,aA,World.ownsRow_nil _ _ _ _,fun _=>⟨rfl,rfl⟩,Or.inl ⟨rfl,rfl,HH.o⟩⟩
 | true=>
  have HH:=U hh;clear hh
  by_cases h4:v.size≤400
  ·have h4I:¬ (400:Int)<(v.size:Int):=by omega
   have h4D:decide ((400:Int)<(v.size:Int))=false:=by simp;omega
   have QS:Below w.heap.size w (w1.alloc (.cells #[.slice la ll lc,.string v] 151)):=aA.alloc aA.size _;have HPW:=U (show Pe (w1.alloc (.cells #[.slice la ll lc,.string v] 151)) w1.heap.size (.slice la ll lc) v from seg_made w1 _ _);have HIW:=U (HI.o.below QS);have HEW:=U (HE.o.below QS);have hzW:=QS.size
   go_wp2_with fail
   generalize (w1.alloc (.cells #[.slice la ll lc,.string v] 151))=wW at *;refine((M2 HX.o 6 (Nat.le_refl _)).1 wW w1.heap.size lo la ll lc v base HIW.o HPW.o HEW.o (HO.o _ ju) h4).mono ?_;rintro e w2 ⟨a2,c2,out,t2,ok,rfl,aW,iu,fI,il,MO,hsp⟩;have Wh:=iu.below QS ju (Nat.le_refl _);have gX:=U (cm aW hzW:fG w2 w.heap.size _ out);have rN:=U hsp;have f1:=fI.rest;clear aW hsp fI iu MO
   cases ok with
   | false=>
    go_wp2_with fail
    go_ret2
    refine⟨none,0,[],5,rfl,Wh,World.ownsRow_nil _ _ _ _,fun _=>⟨rfl,rfl⟩,Or.inr ⟨HH.o,Or.inr ⟨h4,Or.inl ⟨fun x hx=>?_,rfl,rfl⟩⟩⟩⟩;rw[rN.o] at hx;cases hx
   | true=>
    cases hem:t2.toList.isEmpty with
    | true=>
     have afg:=U (show (jp X 6).1 base.toList v.toList=some (out,[]) from by rw[rN.o];simp only[List.isEmpty_iff.1 hem])
     by_cases h64:out.length≤64
     ·have akI:¬ (64:Int)<(out.length:Int):=by omega
      have asI:decide ((64:Int)<(out.length:Int))=false:=by simp;omega
      go_wp2_with fail
      go_ret2
      exact⟨a2,c2,out,0,rfl,Wh,gX.o,fun h=>absurd rfl h,Or.inr ⟨HH.o,Or.inr ⟨h4,Or.inr ⟨out,afg.o,Or.inr ⟨h64,rfl,rfl⟩⟩⟩⟩⟩
     ·have akI:(64:Int)<(out.length:Int):=by omega
      go_wp2_with fail
      go_ret2
      exact⟨none,0,[],1,rfl,Wh,World.ownsRow_nil _ _ _ _,fun _=>⟨rfl,rfl⟩,Or.inr ⟨HH.o,Or.inr ⟨h4,Or.inr ⟨out,afg.o,Or.inl ⟨by omega,rfl,rfl⟩⟩⟩⟩⟩
    | false=>
     go_wp2_with fail
     go_ret2
     refine⟨none,0,[],5,rfl,Wh,World.ownsRow_nil _ _ _ _,fun _=>⟨rfl,rfl⟩,Or.inr ⟨HH.o,Or.inr ⟨h4,Or.inl ⟨fun x hx=>?_,rfl,rfl⟩⟩⟩⟩;rw[rN.o] at hx;simp only[Option.some.injEq,Prod.mk.injEq] at hx;rw[hx.2] at hem;cases hem
  ·have h4I:(400:Int)<(v.size:Int):=by omega
   go_wp2_with fail
   go_ret2
   exact⟨none,0,[],1,rfl,aA,World.ownsRow_nil _ _ _ _,fun _=>⟨rfl,rfl⟩,Or.inr ⟨HH.o,Or.inl ⟨by omega,rfl,rfl⟩⟩⟩
theorem cC.zero(h:cC s 0 P):s.size≤400∧P=0:=by
 rcases h with⟨_,e,_⟩ | ⟨h4,⟨_,e,_⟩ | ⟨X,_,⟨m,_,_,e,_⟩ | ⟨_,_,e⟩⟩⟩
 ·omega
 ·omega
 ·omega
 ·exact⟨h4,e⟩
theorem cC.range{E:Int}(h:cC s E P):0≤E∧E≤3:=by
 rcases h with⟨_,e,_⟩ | ⟨h4,⟨_,e,_⟩ | ⟨X,_,⟨m,_,_,e,_⟩ | ⟨_,e,_⟩⟩⟩<;>omega
end Go.Proofs.YtkpfplbmmglkkaaGreatDoor
