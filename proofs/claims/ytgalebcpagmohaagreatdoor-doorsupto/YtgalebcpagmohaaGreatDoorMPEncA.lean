/- Package values: the encoder's take, next, isPlain, digit. -/
import Derived.Test.YtgalebcpagmohaaGreatDoorMEncL
import Derived.Test.YtgalebcpagmohaaGreatDoorShelf3
import Derived.Shelf.Strings.SlTrimAscii
import Derived.Laws.Bits64
set_option maxHeartbeats 1000000
set_option maxRecDepth 100000
namespace Go.Proofs.YtgalebcpagmohaaGreatDoor
open Go.Proofs.Tryz
open Go.RowKit
def Pe (w:World) (eb:Nat) (lv:Value) (t:ByteArray):Prop:=Seg w eb 256 0 [lv,.string t]
theorem Pe.lt {w:World} {eb:Nat} {lv:Value} {t:ByteArray} (h:Pe w eb lv t):eb<w.heap.size:=Seg.lt h
theorem Pe.same {w w':World} {eb:Nat} {lv:Value} {t:ByteArray} (h:Pe w eb lv t) (hb:w'.heap[eb]? = w.heap[eb]?):Pe w' eb lv t:=Seg.same h hb
theorem Pe.put {w:World} {eb:Nat} {lv:Value} {t:ByteArray} (h:Pe w eb lv t) (u:ByteArray):Pe (w.setCell ⟨eb,1,none⟩ (.string u)) eb lv u:=Seg.set h 1 (.string u)
theorem Pe.rest {w:World} {eb:Nat} {lv:Value} {t:ByteArray} (h:Pe w eb lv t):w.cell? ⟨eb,1,none⟩=some (.string t):=Seg.cell h (j:=1) rfl
theorem Pe.items {w:World} {eb:Nat} {lv:Value} {t:ByteArray} (h:Pe w eb lv t):w.cell? ⟨eb,0,none⟩=some lv:=Seg.cell h (j:=0) rfl
theorem Pg (p t:List UInt8):(aK p t).isSome=Lib.hasPrefix t p:=by unfold aK Lib.hasPrefix;cases p.isPrefixOf t<;>simp
theorem Wh (p t:List UInt8):(aK p t).getD t=Lib.trimPrefix t p:=by unfold aK Lib.trimPrefix Lib.hasPrefix;cases p.isPrefixOf t<;>simp
theorem FH (t p:ByteArray) (w:World) :
  Calls Tryz.prog 284 #[.string t,.string p] w fun e w'=>∃ t':ByteArray,e=.returned (.tuple #[.string t',.bool (aK p.toList t.toList).isSome])∧w'=w∧t'.toList=(aK p.toList t.toList).getD t.toList:=by
 refine(Tryz.y_strings_CutPrefix t p w).mono ?_
 rintro e w1 ⟨rfl,rfl⟩
 refine⟨⟨(Lib.trimPrefix t.data.toList p.data.toList).toArray⟩,?_,rfl,?_⟩
 ·rw[Pg,ByteArray.toList_eq,ByteArray.toList_eq]
 ·rw[Wh,ByteArray.toList_eq,ByteArray.toList_eq,ByteArray.toList_eq]
theorem AY (c:Int) (w:World) :
  Calls Tryz.prog 286 #[.int .u8 c] w fun e w'=>e=.returned (.bool (rC c))∧w'=w:=by
 unfold rC
 by_cases h1:32≤c
 ·by_cases h2:c≤126
  ·cases h3:(c==34)<;>cases h4:(c==92) <;>
   (go_enter func286,ntmps286
    go_wp2
    all_goals (go_ret;simp_all))
  ·have hd:decide (c≤126)=false:=by simpa using h2
   rw[hd]
   go_enter func286,ntmps286
   go_wp2
   go_ret
   exact⟨aG (by simp),rfl⟩
 ·have hd:decide (32≤c)=false:=by simpa using h1
  rw[hd]
  go_enter func286,ntmps286
  go_wp2
  go_ret
  exact⟨aG (by simp),rfl⟩
theorem take_any (w:World) (eb:Nat) (la:Option Addr) (ll lc:Nat) (t p:ByteArray) (h:Pe w eb (.slice la ll lc) t) :
  Calls Tryz.prog 266 #[.pointer (some ⟨eb,0,none⟩),.string p] w fun e w'=>∃ t':ByteArray,e=.returned (.bool (aK p.toList t.toList).isSome)∧But eb w w'∧Pe w' eb (.slice la ll lc) t'∧t'.toList=(aK p.toList t.toList).getD t.toList:=by
 have c1:=h.rest
 have hf1:=Seg.frozen h 1
 have H:=hid h
 have HC:=hid (FH t p w)
 clear h
 generalize (aK p.toList t.toList).isSome=r at *
 generalize (aK p.toList t.toList).getD t.toList=T at *
 go_enter func266,ntmps266
 go_wp2_with fail
 refine HC.out.mono ?_;rintro e w1 ⟨t',rfl,rfl,ht'⟩
 have HT:=hid ht'
 clear ht'
 go_wp2_with fail
 go_ret
 exact⟨t',rfl,(But.refl _ _).setCell _ _,H.out.put t',HT.out⟩
theorem next_any (w:World) (eb:Nat) (la:Option Addr) (ll lc:Nat) (t:ByteArray) (h:Pe w eb (.slice la ll lc) t) :
  Calls Tryz.prog 287 #[.pointer (some ⟨eb,0,none⟩)] w fun e w'=>(t.toList=[]∧e=.returned (.tuple #[.int .u8 0,.bool false])∧w'=w)∨∃ (c:UInt8) (t':ByteArray),t.toList=c::t'.toList∧e=.returned (.tuple #[.int .u8 c.toNat,.bool true])∧But eb w w'∧Pe w' eb (.slice la ll lc) t':=by
 have c1:=h.rest
 have hf1:=Seg.frozen h 1
 have H:=hid h
 clear h
 by_cases h0:t.size=0
 ·have hl:t.toList=[]:=by rw[← List.length_eq_zero_iff,aB];exact h0
  have HL:=hid hl
  have hem:t.toList.isEmpty=true:=by rw[hl];rfl
  clear hl
  go_enter func287,ntmps287
  go_wp2_with fail
  go_ret2
  exact Or.inl ⟨HL.out,rfl,rfl⟩
 ·have hlt:0<t.size:=by omega
  have hem:t.toList.isEmpty=false:=by
   cases e:t.toList with
   | nil=>have:=aB t;rw[e] at this;simp at this;omega
   | cons a r=>rfl
  have Uk:=hid (show t.toList=t[0]::(t.extract 1 t.size).toList by
   have h1:=tail_cons t 0 hlt
   rw[GU] at h1
   rw[h1,ext_list]
   unfold aC
   rw[List.take_of_length_le (by rw[List.length_drop,aB];omega)])
  go_enter func287,ntmps287
  go_wp2_with fail
  go_ret2
  exact Or.inr ⟨t[0],t.extract 1 t.size,Uk.out,rfl,(But.refl _ _).setCell _ _,H.out.put _⟩
def hexL:List UInt8:=[48,49,50,51,52,53,54,55,56,57,97,98,99,100,101,102]
theorem SV (c:UInt8):Lib.indexByte hexL c=oJ (c.toNat:Int):=by
 have all:∀ a:Fin 256,Lib.indexByte hexL (UInt8.ofNat a.val)=oJ ((UInt8.ofNat a.val).toNat:Int):=by decide +kernel
 have:=all ⟨c.toNat,c.toNat_lt⟩
 simpa using this
theorem Es (c:UInt8) (z:Int) (hz:z=(c.toNat:Int)) (w:World) :
  Calls Tryz.prog 308 #[.string ⟨#[48,49,50,51,52,53,54,55,56,57,97,98,99,100,101,102]⟩,.int .u8 z] w fun e w'=>e=.returned (.int .i64 (oJ (c.toNat:Int)))∧w'=w:=by
 refine(Tryz.y_strings_IndexByte _ z w).mono ?_
 rintro e w1 ⟨rfl,rfl⟩
 refine⟨?_,rfl⟩
 rw[← SV,hz]
 simp[hexL]
def yU (t:List UInt8):Option (Nat × List UInt8):=match t with | []=>none | c::r=>(hexV c).map fun h=>(h,r)
theorem YD {c:UInt8} {h:Nat} (e:hexV c=some h):h≤15:=by
 have:=IU c
 rw[e] at this
 rcases xA (c.toNat:Int) with k | k
 ·simp only at this;omega
 ·simp only at this;omega
theorem Et (w:World) (eb:Nat) (la:Option Addr) (ll lc:Nat) (t:ByteArray) (h:Pe w eb (.slice la ll lc) t) :
  Calls Tryz.prog 285 #[.pointer (some ⟨eb,0,none⟩)] w fun e w'=>∃ (b:Nat) (ok:Bool) (t':ByteArray),e=.returned (.tuple #[.int .u8 b,.bool ok])∧b≤255∧But eb w w'∧Pe w' eb (.slice la ll lc) t'∧t'.size≤t.size∧(match ok with | true=>yU t.toList=some (b,t'.toList)∧b≤15 | false=>yU t.toList=none):=by
 have H:=hid h
 clear h
 go_enter func285,ntmps285
 go_wp2_with fail
 refine(next_any w eb la ll lc t H.out).mono ?_
 rintro e w1 (⟨hnil,rfl,rfl⟩ | ⟨c,t',htl,rfl,hb1,hp1⟩)
 ·have HN:=hid hnil
  clear hnil
  go_wp2_with fail
  refine(Es 0 0 rfl _).mono ?_;rintro e w2 ⟨rfl,rfl⟩
  rw[show oJ (((0:UInt8).toNat:Nat):Int) = -1 by decide]
  go_wp2_with fail
  go_ret2
  exact⟨255,false,t,rfl,by omega,But.refl _ _,H.out,Nat.le_refl _,by rw[HN.out];rfl⟩
 ·have Uk:=hid htl
  have qo:=hid hp1
  have hsz:t'.size≤t.size:=by rw[← aB,← aB,htl];simp
  clear htl hp1
  go_wp2_with fail
  refine(Es c (c.toNat:Int) rfl _).mono ?_;rintro e w2 ⟨rfl,rfl⟩
  have hx:=IU c
  cases hv:hexV c with
  | none=>
   rw[hv] at hx
   simp only at hx
   rw[← hx]
   have HV:=hid hv
   clear hv hx
   go_wp2_with fail
   go_ret2
   exact⟨255,false,t',rfl,by omega,hb1,qo.out,hsz,by rw[Uk.out];simp[yU,HV.out]⟩
  | some q=>
   have hq:=YD hv
   rw[hv] at hx
   simp only at hx
   rw[← hx]
   have HV:=hid hv
   clear hv hx
   go_wp2_with fail
   go_ret2
   exact⟨q,true,t',rfl,by omega,hb1,qo.out,hsz,by rw[Uk.out];simp[yU,HV.out],hq⟩
def sH (t:List UInt8):Option (UInt8 × List UInt8):=match t with
 | []=>none
 | c::r=>if c=92 then(yU r).bind fun x=>(yU x.2).bind fun y=>if jE (16*x.1+y.1).toUInt8 then none else some ((16*x.1+y.1).toUInt8,y.2)
  else if jE c then some (c,r) else none
def Qn (w:World) (eb:Nat) (lv:Value) (t:ByteArray) (e:Ending) (w':World):Prop :=
 ∃ (bv:Value) (ok:Bool) (t':ByteArray),e=.returned (.tuple #[bv,.bool ok])∧But eb w w'∧Pe w' eb lv t'∧t'.size≤t.size∧(match ok with | true=>∃ c:UInt8,bv=.int .u8 c.toNat∧sH t.toList=some (c,t'.toList)∧t'.size<t.size | false=>sH t.toList=none)
theorem Mc {a b:ByteArray} (h:a.toList=b.toList):a=b:=by rw[text_eq h,← text_eq (rfl:b.toList=b.toList)]
theorem mF {c:UInt8} {t t1:ByteArray} (h:(aK [c] t.toList).isSome=true) (h1:t1.toList=(aK [c] t.toList).getD t.toList):t.toList=c::t1.toList:=by
 cases e:aK [c] t.toList with
 | none=>rw[e] at h;cases h
 | some r=>
  have:=vZ e
  rw[e] at h1
  simp only[Option.getD_some] at h1
  rw[this,h1];rfl
theorem jG {p:List UInt8} {t t1:ByteArray} (h:(aK p t.toList).isSome=false) (h1:t1.toList=(aK p t.toList).getD t.toList):t1=t:=by
 rw[kK h] at h1;exact Mc h1
theorem Md {c:UInt8} {t:List UInt8} (h:(aK [c] t).isSome=false) (r:List UInt8):t≠c::r:=by
 intro e;subst e;simp[aK,List.isPrefixOf] at h
theorem afW {a b:Nat} (ha:a≤15) (hb:b≤15):bits BinOp.or IntKind.u8 ((a:Int)*16) (b:Int)=(((16*a+b).toUInt8).toNat:Int):=by
 have all:∀ a b:Fin 16,bits BinOp.or IntKind.u8 ((a.val:Int)*16) (b.val:Int)=(((16*a.val+b.val).toUInt8).toNat:Int):=by decide +kernel
 exact all ⟨a,by omega⟩ ⟨b,by omega⟩
theorem aaF:(ByteArray.mk #[92]).toList=[92]:=by rw[ByteArray.toList_eq]
theorem Ph (w:World) (eb:Nat) (la:Option Addr) (ll lc:Nat) (t:ByteArray) (h:Pe w eb (.slice la ll lc) t) :
  Calls Tryz.prog 267 #[.pointer (some ⟨eb,0,none⟩)] w (Qn w eb (.slice la ll lc) t):=by
 unfold Qn
 have H:=hid h
 clear h
 go_enter func267,ntmps267
 go_wp2_with fail
 refine(take_any w eb la ll lc t (ByteArray.mk #[92]) H.out).mono ?_;rintro e w1 ⟨t1,rfl,hb1,hp1,ht1⟩
 rw[aaF] at ht1 ⊢
 have qo:=hid hp1
 have HT1:=hid ht1
 clear hp1 ht1
 cases hr:(aK [92] t.toList).isSome with
 | true=>
  have HR:=hid hr
  clear hr
  go_wp2_with fail
  refine(Et w1 eb la ll lc t1 qo.out).mono ?_;rintro e w2 ⟨b2,ok2,t2,rfl,ajF,hb2,hp2,hs2,hm2⟩
  have HP2:=hid hp2
  have HM2:=hid hm2
  clear hp2 hm2
  go_wp2_with fail
  refine(Et w2 eb la ll lc t2 HP2.out).mono ?_;rintro e w3 ⟨b3,ok3,t3,rfl,ajG,hb3,hp3,hs3,QW⟩
  have EW:=hid hp3
  have QT:=hid QW
  clear hp3 QW
  have SX:=hid (mF HR.out HT1.out)
  have hs1:t1.size<t.size:=by rw[← aB,← aB t,SX.out];simp
  have jI:=(hb1.trans hb2).trans hb3
  cases ok2 with
  | false=>
   go_wp2_with fail
   go_ret2
   exact⟨_,false,t3,rfl,jI,EW.out,by omega,by rw[SX.out];simp[sH,show yU t1.toList=none from HM2.out]⟩
  | true=>
   have hd2:yU t1.toList=some (b2,t2.toList)∧b2≤15:=HM2.out
   have HD2:=hid hd2.1
   have afY:=hd2.2
   clear hd2
   cases ok3 with
   | false=>
    go_wp2_with fail
    go_ret2
    exact⟨_,false,t3,rfl,jI,EW.out,by omega,by rw[SX.out];simp[sH,HD2.out,show yU t2.toList=none from QT.out]⟩
   | true=>
    have hd3:yU t2.toList=some (b3,t3.toList)∧b3≤15:=QT.out
    have HD3:=hid hd3.1
    have ac4:=hd3.2
    clear hd3
    go_wp2_with fail
    rw[afW afY ac4]
    have HLP:=hid (show sH t.toList=if jE (16*b2+b3).toUInt8 then none else some ((16*b2+b3).toUInt8,t3.toList) by rw[SX.out];simp[sH,HD2.out,HD3.out])
    generalize (16*b2+b3).toUInt8=c at *
    refine(AY _ _).mono ?_;rintro e w4 ⟨rfl,rfl⟩
    rw[← uX]
    cases hp:jE c with
    | true=>
     have HPL:=hid hp
     clear hp
     go_wp2_with fail
     go_ret2
     exact⟨_,false,t3,rfl,jI,EW.out,by omega,by show sH t.toList=none;rw[HLP.out,HPL.out];rfl⟩
    | false=>
     have HPL:=hid hp
     clear hp
     go_wp2_with fail
     go_ret2
     exact⟨_,true,t3,rfl,jI,EW.out,by omega,c,rfl,by rw[HLP.out,HPL.out];rfl,by omega⟩
 | false=>
  have HR:=hid hr
  clear hr
  go_wp2_with fail
  refine(next_any w1 eb la ll lc t1 qo.out).mono ?_
  have hte:t1=t:=jG HR.out HT1.out
  subst hte
  rintro e w2 (⟨hnil,rfl,rfl⟩ | ⟨c,t2,htl,rfl,hb2,hp2⟩)
  ·have HN:=hid hnil
   clear hnil
   go_wp2_with fail
   go_ret2
   exact⟨_,false,t1,rfl,hb1,qo.out,Nat.le_refl _,by show sH t1.toList=none;rw[HN.out];rfl⟩
  ·have Uk:=hid htl
   have HP2:=hid hp2
   have hs2:t2.size<t1.size:=by rw[← aB,← aB t1,htl];simp
   have HC:=hid (show c≠92 from fun e=>Md HR.out t2.toList (by rw[htl,e]))
   have HLP:=hid (show sH t1.toList=if jE c then some (c,t2.toList) else none by rw[htl];unfold sH;simp only;rw[if_neg HC.out])
   clear htl hp2
   go_wp2_with fail
   refine(AY _ _).mono ?_;rintro e w4 ⟨rfl,rfl⟩
   rw[← uX]
   cases hp:jE c with
   | true=>
    have HPL:=hid hp
    clear hp
    go_wp2_with fail
    go_ret2
    exact⟨_,true,t2,rfl,hb1.trans hb2,HP2.out,by omega,c,rfl,by rw[HLP.out,HPL.out];rfl,by omega⟩
   | false=>
    have HPL:=hid hp
    clear hp
    go_wp2_with fail
    go_ret2
    exact⟨_,false,t2,rfl,hb1.trans hb2,HP2.out,by omega,by show sH t1.toList=none;rw[HLP.out,HPL.out];rfl⟩
def lG (spec:List UInt8→Got) (w:World) (eb:Nat) (lv:Value) (t:ByteArray) (e:Ending) (w':World):Prop :=
 ∃ (a:Option Addr) (c:Nat) (out:List UInt8) (t':ByteArray) (ok:Bool),e=.returned (.tuple #[.slice a out.length c,.bool ok])∧gB w' w.heap.size (.slice a out.length c) out∧But eb w w'∧Pe w' eb lv t'∧t'.size≤t.size∧out.length≤2*(t.size-t'.size) ∧
  spec t.toList=(match ok with | true=>some (out,t'.toList) | false=>none)
theorem Pe.grew {w wx w':World} {eb:Nat} {lv:Value} {t:ByteArray} {lo:Nat} {v v':Value} {L:List UInt8} (h:Pe w eb lv t) (hb:Below w.heap.size w wx) (hB:gB w lo v L) (hg:Grew wx w' v v'):Pe w' eb lv t :=
 h.same ((hg.g.block eb (Nat.lt_of_lt_of_le h.lt hb.size) (fun e=>gK hB h (by decide) e.symm rfl)).trans (hb.block eb h.lt))
theorem FI {t:List UInt8} (h:∀ r,t≠34::r):dF t=(sH t).bind fun x=>(dF x.2).map fun z=>(x.1::z.1,z.2):=by
 match t,h with
 | [],_=>rw[yP];rfl
 | c::r,h=>
  have Ui:c≠34:=fun e=>h r (by rw[e])
  by_cases D9:c=92
  ·subst D9
   match r with
   | []=>rw[qy _ (by simp)];rfl
   | [a]=>
    rw[qy _ (by simp)]
    cases hv:hexV a<;>simp[sH,yU,hv]
   | a::b::r'=>
    rw[yS]
    cases ha:hexV a with
    | none=>simp[sH,yU,ha]
    | some x=>
     cases hb:hexV b with
     | none=>simp[sH,yU,ha,hb]
     | some y=>
      simp only[sH,yU,ha,hb,↓reduceIte,Option.map_some,Option.bind_some]
      generalize (16*x+y).toUInt8=z
      cases jE z<;>simp
  ·cases hp:jE c with
   | true=>rw[uY _ hp];simp[sH,D9,hp]
   | false=>rw[yR _ hp Ui D9];simp[sH,D9,hp]
theorem Me (w:World) (eb:Nat) (la:Option Addr) (ll lc:Nat) (t:ByteArray) (h:Pe w eb (.slice la ll lc) t) (hs:t.size≤400) :
  Calls Tryz.prog 224 #[.pointer (some ⟨eb,0,none⟩)] w (lG uV w eb (.slice la ll lc) t):=by
 unfold lG
 have H:=hid h
 clear h
 go_enter func224,ntmps224
 go_wp2_with fail
 refine(take_any w eb la ll lc t (ByteArray.mk #[34]) H.out).mono ?_;rintro e w1 ⟨t1,rfl,hb1,hp1,ht1⟩
 rw[uZ] at ht1 ⊢
 have qo:=hid hp1
 have HT1:=hid ht1
 clear hp1 ht1
 cases hr:(aK [34] t.toList).isSome with
 | false=>
  have HR:=hid hr
  clear hr
  have hte:t1=t:=jG HR.out HT1.out
  subst hte
  go_wp2_with fail
  go_ret2
  exact⟨none,0,[],t1,false,rfl,World.ownsRow_nil _ _ _ _,hb1,qo.out,Nat.le_refl _,by simp,by unfold uV;rw[kK HR.out];rfl⟩
 | true=>
  have HR:=hid hr
  clear hr
  have SX:=hid (mF HR.out HT1.out)
  have hs1:t1.size<t.size:=by rw[← aB,← aB t,SX.out];simp
  have HG:=hid (show uV t.toList=dF t1.toList by unfold uV;rw[SX.out];rfl)
  have hz1:=hb1.size
  go_wp2_with fail
  go_loopg [4,5,6] (t1.size+1) (fun gk d4 b5 o6 wr=>∃ (out:List UInt8) (tr:ByteArray),tr.size<gk∧tr.size≤t1.size∧out.length+tr.size≤t1.size∧Hid (Pe wr eb (.slice la ll lc) tr)∧Hid (gB wr w.heap.size d4 out)∧But eb w wr∧Hid (uV t.toList=(dF tr.toList).map fun z=>(out++z.1,z.2)))
  case atStart=>exact⟨[],t1,by omega,Nat.le_refl _,by simp,hid qo.out,hid (World.ownsRow_nil _ _ _ _),hb1,hid (by rw[HG.out];simp)⟩
  case round=>
   obtain⟨out,tr,hm,hle,hol,HP,HB,jI,HS⟩:=hrel
   obtain⟨oa,oc,hov⟩:∃ a c,u4=.slice a out.length c:=ak HB.out
   subst hov
   go_wp2_with fail
   refine(take_any _ eb la ll lc tr (ByteArray.mk #[34]) HP.out).mono ?_;rintro e w2 ⟨t2,rfl,hb2,hp2,ht2⟩
   rw[uZ] at ht2 ⊢
   have HP2:=hid hp2
   have HT2:=hid ht2
   have HB2:=hid (HB.out.but (show Seg _ _ _ _ _ from HP.out) (by decide) hb2)
   have bG:=jI.trans hb2
   clear hp2 ht2
   cases hr2:(aK [34] tr.toList).isSome with
   | true=>
    have MB:=hid (mF hr2 HT2.out)
    have hs2:t2.size<tr.size:=by rw[← aB,← aB tr,MB.out];simp
    clear hr2
    go_wp2_with fail
    go_ret2
    exact⟨oa,oc,out,t2,true,rfl,HB2.out,bG,HP2.out,by omega,by omega,by rw[HS.out,MB.out,yQ];simp⟩
   | false=>
    have hte:t2=tr:=jG hr2 HT2.out
    subst hte
    have HST:=hid (FI (Md hr2))
    clear hr2
    go_wp2_with fail
    refine(Ph _ eb la ll lc t2 HP2.out).mono ?_;rintro e w3 ⟨bv,ok3,t3,rfl,hb3,hp3,hs3,QW⟩
    have EW:=hid hp3
    have QT:=hid QW
    have HB3:=hid (HB2.out.but (show Seg _ _ _ _ _ from HP2.out) (by decide) hb3)
    have o7:=bG.trans hb3
    clear hp3 QW
    cases ok3 with
    | false=>
     go_wp2_with fail
     go_ret2
     exact⟨none,0,[],t3,false,rfl,World.ownsRow_nil _ _ _ _,o7,EW.out,by omega,by simp,by rw[HS.out,HST.out,show sH t2.toList=none from QT.out];rfl⟩
    | true=>
     obtain⟨c,rfl,hlp,hlt⟩:∃ c:UInt8,bv=.int .u8 c.toNat∧sH t2.toList=some (c,t3.toList)∧t3.size<t2.size:=QT.out
     have HLP:=hid hlp
     clear hlp QT
     have hz3:=o7.size
     go_wp2_with (at_builtin;refine dG _ rfl _ _ rfl _ out w.heap.size rfl (HB3.out.same ((Below.refl _ _).alloc (Nat.le_refl _) _)) _ [c] _ rfl (mP _ _ _ rfl) (by simp;omega) (by simp;omega) ?_)
     intro a4 c4 w4 hb4 hg4
     have Uh:=hid (EW.out.grew ((Below.refl _ _).alloc (Nat.le_refl _) _) HB3.out hg4)
     have sJ:=o7.grew ((Below.refl _ _).alloc (Nat.le_refl _) _) HB3.out hg4
     have HB4:=hid hb4
     clear hb4 hg4
     go_wp2_with fail
     go_roundg (gk-1)
     case rel=>exact⟨out++[c],t3,by omega,by omega,by rw[List.length_append,List.length_singleton];omega,hid Uh.out,hid (by simpa using HB4.out),sJ,hid (by rw[HS.out,HST.out,HLP.out];simp[Option.map_map,Function.comp_def])⟩
     case measure=>omega
theorem I8 (s cut:ByteArray) (w:World) (hcs:cut.size<4294967281) (hascii:∀ (j:Nat) b,cut.data.toList[j]? = some b→b.toNat<128) :
  Calls Tryz.prog 283 #[.string s,.string cut] w fun e w'=>e=.returned (.string ⟨(Lib.trimLeftS s.data.toList cut.data.toList).toArray⟩)∧Below w.heap.size w w' :=
 Any.strings_TrimLeft_laid Tryz.z_lays161 (by kernel_rfl) s cut w hcs hascii
theorem wU {p:UInt8→Bool} (l:List UInt8):(l.dropWhile p).length=l.length-(l.takeWhile p).length:=by
 have:=congrArg List.length (List.takeWhile_append_dropWhile (p:=p) (l:=l))
 rw[List.length_append] at this;omega
theorem MC (w:World) (eb:Nat) (la:Option Addr) (ll lc:Nat) (t cut:ByteArray) (p:UInt8→Bool) (h:Pe w eb (.slice la ll lc) t) (hs:t.size≤400) (hcs:cut.size<4294967281) (hascii:∀ (j:Nat) b,cut.data.toList[j]? = some b→b.toNat<128) (hp:∀ c,cut.data.toList.contains c=p c) :
  Calls Tryz.prog 263 #[.pointer (some ⟨eb,0,none⟩),.string cut] w fun e w'=>∃ r t':ByteArray,e=.returned (.string r)∧But eb w w'∧Pe w' eb (.slice la ll lc) t'∧r.toList=t.toList.takeWhile p∧t'.toList=t.toList.dropWhile p:=by
 have c1:=h.rest
 have hf1:=Seg.frozen h 1
 have hel:=h.lt
 have H:=hid h
 clear h
 obtain⟨k,hk⟩:∃ k,(t.toList.takeWhile p).length=k:=⟨_,rfl⟩
 have hkt:k≤t.size:=by rw[← hk,← aB];exact(List.takeWhile_sublist (p:=p)).length_le
 have HTW:=hid (show (t.extract 0 k).toList=t.toList.takeWhile p by rw[ext_list,← hk];simpa using(takeWhile_take (p:=p) t.toList).1)
 have HDW:=hid (show (t.extract k t.size).toList=t.toList.dropWhile p by rw[ext_list,← hk,(takeWhile_take (p:=p) t.toList).2,List.take_of_length_le (by rw[wU,aB];omega)])
 obtain⟨m,hm⟩:∃ m,t.size-k=m:=⟨_,rfl⟩
 have HTM:=hid (show ∀ w',Below w.heap.size w w'→Calls Tryz.prog 283 #[.string t,.string cut] w' (fun e w''=>∃ u:ByteArray,e=.returned (.string u)∧u.size=m∧Below w.heap.size w w'') from fun w' hw'=>(I8 t cut w' hcs hascii).mono (fun e w'' hh=>⟨_,hh.1,by
  have hpp:(cut.data.toList.contains ·)=p:=funext hp
  show (Lib.trimLeftS t.data.toList cut.data.toList).toArray.size=_
  unfold Lib.trimLeftS
  rw[List.size_toArray,hpp,← ByteArray.toList_eq,wU,aB,hk,hm],hw'.trans (hh.2.mono hw'.size)⟩))
 have HKP:=hid (show ∀ w',Below w.heap.size w w'→w'.cell? ⟨eb,1,none⟩=some (.string t) from fun w' hw'=>(World.cell?_of_block (w:=w) (hw'.block eb hel)).trans c1)
 have hx1:(t.size:Int)-(m:Int)=(k:Int):=by omega
 have hx3:(0:Int)≤(k:Int):=by omega
 have hx4:(k:Int)≤(t.size:Int):=by omega
 have hx5:k≤400:=by omega
 have hw1:IntKind.i64.wrap (k:Int)=(k:Int):=by rw[IntKind.wrap_i64];omega
 have hw2:IntKind.i64.wrap ((t.size:Int)-(m:Int))=(k:Int):=by rw[IntKind.wrap_i64];omega
 clear hk hp hascii hcs hm
 go_enter func263,ntmps263
 go_wp2_with fail
 go_region_held3 (fun w'=>w'.cell? ⟨eb,1,none⟩=some (.string t))
  (exact HKP.out _ (by repeat (first | with_reducible assumption | with_reducible exact Below.refl _ _ | with_reducible apply Below.drew)))
  (first | (go_at_call 283;refine(HTM.out _ (by repeat (first | with_reducible assumption | with_reducible exact Below.refl _ _ | with_reducible apply Below.drew))).mono ?_;rintro e w1 ⟨u,rfl,hu,hb1⟩;have hw3:IntKind.i64.wrap ((t.size:Int)-(u.size:Int))=(k:Int):=(by rw[hu];exact hw2)))
 have qo:=hid (H.out.same (hb1.block eb hel))
 have f1:=qo.out.rest
 have ff1:=Seg.frozen qo.out 1
 have hex:(t.extract 0 k).size=k:=by rw[ByteArray.size_extract];omega
 generalize t.extract 0 k=r at HTW hex ⊢
 clear c1 hf1
 go_wp2_with fail
 go_ret
 exact⟨r,t.extract k t.size,rfl,(But.dJ hb1).setCell _ _,qo.out.put _,HTW.out,HDW.out⟩
def YE:ByteArray:=⟨#[45,48,49,50,51,52,53,54,55,56,57]⟩
def Qo:ByteArray:=⟨#[97,98,99,100,101,102,103,104,105,106,107,108,109,110,111,112,113,114,115,116,117,118,119,120,121,122,48,49,50,51,52,53,54,55,56,57]⟩
theorem Wi (c:UInt8):YE.data.toList.contains c=kV c:=by
 have all:∀ a:Fin 256,YE.data.toList.contains (UInt8.ofNat a.val)=kV (UInt8.ofNat a.val):=by decide +kernel
 have:=all ⟨c.toNat,c.toNat_lt⟩
 simpa using this
theorem SY (c:UInt8):Qo.data.toList.contains c=gu c:=by
 have all:∀ a:Fin 256,Qo.data.toList.contains (UInt8.ofNat a.val)=gu (UInt8.ofNat a.val):=by decide +kernel
 have:=all ⟨c.toNat,c.toNat_lt⟩
 simpa using this
theorem Pj (w:World) (eb:Nat) (la:Option Addr) (ll lc:Nat) (t:ByteArray) (h:Pe w eb (.slice la ll lc) t) (hs:t.size≤400) :
  Calls Tryz.prog 263 #[.pointer (some ⟨eb,0,none⟩),.string YE] w fun e w'=>∃ r t':ByteArray,e=.returned (.string r)∧But eb w w'∧Pe w' eb (.slice la ll lc) t'∧r.toList=t.toList.takeWhile kV∧t'.toList=t.toList.dropWhile kV :=
 MC w eb la ll lc t YE kV h hs (by decide) (ascii_of_all (by decide)) Wi
theorem MF (w:World) (eb:Nat) (la:Option Addr) (ll lc:Nat) (t:ByteArray) (h:Pe w eb (.slice la ll lc) t) (hs:t.size≤400) :
  Calls Tryz.prog 263 #[.pointer (some ⟨eb,0,none⟩),.string Qo] w fun e w'=>∃ r t':ByteArray,e=.returned (.string r)∧But eb w w'∧Pe w' eb (.slice la ll lc) t'∧r.toList=t.toList.takeWhile gu∧t'.toList=t.toList.dropWhile gu :=
 MC w eb la ll lc t Qo gu h hs (by decide) (ascii_of_all (by decide)) SY
theorem MG (x:ByteArray):∀ (zs:List ByteArray) (i:Nat),Lib.idxFromS zs x i=match (zs.map ByteArray.toList).findIdx? (fun n=>n==x.toList) with | some j=>((i+j:Nat):Int) | none=>-1
 | [],i=>by simp[Lib.idxFromS]
 | z::zs,i=>by
  unfold Lib.idxFromS
  rw[List.map_cons,List.findIdx?_cons]
  by_cases h:z=x
  ·subst h;simp
  ·have h':(z.toList==x.toList)=false:=by
    cases e:(z.toList==x.toList) with
    | false=>rfl
    | true=>exact absurd (Mc (by simpa using e)) h
   rw[h']
   have:=MG x zs (i+1)
   simp only[Bool.false_eq_true,if_false]
   rw[if_neg (by first | exact h | (intro e;exact h e.symm) | simpa using h),this]
   cases (zs.map ByteArray.toList).findIdx? (fun n=>n==x.toList) with
   | none=>rfl
   | some j=>simp only[Option.map_some];congr 1;omega
theorem Wj (w:World) (lo:Nat) (na:Option Addr) (nc:Nat) (names:List ByteArray) (r:ByteArray) (h:w.ownsRow lo 9 1 (.slice na names.length nc) names.length (names.map aY)) (hnl:names.length≤400) :
  Calls Tryz.prog 265 #[.slice na names.length nc,.string r] w fun e w'=>e=.returned (.int .i64 (Lib.idxFromS names r 0))∧w'=w:=by
 by_cases h0:0<names.length
 ·obtain⟨g,cap,hv,_,_⟩:=dM h h0
  obtain⟨rfl,rfl⟩:na=some ⟨g,0,none⟩∧nc=cap:=by simpa using hv
  refine(Tryz.y_slices_Index_string g 0 names.length nc names r w (Nat.le_refl _) (by omega) (fun j hj=>?_)).mono (fun e w' hh=>⟨by rw[hh.1,List.take_length];rfl,hh.2⟩)
  have:=h.cellAt j (by omega)
  rw[List.getElem?_map,List.getElem?_eq_getElem hj] at this
  rw[Nat.zero_add,List.getD_eq_getElem?_getD,List.getElem?_eq_getElem hj]
  exact this
 ·have:names=[]:=List.eq_nil_of_length_eq_zero (by omega)
  subst this
  exact Tryz.y_slices_Index_string_empty na nc r w
theorem Eu (w:World) (eb lo:Nat) (la:Option Addr) (ll lc:Nat) (t:ByteArray) (nv:Value) (names:List ByteArray) (h:Pe w eb (.slice la ll lc) t) (hs:t.size≤400) (hn:w.ownsRow lo 9 1 nv names.length (names.map aY)) (hnl:names.length≤400) (hne:∀ n∈names,1≤n.size) :
  Calls Tryz.prog 223 #[.pointer (some ⟨eb,0,none⟩),nv] w (lG (oQ gu (names.map ByteArray.toList)) w eb (.slice la ll lc) t):=by
 unfold lG
 obtain⟨na,nc,uy⟩:∃ a c,nv=.slice a names.length c:=ak hn
 subst uy
 have H:=hid h
 have HN:=hid hn
 have HNE:=hid hne
 clear h hn hne
 go_enter func223,ntmps223
 go_wp2_with fail
 refine(MF w eb la ll lc t H.out hs).mono ?_;rintro e w1 ⟨r,t1,rfl,hb1,hp1,hr1,ht1⟩
 have qo:=hid hp1
 have HR1:=hid hr1
 have HT1:=hid ht1
 have XH:=hid (au HN.out (fun g hg=>hb1.block g (HN.out.lt g hg).2 (gK HN.out H.out (by decide) hg)))
 have hsz:r.size+t1.size=t.size:=by
  rw[← aB,← aB t1,← aB t,hr1,ht1,← List.length_append,List.takeWhile_append_dropWhile]
 have hz1:=hb1.size
 clear hp1 hr1 ht1
 go_wp2_with fail
 refine(Wj w1 lo na nc names r XH.out hnl).mono ?_;rintro e w2 ⟨rfl,rfl⟩
 rw[MG]
 have HCH:=hid (show oQ gu (names.map ByteArray.toList) t.toList=((names.map ByteArray.toList).findIdx? (fun n=>n==r.toList)).map fun i=>(bU i,t1.toList) by unfold oQ;rw[HR1.out,HT1.out])
 cases hf:(names.map ByteArray.toList).findIdx? (fun n=>n==r.toList) with
 | none=>
  have HF:=hid hf
  clear hf
  simp only
  go_wp2_with fail
  go_ret2
  exact⟨none,0,[],t1,false,rfl,World.ownsRow_nil _ _ _ _,hb1,qo.out,by omega,by simp,by rw[HCH.out,HF.out];rfl⟩
 | some j=>
  have HF:=hid hf
  have hj:j<names.length:=by
   have:=(List.findIdx?_eq_some_iff_getElem.1 hf).1
   rw[List.length_map] at this;exact this
  have hrs:1≤r.size:=by
   obtain⟨h1,h2,_⟩:=List.findIdx?_eq_some_iff_getElem.1 hf
   rw[List.getElem_map] at h2
   have h3:(names[j]'hj).toList=r.toList:=by simpa using h2
   rw[← aB,← h3,aB]
   exact HNE.out _ (List.getElem_mem hj)
  clear hf
  simp only[Nat.zero_add]
  go_wp2_with fail
  refine(jL w2 w.heap.size (.slice none 0 0) [] j (World.ownsRow_nil _ _ _ _) (by omega) (by simp) hz1).mono ?_;rintro e w5 ⟨a5,c5,rfl,hb5,hg5⟩
  have LY:Below w2.heap.size w2 w5:=hg5.below (fun k hk=>by cases hk) (Nat.le_refl _)
  rw[List.nil_append] at hb5 ⊢
  have jM:=hid hb5
  have hvl:(bU j).length≤2:=iJ 1 j (by have:(128:Nat) ^ (1+1)=16384:=(by decide);omega)
  clear hb5 hg5
  go_wp2_with fail
  go_ret2
  exact⟨a5,c5,bU j,t1,true,rfl,jM.out,hb1.trans (But.dJ LY),qo.out.same (LY.block eb qo.out.lt),by omega,by omega,by rw[HCH.out,HF.out];rfl⟩
theorem ac5 (b:Nat) (h:b<18446744073709551616):18446744073709551615 ^^^ b=18446744073709551615-b:=by
 have h1:=BitVec.toNat_xor (BitVec.allOnes 64) (BitVec.ofNat 64 b)
 rw[BitVec.allOnes_xor,BitVec.toNat_not,BitVec.toNat_allOnes,BitVec.toNat_ofNat,Nat.mod_eq_of_lt (show b<2 ^ 64 by omega)] at h1
 exact h1.symm
theorem YF {n:Int} (h:n<0) (h1:-9223372036854775808≤n):bits BinOp.xor IntKind.u64 IntKind.u64.max (IntKind.u64.wrap (IntKind.u64.wrap n*2))=(kQ n:Int):=by
 obtain⟨b,hb⟩:∃ b:Nat,IntKind.u64.wrap (IntKind.u64.wrap n*2)=(b:Int)∧(b:Int)=2*n+18446744073709551616:=⟨(2*n+18446744073709551616).toNat,by rw[IntKind.wrap_u64,IntKind.wrap_u64];omega,by omega⟩
 rw[hb.1,show IntKind.u64.max=((18446744073709551615:Nat):Int) by decide,bits_xor_u64_nat _ _ (by omega) (by omega),ac5 b (by omega)]
 unfold kQ;rw[if_pos h];omega
def S9 (l:List UInt8):Option Int:=match Lib.parseIntB 64 l with | .ok v=>some v | _=>none
theorem I9 (s:ByteArray) (w:World) (hs:s.size≤400) (hE:Env w) :
  Calls Tryz.prog 264 #[.string s,.int .i64 10,.int .i64 64] w fun e w'=>Below w.heap.size w w'∧((∃ v,S9 s.toList=some v∧e=.returned (.tuple #[.int .i64 v,.nilIface]))∨(S9 s.toList=none∧∃ (v:Int) (N:Nat) (T:TypeId),e=.returned (.tuple #[.int .i64 v,.iface T (.pointer (some ⟨N,0,none⟩))]))):=by
 obtain⟨te,pe,hsx⟩:=hE.v.sx
 obtain⟨te2,pe2,hrg⟩:=hE.v.rg
 unfold S9
 rw[ByteArray.toList_eq]
 cases h:Lib.parseIntB 64 s.data.toList with
 | ok v=>
  refine(Tryz.y_strconv_ParseInt_10_at64_ok s (by omega) v h w).mono ?_
  rintro e w1 ⟨rfl,hw1⟩
  refine⟨?_,Or.inl ⟨v,rfl,rfl⟩⟩
  rcases hw1 with rfl | ⟨t,rfl⟩
  ·exact Below.refl _ _
  ·exact Joins.below_bytesWorld _ _ _ _ (Nat.le_refl _)
 | range=>
  refine(Tryz.y_strconv_ParseInt_10_at64_range s (by omega) h _ w hrg (Or.inr ⟨te2,pe2,rfl⟩)).mono ?_
  rintro e w1 ⟨N,rfl,_,_,hb⟩
  exact⟨hb,Or.inr ⟨rfl,_,N,_,rfl⟩⟩
 | _=>
  refine(Tryz.y_strconv_ParseInt_10_at64_no s (by omega) ⟨fun v hh => (by rw [h] at hh; cases hh),fun hh => (by rw [h] at hh; cases hh)⟩ _ w hsx (Or.inr ⟨te,pe,rfl⟩)).mono ?_
  rintro e w1 ⟨N,rfl,_,_,hb⟩
  exact⟨hb,Or.inr ⟨rfl,_,N,_,rfl⟩⟩
theorem Ja (w:World) (eb:Nat) (la:Option Addr) (ll lc:Nat) (t:ByteArray) (h:Pe w eb (.slice la ll lc) t) (hs:t.size≤400) (hE:Env w) (hO:Own eb) :
  Calls Tryz.prog 222 #[.pointer (some ⟨eb,0,none⟩)] w (lG (uw kV) w eb (.slice la ll lc) t):=by
 unfold lG
 have H:=hid h
 have HE:=hid hE
 clear h hE
 go_enter func222,ntmps222
 go_wp2_with fail
 refine(Pj w eb la ll lc t H.out hs).mono ?_;rintro e w1 ⟨r,t1,rfl,hb1,hp1,hr1,ht1⟩
 have qo:=hid hp1
 have mD:=hid (show uw kV t.toList=(intOf r.toList).map fun n=>(bU (kQ n),t1.toList) by unfold uw;rw[hr1,ht1])
 have hsz:r.size+t1.size=t.size:=by
  rw[← aB,← aB t1,← aB t,hr1,ht1,← List.length_append,List.takeWhile_append_dropWhile]
 have U7:=hid (HE.out.but hb1 hO)
 clear hp1 hr1 ht1
 go_wp2_with fail
 refine(I9 r w1 (by omega) U7.out).mono ?_
 rintro e w2 ⟨hb2,⟨n,hok,rfl⟩ | ⟨hno,v,N,T,rfl⟩⟩
 ·have BX:=hid hok
  have nM:=hb1.trans (But.dJ hb2)
  have HP2:=hid (qo.out.same (hb2.block eb qo.out.lt))
  have HE2:=hid (U7.out.below hb2)
  clear hok
  have hz2:=nM.size
  have hin:In64 n:=LG (t:=r.toList) (by
   have:=BX.out
   unfold S9 at this
   cases h:Lib.parseIntB 64 r.toList with
   | ok v=>rw[h] at this;simp only[Option.some.injEq] at this;rw[this]
   | range=>rw[h] at this;cases this
   | _=>rw[h] at this;cases this)
  obtain⟨hi1,hi2⟩:=hin
  go_wp2_with fail
  refine(Tryz.y_strconv_FormatInt_10 n hi1 hi2 _ HE2.out.t).mono ?_;rintro e w3 ⟨rfl,kk,os,hw3⟩
  have hbw3:Below w2.heap.size w2 w3:=by rw[hw3];exact below_grow _ _ _
  have EW:=hid (HP2.out.same (hbw3.block eb HP2.out.lt))
  have hb3:=nM.trans (But.dJ hbw3)
  have hz3:=hb3.size
  clear hw3 hbw3
  have hfl:(ByteArray.mk (Lib.itoa n).toArray).toList=Lib.itoa n:=by rw[ByteArray.toList_eq]
  generalize ByteArray.mk (Lib.itoa n).toArray=fb at *
  have HIO:=hid (show intOf r.toList=if Lib.itoa n=r.toList then some n else none from by
   have:=BX.out
   unfold S9 at this
   unfold intOf
   cases h:Lib.parseIntB 64 r.toList with
   | ok v=>rw[h] at this;simp only[Option.some.injEq] at this;rw[this]
   | range=>rw[h] at this;cases this
   | _=>rw[h] at this;cases this)
  rw[← hfl] at HIO
  cases heq:(fb.toList==r.toList) with
  | false=>
   have HS:=hid (show intOf r.toList=none by rw[HIO.out,if_neg (by simpa using heq)])
   have hne:(fb.toList != r.toList)=true:=by simpa using heq
   clear hfl
   go_wp2_with fail
   go_ret2
   exact⟨none,0,[],t1,false,rfl,World.ownsRow_nil _ _ _ _,hb3,EW.out,by omega,by simp,by rw[mD.out,HS.out];rfl⟩
  | true=>
   have HS:=hid (show intOf r.toList=some n by rw[HIO.out,if_pos (by simpa using heq)])
   have hne:(fb.toList != r.toList)=false:=by simp at heq ⊢;exact heq
   have HSN:=hid (show uw kV t.toList=some (bU (kQ n),t1.toList) by rw[mD.out,HS.out];rfl)
   have Uj:=Ed (n:=n) hi1 hi2
   rw[qx HS.out,aB] at Uj
   clear hfl
   by_cases hn:n<0
   ·go_wp2_with fail
    rw[YF hn hi1]
    have IX:kQ n<18446744073709551616:=by unfold kQ;split<;>omega
    refine(jL _ w.heap.size _ [] (kQ n) (World.ownsRow_nil _ _ _ _) IX (by simp) hz3).mono ?_;rintro e w4 ⟨a4,c4,rfl,hb4,hg4⟩
    have Wn:Below w3.heap.size w3 w4:=hg4.below (fun k hk=>by cases hk) (Nat.le_refl _)
    rw[List.nil_append] at hb4 ⊢
    have HB4:=hid hb4
    clear hb4 hg4
    generalize bU (kQ n)=out at *
    go_wp2_with fail
    go_ret2
    exact⟨a4,c4,out,t1,true,rfl,HB4.out,hb3.trans (But.dJ Wn),EW.out.same (Wn.block eb EW.out.lt),by omega,by omega,HSN.out⟩
   ·go_wp2_with fail
    rw[show n*2=(kQ n:Int) by unfold kQ;rw[if_neg (by omega)];omega]
    have IX:kQ n<18446744073709551616:=by unfold kQ;split<;>omega
    refine(jL _ w.heap.size _ [] (kQ n) (World.ownsRow_nil _ _ _ _) IX (by simp) hz3).mono ?_;rintro e w4 ⟨a4,c4,rfl,hb4,hg4⟩
    have Wn:Below w3.heap.size w3 w4:=hg4.below (fun k hk=>by cases hk) (Nat.le_refl _)
    rw[List.nil_append] at hb4 ⊢
    have HB4:=hid hb4
    clear hb4 hg4
    generalize bU (kQ n)=out at *
    go_wp2_with fail
    go_ret2
    exact⟨a4,c4,out,t1,true,rfl,HB4.out,hb3.trans (But.dJ Wn),EW.out.same (Wn.block eb EW.out.lt),by omega,by omega,HSN.out⟩
 ·have XL:=hid (show intOf r.toList=none from by
   unfold S9 at hno;unfold intOf
   cases h:Lib.parseIntB 64 r.toList with
   | ok v=>rw[h] at hno;cases hno
   | range=>rfl
   | _=>rfl)
  clear hno
  go_wp2_with fail
  go_ret2
  exact⟨none,0,[],t1,false,rfl,World.ownsRow_nil _ _ _ _,hb1.trans (But.dJ hb2),qo.out.same (hb2.block eb qo.out.lt),by omega,by simp,by rw[mD.out,XL.out];rfl⟩
def MH (f:bD):FD:=⟨f.number.toNat,f.name.toList,f.shape,f.base.toList⟩
def tyP (X:List bY) (base:List UInt8):Option TD:=match X[(bT X base).toNat]? with
 | none=>none
 | some x=>if bT X base<0 then none else if x.it.kind=0 then some (.inr (x.it.fields.map MH)) else some (.inl (x.it.names.map fun t=>t.text.toList))
abbrev oh (X:List bY) (n:Nat):=sD kV gu (tyP X) n
structure Wp (X:List bY):Prop where
 nms:Oh X
 len:X.length≤400
 n:∀ x∈X,∀ f∈x.it.fields,0≤f.number∧f.number≤99
 s:∀ x∈X,∀ f∈x.it.fields,1≤f.name.size∧f.name.size≤400
 fl:∀ x∈X,x.it.fields.length≤400
 nl:∀ x∈X,x.it.names.length≤400
 nn:∀ x∈X,∀ t∈x.it.names,1≤t.text.size∧t.text.size≤400
def Tc (X:List bY) (n:Nat):Prop:=∀ (w:World) (eb lo:Nat) (la:Option Addr) (ll lc:Nat) (t base:ByteArray),fQ w lo (.slice la ll lc) X→Pe w eb (.slice la ll lc) t→Env w→Own eb→t.size≤400 →
 Calls Tryz.prog 170 #[.pointer (some ⟨eb,0,none⟩),.string base,.int .i64 ((7:Int)-n)] w (lG ((oh X n).1 base.toList) w eb (.slice la ll lc) t)
def Td (X:List bY) (n:Nat):Prop:=∀ (w:World) (eb lo:Nat) (la:Option Addr) (ll lc:Nat) (t base:ByteArray),fQ w lo (.slice la ll lc) X→Pe w eb (.slice la ll lc) t→Env w→Own eb→t.size≤400 →
 Calls Tryz.prog 288 #[.pointer (some ⟨eb,0,none⟩),.string base,.int .i64 ((7:Int)-n)] w (lG ((oh X n).2 base.toList) w eb (.slice la ll lc) t)
theorem fQ.but {w w':World} {lo eb:Nat} {lv:Value} {X:List bY} {t:ByteArray} {lv2:Value} (h:fQ w lo lv X) (hc:Pe w eb lv2 t) (hb:But eb w w'):fQ w' lo lv X:=by
 have own:∀ {e:TypeId} {size n:Nat} {v:Value} {ys:List Value},e ≠ 256 → w.ownsRow lo e size v n ys→w'.ownsRow lo e size v n ys:=fun he h1=>au h1 (fun g hg=>hb.block g (h1.lt g hg).2 (gK h1 hc he hg))
 refine⟨own (by decide) h.own,fun x hx=>?_⟩
 have hx':=h.nest x hx
 exact { hx' with f:=own (by decide) hx'.f,n:=own (by decide) hx'.n }
def Wq (G:Got) (val:List UInt8→Got) (T:List UInt8) (m:Nat) (out:List UInt8):Prop:=m≤16∧G=(iW val (16-m) (decide (m=0)) T).map fun x=>(out++x.1,x.2)
theorem Wq.shut {G:Got} {val:List UInt8→Got} {T r:List UInt8} {m:Nat} {out:List UInt8} (h:Wq G val T m out) (he:aK [93] T=some r):G=some (out,r):=by
 rw[h.2,og,he];simp
theorem Wq.full {G:Got} {val:List UInt8→Got} {T:List UInt8} {out:List UInt8} (h:Wq G val T 16 out) (he:aK [93] T=none):G=none:=by
 rw[h.2,og,he];rfl
theorem Wq.IZ {G:Got} {val:List UInt8→Got} {T:List UInt8} {m:Nat} {out:List UInt8} (h:Wq G val T m out) (he:aK [93] T=none) (hm:m≠0) (hc:aK [44] T=none):G=none:=by
 rw[h.2,og,he]
 cases 16-m with
 | zero=>rfl
 | succ q=>simp[hm,hc]
theorem Wq.value {G:Got} {val:List UInt8→Got} {T T1:List UInt8} {m:Nat} {out:List UInt8} (h:Wq G val T m out) (he:aK [93] T=none) (hm:m<16) (h1:(m=0∧T1=T)∨(m≠0∧aK [44] T=some T1)) :
  (val T1=none→G=none)∧(∀ v T2,val T1=some (v,T2)→Wq G val T2 (m+1) (out++aO v)):=by
 have h':=h.2
 rw[og,he] at h'
 obtain⟨q,hq⟩:∃ q,16-m=q+1:=⟨15-m,by omega⟩
 rw[hq] at h'
 have ht:(if decide (m=0)=true then some T else aK [44] T)=some T1:=by
  rcases h1 with⟨e1,e2⟩ | ⟨e1,e2⟩
  ·simp[e1,e2]
  ·simp[e1,e2]
 simp only[ht,Option.bind_some] at h'
 refine⟨fun hv=>by rw[h',hv];rfl,fun v T2 hv=>⟨by omega,?_⟩⟩
 rw[h',hv,show 16-(m+1)=q by omega,show decide (m+1=0)=false by simp]
 simp only[Option.bind_some,Option.map_map]
 congr 1
 funext x
 simp
def btw:Bool→ByteArray
 | true=>⟨#[]⟩
 | false=>⟨#[44]⟩
theorem Ws (b:Bool):(btw b).toList=if b then [] else [44]:=by
 cases b
 ·simp only[btw];rw[ByteArray.toList_eq];rfl
 ·simp only[btw];rw[ByteArray.toList_eq];rfl
def JF (G:Got) (val lst:List UInt8→List UInt8→Got) (fs:List FD) (T:List UInt8) (j:Nat) (first:Bool) (out:List UInt8):Prop:=G=(fieldsGo val lst (fs.drop j) first T).map fun x=>(out++x.1,x.2)
theorem JF.shut {G:Got} {val lst:List UInt8→List UInt8→Got} {fs:List FD} {T:List UInt8} {j:Nat} {first:Bool} {out:List UInt8} (h:JF G val lst fs T j first out) (hj:fs.length≤j):G=(aK [125] T).map fun r=>(out,r):=by
 unfold JF at h
 rw[h,List.drop_eq_nil_of_le hj]
 unfold fieldsGo
 cases aK [125] T<;>simp
theorem JF.skip {G:Got} {val lst:List UInt8→List UInt8→Got} {fs:List FD} {T:List UInt8} {j:Nat} {first:Bool} {out:List UInt8} {f:FD} (h:JF G val lst fs T j first out) (hf:fs[j]? = some f) (he:aK ((if first then [] else [44])++f.name++[58]) T=none) (hs:f.shape=1):JF G val lst fs T (j+1) first out:=by
 unfold JF at h ⊢
 have hlt:=iR hf
 rw[h,List.drop_eq_getElem_cons hlt]
 have e:fs[j]=f:=by rw[List.getElem?_eq_getElem hlt] at hf;simpa using hf
 rw[e]
 conv=>lhs;unfold fieldsGo
 rw[he];simp only[if_pos hs]
theorem JF.lack {G:Got} {val lst:List UInt8→List UInt8→Got} {fs:List FD} {T:List UInt8} {j:Nat} {first:Bool} {out:List UInt8} {f:FD} (h:JF G val lst fs T j first out) (hf:fs[j]? = some f) (he:aK ((if first then [] else [44])++f.name++[58]) T=none) (hs:f.shape≠1):G=none:=by
 unfold JF at h
 have hlt:=iR hf
 rw[h,List.drop_eq_getElem_cons hlt]
 have e:fs[j]=f:=by rw[List.getElem?_eq_getElem hlt] at hf;simpa using hf
 rw[e]
 unfold fieldsGo
 rw[he];simp only[if_neg hs];rfl
theorem JF.value {G:Got} {val lst:List UInt8→List UInt8→Got} {fs:List FD} {T T1:List UInt8} {j:Nat} {first:Bool} {out:List UInt8} {f:FD} (h:JF G val lst fs T j first out) (hf:fs[j]? = some f) (he:aK ((if first then [] else [44])++f.name++[58]) T=some T1) :
  ((if f.shape=2 then lst f.base T1 else val f.base T1)=none→G=none)∧(∀ v T2,(if f.shape=2 then lst f.base T1 else val f.base T1)=some (v,T2)→JF G val lst fs T2 (j+1) false ((out++bU f.number)++aO v)):=by
 unfold JF at h ⊢
 have hlt:=iR hf
 rw[List.drop_eq_getElem_cons hlt] at h
 have e:fs[j]=f:=by rw[List.getElem?_eq_getElem hlt] at hf;simpa using hf
 rw[e] at h
 unfold fieldsGo at h
 rw[he] at h
 refine⟨fun hv=>by rw[h];simp only[hv];rfl,fun v T2 hv=>?_⟩
 rw[h]
 simp only[hv,Option.bind_some,Option.map_map]
 congr 1
 funext x
 simp
end Go.Proofs.YtgalebcpagmohaaGreatDoor
