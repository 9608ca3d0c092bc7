/- Package values: the encoder's take, next, isPlain, digit. -/
import Derived.Test.YtdgcamlmjmnpeaaGreatDoorMEncL
import Derived.Test.YtdgcamlmjmnpeaaGreatDoorShelf3
import Derived.Shelf.Strings.SlTrimAscii
import Derived.Laws.Bits64
namespace Go.Proofs.YtdgcamlmjmnpeaaGreatDoor
open Go.RowKit
def Pe (w:World) (eb:Nat) (lv:Value) (t:ByteArray):Prop:=Seg w eb 60 0 [lv,.string t]
theorem Pe.lt {w:World} {eb:Nat} {lv:Value} {t:ByteArray} (h:Pe w eb lv t):eb < w.heap.size:=Seg.lt h
theorem Pe.same {w w':World} {eb:Nat} {lv:Value} {t:ByteArray} (h:Pe w eb lv t) (hb:w'.heap[eb]? = w.heap[eb]?):Pe w' eb lv t:=Seg.same h hb
theorem Pe.put {w:World} {eb:Nat} {lv:Value} {t:ByteArray} (h:Pe w eb lv t) (u:ByteArray):Pe (w.setCell ⟨eb,1,none⟩ (.string u)) eb lv u:=Seg.set h 1 (.string u)
theorem Pe.rest {w:World} {eb:Nat} {lv:Value} {t:ByteArray} (h:Pe w eb lv t):w.cell? ⟨eb,1,none⟩ = some (.string t):=Seg.cell h (j:=1) rfl
theorem Pe.items {w:World} {eb:Nat} {lv:Value} {t:ByteArray} (h:Pe w eb lv t):w.cell? ⟨eb,0,none⟩ = some lv:=Seg.cell h (j:=0) rfl
theorem eat_prefix (p t:List UInt8):(eatP p t).isSome = Lib.hasPrefix t p:=by unfold eatP Lib.hasPrefix;cases p.isPrefixOf t <;> simp
theorem eat_trim (p t:List UInt8):(eatP p t).getD t = Lib.trimPrefix t p:=by unfold eatP Lib.trimPrefix Lib.hasPrefix;cases p.isPrefixOf t <;> simp
theorem cutPrefix_any (t p:ByteArray) (w:World) :
  Calls Tryz.prog 138 #[.string t,.string p] w fun e w'=>∃ t':ByteArray,e = .returned (.tuple #[.string t',.bool (eatP p.toList t.toList).isSome]) ∧ w' = w ∧ t'.toList = (eatP p.toList t.toList).getD t.toList:=by
 refine (Tryz.y_strings_CutPrefix t p w).mono ?_
 rintro e w1 ⟨rfl,rfl⟩
 refine ⟨⟨(Lib.trimPrefix t.data.toList p.data.toList).toArray⟩,?_,rfl,?_⟩
 ·rw [eat_prefix,ByteArray.toList_eq,ByteArray.toList_eq]
 ·rw [eat_trim,ByteArray.toList_eq,ByteArray.toList_eq,ByteArray.toList_eq]
set_option maxHeartbeats 400000 in
theorem isPlain_any (c:Int) (w:World) :
  Calls Tryz.prog 96 #[.int .u8 c] w fun e w'=>e = .returned (.bool (plainI c)) ∧ w' = w:=by
 unfold plainI
 by_cases h1:32 ≤ c
 ·by_cases h2:c ≤ 126
  ·cases h3:(c == 34) <;> cases h4:(c == 92) <;>
   (go_enter Tryz.func96,Tryz.ntmps96
    go_wp2
    all_goals (go_ret;simp_all))
  ·have hd:decide (c ≤ 126) = false:=by simpa using h2
   rw [hd]
   go_enter Tryz.func96,Tryz.ntmps96
   go_wp2
   go_ret
   exact ⟨ret_bool (by simp),rfl⟩
 ·have hd:decide (32 ≤ c) = false:=by simpa using h1
  rw [hd]
  go_enter Tryz.func96,Tryz.ntmps96
  go_wp2
  go_ret
  exact ⟨ret_bool (by simp),rfl⟩
set_option maxRecDepth 100000 in
set_option maxHeartbeats 1000000 in
theorem take_any (w:World) (eb:Nat) (la:Option Addr) (ll lc:Nat) (t p:ByteArray) (h:Pe w eb (.slice la ll lc) t) :
  Calls Tryz.prog 89 #[.pointer (some ⟨eb,0,none⟩),.string p] w fun e w'=>∃ t':ByteArray,e = .returned (.bool (eatP p.toList t.toList).isSome) ∧ But eb w w' ∧ Pe w' eb (.slice la ll lc) t' ∧ t'.toList = (eatP p.toList t.toList).getD t.toList:=by
 have c1:=h.rest
 have hf1:=Seg.frozen h 1
 have H:=hid h
 have HC:=hid (cutPrefix_any t p w)
 clear h
 generalize (eatP p.toList t.toList).isSome = r at *
 generalize (eatP p.toList t.toList).getD t.toList = T at *
 go_enter Tryz.func89,Tryz.ntmps89
 go_wp2_with fail
 refine HC.out.mono ?_;rintro e w1 ⟨t',rfl,rfl,ht'⟩
 have HT:=hid ht'
 clear ht'
 go_wp2_with fail
 go_ret
 exact ⟨t',rfl,(But.refl _ _).setCell _ _,H.out.put t',HT.out⟩
set_option maxRecDepth 100000 in
set_option maxHeartbeats 1000000 in
theorem next_any (w:World) (eb:Nat) (la:Option Addr) (ll lc:Nat) (t:ByteArray) (h:Pe w eb (.slice la ll lc) t) :
  Calls Tryz.prog 140 #[.pointer (some ⟨eb,0,none⟩)] w fun e w'=>(t.toList = [] ∧ e = .returned (.tuple #[.int .u8 0,.bool false]) ∧ w' = w) ∨ ∃ (c:UInt8) (t':ByteArray),t.toList = c :: t'.toList ∧ e = .returned (.tuple #[.int .u8 c.toNat,.bool true]) ∧ But eb w w' ∧ Pe w' eb (.slice la ll lc) t':=by
 have c1:=h.rest
 have hf1:=Seg.frozen h 1
 have H:=hid h
 clear h
 by_cases h0:t.size = 0
 ·have hl:t.toList = []:=by rw [← List.length_eq_zero_iff,size_list];exact h0
  have HL:=hid hl
  have hem:t.toList.isEmpty = true:=by rw [hl];rfl
  clear hl
  go_enter Tryz.func140,Tryz.ntmps140
  go_wp2_with fail
  go_ret2
  exact Or.inl ⟨HL.out,rfl,rfl⟩
 ·have hlt:0 < t.size:=by omega
  have hem:t.toList.isEmpty = false:=by
   cases e:t.toList with
   | nil=>have:=size_list t;rw [e] at this;simp at this;omega
   | cons a r=>rfl
  have HTL:=hid (show t.toList = t[0] :: (t.extract 1 t.size).toList by
   have h1:=tail_cons t 0 hlt
   rw [tail_zero] at h1
   rw [h1,ext_list]
   unfold tailB
   rw [List.take_of_length_le (by rw [List.length_drop,size_list];omega)])
  go_enter Tryz.func140,Tryz.ntmps140
  go_wp2_with fail
  go_ret2
  exact Or.inr ⟨t[0],t.extract 1 t.size,HTL.out,rfl,(But.refl _ _).setCell _ _,H.out.put _⟩
def hexL:List UInt8:=[48,49,50,51,52,53,54,55,56,57,97,98,99,100,101,102]
theorem hex_index (c:UInt8):Lib.indexByte hexL c = hexI (c.toNat:Int):=by
 have all:∀ a:Fin 256,Lib.indexByte hexL (UInt8.ofNat a.val) = hexI ((UInt8.ofNat a.val).toNat:Int):=by decide +kernel
 have:=all ⟨c.toNat,c.toNat_lt⟩
 simpa using this
theorem hexIdx_any (c:UInt8) (z:Int) (hz:z = (c.toNat:Int)) (w:World) :
  Calls Tryz.prog 180 #[.string ⟨#[48,49,50,51,52,53,54,55,56,57,97,98,99,100,101,102]⟩,.int .u8 z] w fun e w'=>e = .returned (.int .i64 (hexI (c.toNat:Int))) ∧ w' = w:=by
 refine (Tryz.y_strings_IndexByte _ z w).mono ?_
 rintro e w1 ⟨rfl,rfl⟩
 refine ⟨?_,rfl⟩
 rw [← hex_index,hz]
 simp [hexL]
def digP (t:List UInt8):Option (Nat × List UInt8):=match t with | []=>none | c :: r=>(hexV c).map fun h=>(h,r)
theorem hexV_lt {c:UInt8} {h:Nat} (e:hexV c = some h):h ≤ 15:=by
 have:=hex_eq c
 rw [e] at this
 rcases hexI_range (c.toNat:Int) with k | k
 ·simp only at this;omega
 ·simp only at this;omega
set_option maxRecDepth 100000 in
set_option maxHeartbeats 1000000 in
theorem pdigit_any (w:World) (eb:Nat) (la:Option Addr) (ll lc:Nat) (t:ByteArray) (h:Pe w eb (.slice la ll lc) t) :
  Calls Tryz.prog 139 #[.pointer (some ⟨eb,0,none⟩)] w fun e w'=>∃ (b:Nat) (ok:Bool) (t':ByteArray),e = .returned (.tuple #[.int .u8 b,.bool ok]) ∧ b ≤ 255 ∧ But eb w w' ∧ Pe w' eb (.slice la ll lc) t' ∧ t'.size ≤ t.size ∧ (match ok with | true=>digP t.toList = some (b,t'.toList) ∧ b ≤ 15 | false=>digP t.toList = none):=by
 have H:=hid h
 clear h
 go_enter Tryz.func139,Tryz.ntmps139
 go_wp2_with fail
 refine (next_any w eb la ll lc t H.out).mono ?_
 rintro e w1 (⟨hnil,rfl,rfl⟩ | ⟨c,t',htl,rfl,hb1,hp1⟩)
 ·have HN:=hid hnil
  clear hnil
  go_wp2_with fail
  refine (hexIdx_any 0 0 rfl _).mono ?_;rintro e w2 ⟨rfl,rfl⟩
  rw [show hexI (((0:UInt8).toNat:Nat):Int) = -1 by decide]
  go_wp2_with fail
  go_ret2
  exact ⟨255,false,t,rfl,by omega,But.refl _ _,H.out,Nat.le_refl _,by rw [HN.out];rfl⟩
 ·have HTL:=hid htl
  have HP1:=hid hp1
  have hsz:t'.size ≤ t.size:=by rw [← size_list,← size_list,htl];simp
  clear htl hp1
  go_wp2_with fail
  refine (hexIdx_any c (c.toNat:Int) rfl _).mono ?_;rintro e w2 ⟨rfl,rfl⟩
  have hx:=hex_eq c
  cases hv:hexV c with
  | none =>
   rw [hv] at hx
   simp only at hx
   rw [← hx]
   have HV:=hid hv
   clear hv hx
   go_wp2_with fail
   go_ret2
   exact ⟨255,false,t',rfl,by omega,hb1,HP1.out,hsz,by rw [HTL.out];simp [digP,HV.out]⟩
  | some q =>
   have hq:=hexV_lt hv
   rw [hv] at hx
   simp only at hx
   rw [← hx]
   have HV:=hid hv
   clear hv hx
   go_wp2_with fail
   go_ret2
   exact ⟨q,true,t',rfl,by omega,hb1,HP1.out,hsz,by rw [HTL.out];simp [digP,HV.out],hq⟩
end Go.Proofs.YtdgcamlmjmnpeaaGreatDoor
namespace Go.Proofs.YtdgcamlmjmnpeaaGreatDoor
open Go.RowKit
def letP (t:List UInt8):Option (UInt8 × List UInt8):=match t with
 | []=>none
 | c :: r=>if c = 92 then (digP r).bind fun x=>(digP x.2).bind fun y=>if plainC (16 * x.1 + y.1).toUInt8 then none else some ((16 * x.1 + y.1).toUInt8,y.2)
  else if plainC c then some (c,r) else none
def LetPost (w:World) (eb:Nat) (lv:Value) (t:ByteArray) (e:Ending) (w':World):Prop :=
 ∃ (bv:Value) (ok:Bool) (t':ByteArray),e = .returned (.tuple #[bv,.bool ok]) ∧ But eb w w' ∧ Pe w' eb lv t' ∧ t'.size ≤ t.size ∧ (match ok with | true=>∃ c:UInt8,bv = .int .u8 c.toNat ∧ letP t.toList = some (c,t'.toList) ∧ t'.size < t.size | false=>letP t.toList = none)
theorem list_inj {a b:ByteArray} (h:a.toList = b.toList):a = b:=by rw [text_eq h,← text_eq (rfl:b.toList = b.toList)]
theorem take_true {c:UInt8} {t t1:ByteArray} (h:(eatP [c] t.toList).isSome = true) (h1:t1.toList = (eatP [c] t.toList).getD t.toList):t.toList = c :: t1.toList:=by
 cases e:eatP [c] t.toList with
 | none=>rw [e] at h;cases h
 | some r =>
  have:=eatP_some e
  rw [e] at h1
  simp only [Option.getD_some] at h1
  rw [this,h1];rfl
theorem take_false {p:List UInt8} {t t1:ByteArray} (h:(eatP p t.toList).isSome = false) (h1:t1.toList = (eatP p t.toList).getD t.toList):t1 = t:=by
 rw [eat_none h] at h1;exact list_inj h1
theorem take_not {c:UInt8} {t:List UInt8} (h:(eatP [c] t).isSome = false) (r:List UInt8):t ≠ c :: r:=by
 intro e;subst e;simp [eatP,List.isPrefixOf] at h
theorem or16 {a b:Nat} (ha:a ≤ 15) (hb:b ≤ 15):bits BinOp.or IntKind.u8 ((a:Int) * 16) (b:Int) = (((16 * a + b).toUInt8).toNat:Int):=by
 have all:∀ a b:Fin 16,bits BinOp.or IntKind.u8 ((a.val:Int) * 16) (b.val:Int) = (((16 * a.val + b.val).toUInt8).toNat:Int):=by decide +kernel
 exact all ⟨a,by omega⟩ ⟨b,by omega⟩
theorem slashB:(ByteArray.mk #[92]).toList = [92]:=by rw [ByteArray.toList_eq]
set_option maxRecDepth 100000 in
set_option maxHeartbeats 1000000 in
theorem letter_any (w:World) (eb:Nat) (la:Option Addr) (ll lc:Nat) (t:ByteArray) (h:Pe w eb (.slice la ll lc) t) :
  Calls Tryz.prog 90 #[.pointer (some ⟨eb,0,none⟩)] w (LetPost w eb (.slice la ll lc) t):=by
 unfold LetPost
 have H:=hid h
 clear h
 go_enter Tryz.func90,Tryz.ntmps90
 go_wp2_with fail
 refine (take_any w eb la ll lc t (ByteArray.mk #[92]) H.out).mono ?_;rintro e w1 ⟨t1,rfl,hb1,hp1,ht1⟩
 rw [slashB] at ht1 ⊢
 have HP1:=hid hp1
 have HT1:=hid ht1
 clear hp1 ht1
 cases hr:(eatP [92] t.toList).isSome with
 | true =>
  have HR:=hid hr
  clear hr
  go_wp2_with fail
  refine (pdigit_any w1 eb la ll lc t1 HP1.out).mono ?_;rintro e w2 ⟨b2,ok2,t2,rfl,hb2l,hb2,hp2,hs2,hm2⟩
  have HP2:=hid hp2
  have HM2:=hid hm2
  clear hp2 hm2
  go_wp2_with fail
  refine (pdigit_any w2 eb la ll lc t2 HP2.out).mono ?_;rintro e w3 ⟨b3,ok3,t3,rfl,hb3l,hb3,hp3,hs3,hm3⟩
  have HP3:=hid hp3
  have HM3:=hid hm3
  clear hp3 hm3
  have HTT:=hid (take_true HR.out HT1.out)
  have hs1:t1.size < t.size:=by rw [← size_list,← size_list t,HTT.out];simp
  have hbut:=(hb1.trans hb2).trans hb3
  cases ok2 with
  | false =>
   go_wp2_with fail
   go_ret2
   exact ⟨_,false,t3,rfl,hbut,HP3.out,by omega,by rw [HTT.out];simp [letP,show digP t1.toList = none from HM2.out]⟩
  | true =>
   have hd2:digP t1.toList = some (b2,t2.toList) ∧ b2 ≤ 15:=HM2.out
   have HD2:=hid hd2.1
   have hb15:=hd2.2
   clear hd2
   cases ok3 with
   | false =>
    go_wp2_with fail
    go_ret2
    exact ⟨_,false,t3,rfl,hbut,HP3.out,by omega,by rw [HTT.out];simp [letP,HD2.out,show digP t2.toList = none from HM3.out]⟩
   | true =>
    have hd3:digP t2.toList = some (b3,t3.toList) ∧ b3 ≤ 15:=HM3.out
    have HD3:=hid hd3.1
    have hb15':=hd3.2
    clear hd3
    go_wp2_with fail
    rw [or16 hb15 hb15']
    have HLP:=hid (show letP t.toList = if plainC (16 * b2 + b3).toUInt8 then none else some ((16 * b2 + b3).toUInt8,t3.toList) by rw [HTT.out];simp [letP,HD2.out,HD3.out])
    generalize (16 * b2 + b3).toUInt8 = c at *
    refine (isPlain_any _ _).mono ?_;rintro e w4 ⟨rfl,rfl⟩
    rw [← plain_eq]
    cases hp:plainC c with
    | true =>
     have HPL:=hid hp
     clear hp
     go_wp2_with fail
     go_ret2
     exact ⟨_,false,t3,rfl,hbut,HP3.out,by omega,by show letP t.toList = none;rw [HLP.out,HPL.out];rfl⟩
    | false =>
     have HPL:=hid hp
     clear hp
     go_wp2_with fail
     go_ret2
     exact ⟨_,true,t3,rfl,hbut,HP3.out,by omega,c,rfl,by rw [HLP.out,HPL.out];rfl,by omega⟩
 | false =>
  have HR:=hid hr
  clear hr
  go_wp2_with fail
  refine (next_any w1 eb la ll lc t1 HP1.out).mono ?_
  have hte:t1 = t:=take_false HR.out HT1.out
  subst hte
  rintro e w2 (⟨hnil,rfl,rfl⟩ | ⟨c,t2,htl,rfl,hb2,hp2⟩)
  ·have HN:=hid hnil
   clear hnil
   go_wp2_with fail
   go_ret2
   exact ⟨_,false,t1,rfl,hb1,HP1.out,Nat.le_refl _,by show letP t1.toList = none;rw [HN.out];rfl⟩
  ·have HTL:=hid htl
   have HP2:=hid hp2
   have hs2:t2.size < t1.size:=by rw [← size_list,← size_list t1,htl];simp
   have HC:=hid (show c ≠ 92 from fun e=>take_not HR.out t2.toList (by rw [htl,e]))
   have HLP:=hid (show letP t1.toList = if plainC c then some (c,t2.toList) else none by rw [htl];unfold letP;simp only;rw [if_neg HC.out])
   clear htl hp2
   go_wp2_with fail
   refine (isPlain_any _ _).mono ?_;rintro e w4 ⟨rfl,rfl⟩
   rw [← plain_eq]
   cases hp:plainC c with
   | true =>
    have HPL:=hid hp
    clear hp
    go_wp2_with fail
    go_ret2
    exact ⟨_,true,t2,rfl,hb1.trans hb2,HP2.out,by omega,c,rfl,by rw [HLP.out,HPL.out];rfl,by omega⟩
   | false =>
    have HPL:=hid hp
    clear hp
    go_wp2_with fail
    go_ret2
    exact ⟨_,false,t2,rfl,hb1.trans hb2,HP2.out,by omega,by show letP t1.toList = none;rw [HLP.out,HPL.out];rfl⟩
end Go.Proofs.YtdgcamlmjmnpeaaGreatDoor
namespace Go.Proofs.YtdgcamlmjmnpeaaGreatDoor
open Go.RowKit
def PPost (spec:List UInt8 → Got) (w:World) (eb:Nat) (lv:Value) (t:ByteArray) (e:Ending) (w':World):Prop :=
 ∃ (a:Option Addr) (c:Nat) (out:List UInt8) (t':ByteArray) (ok:Bool),e = .returned (.tuple #[.slice a out.length c,.bool ok]) ∧ Bys w' w.heap.size (.slice a out.length c) out ∧ But eb w w' ∧ Pe w' eb lv t' ∧ t'.size ≤ t.size ∧ out.length ≤ 2 * (t.size - t'.size) ∧
  spec t.toList = (match ok with | true=>some (out,t'.toList) | false=>none)
theorem Pe.grew {w wx w':World} {eb:Nat} {lv:Value} {t:ByteArray} {lo:Nat} {v v':Value} {L:List UInt8} (h:Pe w eb lv t) (hb:Below w.heap.size w wx) (hB:Bys w lo v L) (hg:Grew wx w' v v'):Pe w' eb lv t :=
 h.same ((hg.g.block eb (Nat.lt_of_lt_of_le h.lt hb.size) (fun e=>own_seg_ne hB h (by decide) e.symm rfl)).trans (hb.block eb h.lt))
theorem lettersG_step {t:List UInt8} (h:∀ r,t ≠ 34 :: r):lettersG t = (letP t).bind fun x=>(lettersG x.2).map fun z=>(x.1 :: z.1,z.2):=by
 match t,h with
 | [],_=>rw [lettersG_nil];rfl
 | c :: r,h =>
  have h34:c ≠ 34:=fun e=>h r (by rw [e])
  by_cases h92:c = 92
  ·subst h92
   match r with
   | []=>rw [lettersG_short _ (by simp)];rfl
   | [a] =>
    rw [lettersG_short _ (by simp)]
    cases hv:hexV a <;> simp [letP,digP,hv]
   | a :: b :: r' =>
    rw [lettersG_hex]
    cases ha:hexV a with
    | none=>simp [letP,digP,ha]
    | some x =>
     cases hb:hexV b with
     | none=>simp [letP,digP,ha,hb]
     | some y =>
      simp only [letP,digP,ha,hb,↓reduceIte,Option.map_some,Option.bind_some]
      generalize (16 * x + y).toUInt8 = z
      cases plainC z <;> simp
  ·cases hp:plainC c with
   | true=>rw [lettersG_plain _ hp];simp [letP,h92,hp]
   | false=>rw [lettersG_bad _ hp h34 h92];simp [letP,h92,hp]
set_option maxRecDepth 100000 in
set_option maxHeartbeats 1000000 in
theorem letters_any (w:World) (eb:Nat) (la:Option Addr) (ll lc:Nat) (t:ByteArray) (h:Pe w eb (.slice la ll lc) t) (hs:t.size ≤ 400) :
  Calls Tryz.prog 51 #[.pointer (some ⟨eb,0,none⟩)] w (PPost textP w eb (.slice la ll lc) t):=by
 unfold PPost
 have H:=hid h
 clear h
 go_enter Tryz.func51,Tryz.ntmps51
 go_wp2_with fail
 refine (take_any w eb la ll lc t (ByteArray.mk #[34]) H.out).mono ?_;rintro e w1 ⟨t1,rfl,hb1,hp1,ht1⟩
 rw [quoteB] at ht1 ⊢
 have HP1:=hid hp1
 have HT1:=hid ht1
 clear hp1 ht1
 cases hr:(eatP [34] t.toList).isSome with
 | false =>
  have HR:=hid hr
  clear hr
  have hte:t1 = t:=take_false HR.out HT1.out
  subst hte
  go_wp2_with fail
  go_ret2
  exact ⟨none,0,[],t1,false,rfl,World.ownsRow_nil _ _ _ _,hb1,HP1.out,Nat.le_refl _,by simp,by unfold textP;rw [eat_none HR.out];rfl⟩
 | true =>
  have HR:=hid hr
  clear hr
  have HTT:=hid (take_true HR.out HT1.out)
  have hs1:t1.size < t.size:=by rw [← size_list,← size_list t,HTT.out];simp
  have HG:=hid (show textP t.toList = lettersG t1.toList by unfold textP;rw [HTT.out];rfl)
  have hz1:=hb1.size
  go_wp2_with fail
  go_loopg [4,5,6] (t1.size + 1) (fun gk d4 b5 o6 wr=>∃ (out:List UInt8) (tr:ByteArray),tr.size < gk ∧ tr.size ≤ t1.size ∧ out.length + tr.size ≤ t1.size ∧ Hid (Pe wr eb (.slice la ll lc) tr) ∧ Hid (Bys wr w.heap.size d4 out) ∧ But eb w wr ∧ Hid (textP t.toList = (lettersG tr.toList).map fun z=>(out ++ z.1,z.2)))
  case atStart=>exact ⟨[],t1,by omega,Nat.le_refl _,by simp,hid HP1.out,hid (World.ownsRow_nil _ _ _ _),hb1,hid (by rw [HG.out];simp)⟩
  case round =>
   obtain ⟨out,tr,hm,hle,hol,HP,HB,hbut,HS⟩:=hrel
   obtain ⟨oa,oc,hov⟩:∃ a c,u4 = .slice a out.length c:=own_slice HB.out
   subst hov
   go_wp2_with fail
   refine (take_any _ eb la ll lc tr (ByteArray.mk #[34]) HP.out).mono ?_;rintro e w2 ⟨t2,rfl,hb2,hp2,ht2⟩
   rw [quoteB] at ht2 ⊢
   have HP2:=hid hp2
   have HT2:=hid ht2
   have HB2:=hid (HB.out.but (show Seg _ _ _ _ _ from HP.out) (by decide) hb2)
   have hbut2:=hbut.trans hb2
   clear hp2 ht2
   cases hr2:(eatP [34] tr.toList).isSome with
   | true =>
    have HTT2:=hid (take_true hr2 HT2.out)
    have hs2:t2.size < tr.size:=by rw [← size_list,← size_list tr,HTT2.out];simp
    clear hr2
    go_wp2_with fail
    go_ret2
    exact ⟨oa,oc,out,t2,true,rfl,HB2.out,hbut2,HP2.out,by omega,by omega,by rw [HS.out,HTT2.out,lettersG_end];simp⟩
   | false =>
    have hte:t2 = tr:=take_false hr2 HT2.out
    subst hte
    have HST:=hid (lettersG_step (take_not hr2))
    clear hr2
    go_wp2_with fail
    refine (letter_any _ eb la ll lc t2 HP2.out).mono ?_;rintro e w3 ⟨bv,ok3,t3,rfl,hb3,hp3,hs3,hm3⟩
    have HP3:=hid hp3
    have HM3:=hid hm3
    have HB3:=hid (HB2.out.but (show Seg _ _ _ _ _ from HP2.out) (by decide) hb3)
    have hbut3:=hbut2.trans hb3
    clear hp3 hm3
    cases ok3 with
    | false =>
     go_wp2_with fail
     go_ret2
     exact ⟨none,0,[],t3,false,rfl,World.ownsRow_nil _ _ _ _,hbut3,HP3.out,by omega,by simp,by rw [HS.out,HST.out,show letP t2.toList = none from HM3.out];rfl⟩
    | true =>
     obtain ⟨c,rfl,hlp,hlt⟩:∃ c:UInt8,bv = .int .u8 c.toNat ∧ letP t2.toList = some (c,t3.toList) ∧ t3.size < t2.size:=HM3.out
     have HLP:=hid hlp
     clear hlp HM3
     have hz3:=hbut3.size
     go_wp2_with (at_builtin;refine wpList_append_by _ rfl _ _ rfl _ out w.heap.size rfl (HB3.out.same ((Below.refl _ _).alloc (Nat.le_refl _) _)) _ [c] _ rfl (bys_one _ _ _ rfl) (by simp;omega) (by simp;omega) ?_)
     intro a4 c4 w4 hb4 hg4
     have HP4:=hid (HP3.out.grew ((Below.refl _ _).alloc (Nat.le_refl _) _) HB3.out hg4)
     have hbut4:=hbut3.grew ((Below.refl _ _).alloc (Nat.le_refl _) _) HB3.out hg4
     have HB4:=hid hb4
     clear hb4 hg4
     go_wp2_with fail
     go_roundg (gk - 1)
     case rel=>exact ⟨out ++ [c],t3,by omega,by omega,by rw [List.length_append,List.length_singleton];omega,hid HP4.out,hid (by simpa using HB4.out),hbut4,hid (by rw [HS.out,HST.out,HLP.out];simp [Option.map_map,Function.comp_def])⟩
     case measure=>omega
end Go.Proofs.YtdgcamlmjmnpeaaGreatDoor
namespace Go.Proofs.YtdgcamlmjmnpeaaGreatDoor
open Go.RowKit
theorem trimLeft_any (s cut:ByteArray) (w:World) (hcs:cut.size < 4294967281) (hascii:∀ (j:Nat) b,cut.data.toList[j]? = some b → b.toNat < 128) :
  Calls Tryz.prog 135 #[.string s,.string cut] w fun e w'=>e = .returned (.string ⟨(Lib.trimLeftS s.data.toList cut.data.toList).toArray⟩) ∧ Below w.heap.size w w' :=
 Any.strings_TrimLeft_laid Tryz.z_lays161 (by kernel_rfl) s cut w hcs hascii
theorem dropWhile_len {p:UInt8 → Bool} (l:List UInt8):(l.dropWhile p).length = l.length - (l.takeWhile p).length:=by
 have:=congrArg List.length (List.takeWhile_append_dropWhile (p:=p) (l:=l))
 rw [List.length_append] at this;omega
set_option maxRecDepth 100000 in
set_option maxHeartbeats 1000000 in
theorem prun_any (w:World) (eb:Nat) (la:Option Addr) (ll lc:Nat) (t cut:ByteArray) (p:UInt8 → Bool) (h:Pe w eb (.slice la ll lc) t) (hs:t.size ≤ 400) (hcs:cut.size < 4294967281) (hascii:∀ (j:Nat) b,cut.data.toList[j]? = some b → b.toNat < 128) (hp:∀ c,cut.data.toList.contains c = p c) :
  Calls Tryz.prog 84 #[.pointer (some ⟨eb,0,none⟩),.string cut] w fun e w'=>∃ r t':ByteArray,e = .returned (.string r) ∧ But eb w w' ∧ Pe w' eb (.slice la ll lc) t' ∧ r.toList = t.toList.takeWhile p ∧ t'.toList = t.toList.dropWhile p:=by
 have c1:=h.rest
 have hf1:=Seg.frozen h 1
 have hel:=h.lt
 have H:=hid h
 clear h
 obtain ⟨k,hk⟩:∃ k,(t.toList.takeWhile p).length = k:=⟨_,rfl⟩
 have hkt:k ≤ t.size:=by rw [← hk,← size_list];exact (List.takeWhile_sublist (p:=p)).length_le
 have HTW:=hid (show (t.extract 0 k).toList = t.toList.takeWhile p by rw [ext_list,← hk];simpa using (takeWhile_take (p:=p) t.toList).1)
 have HDW:=hid (show (t.extract k t.size).toList = t.toList.dropWhile p by rw [ext_list,← hk,(takeWhile_take (p:=p) t.toList).2,List.take_of_length_le (by rw [dropWhile_len,size_list];omega)])
 obtain ⟨m,hm⟩:∃ m,t.size - k = m:=⟨_,rfl⟩
 have HTM:=hid (show ∀ w',Below w.heap.size w w' → Calls Tryz.prog 135 #[.string t,.string cut] w' (fun e w''=>∃ u:ByteArray,e = .returned (.string u) ∧ u.size = m ∧ Below w.heap.size w w'') from fun w' hw'=>(trimLeft_any t cut w' hcs hascii).mono (fun e w'' hh=>⟨_,hh.1,by
  have hpp:(cut.data.toList.contains ·) = p:=funext hp
  show (Lib.trimLeftS t.data.toList cut.data.toList).toArray.size = _
  unfold Lib.trimLeftS
  rw [List.size_toArray,hpp,← ByteArray.toList_eq,dropWhile_len,size_list,hk,hm],hw'.trans (hh.2.mono hw'.size)⟩))
 have HKP:=hid (show ∀ w',Below w.heap.size w w' → w'.cell? ⟨eb,1,none⟩ = some (.string t) from fun w' hw'=>(World.cell?_of_block (w:=w) (hw'.block eb hel)).trans c1)
 have hx1:(t.size:Int) - (m:Int) = (k:Int):=by omega
 have hx3:(0:Int) ≤ (k:Int):=by omega
 have hx4:(k:Int) ≤ (t.size:Int):=by omega
 have hx5:k ≤ 400:=by omega
 have hw1:IntKind.i64.wrap (k:Int) = (k:Int):=by rw [IntKind.wrap_i64];omega
 have hw2:IntKind.i64.wrap ((t.size:Int) - (m:Int)) = (k:Int):=by rw [IntKind.wrap_i64];omega
 clear hk hp hascii hcs hm
 go_enter Tryz.func84,Tryz.ntmps84
 go_wp2_with fail
 go_region_held3 (fun w'=>w'.cell? ⟨eb,1,none⟩ = some (.string t))
  (exact HKP.out _ (by repeat (first | with_reducible assumption | with_reducible exact Below.refl _ _ | with_reducible apply Below.drew)))
  (first | (go_at_call 135;refine (HTM.out _ (by repeat (first | with_reducible assumption | with_reducible exact Below.refl _ _ | with_reducible apply Below.drew))).mono ?_;rintro e w1 ⟨u,rfl,hu,hb1⟩;have hw3:IntKind.i64.wrap ((t.size:Int) - (u.size:Int)) = (k:Int):=(by rw [hu];exact hw2)))
 have HP1:=hid (H.out.same (hb1.block eb hel))
 have f1:=HP1.out.rest
 have ff1:=Seg.frozen HP1.out 1
 have hex:(t.extract 0 k).size = k:=by rw [ByteArray.size_extract];omega
 generalize t.extract 0 k = r at HTW hex ⊢
 clear c1 hf1
 go_wp2_with fail
 go_ret
 exact ⟨r,t.extract k t.size,rfl,(But.ofBelow hb1).setCell _ _,HP1.out.put _,HTW.out,HDW.out⟩
def intS:ByteArray:=⟨#[45,48,49,50,51,52,53,54,55,56,57]⟩
def nameS:ByteArray:=⟨#[97,98,99,100,101,102,103,104,105,106,107,108,109,110,111,112,113,114,115,116,117,118,119,120,121,122,48,49,50,51,52,53,54,55,56,57]⟩
theorem intS_has (c:UInt8):intS.data.toList.contains c = intC c:=by
 have all:∀ a:Fin 256,intS.data.toList.contains (UInt8.ofNat a.val) = intC (UInt8.ofNat a.val):=by decide +kernel
 have:=all ⟨c.toNat,c.toNat_lt⟩
 simpa using this
theorem nameS_has (c:UInt8):nameS.data.toList.contains c = nameC c:=by
 have all:∀ a:Fin 256,nameS.data.toList.contains (UInt8.ofNat a.val) = nameC (UInt8.ofNat a.val):=by decide +kernel
 have:=all ⟨c.toNat,c.toNat_lt⟩
 simpa using this
theorem runInt_any (w:World) (eb:Nat) (la:Option Addr) (ll lc:Nat) (t:ByteArray) (h:Pe w eb (.slice la ll lc) t) (hs:t.size ≤ 400) :
  Calls Tryz.prog 84 #[.pointer (some ⟨eb,0,none⟩),.string intS] w fun e w'=>∃ r t':ByteArray,e = .returned (.string r) ∧ But eb w w' ∧ Pe w' eb (.slice la ll lc) t' ∧ r.toList = t.toList.takeWhile intC ∧ t'.toList = t.toList.dropWhile intC :=
 prun_any w eb la ll lc t intS intC h hs (by decide) (ascii_of_all (by decide)) intS_has
theorem runName_any (w:World) (eb:Nat) (la:Option Addr) (ll lc:Nat) (t:ByteArray) (h:Pe w eb (.slice la ll lc) t) (hs:t.size ≤ 400) :
  Calls Tryz.prog 84 #[.pointer (some ⟨eb,0,none⟩),.string nameS] w fun e w'=>∃ r t':ByteArray,e = .returned (.string r) ∧ But eb w w' ∧ Pe w' eb (.slice la ll lc) t' ∧ r.toList = t.toList.takeWhile nameC ∧ t'.toList = t.toList.dropWhile nameC :=
 prun_any w eb la ll lc t nameS nameC h hs (by decide) (ascii_of_all (by decide)) nameS_has
end Go.Proofs.YtdgcamlmjmnpeaaGreatDoor
namespace Go.Proofs.YtdgcamlmjmnpeaaGreatDoor
open Go.RowKit
theorem idx_find (x:ByteArray):∀ (zs:List ByteArray) (i:Nat),Lib.idxFromS zs x i = match (zs.map ByteArray.toList).findIdx? (fun n=>n == x.toList) with | some j=>((i + j:Nat):Int) | none=>-1
 | [],i=>by simp [Lib.idxFromS]
 | z :: zs,i=>by
  unfold Lib.idxFromS
  rw [List.map_cons,List.findIdx?_cons]
  by_cases h:z = x
  ·subst h;simp
  ·have h':(z.toList == x.toList) = false:=by
    cases e:(z.toList == x.toList) with
    | false=>rfl
    | true=>exact absurd (list_inj (by simpa using e)) h
   rw [h']
   have:=idx_find x zs (i + 1)
   simp only [Bool.false_eq_true,if_false]
   rw [if_neg (by first | exact h | (intro e;exact h e.symm) | simpa using h),this]
   cases (zs.map ByteArray.toList).findIdx? (fun n=>n == x.toList) with
   | none=>rfl
   | some j=>simp only [Option.map_some];congr 1;omega
theorem sIdx_any (w:World) (lo:Nat) (na:Option Addr) (nc:Nat) (names:List ByteArray) (r:ByteArray) (h:w.ownsRow lo 9 1 (.slice na names.length nc) names.length (names.map strCell)) (hnl:names.length ≤ 400) :
  Calls Tryz.prog 88 #[.slice na names.length nc,.string r] w fun e w'=>e = .returned (.int .i64 (Lib.idxFromS names r 0)) ∧ w' = w:=by
 by_cases h0:0 < names.length
 ·obtain ⟨g,cap,hv,_,_⟩:=own_form h h0
  obtain ⟨rfl,rfl⟩:na = some ⟨g,0,none⟩ ∧ nc = cap:=by simpa using hv
  refine (Tryz.y_slices_Index_string g 0 names.length nc names r w (Nat.le_refl _) (by omega) (fun j hj=>?_)).mono (fun e w' hh=>⟨by rw [hh.1,List.take_length];rfl,hh.2⟩)
  have:=h.cellAt j (by omega)
  rw [List.getElem?_map,List.getElem?_eq_getElem hj] at this
  rw [Nat.zero_add,List.getD_eq_getElem?_getD,List.getElem?_eq_getElem hj]
  exact this
 ·have:names = []:=List.eq_nil_of_length_eq_zero (by omega)
  subst this
  exact Tryz.y_slices_Index_string_empty na nc r w
set_option maxRecDepth 100000 in
set_option maxHeartbeats 1000000 in
theorem choice_any (w:World) (eb lo:Nat) (la:Option Addr) (ll lc:Nat) (t:ByteArray) (nv:Value) (names:List ByteArray) (h:Pe w eb (.slice la ll lc) t) (hs:t.size ≤ 400) (hn:w.ownsRow lo 9 1 nv names.length (names.map strCell)) (hnl:names.length ≤ 400) (hne:∀ n ∈ names,1 ≤ n.size) :
  Calls Tryz.prog 50 #[.pointer (some ⟨eb,0,none⟩),nv] w (PPost (choP nameC (names.map ByteArray.toList)) w eb (.slice la ll lc) t):=by
 unfold PPost
 obtain ⟨na,nc,hnv⟩:∃ a c,nv = .slice a names.length c:=own_slice hn
 subst hnv
 have H:=hid h
 have HN:=hid hn
 have HNE:=hid hne
 clear h hn hne
 go_enter Tryz.func50,Tryz.ntmps50
 go_wp2_with fail
 refine (runName_any w eb la ll lc t H.out hs).mono ?_;rintro e w1 ⟨r,t1,rfl,hb1,hp1,hr1,ht1⟩
 have HP1:=hid hp1
 have HR1:=hid hr1
 have HT1:=hid ht1
 have HN1:=hid (own_same HN.out (fun g hg=>hb1.block g (HN.out.lt g hg).2 (own_seg_ne HN.out H.out (by decide) hg)))
 have hsz:r.size + t1.size = t.size:=by
  rw [← size_list,← size_list t1,← size_list t,hr1,ht1,← List.length_append,List.takeWhile_append_dropWhile]
 have hz1:=hb1.size
 clear hp1 hr1 ht1
 go_wp2_with fail
 refine (sIdx_any w1 lo na nc names r HN1.out hnl).mono ?_;rintro e w2 ⟨rfl,rfl⟩
 rw [idx_find]
 have HCH:=hid (show choP nameC (names.map ByteArray.toList) t.toList = ((names.map ByteArray.toList).findIdx? (fun n=>n == r.toList)).map fun i=>(vint i,t1.toList) by unfold choP;rw [HR1.out,HT1.out])
 cases hf:(names.map ByteArray.toList).findIdx? (fun n=>n == r.toList) with
 | none =>
  have HF:=hid hf
  clear hf
  simp only
  go_wp2_with fail
  go_ret2
  exact ⟨none,0,[],t1,false,rfl,World.ownsRow_nil _ _ _ _,hb1,HP1.out,by omega,by simp,by rw [HCH.out,HF.out];rfl⟩
 | some j =>
  have HF:=hid hf
  have hj:j < names.length:=by
   have:=(List.findIdx?_eq_some_iff_getElem.1 hf).1
   rw [List.length_map] at this;exact this
  have hrs:1 ≤ r.size:=by
   obtain ⟨h1,h2,_⟩:=List.findIdx?_eq_some_iff_getElem.1 hf
   rw [List.getElem_map] at h2
   have h3:(names[j]'hj).toList = r.toList:=by simpa using h2
   rw [← size_list,← h3,size_list]
   exact HNE.out _ (List.getElem_mem hj)
  clear hf
  simp only [Nat.zero_add]
  go_wp2_with fail
  refine (numAppend_any w2 w.heap.size (.slice none 0 0) [] j (World.ownsRow_nil _ _ _ _) (by omega) (by simp) hz1).mono ?_;rintro e w5 ⟨a5,c5,rfl,hb5,hg5⟩
  have hbe5:Below w2.heap.size w2 w5:=hg5.below (fun k hk=>by cases hk) (Nat.le_refl _)
  rw [List.nil_append] at hb5 ⊢
  have HB5:=hid hb5
  have hvl:(vint j).length ≤ 2:=vint_len 1 j (by have:(128:Nat) ^ (1 + 1) = 16384:=(by decide);omega)
  clear hb5 hg5
  go_wp2_with fail
  go_ret2
  exact ⟨a5,c5,vint j,t1,true,rfl,HB5.out,hb1.trans (But.ofBelow hbe5),HP1.out.same (hbe5.block eb HP1.out.lt),by omega,by omega,by rw [HCH.out,HF.out];rfl⟩
end Go.Proofs.YtdgcamlmjmnpeaaGreatDoor
namespace Go.Proofs.YtdgcamlmjmnpeaaGreatDoor
open Go.RowKit
theorem not64 (b:Nat) (h:b < 18446744073709551616):18446744073709551615 ^^^ b = 18446744073709551615 - b:=by
 have h1:=BitVec.toNat_xor (BitVec.allOnes 64) (BitVec.ofNat 64 b)
 rw [BitVec.allOnes_xor,BitVec.toNat_not,BitVec.toNat_allOnes,BitVec.toNat_ofNat,Nat.mod_eq_of_lt (show b < 2 ^ 64 by omega)] at h1
 exact h1.symm
theorem zig_neg {n:Int} (h:n < 0) (h1:-9223372036854775808 ≤ n):bits BinOp.xor IntKind.u64 IntKind.u64.max (IntKind.u64.wrap (IntKind.u64.wrap n * 2)) = (zigN n:Int):=by
 obtain ⟨b,hb⟩:∃ b:Nat,IntKind.u64.wrap (IntKind.u64.wrap n * 2) = (b:Int) ∧ (b:Int) = 2 * n + 18446744073709551616:=⟨(2 * n + 18446744073709551616).toNat,by rw [IntKind.wrap_u64,IntKind.wrap_u64];omega,by omega⟩
 rw [hb.1,show IntKind.u64.max = ((18446744073709551615:Nat):Int) by decide,bits_xor_u64_nat _ _ (by omega) (by omega),not64 b (by omega)]
 unfold zigN;rw [if_pos h];omega
def okOf (l:List UInt8):Option Int:=match Lib.parseIntB 64 l with | .ok v=>some v | _=>none
theorem parseInt_any (s:ByteArray) (w:World) (hs:s.size ≤ 400) (hE:Env w) :
  Calls Tryz.prog 85 #[.string s,.int .i64 10,.int .i64 64] w fun e w'=>Below w.heap.size w w' ∧ ((∃ v,okOf s.toList = some v ∧ e = .returned (.tuple #[.int .i64 v,.nilIface])) ∨ (okOf s.toList = none ∧ ∃ (v:Int) (N:Nat) (T:TypeId),e = .returned (.tuple #[.int .i64 v,.iface T (.pointer (some ⟨N,0,none⟩))]))):=by
 obtain ⟨te,pe,hsx⟩:=hE.v.sx
 obtain ⟨te2,pe2,hrg⟩:=hE.v.rg
 unfold okOf
 rw [ByteArray.toList_eq]
 cases h:Lib.parseIntB 64 s.data.toList with
 | ok v =>
  refine (Tryz.y_strconv_ParseInt_10_at64_ok s (by omega) v h w).mono ?_
  rintro e w1 ⟨rfl,hw1⟩
  refine ⟨?_,Or.inl ⟨v,rfl,rfl⟩⟩
  rcases hw1 with rfl | ⟨t,rfl⟩
  ·exact Below.refl _ _
  ·exact Joins.below_bytesWorld _ _ _ _ (Nat.le_refl _)
 | range =>
  refine (Tryz.y_strconv_ParseInt_10_at64_range s (by omega) h _ w hrg (Or.inr ⟨te2,pe2,rfl⟩)).mono ?_
  rintro e w1 ⟨N,rfl,_,_,hb⟩
  exact ⟨hb,Or.inr ⟨rfl,_,N,_,rfl⟩⟩
 | _ =>
  refine (Tryz.y_strconv_ParseInt_10_at64_no s (by omega) ⟨fun v hh => (by rw [h] at hh; cases hh),fun hh => (by rw [h] at hh; cases hh)⟩ _ w hsx (Or.inr ⟨te,pe,rfl⟩)).mono ?_
  rintro e w1 ⟨N,rfl,_,_,hb⟩
  exact ⟨hb,Or.inr ⟨rfl,_,N,_,rfl⟩⟩
set_option maxRecDepth 100000 in
set_option maxHeartbeats 1000000 in
theorem pinteger_any (w:World) (eb:Nat) (la:Option Addr) (ll lc:Nat) (t:ByteArray) (h:Pe w eb (.slice la ll lc) t) (hs:t.size ≤ 400) (hE:Env w) (hO:Own eb) :
  Calls Tryz.prog 49 #[.pointer (some ⟨eb,0,none⟩)] w (PPost (intP intC) w eb (.slice la ll lc) t):=by
 unfold PPost
 have H:=hid h
 have HE:=hid hE
 clear h hE
 go_enter Tryz.func49,Tryz.ntmps49
 go_wp2_with fail
 refine (runInt_any w eb la ll lc t H.out hs).mono ?_;rintro e w1 ⟨r,t1,rfl,hb1,hp1,hr1,ht1⟩
 have HP1:=hid hp1
 have HSP:=hid (show intP intC t.toList = (intOf r.toList).map fun n=>(vint (zigN n),t1.toList) by unfold intP;rw [hr1,ht1])
 have hsz:r.size + t1.size = t.size:=by
  rw [← size_list,← size_list t1,← size_list t,hr1,ht1,← List.length_append,List.takeWhile_append_dropWhile]
 have HE1:=hid (HE.out.but hb1 hO)
 clear hp1 hr1 ht1
 go_wp2_with fail
 refine (parseInt_any r w1 (by omega) HE1.out).mono ?_
 rintro e w2 ⟨hb2,⟨n,hok,rfl⟩ | ⟨hno,v,N,T,rfl⟩⟩
 ·have HOK:=hid hok
  have hb02:=hb1.trans (But.ofBelow hb2)
  have HP2:=hid (HP1.out.same (hb2.block eb HP1.out.lt))
  have HE2:=hid (HE1.out.below hb2)
  clear hok
  have hz2:=hb02.size
  have hin:In64 n:=parse_in (t:=r.toList) (by
   have:=HOK.out
   unfold okOf at this
   cases h:Lib.parseIntB 64 r.toList with
   | ok v=>rw [h] at this;simp only [Option.some.injEq] at this;rw [this]
   | range=>rw [h] at this;cases this
   | _=>rw [h] at this;cases this)
  obtain ⟨hi1,hi2⟩:=hin
  go_wp2_with fail
  refine (Tryz.y_strconv_FormatInt_10 n hi1 hi2 _ HE2.out.t).mono ?_;rintro e w3 ⟨rfl,kk,os,hw3⟩
  have hbw3:Below w2.heap.size w2 w3:=by rw [hw3];exact below_grow _ _ _
  have HP3:=hid (HP2.out.same (hbw3.block eb HP2.out.lt))
  have hb3:=hb02.trans (But.ofBelow hbw3)
  have hz3:=hb3.size
  clear hw3 hbw3
  have hfl:(ByteArray.mk (Lib.itoa n).toArray).toList = Lib.itoa n:=by rw [ByteArray.toList_eq]
  generalize ByteArray.mk (Lib.itoa n).toArray = fb at *
  have HIO:=hid (show intOf r.toList = if Lib.itoa n = r.toList then some n else none from by
   have:=HOK.out
   unfold okOf at this
   unfold intOf
   cases h:Lib.parseIntB 64 r.toList with
   | ok v=>rw [h] at this;simp only [Option.some.injEq] at this;rw [this]
   | range=>rw [h] at this;cases this
   | _=>rw [h] at this;cases this)
  rw [← hfl] at HIO
  cases heq:(fb.toList == r.toList) with
  | false =>
   have HS:=hid (show intOf r.toList = none by rw [HIO.out,if_neg (by simpa using heq)])
   have hne:(fb.toList != r.toList) = true:=by simpa using heq
   clear hfl
   go_wp2_with fail
   go_ret2
   exact ⟨none,0,[],t1,false,rfl,World.ownsRow_nil _ _ _ _,hb3,HP3.out,by omega,by simp,by rw [HSP.out,HS.out];rfl⟩
  | true =>
   have HS:=hid (show intOf r.toList = some n by rw [HIO.out,if_pos (by simpa using heq)])
   have hne:(fb.toList != r.toList) = false:=by simp at heq ⊢;exact heq
   have HSN:=hid (show intP intC t.toList = some (vint (zigN n),t1.toList) by rw [HSP.out,HS.out];rfl)
   have hlw:=vint_int (n:=n) hi1 hi2
   rw [intOf_some HS.out,size_list] at hlw
   clear hfl
   by_cases hn:n < 0
   ·go_wp2_with fail
    rw [zig_neg hn hi1]
    have hz64:zigN n < 18446744073709551616:=by unfold zigN;split <;> omega
    refine (numAppend_any _ w.heap.size _ [] (zigN n) (World.ownsRow_nil _ _ _ _) hz64 (by simp) hz3).mono ?_;rintro e w4 ⟨a4,c4,rfl,hb4,hg4⟩
    have hbe4:Below w3.heap.size w3 w4:=hg4.below (fun k hk=>by cases hk) (Nat.le_refl _)
    rw [List.nil_append] at hb4 ⊢
    have HB4:=hid hb4
    clear hb4 hg4
    generalize vint (zigN n) = out at *
    go_wp2_with fail
    go_ret2
    exact ⟨a4,c4,out,t1,true,rfl,HB4.out,hb3.trans (But.ofBelow hbe4),HP3.out.same (hbe4.block eb HP3.out.lt),by omega,by omega,HSN.out⟩
   ·go_wp2_with fail
    rw [show n * 2 = (zigN n:Int) by unfold zigN;rw [if_neg (by omega)];omega]
    have hz64:zigN n < 18446744073709551616:=by unfold zigN;split <;> omega
    refine (numAppend_any _ w.heap.size _ [] (zigN n) (World.ownsRow_nil _ _ _ _) hz64 (by simp) hz3).mono ?_;rintro e w4 ⟨a4,c4,rfl,hb4,hg4⟩
    have hbe4:Below w3.heap.size w3 w4:=hg4.below (fun k hk=>by cases hk) (Nat.le_refl _)
    rw [List.nil_append] at hb4 ⊢
    have HB4:=hid hb4
    clear hb4 hg4
    generalize vint (zigN n) = out at *
    go_wp2_with fail
    go_ret2
    exact ⟨a4,c4,out,t1,true,rfl,HB4.out,hb3.trans (But.ofBelow hbe4),HP3.out.same (hbe4.block eb HP3.out.lt),by omega,by omega,HSN.out⟩
 ·have HNO:=hid (show intOf r.toList = none from by
   unfold okOf at hno;unfold intOf
   cases h:Lib.parseIntB 64 r.toList with
   | ok v=>rw [h] at hno;cases hno
   | range=>rfl
   | _=>rfl)
  clear hno
  go_wp2_with fail
  go_ret2
  exact ⟨none,0,[],t1,false,rfl,World.ownsRow_nil _ _ _ _,hb1.trans (But.ofBelow hb2),HP1.out.same (hb2.block eb HP1.out.lt),by omega,by simp,by rw [HSP.out,HNO.out];rfl⟩
end Go.Proofs.YtdgcamlmjmnpeaaGreatDoor
namespace Go.Proofs.YtdgcamlmjmnpeaaGreatDoor
open Go.RowKit
def fdP (f:PField):FD:=⟨f.number.toNat,f.name.toList,f.shape,f.base.toList⟩
def tyP (X:List PIV) (base:List UInt8):Option TD:=match X[(pFindI X base).toNat]? with
 | none=>none
 | some x=>if pFindI X base < 0 then none else if x.it.kind = 0 then some (.inr (x.it.fields.map fdP)) else some (.inl (x.it.names.map fun t=>t.text.toList))
abbrev encP (X:List PIV) (n:Nat):=encE intC nameC (tyP X) n
structure XOk (X:List PIV):Prop where
 nms:Nms X
 len:X.length ≤ 400
 n:∀ x ∈ X,∀ f ∈ x.it.fields,0 ≤ f.number ∧ f.number ≤ 99
 s:∀ x ∈ X,∀ f ∈ x.it.fields,1 ≤ f.name.size ∧ f.name.size ≤ 400
 fl:∀ x ∈ X,x.it.fields.length ≤ 400
 nl:∀ x ∈ X,x.it.names.length ≤ 400
 nn:∀ x ∈ X,∀ t ∈ x.it.names,1 ≤ t.text.size ∧ t.text.size ≤ 400
def PVal (X:List PIV) (n:Nat):Prop:=∀ (w:World) (eb lo:Nat) (la:Option Addr) (ll lc:Nat) (t base:ByteArray),PIts w lo (.slice la ll lc) X → Pe w eb (.slice la ll lc) t → Env w → Own eb → t.size ≤ 400 →
 Calls Tryz.prog 22 #[.pointer (some ⟨eb,0,none⟩),.string base,.int .i64 ((7:Int) - n)] w (PPost ((encP X n).1 base.toList) w eb (.slice la ll lc) t)
def PLst (X:List PIV) (n:Nat):Prop:=∀ (w:World) (eb lo:Nat) (la:Option Addr) (ll lc:Nat) (t base:ByteArray),PIts w lo (.slice la ll lc) X → Pe w eb (.slice la ll lc) t → Env w → Own eb → t.size ≤ 400 →
 Calls Tryz.prog 141 #[.pointer (some ⟨eb,0,none⟩),.string base,.int .i64 ((7:Int) - n)] w (PPost ((encP X n).2 base.toList) w eb (.slice la ll lc) t)
theorem PIts.but {w w':World} {lo eb:Nat} {lv:Value} {X:List PIV} {t:ByteArray} {lv2:Value} (h:PIts w lo lv X) (hc:Pe w eb lv2 t) (hb:But eb w w'):PIts w' lo lv X:=by
 have own:∀ {e:TypeId} {size n:Nat} {v:Value} {ys:List Value},e ≠ 60 → w.ownsRow lo e size v n ys → w'.ownsRow lo e size v n ys:=fun he h1=>own_same h1 (fun g hg=>hb.block g (h1.lt g hg).2 (own_seg_ne h1 hc he hg))
 refine ⟨own (by decide) h.own,fun x hx=>?_⟩
 have hx':=h.nest x hx
 exact { hx' with f:=own (by decide) hx'.f,n:=own (by decide) hx'.n }
def LSp (G:Got) (val:List UInt8 → Got) (T:List UInt8) (m:Nat) (out:List UInt8):Prop:=m ≤ 16 ∧ G = (listGo val (16 - m) (decide (m = 0)) T).map fun x=>(out ++ x.1,x.2)
theorem LSp.shut {G:Got} {val:List UInt8 → Got} {T r:List UInt8} {m:Nat} {out:List UInt8} (h:LSp G val T m out) (he:eatP [93] T = some r):G = some (out,r):=by
 rw [h.2,listGo_eq,he];simp
theorem LSp.full {G:Got} {val:List UInt8 → Got} {T:List UInt8} {out:List UInt8} (h:LSp G val T 16 out) (he:eatP [93] T = none):G = none:=by
 rw [h.2,listGo_eq,he];rfl
theorem LSp.noComma {G:Got} {val:List UInt8 → Got} {T:List UInt8} {m:Nat} {out:List UInt8} (h:LSp G val T m out) (he:eatP [93] T = none) (hm:m ≠ 0) (hc:eatP [44] T = none):G = none:=by
 rw [h.2,listGo_eq,he]
 cases 16 - m with
 | zero=>rfl
 | succ q=>simp [hm,hc]
theorem LSp.value {G:Got} {val:List UInt8 → Got} {T T1:List UInt8} {m:Nat} {out:List UInt8} (h:LSp G val T m out) (he:eatP [93] T = none) (hm:m < 16) (h1:(m = 0 ∧ T1 = T) ∨ (m ≠ 0 ∧ eatP [44] T = some T1)) :
  (val T1 = none → G = none) ∧ (∀ v T2,val T1 = some (v,T2) → LSp G val T2 (m + 1) (out ++ vsized v)):=by
 have h':=h.2
 rw [listGo_eq,he] at h'
 obtain ⟨q,hq⟩:∃ q,16 - m = q + 1:=⟨15 - m,by omega⟩
 rw [hq] at h'
 have ht:(if decide (m = 0) = true then some T else eatP [44] T) = some T1:=by
  rcases h1 with ⟨e1,e2⟩ | ⟨e1,e2⟩
  ·simp [e1,e2]
  ·simp [e1,e2]
 simp only [ht,Option.bind_some] at h'
 refine ⟨fun hv=>by rw [h',hv];rfl,fun v T2 hv=>⟨by omega,?_⟩⟩
 rw [h',hv,show 16 - (m + 1) = q by omega,show decide (m + 1 = 0) = false by simp]
 simp only [Option.bind_some,Option.map_map]
 congr 1
 funext x
 simp
def btw:Bool → ByteArray
 | true=>⟨#[]⟩
 | false=>⟨#[44]⟩
theorem btw_list (b:Bool):(btw b).toList = if b then [] else [44]:=by
 cases b
 ·simp only [btw];rw [ByteArray.toList_eq];rfl
 ·simp only [btw];rw [ByteArray.toList_eq];rfl
def FSp (G:Got) (val lst:List UInt8 → List UInt8 → Got) (fs:List FD) (T:List UInt8) (j:Nat) (first:Bool) (out:List UInt8):Prop:=G = (fieldsGo val lst (fs.drop j) first T).map fun x=>(out ++ x.1,x.2)
theorem FSp.shut {G:Got} {val lst:List UInt8 → List UInt8 → Got} {fs:List FD} {T:List UInt8} {j:Nat} {first:Bool} {out:List UInt8} (h:FSp G val lst fs T j first out) (hj:fs.length ≤ j):G = (eatP [125] T).map fun r=>(out,r):=by
 unfold FSp at h
 rw [h,List.drop_eq_nil_of_le hj]
 unfold fieldsGo
 cases eatP [125] T <;> simp
theorem FSp.skip {G:Got} {val lst:List UInt8 → List UInt8 → Got} {fs:List FD} {T:List UInt8} {j:Nat} {first:Bool} {out:List UInt8} {f:FD} (h:FSp G val lst fs T j first out) (hf:fs[j]? = some f) (he:eatP ((if first then [] else [44]) ++ f.name ++ [58]) T = none) (hs:f.shape = 1):FSp G val lst fs T (j + 1) first out:=by
 unfold FSp at h ⊢
 have hlt:=at_lt hf
 rw [h,List.drop_eq_getElem_cons hlt]
 have e:fs[j] = f:=by rw [List.getElem?_eq_getElem hlt] at hf;simpa using hf
 rw [e]
 conv=>lhs;unfold fieldsGo
 rw [he];simp only [if_pos hs]
theorem FSp.lack {G:Got} {val lst:List UInt8 → List UInt8 → Got} {fs:List FD} {T:List UInt8} {j:Nat} {first:Bool} {out:List UInt8} {f:FD} (h:FSp G val lst fs T j first out) (hf:fs[j]? = some f) (he:eatP ((if first then [] else [44]) ++ f.name ++ [58]) T = none) (hs:f.shape ≠ 1):G = none:=by
 unfold FSp at h
 have hlt:=at_lt hf
 rw [h,List.drop_eq_getElem_cons hlt]
 have e:fs[j] = f:=by rw [List.getElem?_eq_getElem hlt] at hf;simpa using hf
 rw [e]
 unfold fieldsGo
 rw [he];simp only [if_neg hs];rfl
theorem FSp.value {G:Got} {val lst:List UInt8 → List UInt8 → Got} {fs:List FD} {T T1:List UInt8} {j:Nat} {first:Bool} {out:List UInt8} {f:FD} (h:FSp G val lst fs T j first out) (hf:fs[j]? = some f) (he:eatP ((if first then [] else [44]) ++ f.name ++ [58]) T = some T1) :
  ((if f.shape = 2 then lst f.base T1 else val f.base T1) = none → G = none) ∧ (∀ v T2,(if f.shape = 2 then lst f.base T1 else val f.base T1) = some (v,T2) → FSp G val lst fs T2 (j + 1) false ((out ++ vint f.number) ++ vsized v)):=by
 unfold FSp at h ⊢
 have hlt:=at_lt hf
 rw [List.drop_eq_getElem_cons hlt] at h
 have e:fs[j] = f:=by rw [List.getElem?_eq_getElem hlt] at hf;simpa using hf
 rw [e] at h
 unfold fieldsGo at h
 rw [he] at h
 refine ⟨fun hv=>by rw [h];simp only [hv];rfl,fun v T2 hv=>?_⟩
 rw [h]
 simp only [hv,Option.bind_some,Option.map_map]
 congr 1
 funext x
 simp
end Go.Proofs.YtdgcamlmjmnpeaaGreatDoor
