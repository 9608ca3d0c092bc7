/- Package values: the encoder's list. -/
import Derived.Test.YtdgcamlmjmnpeaaGreatDoorMPEncA
import Derived.Test.YtdgcamlmjmnpeaaGreatDoorMPEncC
namespace Go.Proofs.YtdgcamlmjmnpeaaGreatDoor
open Go.RowKit
set_option maxRecDepth 100000 in
set_option maxHeartbeats 1000000 in
theorem plistTop_any (X:List PIV):PLst X 0:=by
 intro w eb lo la ll lc t base hI h hE hO hs
 unfold PPost
 have H:=hid h
 clear h hI hE
 rw [show (7:Int) - (0:Nat) = 7 by omega]
 go_enter Tryz.func141,Tryz.ntmps141
 go_wp2_with fail
 go_ret2
 exact ⟨none,0,[],t,false,rfl,World.ownsRow_nil _ _ _ _,But.refl _ _,H.out,Nat.le_refl _,by simp,rfl⟩
set_option maxRecDepth 100000 in
set_option maxHeartbeats 4000000 in
theorem plist_any {X:List PIV} {n:Nat} (hn6:n ≤ 6) (hV:PVal X n):PLst X (n + 1):=by
 intro w eb lo la ll lc t base hI h hE hO hs
 unfold PPost
 obtain ⟨d,hd⟩:∃ d:Int,d = (7:Int) - ((n + 1:Nat):Int):=⟨_,rfl⟩
 rw [← hd]
 have HD:=hid (show d + 1 = (7:Int) - n by omega)
 have hd6:¬ (6:Int) < d:=by omega
 have hdD:decide ((6:Int) < d) = false:=by simp;omega
 have hdl:(0:Int) ≤ d:=by omega
 have hdu:d ≤ 6:=by omega
 clear hd
 have H:=hid h
 have HI:=hid hI
 have HE:=hid hE
 have HV:=hid hV
 clear h hI hE hV
 obtain ⟨G,hG⟩:∃ G,(encP X (n + 1)).2 base.toList t.toList = G:=⟨_,rfl⟩
 rw [hG]
 have HG:=hid (show G = (eatP [91] t.toList).bind (listGo ((encP X n).1 base.toList) 16 true) by rw [← hG];rfl)
 clear hG
 go_enter Tryz.func141,Tryz.ntmps141
 go_wp2_with fail
 refine (take_any w eb la ll lc t (ByteArray.mk #[91]) H.out).mono ?_;rintro e w1 ⟨t1,rfl,hb1,hp1,ht1⟩
 rw [bracketB] at ht1 ⊢
 have HP1:=hid hp1
 have HT1:=hid ht1
 clear hp1 ht1
 cases hr:(eatP [91] t.toList).isSome with
 | false =>
  have HR:=hid hr
  clear hr
  have hte:t1 = t:=take_false HR.out HT1.out
  subst hte
  go_wp2_with fail
  go_ret2
  exact ⟨none,0,[],t1,false,rfl,World.ownsRow_nil _ _ _ _,hb1,HP1.out,Nat.le_refl _,by simp,by rw [HG.out,eat_none HR.out];rfl⟩
 | true =>
  have HTT:=hid (take_true hr HT1.out)
  clear hr
  have hs1:t1.size < t.size:=by rw [← size_list,← size_list t,HTT.out];simp
  have HL0:=hid (show LSp G ((encP X n).1 base.toList) t1.toList 0 [] from ⟨by omega,by rw [HG.out,HTT.out];simp [eatP,List.isPrefixOf]⟩)
  have hz1:=hb1.size
  go_wp2_with fail
  go_loopg [8,9,10,11] 17 (fun gk d8 c9 x10 x11 wr=>∃ (m:Nat) (out:List UInt8) (tr:ByteArray),m + gk = 17 ∧ c9 = .int .i64 m ∧ tr.size ≤ t1.size ∧ out.length + (bif decide (m = 0) then 2 else 0) ≤ 2 * (t.size - tr.size) ∧ Hid (Pe wr eb (.slice la ll lc) tr) ∧ Hid (Bys wr w.heap.size d8 out) ∧ But eb w wr ∧ Hid (LSp G ((encP X n).1 base.toList) tr.toList m out))
  case atStart=>exact ⟨0,[],t1,by omega,rfl,Nat.le_refl _,by simp;omega,hid HP1.out,hid (World.ownsRow_nil _ _ _ _),hb1,hid HL0.out⟩
  case round =>
   obtain ⟨m,out,tr,hm,rfl,hle,hol,HP,HB,hbut,HS⟩:=hrel
   obtain ⟨oa,oc,hov⟩:∃ a c,u8 = .slice a out.length c:=own_slice HB.out
   subst hov
   have hm16:m ≤ 16:=HS.out.1
   go_wp2_with fail
   refine (take_any _ eb la ll lc tr (ByteArray.mk #[93]) HP.out).mono ?_;rintro e w2 ⟨t2,rfl,hb2,hp2,ht2⟩
   rw [shutB] at ht2 ⊢
   have HP2:=hid hp2
   have HT2:=hid ht2
   have HB2:=hid (HB.out.but (show Seg _ _ _ _ _ from HP.out) (by decide) hb2)
   have hbut2:=hbut.trans hb2
   clear hp2 ht2
   cases hr2:(eatP [93] tr.toList).isSome with
   | true =>
    have HTT2:=hid (take_true hr2 HT2.out)
    have hs2:t2.size < tr.size:=by rw [← size_list,← size_list tr,HTT2.out];simp
    have HF:=hid (HS.out.shut (r:=t2.toList) (by rw [HTT2.out];simp [eatP,List.isPrefixOf]))
    clear hr2
    go_wp2_with fail
    go_ret2
    exact ⟨oa,oc,out,t2,true,rfl,HB2.out,hbut2,HP2.out,by omega,by omega,HF.out⟩
   | false =>
    have hte:t2 = tr:=take_false hr2 HT2.out
    subst hte
    have HNS:=hid (eat_none hr2)
    clear hr2
    by_cases h16:m = 16
    ·subst h16
     have HN:=hid (HS.out.full HNS.out)
     go_wp2_with fail
     go_ret2
     exact ⟨none,0,[],t2,false,rfl,World.ownsRow_nil _ _ _ _,hbut2,HP2.out,by omega,by simp,HN.out⟩
    ·have h16I:¬ (m:Int) = 16:=by omega
     have h16B:((m:Int) == 16) = false:=by simp;omega
     by_cases hm0:m = 0
     ·subst hm0
      simp only [decide_true,cond_true] at hol
      have hv:=HV.out w2 eb lo la ll lc t2 base (HI.out.but H.out hbut2) HP2.out (HE.out.but hbut2 hO) hO (by omega)
      rw [← HD.out] at hv
      have HVV:=hid hv
      clear hv
      go_wp2_with fail
      refine HVV.out.mono ?_;rintro e w4 ⟨a4,c4,v4,t4,ok4,rfl,hb4,hb44,hp4,hs4,hl4,hsp4⟩
      have HP4:=hid hp4
      have HB4v:=hid hb4
      have HB4o:=hid (HB2.out.but (show Seg _ _ _ _ _ from HP2.out) (by decide) hb44)
      have hbut4:=hbut2.trans hb44
      have hz4:=hbut4.size
      have HAP:=hid (apt_new HB2.out hb4)
      have HLV:=hid (HS.out.value HNS.out (by omega) (Or.inl ⟨rfl,rfl⟩))
      have HSP:=hid hsp4
      clear hp4 hb4 hsp4 HVV
      cases ok4 with
      | false =>
       have HN:=hid (HLV.out.1 HSP.out)
       clear HLV HSP
       go_wp2_with fail
       go_ret2
       exact ⟨none,0,[],t4,false,rfl,World.ownsRow_nil _ _ _ _,hbut4,HP4.out,by omega,by simp,HN.out⟩
      | true =>
       have HN:=hid (HLV.out.2 v4 t4.toList HSP.out)
       clear HLV HSP
       go_wp2_with fail
       refine (appendCounted_any w4 w.heap.size _ _ _ out v4 HB4o.out HB4v.out HAP.out (by omega) (by omega) (by omega)).mono ?_;rintro e w5 ⟨a5,c5,rfl,hb5,hg5⟩
       have HP5:=hid (HP4.out.grew (Below.refl _ _) HB4o.out hg5)
       have hbut5:=hbut4.grew (Below.refl _ _) HB4o.out hg5
       have HB5:=hid hb5
       have hol5:(out ++ vsized v4).length ≤ out.length + v4.length + 2:=by rw [List.length_append];have:=vsized_len (b:=v4) (by omega);omega
       generalize out ++ vsized v4 = out5 at *
       clear hb5 hg5
       go_wp2_with fail
       go_roundg (gk - 1)
       case rel=>exact ⟨0 + 1,out5,t4,by omega,by go_num,by omega,by simp;omega,hid HP5.out,hid HB5.out,hbut5,hid HN.out⟩
       case measure=>omega
     ·have hm0':(0:Int) < (m:Int):=by omega
      have hmd:decide (m = 0) = false:=by simp [hm0]
      rw [hmd] at hol
      simp only [cond_false] at hol
      go_wp2_with fail
      refine (take_any _ eb la ll lc t2 (ByteArray.mk #[44]) HP2.out).mono ?_;rintro e w3 ⟨t3,rfl,hb3,hp3,ht3⟩
      rw [commaB] at ht3 ⊢
      have HP3:=hid hp3
      have HT3:=hid ht3
      have HB3:=hid (HB2.out.but (show Seg _ _ _ _ _ from HP2.out) (by decide) hb3)
      have hbut3:=hbut2.trans hb3
      clear hp3 ht3
      cases hr3:(eatP [44] t2.toList).isSome with
      | false =>
       have hte:t3 = t2:=take_false hr3 HT3.out
       subst hte
       have HN:=hid (HS.out.noComma HNS.out hm0 (eat_none hr3))
       clear hr3
       go_wp2_with fail
       go_ret2
       exact ⟨none,0,[],t3,false,rfl,World.ownsRow_nil _ _ _ _,hbut3,HP3.out,by omega,by simp,HN.out⟩
      | true =>
       have HTT3:=hid (take_true hr3 HT3.out)
       have hs3:t3.size < t2.size:=by rw [← size_list,← size_list t2,HTT3.out];simp
       clear hr3
       have hv:=HV.out w3 eb lo la ll lc t3 base (HI.out.but H.out hbut3) HP3.out (HE.out.but hbut3 hO) hO (by omega)
       rw [← HD.out] at hv
       have HVV:=hid hv
       clear hv
       go_wp2_with fail
       refine HVV.out.mono ?_;rintro e w4 ⟨a4,c4,v4,t4,ok4,rfl,hb4,hb44,hp4,hs4,hl4,hsp4⟩
       have HP4:=hid hp4
       have HB4v:=hid hb4
       have HB4o:=hid (HB3.out.but (show Seg _ _ _ _ _ from HP3.out) (by decide) hb44)
       have hbut4:=hbut3.trans hb44
       have hz4:=hbut4.size
       have HAP:=hid (apt_new HB3.out hb4)
       have HLV:=hid (HS.out.value (T1:=t3.toList) HNS.out (by omega) (Or.inr ⟨hm0,(by rw [HTT3.out];simp [eatP,List.isPrefixOf])⟩))
       have HSP:=hid hsp4
       clear hp4 hb4 hsp4 HVV
       cases ok4 with
       | false =>
        have HN:=hid (HLV.out.1 HSP.out)
        clear HLV HSP
        go_wp2_with fail
        go_ret2
        exact ⟨none,0,[],t4,false,rfl,World.ownsRow_nil _ _ _ _,hbut4,HP4.out,by omega,by simp,HN.out⟩
       | true =>
        have HN:=hid (HLV.out.2 v4 t4.toList HSP.out)
        clear HLV HSP
        go_wp2_with fail
        refine (appendCounted_any w4 w.heap.size _ _ _ out v4 HB4o.out HB4v.out HAP.out (by omega) (by omega) (by omega)).mono ?_;rintro e w5 ⟨a5,c5,rfl,hb5,hg5⟩
        have HP5:=hid (HP4.out.grew (Below.refl _ _) HB4o.out hg5)
        have hbut5:=hbut4.grew (Below.refl _ _) HB4o.out hg5
        have HB5:=hid hb5
        have hol5:(out ++ vsized v4).length ≤ out.length + v4.length + 2:=by rw [List.length_append];have:=vsized_len (b:=v4) (by omega);omega
        generalize out ++ vsized v4 = out5 at *
        clear hb5 hg5
        go_wp2_with fail
        go_roundg (gk - 1)
        case rel=>exact ⟨m + 1,out5,t4,by omega,by go_num,by omega,by simp;omega,hid HP5.out,hid HB5.out,hbut5,hid HN.out⟩
        case measure=>omega
end Go.Proofs.YtdgcamlmjmnpeaaGreatDoor
namespace Go.Proofs.YtdgcamlmjmnpeaaGreatDoor
open Go.RowKit
def pmspec (X:List PIV):Nat → List FD → List UInt8 → Got
 | 0=>fun _ _=>none
 | n + 1=>msgP (encP X n).1 (encP X n).2
theorem encP_val (X:List PIV) (n:Nat):(encP X n).1 = valP intC nameC (tyP X) (pmspec X n):=by cases n <;> rfl
def PMsg (X:List PIV) (n:Nat):Prop:=∀ (w:World) (eb lo:Nat) (la:Option Addr) (ll lc:Nat) (t:ByteArray) (fv:Value) (fs:List PField),PIts w lo (.slice la ll lc) X → Pe w eb (.slice la ll lc) t → Env w → Own eb → t.size ≤ 400 →
 w.ownsRow lo 152 7 fv fs.length (fs.flatMap pfCells) → fs.length ≤ 400 → (∀ f ∈ fs,0 ≤ f.number ∧ f.number ≤ 99) → (∀ f ∈ fs,1 ≤ f.name.size ∧ f.name.size ≤ 400) →
 Calls Tryz.prog 54 #[.pointer (some ⟨eb,0,none⟩),fv,.int .i64 ((7:Int) - n)] w (PPost (pmspec X n (fs.map fdP)) w eb (.slice la ll lc) t)
set_option maxRecDepth 100000 in
set_option maxHeartbeats 1000000 in
theorem pmsgTop_any (X:List PIV):PMsg X 0:=by
 intro w eb lo la ll lc t fv fs hI h hE hO hs hF _ _ _
 unfold PPost
 obtain ⟨fa,fc,hfv⟩:∃ a c,fv = .slice a fs.length c:=own_slice hF
 subst hfv
 have H:=hid h
 clear h hI hE hF
 rw [show (7:Int) - (0:Nat) = 7 by omega]
 go_enter Tryz.func54,Tryz.ntmps54
 go_wp2_with fail
 go_ret2
 exact ⟨none,0,[],t,false,rfl,World.ownsRow_nil _ _ _ _,But.refl _ _,H.out,Nat.le_refl _,by simp,rfl⟩
theorem pmsgStep {X:List PIV} {n:Nat} (hn:n ≤ 6) (hV:PVal X n) (hL:PLst X n):PMsg X (n + 1) :=
 fun w eb lo la ll lc t fv fs hI h hE hO hs hF hl hnum hnm=>pmessage_any hV hL w eb lo la ll lc t fv fs _ (by omega) hn hI h hE hO hs hF hl hnum hnm
set_option maxRecDepth 100000 in
set_option maxHeartbeats 4000000 in
theorem pvalue_any {X:List PIV} {n:Nat} (hM:PMsg X n) (hX:XOk X):PVal X n:=by
 intro w eb lo la ll lc t base hI h hE hO hs
 obtain ⟨d,hd⟩:∃ d:Int,d = (7:Int) - (n:Int):=⟨_,rfl⟩
 rw [← hd]
 rw [encP_val]
 have e0:=h.items
 have H:=hid h
 have HE:=hid hE
 have HI:=hid hI
 have HM:=hid hM
 have HD:=hid hd
 have HX:=hid hX
 clear h hE hI hM hd hX
 cases hb1:(base.toList == [105,110,116]) with
 | true =>
  have HS:=hid (show valP intC nameC (tyP X) (pmspec X n) base.toList t.toList = intP intC t.toList by unfold valP;rw [if_pos (by simpa [wInt] using hb1)])
  go_enter Tryz.func22,Tryz.ntmps22
  go_wp2_with fail
  refine (pinteger_any w eb la ll lc t H.out hs HE.out hO).mono ?_;intro e w1 h1
  have HP:=hid (h1.turn HS.out)
  obtain ⟨a,c,out,t',ok,rfl,_⟩:=h1
  go_wp2_with fail
  go_ret2
  exact HP.out
 | false =>
  cases hb2:(base.toList == [98,111,111,108]) with
  | true =>
   have HS:=hid (show valP intC nameC (tyP X) (pmspec X n) base.toList t.toList = choP nameC ([ByteArray.mk #[102,97,108,115,101],ByteArray.mk #[116,114,117,101]].map ByteArray.toList) t.toList by
    unfold valP;rw [if_neg (by simpa [wInt] using hb1),if_pos (by simpa [wBool] using hb2)]
    simp [ByteArray.toList_eq,boolNames])
   go_enter Tryz.func22,Tryz.ntmps22
   go_wp2_with fail
   have hw0:Below w.heap.size w (w.alloc (.cells #[.string (ByteArray.mk #[102,97,108,115,101]),.string (ByteArray.mk #[116,114,117,101])] 9)):=(Below.refl _ _).alloc (Nat.le_refl _) _
   refine (choice_any _ eb w.heap.size la ll lc t _ [ByteArray.mk #[102,97,108,115,101],ByteArray.mk #[116,114,117,101]] (H.out.same (hw0.block eb H.out.lt)) hs (by have:=World.ownsRow_lit (base:=w.heap.size) (e:=9) (size:=1) w #[.string (ByteArray.mk #[102,97,108,115,101]),.string (ByteArray.mk #[116,114,117,101])] 2 (by simp) (by unfold maxLen;omega) rfl;simpa [strCell] using this) (by simp) (by decide)).mono ?_
   intro e w1 h1
   have HP:=hid ((h1.back hw0).turn HS.out)
   obtain ⟨a,c,out,t',ok,rfl,_⟩:=h1
   go_wp2_with fail
   go_ret2
   exact HP.out
  | false =>
   cases hb3:(base.toList == [116,101,120,116]) with
   | true =>
    have HS:=hid (show valP intC nameC (tyP X) (pmspec X n) base.toList t.toList = textP t.toList by unfold valP;rw [if_neg (by simpa [wInt] using hb1),if_neg (by simpa [wBool] using hb2),if_pos (by simpa [wText] using hb3)])
    go_enter Tryz.func22,Tryz.ntmps22
    go_wp2_with fail
    refine (letters_any w eb la ll lc t H.out hs).mono ?_;intro e w1 h1
    have HP:=hid (h1.turn HS.out)
    obtain ⟨a,c,out,t',ok,rfl,_⟩:=h1
    go_wp2_with fail
    go_ret2
    exact HP.out
   | false =>
    have HS:=hid (show valP intC nameC (tyP X) (pmspec X n) base.toList t.toList = (match tyP X base.toList with | none=>none | some (.inl ns)=>choP nameC ns t.toList | some (.inr fs)=>pmspec X n fs t.toList) by unfold valP;rw [if_neg (by simpa [wInt] using hb1),if_neg (by simpa [wBool] using hb2),if_neg (by simpa [wText] using hb3)];cases tyP X base.toList with | none=>rfl | some t=>cases t <;> rfl)
    go_enter Tryz.func22,Tryz.ntmps22
    go_wp2_with fail
    refine (schemaType_any _ lo _ X base HI.out HX.out.nms HX.out.len).mono ?_;rintro e w1 ⟨hb1w,hT⟩
    have HP1:=hid (H.out.same (hb1w.block eb H.out.lt))
    rcases hT with ⟨hneg,rfl⟩ | ⟨k,x,nn,hk,hx,hkd,hvf,hvn,rfl⟩
    ·have HSN:=hid (show valP intC nameC (tyP X) (pmspec X n) base.toList t.toList = none by
      rw [HS.out]
      have:tyP X base.toList = none:=by unfold tyP;split <;> simp [hneg]
      rw [this])
     clear hneg
     go_wp2_with fail
     go_ret2
     have hba:Below w.heap.size w (w1.alloc (.cells #[.int .i64 0,.string ⟨#[]⟩,.int .i64 0,.slice none 0 0,.slice none 0 0,.string ⟨#[]⟩,.int .i64 0,.string ⟨#[]⟩,.int .i64 0] 98)):=hb1w.alloc hb1w.size _
     exact ⟨none,0,[],t,false,rfl,World.ownsRow_nil _ _ _ _,But.ofBelow hba,H.out.same (hba.block eb H.out.lt),Nat.le_refl _,by simp,HSN.out⟩
    ·have hxm:=List.mem_of_getElem? hx
     have hI1:=HI.out.below hb1w
     have hfl:=HX.out.fl x hxm
     have hnl:=HX.out.nl x hxm
     have HFO:=hid (hI1.nest x hxm).f
     have HNO:=hid (hI1.nest x hxm).n
     rw [hvf] at HFO
     rw [hvn] at HNO
     have HNU:=hid (HX.out.n x hxm)
     have HNS:=hid (HX.out.s x hxm)
     have HNN:=hid (HX.out.nn x hxm)
     have HTY:=hid (show tyP X base.toList = if x.it.kind = 0 then some (.inr (x.it.fields.map fdP)) else some (.inl (x.it.names.map fun t=>t.text.toList)) by unfold tyP;rw [hk];simp only [Int.toNat_natCast,hx];rw [if_neg (by omega)])
     obtain ⟨it,vf,vn⟩:=x
     obtain ⟨kind,nm,fields,names,bs,an⟩:=it
     obtain ⟨ifa,ifc,ina,inc,ibb,iba,iab,iaa⟩:=nn
     simp only at hkd hfl hnl HFO HNO HNU HNS HNN HTY ⊢
     clear hk hx hxm hvf hvn hI1
     have hba:Below w.heap.size w (w1.alloc (.cells #[.int .i64 kind,.string nm.text,.int .i64 nm.at_,.slice ifa fields.length ifc,.slice ina names.length inc,.string ibb,.int .i64 iba,.string iab,.int .i64 iaa] 98)):=hb1w.alloc hb1w.size _
     have hba1:Below w1.heap.size w1 (w1.alloc (.cells #[.int .i64 kind,.string nm.text,.int .i64 nm.at_,.slice ifa fields.length ifc,.slice ina names.length inc,.string ibb,.int .i64 iba,.string iab,.int .i64 iaa] 98)):=(Below.refl _ _).alloc (Nat.le_refl _) _
     rcases hkd with rfl | rfl
     ·have HSM:=hid (show valP intC nameC (tyP X) (pmspec X n) base.toList t.toList = pmspec X n (fields.map fdP) t.toList by rw [HS.out,HTY.out];rfl)
      go_wp2_with fail
      refine (HM.out _ eb lo la ll lc t _ fields (HI.out.below hba) (H.out.same (hba.block eb H.out.lt)) (HE.out.below hba) hO hs (own_same HFO.out (fun g hg=>hba1.block g (HFO.out.lt g hg).2)) hfl HNU.out HNS.out |> fun z=>by rw [HD.out];exact z:Calls _ _ _ _ _).mono ?_
      intro e w2 h2
      have HP:=hid ((h2.back hba).turn HSM.out)
      obtain ⟨a,c,out,t',ok,rfl,_⟩:=h2
      go_wp2_with fail
      go_ret2
      exact HP.out
     ·have HSM:=hid (show valP intC nameC (tyP X) (pmspec X n) base.toList t.toList = choP nameC ((names.map fun t=>t.text).map ByteArray.toList) t.toList by rw [HS.out,HTY.out];simp [List.map_map,Function.comp_def])
      go_wp2_with fail
      refine (choices_any _ lo _ _ _ _ _ _ _ _ _ _ _ _ names (own_same HNO.out (fun g hg=>hba1.block g (HNO.out.lt g hg).2)) hnl).mono ?_;rintro e w2 ⟨ca,cc,rfl,hown2,hb2⟩
      have hba2:Below w.heap.size w w2:=hba.trans (hb2.mono hba.size)
      have HO2:=hid hown2
      clear hown2
      go_wp2_with fail
      refine (choice_any w2 eb _ la ll lc t _ (names.map fun t=>t.text) (H.out.same (hba2.block eb H.out.lt)) hs (by have:=HO2.out;rw [List.length_map,List.map_map];exact this) (by rw [List.length_map];exact hnl) (fun q hq=>by obtain ⟨y,hy,rfl⟩:=List.mem_map.1 hq;exact (HNN.out y hy).1)).mono ?_
      intro e w3 h3
      have HP:=hid ((h3.back hba2).turn HSM.out)
      obtain ⟨a,c,out,t',ok,rfl,_⟩:=h3
      go_wp2_with fail
      go_ret2
      exact HP.out
theorem plevels {X:List PIV} (hX:XOk X):∀ n,n ≤ 6 → PVal X n ∧ PLst X n
 | 0,_=>⟨pvalue_any (pmsgTop_any X) hX,plistTop_any X⟩
 | n + 1,h=>by
  obtain ⟨h1,h2⟩:=plevels hX n (by omega)
  exact ⟨pvalue_any (pmsgStep (by omega) h1 h2) hX,plist_any (by omega) h1⟩
end Go.Proofs.YtdgcamlmjmnpeaaGreatDoor
namespace Go.Proofs.YtdgcamlmjmnpeaaGreatDoor
open Go.RowKit
theorem XOk.of {s:ByteArray} {X:List PIV} (hs:s.size ≤ 400) (h:(parseP s).1 = some (X.map (fun x=>x.it))) (hl:X.length ≤ 400):XOk X:=by
 obtain ⟨_,_,_,hin4⟩:=parseP_in h
 have hsm:=small_of (facts_of h) hs
 have src:∀ x ∈ X,ISrc s x.it:=fun x hx=>parseP_src h _ (List.mem_map.2 ⟨x,hx,rfl⟩)
 refine ⟨fun x hx=>hin4 x.it (List.mem_map.2 ⟨x,hx,rfl⟩),hl,fun x hx f hf=>?_,fun x hx f hf=>?_,hsm.f,hsm.n,fun x hx t ht=>((src x hx).n t ht).size hs⟩
 ·have:=((src x hx).f f hf).num;exact ⟨by omega,this.2⟩
 ·obtain ⟨t,ht,e⟩:=((src x hx).f f hf).name
  rw [e];exact ht.size hs
def PEncA (X:List PIV) (base v:ByteArray) (E:Int) (b:List UInt8):Prop :=
 (E = 4 ∧ b = [] ∧ hasB X base = false) ∨ (hasB X base = true ∧
  ((400 < v.size ∧ E = 1 ∧ b = []) ∨ (v.size ≤ 400 ∧
   (((∀ x,(encP X 6).1 base.toList v.toList ≠ some (x,[])) ∧ E = 5 ∧ b = []) ∨ ∃ x,(encP X 6).1 base.toList v.toList = some (x,[]) ∧ ((64 < x.length ∧ E = 1 ∧ b = []) ∨ (x.length ≤ 64 ∧ E = 0 ∧ b = x))))))
def PEncPost (A:Int → List UInt8 → Prop) (w:World) (e:Ending) (w':World):Prop:=∃ (a:Option Addr) (c:Nat) (b:List UInt8) (E:Int),e = .returned (.tuple #[.slice a b.length c,.int .i64 E]) ∧ Below w.heap.size w w' ∧ Bys w' w.heap.size (.slice a b.length c) b ∧ (E ≠ 0 → a = none ∧ c = 0) ∧ A E b
theorem list_nil {t:ByteArray}:t.toList = [] ↔ t.size = 0:=by rw [← List.length_eq_zero_iff,size_list]
set_option maxRecDepth 100000 in
set_option maxHeartbeats 2000000 in
theorem vEncode_any (w:World) (lo:Nat) (la:Option Addr) (ll lc:Nat) (X:List PIV) (base v:ByteArray) (hI:PIts w lo (.slice la ll lc) X) (hX:XOk X) (hE:Env w) (hO:∀ cb,w.heap.size ≤ cb → Own cb) (hv:v.size ≤ maxLen) :
  Calls Tryz.prog 13 #[.slice la ll lc,.string base,.string v] w (PEncPost (PEncA X base v) w):=by
 unfold PEncPost
 unfold maxLen at hv
 have HI:=hid hI
 have HX:=hid hX
 have HE:=hid hE
 have HO:=hid hO
 clear hI hX hE hO
 go_enter Tryz.func13,Tryz.ntmps13
 go_wp2_with fail
 refine (hasBase_any w lo _ X base HI.out HX.out.nms HX.out.len).mono ?_;rintro e w1 ⟨rfl,hb1⟩
 have hz1:=hb1.size
 cases hh:hasB X base with
 | false =>
  have HH:=hid hh
  clear hh
  go_wp2_with fail
  go_ret2
  exact ⟨none,0,[],4,rfl,hb1,World.ownsRow_nil _ _ _ _,fun _=>⟨rfl,rfl⟩,Or.inl ⟨rfl,rfl,HH.out⟩⟩
 | true =>
  have HH:=hid hh
  clear hh
  by_cases h4:v.size ≤ 400
  ·have h4I:¬ (400:Int) < (v.size:Int):=by omega
   have h4D:decide ((400:Int) < (v.size:Int)) = false:=by simp;omega
   have hbW:Below w.heap.size w (w1.alloc (.cells #[.slice la ll lc,.string v] 60)):=hb1.alloc hb1.size _
   have HPW:=hid (show Pe (w1.alloc (.cells #[.slice la ll lc,.string v] 60)) w1.heap.size (.slice la ll lc) v from seg_made w1 _ _)
   have HIW:=hid (HI.out.below hbW)
   have HEW:=hid (HE.out.below hbW)
   have hzW:=hbW.size
   go_wp2_with fail
   generalize (w1.alloc (.cells #[.slice la ll lc,.string v] 60)) = wW at *
   refine ((plevels HX.out 6 (Nat.le_refl _)).1 wW w1.heap.size lo la ll lc v base HIW.out HPW.out HEW.out (HO.out _ hz1) h4).mono ?_
   rintro e w2 ⟨a2,c2,out,t2,ok,rfl,hb2,hbut2,hp2,hs2,hl2,hsp⟩
   have hble:=hbut2.below hbW hz1 (Nat.le_refl _)
   have HB2:=hid (own_base hb2 hzW:Bys w2 w.heap.size _ out)
   have HSP:=hid hsp
   have f1:=hp2.rest
   clear hb2 hsp hp2 hbut2 hl2
   cases ok with
   | false =>
    go_wp2_with fail
    go_ret2
    refine ⟨none,0,[],5,rfl,hble,World.ownsRow_nil _ _ _ _,fun _=>⟨rfl,rfl⟩,Or.inr ⟨HH.out,Or.inr ⟨h4,Or.inl ⟨fun x hx=>?_,rfl,rfl⟩⟩⟩⟩
    rw [HSP.out] at hx;cases hx
   | true =>
    cases hem:t2.toList.isEmpty with
    | true =>
     have HSP2:=hid (show (encP X 6).1 base.toList v.toList = some (out,[]) from by rw [HSP.out];simp only [List.isEmpty_iff.1 hem])
     by_cases h64:out.length ≤ 64
     ·have h64I:¬ (64:Int) < (out.length:Int):=by omega
      have h64D:decide ((64:Int) < (out.length:Int)) = false:=by simp;omega
      go_wp2_with fail
      go_ret2
      exact ⟨a2,c2,out,0,rfl,hble,HB2.out,fun h=>absurd rfl h,Or.inr ⟨HH.out,Or.inr ⟨h4,Or.inr ⟨out,HSP2.out,Or.inr ⟨h64,rfl,rfl⟩⟩⟩⟩⟩
     ·have h64I:(64:Int) < (out.length:Int):=by omega
      go_wp2_with fail
      go_ret2
      exact ⟨none,0,[],1,rfl,hble,World.ownsRow_nil _ _ _ _,fun _=>⟨rfl,rfl⟩,Or.inr ⟨HH.out,Or.inr ⟨h4,Or.inr ⟨out,HSP2.out,Or.inl ⟨by omega,rfl,rfl⟩⟩⟩⟩⟩
    | false =>
     go_wp2_with fail
     go_ret2
     refine ⟨none,0,[],5,rfl,hble,World.ownsRow_nil _ _ _ _,fun _=>⟨rfl,rfl⟩,Or.inr ⟨HH.out,Or.inr ⟨h4,Or.inl ⟨fun x hx=>?_,rfl,rfl⟩⟩⟩⟩
     rw [HSP.out] at hx
     simp only [Option.some.injEq,Prod.mk.injEq] at hx
     rw [hx.2] at hem;cases hem
  ·have h4I:(400:Int) < (v.size:Int):=by omega
   go_wp2_with fail
   go_ret2
   exact ⟨none,0,[],1,rfl,hb1,World.ownsRow_nil _ _ _ _,fun _=>⟨rfl,rfl⟩,Or.inr ⟨HH.out,Or.inl ⟨by omega,rfl,rfl⟩⟩⟩
def PEncAns (s base v:ByteArray) (E:Int) (b:List UInt8):Prop :=
 (E = 8 ∧ b = [] ∧ ∃ E0 P0,ProgAns s E0 P0 ∧ E0 ≠ 0) ∨ ∃ X,ProgAns s 0 0 ∧ s.size ≤ 400 ∧ (parseP s).1 = some (X.map (fun x=>x.it)) ∧ PEncA X base v E b
theorem ProgAns.zero {s:ByteArray} {P:Int} (h:ProgAns s 0 P):s.size ≤ 400 ∧ P = 0:=by
 rcases h with ⟨_,e,_⟩ | ⟨h4,⟨_,e,_⟩ | ⟨X,_,⟨m,_,_,e,_⟩ | ⟨_,_,e⟩⟩⟩
 ·omega
 ·omega
 ·omega
 ·exact ⟨h4,e⟩
theorem ProgAns.range {s:ByteArray} {E P:Int} (h:ProgAns s E P):0 ≤ E ∧ E ≤ 3:=by
 rcases h with ⟨_,e,_⟩ | ⟨h4,⟨_,e,_⟩ | ⟨X,_,⟨m,_,_,e,_⟩ | ⟨_,e,_⟩⟩⟩ <;> omega
set_option maxRecDepth 100000 in
set_option maxHeartbeats 2000000 in
theorem pEncode_any (s base v:ByteArray) (w:World) (hs:s.size ≤ maxLen) (hv:v.size ≤ maxLen) (hE:Env w) (hO:∀ cb,w.heap.size ≤ cb → Own cb) :
  Calls Tryz.prog 8 #[.string s,.string base,.string v] w (PEncPost (PEncAns s base v) w):=by
 have HE:=hid hE
 have HO:=hid hO
 clear hE hO
 unfold PEncPost
 go_enter Tryz.func8,Tryz.ntmps8
 go_wp2_with fail
 refine (read_any s w HE.out.v hs).mono ?_;rintro e w1 ⟨lv,la,ll,lc,E,P,rfl,rfl,hb1,hA,hR⟩
 have hz1:=hb1.size
 by_cases hE0:E = 0
 ·subst hE0
  obtain ⟨h4,rfl⟩:=hA.zero
  obtain ⟨X,hp,hits,hl,_⟩:=hR rfl
  have HA:=hid hA
  have HP:=hid hp
  have HXO:=hid (XOk.of h4 hp hl)
  have HI:=hid hits
  clear hA hR hp hits
  go_wp2_with fail
  refine (vEncode_any w1 _ la ll lc X base v HI.out HXO.out (HE.out.below hb1) (fun cb h=>HO.out cb (by omega)) hv).mono ?_
  rintro e w2 ⟨a2,c2,b2,E2,rfl,hb2,hB2,hnil,hans⟩
  have HB2:=hid (own_base hB2 hz1:Bys w2 w.heap.size _ b2)
  have HN:=hid hnil
  have HAN:=hid (show PEncAns s base v E2 b2 from Or.inr ⟨X,HA.out,h4,HP.out,hans⟩)
  have hb3:=hb1.trans (hb2.mono hz1)
  clear hB2 hnil hans
  go_wp2_with fail
  go_ret2
  exact ⟨a2,c2,b2,E2,rfl,hb3,HB2.out,HN.out,HAN.out⟩
 ·have HA:=hid (show ∃ E0 P0,ProgAns s E0 P0 ∧ E0 ≠ 0 from ⟨E,P,hA,hE0⟩)
  obtain ⟨hr1,hr2⟩:=hA.range
  have hEB:(E != 0) = true:=by simpa using hE0
  clear hA hR
  go_wp2_with fail
  go_ret2
  exact ⟨none,0,[],8,rfl,hb1,World.ownsRow_nil _ _ _ _,fun _=>⟨rfl,rfl⟩,Or.inl ⟨rfl,rfl,HA.out⟩⟩
end Go.Proofs.YtdgcamlmjmnpeaaGreatDoor
namespace Go.Proofs.YtdgcamlmjmnpeaaGreatDoor
theorem fdR_toRF {f:PField} (h:f.shape ≤ 2):fdR (toRF f) = fdP f:=by
 have:f.shape = 0 ∨ f.shape = 1 ∨ f.shape = 2:=by omega
 unfold fdR toRF fdP
 rcases this with e | e | e <;> simp only [e] <;> unfold shapeTxt isW <;> simp [ByteArray.toList_eq,emptyB,wOpt,wList]
theorem ty_twin {X:List PIV} {Y:List IV} (h:Twin X Y) (hs:∀ x ∈ X,∀ f ∈ x.it.fields,f.shape ≤ 2):tyR Y = tyP X:=by
 funext b
 unfold tyR tyP
 rw [h.find b]
 cases hx:X[(pFindI X b).toNat]? with
 | none =>
  cases hy:Y[(pFindI X b).toNat]? with
  | none=>rfl
  | some y=>obtain ⟨x,hx',_⟩:=h.atR hy;rw [hx] at hx';cases hx'
 | some x =>
  obtain ⟨y,hy,e⟩:=h.atP hx
  rw [hy]
  simp only
  have hk:isW y.it.kind wMessage = (x.it.kind == 0):=by rw [e];exact kindTxt_msg _
  have hf:y.it.fields.map fdR = x.it.fields.map fdP:=by
   rw [e]
   show (x.it.fields.map toRF).map fdR = _
   rw [List.map_map]
   apply List.map_congr_left
   intro f hf
   exact fdR_toRF (hs x (List.mem_of_getElem? hx) f hf)
  have hn:y.it.names.map ByteArray.toList = x.it.names.map (fun t=>t.text.toList):=by
   rw [e]
   show (x.it.names.map PTok.text).map ByteArray.toList = _
   rw [List.map_map];rfl
  rw [hk,hf,hn]
  by_cases h0:x.it.kind = 0 <;> simp [h0]
end Go.Proofs.YtdgcamlmjmnpeaaGreatDoor
