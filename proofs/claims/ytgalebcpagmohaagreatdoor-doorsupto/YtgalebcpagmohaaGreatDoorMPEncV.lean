/- Package values: the encoder's list. -/
import Derived.Test.YtgalebcpagmohaaGreatDoorMPEncA
import Derived.Test.YtgalebcpagmohaaGreatDoorMPEncC
set_option maxHeartbeats 4000000
set_option maxRecDepth 100000
namespace Go.Proofs.YtgalebcpagmohaaGreatDoor
open Go.Proofs.Tryz
open Go.RowKit
theorem Jd (X:List bY):Td X 0:=by
 intro w eb lo la ll lc t base hI h hE hO hs
 unfold lG
 have H:=hid h
 clear h hI hE
 rw[show (7:Int)-(0:Nat)=7 by omega]
 go_enter func288,ntmps288
 go_wp2_with fail
 go_ret2
 exact⟨none,0,[],t,false,rfl,World.ownsRow_nil _ _ _ _,But.refl _ _,H.out,Nat.le_refl _,by simp,rfl⟩
theorem Tf {X:List bY} {n:Nat} (hn6:n≤6) (hV:Tc X n):Td X (n+1):=by
 intro w eb lo la ll lc t base hI h hE hO hs
 unfold lG
 obtain⟨d,hd⟩:∃ d:Int,d=(7:Int)-((n+1:Nat):Int):=⟨_,rfl⟩
 rw[← hd]
 have HD:=hid (show d+1=(7:Int)-n by omega)
 have hd6:¬ (6:Int)<d:=by omega
 have hdD:decide ((6:Int)<d)=false:=by simp;omega
 have hdl:(0:Int)≤d:=by omega
 have hdu:d≤6:=by omega
 clear hd
 have H:=hid h
 have HI:=hid hI
 have HE:=hid hE
 have HV:=hid hV
 clear h hI hE hV
 obtain⟨G,hG⟩:∃ G,(oh X (n+1)).2 base.toList t.toList=G:=⟨_,rfl⟩
 rw[hG]
 have HG:=hid (show G=(aK [91] t.toList).bind (iW ((oh X n).1 base.toList) 16 true) by rw[← hG];rfl)
 clear hG
 go_enter func288,ntmps288
 go_wp2_with fail
 refine(take_any w eb la ll lc t (ByteArray.mk #[91]) H.out).mono ?_;rintro e w1 ⟨t1,rfl,hb1,hp1,ht1⟩
 rw[LJ] at ht1 ⊢
 have qo:=hid hp1
 have HT1:=hid ht1
 clear hp1 ht1
 cases hr:(aK [91] t.toList).isSome with
 | false=>
  have HR:=hid hr
  clear hr
  have hte:t1=t:=jG HR.out HT1.out
  subst hte
  go_wp2_with fail
  go_ret2
  exact⟨none,0,[],t1,false,rfl,World.ownsRow_nil _ _ _ _,hb1,qo.out,Nat.le_refl _,by simp,by rw[HG.out,kK HR.out];rfl⟩
 | true=>
  have SX:=hid (mF hr HT1.out)
  clear hr
  have hs1:t1.size<t.size:=by rw[← aB,← aB t,SX.out];simp
  have HL0:=hid (show Wq G ((oh X n).1 base.toList) t1.toList 0 [] from⟨by omega,by rw[HG.out,SX.out];simp[aK,List.isPrefixOf]⟩)
  have hz1:=hb1.size
  go_wp2_with fail
  go_loopg [8,9,10,11] 17 (fun gk d8 c9 x10 x11 wr=>∃ (m:Nat) (out:List UInt8) (tr:ByteArray),m+gk=17∧c9=.int .i64 m∧tr.size≤t1.size∧out.length+(bif decide (m=0) then 2 else 0)≤2*(t.size-tr.size)∧Hid (Pe wr eb (.slice la ll lc) tr)∧Hid (gB wr w.heap.size d8 out)∧But eb w wr∧Hid (Wq G ((oh X n).1 base.toList) tr.toList m out))
  case atStart=>exact⟨0,[],t1,by omega,rfl,Nat.le_refl _,by simp;omega,hid qo.out,hid (World.ownsRow_nil _ _ _ _),hb1,hid HL0.out⟩
  case round=>
   obtain⟨m,out,tr,hm,rfl,hle,hol,HP,HB,jI,HS⟩:=hrel
   obtain⟨oa,oc,hov⟩:∃ a c,u8=.slice a out.length c:=ak HB.out
   subst hov
   have afE:m≤16:=HS.out.1
   go_wp2_with fail
   refine(take_any _ eb la ll lc tr (ByteArray.mk #[93]) HP.out).mono ?_;rintro e w2 ⟨t2,rfl,hb2,hp2,ht2⟩
   rw[Zw] at ht2 ⊢
   have HP2:=hid hp2
   have HT2:=hid ht2
   have HB2:=hid (HB.out.but (show Seg _ _ _ _ _ from HP.out) (by decide) hb2)
   have bG:=jI.trans hb2
   clear hp2 ht2
   cases hr2:(aK [93] tr.toList).isSome with
   | true=>
    have MB:=hid (mF hr2 HT2.out)
    have hs2:t2.size<tr.size:=by rw[← aB,← aB tr,MB.out];simp
    have HF:=hid (HS.out.shut (r:=t2.toList) (by rw[MB.out];simp[aK,List.isPrefixOf]))
    clear hr2
    go_wp2_with fail
    go_ret2
    exact⟨oa,oc,out,t2,true,rfl,HB2.out,bG,HP2.out,by omega,by omega,HF.out⟩
   | false=>
    have hte:t2=tr:=jG hr2 HT2.out
    subst hte
    have YG:=hid (kK hr2)
    clear hr2
    by_cases h16:m=16
    ·subst h16
     have HN:=hid (HS.out.full YG.out)
     go_wp2_with fail
     go_ret2
     exact⟨none,0,[],t2,false,rfl,World.ownsRow_nil _ _ _ _,bG,HP2.out,by omega,by simp,HN.out⟩
    ·have SL:¬ (m:Int)=16:=by omega
     have ajW:((m:Int)==16)=false:=by simp;omega
     by_cases hm0:m=0
     ·subst hm0
      simp only[decide_true,cond_true] at hol
      have hv:=HV.out w2 eb lo la ll lc t2 base (HI.out.but H.out bG) HP2.out (HE.out.but bG hO) hO (by omega)
      rw[← HD.out] at hv
      have HVV:=hid hv
      clear hv
      go_wp2_with fail
      refine HVV.out.mono ?_;rintro e w4 ⟨a4,c4,v4,t4,LK,rfl,hb4,jF,wK,hs4,hl4,mM⟩
      have Uh:=hid wK
      have jh:=hid hb4
      have fA:=hid (HB2.out.but (show Seg _ _ _ _ _ from HP2.out) (by decide) jF)
      have sJ:=bG.trans jF
      have JQ:=sJ.size
      have vg:=hid (pK HB2.out hb4)
      have FB:=hid (HS.out.value YG.out (by omega) (Or.inl ⟨rfl,rfl⟩))
      have mD:=hid mM
      clear wK hb4 mM HVV
      cases LK with
      | false=>
       have HN:=hid (FB.out.1 mD.out)
       clear FB mD
       go_wp2_with fail
       go_ret2
       exact⟨none,0,[],t4,false,rfl,World.ownsRow_nil _ _ _ _,sJ,Uh.out,by omega,by simp,HN.out⟩
      | true=>
       have HN:=hid (FB.out.2 v4 t4.toList mD.out)
       clear FB mD
       go_wp2_with fail
       refine(nD w4 w.heap.size _ _ _ out v4 fA.out jh.out vg.out (by omega) (by omega) (by omega)).mono ?_;rintro e w5 ⟨a5,c5,rfl,hb5,hg5⟩
       have wZ:=hid (Uh.out.grew (Below.refl _ _) fA.out hg5)
       have dR:=sJ.grew (Below.refl _ _) fA.out hg5
       have jM:=hid hb5
       have wE:(out++aO v4).length≤out.length+v4.length+2:=by rw[List.length_append];have:=dN (b:=v4) (by omega);omega
       generalize out++aO v4=eU at *
       clear hb5 hg5
       go_wp2_with fail
       go_roundg (gk-1)
       case rel=>exact⟨0+1,eU,t4,by omega,by go_num,by omega,by simp;omega,hid wZ.out,hid jM.out,dR,hid HN.out⟩
       case measure=>omega
     ·have acY:(0:Int)<(m:Int):=by omega
      have hmd:decide (m=0)=false:=by simp[hm0]
      rw[hmd] at hol
      simp only[cond_false] at hol
      go_wp2_with fail
      refine(take_any _ eb la ll lc t2 (ByteArray.mk #[44]) HP2.out).mono ?_;rintro e w3 ⟨t3,rfl,hb3,hp3,ht3⟩
      rw[OY] at ht3 ⊢
      have EW:=hid hp3
      have HT3:=hid ht3
      have HB3:=hid (HB2.out.but (show Seg _ _ _ _ _ from HP2.out) (by decide) hb3)
      have o7:=bG.trans hb3
      clear hp3 ht3
      cases hr3:(aK [44] t2.toList).isSome with
      | false=>
       have hte:t3=t2:=jG hr3 HT3.out
       subst hte
       have HN:=hid (HS.out.IZ YG.out hm0 (kK hr3))
       clear hr3
       go_wp2_with fail
       go_ret2
       exact⟨none,0,[],t3,false,rfl,World.ownsRow_nil _ _ _ _,o7,EW.out,by omega,by simp,HN.out⟩
      | true=>
       have ada:=hid (mF hr3 HT3.out)
       have hs3:t3.size<t2.size:=by rw[← aB,← aB t2,ada.out];simp
       clear hr3
       have hv:=HV.out w3 eb lo la ll lc t3 base (HI.out.but H.out o7) EW.out (HE.out.but o7 hO) hO (by omega)
       rw[← HD.out] at hv
       have HVV:=hid hv
       clear hv
       go_wp2_with fail
       refine HVV.out.mono ?_;rintro e w4 ⟨a4,c4,v4,t4,LK,rfl,hb4,jF,wK,hs4,hl4,mM⟩
       have Uh:=hid wK
       have jh:=hid hb4
       have fA:=hid (HB3.out.but (show Seg _ _ _ _ _ from EW.out) (by decide) jF)
       have sJ:=o7.trans jF
       have JQ:=sJ.size
       have vg:=hid (pK HB3.out hb4)
       have FB:=hid (HS.out.value (T1:=t3.toList) YG.out (by omega) (Or.inr ⟨hm0,(by rw[ada.out];simp[aK,List.isPrefixOf])⟩))
       have mD:=hid mM
       clear wK hb4 mM HVV
       cases LK with
       | false=>
        have HN:=hid (FB.out.1 mD.out)
        clear FB mD
        go_wp2_with fail
        go_ret2
        exact⟨none,0,[],t4,false,rfl,World.ownsRow_nil _ _ _ _,sJ,Uh.out,by omega,by simp,HN.out⟩
       | true=>
        have HN:=hid (FB.out.2 v4 t4.toList mD.out)
        clear FB mD
        go_wp2_with fail
        refine(nD w4 w.heap.size _ _ _ out v4 fA.out jh.out vg.out (by omega) (by omega) (by omega)).mono ?_;rintro e w5 ⟨a5,c5,rfl,hb5,hg5⟩
        have wZ:=hid (Uh.out.grew (Below.refl _ _) fA.out hg5)
        have dR:=sJ.grew (Below.refl _ _) fA.out hg5
        have jM:=hid hb5
        have wE:(out++aO v4).length≤out.length+v4.length+2:=by rw[List.length_append];have:=dN (b:=v4) (by omega);omega
        generalize out++aO v4=eU at *
        clear hb5 hg5
        go_wp2_with fail
        go_roundg (gk-1)
        case rel=>exact⟨m+1,eU,t4,by omega,by go_num,by omega,by simp;omega,hid wZ.out,hid jM.out,dR,hid HN.out⟩
        case measure=>omega
def qA (X:List bY):Nat→List FD→List UInt8→Got
 | 0=>fun _ _=>none
 | n+1=>msgP (oh X n).1 (oh X n).2
theorem WC (X:List bY) (n:Nat):(oh X n).1=kW kV gu (tyP X) (qA X n):=by cases n<;>rfl
def aaJ (X:List bY) (n:Nat):Prop:=∀ (w:World) (eb lo:Nat) (la:Option Addr) (ll lc:Nat) (t:ByteArray) (fv:Value) (fs:List bD),fQ w lo (.slice la ll lc) X→Pe w eb (.slice la ll lc) t→Env w→Own eb→t.size≤400 →
 w.ownsRow lo 278 7 fv fs.length (fs.flatMap fJ)→fs.length≤400→(∀ f∈fs,0≤f.number∧f.number≤99)→(∀ f∈fs,1≤f.name.size∧f.name.size≤400) →
 Calls Tryz.prog 227 #[.pointer (some ⟨eb,0,none⟩),fv,.int .i64 ((7:Int)-n)] w (lG (qA X n (fs.map MH)) w eb (.slice la ll lc) t)
theorem ML (X:List bY):aaJ X 0:=by
 intro w eb lo la ll lc t fv fs hI h hE hO hs hF _ _ _
 unfold lG
 obtain⟨fa,fc,hfv⟩:∃ a c,fv=.slice a fs.length c:=ak hF
 subst hfv
 have H:=hid h
 clear h hI hE hF
 rw[show (7:Int)-(0:Nat)=7 by omega]
 go_enter func227,ntmps227
 go_wp2_with fail
 go_ret2
 exact⟨none,0,[],t,false,rfl,World.ownsRow_nil _ _ _ _,But.refl _ _,H.out,Nat.le_refl _,by simp,rfl⟩
theorem WE {X:List bY} {n:Nat} (hn:n≤6) (hV:Tc X n) (hL:Td X n):aaJ X (n+1) :=
 fun w eb lo la ll lc t fv fs hI h hE hO hs hF hl hnum hnm=>Jb hV hL w eb lo la ll lc t fv fs _ (by omega) hn hI h hE hO hs hF hl hnum hnm
theorem Ey {X:List bY} {n:Nat} (hM:aaJ X n) (hX:Wp X):Tc X n:=by
 intro w eb lo la ll lc t base hI h hE hO hs
 obtain⟨d,hd⟩:∃ d:Int,d=(7:Int)-(n:Int):=⟨_,rfl⟩
 rw[← hd]
 rw[WC]
 have e0:=h.items
 have H:=hid h
 have HE:=hid hE
 have HI:=hid hI
 have HM:=hid hM
 have HD:=hid hd
 have HX:=hid hX
 clear h hE hI hM hd hX
 cases hb1:(base.toList==[105,110,116]) with
 | true=>
  have HS:=hid (show kW kV gu (tyP X) (qA X n) base.toList t.toList=uw kV t.toList by unfold kW;rw[if_pos (by simpa[IQ] using hb1)])
  go_enter func170,ntmps170
  go_wp2_with fail
  refine(Ja w eb la ll lc t H.out hs HE.out hO).mono ?_;intro e w1 h1
  have HP:=hid (h1.turn HS.out)
  obtain⟨a,c,out,t',ok,rfl,_⟩:=h1
  go_wp2_with fail
  go_ret2
  exact HP.out
 | false=>
  cases hb2:(base.toList==[98,111,111,108]) with
  | true=>
   have HS:=hid (show kW kV gu (tyP X) (qA X n) base.toList t.toList=oQ gu ([ByteArray.mk #[102,97,108,115,101],ByteArray.mk #[116,114,117,101]].map ByteArray.toList) t.toList by
    unfold kW;rw[if_neg (by simpa[IQ] using hb1),if_pos (by simpa[DY] using hb2)]
    simp[ByteArray.toList_eq,nX])
   go_enter func170,ntmps170
   go_wp2_with fail
   have hw0:Below w.heap.size w (w.alloc (.cells #[.string (ByteArray.mk #[102,97,108,115,101]),.string (ByteArray.mk #[116,114,117,101])] 9)):=(Below.refl _ _).alloc (Nat.le_refl _) _
   refine(Eu _ eb w.heap.size la ll lc t _ [ByteArray.mk #[102,97,108,115,101],ByteArray.mk #[116,114,117,101]] (H.out.same (hw0.block eb H.out.lt)) hs (by have:=World.ownsRow_lit (base:=w.heap.size) (e:=9) (size:=1) w #[.string (ByteArray.mk #[102,97,108,115,101]),.string (ByteArray.mk #[116,114,117,101])] 2 (by simp) (by unfold maxLen;omega) rfl;simpa[aY] using this) (by simp) (by decide)).mono ?_
   intro e w1 h1
   have HP:=hid ((h1.back hw0).turn HS.out)
   obtain⟨a,c,out,t',ok,rfl,_⟩:=h1
   go_wp2_with fail
   go_ret2
   exact HP.out
  | false=>
   cases hb3:(base.toList==[116,101,120,116]) with
   | true=>
    have HS:=hid (show kW kV gu (tyP X) (qA X n) base.toList t.toList=uV t.toList by unfold kW;rw[if_neg (by simpa[IQ] using hb1),if_neg (by simpa[DY] using hb2),if_pos (by simpa[wText] using hb3)])
    go_enter func170,ntmps170
    go_wp2_with fail
    refine(Me w eb la ll lc t H.out hs).mono ?_;intro e w1 h1
    have HP:=hid (h1.turn HS.out)
    obtain⟨a,c,out,t',ok,rfl,_⟩:=h1
    go_wp2_with fail
    go_ret2
    exact HP.out
   | false=>
    have HS:=hid (show kW kV gu (tyP X) (qA X n) base.toList t.toList=(match tyP X base.toList with | none=>none | some (.inl ns)=>oQ gu ns t.toList | some (.inr fs)=>qA X n fs t.toList) by unfold kW;rw[if_neg (by simpa[IQ] using hb1),if_neg (by simpa[DY] using hb2),if_neg (by simpa[wText] using hb3)];cases tyP X base.toList with | none=>rfl | some t=>cases t<;>rfl)
    go_enter func170,ntmps170
    go_wp2_with fail
    refine(Ew _ lo _ X base HI.out HX.out.nms HX.out.len).mono ?_;rintro e w1 ⟨sG,hT⟩
    have qo:=hid (H.out.same (sG.block eb H.out.lt))
    rcases hT with⟨hneg,rfl⟩ | ⟨k,x,nn,hk,hx,hkd,hvf,hvn,rfl⟩
    ·have HSN:=hid (show kW kV gu (tyP X) (qA X n) base.toList t.toList=none by
      rw[HS.out]
      have:tyP X base.toList=none:=by unfold tyP;split<;>simp[hneg]
      rw[this])
     clear hneg
     go_wp2_with fail
     go_ret2
     have hba:Below w.heap.size w (w1.alloc (.cells #[.int .i64 0,.string ⟨#[]⟩,.int .i64 0,.slice none 0 0,.slice none 0 0,.string ⟨#[]⟩,.int .i64 0,.string ⟨#[]⟩,.int .i64 0] 135)):=sG.alloc sG.size _
     exact⟨none,0,[],t,false,rfl,World.ownsRow_nil _ _ _ _,But.dJ hba,H.out.same (hba.block eb H.out.lt),Nat.le_refl _,by simp,HSN.out⟩
    ·have hxm:=List.mem_of_getElem? hx
     have hI1:=HI.out.below sG
     have hfl:=HX.out.fl x hxm
     have hnl:=HX.out.nl x hxm
     have HFO:=hid (hI1.nest x hxm).f
     have XL:=hid (hI1.nest x hxm).n
     rw[hvf] at HFO
     rw[hvn] at XL
     have HNU:=hid (HX.out.n x hxm)
     have YG:=hid (HX.out.s x hxm)
     have Fp:=hid (HX.out.nn x hxm)
     have ZB:=hid (show tyP X base.toList=if x.it.kind=0 then some (.inr (x.it.fields.map MH)) else some (.inl (x.it.names.map fun t=>t.text.toList)) by unfold tyP;rw[hk];simp only[Int.toNat_natCast,hx];rw[if_neg (by omega)])
     obtain⟨it,vf,vn⟩:=x
     obtain⟨kind,nm,fields,names,bs,an⟩:=it
     obtain⟨ifa,ifc,ina,inc,ibb,iba,iab,iaa⟩:=nn
     simp only at hkd hfl hnl HFO XL HNU YG Fp ZB ⊢
     clear hk hx hxm hvf hvn hI1
     have hba:Below w.heap.size w (w1.alloc (.cells #[.int .i64 kind,.string nm.text,.int .i64 nm.at_,.slice ifa fields.length ifc,.slice ina names.length inc,.string ibb,.int .i64 iba,.string iab,.int .i64 iaa] 135)):=sG.alloc sG.size _
     have adb:Below w1.heap.size w1 (w1.alloc (.cells #[.int .i64 kind,.string nm.text,.int .i64 nm.at_,.slice ifa fields.length ifc,.slice ina names.length inc,.string ibb,.int .i64 iba,.string iab,.int .i64 iaa] 135)):=(Below.refl _ _).alloc (Nat.le_refl _) _
     rcases hkd with rfl | rfl
     ·have Yx:=hid (show kW kV gu (tyP X) (qA X n) base.toList t.toList=qA X n (fields.map MH) t.toList by rw[HS.out,ZB.out];rfl)
      go_wp2_with fail
      refine(HM.out _ eb lo la ll lc t _ fields (HI.out.below hba) (H.out.same (hba.block eb H.out.lt)) (HE.out.below hba) hO hs (au HFO.out (fun g hg=>adb.block g (HFO.out.lt g hg).2)) hfl HNU.out YG.out |> fun z=>by rw[HD.out];exact z:Calls _ _ _ _ _).mono ?_
      intro e w2 h2
      have HP:=hid ((h2.back hba).turn Yx.out)
      obtain⟨a,c,out,t',ok,rfl,_⟩:=h2
      go_wp2_with fail
      go_ret2
      exact HP.out
     ·have Yx:=hid (show kW kV gu (tyP X) (qA X n) base.toList t.toList=oQ gu ((names.map fun t=>t.text).map ByteArray.toList) t.toList by rw[HS.out,ZB.out];simp[List.map_map,Function.comp_def])
      go_wp2_with fail
      refine(MK _ lo _ _ _ _ _ _ _ _ _ _ _ _ names (au XL.out (fun g hg=>adb.block g (XL.out.lt g hg).2)) hnl).mono ?_;rintro e w2 ⟨ca,cc,rfl,hown2,hb2⟩
      have ade:Below w.heap.size w w2:=hba.trans (hb2.mono hba.size)
      have Zm:=hid hown2
      clear hown2
      go_wp2_with fail
      refine(Eu w2 eb _ la ll lc t _ (names.map fun t=>t.text) (H.out.same (ade.block eb H.out.lt)) hs (by have:=Zm.out;rw[List.length_map,List.map_map];exact this) (by rw[List.length_map];exact hnl) (fun q hq=>by obtain⟨y,hy,rfl⟩:=List.mem_map.1 hq;exact(Fp.out y hy).1)).mono ?_
      intro e w3 h3
      have HP:=hid ((h3.back ade).turn Yx.out)
      obtain⟨a,c,out,t',ok,rfl,_⟩:=h3
      go_wp2_with fail
      go_ret2
      exact HP.out
theorem Qq {X:List bY} (hX:Wp X):∀ n,n≤6→Tc X n∧Td X n
 | 0,_=>⟨Ey (ML X) hX,Jd X⟩
 | n+1,h=>by
  obtain⟨h1,h2⟩:=Qq hX n (by omega)
  exact⟨Ey (WE (by omega) h1 h2) hX,Tf (by omega) h1⟩
theorem Wp.of {s:ByteArray} {X:List bY} (hs:s.size≤400) (h:(dD s).1=some (X.map (fun x=>x.it))) (hl:X.length≤400):Wp X:=by
 obtain⟨_,_,_,Yw⟩:=vV h
 have hsm:=DV (su h) hs
 have src:∀ x∈X,SQ s x.it:=fun x hx=>xB h _ (List.mem_map.2 ⟨x,hx,rfl⟩)
 refine⟨fun x hx=>Yw x.it (List.mem_map.2 ⟨x,hx,rfl⟩),hl,fun x hx f hf=>?_,fun x hx f hf=>?_,hsm.f,hsm.n,fun x hx t ht=>((src x hx).n t ht).size hs⟩
 ·have:=((src x hx).f f hf).num;exact⟨by omega,this.2⟩
 ·obtain⟨t,ht,e⟩:=((src x hx).f f hf).name
  rw[e];exact ht.size hs
def AZ (X:List bY) (base v:ByteArray) (E:Int) (b:List UInt8):Prop :=
 (E=4∧b=[]∧hasB X base=false)∨(hasB X base=true ∧
  ((400<v.size∧E=1∧b=[])∨(v.size≤400 ∧
   (((∀ x,(oh X 6).1 base.toList v.toList≠some (x,[]))∧E=5∧b=[])∨∃ x,(oh X 6).1 base.toList v.toList=some (x,[])∧((64<x.length∧E=1∧b=[])∨(x.length≤64∧E=0∧b=x))))))
def MN (A:Int→List UInt8→Prop) (w:World) (e:Ending) (w':World):Prop:=∃ (a:Option Addr) (c:Nat) (b:List UInt8) (E:Int),e=.returned (.tuple #[.slice a b.length c,.int .i64 E])∧Below w.heap.size w w'∧gB w' w.heap.size (.slice a b.length c) b∧(E≠0→a=none∧c=0)∧A E b
theorem A8 (w:World) (lo:Nat) (la:Option Addr) (ll lc:Nat) (X:List bY) (base v:ByteArray) (hI:fQ w lo (.slice la ll lc) X) (hX:Wp X) (hE:Env w) (hO:∀ cb,w.heap.size≤cb→Own cb) (hv:v.size≤maxLen) :
  Calls Tryz.prog 112 #[.slice la ll lc,.string base,.string v] w (MN (AZ X base v) w):=by
 unfold MN
 unfold maxLen at hv
 have HI:=hid hI
 have HX:=hid hX
 have HE:=hid hE
 have HO:=hid hO
 clear hI hX hE hO
 go_enter func112,ntmps112
 go_wp2_with fail
 refine(Aw w lo _ X base HI.out HX.out.nms HX.out.len).mono ?_;rintro e w1 ⟨rfl,hb1⟩
 have hz1:=hb1.size
 cases hh:hasB X base with
 | false=>
  have HH:=hid hh
  clear hh
  go_wp2_with fail
  go_ret2
  exact⟨none,0,[],4,rfl,hb1,World.ownsRow_nil _ _ _ _,fun _=>⟨rfl,rfl⟩,Or.inl ⟨rfl,rfl,HH.out⟩⟩
 | true=>
  have HH:=hid hh
  clear hh
  by_cases h4:v.size≤400
  ·have h4I:¬ (400:Int)<(v.size:Int):=by omega
   have h4D:decide ((400:Int)<(v.size:Int))=false:=by simp;omega
   have hbW:Below w.heap.size w (w1.alloc (.cells #[.slice la ll lc,.string v] 256)):=hb1.alloc hb1.size _
   have HPW:=hid (show Pe (w1.alloc (.cells #[.slice la ll lc,.string v] 256)) w1.heap.size (.slice la ll lc) v from oI w1 _ _)
   have HIW:=hid (HI.out.below hbW)
   have HEW:=hid (HE.out.below hbW)
   have hzW:=hbW.size
   go_wp2_with fail
   generalize (w1.alloc (.cells #[.slice la ll lc,.string v] 256))=wW at *
   refine((Qq HX.out 6 (Nat.le_refl _)).1 wW w1.heap.size lo la ll lc v base HIW.out HPW.out HEW.out (HO.out _ hz1) h4).mono ?_
   rintro e w2 ⟨a2,c2,out,t2,ok,rfl,hb2,bG,hp2,hs2,hl2,hsp⟩
   have I7:=bG.below hbW hz1 (Nat.le_refl _)
   have HB2:=hid (own_base hb2 hzW:gB w2 w.heap.size _ out)
   have mD:=hid hsp
   have f1:=hp2.rest
   clear hb2 hsp hp2 bG hl2
   cases ok with
   | false=>
    go_wp2_with fail
    go_ret2
    refine⟨none,0,[],5,rfl,I7,World.ownsRow_nil _ _ _ _,fun _=>⟨rfl,rfl⟩,Or.inr ⟨HH.out,Or.inr ⟨h4,Or.inl ⟨fun x hx=>?_,rfl,rfl⟩⟩⟩⟩
    rw[mD.out] at hx;cases hx
   | true=>
    cases hem:t2.toList.isEmpty with
    | true=>
     have V9:=hid (show (oh X 6).1 base.toList v.toList=some (out,[]) from by rw[mD.out];simp only[List.isEmpty_iff.1 hem])
     by_cases h64:out.length≤64
     ·have aaE:¬ (64:Int)<(out.length:Int):=by omega
      have afV:decide ((64:Int)<(out.length:Int))=false:=by simp;omega
      go_wp2_with fail
      go_ret2
      exact⟨a2,c2,out,0,rfl,I7,HB2.out,fun h=>absurd rfl h,Or.inr ⟨HH.out,Or.inr ⟨h4,Or.inr ⟨out,V9.out,Or.inr ⟨h64,rfl,rfl⟩⟩⟩⟩⟩
     ·have aaE:(64:Int)<(out.length:Int):=by omega
      go_wp2_with fail
      go_ret2
      exact⟨none,0,[],1,rfl,I7,World.ownsRow_nil _ _ _ _,fun _=>⟨rfl,rfl⟩,Or.inr ⟨HH.out,Or.inr ⟨h4,Or.inr ⟨out,V9.out,Or.inl ⟨by omega,rfl,rfl⟩⟩⟩⟩⟩
    | false=>
     go_wp2_with fail
     go_ret2
     refine⟨none,0,[],5,rfl,I7,World.ownsRow_nil _ _ _ _,fun _=>⟨rfl,rfl⟩,Or.inr ⟨HH.out,Or.inr ⟨h4,Or.inl ⟨fun x hx=>?_,rfl,rfl⟩⟩⟩⟩
     rw[mD.out] at hx
     simp only[Option.some.injEq,Prod.mk.injEq] at hx
     rw[hx.2] at hem;cases hem
  ·have h4I:(400:Int)<(v.size:Int):=by omega
   go_wp2_with fail
   go_ret2
   exact⟨none,0,[],1,rfl,hb1,World.ownsRow_nil _ _ _ _,fun _=>⟨rfl,rfl⟩,Or.inr ⟨HH.out,Or.inl ⟨by omega,rfl,rfl⟩⟩⟩
def Je (s base v:ByteArray) (E:Int) (b:List UInt8):Prop :=
 (E=8∧b=[]∧∃ E0 P0,bM s E0 P0∧E0≠0)∨∃ X,bM s 0 0∧s.size≤400∧(dD s).1=some (X.map (fun x=>x.it))∧AZ X base v E b
theorem bM.zero {s:ByteArray} {P:Int} (h:bM s 0 P):s.size≤400∧P=0:=by
 rcases h with⟨_,e,_⟩ | ⟨h4,⟨_,e,_⟩ | ⟨X,_,⟨m,_,_,e,_⟩ | ⟨_,_,e⟩⟩⟩
 ·omega
 ·omega
 ·omega
 ·exact⟨h4,e⟩
theorem bM.range {s:ByteArray} {E P:Int} (h:bM s E P):0≤E∧E≤3:=by
 rcases h with⟨_,e,_⟩ | ⟨h4,⟨_,e,_⟩ | ⟨X,_,⟨m,_,_,e,_⟩ | ⟨_,e,_⟩⟩⟩<;>omega
theorem WG {f:bD} (h:f.shape≤2):uj (ni f)=MH f:=by
 have:f.shape=0∨f.shape=1∨f.shape=2:=by omega
 unfold uj ni MH
 rcases this with e | e | e<;>simp only[e]<;>unfold lD jH<;>simp[ByteArray.toList_eq,je,kZ,iY]
theorem YH {X:List bY} {Y:List IV} (h:Twin X Y) (hs:∀ x∈X,∀ f∈x.it.fields,f.shape≤2):GK Y=tyP X:=by
 funext b
 unfold GK tyP
 rw[h.find b]
 cases hx:X[(bT X b).toNat]? with
 | none=>
  cases hy:Y[(bT X b).toNat]? with
  | none=>rfl
  | some y=>obtain⟨x,hx',_⟩:=h.atR hy;rw[hx] at hx';cases hx'
 | some x=>
  obtain⟨y,hy,e⟩:=h.atP hx
  rw[hy]
  simp only
  have hk:jH y.it.kind aX=(x.it.kind==0):=by rw[e];exact AP _
  have hf:y.it.fields.map uj=x.it.fields.map MH:=by
   rw[e]
   show (x.it.fields.map ni).map uj=_
   rw[List.map_map]
   apply List.map_congr_left
   intro f hf
   exact WG (hs x (List.mem_of_getElem? hx) f hf)
  have hn:y.it.names.map ByteArray.toList=x.it.names.map (fun t=>t.text.toList):=by
   rw[e]
   show (x.it.names.map aF.text).map ByteArray.toList=_
   rw[List.map_map];rfl
  rw[hk,hf,hn]
  by_cases h0:x.it.kind=0<;>simp[h0]
theorem yX {s base v:ByteArray} {E E':Int} {b b':List UInt8} (hp:Je s base v E b) (hr:zO s base v E' b'):E=E'∧b=b':=by
 rcases hp with⟨e1,e2,E0,P0,hA,hne⟩ | ⟨X,hA,h4,hX,hp⟩
 ·rcases hr with⟨f1,f2,_⟩ | ⟨Y,hR,_⟩
  ·exact⟨by rw[e1,f1],by rw[e2,f2]⟩
  ·exact absurd (eP hR hA).1.symm hne
 ·rcases hr with⟨f1,f2,E0,P0,hR,hne⟩ | ⟨Y,hR,hS,hr⟩
  ·exact absurd (eP hR hA).1 hne
  ·have hq:=yI s
   rw[hX] at hq
   simp only at hq
   have hT:Twin X Y:=by
    have:=hS.go
    rw[hq] at this
    unfold Twin
    simp only[Option.some.injEq] at this
    rw[← this,List.map_map];rfl
   have hF:=su hX
   have hty:=YH hT hF.shapes
   have hB:=rY hT base
   have hN:vY (tyP X):=by rw[← hty];exact hS.names
   have hsame:∀ x,(oh X 6).1 base.toList v.toList=some (x,[])↔(encR Y 6).1 base.toList v.toList=some (x,[]):=fun x=>by
    show _↔(sD bF bF (GK Y) 6).1 _ _=_
    rw[hty];exact VJ hN 6 base.toList v.toList x
   rcases hp with⟨e1,e2,hp⟩ | ⟨hp,hp2⟩
   ·rcases hr with⟨f1,f2,_⟩ | ⟨hr,_⟩
    ·exact⟨by rw[e1,f1],by rw[e2,f2]⟩
    ·rw[hB,hp] at hr;cases hr
   ·rcases hr with⟨f1,f2,hr⟩ | ⟨hr,hr2⟩
    ·rw[hB,hp] at hr;cases hr
    ·rcases hp2 with⟨g1,e1,e2⟩ | ⟨g1,hp3⟩
     ·rcases hr2 with⟨_,f1,f2⟩ | ⟨g2,_⟩
      ·exact⟨by rw[e1,f1],by rw[e2,f2]⟩
      ·omega
     ·rcases hr2 with⟨g2,_⟩ | ⟨_,hr3⟩
      ·omega
      ·rcases hp3 with⟨hno,e1,e2⟩ | ⟨x,hx,wK⟩
       ·rcases hr3 with⟨_,f1,f2⟩ | ⟨y,hy,_⟩
        ·exact⟨by rw[e1,f1],by rw[e2,f2]⟩
        ·exact absurd ((hsame y).2 hy) (hno y)
       ·rcases hr3 with⟨hno,_⟩ | ⟨y,hy,hr4⟩
        ·exact absurd ((hsame x).1 hx) (hno x)
        ·have hxy:x=y:=by
          have:=(hsame x).1 hx
          rw[hy] at this;simpa using this.symm
         subst hxy
         rcases wK with⟨q1,e1,e2⟩ | ⟨q1,e1,e2⟩<;>rcases hr4 with⟨q2,f1,f2⟩ | ⟨q2,f1,f2⟩
         ·exact⟨by rw[e1,f1],by rw[e2,f2]⟩
         ·omega
         ·omega
         ·exact⟨by rw[e1,f1],by rw[e2,f2]⟩
theorem zO.range {s base v:ByteArray} {E:Int} {b:List UInt8} (h:zO s base v E b):(E=0∧b.length≤64)∨((E=1∨E=4∨E=5∨E=8)∧b=[]):=by
 rcases h with⟨e,hb,_⟩ | ⟨Y,_,_,⟨e,hb,_⟩ | ⟨_,⟨_,e,hb⟩ | ⟨_,⟨_,e,hb⟩ | ⟨x,_,⟨_,e,hb⟩ | ⟨hl,e,hb⟩⟩⟩⟩⟩
 ·exact Or.inr ⟨by omega,hb⟩
 ·exact Or.inr ⟨by omega,hb⟩
 ·exact Or.inr ⟨by omega,hb⟩
 ·exact Or.inr ⟨by omega,hb⟩
 ·exact Or.inr ⟨by omega,hb⟩
 ·exact Or.inl ⟨e,by rw[hb];exact hl⟩
end Go.Proofs.YtgalebcpagmohaaGreatDoor
