/- The decoder at every level. -/
import Derived.Test.YtolfcabodiphmaaGreatDoorV15
import Derived.Lib.UnsafeStr
import Derived.Test.YtolfcabodiphmaaGreatDoorV12
import Derived.Test.YtolfcabodiphmaaGreatDoorV14
set_option linter.unusedSimpArgs false
set_option linter.unusedVariables false
set_option maxHeartbeats 4000000
set_option maxRecDepth 100000
namespace Go.Proofs.YtolfcabodiphmaaGreatDoor
open Go.Proofs.Tryz
theorem OI{X:List aO}(hX:OD X)(hN:∀ x∈X,x.it.fields.Pairwise fun f g=>f.number≠g.number):∀ n,n≤6→Vq X n∧Vr X n
 | 0,_=>⟨CB (J4 X) hX hN,Hf X⟩
 | n+1,h=>by
  obtain⟨h1,h2⟩:=OI hX hN n (by omega)
  exact⟨CB (VD (by omega) h1 h2) hX hN,Ri (by omega) h1⟩
open Go.RowKit
theorem VE(w:World)(db lo:Nat)(lv v:Value)(L:List UInt8)(h:yH w db lo lv v L):
  Calls Tryz.prog 205 #[.pointer (some ⟨db,1,none⟩)] w fun e w'=>e=.returned (.int .i64 L.length)∧w'=w:=by
 obtain⟨la,lc,hlv⟩:∃ a c,v=.slice a L.length c:=ay h.o
 obtain⟨p,_,hd⟩:=h.d
 subst hlv
 have c2:=hd.seg.cell (j:=2) rfl
 simp only[Nat.zero_add] at c2
 clear h hd
 go_enter func205,ntmps205
 go_wp2_with fail
 go_ret
 exact⟨rfl,rfl⟩
theorem Tryz.cellsByte:Tryz.prog.cellsOf 5 = 1:=by kernel_rfl
theorem J6(w:World)(db lo:Nat)(lv v:Value)(L:List UInt8)(h:yH w db lo lv v L)(h0:L≠[]):
  Calls Tryz.prog 206 #[.pointer (some ⟨db,1,none⟩)] w fun e w'=>e=.returned (.string ⟨L.toArray⟩)∧Below lo w w':=by
 obtain⟨p,_,hd⟩:=h.d
 have hown:=h.o
 have hl0:L.length≠0:=by simpa using h0
 obtain⟨g,cap,cur,rfl,hbg,hg,hnc,hcm,hcs,htake⟩:∃ g cap cur,v=.slice (some ⟨g,0,none⟩) L.length cap∧lo≤g∧w.heap[g]? = some (.cells cur 5 (0,0))∧L.length≤cap∧cap≤maxLen∧cur.size=cap*1∧cur.toList.take (L.length*1)=L.map aZ:=by
  rcases hown.2 with⟨_,hz⟩ | ⟨g,cap,cur,hv,r⟩
  ·exact absurd hz hl0
  ·exact⟨g,cap,cur,hv,r⟩
 have c2:w.drew.cell? ⟨db,2,none⟩=some (.slice (some ⟨g,0,none⟩) L.length cap):=by
  have:=hd.seg.cell (j:=2) rfl
  simpa using this
 have hSD:(Builtin.unsafeSliceData_ #[64] 331 #[.slice (some ⟨g,0,none⟩) L.length cap]).run Tryz.prog w.drew=.ok (.pointer (some ⟨g,0,none⟩)) w.drew :=
  Lib.run_unsafeSliceData_row _ _ _ _ _ _ (by omega)
 have hUS:(Builtin.unsafeString_ #[331,3] 9 #[.pointer (some ⟨g,0,none⟩),.int .i64 L.length]).run Tryz.prog w.drew=.ok (.string ⟨L.toArray⟩) (w.drew.freeze ⟨g,0,none⟩ L.length):=by
  refine Lib.run_unsafeString_row w.drew 331 3 9 5 underlying331 Tryz.cellsByte g cur.size (by have hg':w.drew.heap[g]? = some (.cells cur 5 (0,0)):=hg;simp[World.shape?,hg']) L h0 (by omega) (by unfold maxLen at hcm;omega) ?_
  intro j x hx
  have:=hown.cells (g:=g) rfl j (.int .u8 x.toNat) (by rw[List.getElem?_map,hx];rfl)
  exact this
 clear h hd hown htake hcs hcm hg hnc
 have mixed:Tryz.prog.follows Departure.mixedOrders=true:=by kernel_rfl
 go_enter func206,ntmps206
 go_wp2
 go_region_o
 all_goals (go_wp2;go_ret;exact⟨rfl,Lib.below_freeze (Below.drew (Below.refl lo w)) (p:=⟨g,0,none⟩) hbg _⟩)
theorem Hr(X:List aO):Q8 X 0:=by
 intro w eb lo la ll lc t base hI h hE hO hs
 unfold jA
 have H:=hid h
 clear h hI hE
 rw[show (7:Int)-(0:Nat)=7 by omega]
 go_enter func200,ntmps200
 go_wp2_with fail
 go_ret2
 exact⟨none,0,[],t,false,rfl,World.ownsRow_nil _ _ _ _,But.refl _ _,H.out,Nat.le_refl _,by simp,rfl⟩
theorem Rk{X:List aO}{n:Nat}(hn6:n≤6)(hV:Q7 X n):Q8 X (n+1):=by
 intro w eb lo la ll lc t base hI h hE hO hs
 unfold jA
 obtain⟨d,hd⟩:∃ d:Int,d=(7:Int)-((n+1:Nat):Int):=⟨_,rfl⟩
 rw[← hd]
 have HD:=hid (show d+1=(7:Int)-n by omega)
 have hd6:¬ (6:Int)<d:=by omega
 have hdD:decide ((6:Int)<d)=false:=by simp;omega
 have hdl:(0:Int)≤d:=by omega
 have hdu:d≤6:=by omega
 clear hd
 have H:=hid h
 have HI:=hid hI
 have HE:=hid hE
 have HV:=hid hV
 clear h hI hE hV
 obtain⟨G,hG⟩:∃ G,(jP X (n+1)).2 base.toList t.toList=G:=⟨_,rfl⟩
 rw[hG]
 have HG:=hid (show G=(dJ [91] t.toList).bind (uY ((jP X n).1 base.toList) 16 true) by rw[← hG];rfl)
 clear hG
 go_enter func200,ntmps200
 go_wp2_with fail
 refine(take_any w eb la ll lc t (ByteArray.mk #[91]) H.out).mono ?_;rintro e w1 ⟨t1,rfl,hb1,hp1,ht1⟩
 rw[Va] at ht1 ⊢
 have jJ:=hid hp1
 have HT1:=hid ht1
 clear hp1 ht1
 cases hr:(dJ [91] t.toList).isSome with
 | false=>
  have HR:=hid hr
  clear hr
  have hte:t1=t:=iG HR.out HT1.out
  subst hte
  go_wp2_with fail
  go_ret2
  exact⟨none,0,[],t1,false,rfl,World.ownsRow_nil _ _ _ _,hb1,jJ.out,Nat.le_refl _,by simp,by rw[HG.out,lD HR.out];rfl⟩
 | true=>
  have uN:=hid (jL hr HT1.out)
  clear hr
  have hs1:t1.size<t.size:=by rw[← aF,← aF t,uN.out];simp
  have HL0:=hid (show Vj G ((jP X n).1 base.toList) t1.toList 0 [] from⟨by omega,by rw[HG.out,uN.out];simp[dJ,List.isPrefixOf]⟩)
  have hz1:=hb1.size
  go_wp2_with fail
  go_loopg [8,9,10,11] 17 (fun gk d8 c9 x10 x11 wr=>∃ (m:Nat) (out:List UInt8) (tr:ByteArray),m+gk=17∧c9=.int .i64 m∧tr.size≤t1.size∧out.length+(bif decide (m=0) then 2 else 0)≤2*(t.size-tr.size)∧Hid (Pe wr eb (.slice la ll lc) tr)∧Hid (gZ wr w.heap.size d8 out)∧But eb w wr∧Hid (Vj G ((jP X n).1 base.toList) tr.toList m out))
  case atStart=>exact⟨0,[],t1,by omega,rfl,Nat.le_refl _,by simp;omega,hid jJ.out,hid (World.ownsRow_nil _ _ _ _),hb1,hid HL0.out⟩
  case round=>
   obtain⟨m,out,tr,hm,rfl,hle,hol,HP,HB,uz,HS⟩:=hrel
   obtain⟨oa,oc,hov⟩:∃ a c,u8=.slice a out.length c:=ay HB.out
   subst hov
   have aia:m≤16:=HS.out.1
   go_wp2_with fail
   refine(take_any _ eb la ll lc tr (ByteArray.mk #[93]) HP.out).mono ?_;rintro e w2 ⟨t2,rfl,hb2,hp2,ht2⟩
   rw[aez] at ht2 ⊢
   have HP2:=hid hp2
   have HT2:=hid ht2
   have HB2:=hid (HB.out.but (show Seg _ _ _ _ _ from HP.out) (by decide) hb2)
   have jk:=uz.trans hb2
   clear hp2 ht2
   cases hr2:(dJ [93] tr.toList).isSome with
   | true=>
    have JD:=hid (jL hr2 HT2.out)
    have hs2:t2.size<tr.size:=by rw[← aF,← aF tr,JD.out];simp
    have HF:=hid (HS.out.shut (r:=t2.toList) (by rw[JD.out];simp[dJ,List.isPrefixOf]))
    clear hr2
    go_wp2_with fail
    go_ret2
    exact⟨oa,oc,out,t2,true,rfl,HB2.out,jk,HP2.out,by omega,by omega,HF.out⟩
   | false=>
    have hte:t2=tr:=iG hr2 HT2.out
    subst hte
    have Vk:=hid (lD hr2)
    clear hr2
    by_cases h16:m=16
    ·subst h16
     have HN:=hid (HS.out.full Vk.out)
     go_wp2_with fail
     go_ret2
     exact⟨none,0,[],t2,false,rfl,World.ownsRow_nil _ _ _ _,jk,HP2.out,by omega,by simp,HN.out⟩
    ·have aib:¬ (m:Int)=16:=by omega
     have aic:((m:Int)==16)=false:=by simp;omega
     by_cases hm0:m=0
     ·subst hm0
      simp only[decide_true,cond_true] at hol
      have hv:=HV.out w2 eb lo la ll lc t2 base (HI.out.but H.out jk) HP2.out (HE.out.but jk hO) hO (by omega)
      rw[← HD.out] at hv
      have HVV:=hid hv
      clear hv
      go_wp2_with fail
      refine HVV.out.mono ?_;rintro e w4 ⟨a4,c4,v4,t4,YB,rfl,hb4,Ho,vT,hs4,hl4,xE⟩
      have JE:=hid vT
      have Rj:=hid hb4
      have CJ:=hid (HB2.out.but (show Seg _ _ _ _ _ from HP2.out) (by decide) Ho)
      have oQ:=jk.trans Ho
      have hz4:=oQ.size
      have XZ:=hid (GZ HB2.out hb4)
      have YH:=hid (HS.out.value Vk.out (by omega) (Or.inl ⟨rfl,rfl⟩))
      have uG:=hid xE
      clear vT hb4 xE HVV
      cases YB with
      | false=>
       have HN:=hid (YH.out.1 uG.out)
       clear YH uG
       go_wp2_with fail
       go_ret2
       exact⟨none,0,[],t4,false,rfl,World.ownsRow_nil _ _ _ _,oQ,JE.out,by omega,by simp,HN.out⟩
      | true=>
       have HN:=hid (YH.out.2 v4 t4.toList uG.out)
       clear YH uG
       go_wp2_with fail
       refine(ku w4 w.heap.size _ _ _ out v4 CJ.out Rj.out XZ.out (by omega) (by omega) (by omega)).mono ?_;rintro e w5 ⟨a5,c5,rfl,hb5,hg5⟩
       have Ad:=hid (JE.out.grew (Below.refl _ _) CJ.out hg5)
       have Fg:=oQ.grew (Below.refl _ _) CJ.out hg5
       have E5:=hid hb5
       have aeN:(out++gU v4).length≤out.length+v4.length+2:=by rw[List.length_append];have:=vC (b:=v4) (by omega);omega
       generalize out++gU v4=J3 at *
       clear hb5 hg5
       go_wp2_with fail
       go_roundg (gk-1)
       case rel=>exact⟨0+1,J3,t4,by omega,by go_num,by omega,by simp;omega,hid Ad.out,hid E5.out,Fg,hid HN.out⟩
       case measure=>omega
     ·have anM:(0:Int)<(m:Int):=by omega
      have hmd:decide (m=0)=false:=by simp[hm0]
      rw[hmd] at hol
      simp only[cond_false] at hol
      go_wp2_with fail
      refine(take_any _ eb la ll lc t2 (ByteArray.mk #[44]) HP2.out).mono ?_;rintro e w3 ⟨t3,rfl,hb3,hp3,ht3⟩
      rw[abx] at ht3 ⊢
      have iR:=hid hp3
      have HT3:=hid ht3
      have HB3:=hid (HB2.out.but (show Seg _ _ _ _ _ from HP2.out) (by decide) hb3)
      have zC:=jk.trans hb3
      clear hp3 ht3
      cases hr3:(dJ [44] t2.toList).isSome with
      | false=>
       have hte:t3=t2:=iG hr3 HT3.out
       subst hte
       have HN:=hid (HS.out.Yx Vk.out hm0 (lD hr3))
       clear hr3
       go_wp2_with fail
       go_ret2
       exact⟨none,0,[],t3,false,rfl,World.ownsRow_nil _ _ _ _,zC,iR.out,by omega,by simp,HN.out⟩
      | true=>
       have ae5:=hid (jL hr3 HT3.out)
       have hs3:t3.size<t2.size:=by rw[← aF,← aF t2,ae5.out];simp
       clear hr3
       have hv:=HV.out w3 eb lo la ll lc t3 base (HI.out.but H.out zC) iR.out (HE.out.but zC hO) hO (by omega)
       rw[← HD.out] at hv
       have HVV:=hid hv
       clear hv
       go_wp2_with fail
       refine HVV.out.mono ?_;rintro e w4 ⟨a4,c4,v4,t4,YB,rfl,hb4,Ho,vT,hs4,hl4,xE⟩
       have JE:=hid vT
       have Rj:=hid hb4
       have CJ:=hid (HB3.out.but (show Seg _ _ _ _ _ from iR.out) (by decide) Ho)
       have oQ:=zC.trans Ho
       have hz4:=oQ.size
       have XZ:=hid (GZ HB3.out hb4)
       have YH:=hid (HS.out.value (T1:=t3.toList) Vk.out (by omega) (Or.inr ⟨hm0,(by rw[ae5.out];simp[dJ,List.isPrefixOf])⟩))
       have uG:=hid xE
       clear vT hb4 xE HVV
       cases YB with
       | false=>
        have HN:=hid (YH.out.1 uG.out)
        clear YH uG
        go_wp2_with fail
        go_ret2
        exact⟨none,0,[],t4,false,rfl,World.ownsRow_nil _ _ _ _,oQ,JE.out,by omega,by simp,HN.out⟩
       | true=>
        have HN:=hid (YH.out.2 v4 t4.toList uG.out)
        clear YH uG
        go_wp2_with fail
        refine(ku w4 w.heap.size _ _ _ out v4 CJ.out Rj.out XZ.out (by omega) (by omega) (by omega)).mono ?_;rintro e w5 ⟨a5,c5,rfl,hb5,hg5⟩
        have Ad:=hid (JE.out.grew (Below.refl _ _) CJ.out hg5)
        have Fg:=oQ.grew (Below.refl _ _) CJ.out hg5
        have E5:=hid hb5
        have aeN:(out++gU v4).length≤out.length+v4.length+2:=by rw[List.length_append];have:=vC (b:=v4) (by omega);omega
        generalize out++gU v4=J3 at *
        clear hb5 hg5
        go_wp2_with fail
        go_roundg (gk-1)
        case rel=>exact⟨m+1,J3,t4,by omega,by go_num,by omega,by simp;omega,hid Ad.out,hid E5.out,Fg,hid HN.out⟩
        case measure=>omega
def ni(X:List aO):Nat→List FD→List UInt8→Got
 | 0=>fun _ _=>none
 | n+1=>msgP (jP X n).1 (jP X n).2
theorem VF(X:List aO)(n:Nat):(jP X n).1=xu ng gu (tyP X) (ni X n):=by cases n<;>rfl
def abP(X:List aO)(n:Nat):Prop:=∀ (w:World) (eb lo:Nat) (la:Option Addr) (ll lc:Nat) (t:ByteArray) (fv:Value) (fs:List bI),dK w lo (.slice la ll lc) X→Pe w eb (.slice la ll lc) t→Env w→Own eb→t.size≤400 →
 w.ownsRow lo 242 7 fv fs.length (fs.flatMap dI)→fs.length≤400→(∀ f∈fs,0≤f.number∧f.number≤99)→(∀ f∈fs,1≤f.name.size∧f.name.size≤400) →
 Calls Tryz.prog 106 #[.pointer (some ⟨eb,0,none⟩),fv,.int .i64 ((7:Int)-n)] w (jA (ni X n (fs.map Ah)) w eb (.slice la ll lc) t)
theorem J7(X:List aO):abP X 0:=by
 intro w eb lo la ll lc t fv fs hI h hE hO hs hF _ _ _
 unfold jA
 obtain⟨fa,fc,hfv⟩:∃ a c,fv=.slice a fs.length c:=ay hF
 subst hfv
 have H:=hid h
 clear h hI hE hF
 rw[show (7:Int)-(0:Nat)=7 by omega]
 go_enter func106,ntmps106
 go_wp2_with fail
 go_ret2
 exact⟨none,0,[],t,false,rfl,World.ownsRow_nil _ _ _ _,But.refl _ _,H.out,Nat.le_refl _,by simp,rfl⟩
theorem VG{X:List aO}{n:Nat}(hn:n≤6)(hV:Q7 X n)(hL:Q8 X n):abP X (n+1) :=
 fun w eb lo la ll lc t fv fs hI h hE hO hs hF hl hnum hnm=>Hg hV hL w eb lo la ll lc t fv fs _ (by omega) hn hI h hE hO hs hF hl hnum hnm
theorem CO{X:List aO}{n:Nat}(hM:abP X n)(hX:OD X):Q7 X n:=by
 intro w eb lo la ll lc t base hI h hE hO hs
 obtain⟨d,hd⟩:∃ d:Int,d=(7:Int)-(n:Int):=⟨_,rfl⟩
 rw[← hd]
 rw[VF]
 have e0:=h.items
 have H:=hid h
 have HE:=hid hE
 have HI:=hid hI
 have HM:=hid hM
 have HD:=hid hd
 have HX:=hid hX
 clear h hE hI hM hd hX
 cases hb1:(base.toList==[105,110,116]) with
 | true=>
  have HS:=hid (show xu ng gu (tyP X) (ni X n) base.toList t.toList=QD ng t.toList by unfold xu;rw[if_pos (by simpa[D9] using hb1)])
  go_enter func78,ntmps78
  go_wp2_with fail
  refine(G8 w eb la ll lc t H.out hs HE.out hO).mono ?_;intro e w1 h1
  have HP:=hid (h1.turn HS.out)
  obtain⟨a,c,out,t',ok,rfl,_⟩:=h1
  go_wp2_with fail
  go_ret2
  exact HP.out
 | false=>
  cases hb2:(base.toList==[98,111,111,108]) with
  | true=>
   have HS:=hid (show xu ng gu (tyP X) (ni X n) base.toList t.toList=Js gu ([ByteArray.mk #[102,97,108,115,101],ByteArray.mk #[116,114,117,101]].map ByteArray.toList) t.toList by
    unfold xu;rw[if_neg (by simpa[D9] using hb1),if_pos (by simpa[zx] using hb2)]
    simp[ByteArray.toList_eq,oM])
   go_enter func78,ntmps78
   go_wp2_with fail
   have hw0:Below w.heap.size w (w.alloc (.cells #[.string (ByteArray.mk #[102,97,108,115,101]),.string (ByteArray.mk #[116,114,117,101])] 9)):=(Below.refl _ _).alloc (Nat.le_refl _) _
   refine(Cc _ eb w.heap.size la ll lc t _ [ByteArray.mk #[102,97,108,115,101],ByteArray.mk #[116,114,117,101]] (H.out.same (hw0.block eb H.out.lt)) hs (by have:=World.ownsRow_lit (base:=w.heap.size) (e:=9) (size:=1) w #[.string (ByteArray.mk #[102,97,108,115,101]),.string (ByteArray.mk #[116,114,117,101])] 2 (by simp) (by unfold maxLen;omega) rfl;simpa[jd] using this) (by simp) (by decide)).mono ?_
   intro e w1 h1
   have HP:=hid ((h1.back hw0).turn HS.out)
   obtain⟨a,c,out,t',ok,rfl,_⟩:=h1
   go_wp2_with fail
   go_ret2
   exact HP.out
  | false=>
   cases hb3:(base.toList==[116,101,120,116]) with
   | true=>
    have HS:=hid (show xu ng gu (tyP X) (ni X n) base.toList t.toList=BG t.toList by unfold xu;rw[if_neg (by simpa[D9] using hb1),if_neg (by simpa[zx] using hb2),if_pos (by simpa[wText] using hb3)])
    go_enter func78,ntmps78
    go_wp2_with fail
    refine(JC w eb la ll lc t H.out hs).mono ?_;intro e w1 h1
    have HP:=hid (h1.turn HS.out)
    obtain⟨a,c,out,t',ok,rfl,_⟩:=h1
    go_wp2_with fail
    go_ret2
    exact HP.out
   | false=>
    have HS:=hid (show xu ng gu (tyP X) (ni X n) base.toList t.toList=(match tyP X base.toList with | none=>none | some (.inl ns)=>Js gu ns t.toList | some (.inr fs)=>ni X n fs t.toList) by unfold xu;rw[if_neg (by simpa[D9] using hb1),if_neg (by simpa[zx] using hb2),if_neg (by simpa[wText] using hb3)];cases tyP X base.toList with | none=>rfl | some t=>cases t<;>rfl)
    go_enter func78,ntmps78
    go_wp2_with fail
    refine(rX _ lo _ X base HI.out HX.out.nms HX.out.len).mono ?_;rintro e w1 ⟨zU,hT⟩
    have jJ:=hid (H.out.same (zU.block eb H.out.lt))
    rcases hT with⟨hneg,rfl⟩ | ⟨k,x,nn,hk,hx,hkd,hvf,hvn,rfl⟩
    ·have HSN:=hid (show xu ng gu (tyP X) (ni X n) base.toList t.toList=none by
      rw[HS.out]
      have:tyP X base.toList=none:=by unfold tyP;split<;>simp[hneg]
      rw[this])
     clear hneg
     go_wp2_with fail
     go_ret2
     have hba:Below w.heap.size w (w1.alloc (.cells #[.int .i64 0,.string ⟨#[]⟩,.int .i64 0,.slice none 0 0,.slice none 0 0,.string ⟨#[]⟩,.int .i64 0,.string ⟨#[]⟩,.int .i64 0] 116)):=zU.alloc zU.size _
     exact⟨none,0,[],t,false,rfl,World.ownsRow_nil _ _ _ _,But.bG hba,H.out.same (hba.block eb H.out.lt),Nat.le_refl _,by simp,HSN.out⟩
    ·have hxm:=List.mem_of_getElem? hx
     have hI1:=HI.out.below zU
     have hfl:=HX.out.fl x hxm
     have hnl:=HX.out.nl x hxm
     have HFO:=hid (hI1.nest x hxm).f
     have Vh:=hid (hI1.nest x hxm).n
     rw[hvf] at HFO
     rw[hvn] at Vh
     have HNU:=hid (HX.out.n x hxm)
     have Vk:=hid (HX.out.s x hxm)
     have YE:=hid (HX.out.nn x hxm)
     have HTY:=hid (show tyP X base.toList=if x.it.kind=0 then some (.inr (x.it.fields.map Ah)) else some (.inl (x.it.names.map fun t=>t.text.toList)) by unfold tyP;rw[hk];simp only[Int.toNat_natCast,hx];rw[if_neg (by omega)])
     obtain⟨it,vf,vn⟩:=x
     obtain⟨kind,nm,fields,names,bs,an⟩:=it
     obtain⟨ifa,ifc,ina,inc,ibb,iba,iab,iaa⟩:=nn
     simp only at hkd hfl hnl HFO Vh HNU Vk YE HTY ⊢
     clear hk hx hxm hvf hvn hI1
     have hba:Below w.heap.size w (w1.alloc (.cells #[.int .i64 kind,.string nm.text,.int .i64 nm.at_,.slice ifa fields.length ifc,.slice ina names.length inc,.string ibb,.int .i64 iba,.string iab,.int .i64 iaa] 116)):=zU.alloc zU.size _
     have YF:Below w1.heap.size w1 (w1.alloc (.cells #[.int .i64 kind,.string nm.text,.int .i64 nm.at_,.slice ifa fields.length ifc,.slice ina names.length inc,.string ibb,.int .i64 iba,.string iab,.int .i64 iaa] 116)):=(Below.refl _ _).alloc (Nat.le_refl _) _
     rcases hkd with rfl | rfl
     ·have Yo:=hid (show xu ng gu (tyP X) (ni X n) base.toList t.toList=ni X n (fields.map Ah) t.toList by rw[HS.out,HTY.out];rfl)
      go_wp2_with fail
      refine(HM.out _ eb lo la ll lc t _ fields (HI.out.below hba) (H.out.same (hba.block eb H.out.lt)) (HE.out.below hba) hO hs (aC HFO.out (fun g hg=>YF.block g (HFO.out.lt g hg).2)) hfl HNU.out Vk.out |> fun z=>by rw[HD.out];exact z:Calls _ _ _ _ _).mono ?_
      intro e w2 h2
      have HP:=hid ((h2.back hba).turn Yo.out)
      obtain⟨a,c,out,t',ok,rfl,_⟩:=h2
      go_wp2_with fail
      go_ret2
      exact HP.out
     ·have Yo:=hid (show xu ng gu (tyP X) (ni X n) base.toList t.toList=Js gu ((names.map fun t=>t.text).map ByteArray.toList) t.toList by rw[HS.out,HTY.out];simp[List.map_map,Function.comp_def])
      go_wp2_with fail
      refine(zD _ lo _ _ _ _ _ _ _ _ _ _ _ _ names (aC Vh.out (fun g hg=>YF.block g (Vh.out.lt g hg).2)) hnl).mono ?_;rintro e w2 ⟨ca,cc,rfl,hown2,hb2⟩
      have MP:Below w.heap.size w w2:=hba.trans (hb2.mono hba.size)
      have Vu:=hid hown2
      clear hown2
      go_wp2_with fail
      refine(Cc w2 eb _ la ll lc t _ (names.map fun t=>t.text) (H.out.same (MP.block eb H.out.lt)) hs (by have:=Vu.out;rw[List.length_map,List.map_map];exact this) (by rw[List.length_map];exact hnl) (fun q hq=>by obtain⟨y,hy,rfl⟩:=List.mem_map.1 hq;exact(YE.out y hy).1)).mono ?_
      intro e w3 h3
      have HP:=hid ((h3.back MP).turn Yo.out)
      obtain⟨a,c,out,t',ok,rfl,_⟩:=h3
      go_wp2_with fail
      go_ret2
      exact HP.out
theorem OJ{X:List aO}(hX:OD X):∀ n,n≤6→Q7 X n∧Q8 X n
 | 0,_=>⟨CO (J7 X) hX,Hr X⟩
 | n+1,h=>by
  obtain⟨h1,h2⟩:=OJ hX n (by omega)
  exact⟨CO (VG (by omega) h1 h2) hX,Rk (by omega) h1⟩
theorem OD.of{s:ByteArray}{X:List aO}(hs:s.size≤400)(h:(aV s).1=some (X.map (fun x=>x.it)))(hl:X.length≤400):OD X:=by
 obtain⟨_,_,_,Yn⟩:=yw h
 have hsm:=Jt (Jr h) hs
 have src:∀ x∈X,QO s x.it:=fun x hx=>BX h _ (List.mem_map.2 ⟨x,hx,rfl⟩)
 refine⟨fun x hx=>Yn x.it (List.mem_map.2 ⟨x,hx,rfl⟩),hl,fun x hx f hf=>?_,fun x hx f hf=>?_,hsm.f,hsm.n,fun x hx t ht=>((src x hx).n t ht).size hs⟩
 ·have:=((src x hx).f f hf).num;exact⟨by omega,this.2⟩
 ·obtain⟨t,ht,e⟩:=((src x hx).f f hf).name
  rw[e];exact ht.size hs
def Fh(X:List aO)(base v:ByteArray)(E:Int)(b:List UInt8):Prop :=
 (E=4∧b=[]∧hasB X base=false)∨(hasB X base=true ∧
  ((400<v.size∧E=1∧b=[])∨(v.size≤400 ∧
   (((∀ x,(jP X 6).1 base.toList v.toList≠some (x,[]))∧E=5∧b=[])∨∃ x,(jP X 6).1 base.toList v.toList=some (x,[])∧((64<x.length∧E=1∧b=[])∨(x.length≤64∧E=0∧b=x))))))
def J8(A:Int→List UInt8→Prop)(w:World)(e:Ending)(w':World):Prop:=∃ (a:Option Addr) (c:Nat) (b:List UInt8) (E:Int),e=.returned (.tuple #[.slice a b.length c,.int .i64 E])∧Below w.heap.size w w'∧gZ w' w.heap.size (.slice a b.length c) b∧(E≠0→a=none∧c=0)∧A E b
theorem VH{t:ByteArray}:t.toList=[]↔t.size=0:=by rw[← List.length_eq_zero_iff,aF]
theorem zH(w:World)(lo:Nat)(la:Option Addr)(ll lc:Nat)(X:List aO)(base v:ByteArray)(hI:dK w lo (.slice la ll lc) X)(hX:OD X)(hE:Env w)(hO:∀ cb,w.heap.size≤cb→Own cb)(hv:v.size≤maxLen):
  Calls Tryz.prog 54 #[.slice la ll lc,.string base,.string v] w (J8 (Fh X base v) w):=by
 unfold J8
 unfold maxLen at hv
 have HI:=hid hI
 have HX:=hid hX
 have HE:=hid hE
 have HO:=hid hO
 clear hI hX hE hO
 go_enter func54,ntmps54
 go_wp2_with fail
 refine(rH w lo _ X base HI.out HX.out.nms HX.out.len).mono ?_;rintro e w1 ⟨rfl,hb1⟩
 have hz1:=hb1.size
 cases hh:hasB X base with
 | false=>
  have HH:=hid hh
  clear hh
  go_wp2_with fail
  go_ret2
  exact⟨none,0,[],4,rfl,hb1,World.ownsRow_nil _ _ _ _,fun _=>⟨rfl,rfl⟩,Or.inl ⟨rfl,rfl,HH.out⟩⟩
 | true=>
  have HH:=hid hh
  clear hh
  by_cases h4:v.size≤400
  ·have h4I:¬ (400:Int)<(v.size:Int):=by omega
   have h4D:decide ((400:Int)<(v.size:Int))=false:=by simp;omega
   have hbW:Below w.heap.size w (w1.alloc (.cells #[.slice la ll lc,.string v] 158)):=hb1.alloc hb1.size _
   have HPW:=hid (show Pe (w1.alloc (.cells #[.slice la ll lc,.string v] 158)) w1.heap.size (.slice la ll lc) v from oN w1 _ _)
   have HIW:=hid (HI.out.below hbW)
   have HEW:=hid (HE.out.below hbW)
   have hzW:=hbW.size
   go_wp2_with fail
   generalize (w1.alloc (.cells #[.slice la ll lc,.string v] 158))=wW at *
   refine((OJ HX.out 6 (Nat.le_refl _)).1 wW w1.heap.size lo la ll lc v base HIW.out HPW.out HEW.out (HO.out _ hz1) h4).mono ?_
   rintro e w2 ⟨a2,c2,out,t2,ok,rfl,hb2,jk,hp2,hs2,hl2,hsp⟩
   have YI:=jk.below hbW hz1 (Nat.le_refl _)
   have HB2:=hid (own_base hb2 hzW:gZ w2 w.heap.size _ out)
   have uG:=hid hsp
   have f1:=hp2.rest
   clear hb2 hsp hp2 jk hl2
   cases ok with
   | false=>
    go_wp2_with fail
    go_ret2
    refine⟨none,0,[],5,rfl,YI,World.ownsRow_nil _ _ _ _,fun _=>⟨rfl,rfl⟩,Or.inr ⟨HH.out,Or.inr ⟨h4,Or.inl ⟨fun x hx=>?_,rfl,rfl⟩⟩⟩⟩
    rw[uG.out] at hx;cases hx
   | true=>
    cases hem:t2.toList.isEmpty with
    | true=>
     have ae6:=hid (show (jP X 6).1 base.toList v.toList=some (out,[]) from by rw[uG.out];simp only[List.isEmpty_iff.1 hem])
     by_cases h64:out.length≤64
     ·have aiD:¬ (64:Int)<(out.length:Int):=by omega
      have anR:decide ((64:Int)<(out.length:Int))=false:=by simp;omega
      go_wp2_with fail
      go_ret2
      exact⟨a2,c2,out,0,rfl,YI,HB2.out,fun h=>absurd rfl h,Or.inr ⟨HH.out,Or.inr ⟨h4,Or.inr ⟨out,ae6.out,Or.inr ⟨h64,rfl,rfl⟩⟩⟩⟩⟩
     ·have aiD:(64:Int)<(out.length:Int):=by omega
      go_wp2_with fail
      go_ret2
      exact⟨none,0,[],1,rfl,YI,World.ownsRow_nil _ _ _ _,fun _=>⟨rfl,rfl⟩,Or.inr ⟨HH.out,Or.inr ⟨h4,Or.inr ⟨out,ae6.out,Or.inl ⟨by omega,rfl,rfl⟩⟩⟩⟩⟩
    | false=>
     go_wp2_with fail
     go_ret2
     refine⟨none,0,[],5,rfl,YI,World.ownsRow_nil _ _ _ _,fun _=>⟨rfl,rfl⟩,Or.inr ⟨HH.out,Or.inr ⟨h4,Or.inl ⟨fun x hx=>?_,rfl,rfl⟩⟩⟩⟩
     rw[uG.out] at hx
     simp only[Option.some.injEq,Prod.mk.injEq] at hx
     rw[hx.2] at hem;cases hem
  ·have h4I:(400:Int)<(v.size:Int):=by omega
   go_wp2_with fail
   go_ret2
   exact⟨none,0,[],1,rfl,hb1,World.ownsRow_nil _ _ _ _,fun _=>⟨rfl,rfl⟩,Or.inr ⟨HH.out,Or.inl ⟨by omega,rfl,rfl⟩⟩⟩
theorem bP.zero{s:ByteArray}{P:Int}(h:bP s 0 P):s.size≤400∧P=0:=by
 rcases h with⟨_,e,_⟩ | ⟨h4,⟨_,e,_⟩ | ⟨X,_,⟨m,_,_,e,_⟩ | ⟨_,_,e⟩⟩⟩
 ·omega
 ·omega
 ·omega
 ·exact⟨h4,e⟩
theorem bP.range{s:ByteArray}{E P:Int}(h:bP s E P):0≤E∧E≤3:=by
 rcases h with⟨_,e,_⟩ | ⟨h4,⟨_,e,_⟩ | ⟨X,_,⟨m,_,_,e,_⟩ | ⟨_,e,_⟩⟩⟩<;>omega
end Go.Proofs.YtolfcabodiphmaaGreatDoor
