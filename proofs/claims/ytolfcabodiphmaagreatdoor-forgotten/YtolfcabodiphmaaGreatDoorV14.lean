/- Package values: the encoder's message. -/
import Derived.Test.YtolfcabodiphmaaGreatDoorV12
set_option linter.unusedSimpArgs false
set_option linter.unusedVariables false
set_option maxHeartbeats 4000000
set_option maxRecDepth 100000
namespace Go.Proofs.YtolfcabodiphmaaGreatDoor
open Go.Proofs.Tryz
open Go.RowKit
theorem JY(a b:ByteArray):((a++b)++ByteArray.mk #[58]).toList=a.toList++b.toList++[58]:=by
 simp[ByteArray.toList_eq]
theorem JZ(b:Bool):(Xu b).size≤1:=by cases b<;>decide
theorem Vx{p t t1:List UInt8}(h:(dJ p t).isSome=true)(h1:t1=(dJ p t).getD t):t=p++t1∧dJ p t=some t1:=by
 cases e:dJ p t with
 | none=>rw[e] at h;cases h
 | some r=>rw[e] at h1;simp at h1;subst h1;exact⟨EU e,rfl⟩
theorem Vy{w w':World}{lo:Nat}{v v' u:Value}{L:List UInt8}(h:gZ w lo u L)(ha:Tt v u)(hg:Grew w w' v v'):Tt v' u:=fun b h1 h3=>by
 rcases hg.b b h1 with h | hge
 ·exact ha b h h3
 ·have:=(h.lt b h3).2;omega
theorem Vz{w w':World}{lo:Nat}{v v' u:Value}{L:List UInt8}(h:gZ w lo u L)(ha:Tt v u)(hg:Grew w w' v v'):gZ w' lo u L :=
 aC h (fun g hgk=>hg.g.block g (h.lt g hgk).2 (fun e=>ha g e.symm hgk))
theorem aeL{fs:List bI}{j:Nat}{f:bI}(h:fs[j]? = some f):(fs.map Ah)[j]? = some (Ah f):=by rw[List.getElem?_map,h];rfl
theorem Hg{X:List aO}{n:Nat}(hV:Q7 X n)(hL:Q8 X n)(w:World)(eb lo:Nat)(la:Option Addr)(ll lc:Nat)(t:ByteArray)(fv:Value)(fs:List bI)(d:Int)(hd:d+1=(7:Int)-n)(hn6:n≤6)(hI:dK w lo (.slice la ll lc) X)(h:Pe w eb (.slice la ll lc) t)(hE:Env w)(hO:Own eb)(hs:t.size≤400)
  (hF:w.ownsRow lo 242 7 fv fs.length (fs.flatMap dI)) (hl:fs.length≤400) (hnum:∀ f∈fs,0≤f.number∧f.number≤99) (hnm:∀ f∈fs,1≤f.name.size∧f.name.size≤400) :
  Calls Tryz.prog 106 #[.pointer (some ⟨eb,0,none⟩),fv,.int .i64 d] w (jA (msgP (jP X n).1 (jP X n).2 (fs.map Ah)) w eb (.slice la ll lc) t):=by
 unfold jA
 obtain⟨fa,fc,hfv⟩:∃ a c,fv=.slice a fs.length c:=ay hF
 subst hfv
 have hd6:¬ (6:Int)<d:=by omega
 have hdl:(0:Int)≤d:=by omega
 have hdu:d≤6:=by omega
 have HD:=hid hd
 clear hd
 have H:=hid h
 have HI:=hid hI
 have HE:=hid hE
 have HV:=hid hV
 have HL:=hid hL
 have HF:=hid hF
 have aif:=hid hnum
 have Je:=hid hnm
 clear h hI hE hV hL hF hnum hnm
 obtain⟨G,hG⟩:∃ G,msgP (jP X n).1 (jP X n).2 (fs.map Ah) t.toList=G:=⟨_,rfl⟩
 rw[hG]
 have HG:=hid (show G=(dJ [123] t.toList).bind (fieldsGo (jP X n).1 (jP X n).2 (fs.map Ah) true) by rw[← hG];rfl)
 clear hG
 go_enter func106,ntmps106
 go_wp2_with fail
 refine(take_any w eb la ll lc t (ByteArray.mk #[123]) H.out).mono ?_;rintro e w1 ⟨t1,rfl,hb1,hp1,ht1⟩
 rw[aeA] at ht1 ⊢
 have jJ:=hid hp1
 have HT1:=hid ht1
 clear hp1 ht1
 cases hr:(dJ [123] t.toList).isSome with
 | false=>
  have HR:=hid hr
  clear hr
  have hte:t1=t:=iG HR.out HT1.out
  subst hte
  go_wp2_with fail
  go_ret2
  exact⟨none,0,[],t1,false,rfl,World.ownsRow_nil _ _ _ _,hb1,jJ.out,Nat.le_refl _,by simp,by rw[HG.out,lD HR.out];rfl⟩
 | true=>
  have uN:=hid (jL hr HT1.out)
  clear hr
  have hs1:t1.size<t.size:=by rw[← aF,← aF t,uN.out];simp
  have HF0:=hid (show IK G (jP X n).1 (jP X n).2 (fs.map Ah) t1.toList 0 true [] from by unfold IK;rw[HG.out,uN.out];simp[dJ,List.isPrefixOf])
  have hz1:=hb1.size
  go_wp2_with fail
  go_loopg [8,9,11,12,13,23] fs.length (fun gk d8 b9 f11 x12 x13 i23 wr=>∃ (j:Nat) (first:Bool) (out:List UInt8) (tr:ByteArray),j+gk=fs.length∧i23=.int .i64 j∧b9=.string (Xu first)∧tr.size≤t1.size∧out.length≤2*(t.size-tr.size)∧Hid (Pe wr eb (.slice la ll lc) tr)∧Hid (gZ wr w.heap.size d8 out)∧But eb w wr∧Hid (IK G (jP X n).1 (jP X n).2 (fs.map Ah) tr.toList j first out))
  case atStart=>exact⟨0,true,[],t1,by omega,rfl,rfl,Nat.le_refl _,by simp,hid jJ.out,hid (World.ownsRow_nil _ _ _ _),hb1,hid HF0.out⟩
  case round=>
   obtain⟨j,first,out,tr,hj,rfl,rfl,hle,hol,HP,HB,uz,HS⟩:=hrel
   obtain⟨oa,oc,hov⟩:∃ a c,u8=.slice a out.length c:=ay HB.out
   subst hov
   have hsz:=uz.size
   by_cases hlt:j<fs.length
   ·obtain⟨f,hf⟩:∃ f,fs[j]? = some f:=⟨fs[j],List.getElem?_eq_getElem hlt⟩
    have hfm:=List.mem_of_getElem? hf
    obtain⟨hn0,abJ⟩:=aif.out f hfm
    obtain⟨hm1,VA⟩:=Je.out f hfm
    have HFr:=hid (aC HF.out (fun g hg=>uz.block g (HF.out.lt g hg).2 (dM HF.out H.out (by decide) hg)):wr.ownsRow lo 242 7 (.slice fa fs.length fc) fs.length (fs.flatMap dI))
    obtain⟨g,cap,hv,hgl,hgs,hsg⟩:=jG HFr.out hf
    obtain⟨rfl,rfl⟩:fa=some ⟨g,0,none⟩∧fc=cap:=by simpa using hv
    have Qm:=hid (aeL hf)
    obtain⟨num,numAt,name,nameAt,shape,base,dG⟩:=f
    simp only at hn0 abJ hm1 VA
    obtain⟨fn,rfl⟩:∃ fn:Nat,num=(fn:Int):=⟨num.toNat,by omega⟩
    have c0:wr.cell? ⟨g,j*7,none⟩=some (.int .i64 fn):=hsg.cell (j:=0) rfl
    have c1:wr.cell? ⟨g,j*7+1,none⟩=some (.int .i64 numAt):=hsg.cell (j:=1) rfl
    have c2:wr.cell? ⟨g,j*7+2,none⟩=some (.string name):=hsg.cell (j:=2) rfl
    have c3:wr.cell? ⟨g,j*7+3,none⟩=some (.int .i64 nameAt):=hsg.cell (j:=3) rfl
    have c4:wr.cell? ⟨g,j*7+4,none⟩=some (.int .i64 shape):=hsg.cell (j:=4) rfl
    have c5:wr.cell? ⟨g,j*7+5,none⟩=some (.string base):=hsg.cell (j:=5) rfl
    have c6:wr.cell? ⟨g,j*7+6,none⟩=some (.int .i64 dG):=hsg.cell (j:=6) rfl
    have HKL:=hid (JY (Xu first) name)
    have aij:=JZ first
    have HBL:=hid (JK first)
    clear hsg hv hf hfm
    generalize hbw:Xu first=bw at *
    have HBW:=hid hbw
    clear hbw
    go_wp2_with fail
    clear c0 c1 c2 c3 c4 c5 c6
    have hba:Below wr.heap.size wr (wr.alloc (.cells #[.int .i64 fn,.int .i64 numAt,.string name,.int .i64 nameAt,.int .i64 shape,.string base,.int .i64 dG] 242)):=(Below.refl _ _).alloc (Nat.le_refl _) _
    have hsa:Seg (wr.alloc (.cells #[.int .i64 fn,.int .i64 numAt,.string name,.int .i64 nameAt,.int .i64 shape,.string base,.int .i64 dG] 242)) wr.heap.size 242 0 [.int .i64 fn,.int .i64 numAt,.string name,.int .i64 nameAt,.int .i64 shape,.string base,.int .i64 dG]:=oN wr _ _
    generalize (wr.alloc (.cells #[.int .i64 fn,.int .i64 numAt,.string name,.int .i64 nameAt,.int .i64 shape,.string base,.int .i64 dG] 242))=wa at *
    have HPa:=hid (HP.out.same (hba.block eb HP.out.lt))
    have HBa:=hid (HB.out.same hba)
    have hne:wr.heap.size≠eb:=by have:=HP.out.lt;omega
    refine(take_any wa eb la ll lc tr (bw++name++ByteArray.mk #[58]) HPa.out).mono ?_;rintro e w2 ⟨t2,rfl,hb2,hp2,ht2⟩
    rw[HKL.out] at ht2 ⊢
    have Hl:=hsa.same (hb2.block _ hsa.lt hne)
    have HB2:=hid (HBa.out.but (show Seg _ _ _ _ _ from HPa.out) (by decide) hb2)
    have jk:=(uz.trans (But.bG hba)).trans hb2
    have HP2:=hid hp2
    have HT2:=hid ht2
    have hz2:=jk.size
    have d0:=Hl.cell (j:=0) rfl
    have d1:=Hl.cell (j:=1) rfl
    have d2:=Hl.cell (j:=2) rfl
    have d3:=Hl.cell (j:=3) rfl
    have d4:=Hl.cell (j:=4) rfl
    have d5:=Hl.cell (j:=5) rfl
    have d6:=Hl.cell (j:=6) rfl
    simp only[Nat.zero_add] at d0 d1 d2 d3 d4 d5 d6
    have aeM:=hid Hl
    clear hp2 ht2 hsa Hl
    cases hr2:(dJ (bw.toList++name.toList++[58]) tr.toList).isSome with
    | false=>
     have hte:t2=tr:=iG hr2 HT2.out
     subst hte
     have HEN:=hid (show dJ ((if first then [] else [44])++name.toList++[58]) t2.toList=none by rw[← HBL.out];exact lD hr2)
     clear hr2
     by_cases hsh:shape=1
     ·have HN:=hid (HS.out.skip Qm.out HEN.out hsh)
      subst hsh
      go_wp2_with fail
      go_roundg (gk-1)
      case rel=>exact⟨j+1,first,out,t2,by omega,by go_num,by rw[HBW.out],hle,hol,hid HP2.out,hid HB2.out,jk,hid HN.out⟩
      case measure=>omega
     ·have HN:=hid (HS.out.lack Qm.out HEN.out hsh)
      have aik:((shape:Int)==1)=false:=by simp;omega
      go_wp2_with fail
      go_ret2
      exact⟨none,0,[],t2,false,rfl,World.ownsRow_nil _ _ _ _,jk,HP2.out,by omega,by simp,HN.out⟩
    | true=>
     obtain⟨hk1,hk2⟩:=Vx hr2 HT2.out
     have hs2:t2.size+name.size+1≤tr.size:=by
      have:=congrArg List.length hk1
      simp only[List.length_append,List.length_singleton,aF] at this
      omega
     have HVV:=hid (HS.out.value Qm.out (T1:=t2.toList) (by rw[← HBL.out];exact hk2))
     have HI2:=hid (HI.out.but H.out jk)
     have HE2:=hid (HE.out.but jk hO)
     clear hr2 hk1 hk2 HT2
     go_wp2_with fail
     refine(MK HV.out HL.out w2 eb lo la ll lc t2 ⟨(fn:Int),numAt,name,nameAt,shape,base,dG⟩ (d+1) HD.out HI2.out HP2.out HE2.out hO (by omega)).mono ?_
     rintro e w4 ⟨a4,c4,v4,t4,YB,rfl,hb4,Ho,vT,hs4,hl4,xE⟩
     have JE:=hid vT
     have Rj:=hid hb4
     have CJ:=hid (HB2.out.but (show Seg _ _ _ _ _ from HP2.out) (by decide) Ho)
     have oQ:=jk.trans Ho
     have hz4:=oQ.size
     have XZ:=hid (GZ HB2.out hb4)
     have uG:=hid xE
     have nI:=aeM.out.same (Ho.block _ aeM.out.lt hne)
     clear d0 d1 d2 d3 d4 d5 d6
     have d0:=nI.cell (j:=0) rfl
     simp only[Nat.zero_add] at d0
     clear vT hb4 xE nI
     cases YB with
     | false=>
      have HN:=hid (HVV.out.1 (by have:=uG.out;simp only[Ah] at this ⊢;split at this<;>simp_all))
      clear HVV uG
      go_wp2_with fail
      go_ret2
      exact⟨none,0,[],t4,false,rfl,World.ownsRow_nil _ _ _ _,oQ,JE.out,by omega,by simp,HN.out⟩
     | true=>
      have HN:=hid (HVV.out.2 v4 t4.toList (by have:=uG.out;simp only[Ah] at this ⊢;split at this<;>simp_all))
      clear HVV uG
      go_wp2_with fail
      refine(iL w4 w.heap.size _ out fn CJ.out (by omega) (by omega) hz4).mono ?_;rintro e w5 ⟨a5,c5,rfl,hb5,hg5⟩
      have Ad:=hid (JE.out.grew (Below.refl _ _) CJ.out hg5)
      have Fg:=oQ.grew (Below.refl _ _) CJ.out hg5
      have E5:=hid hb5
      have ail:=hid (Vz Rj.out XZ.out hg5)
      have ain:=hid (Vy Rj.out XZ.out hg5)
      have aeN:(out++fZ fn).length≤out.length+1:=by rw[List.length_append,nU (by omega)];simp
      have HN5:=hid (show IK G (jP X n).1 (jP X n).2 (fs.map Ah) t4.toList (j+1) false ((out++fZ fn)++gU v4) from HN.out)
      generalize out++fZ fn=J3 at *
      have Uu:=Fg.size
      clear hb5 hg5 HN
      go_wp2_with fail
      refine(ku w5 w.heap.size _ _ _ J3 v4 E5.out ail.out ain.out (by omega) (by omega) Uu).mono ?_;rintro e w6 ⟨a6,c6,rfl,hb6,hg6⟩
      have HP6:=hid (Ad.out.grew (Below.refl _ _) E5.out hg6)
      have aeO:=Fg.grew (Below.refl _ _) E5.out hg6
      have HB6:=hid hb6
      have anu:(J3++gU v4).length≤J3.length+v4.length+2:=by rw[List.length_append];have:=vC (b:=v4) (by omega);omega
      generalize J3++gU v4=out6 at *
      clear hb6 hg6
      go_wp2_with fail
      go_roundg (gk-1)
      case rel=>exact⟨j+1,false,out6,t4,by omega,by go_num,rfl,by omega,by omega,hid HP6.out,hid HB6.out,aeO,hid HN5.out⟩
      case measure=>omega
   ·have zV:=hid (HS.out.shut (by rw[List.length_map];omega))
    go_wp2_with fail
    refine(take_any wr eb la ll lc tr (ByteArray.mk #[125]) HP.out).mono ?_;rintro e w2 ⟨t2,rfl,hb2,hp2,ht2⟩
    rw[aby] at ht2 ⊢
    have HP2:=hid hp2
    have HT2:=hid ht2
    have HB2:=hid (HB.out.but (show Seg _ _ _ _ _ from HP.out) (by decide) hb2)
    have jk:=uz.trans hb2
    clear hp2 ht2
    cases hr2:(dJ [125] tr.toList).isSome with
    | true=>
     have JD:=hid (jL hr2 HT2.out)
     have hs2:t2.size<tr.size:=by rw[← aF,← aF tr,JD.out];simp
     clear hr2
     go_wp2_with fail
     go_ret2
     exact⟨oa,oc,out,t2,true,rfl,HB2.out,jk,HP2.out,by omega,by omega,by rw[zV.out,JD.out];simp[dJ,List.isPrefixOf]⟩
    | false=>
     have hte:t2=tr:=iG hr2 HT2.out
     subst hte
     have Vk:=hid (lD hr2)
     clear hr2
     go_wp2_with fail
     go_ret2
     exact⟨oa,oc,out,t2,false,rfl,HB2.out,jk,HP2.out,by omega,by omega,by rw[zV.out,Vk.out];rfl⟩
end Go.Proofs.YtolfcabodiphmaaGreatDoor
