/- Package values: the encoder's message. -/
import Derived.Test.YtkpfplbmmglkkaaGreatDoorV11
set_option linter.all false
set_option maxHeartbeats 4000000
set_option maxRecDepth 100000
namespace Go.Proofs.YtkpfplbmmglkkaaGreatDoor
open Go.Proofs.Tryz
variable {w w':World}{lo n:Nat}{v v' u:Value}{L:List UInt8}{X:List PIV}
open Go.RowKit
theorem G0(a b:ByteArray):((a++b)++ByteArray.mk #[58]).toList=a.toList++b.toList++[58]:=by
 simp[ByteArray.toList_eq]
theorem G1(b:Bool):(Vi b).size≤1:=by cases b<;>decide
theorem Sm{p t t1:List UInt8}(h:(cO p t).isSome=true)(h1:t1=(cO p t).getD t):t=p++t1∧cO p t=some t1:=by
 cases e:cO p t with
 | none=>rw[e] at h;cases h
 | some r=>rw[e] at h1;simp at h1;subst h1;exact⟨Da e,rfl⟩
theorem Sn(h:fG w lo u L)(ha:Apt v u)(hg:gd w w' v v'):Apt v' u:=fun b h1 h3=>by
 rcases hg.b b h1 with h | Ki
 ·exact ha b h h3
 ·have:=(h.lt b h3).2;omega
theorem Sp(h:fG w lo u L)(ha:Apt v u)(hg:gd w w' v v'):fG w' lo u L :=
 aH h (fun g OA=>hg.g.block g (h.lt g OA).2 (fun e=>ha g e.symm OA))
theorem ae9{fs:List PField}{j:Nat}{f:PField}(h:fs[j]? = some f):(fs.map yT)[j]? = some (yT f):=by rw[List.getElem?_map,h];rfl
theorem EL(hV:O7 X n)(hL:O8 X n)(w:World)(eb lo:Nat)(la:Option Addr)(ll lc:Nat)(t:ByteArray)(fv:Value)(fs:List PField)(d:Int)(hd:d+1=(7:Int)-n)(hn6:n≤6)(hI:PIts w lo (.slice la ll lc) X)(h:Pe w eb (.slice la ll lc) t)(hE:mR w)(hO:KK eb)(hs:t.size≤400)
  (hF:w.ownsRow lo 246 7 fv fs.length (fs.flatMap pfCells)) (hl:fs.length≤400) (B9:∀ f∈fs,0≤f.number∧f.number≤99) (BJ:∀ f∈fs,1≤f.name.size∧f.name.size≤400) :
  aT 105 #[aM eb,fv,vI d] w (iM (VZ (jp X n).1 (jp X n).2 (fs.map yT)) w eb (.slice la ll lc) t):=by
 unfold iM;obtain⟨fa,fc,qo⟩:∃ a c,fv=.slice a fs.length c:=ax hF
 subst qo;have hd6:¬ (6:Int)<d:=by omega
 have yU:(0:Int)≤d:=by omega
 have hdu:d≤6:=by omega
 have HD:=U hd;clear hd;have H:=U h;have HI:=U hI;have HE:=U hE;have HV:=U hV;have HL:=U hL;have HF:=U hF;have akx:=U B9;have Kj:=U BJ;clear h hI hE hV hL hF B9 BJ;obtain⟨G,hG⟩:∃ G,VZ (jp X n).1 (jp X n).2 (fs.map yT) t.toList=G:=⟨_,rfl⟩
 rw[hG];have HG:=U (show G=(cO [123] t.toList).bind (jE (jp X n).1 (jp X n).2 (fs.map yT) true) by rw[← hG];rfl);clear hG
 go_enter func105,ntmps105
 go_wp2_with fail
 refine(jG w eb la ll lc t (ByteArray.mk #[123]) H.o).mono ?_;rintro e w1 ⟨t1,rfl,aA,fe,ij⟩;rw[ae3] at ij ⊢;have jP:=U fe;have ir:=U ij;clear fe ij
 cases hr:(cO [123] t.toList).isSome with
 | false=>
  have HR:=U hr;clear hr;have GP:t1=t:=fS HR.o ir.o;subst GP
  go_wp2_with fail
  go_ret2
  exact⟨none,0,[],t1,false,rfl,World.ownsRow_nil _ _ _ _,aA,jP.o,Nat.le_refl _,by simp,by rw[HG.o,kV HR.o];rfl⟩
 | true=>
  have Df:=U (jd hr ir.o);clear hr;have gY:t1.size<t.size:=by rw[← aO,← aO t,Df.o];simp
  have ZG:=U (show FT G (jp X n).1 (jp X n).2 (fs.map yT) t1.toList 0 true [] from by unfold FT;rw[HG.o,Df.o];simp[cO,List.isPrefixOf]);have ju:=aA.size
  go_wp2_with fail
  go_loopg [8,9,11,12,13,23] fs.length (fun gk d8 b9 f11 x12 x13 i23 wr=>∃ (j:Nat) (first:Bool) (out:List UInt8) (tr:ByteArray),j+gk=fs.length∧i23=.int .i64 j∧b9=.string (Vi first)∧tr.size≤t1.size∧out.length≤2*(t.size-tr.size)∧Hid (Pe wr eb (.slice la ll lc) tr)∧Hid (fG wr w.heap.size d8 out)∧But eb w wr∧Hid (FT G (jp X n).1 (jp X n).2 (fs.map yT) tr.toList j first out))
  case atStart=>exact⟨0,true,[],t1,by omega,rfl,rfl,Nat.le_refl _,by simp,U jP.o,U (World.ownsRow_nil _ _ _ _),aA,U ZG.o⟩
  case round=>
   obtain⟨j,first,out,tr,hj,rfl,rfl,hle,hol,HP,HB,rK,HS⟩:=hrel;obtain⟨oa,oc,MP⟩:∃ a c,u8=.slice a out.length c:=ax HB.o
   subst MP;have mI:=rK.size
   by_cases bC:j<fs.length
   ·obtain⟨f,hf⟩:∃ f,fs[j]? = some f:=⟨fs[j],List.getElem?_eq_getElem bC⟩
    have YI:=List.mem_of_getElem? hf;obtain⟨U5,aav⟩:=akx.o f YI;obtain⟨wX,Sq⟩:=Kj.o f YI;have HFr:=U (aH HF.o (fun g hg=>rK.block g (HF.o.lt g hg).2 (dG HF.o H.o (by decide) hg)):wr.ownsRow lo 246 7 (.slice fa fs.length fc) fs.length (fs.flatMap pfCells));obtain⟨g,cap,hv,vH,xT,fy⟩:=pfield_seg HFr.o hf;obtain⟨rfl,rfl⟩:fa=some (aj g 0)∧fc=cap:=by simpa using hv
    have OB:=U (ae9 hf);obtain⟨num,mn,name,nameAt,shape,base,baseAt⟩:=f;simp only at U5 aav wX Sq;obtain⟨fn,rfl⟩:∃ fn:Nat,num=(fn:Int):=⟨num.toNat,by omega⟩
    have c0:wr.cell? ⟨g,j*7,none⟩=some (vI fn):=fy.cell (j:=0) rfl;have c1:wr.cell? ⟨g,j*7+1,none⟩=some (vI mn):=fy.cell (j:=1) rfl;have c2:wr.cell? ⟨g,j*7+2,none⟩=some (.string name):=fy.cell (j:=2) rfl;have c3:wr.cell? ⟨g,j*7+3,none⟩=some (vI nameAt):=fy.cell (j:=3) rfl;have c4:wr.cell? ⟨g,j*7+4,none⟩=some (vI shape):=fy.cell (j:=4) rfl;have c5:wr.cell? ⟨g,j*7+5,none⟩=some (.string base):=fy.cell (j:=5) rfl;have c6:wr.cell? ⟨g,j*7+6,none⟩=some (vI baseAt):=fy.cell (j:=6) rfl;have HKL:=U (G0 (Vi first) name);have aky:=G1 first;have HBL:=U (GW first);clear fy hv hf YI;generalize sI:Vi first=bw at *;have HBW:=U sI;clear sI
    go_wp2_with fail
    clear c0 c1 c2 c3 c4 c5 c6;have qZ:Below wr.heap.size wr (wr.alloc (.cells #[vI fn,vI mn,.string name,vI nameAt,vI shape,.string base,vI baseAt] 246)):=(Below.refl _ _).alloc (Nat.le_refl _) _;have hsa:dU (wr.alloc (.cells #[vI fn,vI mn,.string name,vI nameAt,vI shape,.string base,vI baseAt] 246)) wr.heap.size 246 0 [vI fn,vI mn,.string name,vI nameAt,vI shape,.string base,vI baseAt]:=seg_made wr _ _;generalize (wr.alloc (.cells #[vI fn,vI mn,.string name,vI nameAt,vI shape,.string base,vI baseAt] 246))=wa at *;have HPa:=U (HP.o.same (qZ.block eb HP.o.lt));have Wc:=U (HB.o.same qZ);have bT:wr.heap.size≠eb:=by have:=HP.o.lt;omega
    refine(jG wa eb la ll lc tr (bw++name++ByteArray.mk #[58]) HPa.o).mono ?_;rintro e w2 ⟨t2,rfl,aW,fI,np⟩;rw[HKL.o] at np ⊢;have EM:=hsa.same (aW.block _ hsa.lt bT);have gX:=U (Wc.o.but (show dU _ _ _ _ _ from HPa.o) (by decide) aW);have iu:=(rK.trans (But.ofBelow qZ)).trans aW;have jn:=U fI;have jo:=U np;have BY:=iu.size;have d0:=EM.cell (j:=0) rfl;have d1:=EM.cell (j:=1) rfl;have d2:=EM.cell (j:=2) rfl;have d3:=EM.cell (j:=3) rfl;have d4:=EM.cell (j:=4) rfl;have d5:=EM.cell (j:=5) rfl;have d6:=EM.cell (j:=6) rfl;simp only[Nat.zero_add] at d0 d1 d2 d3 d4 d5 d6;have afa:=U EM;clear fI np hsa EM
    cases uA:(cO (bw.toList++name.toList++[58]) tr.toList).isSome with
    | false=>
     have GP:t2=tr:=fS uA jo.o;subst GP;have HEN:=U (show cO ((if first then [] else [44])++name.toList++[58]) t2.toList=none by rw[← HBL.o];exact kV uA);clear uA
     by_cases GD:shape=1
     ·have HN:=U (HS.o.skip OB.o HEN.o GD)
      subst GD
      go_wp2_with fail
      go_roundg (gk-1)
      case rel=>exact⟨j+1,first,out,t2,by omega,by go_num,by rw[HBW.o],hle,hol,U jn.o,U gX.o,iu,U HN.o⟩
      case measure=>omega
     ·have HN:=U (HS.o.akt OB.o HEN.o GD)
      have akz:((shape:Int)==1)=false:=by simp;omega
      go_wp2_with fail
      go_ret2
      exact⟨none,0,[],t2,false,rfl,World.ownsRow_nil _ _ _ _,iu,jn.o,by omega,by simp,HN.o⟩
    | true=>
     obtain⟨RO,Va⟩:=Sm uA jo.o
     have il:t2.size+name.size+1≤tr.size:=by
      have:=congrArg List.length RO;simp only[List.length_append,List.length_singleton,aO] at this;omega
     have qA:=U (HS.o.value OB.o (T1:=t2.toList) (by rw[← HBL.o];exact Va));have HI2:=U (HI.o.but H.o iu);have pd:=U (HE.o.but iu hO);clear uA RO Va jo
     go_wp2_with fail
     refine(KQ HV.o HL.o w2 eb lo la ll lc t2 ⟨(fn:Int),mn,name,nameAt,shape,base,baseAt⟩ (d+1) HD.o HI2.o jn.o pd.o hO (by omega)).mono ?_;rintro e w4 ⟨a4,c4,v4,t4,Wd,rfl,iA,EN,tL,BH,KE,uC⟩;have O3:=U tL;have O9:=U iA;have Av:=U (gX.o.but (show dU _ _ _ _ _ from jn.o) (by decide) EN);have nW:=iu.trans EN;have Yj:=nW.size;have We:=U (ED gX.o iA);have rN:=U uC;have mE:=afa.o.same (EN.block _ afa.o.lt bT);clear d0 d1 d2 d3 d4 d5 d6;have d0:=mE.cell (j:=0) rfl;simp only[Nat.zero_add] at d0;clear tL iA uC mE
     cases Wd with
     | false=>
      have HN:=U (qA.o.1 (by have:=rN.o;simp only[yT] at this ⊢;split at this<;>simp_all));clear qA rN
      go_wp2_with fail
      go_ret2
      exact⟨none,0,[],t4,false,rfl,World.ownsRow_nil _ _ _ _,nW,O3.o,by omega,by simp,HN.o⟩
     | true=>
      have HN:=U (qA.o.2 v4 t4.toList (by have:=rN.o;simp only[yT] at this ⊢;split at this<;>simp_all));clear qA rN
      go_wp2_with fail
      refine(fX w4 w.heap.size _ out fn Av.o (by omega) (by omega) Yj).mono ?_;rintro e w5 ⟨a5,c5,rfl,iC,rM⟩;have yQ:=U (O3.o.mZ (Below.refl _ _) Av.o rM);have Dh:=nW.mZ (Below.refl _ _) Av.o rM;have FR:=U iC;have akA:=U (Sp O9.o We.o rM);have akB:=U (Sn O9.o We.o rM);have afb:(out++eV fn).length≤out.length+1:=by rw[List.length_append,mQ (by omega)];simp
      have HN5:=U (show FT G (jp X n).1 (jp X n).2 (fs.map yT) t4.toList (j+1) false ((out++eV fn)++fA v4) from HN.o);generalize out++eV fn=out5 at *;have YA:=Dh.size;clear iC rM HN
      go_wp2_with fail
      refine(jF w5 w.heap.size _ _ _ out5 v4 FR.o akA.o akB.o (by omega) (by omega) YA).mono ?_;rintro e w6 ⟨a6,c6,rfl,G2,hg6⟩;have HP6:=U (yQ.o.mZ (Below.refl _ _) FR.o hg6);have afc:=Dh.mZ (Below.refl _ _) FR.o hg6;have HB6:=U G2;have asB:(out5++fA v4).length≤out5.length+v4.length+2:=by rw[List.length_append];have:=sN (b:=v4) (by omega);omega
      generalize out5++fA v4=out6 at *;clear G2 hg6
      go_wp2_with fail
      go_roundg (gk-1)
      case rel=>exact⟨j+1,false,out6,t4,by omega,by go_num,rfl,by omega,by omega,U HP6.o,U HB6.o,afc,U HN5.o⟩
      case measure=>omega
   ·have nX:=U (HS.o.KP (by rw[List.length_map];omega))
    go_wp2_with fail
    refine(jG wr eb la ll lc tr (ByteArray.mk #[125]) HP.o).mono ?_;rintro e w2 ⟨t2,rfl,aW,fI,np⟩;rw[aap] at np ⊢;have jn:=U fI;have jo:=U np;have gX:=U (HB.o.but (show dU _ _ _ _ _ from HP.o) (by decide) aW);have iu:=rK.trans aW;clear fI np
    cases uA:(cO [125] tr.toList).isSome with
    | true=>
     have GR:=U (jd uA jo.o);have il:t2.size<tr.size:=by rw[← aO,← aO tr,GR.o];simp
     clear uA
     go_wp2_with fail
     go_ret2
     exact⟨oa,oc,out,t2,true,rfl,gX.o,iu,jn.o,by omega,by omega,by rw[nX.o,GR.o];simp[cO,List.isPrefixOf]⟩
    | false=>
     have GP:t2=tr:=fS uA jo.o;subst GP;have EO:=U (kV uA);clear uA
     go_wp2_with fail
     go_ret2
     exact⟨oa,oc,out,t2,false,rfl,gX.o,iu,jn.o,by omega,by omega,by rw[nX.o,EO.o];rfl⟩
theorem EP(X:List PIV):O8 X 0:=by
 intro w eb lo la ll lc t base hI h hE hO hs;unfold iM;have H:=U h;clear h hI hE;rw[show (7:Int)-(0:Nat)=7 by omega]
 go_enter func191,ntmps191
 go_wp2_with fail
 go_ret2
 exact⟨none,0,[],t,false,rfl,World.ownsRow_nil _ _ _ _,But.refl _ _,H.o,Nat.le_refl _,by simp,rfl⟩
theorem Pa(hn6:n≤6)(hV:O7 X n):O8 X (n+1):=by
 intro w eb lo la ll lc t base hI h hE hO hs;unfold iM;obtain⟨d,hd⟩:∃ d:Int,d=(7:Int)-((n+1:Nat):Int):=⟨_,rfl⟩
 rw[← hd];have HD:=U (show d+1=(7:Int)-n by omega);have hd6:¬ (6:Int)<d:=by omega
 have hdD:decide ((6:Int)<d)=false:=by simp;omega
 have yU:(0:Int)≤d:=by omega
 have hdu:d≤6:=by omega
 clear hd;have H:=U h;have HI:=U hI;have HE:=U hE;have HV:=U hV;clear h hI hE hV;obtain⟨G,hG⟩:∃ G,(jp X (n+1)).2 base.toList t.toList=G:=⟨_,rfl⟩
 rw[hG];have HG:=U (show G=(cO [91] t.toList).bind (sM ((jp X n).1 base.toList) 16 true) by rw[← hG];rfl);clear hG
 go_enter func191,ntmps191
 go_wp2_with fail
 refine(jG w eb la ll lc t (ByteArray.mk #[91]) H.o).mono ?_;rintro e w1 ⟨t1,rfl,aA,fe,ij⟩;rw[Se] at ij ⊢;have jP:=U fe;have ir:=U ij;clear fe ij
 cases hr:(cO [91] t.toList).isSome with
 | false=>
  have HR:=U hr;clear hr;have GP:t1=t:=fS HR.o ir.o;subst GP
  go_wp2_with fail
  go_ret2
  exact⟨none,0,[],t1,false,rfl,World.ownsRow_nil _ _ _ _,aA,jP.o,Nat.le_refl _,by simp,by rw[HG.o,kV HR.o];rfl⟩
 | true=>
  have Df:=U (jd hr ir.o);clear hr;have gY:t1.size<t.size:=by rw[← aO,← aO t,Df.o];simp
  have HL0:=U (show Sl G ((jp X n).1 base.toList) t1.toList 0 [] from⟨by omega,by rw[HG.o,Df.o];simp[cO,List.isPrefixOf]⟩);have ju:=aA.size
  go_wp2_with fail
  go_loopg [8,9,10,11] 17 (fun gk d8 c9 x10 x11 wr=>∃ (m:Nat) (out:List UInt8) (tr:ByteArray),m+gk=17∧c9=.int .i64 m∧tr.size≤t1.size∧out.length+(bif decide (m=0) then 2 else 0)≤2*(t.size-tr.size)∧Hid (Pe wr eb (.slice la ll lc) tr)∧Hid (fG wr w.heap.size d8 out)∧But eb w wr∧Hid (Sl G ((jp X n).1 base.toList) tr.toList m out))
  case atStart=>exact⟨0,[],t1,by omega,rfl,Nat.le_refl _,by simp;omega,U jP.o,U (World.ownsRow_nil _ _ _ _),aA,U HL0.o⟩
  case round=>
   obtain⟨m,out,tr,hm,rfl,hle,hol,HP,HB,rK,HS⟩:=hrel;obtain⟨oa,oc,MP⟩:∃ a c,u8=.slice a out.length c:=ax HB.o
   subst MP;have akD:m≤16:=HS.o.1
   go_wp2_with fail
   refine(jG _ eb la ll lc tr (ByteArray.mk #[93]) HP.o).mono ?_;rintro e w2 ⟨t2,rfl,aW,fI,np⟩;rw[ae2] at np ⊢;have jn:=U fI;have jo:=U np;have gX:=U (HB.o.but (show dU _ _ _ _ _ from HP.o) (by decide) aW);have iu:=rK.trans aW;clear fI np
   cases uA:(cO [93] tr.toList).isSome with
   | true=>
    have GR:=U (jd uA jo.o);have il:t2.size<tr.size:=by rw[← aO,← aO tr,GR.o];simp
    have HF:=U (HS.o.KP (r:=t2.toList) (by rw[GR.o];simp[cO,List.isPrefixOf]));clear uA
    go_wp2_with fail
    go_ret2
    exact⟨oa,oc,out,t2,true,rfl,gX.o,iu,jn.o,by omega,by omega,HF.o⟩
   | false=>
    have GP:t2=tr:=fS uA jo.o;subst GP;have EO:=U (kV uA);clear uA
    by_cases h16:m=16
    ·subst h16
     have HN:=U (HS.o.aks EO.o)
     go_wp2_with fail
     go_ret2
     exact⟨none,0,[],t2,false,rfl,World.ownsRow_nil _ _ _ _,iu,jn.o,by omega,by simp,HN.o⟩
    ·have akE:¬ (m:Int)=16:=by omega
     have akF:((m:Int)==16)=false:=by simp;omega
     by_cases Vj:m=0
     ·subst Vj
      simp only[decide_true,cond_true] at hol;have hv:=HV.o w2 eb lo la ll lc t2 base (HI.o.but H.o iu) jn.o (HE.o.but iu hO) hO (by omega);rw[← HD.o] at hv;have qA:=U hv;clear hv
      go_wp2_with fail
      refine qA.o.mono ?_;rintro e w4 ⟨a4,c4,v4,t4,Wd,rfl,iA,EN,tL,BH,KE,uC⟩;have O3:=U tL;have O9:=U iA;have Av:=U (gX.o.but (show dU _ _ _ _ _ from jn.o) (by decide) EN);have nW:=iu.trans EN;have Yj:=nW.size;have We:=U (ED gX.o iA);have Wf:=U (HS.o.value EO.o (by omega) (Or.inl ⟨rfl,rfl⟩));have rN:=U uC;clear tL iA uC qA
      cases Wd with
      | false=>
       have HN:=U (Wf.o.1 rN.o);clear Wf rN
       go_wp2_with fail
       go_ret2
       exact⟨none,0,[],t4,false,rfl,World.ownsRow_nil _ _ _ _,nW,O3.o,by omega,by simp,HN.o⟩
      | true=>
       have HN:=U (Wf.o.2 v4 t4.toList rN.o);clear Wf rN
       go_wp2_with fail
       refine(jF w4 w.heap.size _ _ _ out v4 Av.o O9.o We.o (by omega) (by omega) (by omega)).mono ?_;rintro e w5 ⟨a5,c5,rfl,iC,rM⟩;have yQ:=U (O3.o.mZ (Below.refl _ _) Av.o rM);have Dh:=nW.mZ (Below.refl _ _) Av.o rM;have FR:=U iC;have afb:(out++fA v4).length≤out.length+v4.length+2:=by rw[List.length_append];have:=sN (b:=v4) (by omega);omega
       generalize out++fA v4=out5 at *;clear iC rM
       go_wp2_with fail
       go_roundg (gk-1)
       case rel=>exact⟨0+1,out5,t4,by omega,by go_num,by omega,by simp;omega,U yQ.o,U FR.o,Dh,U HN.o⟩
       case measure=>omega
     ·have asC:(0:Int)<(m:Int):=by omega
      have Pb:decide (m=0)=false:=by simp[Vj]
      rw[Pb] at hol;simp only[cond_false] at hol
      go_wp2_with fail
      refine(jG _ eb la ll lc t2 (ByteArray.mk #[44]) jn.o).mono ?_;rintro e w3 ⟨t3,rfl,bP,mN,FU⟩;rw[aao] at FU ⊢;have nI:=U mN;have pU:=U FU;have lE:=U (gX.o.but (show dU _ _ _ _ _ from jn.o) (by decide) bP);have xy:=iu.trans bP;clear mN FU
      cases hr3:(cO [44] t2.toList).isSome with
      | false=>
       have GP:t3=t2:=fS hr3 pU.o;subst GP;have HN:=U (HS.o.Wb EO.o Vj (kV hr3));clear hr3
       go_wp2_with fail
       go_ret2
       exact⟨none,0,[],t3,false,rfl,World.ownsRow_nil _ _ _ _,xy,nI.o,by omega,by simp,HN.o⟩
      | true=>
       have afe:=U (jd hr3 pU.o);have Cb:t3.size<t2.size:=by rw[← aO,← aO t2,afe.o];simp
       clear hr3;have hv:=HV.o w3 eb lo la ll lc t3 base (HI.o.but H.o xy) nI.o (HE.o.but xy hO) hO (by omega);rw[← HD.o] at hv;have qA:=U hv;clear hv
       go_wp2_with fail
       refine qA.o.mono ?_;rintro e w4 ⟨a4,c4,v4,t4,Wd,rfl,iA,EN,tL,BH,KE,uC⟩;have O3:=U tL;have O9:=U iA;have Av:=U (lE.o.but (show dU _ _ _ _ _ from nI.o) (by decide) EN);have nW:=xy.trans EN;have Yj:=nW.size;have We:=U (ED lE.o iA);have Wf:=U (HS.o.value (T1:=t3.toList) EO.o (by omega) (Or.inr ⟨Vj,(by rw[afe.o];simp[cO,List.isPrefixOf])⟩));have rN:=U uC;clear tL iA uC qA
       cases Wd with
       | false=>
        have HN:=U (Wf.o.1 rN.o);clear Wf rN
        go_wp2_with fail
        go_ret2
        exact⟨none,0,[],t4,false,rfl,World.ownsRow_nil _ _ _ _,nW,O3.o,by omega,by simp,HN.o⟩
       | true=>
        have HN:=U (Wf.o.2 v4 t4.toList rN.o);clear Wf rN
        go_wp2_with fail
        refine(jF w4 w.heap.size _ _ _ out v4 Av.o O9.o We.o (by omega) (by omega) (by omega)).mono ?_;rintro e w5 ⟨a5,c5,rfl,iC,rM⟩;have yQ:=U (O3.o.mZ (Below.refl _ _) Av.o rM);have Dh:=nW.mZ (Below.refl _ _) Av.o rM;have FR:=U iC;have afb:(out++fA v4).length≤out.length+v4.length+2:=by rw[List.length_append];have:=sN (b:=v4) (by omega);omega
        generalize out++fA v4=out5 at *;clear iC rM
        go_wp2_with fail
        go_roundg (gk-1)
        case rel=>exact⟨m+1,out5,t4,by omega,by go_num,by omega,by simp;omega,U yQ.o,U FR.o,Dh,U HN.o⟩
        case measure=>omega
def M1(w:World)(L:List PTok)(e:Ending)(w':World):Prop:=∃ (a:Option Addr) (c:Nat),e=.returned (.slice a L.length c)∧w'.ownsRow w.heap.size 9 1 (.slice a L.length c) L.length (L.map fun t=>ie t.text)∧Below w.heap.size w w'
theorem xz(w:World)(lo:Nat)(c0 c1 c2:Value)(fa na:Option Addr)(fl fc nc:Nat)(c5 c6 c7 c8:Value)(L:List PTok)(h:w.ownsRow lo 113 2 (.slice na L.length nc) L.length (L.flatMap nameCells))(hl:L.length≤400):
  aT 104 #[.agg #[c0,c1,c2,.slice fa fl fc,.slice na L.length nc,c5,c6,c7,c8]] w (M1 w L):=by
 unfold M1;have H:=U h;clear h
 go_enter func104,ntmps104
 go_wp2_with fail
 have cj:Below w.heap.size w (w.alloc (.cells #[c0,c1,c2,.slice fa fl fc,.slice na L.length nc,c5,c6,c7,c8] 117)):=(Below.refl _ _).alloc (Nat.le_refl _) _
 go_loopg [3,5,9] L.length (fun gk nv f i wr=>∃ k:Nat,k+gk=L.length∧i=.int .i64 k∧Hid (wr.ownsRow w.heap.size 9 1 nv k ((L.take k).map fun t=>ie t.text))∧Below w.heap.size w wr)
 case atStart=>exact⟨0,by omega,rfl,U (World.ownsRow_nil _ _ _ _),cj⟩
 case round=>
  obtain⟨k,hk,rfl,HO,bi⟩:=hrel;have mI:=bi.size
  by_cases bC:k<L.length
  ·obtain⟨f,hf⟩:∃ f,L[k]? = some f:=⟨L[k],List.getElem?_eq_getElem bC⟩
   obtain⟨ta,tc,mB⟩:∃ a c,u3=.slice a k c:=ax HO.o
   subst mB;obtain⟨g,cap,hv,vH,xT,hs⟩:=pname_seg (aH H.o (fun g hg=>bi.block g (H.o.lt g hg).2)) hf;obtain⟨rfl,rfl⟩:na=some (aj g 0)∧nc=cap:=by simpa using hv
   have HF:=U (show (L.take (k+1)).map (fun t=>ie t.text)=(L.take k).map (fun t=>ie t.text)++[ie f.text] by rw[List.take_add_one,hf];simp);have e0:wr.cell? ⟨g,k*2,none⟩=some (.string f.text):=hs.cell (j:=0) rfl;have e1:wr.cell? ⟨g,k*2+1,none⟩=some (vI f.at_):=hs.cell (j:=1) rfl;clear hs hv hf
   go_wp2_with (at_builtin;refine cJ _ rfl _ _ 31 9 (.string ⟨#[]⟩) 1 16 rfl underlying31 rfl rfl (by omega) _ k _ w.heap.size rfl ((HO.o.alloc _).alloc _) (aj _ 0) 1 1 [ie f.text] rfl rfl (dK _ _ (by simp) #[.string f.text] _) (by simp[ie,Value.oneCell']) _ rfl _ rfl (by unfold maxLen;omega) (by omega) (by simp;omega) ?_)
   intro g5 U8 w5 ki de;have iC:Below w.heap.size w w5:=((bi.alloc mI _).alloc (by simp;omega) _).trans (de.below (fun q hq=>(HO.o.lt q hq).1) (by simp;omega));clear de
   go_wp2_with fail
   go_roundg (gk-1)
   case rel=>exact⟨k+1,by omega,by go_num,U (by rw[HF.o];simpa using ki),iC⟩
   case measure=>omega
  ·have HE:=U (show L.take k=L from List.take_of_length_le (by omega))
   go_wp2_with fail
   go_ret
   have ho:=HO.o;rw[HE.o] at ho;obtain⟨ta,tc,mB⟩:∃ a c,u3=.slice a k c:=ax HO.o
   have GA:k=L.length:=by omega
   subst GA;subst mB;exact⟨ta,tc,rfl,ho,bi⟩
end Go.Proofs.YtkpfplbmmglkkaaGreatDoor
