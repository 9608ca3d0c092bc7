/- The decoder at every level. -/
import Derived.Test.YtkpfplbmmglkkaaGreatDoorV20
import Derived.Test.YtkpfplbmmglkkaaGreatDoorV13
import Derived.Lib.UnsafeStr
set_option linter.all false
set_option maxHeartbeats 2000000
set_option maxRecDepth 100000
namespace Go.Proofs.YtkpfplbmmglkkaaGreatDoor
open Go.Proofs.Tryz
variable {X:List PIV}
theorem Nk(hX:M0 X)(hN:∀ x∈X,x.it.fields.Pairwise fun f g=>f.number≠g.number):∀ n,n≤6→SW X n∧SX X n
 | 0,_=>⟨AN (Ij X) hX hN,EZ X⟩
 | n+1,h=>by
  obtain⟨h1,h2⟩:=Nk hX hN n (by omega);exact⟨AN (Tr (by omega) h1 h2) hX hN,Pu (by omega) h1⟩
open Go.RowKit
theorem Tu(w:World)(db lo:Nat)(lv v:Value)(L:List UInt8)(h:yu w db lo lv v L):
  aT 257 #[.pointer (some (aj db 1))] w fun e w'=>e=.returned (vI L.length)∧w'=w:=by
 obtain⟨la,lc,nk⟩:∃ a c,v=.slice a L.length c:=ax h.o
 obtain⟨p,_,hd⟩:=h.d;subst nk;have c2:=hd.seg.cell (j:=2) rfl;simp only[Nat.zero_add] at c2;clear h hd
 go_enter func257,ntmps257
 go_wp2_with fail
 go_ret
 exact⟨rfl,rfl⟩
theorem Tryz.cellsByte:Tryz.prog.cellsOf 5=1:=by kernel_rfl
theorem Im(w:World)(db lo:Nat)(lv v:Value)(L:List UInt8)(h:yu w db lo lv v L)(h0:L≠[]):
  aT 258 #[.pointer (some (aj db 1))] w fun e w'=>e=.returned (.string ⟨L.toArray⟩)∧Below lo w w':=by
 obtain⟨p,_,hd⟩:=h.d;have iY:=h.o;have Vc:L.length≠0:=by simpa using h0
 obtain⟨g,cap,cur,rfl,QM,hg,hnc,Yq,BF,Rw⟩:∃ g cap cur,v=.slice (some (aj g 0)) L.length cap∧lo≤g∧w.heap[g]? = some (.cells cur 5 (0,0))∧L.length≤cap∧cap≤maxLen∧cur.size=cap*1∧cur.toList.take (L.length*1)=L.map bJ:=by
  rcases iY.2 with⟨_,hz⟩ | ⟨g,cap,cur,hv,r⟩
  ·exact absurd hz Vc
  ·exact⟨g,cap,cur,hv,r⟩
 have c2:w.drew.cell? (aj db 2)=some (.slice (some (aj g 0)) L.length cap):=by
  have:=hd.seg.cell (j:=2) rfl;simpa using this
 have hSD:(Builtin.unsafeSliceData_ #[103] 312 #[.slice (some (aj g 0)) L.length cap]).run Tryz.prog w.drew=.ok (aM g) w.drew :=
  Lib.run_unsafeSliceData_row _ _ _ _ _ _ (by omega)
 have hUS:(Builtin.unsafeString_ #[312,3] 9 #[aM g,vI L.length]).run Tryz.prog w.drew=.ok (.string ⟨L.toArray⟩) (w.drew.freeze (aj g 0) L.length):=by
  refine Lib.run_unsafeString_row w.drew 312 3 9 5 underlying312 Tryz.cellsByte g cur.size (by have xR:w.drew.heap[g]? = some (.cells cur 5 (0,0)):=hg;simp[World.shape?,xR]) L h0 (by omega) (by unfold maxLen at Yq;omega) ?_;intro j x hx;have:=iY.cells (g:=g) rfl j (vB x.toNat) (by rw[List.getElem?_map,hx];rfl);exact this
 clear h hd iY Rw BF Yq hg hnc;have mixed:Tryz.prog.follows Departure.mixedOrders=true:=by kernel_rfl
 go_enter func258,ntmps258
 go_wp2
 go_region_o
 all_goals (go_wp2;go_ret;exact⟨rfl,Lib.below_freeze (Below.drew (Below.refl lo w)) (p:=(aj g 0)) QM _⟩)
def DE(X:List PIV):Prop:=∀ x∈X,x.it.fields.Pairwise (fun f g=>f.number<g.number)∧x.it.fields.Pairwise (fun f g=>f.name.toList≠g.name.toList)
theorem wj{b:List UInt8}{t:TD}(h:nJ X b=some t):∃ x∈X,t=(if x.it.kind==0 then Sum.inr (x.it.fields.map yT) else Sum.inl (x.it.names.map (fun t=>t.text.toList))):=by
 unfold nJ at h
 cases hx:X[(pFindI X b).toNat]? with
 | none=>rw[hx] at h;cases h
 | some x=>
  rw[hx] at h;simp only at h
  split at h
  ·cases h
  ·refine⟨x,List.mem_of_getElem? hx,?_⟩
   split at h<;>(simp only[Option.some.injEq] at h;rw[← h];simp_all)
theorem Nl{s:ByteArray}(hs:s.size≤400)(h:(parseP s).1=some (X.map (fun x=>x.it)))(nH:DE X):Pq (nJ X):=by
 have src:∀ x∈X,OZ s x.it:=fun x hx=>Ar h _ (List.mem_map.2 ⟨x,hx,rfl⟩)
 have nm:∀ t,EE s t→t.text.toList≠[]∧∀ c∈t.text.toList,eX c=true:=fun t ht=>⟨fun e=>by
  have h1:=(ht.size hs).1;rw[St.1 e] at h1
  omega,ht.1.V7 (fJ ht.2)⟩
 refine⟨fun b ns hb n hn=>?_,fun b fs hb f hf=>?_,fun b fs hb=>?_⟩
 ·obtain⟨x,hx,e⟩:=wj hb
  split at e
  ·cases e
  ·simp only[Sum.inl.injEq] at e
   subst e;obtain⟨u,hu,rfl⟩:=List.mem_map.1 hn;exact nm u ((src x hx).n u hu)
 ·obtain⟨x,hx,e⟩:=wj hb
  split at e
  ·simp only[Sum.inr.injEq] at e
   subst e;obtain⟨u,hu,rfl⟩:=List.mem_map.1 hf;obtain⟨t,ht,e2⟩:=((src x hx).f u hu).name;show u.name.toList≠[]∧∀ c∈u.name.toList,eX c=true
   rw[e2];exact nm t ht
  ·cases e
 ·obtain⟨x,hx,e⟩:=wj hb
  split at e
  ·simp only[Sum.inr.injEq] at e
   subst e;rw[List.pairwise_map];exact(nH x hx).2
  ·cases e
def Tv(X:List PIV)(base:ByteArray)(d:List UInt8)(E:Int)(s:List UInt8):Prop :=
 (E=4∧s=[]∧hasB X base=false)∨(hasB X base=true ∧
  ((E=6∧s=[]∧(64<d.length∨∀ t,(kX X 6).1 base.toList d=some t→400<t.length))∨(E=0∧d.length≤64∧(kX X 6).1 base.toList d=some s∧s.length≤400)))
def Io(A:Int→List UInt8→Prop)(w:World)(e:Ending)(w':World):Prop:=∃ (t:ByteArray) (E:Int),e=.returned (.tuple #[.string t,.int .i64 E])∧Below w.heap.size w w'∧A E t.toList
theorem Ld{n:Nat}:∀ fs d s,ky X n fs d=some s→∃ r,s=123::r:=by
 intro fs d s h
 cases n with
 | zero=>cases h
 | succ n=>
  have h':Wu (kX X n).1 (kX X n).2 fs d=some s:=h;unfold Wu at h';obtain⟨ps,_,h2⟩:=Option.bind_eq_some_iff.1 h';obtain⟨o,_,rfl⟩:=Option.map_eq_some_iff.1 h2;exact⟨o,rfl⟩
theorem E7:(ByteArray.mk #[]).toList=[]:=by rw[ByteArray.toList_eq]
theorem Ip(w:World)(lo:Nat)(la:Option Addr)(ll lc:Nat)(X:List PIV)(base:ByteArray)(dv:Value)(d:List UInt8)(hI:PIts w lo (.slice la ll lc) X)(hX:M0 X)(hP:DE X)(hT:Pq (nJ X))(hE:mR w)(hd:om w dv d)(yU:d.length≤maxLen):
  aT 237 #[.slice la ll lc,.string base,dv] w (Io (Tv X base d) w):=by
 unfold Io;unfold maxLen at yU;obtain⟨da,dc,BR⟩:∃ a c,dv=.slice a d.length c:=hd.1.slice
 subst BR;have HI:=U hI;have HX:=U hX;have HE:=U hE;have HD:=U hd;have HP:=U hP;have HT:=U hT;clear hI hX hE hd hP hT
 go_enter func237,ntmps237
 go_wp2_with fail
 refine(hasBase_any w lo _ X base HI.o HX.o.YS HX.o.len).mono ?_;rintro e w1 ⟨rfl,aA⟩;have ju:=aA.size
 cases hh:hasB X base with
 | false=>
  have HH:=U hh;clear hh
  go_wp2_with fail
  go_ret2
  exact⟨_,4,rfl,aA,Or.inl ⟨rfl,E7,HH.o⟩⟩
 | true=>
  have HH:=U hh;clear hh
  by_cases h4:d.length≤64
  ·have h4I:¬ (64:Int)<(d.length:Int):=by omega
   have h4D:decide ((64:Int)<(d.length:Int))=false:=by simp;omega
   have QS:Below w1.heap.size w1 (w1.alloc (.cells #[.slice la ll lc,.pointer none,.slice none 0 0] 347)):=(Below.refl _ _).alloc (Nat.le_refl _) _;have YP:=U (show yu (w1.alloc (.cells #[.slice la ll lc,.pointer none,.slice none 0 0] 347)) w1.heap.size w1.heap.size (.slice la ll lc) (.slice none 0 0) [] from⟨⟨none,Or.inl rfl,heap_alloc_new w1 _⟩,World.ownsRow_nil _ _ _ _⟩);have HI1:=U (HI.o.below aA);have CY:=U (HE.o.below aA);have Dq:=U (HD.o.gr aA);have hzW:=QS.size
   go_wp2_with fail
   generalize (w1.alloc (.cells #[.slice la ll lc,.pointer none,.slice none 0 0] 347))=wW at *;refine((Nk HX.o (fun x hx=>(HP.o x hx).1.imp (fun h=>by omega)) 6 (Nat.le_refl _)).1 w1 wW w1.heap.size lo la ll lc _ _ [] d base HI1.o Dq.o CY.o QS (Nat.le_refl _) YP.o h4 ⟨by simp;omega⟩).mono ?_;rintro e w2 ⟨ok,v2,S,rfl,hdc,JO,hSl,hsp⟩;rw[List.nil_append] at hdc;have sH:Below w1.heap.size w1 w2:=QS.trans (JO.below (Nat.le_refl _) hzW);have aW:=aA.trans (sH.mono ju);have HDC:=U hdc;have rN:=U hsp;clear hdc hsp JO
   cases ok with
   | false=>
    go_wp2_with fail
    go_ret2
    exact⟨_,6,rfl,aW,Or.inr ⟨HH.o,Or.inl ⟨rfl,E7,Or.inr (fun t ht=>by rw[show (kX X 6).1 base.toList d=none from rN.o] at ht;cases ht)⟩⟩⟩
   | true=>
    have HS:=U (show (kX X 6).1 base.toList d=some S from rN.o)
    have HN:=U (show S≠[] from by
     have h1:=HS.o;rw[Hy] at h1;have h2:=KZ HT.o (fun fs d s h=>Ld fs d s h) h1;intro e;rw[e] at h2;obtain⟨c,r,e2,_⟩:=h2
     cases e2)
    go_wp2_with fail
    refine(Tu w2 _ _ _ _ S HDC.o).mono ?_;rintro e w3 ⟨rfl,rfl⟩
    by_cases alE:S.length≤400
    ·have alF:¬ (400:Int)<(S.length:Int):=by omega
     have atY:decide ((400:Int)<(S.length:Int))=false:=by simp;omega
     go_wp2_with fail
     refine(Im w3 _ _ _ _ S HDC.o HN.o).mono ?_;rintro e w4 ⟨rfl,PC⟩;have iA:=aW.trans (PC.mono ju);obtain⟨t,Df⟩:∃ t,Hid (ByteArray.mk S.toArray=t):=⟨_,U rfl⟩
     rw[Df.o]
     go_wp2_with fail
     go_ret2
     have sK:t.toList=S:=by rw[← Df.o,ByteArray.toList_eq]
     exact⟨t,0,rfl,iA,Or.inr ⟨HH.o,Or.inr ⟨rfl,h4,by rw[sK];exact HS.o,by rw[sK];exact alE⟩⟩⟩
    ·have alF:(400:Int)<(S.length:Int):=by omega
     go_wp2_with fail
     go_ret2
     exact⟨_,6,rfl,aW,Or.inr ⟨HH.o,Or.inl ⟨rfl,E7,Or.inr (fun t ht=>by rw[HS.o] at ht;cases ht;omega)⟩⟩⟩
  ·have h4I:(64:Int)<(d.length:Int):=by omega
   go_wp2_with fail
   go_ret2
   exact⟨_,6,rfl,aA,Or.inr ⟨HH.o,Or.inl ⟨rfl,E7,Or.inl (by omega)⟩⟩⟩
end Go.Proofs.YtkpfplbmmglkkaaGreatDoor
