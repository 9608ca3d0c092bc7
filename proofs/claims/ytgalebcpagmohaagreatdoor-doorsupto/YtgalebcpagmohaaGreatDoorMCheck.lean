/- Check of package courierref: what it answers for every text. -/
import Derived.Test.YtgalebcpagmohaaGreatDoorMInW
import Derived.Test.YtgalebcpagmohaaGreatDoorMEqFault
set_option maxHeartbeats 1000000
set_option maxRecDepth 100000
namespace Go.Proofs.YtgalebcpagmohaaGreatDoor
open Go.Proofs.Tryz
open Go.RowKit
theorem Fq (p:Int) (a:Nat):0≤kS p a:=by unfold kS;split<;>omega
theorem Fv (l:List Nat) (h:l≠[]):0≤cZ l:=by
 obtain⟨a,b,rfl⟩:∃ a b,l=a++[b]:=⟨l.dropLast,l.getLast h,(List.dropLast_concat_getLast h).symm⟩
 rw[qO];exact Fq _ _
theorem KT (n:Nat):∀ (T:List Tok) (L:List bI) (a:Nat),((pW n T L a).1=none∧0≤(pW n T L a).2)∨(∃ M,(pW n T L a).1=some M∧(pW n T L a).2 = -1)
 | [],L,a=>by unfold pW;split<;>simp
 | t::r,L,a=>by
  unfold pW
  cases h:nP L a t with
  | none=>simp
  | some p=>simpa using KT n r p.1 p.2
theorem Vy (X:List IV) (name:ByteArray):(univ X name).length=1+(X.map (fun y=>y.it.fields.length)).sum:=by
 unfold univ
 rw[List.length_cons]
 have:(X.flatMap fun x=>x.it.fields.map fun f=>f.base.toList).length=(X.map (fun y=>y.it.fields.length)).sum:=by
  induction X with
  | nil=>rfl
  | cons a r ih=>rw[List.flatMap_cons,List.length_append,ih];simp
 omega
def nV (s:ByteArray) (E P:Int):Prop :=
 (400<s.size∧E=1∧P=0) ∨
 (s.size≤400∧(((pW s.size (fE s) [] 0).1=none∧E=2∧P=(pW s.size (fE s) [] 0).2) ∨
  ∃ X:List IV,(pW s.size (fE s) [] 0).1=some (X.map (fun y=>y.it)) ∧
   ((∃ i x,X[i]? = some x∧fP X i x.it≠[]∧(∀ j y,j<i→X[j]? = some y→fP X j y.it=[])∧E=3∧P=cZ (fP X i x.it)) ∨
    ((∀ j y,X[j]? = some y→fP X j y.it=[])∧E=0∧P=0))))
theorem jd (s:ByteArray) (w:World) (hs:s.size≤maxLen) :
  Calls Tryz.prog 6 #[.string s] w fun e w'=>∃ E P:Int,e=.returned (.tuple #[.int .i64 E,.int .i64 P])∧Below w.heap.size w w'∧nV s E P:=by
 unfold maxLen at hs
 by_cases h4:s.size≤400
 ·go_enter func6,ntmps6
  go_wp2_with fail
  refine(zL s _ h4).mono ?_;rintro e w1 ⟨lv,rfl,hb1,hans⟩
  rcases KT s.size (fE s) [] 0 with⟨hg1,hg2⟩ | ⟨M,hg1,hg2⟩
  ·have HA:=hid (show nV s 2 (pW s.size (fE s) [] 0).2 from Or.inr ⟨h4,Or.inl ⟨hg1,rfl,rfl⟩⟩)
   clear hans hg1
   generalize (pW s.size (fE s) [] 0).2=p at *
   go_wp2_with fail
   go_ret2
   exact⟨2,p,rfl,hb1,HA.out⟩
  ·obtain⟨X,hX,hits,hl,hok,hsum⟩:∃ X,(pW s.size (fE s) [] 0).1=some (X.map (fun y=>y.it))∧Its w1 w.heap.size lv X∧X.length≤400∧(∀ y∈X,yD y.it 400)∧(X.map (fun y=>y.it.fields.length)).sum≤400:=by
    rcases hans with⟨h,_⟩ | h
    ·rw[hg1] at h;cases h
    ·exact h
   rw[hg2]
   obtain⟨la,lc,hlv⟩:∃ a c,lv=.slice a X.length c:=ak hits.own
   subst hlv
   have HX:=hid hX
   have HI:=hid hits
   have BX:=hid hok
   have HSU:=hid hsum
   clear hX hits hok hsum hans hg1 hg2
   go_wp2_with fail
   go_loopg [6,7] X.length (fun gk i p wr=>∃ k:Nat,k+gk=X.length∧i=.int .i64 k∧Hid (∀ j y,j<k→X[j]? = some y→fP X j y.it=[])∧Below w1.heap.size w1 wr)
   case atStart=>exact⟨0,by omega,rfl,hid (fun j y hj=>by omega),Below.refl _ _⟩
   case round=>
    obtain⟨k,hk,rfl,HA,hbel⟩:=hrel
    have hb0:=hb1.trans (hbel.mono hb1.size)
    by_cases hlt:k<X.length
    ·obtain⟨x,hx⟩:∃ x,X[k]? = some x:=⟨X[k],List.getElem?_eq_getElem hlt⟩
     have hxo:=BX.out x (List.mem_of_getElem? hx)
     have Nl:=hid hx
     clear hx
     go_wp2_with fail
     refine(KR _ _ _ X k x (HI.out.same hbel) Nl.out hl (by rw[Vy];have:=HSU.out;omega) hxo.na hxo.ba hxo.n hxo.b).mono ?_;rintro e w2 ⟨rfl,hb2⟩
     have nM:=hb0.trans (hb2.mono hb0.size)
     have fC:=hbel.trans (hb2.mono hbel.size)
     by_cases hf:fP X k x.it=[]
     ·have hle:cZ (fP X k x.it) = -1:=by rw[hf];rfl
      rw[hle]
      have HF:=hid hf
      clear hf hle
      go_wp2_with fail
      go_roundg (gk-1)
      case rel=>exact⟨k+1,by omega,by go_num,hid (fun j y hj hy=>by
       rcases Nat.lt_or_ge j k with h | h
       ·exact HA.out j y h hy
       ·have e:j=k:=by omega
        rw[e] at hy ⊢;rw[Nl.out] at hy;simp at hy;subst hy;exact HF.out),fC⟩
      case measure=>omega
     ·have HR:=hid (show nV s 3 (cZ (fP X k x.it)) from Or.inr ⟨h4,Or.inr ⟨X,HX.out,Or.inl ⟨k,x,Nl.out,hf,HA.out,rfl,rfl⟩⟩⟩)
      have hge:=Fv _ hf
      clear hf
      generalize cZ (fP X k x.it)=p at *
      go_wp2_with fail
      go_ret2
      exact⟨3,p,rfl,nM,HR.out⟩
    ·have HR:=hid (show nV s 0 0 from Or.inr ⟨h4,Or.inr ⟨X,HX.out,Or.inr ⟨fun j y hy=>HA.out j y (by
      rcases Nat.lt_or_ge j X.length with h | h
      ·omega
      ·rw[List.getElem?_eq_none h] at hy;cases hy) hy,rfl,rfl⟩⟩⟩)
     go_wp2_with fail
     go_ret2
     exact⟨0,0,rfl,hb0,HR.out⟩
 ·have HA:=hid (show nV s 1 0 from Or.inl ⟨by omega,rfl,rfl⟩)
  have hgt:(400:Int)<(s.size:Int):=by omega
  go_enter func6,ntmps6
  go_wp2_with fail
  go_ret2
  exact⟨1,0,rfl,Below.refl _ _,HA.out⟩
def bM (s:ByteArray) (E P:Int):Prop :=
 (400<s.size∧E=1∧P=0) ∨
 (s.size≤400∧(((dD s).1=none∧E=2∧P=((dD s).2.at_:Int)) ∨
  ∃ X:List bY,(dD s).1=some (X.map (fun x=>x.it)) ∧
   ((∃ m:Nat,PF X m∧(∀ a,PF X a→m≤a)∧E=3∧P=(m:Int))∨((∀ a,¬ PF X a)∧E=0∧P=0))))
theorem su {s:ByteArray} {X:List bY} (h:(dD s).1=some (X.map (fun x=>x.it))):Facts s X:=by
 obtain⟨h1,h2,_⟩:=vV h
 exact⟨fun x hx=>h1 x.it (List.mem_map.2 ⟨x,hx,rfl⟩),h2⟩
theorem eP {s:ByteArray} {E P E' P':Int} (hr:nV s E P) (hp:bM s E' P'):E=E'∧P=P':=by
 rcases hr with⟨h1,e1,e2⟩ | ⟨h1,hr⟩
 ·rcases hp with⟨_,f1,f2⟩ | ⟨h2,_⟩
  ·exact⟨by rw[e1,f1],by rw[e2,f2]⟩
  ·omega
 ·rcases hp with⟨h2,_⟩ | ⟨_,hp⟩
  ·omega
  ·have hq:=yI s
   rcases hp with⟨hn,f1,f2⟩ | ⟨X,hX,hp⟩
   ·rw[hn] at hq
    simp only at hq
    rw[hq] at hr
    rcases hr with⟨_,e1,e2⟩ | ⟨Y,hY,_⟩
    ·exact⟨by rw[e1,f1],by rw[e2,f2]⟩
    ·cases hY
   ·rw[hX] at hq
    simp only at hq
    rw[hq] at hr
    rcases hr with⟨hc,_⟩ | ⟨Y,hY,hr⟩
    ·cases hc
    ·have hF:=su hX
     have ht:Twin X Y:=by
      simp only[Option.some.injEq,List.map_map] at hY
      unfold Twin;rw[← hY];rfl
     rcases hr with⟨i,y,hy,hne,hbef,e1,e2⟩ | ⟨hall,e1,e2⟩
     ·rcases hp with⟨m,hm,hmin,f1,f2⟩ | ⟨hno,_⟩
      ·refine⟨by rw[e1,f1],?_⟩
       rcases OD (fP Y i y.it) with⟨h0,_⟩ | ⟨q,hq1,hq2,hq3⟩
       ·exact absurd h0 hne
       ·rw[e2,f2,hq2]
        have hqP:PF X q:=(rZ ht hF q).2 ⟨i,y,hy,hq1⟩
        have hle:=hmin q hqP
        obtain⟨j,z,hz,hmz⟩:=(rZ ht hF m).1 hm
        have hge:q≤m:=by
         rcases Nat.lt_trichotomy j i with hj | hj | hj
         ·rw[hbef j z hj hz] at hmz;simp at hmz
         ·subst hj;rw[hy] at hz;cases hz;exact hq3 m hmz
         ·obtain⟨x,hx,ex⟩:=ht.atR hy
          obtain⟨x',hx',ex'⟩:=ht.atR hz
          have hil:=iR hx
          have hjl:=iR hx'
          have:=(List.pairwise_iff_getElem.1 hF.ahead) i j (by simpa using hil) (by simpa using hjl) hj
          rw[List.getElem_map,List.getElem_map] at this
          rw[List.getElem?_eq_getElem hil] at hx
          rw[List.getElem?_eq_getElem hjl] at hx'
          simp only[Option.some.injEq] at hx hx'
          rw[hx,hx'] at this
          obtain⟨c,⟨lo,h1⟩,⟨hi,h2⟩⟩:=this
          rw[ex] at hq1
          rw[ex'] at hmz
          have a1:=DN ht h1 hq1
          have a2:=DN ht h2 hmz
          omega
        omega
      ·obtain⟨q,hq⟩:=List.exists_mem_of_ne_nil _ hne
       exact absurd ((rZ ht hF q).2 ⟨i,y,hy,hq⟩) (hno q)
     ·rcases hp with⟨m,hm,_⟩ | ⟨_,f1,f2⟩
      ·obtain⟨j,z,hz,hmz⟩:=(rZ ht hF m).1 hm
       rw[hall j z hz] at hmz;simp at hmz
      ·exact⟨by rw[e1,f1],by rw[e2,f2]⟩
end Go.Proofs.YtgalebcpagmohaaGreatDoor
