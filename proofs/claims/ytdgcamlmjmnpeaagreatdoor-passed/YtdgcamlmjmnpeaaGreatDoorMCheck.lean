/- Check of package courierref: what it answers for every text. -/
import Derived.Test.YtdgcamlmjmnpeaaGreatDoorKRefItemsW
import Derived.Test.YtdgcamlmjmnpeaaGreatDoorMIn
import Derived.Test.YtdgcamlmjmnpeaaGreatDoorMEqFault
namespace Go.Proofs.YtdgcamlmjmnpeaaGreatDoor
open Go.RowKit
def RefAns (s:ByteArray) (E P:Int):Prop :=
 (400 < s.size ∧ E = 1 ∧ P = 0) ∨
 (s.size ≤ 400 ∧ (((goP s.size (toksOf s) [] 0).1 = none ∧ E = 2 ∧ P = (goP s.size (toksOf s) [] 0).2) ∨
  ∃ X:List IV,(goP s.size (toksOf s) [] 0).1 = some (X.map (fun y=>y.it)) ∧
   ((∃ i x,X[i]? = some x ∧ faultPl X i x.it ≠ [] ∧ (∀ j y,j < i → X[j]? = some y → faultPl X j y.it = []) ∧ E = 3 ∧ P = leastL (faultPl X i x.it)) ∨
    ((∀ j y,X[j]? = some y → faultPl X j y.it = []) ∧ E = 0 ∧ P = 0))))
end Go.Proofs.YtdgcamlmjmnpeaaGreatDoor
namespace Go.Proofs.YtdgcamlmjmnpeaaGreatDoor
def ProgAns (s:ByteArray) (E P:Int):Prop :=
 (400 < s.size ∧ E = 1 ∧ P = 0) ∨
 (s.size ≤ 400 ∧ (((parseP s).1 = none ∧ E = 2 ∧ P = ((parseP s).2.at_:Int)) ∨
  ∃ X:List PIV,(parseP s).1 = some (X.map (fun x=>x.it)) ∧
   ((∃ m:Nat,PF X m ∧ (∀ a,PF X a → m ≤ a) ∧ E = 3 ∧ P = (m:Int)) ∨ ((∀ a,¬ PF X a) ∧ E = 0 ∧ P = 0))))
theorem facts_of {s:ByteArray} {X:List PIV} (h:(parseP s).1 = some (X.map (fun x=>x.it))):Facts s X:=by
 obtain ⟨h1,h2,_⟩:=parseP_in h
 exact ⟨fun x hx=>h1 x.it (List.mem_map.2 ⟨x,hx,rfl⟩),h2⟩
theorem check_agree {s:ByteArray} {E P E' P':Int} (hr:RefAns s E P) (hp:ProgAns s E' P'):E = E' ∧ P = P':=by
 rcases hr with ⟨h1,e1,e2⟩ | ⟨h1,hr⟩
 ·rcases hp with ⟨_,f1,f2⟩ | ⟨h2,_⟩
  ·exact ⟨by rw [e1,f1],by rw [e2,f2]⟩
  ·omega
 ·rcases hp with ⟨h2,_⟩ | ⟨_,hp⟩
  ·omega
  ·have hq:=parse_eq s
   rcases hp with ⟨hn,f1,f2⟩ | ⟨X,hX,hp⟩
   ·rw [hn] at hq
    simp only at hq
    rw [hq] at hr
    rcases hr with ⟨_,e1,e2⟩ | ⟨Y,hY,_⟩
    ·exact ⟨by rw [e1,f1],by rw [e2,f2]⟩
    ·cases hY
   ·rw [hX] at hq
    simp only at hq
    rw [hq] at hr
    rcases hr with ⟨hc,_⟩ | ⟨Y,hY,hr⟩
    ·cases hc
    ·have hF:=facts_of hX
     have ht:Twin X Y:=by
      simp only [Option.some.injEq,List.map_map] at hY
      unfold Twin;rw [← hY];rfl
     rcases hr with ⟨i,y,hy,hne,hbef,e1,e2⟩ | ⟨hall,e1,e2⟩
     ·rcases hp with ⟨m,hm,hmin,f1,f2⟩ | ⟨hno,_⟩
      ·refine ⟨by rw [e1,f1],?_⟩
       rcases least_spec (faultPl Y i y.it) with ⟨h0,_⟩ | ⟨q,hq1,hq2,hq3⟩
       ·exact absurd h0 hne
       ·rw [e2,f2,hq2]
        have hqP:PF X q:=(fault_eq ht hF q).2 ⟨i,y,hy,hq1⟩
        have hle:=hmin q hqP
        obtain ⟨j,z,hz,hmz⟩:=(fault_eq ht hF m).1 hm
        have hge:q ≤ m:=by
         rcases Nat.lt_trichotomy j i with hj | hj | hj
         ·rw [hbef j z hj hz] at hmz;simp at hmz
         ·subst hj;rw [hy] at hz;cases hz;exact hq3 m hmz
         ·obtain ⟨x,hx,ex⟩:=ht.atR hy
          obtain ⟨x',hx',ex'⟩:=ht.atR hz
          have hil:=at_lt hx
          have hjl:=at_lt hx'
          have:=(List.pairwise_iff_getElem.1 hF.ahead) i j (by simpa using hil) (by simpa using hjl) hj
          rw [List.getElem_map,List.getElem_map] at this
          rw [List.getElem?_eq_getElem hil] at hx
          rw [List.getElem?_eq_getElem hjl] at hx'
          simp only [Option.some.injEq] at hx hx'
          rw [hx,hx'] at this
          obtain ⟨c,⟨lo,h1⟩,⟨hi,h2⟩⟩:=this
          rw [ex] at hq1
          rw [ex'] at hmz
          have a1:=faultPl_in ht h1 hq1
          have a2:=faultPl_in ht h2 hmz
          omega
        omega
      ·obtain ⟨q,hq⟩:=List.exists_mem_of_ne_nil _ hne
       exact absurd ((fault_eq ht hF q).2 ⟨i,y,hy,hq⟩) (hno q)
     ·rcases hp with ⟨m,hm,_⟩ | ⟨_,f1,f2⟩
      ·obtain ⟨j,z,hz,hmz⟩:=(fault_eq ht hF m).1 hm
       rw [hall j z hz] at hmz;simp at hmz
      ·exact ⟨by rw [e1,f1],by rw [e2,f2]⟩
end Go.Proofs.YtdgcamlmjmnpeaaGreatDoor
