/- find, isType, within of package courierref: over items as they lie in memory. -/
import Derived.Test.YtdgcamlmjmnpeaaGreatDoorMKept
namespace Go.Proofs.YtdgcamlmjmnpeaaGreatDoor
open Go.RowKit
theorem own_form {w:World} {lo:Nat} {e:TypeId} {size n:Nat} {v:Value} {xs:List Value} (h:w.ownsRow lo e size v n xs) (hn:0 < n):∃ g cap,v = .slice (some ⟨g,0,none⟩) n cap ∧ lo ≤ g ∧ g < w.heap.size:=h.form hn
theorem own_seg {w:World} {lo:Nat} {e:TypeId} {size n g cap:Nat} {xs:List Value} (h:w.ownsRow lo e size (.slice (some ⟨g,0,none⟩) n cap) n xs):Seg w g e 0 xs:=by
 rcases h.2 with ⟨h',_⟩ | ⟨g',cap',cur,h',_,hg,hn,_,hcs,htake⟩
 ·simp at h'
 ·simp only [Value.slice.injEq,Option.some.injEq,Addr.mk.injEq,and_true,true_and] at h'
  obtain ⟨rfl,rfl⟩:=h'
  refine ⟨cur,hg,by rw [h.1,hcs];simp;exact Nat.mul_le_mul_right _ hn,?_⟩
  rw [h.1];simpa using htake
theorem Seg.part {w:World} {b:Nat} {T:TypeId} {o:Nat} {xs:List Value} (h:Seg w b T o xs) (p n:Nat) (ys:List Value) (hy:(xs.drop p).take n = ys) (hn:ys.length = n) (h0:0 < n):Seg w b T (o + p) ys:=by
 obtain ⟨cur,hb,hs,ht⟩:=h
 have hl:n ≤ xs.length - p:=by
  rw [← hn,← hy,List.length_take,List.length_drop];omega
 refine ⟨cur,hb,by omega,?_⟩
 rw [hn,← hy,← ht,List.drop_take,List.drop_drop,List.take_take,Nat.min_eq_left (by omega)]
def matchB (name:List UInt8) (it:RItem):Bool:=typeWord it.kind.toList && it.name.toList == name
def findI (L:List IV) (name:List UInt8):Int:=match L.findIdx? (fun x=>matchB name x.it) with | some i=>i | none=>-1
def typeB (L:List IV) (base:List UInt8):Bool:=builtB base || decide (0 ≤ findI L base)
end Go.Proofs.YtdgcamlmjmnpeaaGreatDoor
namespace Go.Proofs.YtdgcamlmjmnpeaaGreatDoor
open Go.RowKit
def newItem (t:ByteArray):RItem:=⟨t,emptyB,0,[],[],[],[],[]⟩
def kindW (l:List UInt8):Bool:=l == wMessage || l == wEnum || l == wStream || l == wCall
def stepP (L:List RItem) (at_:Nat) (t:Tok):Option (List RItem × Nat) :=
 if t.bad = true then none
 else if at_ = 0 then (if kindW t.text.toList = true then some (L ++ [newItem t.text],1) else none)
 else match L.getLast? with
  | none=>none
  | some it=>if (inItemP it at_ t).2 = 9 then none else some (L.dropLast ++ [(inItemP it at_ t).1],(inItemP it at_ t).2)
def goP (n:Nat):List Tok → List RItem → Nat → Option (List RItem) × Int
 | [],L,a=>if a = 0 then (some L,-1) else (none,(n:Int))
 | t :: r,L,a=>match stepP L a t with | none=>(none,(t.at_:Int)) | some p=>goP n r p.1 p.2
structure ItOk (it:RItem) (k:Nat):Prop where
 na:it.namesAt.length = it.names.length
 ba:it.basesAt.length = it.bases.length
 n:it.names.length ≤ k
 b:it.bases.length ≤ k
 f:it.fields.length ≤ k
theorem ItOk.mono {it:RItem} {k k':Nat} (h:ItOk it k) (hk:k ≤ k'):ItOk it k':=⟨h.na,h.ba,Nat.le_trans h.n hk,Nat.le_trans h.b hk,Nat.le_trans h.f hk⟩
end Go.Proofs.YtdgcamlmjmnpeaaGreatDoor
namespace Go.Proofs.YtdgcamlmjmnpeaaGreatDoor
open Go.RowKit
end Go.Proofs.YtdgcamlmjmnpeaaGreatDoor
