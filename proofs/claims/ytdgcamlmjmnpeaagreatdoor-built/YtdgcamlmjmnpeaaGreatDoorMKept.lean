/- The items that package courierref builds: what they hold, how they lie in memory, and what one token does to the last of them (no walk). -/
import Derived.Test.YtdgcamlmjmnpeaaGreatDoorMLeaf
import Derived.Deep.AppendLies
import Derived.Deep.QuietTactic
import Derived.BigQuiet
import Derived.Lib.SmallJoins
namespace Go.Proofs.YtdgcamlmjmnpeaaGreatDoor
open Go.RowKit
def Seg (w:World) (b:Nat) (T:TypeId) (o:Nat) (xs:List Value):Prop :=
 ∃ cur,w.heap[b]? = some (.cells cur T (0,0)) ∧ o + xs.length ≤ cur.size ∧ (cur.toList.drop o).take xs.length = xs
theorem Seg.cell {w:World} {b:Nat} {T:TypeId} {o:Nat} {xs:List Value} (h:Seg w b T o xs) {j:Nat} {v:Value} (hj:xs[j]? = some v):w.cell? ⟨b,o + j,none⟩ = some v:=by
 obtain ⟨cur,hb,hs,ht⟩:=h
 have hlt:j < xs.length:=by
  rcases Nat.lt_or_ge j xs.length with h | h
  ·exact h
  ·rw [List.getElem?_eq_none h] at hj;cases hj
 simp only [World.cell?,hb]
 rw [← hj]
 conv=>rhs;rw [← ht,List.getElem?_take,if_pos hlt]
 simp
theorem Seg.frozen {w:World} {b:Nat} {T:TypeId} {o:Nat} {xs:List Value} (h:Seg w b T o xs) (j:Nat):w.frozen? ⟨b,j,none⟩ = false:=by
 obtain ⟨cur,hb,_⟩:=h
 simp [World.frozen?,hb]
theorem Seg.lt {w:World} {b:Nat} {T:TypeId} {o:Nat} {xs:List Value} (h:Seg w b T o xs):b < w.heap.size:=by
 obtain ⟨cur,hb,_⟩:=h
 rcases Nat.lt_or_ge b w.heap.size with hlt | hge
 ·exact hlt
 ·rw [Array.getElem?_eq_none hge] at hb;cases hb
theorem Seg.same {w w':World} {b:Nat} {T:TypeId} {o:Nat} {xs:List Value} (h:Seg w b T o xs) (e:w'.heap[b]? = w.heap[b]?):Seg w' b T o xs:=by
 obtain ⟨cur,hb,hr⟩:=h
 exact ⟨cur,by rw [e,hb],hr⟩
theorem Seg.set {w:World} {b:Nat} {T:TypeId} {o:Nat} {xs:List Value} (h:Seg w b T o xs) (j:Nat) (v:Value):Seg (w.setCell ⟨b,o + j,none⟩ v) b T o (xs.set j v):=by
 obtain ⟨cur,hb,hs,ht⟩:=h
 refine ⟨cur.setIfInBounds (o + j) v,heap_setCell_same w b (o + j) cur T v hb,by simpa using hs,?_⟩
 rw [Array.toList_setIfInBounds,List.length_set]
 by_cases hj:j < xs.length
 ·rw [List.drop_set,if_neg (by omega),List.take_set,ht,show o + j - o = j from by omega]
 ·rw [List.drop_set,if_neg (by omega),List.take_set,ht,List.set_eq_of_length_le (by omega),List.set_eq_of_length_le (by omega)]
structure RField where
 number:Int
 name:ByteArray
 kind:ByteArray
 base:ByteArray
 numberAt:Nat
 nameAt:Nat
 baseAt:Nat
structure RItem where
 kind:ByteArray
 name:ByteArray
 nameAt:Nat
 fields:List RField
 names:List ByteArray
 namesAt:List Nat
 bases:List ByteArray
 basesAt:List Nat
structure IV where
 it:RItem
 vf:Value
 vn:Value
 vna:Value
 vb:Value
 vba:Value
def strCell (s:ByteArray):Value:=.string s
def natCell (n:Nat):Value:=.int .i64 n
theorem own_base {w:World} {lo lo':Nat} {e:TypeId} {size n:Nat} {v:Value} {xs:List Value} (h:w.ownsRow lo e size v n xs) (hl:lo' ≤ lo):w.ownsRow lo' e size v n xs:=by
 obtain ⟨h1,h2⟩:=h
 refine ⟨h1,?_⟩
 rcases h2 with h2 | ⟨g,cap,cur,hv,hg,r⟩
 ·exact Or.inl h2
 ·exact Or.inr ⟨g,cap,cur,hv,by omega,r⟩
theorem own_seg_ne {w:World} {lo b o:Nat} {T e:TypeId} {size n:Nat} {v:Value} {xs ys:List Value} (h:w.ownsRow lo e size v n xs) (h':Seg w b T o ys) (he:e ≠ T) {g:Nat} (hg:v.ownBlock = some g):g ≠ b:=by
 intro hh;subst hh
 obtain ⟨c,hc⟩:=own_type h hg
 obtain ⟨c',hc',_⟩:=h'
 rw [hc] at hc';simp at hc';exact he hc'.2
def emptyB:ByteArray:=⟨#[]⟩
def numI (l:List UInt8):Int:=(Lib.atoi l).getD 0
def setLast (f:RField → RField) (l:List RField):List RField:=match l.getLast? with | some a=>l.dropLast ++ [f a] | none=>[]
def isW (t:ByteArray) (l:List UInt8):Bool:=t.toList == l
def wMessage:List UInt8:=[109,101,115,115,97,103,101]
def wEnum:List UInt8:=[101,110,117,109]
def wStream:List UInt8:=[115,116,114,101,97,109]
def wCall:List UInt8:=[99,97,108,108]
def wOpt:List UInt8:=[111,112,116]
def wList:List UInt8:=[108,105,115,116]
def wOpen:List UInt8:=[123]
def wShut:List UInt8:=[125]
def inItemP (it:RItem) (at_:Nat) (t:Tok):RItem × Nat :=
 match at_ with
 | 1=>if freeB t.text.toList then ({ it with name:=t.text,nameAt:=t.at_ },if typeWord it.kind.toList then 2 else 8) else (it,9)
 | 2=>if isW t.text wOpen then (it,if isW it.kind wMessage then 3 else 7) else (it,9)
 | 3=>if numB t.text.toList then ({ it with fields:=it.fields ++ [⟨numI t.text.toList,emptyB,emptyB,emptyB,t.at_,0,0⟩] },4)
     else if it.fields ≠ [] ∧ isW t.text wShut = true then (it,0) else (it,9)
 | 4=>if freeB t.text.toList then ({ it with fields:=setLast (fun f=>{ f with name:=t.text,nameAt:=t.at_ }) it.fields },5) else (it,9)
 | 5=>if isW t.text wOpt || isW t.text wList then ({ it with fields:=setLast (fun f=>{ f with kind:=t.text }) it.fields },6)
     else if baseB t.text.toList then ({ it with fields:=setLast (fun f=>{ f with base:=t.text,baseAt:=t.at_ }) it.fields },3) else (it,9)
 | 6=>if baseB t.text.toList then ({ it with fields:=setLast (fun f=>{ f with base:=t.text,baseAt:=t.at_ }) it.fields },3) else (it,9)
 | 7=>if it.names ≠ [] ∧ isW t.text wShut = true then (it,0)
     else if freeB t.text.toList then ({ it with names:=it.names ++ [t.text],namesAt:=it.namesAt ++ [t.at_] },7) else (it,9)
 | 8=>if baseB t.text.toList then ({ it with bases:=it.bases ++ [t.text],basesAt:=it.basesAt ++ [t.at_] },if isW it.kind wCall && it.bases.isEmpty then 8 else 0) else (it,9)
 | _=>(it,9)
end Go.Proofs.YtdgcamlmjmnpeaaGreatDoor
namespace Go.Proofs.YtdgcamlmjmnpeaaGreatDoor
open Go.RowKit
theorem Seg.set_other {w:World} {b:Nat} {T:TypeId} {p:Nat} {xs:List Value} (h:Seg w b T p xs) (q:Nat) (v:Value) (hq:q < p ∨ p + xs.length ≤ q):Seg (w.setCell ⟨b,q,none⟩ v) b T p xs:=by
 obtain ⟨cur,hb,hs,ht⟩:=h
 refine ⟨cur.setIfInBounds q v,heap_setCell_same w b q cur T v hb,by simpa using hs,?_⟩
 rw [Array.toList_setIfInBounds,List.drop_set]
 by_cases hqp:q < p
 ·rw [if_pos hqp,ht]
 ·rw [if_neg hqp,List.take_set,ht,List.set_eq_of_length_le (by omega)]
theorem Tryz.infoInt:(Tryz.prog.info? 3).map (fun i=>(i.zero,i.size,i.bytes)) = some (some (.int .i64 0),1,8):=by kernel_rfl
theorem cells_new (w:World) (arr:Array Value) (t:TypeId) (j:Nat) (u:Value) (h:arr.toList[j]? = some u):(w.alloc (.cells arr t)).cell? ((⟨w.heap.size,0,none⟩:Addr).add j) = some u:=by
 have:(w.alloc (.cells arr t)).heap[w.heap.size]? = some (.cells arr t (0,0)):=heap_alloc_new w _
 have e:(⟨w.heap.size,0,none⟩:Addr).add j = ⟨w.heap.size,0 + j,none⟩:=Addr.add_lit _ _ _
 rw [e]
 simp only [World.cell?,this]
 simpa using h
theorem cells_new_at (w:World) (H:Nat) (hH:w.heap.size = H) (arr:Array Value) (t:TypeId) (j:Nat) (u:Value) (h:arr.toList[j]? = some u):(w.alloc (.cells arr t)).cell? ((⟨H,0,none⟩:Addr).add j) = some u:=by
 subst hH;exact cells_new w arr t j u h
theorem alloc_cell {w4:World} {a:Addr} {v:Value} (h:w4.cell? a = some v) (hb:a.block < w4.heap.size):∀ ob,(w4.alloc ob).cell? a = some v:=fun ob =>
 (((Below.refl w4.heap.size w4).alloc (Nat.le_refl _) ob).cell hb).trans h
theorem setLast_snoc (f:RField → RField) (l:List RField) (a:RField):setLast f (l ++ [a]) = l ++ [f a]:=by simp [setLast]
end Go.Proofs.YtdgcamlmjmnpeaaGreatDoor
