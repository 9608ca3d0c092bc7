/- holds of package courierref: does a message hold itself. -/
import Derived.Test.YtdgcamlmjmnpeaaGreatDoorMRead
namespace Go.Proofs.YtdgcamlmjmnpeaaGreatDoor
open Go.RowKit
def inB (M:List ByteArray) (b:ByteArray):Bool:=M.any (fun s=>s.toList == b.toList)
def innerP (name:ByteArray):List RField → List ByteArray → Option (List ByteArray)
 | [],M=>some M
 | f :: r,M =>
  if f.kind.toList.isEmpty = false then innerP name r M
  else if (f.base.toList == name.toList) = true then none
  else if inB M f.base = true then innerP name r M else innerP name r (M ++ [f.base])
def fieldsAt (X:List IV) (i:Int):List RField:=match X[i.toNat]? with | some x=>x.it.fields | none=>[]
def outerP (X:List IV) (name:ByteArray):Nat → List ByteArray → Nat → Bool
 | 0,_,_=>false
 | f + 1,M,a =>
  match M[a]? with
  | none=>false
  | some m =>
   if findI X m.toList < 0 then outerP X name f M (a + 1)
   else match innerP name (fieldsAt X (findI X m.toList)) M with
    | none=>true
    | some M'=>outerP X name f M' (a + 1)
def univ (X:List IV) (name:ByteArray):List (List UInt8):=name.toList :: (X.flatMap fun x=>x.it.fields.map fun f=>f.base.toList)
def Good (U:List (List UInt8)) (M:List ByteArray):Prop:=(M.map ByteArray.toList).Nodup ∧ ∀ m ∈ M,m.toList ∈ U
theorem nodup_len {α:Type} [DecidableEq α]:∀ (l U:List α),l.Nodup → (∀ x ∈ l,x ∈ U) → l.length ≤ U.length
 | [],_,_,_=>by simp
 | a :: r,U,hn,hs=>by
  have hn':=List.nodup_cons.1 hn
  have ha:a ∈ U:=hs a (by simp)
  have h1:=nodup_len r (U.erase a) hn'.2 (fun x hx=>by
   have:x ≠ a:=fun e=>hn'.1 (e ▸ hx)
   exact (List.mem_erase_of_ne this).2 (hs x (by simp [hx])))
  rw [List.length_erase_of_mem ha] at h1
  have:0 < U.length:=List.length_pos_of_mem ha
  simp;omega
theorem Good.len {U:List (List UInt8)} {M:List ByteArray} (h:Good U M):M.length ≤ U.length:=by
 have:=nodup_len (M.map ByteArray.toList) U h.1 (fun x hx=>by
  obtain ⟨m,hm,rfl⟩:=List.mem_map.1 hx;exact h.2 m hm)
 simpa using this
theorem Good.push {U:List (List UInt8)} {M:List ByteArray} {b:ByteArray} (h:Good U M) (hb:b.toList ∈ U) (hn:inB M b = false):Good U (M ++ [b]):=by
 refine ⟨?_,?_⟩
 ·rw [List.map_append,List.nodup_append]
  refine ⟨h.1,by simp,?_⟩
  intro x hx y hy
  simp at hy;subst hy
  intro e;subst e
  obtain ⟨m,hm,he⟩:=List.mem_map.1 hx
  have:=List.any_eq_false.1 hn m hm
  simp [he] at this
 ·intro m hm
  rcases List.mem_append.1 hm with hm | hm
  ·exact h.2 m hm
  ·simp at hm;subst hm;exact hb
theorem univ_mem {X:List IV} {name:ByteArray} {i:Nat} {x:IV} {j:Nat} {f:RField} (hi:X[i]? = some x) (hj:x.it.fields[j]? = some f):f.base.toList ∈ univ X name:=by
 refine List.mem_cons_of_mem _ (List.mem_flatMap.2 ⟨x,List.mem_of_getElem? hi,List.mem_map.2 ⟨f,List.mem_of_getElem? hj,rfl⟩⟩)
theorem findI_lt {X:List IV} {n:List UInt8} (h:0 ≤ findI X n):∃ i:Nat,∃ x,findI X n = i ∧ X[i]? = some x:=by
 unfold findI at *
 cases hf:X.findIdx? (fun x=>matchB n x.it) with
 | none=>rw [hf] at h;simp at h
 | some i =>
  rw [List.findIdx?_eq_some_iff_getElem] at hf
  exact ⟨i,X[i]'hf.1,rfl,List.getElem?_eq_getElem hf.1⟩
end Go.Proofs.YtdgcamlmjmnpeaaGreatDoor
namespace Go.Proofs.YtdgcamlmjmnpeaaGreatDoor
open Go.RowKit
end Go.Proofs.YtdgcamlmjmnpeaaGreatDoor
namespace Go.Proofs.YtdgcamlmjmnpeaaGreatDoor
open Go.RowKit
def leastL (l:List Nat):Int:=l.foldl (fun p (a:Nat)=>leastI p a) (-1)
theorem leastL_snoc (l:List Nat) (a:Nat):leastL (l ++ [a]) = leastI (leastL l) a:=by simp [leastL]
def dupB (X:List IV) (k:Nat) (it:RItem):Bool:=(X.take k).any (fun y=>(y.it.name.toList == it.name.toList) && (typeWord it.kind.toList == typeWord y.it.kind.toList))
def holdsB (X:List IV) (name:ByteArray):Bool:=outerP X name (univ X name).length [name] 0
def opt1 (b:Bool) (a:Nat):List Nat:=if b then [a] else []
def numF (fs:List RField) (k:Nat):Bool:=match fs[k]?,fs[k - 1]? with | some f,some g=>decide (0 < k) && decide (f.number ≤ g.number) | _,_=>false
def nameF (fs:List RField) (k j:Nat):Bool:=match fs[k]? with | some f=>(fs.take j).any (fun g=>g.name.toList == f.name.toList) | none=>false
def fieldPl (X:List IV) (fs:List RField) (k:Nat):List Nat :=
 match fs[k]? with
 | some f=>opt1 (numF fs k) f.numberAt ++ opt1 (nameF fs k k) f.nameAt ++ opt1 (!typeB X f.base.toList) f.baseAt
 | none=>[]
def nameN (ns:List ByteArray) (k j:Nat):Bool:=match ns[k]? with | some n=>(ns.take j).any (fun g=>g.toList == n.toList) | none=>false
def namePl (ns:List ByteArray) (ps:List Nat) (k:Nat):List Nat:=match ps[k]? with | some p=>opt1 (nameN ns k k) p | none=>[]
def basePl (X:List IV) (bs:List ByteArray) (ps:List Nat) (k:Nat):List Nat:=match bs[k]?,ps[k]? with | some b,some p=>opt1 (!typeB X b.toList) p | _,_=>[]
def headPl (X:List IV) (i:Nat) (it:RItem):List Nat:=opt1 (dupB X i it) it.nameAt ++ opt1 ((it.kind.toList == [109,101,115,115,97,103,101]) && holdsB X it.name) it.nameAt
def faultPl (X:List IV) (i:Nat) (it:RItem):List Nat :=
 headPl X i it ++ (List.range it.fields.length).flatMap (fieldPl X it.fields) ++ (List.range it.names.length).flatMap (namePl it.names it.namesAt) ++ (List.range it.bases.length).flatMap (basePl X it.bases it.basesAt)
theorem str_row {w:World} {lo:Nat} {v:Value} {X:List ByteArray} (h:w.ownsRow lo 9 1 v X.length (X.map strCell)) (hp:0 < X.length):∃ g c,v = .slice (some ⟨g,0,none⟩) X.length c ∧ g < w.heap.size ∧ ∀ k s,X[k]? = some s → w.cell? ⟨g,k,none⟩ = some (.string s):=by
 obtain ⟨g,c,hv,_,hg⟩:=h.form hp
 subst hv
 refine ⟨g,c,rfl,hg,fun k s hk=>?_⟩
 have hlt:k < X.length:=by
  rcases Nat.lt_or_ge k X.length with h | h
  ·exact h
  ·rw [List.getElem?_eq_none h] at hk;cases hk
 rw [h.cellAt k (by omega),List.getElem?_map,hk];rfl
theorem nat_row {w:World} {lo:Nat} {v:Value} {X:List Nat} (h:w.ownsRow lo 3 1 v X.length (X.map natCell)) (hp:0 < X.length):∃ g c,v = .slice (some ⟨g,0,none⟩) X.length c ∧ g < w.heap.size ∧ ∀ (k s:Nat),X[k]? = some s → w.cell? ⟨g,k,none⟩ = some (.int .i64 s):=by
 obtain ⟨g,c,hv,_,hg⟩:=h.form hp
 subst hv
 refine ⟨g,c,rfl,hg,fun k s hk=>?_⟩
 have hlt:k < X.length:=by
  rcases Nat.lt_or_ge k X.length with h | h
  ·exact h
  ·rw [List.getElem?_eq_none h] at hk;cases hk
 rw [h.cellAt k (by omega),List.getElem?_map,hk];rfl
end Go.Proofs.YtdgcamlmjmnpeaaGreatDoor
