/- The schema of package courierkeep: it may be, and what its types are (no walk). -/
import Derived.Test.YtdgcamlmjmnpeaaGreatDoorMPEncV
import Derived.Test.YtdgcamlmjmnpeaaGreatDoorMDecA
import Derived.Test.YtdgcamlmjmnpeaaGreatDoorMRDecB
namespace Go.Proofs.YtdgcamlmjmnpeaaGreatDoor
def schemaK:ByteArray:=ByteArray.mk #[109,101,115,115,97,103,101,32,112,111,105,110,116,32,123,32,49,32,120,32,105,110,116,32,50,32,121,32,105,110,116,32,53,32,116,97,103,32,111,112,116,32,116,101,120,116,32,55,32,109,111,114,101,32,108,105,115,116,32,112,111,105,110,116,32,125,32,101,110,117,109,32,99,111,108,111,114,32,123,32,114,101,100,32,103,114,101,101,110,32,125,32,115,116,114,101,97,109,32,116,105,99,107,115,32,105,110,116,32,115,116,114,101,97,109,32,109,97,114,107,115,32,112,111,105,110,116,32,115,116,114,101,97,109,32,104,117,101,115,32,99,111,108,111,114,32,99,97,108,108,32,97,100,100,32,112,111,105,110,116,32,105,110,116,32,99,97,108,108,32,110,97,109,101,32,105,110,116,32,116,101,120,116]
def itemsK:List RItem:=((goP schemaK.size (toksOf schemaK) [] 0).1).getD []
def ivK:List IV:=itemsK.map fun it=>⟨it,.slice none 0 0,.slice none 0 0,.slice none 0 0,.slice none 0 0,.slice none 0 0⟩
theorem goK:(goP schemaK.size (toksOf schemaK) [] 0).1 = some (ivK.map (fun y=>y.it)):=by
 have h:(goP schemaK.size (toksOf schemaK) [] 0).1.isSome = true:=by kernel_rfl
 unfold ivK itemsK
 rw [List.map_map]
 cases e:(goP schemaK.size (toksOf schemaK) [] 0).1 with
 | none=>rw [e] at h;cases h
 | some l=>simp [Function.comp_def]
theorem szK:schemaK.size ≤ 400:=of_decide_eq_true (by kernel_rfl)
theorem lenK:ivK.length = 7:=by kernel_rfl
theorem faultK:((List.range 7).all fun j=>match ivK[j]? with | some y=>(faultPl ivK j y.it).isEmpty | none=>false) = true:=by kernel_rfl
theorem sizeK:(ivK.all fun y=>decide (y.it.namesAt.length = y.it.names.length) && decide (y.it.basesAt.length = y.it.bases.length) && decide (y.it.names.length ≤ 400) && decide (y.it.bases.length ≤ 400) && decide (y.it.fields.length ≤ 400)) = true:=by kernel_rfl
theorem sizesK:∀ y ∈ ivK,ItOk y.it 400:=by
 intro y hy
 have:=List.all_eq_true.1 sizeK y hy
 simp only [Bool.and_eq_true,decide_eq_true_eq] at this
 exact ⟨this.1.1.1.1,this.1.1.1.2,this.1.1.2,this.1.2,this.2⟩
end Go.Proofs.YtdgcamlmjmnpeaaGreatDoor
namespace Go.Proofs.YtdgcamlmjmnpeaaGreatDoor
def wPoint:List UInt8:=[112,111,105,110,116]
def wColor:List UInt8:=[99,111,108,111,114]
def itK (n:Nat):List UInt8:=Lib.itoa (n:Int)
def valI (n:Nat):List UInt8:=itK n
def valC (n:Nat):List UInt8:=if n % 2 = 0 then [114,101,100] else [103,114,101,101,110]
def valT (n:Nat):List UInt8:=[34,116] ++ itK n ++ [92,48,48,34]
def valPt (n:Nat):List UInt8:=[123,120,58] ++ itK n ++ [44,121,58,45,49] ++ (if n % 2 = 0 then [44,116,97,103,58,34,92,48,97] ++ itK (n % 7) ++ [34] else []) ++ (if n % 3 = 0 then [44,109,111,114,101,58,91,123,120,58,48,44,121,58] ++ itK (n % 5) ++ [44,109,111,114,101,58,91,93,125,93,125] else [44,109,111,114,101,58,91,93,125])
abbrev encK:=(encE wideC wideC (tyR ivK) 6).1
abbrev decK:=(decE (tyR ivK) 6).1
def whole (x:Got):Option (List UInt8):=match x with | some (b,[])=>some b | _=>none
def okK (base v o:List UInt8):Bool:=match whole (encK base v),whole (encK base o) with
 | some p,some q=>decide (p.length ≤ 64) && decide (q.length ≤ 64) && (p != q) && (decK base p == some v) && decide (v.length ≤ 390) && decide (o.length ≤ 390) && (whole (encK base (v ++ [32]))).isNone
 | _,_=>false
def okPt (v:List UInt8):Bool:=match whole (encK wPoint v) with
 | some p=>(decK wPoint p.dropLast).isNone && (decK wPoint (p ++ [1])).isNone && decide (0 < p.length) && decide (p.length ≤ 60)
 | none=>false
def okAll (n:Nat):Bool:=okK wPoint (valPt n) (valPt (n + 1)) && okPt (valPt n) && okK wInt (valI n) (valI (n + 1)) && okK wText (valT n) (valT (n + 1)) && okK wColor (valC n) (valC (n + 1))
end Go.Proofs.YtdgcamlmjmnpeaaGreatDoor
namespace Go.Proofs.YtdgcamlmjmnpeaaGreatDoor
def partB (ps:List (Nat × List UInt8)):List UInt8:=ps.flatMap fun p=>vint p.1 ++ vsized p.2
def lastP (last:Nat) (ps:List (Nat × List UInt8)):Nat:=match ps.getLast? with | none=>last | some p=>p.1
structure Rises (last:Nat) (ps:List (Nat × List UInt8)):Prop where
 up:(last :: ps.map (·.1)).Pairwise (· < ·)
 le:∀ p ∈ ps,p.1 ≤ 99 ∧ p.2.length ≤ 64
theorem takeC_vsized (b r:List UInt8) (h:b.length ≤ 64):takeC (vsized b ++ r) = some (b,r):=by
 unfold takeC vsized
 rw [List.append_assoc,takeV_vint b.length (by omega)]
 simp
theorem partsGo_cons (k last m:Nat) (b r:List UInt8) (hm:last < m ∧ m ≤ 99) (hb:b.length ≤ 64):partsGo (k + 1) last (vint m ++ vsized b ++ r) = (partsGo k m r).map fun o=>(m,b) :: o:=by
 rw [partsGo_eq,if_neg (by
  intro e
  have:=congrArg List.length e
  simp only [List.length_append,List.length_nil] at this
  have:=vint_pos m
  omega)]
 simp only
 rw [List.append_assoc,takeV_vint m (by omega)]
 simp only [Option.bind_some]
 rw [takeC_vsized b r hb]
 simp only [Option.bind_some,if_pos hm]
theorem partsGo_app:∀ (a:List (Nat × List UInt8)) (k last:Nat) (r:List UInt8),Rises last a → partsGo (k + a.length) last (partB a ++ r) = (partsGo k (lastP last a) r).map fun o=>a ++ o
 | [],k,last,r,_=>by simp [partB,lastP]
 | (m,b) :: a,k,last,r,h=>by
  obtain ⟨h1,h2⟩:=h
  rw [List.map_cons,List.pairwise_cons] at h1
  have hm:last < m:=h1.1 m (by simp)
  have hb:=h2 (m,b) (by simp)
  have hr:Rises m a:=⟨h1.2,fun p hp=>h2 p (by simp [hp])⟩
  have e:partB ((m,b) :: a) ++ r = vint m ++ vsized b ++ (partB a ++ r):=by simp [partB]
  rw [e,List.length_cons,← Nat.add_assoc,partsGo_cons (k + a.length) last m b _ ⟨hm,hb.1⟩ hb.2,partsGo_app a k m r hr,Option.map_map]
  have hl:lastP last ((m,b) :: a) = lastP m a:=by
   unfold lastP
   cases a with
   | nil=>rfl
   | cons x t =>
    rw [List.getLast?_cons_cons]
    obtain ⟨z,hz⟩:∃ z,(x :: t).getLast? = some z:=⟨_,List.getLast?_eq_some_getLast (by simp)⟩
    rw [hz]
  rw [hl]
  rfl
theorem partB_len (a:List (Nat × List UInt8)):a.length ≤ (partB a).length:=by
 induction a with
 | nil=>simp
 | cons p a ih =>
  have:partB (p :: a) = vint p.1 ++ vsized p.2 ++ partB a:=by simp [partB]
  rw [this,List.length_append,List.length_append,List.length_cons]
  have:=vint_pos p.1
  omega
theorem partsD_of {a:List (Nat × List UInt8)} (h:Rises 0 a):partsD (partB a) = some a:=by
 unfold partsD
 have hl:=partB_len a
 obtain ⟨k,hk⟩:∃ k,(partB a).length = k + a.length:=⟨(partB a).length - a.length,by omega⟩
 have:=partsGo_app a k 0 [] h
 rw [List.append_nil] at this
 rw [hk,this,partsGo_eq,if_pos rfl]
 simp
theorem partsD_fall {a:List (Nat × List UInt8)} {m:Nat} {r:List UInt8} (h:Rises 0 a) (hm:¬ lastP 0 a < m) (hm9:m ≤ 99):partsD (partB a ++ (vint m ++ r)) = none:=by
 unfold partsD
 have hl:=partB_len a
 obtain ⟨k,hk⟩:∃ k,(partB a ++ (vint m ++ r)).length = k + a.length:=⟨(partB a ++ (vint m ++ r)).length - a.length,by rw [List.length_append];omega⟩
 rw [hk,partsGo_app a k 0 _ h,partsGo_eq,if_neg (by
  intro e
  have:=congrArg List.length e
  simp only [List.length_append,List.length_nil] at this
  have:=vint_pos m
  omega)]
 cases k with
 | zero=>rfl
 | succ k =>
  simp only
  rw [takeV_vint m (by omega)]
  simp only [Option.bind_some]
  cases takeC r with
  | none=>rfl
  | some y=>simp only [Option.bind_some];rw [if_neg (by omega)];rfl
theorem find_extra (a b:List (Nat × List UInt8)) (m:Nat) (u:List UInt8) (n:Nat) (h:n ≠ m):(a ++ (m,u) :: b).find? (fun p=>p.1 == n) = (a ++ b).find? (fun p=>p.1 == n):=by
 rw [List.find?_append,List.find?_append,List.find?_cons]
 have:((m,u).1 == n) = false:=by simp;omega
 rw [this]
theorem fieldsD_extra (val lst:List UInt8 → List UInt8 → Txt) (a b:List (Nat × List UInt8)) (m:Nat) (u:List UInt8):∀ (fs:List FD) (first:Bool),(∀ f ∈ fs,f.number ≠ m) → fieldsD val lst (a ++ (m,u) :: b) fs first = fieldsD val lst (a ++ b) fs first
 | [],_,_=>rfl
 | f :: fs,first,h=>by
  have h1:=fieldsD_extra val lst a b m u fs
  unfold fieldsD
  rw [find_extra a b m u f.number (h f (by simp)),h1 first (fun g hg=>h g (by simp [hg])),h1 false (fun g hg=>h g (by simp [hg]))]
theorem msgD_extra (val lst:List UInt8 → List UInt8 → Txt) (fs:List FD) {a b:List (Nat × List UInt8)} {m:Nat} {u:List UInt8} (h1:Rises 0 (a ++ b)) (h2:Rises 0 (a ++ (m,u) :: b)) (hm:∀ f ∈ fs,f.number ≠ m):msgD val lst fs (partB (a ++ (m,u) :: b)) = msgD val lst fs (partB (a ++ b)):=by
 unfold msgD
 rw [partsD_of h1,partsD_of h2]
 simp only [Option.bind_some]
 rw [fieldsD_extra val lst a b m u fs true hm]
end Go.Proofs.YtdgcamlmjmnpeaaGreatDoor
