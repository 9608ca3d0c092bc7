/- Values as texts and as bytes: the document's own way, over lists of bytes (no walk). -/
import Derived.Test.YtkpfplbmmglkkaaGreatDoorV08
import Derived.Lib.ParseIntB
import Derived.Lib.ItoaNum
set_option linter.all false
namespace Go.Proofs.YtkpfplbmmglkkaaGreatDoor
variable {n:Nat}
def eVK:Nat → Nat → List UInt8
  | 0,n => [n.toUInt8]
  | k + 1,n => if n < 128 then [n.toUInt8] else (n % 128 + 128).toUInt8 :: eVK k (n / 128)
theorem eVK_eq:∀ (k m n:Nat),n ≤ k → n ≤ m → eVK k n = eVK m n
  | 0,0,_,_,_ => rfl
  | 0,_ + 1,n,h,_ => by simp [eVK,show n < 128 by omega]
  | _ + 1,0,n,_,h => by simp [eVK,show n < 128 by omega]
  | k + 1,m + 1,n,h,h' => by
    unfold eVK
    split
    · rfl
    · rw [eVK_eq k m (n / 128) (by omega) (by omega)]
def eV (n:Nat):List UInt8 := eVK n n
theorem mQ {n:Nat} (h:n < 128):eV n = [n.toUInt8] := by cases n <;> simp [eV,eVK,h]
theorem qY {n:Nat} (h:¬ n < 128):eV n = (n % 128 + 128).toUInt8 :: eV (n / 128) := by
  obtain ⟨k,rfl⟩:∃ k,n = k + 1 := ⟨n - 1,by omega⟩
  unfold eV
  rw [eVK,if_neg h,eVK_eq k ((k + 1) / 128) _ (by omega) (by omega)]
def fA(b:List UInt8):List UInt8:=eV b.length++b
def qu(n:Int):Nat:=if n<0 then(-2*n-1).toNat else(2*n).toNat
def mj(c:UInt8):Bool:=c==45||(decide (48≤c)&&decide (c≤57))
def eX(c:UInt8):Bool:=(decide (97≤c)&&decide (c≤122))||(decide (48≤c)&&decide (c≤57))
def gG(c:UInt8):Bool:=decide (32≤c)&&decide (c≤126)&&c != 34&&c != 92
def uv(c:UInt8):Option Nat:=if decide (48≤c)&&decide (c≤57) then some (c.toNat-48) else if decide (97≤c)&&decide (c≤102) then some (c.toNat-87) else none
abbrev qv:=Option (List UInt8 × List UInt8)
def cO(p t:List UInt8):Option (List UInt8):=if p.isPrefixOf t then some (t.drop p.length) else none
def intOf(run:List UInt8):Option Int:=match Lib.parseIntB 64 run with
 | .ok v=>if Lib.itoa v=run then some v else none
 | _=>none
def OU(ci:UInt8→Bool)(t:List UInt8):qv:=(intOf (t.takeWhile ci)).map fun n=>(eV (qu n),t.dropWhile ci)
def GF(cn:UInt8→Bool)(names:List (List UInt8))(t:List UInt8):qv:=(names.findIdx? (fun n=>n==t.takeWhile cn)).map fun i=>(eV i,t.dropWhile cn)
def eB:Nat→List UInt8→qv
 | 0,_=>none
 | _+1,[]=>none
 | n+1,c::r=>
  if c=34 then some ([],r)
  else if c=92 then match r with
   | a::b::r'=>match uv a,uv b with
    | some h,some l=>if gG (16*h+l).toUInt8 then none else(eB n r').map fun x=>((16*h+l).toUInt8::x.1,x.2)
    | _,_=>none
   | _=>none
  else if gG c then(eB n r).map fun x=>(c::x.1,x.2) else none
def Ah(t:List UInt8):qv:=(cO [34] t).bind fun r=>eB (r.length+1) r
structure FD where
 number:Nat
 name:List UInt8
 shape:Nat
 base:List UInt8
abbrev TD := List (List UInt8) ⊕ List FD
def sM(val:List UInt8→qv):Nat→Bool→List UInt8→qv
 | k,first,t=>match cO [93] t with
  | some r=>some ([],r)
  | none=>match k with
   | 0=>none
   | k+1=>(if first then some t else cO [44] t).bind fun t1=>(val t1).bind fun v=>(sM val k false v.2).map fun o=>(fA v.1++o.1,o.2)
def aeT(val:List UInt8→qv)(t:List UInt8):qv:=(cO [91] t).bind (sM val 16 true)
def jE(val pP:List UInt8→List UInt8→qv):List FD→Bool→List UInt8→qv
 | [],_,t=>(cO [125] t).map fun r=>([],r)
 | f::fs,first,t=>match cO ((if first then [] else [44])++f.name++[58]) t with
  | none=>if f.shape=1 then jE val pP fs first t else none
  | some t1=>(if f.shape=2 then pP f.base t1 else val f.base t1).bind fun v=>(jE val pP fs false v.2).map fun o=>(eV f.number++fA v.1++o.1,o.2)
def VZ(val pP:List UInt8→List UInt8→qv)(fs:List FD)(t:List UInt8):qv:=(cO [123] t).bind (jE val pP fs true)
def Cf:List UInt8:=[105,110,116]
def xw:List UInt8:=[98,111,111,108]
def C9:List UInt8:=[116,101,120,116]
def nU:List (List UInt8):=[[102,97,108,115,101],[116,114,117,101]]
def uw(ci cn:UInt8→Bool)(ty:List UInt8→Option TD)(C8:List FD→List UInt8→qv)(base t:List UInt8):qv :=
 if base=Cf then OU ci t else if base=xw then GF cn nU t else if base=C9 then Ah t
 else match ty base with
  | none=>none
  | some (.inl ns)=>GF cn ns t
  | some (.inr fs)=>C8 fs t
def RV(ci cn:UInt8→Bool)(ty:List UInt8→Option TD):Nat→(List UInt8→List UInt8→qv) × (List UInt8→List UInt8→qv)
 | 0=>(uw ci cn ty (fun _ _=>none),fun _ _=>none)
 | n+1=>(uw ci cn ty (VZ (RV ci cn ty n).1 (RV ci cn ty n).2),fun b t=>aeT ((RV ci cn ty n).1 b) t)
/-! the two ways to take a run of signs come to the same -/
theorem MT(d:Nat)(h:d<10):mj (UInt8.ofNat (48+d))=true:=by
 have:∀ d:Fin 10,mj (UInt8.ofNat (48+d.val))=true:=by decide
 exact this ⟨d,h⟩
theorem MU(u:Nat):∀ c∈Lib.decDigits u,mj c=true:=by
 induction u using Nat.strongRecOn with
 | _ u ih=>
  intro c hc;rw[Lib.decDigits] at hc
  by_cases h:u<10
  ·rw[dif_pos h] at hc
   rw[List.mem_singleton.1 hc];exact MT u h
  ·rw[dif_neg h] at hc
   rcases List.mem_append.1 hc with hc | hc
   ·exact ih (u / 10) (by omega) c hc
   ·rw[List.mem_singleton.1 hc];exact MT _ (by omega)
theorem RW(n:Int):∀ c∈Lib.itoa n,mj c=true:=by
 intro c hc;unfold Lib.itoa at hc
 split at hc
 ·rcases List.mem_cons.1 hc with rfl | hc
  ·decide
  ·exact MU _ c hc
 ·exact MU _ c hc
theorem KG{run:List UInt8}{n:Int}(h:intOf run=some n):Lib.itoa n=run:=by
 unfold intOf at h
 split at h
 ·split at h
  ·rename_i e;cases h;exact e
  ·cases h
 ·cases h
theorem Da{p t r:List UInt8}(h:cO p t=some r):t=p++r:=by
 unfold cO at h
 split at h
 ·rename_i hp
  cases h;obtain⟨s,rfl⟩:=List.isPrefixOf_iff_prefix.1 hp;simp
 ·cases h
end Go.Proofs.YtkpfplbmmglkkaaGreatDoor
