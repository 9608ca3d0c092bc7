/- Values read from bytes: the document's own way, over lists of bytes (no walk). -/
import Derived.Test.YtdgcamlmjmnpeaaGreatDoorMEncT
namespace Go.Proofs.YtdgcamlmjmnpeaaGreatDoor
def takeV:List UInt8 → Option (Nat × List UInt8)
 | []=>none
 | b :: r=>if b.toNat < 128 then some (b.toNat,r) else match takeV r with
  | none=>none
  | some x=>if x.1 = 0 then none else if (b.toNat - 128) + 128 * x.1 < 18446744073709551616 then some ((b.toNat - 128) + 128 * x.1,x.2) else none
theorem takeV_some:∀ {t:List UInt8} {n:Nat} {r:List UInt8},takeV t = some (n,r) → t = vint n ++ r ∧ n < 18446744073709551616
 | [],n,r,h=>by simp [takeV] at h
 | b :: t,n,r,h=>by
  unfold takeV at h
  by_cases hb:b.toNat < 128
  ·rw [if_pos hb] at h
   simp only [Option.some.injEq,Prod.mk.injEq] at h
   obtain ⟨rfl,rfl⟩:=h
   rw [vint_lt hb]
   exact ⟨by simp,by omega⟩
  ·rw [if_neg hb] at h
   cases e:takeV t with
   | none=>rw [e] at h;cases h
   | some x =>
    rw [e] at h
    simp only at h
    obtain ⟨m,r'⟩:=x
    obtain ⟨h1,h2⟩:=takeV_some e
    simp only at h
    by_cases h0:m = 0
    ·rw [if_pos h0] at h;cases h
    ·rw [if_neg h0] at h
     by_cases hl:(b.toNat - 128) + 128 * m < 18446744073709551616
     ·rw [if_pos hl] at h
      simp only [Option.some.injEq,Prod.mk.injEq] at h
      obtain ⟨rfl,rfl⟩:=h
      have hb2:=b.toNat_lt
      refine ⟨?_,hl⟩
      rw [vint_ge (by omega),show ((b.toNat - 128 + 128 * m) % 128 + 128) = b.toNat by omega,show (b.toNat - 128 + 128 * m) / 128 = m by omega,h1]
      simp
     ·rw [if_neg hl] at h;cases h
theorem takeV_vint (n:Nat):n < 18446744073709551616 → ∀ r,takeV (vint n ++ r) = some (n,r):=by
 induction n using Nat.strongRecOn with
 | _ n ih =>
  intro hn r
  by_cases h:n < 128
  ·rw [vint_lt h]
   have:n.toUInt8.toNat = n:=by simp [Nat.toUInt8,UInt8.toNat_ofNat'];omega
   simp [takeV,this,h]
  ·rw [vint_ge h]
   have hb:((n % 128 + 128).toUInt8).toNat = n % 128 + 128:=by simp [Nat.toUInt8,UInt8.toNat_ofNat'];omega
   have:=ih (n / 128) (by omega) (by omega) r
   rw [List.cons_append]
   unfold takeV
   rw [hb,if_neg (by omega),this]
   simp only
   rw [if_neg (by omega),if_pos (by omega)]
   congr 2;omega
theorem takeV_shorter {t:List UInt8} {n:Nat} {r:List UInt8} (h:takeV t = some (n,r)):r.length < t.length:=by
 rw [(takeV_some h).1,List.length_append]
 have:1 ≤ (vint n).length:=by
  by_cases h:n < 128
  ·rw [vint_lt h];simp
  ·rw [vint_ge h];simp
 omega
def takeC (t:List UInt8):Option (List UInt8 × List UInt8):=(takeV t).bind fun x=>if x.1 ≤ x.2.length then some (x.2.take x.1,x.2.drop x.1) else none
theorem takeC_len {t v r:List UInt8} (h:takeC t = some (v,r)):v.length + r.length < t.length:=by
 unfold takeC at h
 obtain ⟨x,h1,h2⟩:=Option.bind_eq_some_iff.1 h
 have:=takeV_shorter (n:=x.1) (r:=x.2) h1
 split at h2
 ·simp only [Option.some.injEq,Prod.mk.injEq] at h2
  obtain ⟨rfl,rfl⟩:=h2
  simp only [List.length_take,List.length_drop];omega
 ·cases h2
def wholeV (t:List UInt8):Option Nat:=(takeV t).bind fun x=>if x.2 = [] then some x.1 else none
def unzig (m:Nat):Int:=if m % 2 = 1 then -((m / 2:Nat):Int) - 1 else ((m / 2:Nat):Int)
def hexD (n:Nat):UInt8:=if n < 10 then (48 + n).toUInt8 else (87 + n).toUInt8
def letD (c:UInt8):List UInt8:=if plainC c then [c] else [92,hexD (c.toNat / 16),hexD (c.toNat % 16)]
def textD (b:List UInt8):List UInt8:=34 :: (b.flatMap letD ++ [34])
def partsGo:Nat → Nat → List UInt8 → Option (List (Nat × List UInt8))
 | f,last,d=>if d = [] then some [] else match f with
  | 0=>none
  | f + 1=>(takeV d).bind fun x=>(takeC x.2).bind fun y=>if last < x.1 ∧ x.1 ≤ 99 then (partsGo f x.1 y.2).map fun o=>(x.1,y.1) :: o else none
def partsD (d:List UInt8):Option (List (Nat × List UInt8)):=partsGo d.length 0 d
abbrev Txt:=Option (List UInt8)
def sepD (first:Bool):List UInt8:=if first then [] else [44]
def listD (val:List UInt8 → Txt):Nat → Bool → List UInt8 → Txt
 | k,first,d=>if d = [] then some [93] else match k with
  | 0=>none
  | k + 1=>(takeC d).bind fun x=>(val x.1).bind fun s=>(listD val k false x.2).map fun o=>sepD first ++ s ++ o
def fieldsD (val lst:List UInt8 → List UInt8 → Txt) (ps:List (Nat × List UInt8)):List FD → Bool → Txt
 | [],_=>some [125]
 | f :: fs,first=>match ps.find? (fun p=>p.1 == f.number) with
  | none=>if f.shape = 1 then fieldsD val lst ps fs first else none
  | some p=>(if f.shape = 2 then lst f.base p.2 else val f.base p.2).bind fun s=>(fieldsD val lst ps fs false).map fun o=>sepD first ++ f.name ++ [58] ++ s ++ o
def msgD (val lst:List UInt8 → List UInt8 → Txt) (fs:List FD) (d:List UInt8):Txt:=(partsD d).bind fun ps=>(fieldsD val lst ps fs true).map fun o=>123 :: o
def choD (names:List (List UInt8)) (d:List UInt8):Txt:=(wholeV d).bind fun i=>names[i]?
def valD (ty:List UInt8 → Option TD) (msg:List FD → List UInt8 → Txt) (base d:List UInt8):Txt :=
 if base = wInt then (wholeV d).map fun m=>Lib.itoa (unzig m) else if base = wBool then choD boolNames d else if base = wText then some (textD d)
 else match ty base with
  | none=>none
  | some (.inl ns)=>choD ns d
  | some (.inr fs)=>msg fs d
def decE (ty:List UInt8 → Option TD):Nat → (List UInt8 → List UInt8 → Txt) × (List UInt8 → List UInt8 → Txt)
 | 0=>(valD ty (fun _ _=>none),fun _ _=>none)
 | n + 1=>(valD ty (msgD (decE ty n).1 (decE ty n).2),fun b d=>(listD ((decE ty n).1 b) 16 true d).map fun o=>91 :: o)
end Go.Proofs.YtdgcamlmjmnpeaaGreatDoor
