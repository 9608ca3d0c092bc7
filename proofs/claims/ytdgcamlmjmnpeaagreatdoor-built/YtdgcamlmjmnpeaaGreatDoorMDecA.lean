/- What is read within the bounds is what is read at all and is then a value's text (no walk). -/
import Derived.Test.YtdgcamlmjmnpeaaGreatDoorKDecSpec
import Derived.Test.YtdgcamlmjmnpeaaGreatDoorMEncT
import Derived.Test.YtdgcamlmjmnpeaaGreatDoorMHouse
import Derived.Laws.Bits64b
namespace Go.Proofs.YtdgcamlmjmnpeaaGreatDoor
structure TyOk (ty:List UInt8 → Option TD):Prop where
 e:∀ b ns,ty b = some (.inl ns) → ∀ n ∈ ns,n ≠ [] ∧ ∀ c ∈ n,nameC c = true
 f:∀ b fs,ty b = some (.inr fs) → ∀ f ∈ fs,f.name ≠ [] ∧ ∀ c ∈ f.name,nameC c = true
 d:∀ b fs,ty b = some (.inr fs) → fs.Pairwise fun f g=>f.name ≠ g.name
theorem unzig_in {m:Nat} (h:m < 18446744073709551616):In64 (unzig m):=by unfold unzig In64;split <;> omega
def Opens (t:List UInt8):Prop:=∃ c r,t = c :: r ∧ c ≠ 93
theorem dec_head' (u:Nat):∃ c r,Lib.decDigits u = c :: r:=by
 obtain ⟨d,r,e,_⟩:=dec_head u
 exact ⟨_,r,e⟩
theorem itoa_opens (v:Int):Opens (Lib.itoa v):=by
 have hall:=itoa_int v
 have:∃ c r,Lib.itoa v = c :: r:=by
  unfold Lib.itoa
  split
  ·exact ⟨_,_,rfl⟩
  ·exact dec_head' _
 obtain ⟨c,r,e⟩:=this
 refine ⟨c,r,e,fun h=>?_⟩
 have:=hall c (by rw [e];simp)
 rw [h] at this
 exact absurd this (by decide)
theorem name_opens {n:List UInt8} (h0:n ≠ []) (h:∀ c ∈ n,nameC c = true):Opens n:=by
 obtain ⟨c,r,rfl⟩:=List.exists_cons_of_ne_nil h0
 refine ⟨c,r,rfl,fun e=>?_⟩
 have:=h c (by simp)
 rw [e] at this
 exact absurd this (by decide)
theorem bool_ok:∀ n ∈ boolNames,n ≠ [] ∧ ∀ c ∈ n,nameC c = true:=by decide
theorem choD_mem {ns:List (List UInt8)} {d s:List UInt8} (h:choD ns d = some s):s ∈ ns:=by
 obtain ⟨i,_,h⟩:=Option.bind_eq_some_iff.1 h
 exact List.mem_of_getElem? h
theorem valD_opens {ty:List UInt8 → Option TD} (hT:TyOk ty) {msg:List FD → List UInt8 → Txt} (hm:∀ fs d s,msg fs d = some s → ∃ r,s = 123 :: r) {b d s:List UInt8} (h:valD ty msg b d = some s):Opens s:=by
 unfold valD at h
 split at h
 ·obtain ⟨m,_,rfl⟩:=Option.map_eq_some_iff.1 h
  exact itoa_opens _
 ·split at h
  ·have:=bool_ok s (choD_mem h)
   exact name_opens this.1 this.2
  ·split at h
   ·simp only [Option.some.injEq] at h
    subst h
    exact ⟨34,_,rfl,by decide⟩
   ·cases e:ty b with
    | none=>rw [e] at h;cases h
    | some t =>
     rw [e] at h
     cases t with
     | inl ns =>
      have:=hT.e b ns e s (choD_mem h)
      exact name_opens this.1 this.2
     | inr fs =>
      obtain ⟨r,rfl⟩:=hm fs d s h
      exact ⟨123,r,rfl,by decide⟩
theorem listD_eq (val:List UInt8 → Txt) (k:Nat) (first:Bool) (d:List UInt8):listD val k first d = if d = [] then some [93] else match k with
  | 0=>none
  | k + 1=>(takeC d).bind fun x=>(val x.1).bind fun s=>(listD val k false x.2).map fun o=>sepD first ++ s ++ o:=by rw [listD.eq_def];rfl
end Go.Proofs.YtdgcamlmjmnpeaaGreatDoor
namespace Go.Proofs.YtdgcamlmjmnpeaaGreatDoor
theorem partsGo_eq (f last:Nat) (d:List UInt8):partsGo f last d = if d = [] then some [] else match f with
  | 0=>none
  | f + 1=>(takeV d).bind fun x=>(takeC x.2).bind fun y=>if last < x.1 ∧ x.1 ≤ 99 then (partsGo f x.1 y.2).map fun o=>(x.1,y.1) :: o else none:=by rw [partsGo.eq_def];rfl
end Go.Proofs.YtdgcamlmjmnpeaaGreatDoor
namespace Go.Proofs.YtdgcamlmjmnpeaaGreatDoor
open Go.RowKit
def TkAt (t:List UInt8) (i acc:Nat):Prop:=acc < 128 ^ i ∧ takeV t = ((takeV (t.drop i)).bind fun x=>if 0 < i ∧ x.1 = 0 then none else if acc + 128 ^ i * x.1 < 18446744073709551616 then some (acc + 128 ^ i * x.1,x.2) else none)
theorem TkAt.begin (t:List UInt8):TkAt t 0 0:=by
 refine ⟨by decide,?_⟩
 rw [List.drop_zero]
 cases e:takeV t with
 | none=>rfl
 | some x =>
  have:=(takeV_some (n:=x.1) (r:=x.2) e).2
  simp [this]
theorem takeV_cons (b:UInt8) (r:List UInt8):takeV (b :: r) = if b.toNat < 128 then some (b.toNat,r) else match takeV r with
  | none=>none
  | some x=>if x.1 = 0 then none else if (b.toNat - 128) + 128 * x.1 < 18446744073709551616 then some ((b.toNat - 128) + 128 * x.1,x.2) else none:=by rw [takeV];rfl
theorem pow128 (i:Nat):(128:Nat) ^ (i + 1) = 128 ^ i * 128:=Nat.pow_succ _ _
theorem pow128_pos (i:Nat):0 < (128:Nat) ^ i:=Nat.pow_pos (by decide)
theorem TkAt.go {t:List UInt8} {i acc:Nat} (h:TkAt t i acc) (hi:i < t.length) (hb:128 ≤ t[i].toNat) (hp:(t[i].toNat - 128) * 128 ^ i < 18446744073709551616):TkAt t (i + 1) (acc + (t[i].toNat - 128) * 128 ^ i):=by
 obtain ⟨h1,h2⟩:=h
 have hlt:=t[i].toNat_lt
 have hpos:=pow128_pos i
 refine ⟨?_,?_⟩
 ·rw [pow128]
  have:(t[i].toNat - 128) * 128 ^ i ≤ 127 * 128 ^ i:=Nat.mul_le_mul_right _ (by omega)
  omega
 ·rw [h2,List.drop_eq_getElem_cons hi,takeV_cons,if_neg (by omega)]
  cases e:takeV (t.drop (i + 1)) with
  | none=>rfl
  | some x =>
   obtain ⟨m,r⟩:=x
   have hv:acc + 128 ^ i * (t[i].toNat - 128 + 128 * m) = acc + (t[i].toNat - 128) * 128 ^ i + 128 ^ (i + 1) * m:=by
    rw [pow128,Nat.mul_add,Nat.mul_comm (128 ^ i) (t[i].toNat - 128),Nat.mul_assoc];omega
   dsimp only
   rw [Option.bind_some]
   dsimp only
   by_cases h0:m = 0
   ·rw [if_pos h0,if_pos ⟨by omega,h0⟩];rfl
   ·have hR:¬ (0 < i + 1 ∧ m = 0):=by omega
    rw [if_neg h0,if_neg hR]
    by_cases hl:(t[i].toNat - 128) + 128 * m < 18446744073709551616
    ·rw [if_pos hl,Option.bind_some]
     dsimp only
     rw [if_neg (by omega),hv]
    ·have h3:(t[i].toNat - 128 + 128 * m) ≤ 128 ^ i * (t[i].toNat - 128 + 128 * m):=Nat.le_mul_of_pos_left _ hpos
     rw [if_neg hl,if_neg (by omega)]
     rfl
theorem TkAt.over {t:List UInt8} {i acc:Nat} (h:TkAt t i acc) (hi:i < t.length) (hp:18446744073709551616 ≤ (t[i].toNat % 128) * 128 ^ i):takeV t = none:=by
 obtain ⟨h1,h2⟩:=h
 have hlt:=t[i].toNat_lt
 rw [h2,List.drop_eq_getElem_cons hi,takeV_cons]
 by_cases hb:t[i].toNat < 128
 ·rw [if_pos hb]
  simp only [Option.bind_some]
  rw [Nat.mod_eq_of_lt hb,Nat.mul_comm] at hp
  split
  ·rfl
  ·rw [if_neg (by omega)]
 ·rw [if_neg hb]
  cases e:takeV (t.drop (i + 1)) with
  | none=>rfl
  | some x =>
   obtain ⟨m,r⟩:=x
   simp only
   split
   ·rfl
   ·split
    ·simp only [Option.bind_some]
     have h3:(t[i].toNat % 128) * 128 ^ i ≤ 128 ^ i * (t[i].toNat - 128 + 128 * m):=by rw [Nat.mul_comm];exact Nat.mul_le_mul_left _ (by omega)
     rw [if_neg (by omega),if_neg (by omega)]
    ·rfl
theorem sum_lt {acc p i:Nat} (h1:acc < 128 ^ i) (hp:p * 128 ^ i < 18446744073709551616) (hi9:i ≤ 9):acc + p * 128 ^ i < 18446744073709551616:=by
 have e9:∀ j,j ≤ 9 → ∃ q,18446744073709551616 = 128 ^ j * q:=fun j hj=>by
  match j,hj with
  | 0,_=>exact ⟨18446744073709551616,by decide⟩
  | 1,_=>exact ⟨144115188075855872,by decide⟩
  | 2,_=>exact ⟨1125899906842624,by decide⟩
  | 3,_=>exact ⟨8796093022208,by decide⟩
  | 4,_=>exact ⟨68719476736,by decide⟩
  | 5,_=>exact ⟨536870912,by decide⟩
  | 6,_=>exact ⟨4194304,by decide⟩
  | 7,_=>exact ⟨32768,by decide⟩
  | 8,_=>exact ⟨256,by decide⟩
  | 9,_=>exact ⟨2,by decide⟩
 obtain ⟨q,hq⟩:=e9 i hi9
 have hxq:p < q:=by
  rw [hq,Nat.mul_comm] at hp
  exact Nat.lt_of_mul_lt_mul_left hp
 have:(p + 1) * 128 ^ i ≤ q * 128 ^ i:=Nat.mul_le_mul_right _ hxq
 rw [Nat.add_mul,Nat.one_mul] at this
 rw [hq,Nat.mul_comm (128 ^ i) q]
 omega
theorem TkAt.last {t:List UInt8} {i acc:Nat} (h:TkAt t i acc) (hi:i < t.length) (hb:t[i].toNat < 128) (hp:t[i].toNat * 128 ^ i < 18446744073709551616) (hi9:i ≤ 9):takeV t = if decide (0 < t[i].toNat) || decide (i = 0) then some (acc + t[i].toNat * 128 ^ i,t.drop (i + 1)) else none:=by
 obtain ⟨h1,h2⟩:=h
 rw [h2,List.drop_eq_getElem_cons hi,takeV_cons,if_pos hb]
 simp only [Option.bind_some]
 have hs:acc + 128 ^ i * t[i].toNat < 18446744073709551616:=by rw [Nat.mul_comm];exact sum_lt h1 hp hi9
 by_cases hz:0 < i ∧ t[i].toNat = 0
 ·rw [if_pos hz]
  have:(decide (0 < t[i].toNat) || decide (i = 0)) = false:=by simp;omega
  rw [this];rfl
 ·rw [if_neg hz,if_pos hs]
  have:(decide (0 < t[i].toNat) || decide (i = 0)) = true:=by simp;omega
  rw [this,Nat.mul_comm];rfl
theorem TkAt.zero {t:List UInt8} {i acc:Nat} (h:TkAt t i acc) (hi:i < t.length) (hb:t[i].toNat = 0) (h0:0 < i):takeV t = none:=by
 rw [h.2,List.drop_eq_getElem_cons hi,takeV_cons,if_pos (by omega)]
 simp only [Option.bind_some]
 rw [if_pos ⟨h0,hb⟩]
theorem TkAt.none {t:List UInt8} {i acc:Nat} (h:TkAt t i acc) (hi:t.length ≤ i):takeV t = none:=by
 rw [h.2,List.drop_eq_nil_of_le hi];rfl
theorem andNot128 (x:Nat) (h:x ≤ 255):IntKind.u64.wrap (bits BinOp.andNot IntKind.u8 (x:Int) 128) = ((x % 128:Nat):Int):=by
 have all:∀ a:Fin 256,IntKind.u64.wrap (bits BinOp.andNot IntKind.u8 ((a.val:Nat):Int) 128) = ((a.val % 128:Nat):Int):=by decide +kernel
 exact all ⟨x,by omega⟩
theorem pow2_128 (i:Nat):(2:Nat) ^ (7 * i) = 128 ^ i:=by rw [Nat.pow_mul]
theorem shl128 (p i:Nat):IntKind.u64.wrap ((p:Int) * 2 ^ (7 * i)) = ((p * 128 ^ i % 18446744073709551616:Nat):Int):=by
 rw [IntKind.wrap_u64,← pow2_128,Int.natCast_emod,Int.natCast_mul,Int.natCast_pow];rfl
theorem shr128 (q i:Nat):(q:Int) / 2 ^ (7 * i) = ((q / 128 ^ i:Nat):Int):=by
 rw [← pow2_128,Int.natCast_ediv,Int.natCast_pow];rfl
theorem over_iff (p i:Nat):(p * 128 ^ i % 18446744073709551616) / 128 ^ i ≠ p ↔ 18446744073709551616 ≤ p * 128 ^ i:=by
 have hpos:=pow128_pos i
 constructor
 ·intro h
  rcases Nat.lt_or_ge (p * 128 ^ i) 18446744073709551616 with hl | hl
  ·rw [Nat.mod_eq_of_lt hl,Nat.mul_div_cancel _ hpos] at h
   exact absurd rfl h
  ·exact hl
 ·intro h e
  have h1:p * 128 ^ i % 18446744073709551616 < 18446744073709551616:=Nat.mod_lt _ (by decide)
  have h2:=Nat.div_mul_le_self (p * 128 ^ i % 18446744073709551616) (128 ^ i)
  rw [e] at h2
  omega
theorem or_add {acc p i:Nat} (ha:acc < 128 ^ i) (hq:p * 128 ^ i < 18446744073709551616) (hacc:acc < 18446744073709551616):bits BinOp.or IntKind.u64 (acc:Int) ((p * 128 ^ i:Nat):Int) = ((acc + p * 128 ^ i:Nat):Int):=by
 rw [bits_or_u64_nat _ _ hacc hq]
 congr 1
 rw [← pow2_128] at ha ⊢
 rw [Nat.mul_comm p,Nat.or_comm,← Nat.two_pow_add_eq_or_of_lt ha,Nat.add_comm]
theorem shl_bigP (x y:Int) (h:64 ≤ y):Op.shift BinOp.shl IntKind.u64 x IntKind.i64 y = pure (.int .u64 0):=by
 have hm:min y.toNat 64 = 64:=by omega
 have h0:¬ y < 0:=by omega
 simp [Op.shift,IntKind.bits,hm,h0,IntKind.wrap_u64]
theorem shr_bigP (y:Int) (h:64 ≤ y):Op.shift BinOp.shr IntKind.u64 0 IntKind.i64 y = pure (.int .u64 0):=by
 have hm:min y.toNat 64 = 64:=by omega
 have h0:¬ y < 0:=by omega
 simp [Op.shift,IntKind.bits,hm,h0]
theorem big128 {p i:Nat} (hp:p ≠ 0) (hi:10 ≤ i):18446744073709551616 ≤ p * 128 ^ i:=by
 have h1:(128:Nat) ^ 10 ≤ 128 ^ i:=Nat.pow_le_pow_right (by decide) hi
 have h2:(128:Nat) ^ 10 = 1180591620717411303424:=by decide
 have h3:1 * 128 ^ i ≤ p * 128 ^ i:=Nat.mul_le_mul_right _ (by omega)
 omega
def RdC (w:World) (v:Value) (L:List UInt8):Prop:=Rd w v L ∧ ∃ a c,v = .slice a L.length c ∧ L.length ≤ c
def TakePost (w:World) (v:Value) (L:List UInt8) (e:Ending) (w':World):Prop:=∃ (n:Nat) (a:Option Addr) (c:Nat) (R:List UInt8) (ok:Bool),e = .returned (.tuple #[.int .u64 n,.slice a R.length c,.bool ok]) ∧ n < 18446744073709551616 ∧ RdC w' (.slice a R.length c) R ∧ R.length ≤ L.length ∧ (∀ k,(Value.slice a R.length c).ownBlock = some k → v.ownBlock = some k) ∧ Below w.heap.size w w' ∧ takeV L = (match ok with | true=>some (n,R) | false=>none)
end Go.Proofs.YtdgcamlmjmnpeaaGreatDoor
