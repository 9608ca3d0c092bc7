/- Package numbers: Take, what it comes to (no walk). -/
import Derived.Test.YtopcgnjocklcoaaGreatDoorKDecSpec
import Derived.Test.YtopcgnjocklcoaaGreatDoorMHouse
import Derived.Laws.Bits64b
import Derived.Test.YtopcgnjocklcoaaGreatDoorMEncT
namespace Go.Proofs.YtopcgnjocklcoaaGreatDoor
open Go.RowKit
def TkAt (t:List UInt8) (i acc:Nat):Prop:=acc < 128 ^ i ∧ takeV t = ((takeV (t.drop i)).bind fun x=>if 0 < i ∧ x.1 = 0 then none else if acc + 128 ^ i * x.1 < 18446744073709551616 then some (acc + 128 ^ i * x.1,x.2) else none)
theorem TkAt.begin (t:List UInt8):TkAt t 0 0:=by
 refine ⟨by decide,?_⟩
 rw [List.drop_zero]
 cases e:takeV t with
 | none=>rfl
 | some x =>
  have:=(takeV_some (n:=x.1) (r:=x.2) e).2
  simp [this]
theorem takeV_cons (b:UInt8) (r:List UInt8):takeV (b :: r) = if b.toNat < 128 then some (b.toNat,r) else match takeV r with
  | none=>none
  | some x=>if x.1 = 0 then none else if (b.toNat - 128) + 128 * x.1 < 18446744073709551616 then some ((b.toNat - 128) + 128 * x.1,x.2) else none:=by rw [takeV];rfl
theorem pow128 (i:Nat):(128:Nat) ^ (i + 1) = 128 ^ i * 128:=Nat.pow_succ _ _
theorem pow128_pos (i:Nat):0 < (128:Nat) ^ i:=Nat.pow_pos (by decide)
theorem TkAt.go {t:List UInt8} {i acc:Nat} (h:TkAt t i acc) (hi:i < t.length) (hb:128 ≤ t[i].toNat) (hp:(t[i].toNat - 128) * 128 ^ i < 18446744073709551616):TkAt t (i + 1) (acc + (t[i].toNat - 128) * 128 ^ i):=by
 obtain ⟨h1,h2⟩:=h
 have hlt:=t[i].toNat_lt
 have hpos:=pow128_pos i
 refine ⟨?_,?_⟩
 ·rw [pow128]
  have:(t[i].toNat - 128) * 128 ^ i ≤ 127 * 128 ^ i:=Nat.mul_le_mul_right _ (by omega)
  omega
 ·rw [h2,List.drop_eq_getElem_cons hi,takeV_cons,if_neg (by omega)]
  cases e:takeV (t.drop (i + 1)) with
  | none=>rfl
  | some x =>
   obtain ⟨m,r⟩:=x
   have hv:acc + 128 ^ i * (t[i].toNat - 128 + 128 * m) = acc + (t[i].toNat - 128) * 128 ^ i + 128 ^ (i + 1) * m:=by
    rw [pow128,Nat.mul_add,Nat.mul_comm (128 ^ i) (t[i].toNat - 128),Nat.mul_assoc];omega
   dsimp only
   rw [Option.bind_some]
   dsimp only
   by_cases h0:m = 0
   ·rw [if_pos h0,if_pos ⟨by omega,h0⟩];rfl
   ·have hR:¬ (0 < i + 1 ∧ m = 0):=by omega
    rw [if_neg h0,if_neg hR]
    by_cases hl:(t[i].toNat - 128) + 128 * m < 18446744073709551616
    ·rw [if_pos hl,Option.bind_some]
     dsimp only
     rw [if_neg (by omega),hv]
    ·have h3:(t[i].toNat - 128 + 128 * m) ≤ 128 ^ i * (t[i].toNat - 128 + 128 * m):=Nat.le_mul_of_pos_left _ hpos
     rw [if_neg hl,if_neg (by omega)]
     rfl
theorem TkAt.over {t:List UInt8} {i acc:Nat} (h:TkAt t i acc) (hi:i < t.length) (hp:18446744073709551616 ≤ (t[i].toNat % 128) * 128 ^ i):takeV t = none:=by
 obtain ⟨h1,h2⟩:=h
 have hlt:=t[i].toNat_lt
 rw [h2,List.drop_eq_getElem_cons hi,takeV_cons]
 by_cases hb:t[i].toNat < 128
 ·rw [if_pos hb]
  simp only [Option.bind_some]
  rw [Nat.mod_eq_of_lt hb,Nat.mul_comm] at hp
  split
  ·rfl
  ·rw [if_neg (by omega)]
 ·rw [if_neg hb]
  cases e:takeV (t.drop (i + 1)) with
  | none=>rfl
  | some x =>
   obtain ⟨m,r⟩:=x
   simp only
   split
   ·rfl
   ·split
    ·simp only [Option.bind_some]
     have h3:(t[i].toNat % 128) * 128 ^ i ≤ 128 ^ i * (t[i].toNat - 128 + 128 * m):=by rw [Nat.mul_comm];exact Nat.mul_le_mul_left _ (by omega)
     rw [if_neg (by omega),if_neg (by omega)]
    ·rfl
theorem sum_lt {acc p i:Nat} (h1:acc < 128 ^ i) (hp:p * 128 ^ i < 18446744073709551616) (hi9:i ≤ 9):acc + p * 128 ^ i < 18446744073709551616:=by
 have e9:∀ j,j ≤ 9 → ∃ q,18446744073709551616 = 128 ^ j * q:=fun j hj=>by
  match j,hj with
  | 0,_=>exact ⟨18446744073709551616,by decide⟩
  | 1,_=>exact ⟨144115188075855872,by decide⟩
  | 2,_=>exact ⟨1125899906842624,by decide⟩
  | 3,_=>exact ⟨8796093022208,by decide⟩
  | 4,_=>exact ⟨68719476736,by decide⟩
  | 5,_=>exact ⟨536870912,by decide⟩
  | 6,_=>exact ⟨4194304,by decide⟩
  | 7,_=>exact ⟨32768,by decide⟩
  | 8,_=>exact ⟨256,by decide⟩
  | 9,_=>exact ⟨2,by decide⟩
 obtain ⟨q,hq⟩:=e9 i hi9
 have hxq:p < q:=by
  rw [hq,Nat.mul_comm] at hp
  exact Nat.lt_of_mul_lt_mul_left hp
 have:(p + 1) * 128 ^ i ≤ q * 128 ^ i:=Nat.mul_le_mul_right _ hxq
 rw [Nat.add_mul,Nat.one_mul] at this
 rw [hq,Nat.mul_comm (128 ^ i) q]
 omega
theorem TkAt.last {t:List UInt8} {i acc:Nat} (h:TkAt t i acc) (hi:i < t.length) (hb:t[i].toNat < 128) (hp:t[i].toNat * 128 ^ i < 18446744073709551616) (hi9:i ≤ 9):takeV t = if decide (0 < t[i].toNat) || decide (i = 0) then some (acc + t[i].toNat * 128 ^ i,t.drop (i + 1)) else none:=by
 obtain ⟨h1,h2⟩:=h
 rw [h2,List.drop_eq_getElem_cons hi,takeV_cons,if_pos hb]
 simp only [Option.bind_some]
 have hs:acc + 128 ^ i * t[i].toNat < 18446744073709551616:=by rw [Nat.mul_comm];exact sum_lt h1 hp hi9
 by_cases hz:0 < i ∧ t[i].toNat = 0
 ·rw [if_pos hz]
  have:(decide (0 < t[i].toNat) || decide (i = 0)) = false:=by simp;omega
  rw [this];rfl
 ·rw [if_neg hz,if_pos hs]
  have:(decide (0 < t[i].toNat) || decide (i = 0)) = true:=by simp;omega
  rw [this,Nat.mul_comm];rfl
theorem TkAt.zero {t:List UInt8} {i acc:Nat} (h:TkAt t i acc) (hi:i < t.length) (hb:t[i].toNat = 0) (h0:0 < i):takeV t = none:=by
 rw [h.2,List.drop_eq_getElem_cons hi,takeV_cons,if_pos (by omega)]
 simp only [Option.bind_some]
 rw [if_pos ⟨h0,hb⟩]
theorem TkAt.none {t:List UInt8} {i acc:Nat} (h:TkAt t i acc) (hi:t.length ≤ i):takeV t = none:=by
 rw [h.2,List.drop_eq_nil_of_le hi];rfl
theorem andNot128 (x:Nat) (h:x ≤ 255):IntKind.u64.wrap (bits BinOp.andNot IntKind.u8 (x:Int) 128) = ((x % 128:Nat):Int):=by
 have all:∀ a:Fin 256,IntKind.u64.wrap (bits BinOp.andNot IntKind.u8 ((a.val:Nat):Int) 128) = ((a.val % 128:Nat):Int):=by decide +kernel
 exact all ⟨x,by omega⟩
theorem pow2_128 (i:Nat):(2:Nat) ^ (7 * i) = 128 ^ i:=by rw [Nat.pow_mul]
theorem shl128 (p i:Nat):IntKind.u64.wrap ((p:Int) * 2 ^ (7 * i)) = ((p * 128 ^ i % 18446744073709551616:Nat):Int):=by
 rw [IntKind.wrap_u64,← pow2_128,Int.natCast_emod,Int.natCast_mul,Int.natCast_pow];rfl
theorem shr128 (q i:Nat):(q:Int) / 2 ^ (7 * i) = ((q / 128 ^ i:Nat):Int):=by
 rw [← pow2_128,Int.natCast_ediv,Int.natCast_pow];rfl
theorem over_iff (p i:Nat):(p * 128 ^ i % 18446744073709551616) / 128 ^ i ≠ p ↔ 18446744073709551616 ≤ p * 128 ^ i:=by
 have hpos:=pow128_pos i
 constructor
 ·intro h
  rcases Nat.lt_or_ge (p * 128 ^ i) 18446744073709551616 with hl | hl
  ·rw [Nat.mod_eq_of_lt hl,Nat.mul_div_cancel _ hpos] at h
   exact absurd rfl h
  ·exact hl
 ·intro h e
  have h1:p * 128 ^ i % 18446744073709551616 < 18446744073709551616:=Nat.mod_lt _ (by decide)
  have h2:=Nat.div_mul_le_self (p * 128 ^ i % 18446744073709551616) (128 ^ i)
  rw [e] at h2
  omega
theorem or_add {acc p i:Nat} (ha:acc < 128 ^ i) (hq:p * 128 ^ i < 18446744073709551616) (hacc:acc < 18446744073709551616):bits BinOp.or IntKind.u64 (acc:Int) ((p * 128 ^ i:Nat):Int) = ((acc + p * 128 ^ i:Nat):Int):=by
 rw [bits_or_u64_nat _ _ hacc hq]
 congr 1
 rw [← pow2_128] at ha ⊢
 rw [Nat.mul_comm p,Nat.or_comm,← Nat.two_pow_add_eq_or_of_lt ha,Nat.add_comm]
theorem shl_bigP (x y:Int) (h:64 ≤ y):Op.shift BinOp.shl IntKind.u64 x IntKind.i64 y = pure (.int .u64 0):=by
 have hm:min y.toNat 64 = 64:=by omega
 have h0:¬ y < 0:=by omega
 simp [Op.shift,IntKind.bits,hm,h0,IntKind.wrap_u64]
theorem shr_bigP (y:Int) (h:64 ≤ y):Op.shift BinOp.shr IntKind.u64 0 IntKind.i64 y = pure (.int .u64 0):=by
 have hm:min y.toNat 64 = 64:=by omega
 have h0:¬ y < 0:=by omega
 simp [Op.shift,IntKind.bits,hm,h0]
theorem big128 {p i:Nat} (hp:p ≠ 0) (hi:10 ≤ i):18446744073709551616 ≤ p * 128 ^ i:=by
 have h1:(128:Nat) ^ 10 ≤ 128 ^ i:=Nat.pow_le_pow_right (by decide) hi
 have h2:(128:Nat) ^ 10 = 1180591620717411303424:=by decide
 have h3:1 * 128 ^ i ≤ p * 128 ^ i:=Nat.mul_le_mul_right _ (by omega)
 omega
def RdC (w:World) (v:Value) (L:List UInt8):Prop:=Rd w v L ∧ ∃ a c,v = .slice a L.length c ∧ L.length ≤ c
def TakePost (w:World) (v:Value) (L:List UInt8) (e:Ending) (w':World):Prop:=∃ (n:Nat) (a:Option Addr) (c:Nat) (R:List UInt8) (ok:Bool),e = .returned (.tuple #[.int .u64 n,.slice a R.length c,.bool ok]) ∧ n < 18446744073709551616 ∧ RdC w' (.slice a R.length c) R ∧ R.length ≤ L.length ∧ (∀ k,(Value.slice a R.length c).ownBlock = some k → v.ownBlock = some k) ∧ Below w.heap.size w w' ∧ takeV L = (match ok with | true=>some (n,R) | false=>none)
end Go.Proofs.YtopcgnjocklcoaaGreatDoor
namespace Go.Proofs.YtopcgnjocklcoaaGreatDoor
structure TyOk (ty:List UInt8 → Option TD):Prop where
 e:∀ b ns,ty b = some (.inl ns) → ∀ n ∈ ns,n ≠ [] ∧ ∀ c ∈ n,nameC c = true
 f:∀ b fs,ty b = some (.inr fs) → ∀ f ∈ fs,f.name ≠ [] ∧ ∀ c ∈ f.name,nameC c = true
 d:∀ b fs,ty b = some (.inr fs) → fs.Pairwise fun f g=>f.name ≠ g.name
theorem run_split {p:UInt8 → Bool}:∀ (l rest:List UInt8),(∀ c ∈ l,p c = true) → (∀ c r,rest = c :: r → p c = false) → (l ++ rest).takeWhile p = l ∧ (l ++ rest).dropWhile p = rest
 | [],rest,_,h=>by
  cases rest with
  | nil=>simp
  | cons c r=>have:=h c r rfl;simp [this]
 | a :: l,rest,h1,h2=>by
  obtain ⟨e1,e2⟩:=run_split l rest (fun c hc=>h1 c (by simp [hc])) h2
  have:=h1 a (by simp)
  rw [List.cons_append,List.takeWhile_cons,List.dropWhile_cons,this]
  simp [e1,e2]
theorem unzig_in {m:Nat} (h:m < 18446744073709551616):In64 (unzig m):=by unfold unzig In64;split <;> omega
theorem int_text {v:Int} {rest:List UInt8} (hv:In64 v) (hr:Ends rest):intP wideC (Lib.itoa v ++ rest) = some (vint (zigN v),rest):=by
 obtain ⟨e1,e2⟩:=run_split (p:=wideC) (Lib.itoa v) rest (fun c hc=>int_wide c (itoa_int v c hc)) hr
 unfold intP
 rw [e1,e2,intOf_itoa hv];rfl
theorem cho_text {ns:List (List UInt8)} {n rest:List UInt8} (hn:n ∈ ns) (hc:∀ c ∈ n,nameC c = true) (hr:Ends rest):∃ x,choP wideC ns (n ++ rest) = some (x,rest):=by
 obtain ⟨e1,e2⟩:=run_split (p:=wideC) n rest (fun c h=>name_wide c (hc c h)) hr
 unfold choP
 rw [e1,e2]
 cases e:ns.findIdx? (fun k=>k == n) with
 | some i=>exact ⟨vint i,rfl⟩
 | none =>
  rw [List.findIdx?_eq_none_iff] at e
  have:=e n hn
  simp at this
theorem hexV_hexD {n:Nat} (h:n < 16):hexV (hexD n) = some n:=by
 have:∀ a:Fin 16,hexV (hexD a.val) = some a.val:=by decide
 exact this ⟨n,h⟩
theorem let_text (c:UInt8) (r:List UInt8):lettersG (letD c ++ r) = (lettersG r).map fun x=>(c :: x.1,x.2):=by
 unfold letD
 cases hp:plainC c with
 | true =>
  simp only [if_true,List.singleton_append]
  exact lettersG_plain r hp
 | false =>
  simp only [Bool.false_eq_true,if_false,List.cons_append,List.nil_append]
  have hc:=c.toNat_lt
  rw [lettersG_hex,hexV_hexD (by omega),hexV_hexD (by omega)]
  have:(16 * (c.toNat / 16) + c.toNat % 16).toUInt8 = c:=by
   rw [show 16 * (c.toNat / 16) + c.toNat % 16 = c.toNat by omega]
   simp
  simp only [this,hp,Bool.false_eq_true,if_false]
theorem text_text (b rest:List UInt8):textP (textD b ++ rest) = some (b,rest):=by
 unfold textP textD
 have:eatP [34] (34 :: (b.flatMap letD ++ [34]) ++ rest) = some (b.flatMap letD ++ [34] ++ rest):=by simp [eatP,List.isPrefixOf]
 rw [this]
 show lettersG (b.flatMap letD ++ [34] ++ rest) = _
 induction b with
 | nil=>simp only [List.flatMap_nil,List.nil_append,List.singleton_append];exact lettersG_end rest
 | cons c r ih =>
  rw [List.flatMap_cons,List.append_assoc,List.append_assoc,let_text,← List.append_assoc,ih]
  ·simp
  ·simp [eatP,List.isPrefixOf]
def Opens (t:List UInt8):Prop:=∃ c r,t = c :: r ∧ c ≠ 93
theorem dec_head' (u:Nat):∃ c r,Lib.decDigits u = c :: r:=by
 obtain ⟨d,r,e,_⟩:=dec_head u
 exact ⟨_,r,e⟩
theorem itoa_opens (v:Int):Opens (Lib.itoa v):=by
 have hall:=itoa_int v
 have:∃ c r,Lib.itoa v = c :: r:=by
  unfold Lib.itoa
  split
  ·exact ⟨_,_,rfl⟩
  ·exact dec_head' _
 obtain ⟨c,r,e⟩:=this
 refine ⟨c,r,e,fun h=>?_⟩
 have:=hall c (by rw [e];simp)
 rw [h] at this
 exact absurd this (by decide)
theorem name_opens {n:List UInt8} (h0:n ≠ []) (h:∀ c ∈ n,nameC c = true):Opens n:=by
 obtain ⟨c,r,rfl⟩:=List.exists_cons_of_ne_nil h0
 refine ⟨c,r,rfl,fun e=>?_⟩
 have:=h c (by simp)
 rw [e] at this
 exact absurd this (by decide)
theorem msgD_head {val lst:List UInt8 → List UInt8 → Txt} {fs:List FD} {d s:List UInt8} (h:msgD val lst fs d = some s):∃ r,s = 123 :: r:=by
 obtain ⟨ps,_,h⟩:=Option.bind_eq_some_iff.1 h
 obtain ⟨o,_,rfl⟩:=Option.map_eq_some_iff.1 h
 exact ⟨o,rfl⟩
theorem bool_ok:∀ n ∈ boolNames,n ≠ [] ∧ ∀ c ∈ n,nameC c = true:=by decide
theorem choD_mem {ns:List (List UInt8)} {d s:List UInt8} (h:choD ns d = some s):s ∈ ns:=by
 obtain ⟨i,_,h⟩:=Option.bind_eq_some_iff.1 h
 exact List.mem_of_getElem? h
theorem valD_opens {ty:List UInt8 → Option TD} (hT:TyOk ty) {msg:List FD → List UInt8 → Txt} (hm:∀ fs d s,msg fs d = some s → ∃ r,s = 123 :: r) {b d s:List UInt8} (h:valD ty msg b d = some s):Opens s:=by
 unfold valD at h
 split at h
 ·obtain ⟨m,_,rfl⟩:=Option.map_eq_some_iff.1 h
  exact itoa_opens _
 ·split at h
  ·have:=bool_ok s (choD_mem h)
   exact name_opens this.1 this.2
  ·split at h
   ·simp only [Option.some.injEq] at h
    subst h
    exact ⟨34,_,rfl,by decide⟩
   ·cases e:ty b with
    | none=>rw [e] at h;cases h
    | some t =>
     rw [e] at h
     cases t with
     | inl ns =>
      have:=hT.e b ns e s (choD_mem h)
      exact name_opens this.1 this.2
     | inr fs =>
      obtain ⟨r,rfl⟩:=hm fs d s h
      exact ⟨123,r,rfl,by decide⟩
theorem decE_opens {ty:List UInt8 → Option TD} (hT:TyOk ty) {n:Nat} {b d s:List UInt8} (h:(decE ty n).1 b d = some s):Opens s:=by
 cases n with
 | zero=>exact valD_opens (msg:=fun _ _=>none) hT (fun _ _ _ h=>by cases h) h
 | succ n=>exact valD_opens hT (fun _ _ _ h=>msgD_head h) h
theorem rdE_opens {ty:List UInt8 → Option TD} (hT:TyOk ty) {n:Nat} {b d s:List UInt8} (h:(rdE ty n).1 b d = some s):Opens s:=by
 cases n with
 | zero=>exact valD_opens (msg:=fun _ _=>none) hT (fun _ _ _ h=>by cases h) h
 | succ n=>exact valD_opens hT (fun _ _ _ h=>msgD_head h) h
theorem Opens.eat {t rest:List UInt8} (h:Opens t):eatP [93] (t ++ rest) = none:=by
 obtain ⟨c,r,rfl,hc⟩:=h
 have:(93 == c) = false:=by simp;exact fun e=>hc e.symm
 simp [eatP,List.isPrefixOf,this]
theorem ends_cons {c:UInt8} {r:List UInt8} (h:wideC c = false):Ends (c :: r):=fun d l e=>by
 simp only [List.cons.injEq] at e
 rw [← e.1];exact h
theorem listD_eq (val:List UInt8 → Txt) (k:Nat) (first:Bool) (d:List UInt8):listD val k first d = if d = [] then some [93] else match k with
  | 0=>none
  | k + 1=>(takeC d).bind fun x=>(val x.1).bind fun s=>(listD val k false x.2).map fun o=>sepD first ++ s ++ o:=by rw [listD.eq_def];rfl
theorem listD_ends {val:List UInt8 → Txt} {k:Nat} {d s rest:List UInt8} (h:listD val k false d = some s):Ends (s ++ rest):=by
 rw [listD_eq] at h
 split at h
 ·simp only [Option.some.injEq] at h
  subst h
  exact ends_cons (by decide)
 ·cases k with
  | zero=>cases h
  | succ k =>
   obtain ⟨x,_,h⟩:=Option.bind_eq_some_iff.1 h
   obtain ⟨t,_,h⟩:=Option.bind_eq_some_iff.1 h
   obtain ⟨o,_,rfl⟩:=Option.map_eq_some_iff.1 h
   exact ends_cons (by decide)
theorem fieldsD_ends {val lst:List UInt8 → List UInt8 → Txt} {ps:List (Nat × List UInt8)} {rest:List UInt8}:∀ {fs:List FD} {s:List UInt8},fieldsD val lst ps fs false = some s → Ends (s ++ rest)
 | [],s,h=>by
  simp only [fieldsD,Option.some.injEq] at h
  subst h
  exact ends_cons (by decide)
 | f :: fs,s,h=>by
  unfold fieldsD at h
  split at h
  ·split at h
   ·exact fieldsD_ends h
   ·cases h
  ·obtain ⟨t,_,h⟩:=Option.bind_eq_some_iff.1 h
   obtain ⟨o,_,rfl⟩:=Option.map_eq_some_iff.1 h
   exact ends_cons (by decide)
theorem key_pre:∀ (a b z:List UInt8),(∀ c ∈ a,nameC c = true) → (∀ c ∈ b,nameC c = true) → (a ++ [58]).isPrefixOf (b ++ 58 :: z) = true → a = b
 | [],[],_,_,_,_=>rfl
 | [],c :: b,z,_,hb,h=>by
  have:=hb c (by simp)
  simp only [List.nil_append,List.cons_append,List.isPrefixOf,Bool.and_eq_true,beq_iff_eq] at h
  rw [← h.1] at this
  exact absurd this (by decide)
 | c :: a,[],z,ha,_,h=>by
  have:=ha c (by simp)
  simp only [List.nil_append,List.cons_append,List.isPrefixOf,Bool.and_eq_true,beq_iff_eq] at h
  rw [h.1] at this
  exact absurd this (by decide)
 | c :: a,e :: b,z,ha,hb,h=>by
  simp only [List.cons_append,List.isPrefixOf,Bool.and_eq_true,beq_iff_eq] at h
  rw [h.1,key_pre a b z (fun q hq=>ha q (by simp [hq])) (fun q hq=>hb q (by simp [hq])) h.2]
theorem pre_same (s a t:List UInt8):(s ++ a).isPrefixOf (s ++ t) = a.isPrefixOf t:=by
 induction s with
 | nil=>rfl
 | cons c r ih=>simp [ih]
theorem key_none {val lst:List UInt8 → List UInt8 → Txt} {ps:List (Nat × List UInt8)} {n rest:List UInt8} (h0:n ≠ []) (hn:∀ c ∈ n,nameC c = true):∀ {fs:List FD} {first:Bool} {s:List UInt8},(∀ f ∈ fs,f.name ≠ [] ∧ ∀ c ∈ f.name,nameC c = true) → (∀ f ∈ fs,n ≠ f.name) → fieldsD val lst ps fs first = some s → eatP (sepD first ++ n ++ [58]) (s ++ rest) = none
 | [],first,s,_,_,h=>by
  simp only [fieldsD,Option.some.injEq] at h
  subst h
  obtain ⟨c,r,rfl⟩:=List.exists_cons_of_ne_nil h0
  have hc:=hn c (by simp)
  have:(c == 125) = false:=by
   cases e:(c == 125) with
   | false=>rfl
   | true=>rw [eq_of_beq e] at hc;exact absurd hc (by decide)
  cases first <;> simp [eatP,sepD,List.isPrefixOf,this]
 | f :: fs,first,s,hf,hne,h=>by
  unfold fieldsD at h
  split at h
  ·split at h
   ·exact key_none h0 hn (fun g hg=>hf g (by simp [hg])) (fun g hg=>hne g (by simp [hg])) h
   ·cases h
  ·obtain ⟨t,_,h⟩:=Option.bind_eq_some_iff.1 h
   obtain ⟨o,_,rfl⟩:=Option.map_eq_some_iff.1 h
   unfold eatP
   have:((sepD first ++ n ++ [58]).isPrefixOf (sepD first ++ f.name ++ [58] ++ t ++ o ++ rest)) = false:=by
    cases e:((sepD first ++ n ++ [58]).isPrefixOf (sepD first ++ f.name ++ [58] ++ t ++ o ++ rest)) with
    | false=>rfl
    | true =>
     rw [show sepD first ++ n ++ [58] = sepD first ++ (n ++ [58]) by simp,show sepD first ++ f.name ++ [58] ++ t ++ o ++ rest = sepD first ++ (f.name ++ 58 :: (t ++ o ++ rest)) by simp,pre_same] at e
     exact absurd (key_pre n f.name _ hn (hf f (by simp)).2 e) (hne f (by simp))
   rw [this];rfl
theorem key_some (first:Bool) (n z:List UInt8):eatP ((if first then [] else [44]) ++ n ++ [58]) (sepD first ++ n ++ [58] ++ z) = some z:=by
 unfold eatP
 have:(((if first then [] else [44]) ++ n ++ [58]).isPrefixOf (sepD first ++ n ++ [58] ++ z)) = true:=by
  rw [List.isPrefixOf_iff_prefix]
  exact ⟨z,rfl⟩
 rw [this]
 simp only [if_true]
 rw [show ((if first then [] else [44]):List UInt8) = sepD first from rfl,List.drop_left]
theorem list_A {dv:List UInt8 → Txt} {ev:List UInt8 → Got} (hO:∀ v t,dv v = some t → Opens t) (hA:∀ v t rest,dv v = some t → Ends rest → ∃ x,ev (t ++ rest) = some (x,rest)):∀ (k:Nat) (first:Bool) (d s rest:List UInt8),listD dv k first d = some s → ∃ x,listGo ev k first (s ++ rest) = some (x,rest)
 | k,first,d,s,rest,h=>by
  rw [listD_eq] at h
  rw [listGo_eq]
  split at h
  ·simp only [Option.some.injEq] at h
   subst h
   exact ⟨[],by simp [eatP,List.isPrefixOf]⟩
  ·cases k with
   | zero=>cases h
   | succ k =>
    obtain ⟨x,_,h⟩:=Option.bind_eq_some_iff.1 h
    obtain ⟨t,ht,h⟩:=Option.bind_eq_some_iff.1 h
    obtain ⟨o,ho,rfl⟩:=Option.map_eq_some_iff.1 h
    obtain ⟨y,hy⟩:=list_A hO hA k false x.2 o rest ho
    obtain ⟨z,hz⟩:=hA x.1 t (o ++ rest) ht (listD_ends ho)
    have h93:eatP [93] (sepD first ++ t ++ o ++ rest) = none:=by
     cases first
     ·simp [eatP,sepD,List.isPrefixOf]
     ·rw [show sepD true ++ t ++ o ++ rest = t ++ (o ++ rest) by simp [sepD]];exact (hO _ _ ht).eat
    rw [h93]
    have hsep:(if first = true then some (sepD first ++ t ++ o ++ rest) else eatP [44] (sepD first ++ t ++ o ++ rest)) = some (t ++ (o ++ rest)):=by
     cases first <;> simp [eatP,sepD,List.isPrefixOf]
    simp only [hsep,Option.bind_some,hz,hy,Option.map_some]
    exact ⟨_,rfl⟩
theorem list_B {rv dv:List UInt8 → Txt} {ev:List UInt8 → Got} (hO:∀ v t,rv v = some t → Opens t) (hB:∀ v t rest y,rv v = some t → Ends rest → ev (t ++ rest) = some y → dv v = some t ∧ y.2 = rest):∀ (k k':Nat) (first:Bool) (d s rest:List UInt8) (y:List UInt8 × List UInt8),listD rv k first d = some s → listGo ev k' first (s ++ rest) = some y → listD dv k' first d = some s ∧ y.2 = rest
 | k,k',first,d,s,rest,y,h,h'=>by
  rw [listD_eq] at h ⊢
  rw [listGo_eq] at h'
  split at h
  ·rename_i hd
   rw [if_pos hd]
   simp only [Option.some.injEq] at h
   subst h
   refine ⟨rfl,?_⟩
   have:eatP [93] ([93] ++ rest) = some rest:=by simp [eatP,List.isPrefixOf]
   rw [this] at h'
   simp only [Option.some.injEq] at h'
   rw [← h']
  ·rename_i hd
   rw [if_neg hd]
   cases k with
   | zero=>cases h
   | succ k =>
    obtain ⟨x,hx,h⟩:=Option.bind_eq_some_iff.1 h
    obtain ⟨t,ht,h⟩:=Option.bind_eq_some_iff.1 h
    obtain ⟨o,ho,rfl⟩:=Option.map_eq_some_iff.1 h
    have h93:eatP [93] (sepD first ++ t ++ o ++ rest) = none:=by
     cases first
     ·simp [eatP,sepD,List.isPrefixOf]
     ·rw [show sepD true ++ t ++ o ++ rest = t ++ (o ++ rest) by simp [sepD]];exact (hO _ _ ht).eat
    rw [h93] at h'
    have hsep:(if first = true then some (sepD first ++ t ++ o ++ rest) else eatP [44] (sepD first ++ t ++ o ++ rest)) = some (t ++ (o ++ rest)):=by
     cases first <;> simp [eatP,sepD,List.isPrefixOf]
    cases k' with
    | zero=>cases h'
    | succ k' =>
     simp only [hsep,Option.bind_some] at h'
     obtain ⟨v,hv,h'⟩:=Option.bind_eq_some_iff.1 h'
     obtain ⟨q,hq,rfl⟩:=Option.map_eq_some_iff.1 h'
     obtain ⟨hd1,hd2⟩:=hB x.1 t (o ++ rest) v ht (listD_ends ho) hv
     rw [hd2] at hq
     obtain ⟨hl1,hl2⟩:=list_B hO hB k k' false x.2 o rest q ho hq
     simp only [hx,Option.bind_some,hd1,hl1,Option.map_some]
     exact ⟨trivial,hl2⟩
theorem list_C {rv dv:List UInt8 → Txt} (m:Nat) (hC:∀ v t,v.length < m → dv v = some t → rv v = some t):∀ (k k':Nat) (first:Bool) (d s:List UInt8),d.length ≤ m → d.length ≤ k' → listD dv k first d = some s → listD rv k' first d = some s
 | k,k',first,d,s,hm,hk,h=>by
  rw [listD_eq] at h ⊢
  split at h
  ·rename_i hd
   rw [if_pos hd];exact h
  ·rename_i hd
   rw [if_neg hd]
   cases k with
   | zero=>cases h
   | succ k =>
    obtain ⟨x,hx,h⟩:=Option.bind_eq_some_iff.1 h
    obtain ⟨t,ht,h⟩:=Option.bind_eq_some_iff.1 h
    obtain ⟨o,ho,rfl⟩:=Option.map_eq_some_iff.1 h
    have hlen:=takeC_len (v:=x.1) (r:=x.2) hx
    cases k' with
    | zero=>omega
    | succ k' =>
     simp only [hx,Option.bind_some,hC x.1 t (by omega) ht,list_C m hC k k' false x.2 o (by omega) (by omega) ho,Option.map_some]
theorem fields_A {dv dl:List UInt8 → List UInt8 → Txt} {ev el:List UInt8 → List UInt8 → Got} {ps:List (Nat × List UInt8)} (hA:∀ b v t rest,dv b v = some t → Ends rest → ∃ x,ev b (t ++ rest) = some (x,rest)) (hL:∀ b v t rest,dl b v = some t → ∃ x,el b (t ++ rest) = some (x,rest)):∀ (fs:List FD) (first:Bool) (s rest:List UInt8),(∀ f ∈ fs,f.name ≠ [] ∧ ∀ c ∈ f.name,nameC c = true) → (fs.Pairwise fun f g=>f.name ≠ g.name) → fieldsD dv dl ps fs first = some s → ∃ x,fieldsGo ev el fs first (s ++ rest) = some (x,rest)
 | [],first,s,rest,_,_,h=>by
  simp only [fieldsD,Option.some.injEq] at h
  subst h
  exact ⟨[],by simp [fieldsGo,eatP,List.isPrefixOf]⟩
 | f :: fs,first,s,rest,hf,hp,h=>by
  obtain ⟨hp1,hp2⟩:=List.pairwise_cons.1 hp
  obtain ⟨hf0,hfc⟩:=hf f (by simp)
  have hfs:∀ g ∈ fs,g.name ≠ [] ∧ ∀ c ∈ g.name,nameC c = true:=fun g hg=>hf g (by simp [hg])
  unfold fieldsD at h
  split at h
  ·split at h
   ·rename_i hs
    have hk:eatP ((if first = true then [] else [44]) ++ f.name ++ [58]) (s ++ rest) = none:=key_none hf0 hfc hfs hp1 h
    obtain ⟨x,hx⟩:=fields_A hA hL fs first s rest hfs hp2 h
    refine ⟨x,?_⟩
    unfold fieldsGo
    rw [hk]
    simp only [if_pos hs];exact hx
   ·cases h
  ·rename_i p _
   obtain ⟨t,ht,h⟩:=Option.bind_eq_some_iff.1 h
   obtain ⟨o,ho,rfl⟩:=Option.map_eq_some_iff.1 h
   obtain ⟨y,hy⟩:=fields_A hA hL fs false o rest hfs hp2 ho
   have hE:Ends (o ++ rest):=fieldsD_ends ho
   have hk:=key_some first f.name (t ++ (o ++ rest))
   unfold fieldsGo
   rw [show sepD first ++ f.name ++ [58] ++ t ++ o ++ rest = sepD first ++ f.name ++ [58] ++ (t ++ (o ++ rest)) by simp,hk]
   simp only
   split at ht
   ·rename_i hs
    obtain ⟨z,hz⟩:=hL f.base p.2 t (o ++ rest) ht
    simp only [if_pos hs,hz,Option.bind_some,hy,Option.map_some]
    exact ⟨_,rfl⟩
   ·rename_i hs
    obtain ⟨z,hz⟩:=hA f.base p.2 t (o ++ rest) ht hE
    simp only [if_neg hs,hz,Option.bind_some,hy,Option.map_some]
    exact ⟨_,rfl⟩
theorem fields_B {rv rl dv dl:List UInt8 → List UInt8 → Txt} {ev el:List UInt8 → List UInt8 → Got} {ps:List (Nat × List UInt8)} (hB:∀ b v t rest y,rv b v = some t → Ends rest → ev b (t ++ rest) = some y → dv b v = some t ∧ y.2 = rest) (hL:∀ b v t rest y,rl b v = some t → el b (t ++ rest) = some y → dl b v = some t ∧ y.2 = rest):∀ (fs:List FD) (first:Bool) (s rest:List UInt8) (y:List UInt8 × List UInt8),(∀ f ∈ fs,f.name ≠ [] ∧ ∀ c ∈ f.name,nameC c = true) → (fs.Pairwise fun f g=>f.name ≠ g.name) → fieldsD rv rl ps fs first = some s → fieldsGo ev el fs first (s ++ rest) = some y → fieldsD dv dl ps fs first = some s ∧ y.2 = rest
 | [],first,s,rest,y,_,_,h,h'=>by
  simp only [fieldsD,Option.some.injEq] at h
  subst h
  refine ⟨rfl,?_⟩
  unfold fieldsGo at h'
  have:eatP [125] ([125] ++ rest) = some rest:=by simp [eatP,List.isPrefixOf]
  rw [this] at h'
  simp only [Option.map_some,Option.some.injEq] at h'
  rw [← h']
 | f :: fs,first,s,rest,y,hf,hp,h,h'=>by
  obtain ⟨hp1,hp2⟩:=List.pairwise_cons.1 hp
  obtain ⟨hf0,hfc⟩:=hf f (by simp)
  have hfs:∀ g ∈ fs,g.name ≠ [] ∧ ∀ c ∈ g.name,nameC c = true:=fun g hg=>hf g (by simp [hg])
  unfold fieldsD at h ⊢
  unfold fieldsGo at h'
  cases e:ps.find? (fun p=>p.1 == f.number) with
  | none =>
   rw [e] at h
   simp only at h ⊢
   split at h
   ·rename_i hs
    have hk:eatP ((if first = true then [] else [44]) ++ f.name ++ [58]) (s ++ rest) = none:=key_none hf0 hfc hfs hp1 h
    rw [hk] at h'
    simp only [if_pos hs] at h' ⊢
    exact fields_B hB hL fs first s rest y hfs hp2 h h'
   ·cases h
  | some p =>
   rw [e] at h
   simp only at h ⊢
   obtain ⟨t,ht,h⟩:=Option.bind_eq_some_iff.1 h
   obtain ⟨o,ho,rfl⟩:=Option.map_eq_some_iff.1 h
   have hE:Ends (o ++ rest):=fieldsD_ends ho
   have hk:=key_some first f.name (t ++ (o ++ rest))
   rw [show sepD first ++ f.name ++ [58] ++ t ++ o ++ rest = sepD first ++ f.name ++ [58] ++ (t ++ (o ++ rest)) by simp,hk] at h'
   simp only at h'
   obtain ⟨v,hv,h'⟩:=Option.bind_eq_some_iff.1 h'
   obtain ⟨q,hq,rfl⟩:=Option.map_eq_some_iff.1 h'
   by_cases hs:f.shape = 2
   ·simp only [if_pos hs] at ht hv ⊢
    obtain ⟨h1,h2⟩:=hL f.base p.2 t (o ++ rest) v ht hv
    rw [h2] at hq
    obtain ⟨h3,h4⟩:=fields_B hB hL fs false o rest q hfs hp2 ho hq
    simp only [h1,Option.bind_some,h3,Option.map_some]
    exact ⟨trivial,h4⟩
   ·simp only [if_neg hs] at ht hv ⊢
    obtain ⟨h1,h2⟩:=hB f.base p.2 t (o ++ rest) v ht hE hv
    rw [h2] at hq
    obtain ⟨h3,h4⟩:=fields_B hB hL fs false o rest q hfs hp2 ho hq
    simp only [h1,Option.bind_some,h3,Option.map_some]
    exact ⟨trivial,h4⟩
theorem fields_C {rv rl dv dl:List UInt8 → List UInt8 → Txt} {ps:List (Nat × List UInt8)} (hC:∀ p ∈ ps,∀ b t,dv b p.2 = some t → rv b p.2 = some t) (hL:∀ p ∈ ps,∀ b t,dl b p.2 = some t → rl b p.2 = some t):∀ (fs:List FD) (first:Bool) (s:List UInt8),fieldsD dv dl ps fs first = some s → fieldsD rv rl ps fs first = some s
 | [],first,s,h=>h
 | f :: fs,first,s,h=>by
  unfold fieldsD at h ⊢
  cases e:ps.find? (fun p=>p.1 == f.number) with
  | none =>
   rw [e] at h
   simp only at h ⊢
   split at h
   ·rename_i hs
    rw [if_pos hs];exact fields_C hC hL fs first s h
   ·cases h
  | some p =>
   have hp:=List.mem_of_find?_eq_some e
   rw [e] at h
   simp only at h ⊢
   obtain ⟨t,ht,h⟩:=Option.bind_eq_some_iff.1 h
   obtain ⟨o,ho,rfl⟩:=Option.map_eq_some_iff.1 h
   by_cases hs:f.shape = 2
   ·simp only [if_pos hs] at ht ⊢
    simp only [hL p hp f.base t ht,Option.bind_some,fields_C hC hL fs false o ho,Option.map_some]
   ·simp only [if_neg hs] at ht ⊢
    simp only [hC p hp f.base t ht,Option.bind_some,fields_C hC hL fs false o ho,Option.map_some]
end Go.Proofs.YtopcgnjocklcoaaGreatDoor
namespace Go.Proofs.YtopcgnjocklcoaaGreatDoor
theorem wholeV_lt {d:List UInt8} {m:Nat} (h:wholeV d = some m):m < 18446744073709551616:=by
 obtain ⟨x,h1,h2⟩:=Option.bind_eq_some_iff.1 h
 have:=(takeV_some (n:=x.1) (r:=x.2) h1).2
 split at h2
 ·simp only [Option.some.injEq] at h2;omega
 ·cases h2
theorem val_A {ty:List UInt8 → Option TD} (hT:TyOk ty) {dm:List FD → List UInt8 → Txt} {em:List FD → List UInt8 → Got} (hm:∀ b fs,ty b = some (.inr fs) → ∀ d s rest,dm fs d = some s → ∃ x,em fs (s ++ rest) = some (x,rest)) {b d s rest:List UInt8} (h:valD ty dm b d = some s) (hr:Ends rest):∃ x,valP wideC wideC ty em b (s ++ rest) = some (x,rest):=by
 unfold valD at h
 unfold valP
 split at h
 ·rw [if_pos ‹_›]
  obtain ⟨m,hw,rfl⟩:=Option.map_eq_some_iff.1 h
  exact ⟨_,int_text (unzig_in (wholeV_lt hw)) hr⟩
 ·rw [if_neg ‹_›]
  split at h
  ·rw [if_pos ‹_›]
   have:=bool_ok s (choD_mem h)
   exact cho_text (choD_mem h) this.2 hr
  ·rw [if_neg ‹_›]
   split at h
   ·rw [if_pos ‹_›]
    simp only [Option.some.injEq] at h
    subst h
    exact ⟨_,text_text d rest⟩
   ·rw [if_neg ‹_›]
    cases e:ty b with
    | none=>rw [e] at h;cases h
    | some t =>
     rw [e] at h
     cases t with
     | inl ns =>exact cho_text (choD_mem h) (hT.e b ns e s (choD_mem h)).2 hr
     | inr fs =>exact hm b fs e d s rest h
theorem val_B {ty:List UInt8 → Option TD} (hT:TyOk ty) {rm dm:List FD → List UInt8 → Txt} {em:List FD → List UInt8 → Got} (hm:∀ b fs,ty b = some (.inr fs) → ∀ d s rest y,rm fs d = some s → em fs (s ++ rest) = some y → dm fs d = some s ∧ y.2 = rest) {b d s rest:List UInt8} {y:List UInt8 × List UInt8} (h:valD ty rm b d = some s) (hr:Ends rest) (h':valP wideC wideC ty em b (s ++ rest) = some y):valD ty dm b d = some s ∧ y.2 = rest:=by
 unfold valD at h ⊢
 unfold valP at h'
 split at h
 ·rw [if_pos ‹_›] at h' ⊢
  refine ⟨h,?_⟩
  obtain ⟨m,hw,rfl⟩:=Option.map_eq_some_iff.1 h
  rw [int_text (unzig_in (wholeV_lt hw)) hr] at h'
  simp only [Option.some.injEq] at h'
  rw [← h']
 ·rw [if_neg ‹_›] at h' ⊢
  split at h
  ·rw [if_pos ‹_›] at h' ⊢
   refine ⟨h,?_⟩
   have:=bool_ok s (choD_mem h)
   obtain ⟨x,hx⟩:=cho_text (choD_mem h) this.2 hr
   rw [hx] at h'
   simp only [Option.some.injEq] at h'
   rw [← h']
  ·rw [if_neg ‹_›] at h' ⊢
   split at h
   ·rw [if_pos ‹_›] at h' ⊢
    refine ⟨h,?_⟩
    simp only [Option.some.injEq] at h
    subst h
    rw [text_text d rest] at h'
    simp only [Option.some.injEq] at h'
    rw [← h']
   ·rw [if_neg ‹_›] at h' ⊢
    cases e:ty b with
    | none=>rw [e] at h;cases h
    | some t =>
     rw [e] at h h'
     cases t with
     | inl ns =>
      refine ⟨h,?_⟩
      obtain ⟨x,hx⟩:=cho_text (choD_mem h) (hT.e b ns e s (choD_mem h)).2 hr
      simp only at h'
      rw [hx] at h'
      simp only [Option.some.injEq] at h'
      rw [← h']
     | inr fs =>exact hm b fs e d s rest y h h'
theorem val_C {ty:List UInt8 → Option TD} {rm dm:List FD → List UInt8 → Txt} {b d s:List UInt8} (hm:∀ fs s,dm fs d = some s → rm fs d = some s) (h:valD ty dm b d = some s):valD ty rm b d = some s:=by
 unfold valD at h ⊢
 split at h
 ·rw [if_pos ‹_›];exact h
 ·rw [if_neg ‹_›]
  split at h
  ·rw [if_pos ‹_›];exact h
  ·rw [if_neg ‹_›]
   split at h
   ·rw [if_pos ‹_›];exact h
   ·rw [if_neg ‹_›]
    cases e:ty b with
    | none=>rw [e] at h;cases h
    | some t =>
     rw [e] at h
     cases t with
     | inl ns =>exact h
     | inr fs =>exact hm fs s h
theorem partsGo_eq (f last:Nat) (d:List UInt8):partsGo f last d = if d = [] then some [] else match f with
  | 0=>none
  | f + 1=>(takeV d).bind fun x=>(takeC x.2).bind fun y=>if last < x.1 ∧ x.1 ≤ 99 then (partsGo f x.1 y.2).map fun o=>(x.1,y.1) :: o else none:=by rw [partsGo.eq_def];rfl
theorem parts_len:∀ {f last:Nat} {d:List UInt8} {ps:List (Nat × List UInt8)},partsGo f last d = some ps → ∀ p ∈ ps,p.2.length + 1 < d.length
 | f,last,d,ps,h,p,hp=>by
  rw [partsGo_eq] at h
  split at h
  ·simp only [Option.some.injEq] at h
   subst h;cases hp
  ·cases f with
   | zero=>cases h
   | succ f =>
    obtain ⟨x,hx,h⟩:=Option.bind_eq_some_iff.1 h
    obtain ⟨y,hy,h⟩:=Option.bind_eq_some_iff.1 h
    split at h
    ·obtain ⟨o,ho,rfl⟩:=Option.map_eq_some_iff.1 h
     have h1:=takeV_shorter (n:=x.1) (r:=x.2) hx
     have h2:=takeC_len (v:=y.1) (r:=y.2) hy
     rcases List.mem_cons.1 hp with rfl | hp
     ·simp only;omega
     ·have:=parts_len ho p hp;omega
    ·cases h
theorem msg_A {ty:List UInt8 → Option TD} (hT:TyOk ty) {dv dl:List UInt8 → List UInt8 → Txt} {ev el:List UInt8 → List UInt8 → Got} (hA:∀ b v t rest,dv b v = some t → Ends rest → ∃ x,ev b (t ++ rest) = some (x,rest)) (hL:∀ b v t rest,dl b v = some t → ∃ x,el b (t ++ rest) = some (x,rest)) (b:List UInt8) (fs:List FD) (ht:ty b = some (.inr fs)) (d s rest:List UInt8) (h:msgD dv dl fs d = some s):∃ x,msgP ev el fs (s ++ rest) = some (x,rest):=by
 obtain ⟨ps,_,h⟩:=Option.bind_eq_some_iff.1 h
 obtain ⟨o,ho,rfl⟩:=Option.map_eq_some_iff.1 h
 obtain ⟨x,hx⟩:=fields_A hA hL fs true o rest (hT.f b fs ht) (hT.d b fs ht) ho
 refine ⟨x,?_⟩
 unfold msgP
 have:eatP [123] (123 :: o ++ rest) = some (o ++ rest):=by simp [eatP,List.isPrefixOf]
 rw [this];exact hx
theorem msg_B {ty:List UInt8 → Option TD} (hT:TyOk ty) {rv rl dv dl:List UInt8 → List UInt8 → Txt} {ev el:List UInt8 → List UInt8 → Got} (hB:∀ b v t rest y,rv b v = some t → Ends rest → ev b (t ++ rest) = some y → dv b v = some t ∧ y.2 = rest) (hL:∀ b v t rest y,rl b v = some t → el b (t ++ rest) = some y → dl b v = some t ∧ y.2 = rest) (b:List UInt8) (fs:List FD) (ht:ty b = some (.inr fs)) (d s rest:List UInt8) (y:List UInt8 × List UInt8) (h:msgD rv rl fs d = some s) (h':msgP ev el fs (s ++ rest) = some y):msgD dv dl fs d = some s ∧ y.2 = rest:=by
 obtain ⟨ps,hps,h⟩:=Option.bind_eq_some_iff.1 h
 obtain ⟨o,ho,rfl⟩:=Option.map_eq_some_iff.1 h
 unfold msgP at h'
 have:eatP [123] (123 :: o ++ rest) = some (o ++ rest):=by simp [eatP,List.isPrefixOf]
 rw [this] at h'
 obtain ⟨h1,h2⟩:=fields_B hB hL fs true o rest y (hT.f b fs ht) (hT.d b fs ht) ho h'
 refine ⟨?_,h2⟩
 unfold msgD
 simp only [hps,Option.bind_some,h1,Option.map_some]
theorem A_main {ty:List UInt8 → Option TD} (hT:TyOk ty):∀ n,(∀ b d s rest,(decE ty n).1 b d = some s → Ends rest → ∃ x,(encE wideC wideC ty n).1 b (s ++ rest) = some (x,rest)) ∧ (∀ b d s rest,(decE ty n).2 b d = some s → ∃ x,(encE wideC wideC ty n).2 b (s ++ rest) = some (x,rest))
 | 0=>⟨fun b d s rest h hr=>val_A (dm:=fun _ _=>none) (em:=fun _ _=>none) hT (fun _ _ _ _ _ _ h=>by cases h) h hr,fun b d s rest h=>by cases h⟩
 | n + 1=>by
  obtain ⟨i1,i2⟩:=A_main hT n
  refine ⟨fun b d s rest h hr=>val_A hT (fun b fs ht d s rest h=>msg_A hT i1 i2 b fs ht d s rest h) h hr,fun b d s rest h=>?_⟩
  obtain ⟨o,ho,rfl⟩:=Option.map_eq_some_iff.1 (show (listD ((decE ty n).1 b) 16 true d).map (fun o=>91 :: o) = some s from h)
  obtain ⟨x,hx⟩:=list_A (fun v t h=>decE_opens hT h) (fun v t rest h hr=>i1 b v t rest h hr) 16 true d o rest ho
  refine ⟨x,?_⟩
  show listP ((encE wideC wideC ty n).1 b) (91 :: o ++ rest) = some (x,rest)
  unfold listP
  have:eatP [91] (91 :: o ++ rest) = some (o ++ rest):=by simp [eatP,List.isPrefixOf]
  rw [this];exact hx
theorem B_main {ty:List UInt8 → Option TD} (hT:TyOk ty):∀ n f,(∀ b d s rest y,(rdE ty f).1 b d = some s → Ends rest → (encE wideC wideC ty n).1 b (s ++ rest) = some y → (decE ty n).1 b d = some s ∧ y.2 = rest) ∧ (∀ b d s rest y,(rdE ty f).2 b d = some s → (encE wideC wideC ty n).2 b (s ++ rest) = some y → (decE ty n).2 b d = some s ∧ y.2 = rest)
 | 0,f=>by
  refine ⟨fun b d s rest y h hr h'=>?_,fun b d s rest y h h'=>by cases h'⟩
  cases f with
  | zero=>exact val_B (rm:=fun _ _=>none) (dm:=fun _ _=>none) (em:=fun _ _=>none) hT (fun _ _ _ _ _ _ _ h _=>by cases h) h hr h'
  | succ f=>exact val_B (rm:=msgD (rdE ty f).1 (rdE ty f).2) (dm:=fun _ _=>none) (em:=fun _ _=>none) hT (fun _ _ _ _ _ _ _ _ h=>by cases h) h hr h'
 | n + 1,0=>⟨fun b d s rest y h hr h'=>val_B (rm:=fun _ _=>none) (dm:=msgD (decE ty n).1 (decE ty n).2) hT (fun _ _ _ _ _ _ _ h _=>by cases h) h hr h',fun b d s rest y h _=>by cases h⟩
 | n + 1,f + 1=>by
  obtain ⟨i1,i2⟩:=B_main hT n f
  refine ⟨fun b d s rest y h hr h'=>val_B hT (fun b fs ht d s rest y h h'=>msg_B hT i1 i2 b fs ht d s rest y h h') h hr h',fun b d s rest y h h'=>?_⟩
  obtain ⟨o,ho,rfl⟩:=Option.map_eq_some_iff.1 (show (listD ((rdE ty f).1 b) d.length true d).map (fun o=>91 :: o) = some s from h)
  replace h':listP ((encE wideC wideC ty n).1 b) (91 :: o ++ rest) = some y:=h'
  unfold listP at h'
  have:eatP [91] (91 :: o ++ rest) = some (o ++ rest):=by simp [eatP,List.isPrefixOf]
  rw [this] at h'
  obtain ⟨h1,h2⟩:=list_B (fun v t h=>rdE_opens hT h) (fun v t rest y h hr h'=>i1 b v t rest y h hr h') d.length 16 true d o rest y ho h'
  refine ⟨?_,h2⟩
  show (listD ((decE ty n).1 b) 16 true d).map (fun o=>91 :: o) = _
  rw [h1];rfl
theorem C_main {ty:List UInt8 → Option TD}:∀ n f,(∀ b d s,(decE ty n).1 b d = some s → d.length < f → (rdE ty f).1 b d = some s) ∧ (∀ b d s,(decE ty n).2 b d = some s → d.length < f → (rdE ty f).2 b d = some s)
 | n,0=>⟨fun _ _ _ _ h=>by omega,fun _ _ _ _ h=>by omega⟩
 | 0,f + 1=>⟨fun b d s h _=>val_C (dm:=fun _ _=>none) (fun _ _ h=>by cases h) h,fun b d s h=>by cases h⟩
 | n + 1,f + 1=>by
  obtain ⟨i1,i2⟩:=C_main (ty:=ty) n f
  refine ⟨fun b d s h hd=>val_C (dm:=msgD (decE ty n).1 (decE ty n).2) (rm:=msgD (rdE ty f).1 (rdE ty f).2) (fun fs s h=>?_) h,fun b d s h hd=>?_⟩
  ·obtain ⟨ps,hps,h⟩:=Option.bind_eq_some_iff.1 h
   obtain ⟨o,ho,rfl⟩:=Option.map_eq_some_iff.1 h
   have hl:=parts_len hps
   have:=fields_C (rv:=(rdE ty f).1) (rl:=(rdE ty f).2) (fun p hp b t h=>i1 b p.2 t h (by have:=hl p hp;omega)) (fun p hp b t h=>i2 b p.2 t h (by have:=hl p hp;omega)) fs true o ho
   unfold msgD
   simp only [hps,Option.bind_some,this,Option.map_some]
  ·obtain ⟨o,ho,rfl⟩:=Option.map_eq_some_iff.1 (show (listD ((decE ty n).1 b) 16 true d).map (fun o=>91 :: o) = some s from h)
   have:=list_C (rv:=(rdE ty f).1 b) d.length (fun v t hv h=>i1 b v t h (by omega)) 16 d.length true d o (Nat.le_refl _) (Nat.le_refl _) ho
   show (listD ((rdE ty f).1 b) d.length true d).map (fun o=>91 :: o) = _
   rw [this];rfl
theorem dec_same {ty:List UInt8 → Option TD} (hT:TyOk ty) (n:Nat) (b d s:List UInt8):(decE ty n).1 b d = some s ↔ (rdE ty (d.length + 1)).1 b d = some s ∧ ∃ x,(encE wideC wideC ty n).1 b s = some (x,[]):=by
 constructor
 ·intro h
  refine ⟨(C_main n (d.length + 1)).1 b d s h (by omega),?_⟩
  obtain ⟨x,hx⟩:=(A_main hT n).1 b d s [] h (fun c l e=>by cases e)
  exact ⟨x,by simpa using hx⟩
 ·rintro ⟨h,x,hx⟩
  exact ((B_main hT n (d.length + 1)).1 b d s [] (x,[]) h (fun c l e=>by cases e) (by simpa using hx)).1
end Go.Proofs.YtopcgnjocklcoaaGreatDoor
