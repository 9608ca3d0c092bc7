/- Package courierref: whole64, integer. -/
import Derived.Test.YtdgcamlmjmnpeaaGreatDoorKEncText2
namespace Go.Proofs.YtdgcamlmjmnpeaaGreatDoor
open Go.RowKit
def In64 (n:Int):Prop:=-9223372036854775808 ≤ n ∧ n ≤ 9223372036854775807
theorem dec_head (u:Nat):∃ d r,Lib.decDigits u = UInt8.ofNat (48 + d) :: r ∧ d < 10:=by
 induction u using Nat.strongRecOn with
 | _ u ih =>
  rw [Lib.decDigits]
  by_cases h:u < 10
  ·rw [dif_pos h];exact ⟨u,[],rfl,h⟩
  ·rw [dif_neg h]
   obtain ⟨d,r,e,hd⟩:=ih (u / 10) (by omega)
   rw [e];exact ⟨d,_,rfl,hd⟩
theorem parse_in {t:List UInt8} {n:Int} (h:Lib.parseIntB 64 t = .ok n):In64 n:=by
 unfold Lib.parseIntB at h
 cases t with
 | nil=>cases h
 | cons c r =>
  simp only at h
  cases e:Lib.parseUintB 64 (if c.toNat = 43 ∨ c.toNat = 45 then r else c :: r) with
  | ok u =>
   rw [e] at h
   simp only at h
   split at h
   ·cases h
   ·split at h
    ·cases h
    ·rename_i g1 g2
     simp only [Lib.NumEnd.ok.injEq] at h
     subst h
     unfold In64
     by_cases hn:c.toNat = 45
     ·rw [if_pos hn]
      have:¬ (2 ^ (64 - 1) < u):=fun hh=>g2 ⟨hn,hh⟩
      omega
     ·rw [if_neg hn]
      have:¬ (2 ^ (64 - 1) ≤ u):=fun hh=>g1 ⟨hn,hh⟩
      omega
  | _=>rw [e] at h;cases h
end Go.Proofs.YtdgcamlmjmnpeaaGreatDoor
namespace Go.Proofs.YtdgcamlmjmnpeaaGreatDoor
open Go.RowKit
theorem below_grow (w:World) (n:Nat) (os:Array Obj):Below w.heap.size w (Sort.grow (w.drewN n) os) :=
 ⟨rfl,rfl,rfl,by simp [Sort.grow],fun k hk=>by
  have h1:=(below_drewN (Below.refl w.heap.size w) n).block k hk
  have h2:(w.drewN n).heap = w.heap:=rfl
  simp only [Sort.grow,h2]
  rw [Array.getElem?_append_left hk]⟩
theorem gTab:Tryz.prog.globalNamed "internal/strconv.uint64pow10" = some 0:=by kernel_rfl
structure Env (w:World):Prop where
 v:Vars w
 t:Lib.TabIs Tryz.prog w "internal/strconv.uint64pow10" .u64 Lib.pow10Tab
 lt:0 < w.heap.size
def Own (cb:Nat):Prop:=cb ≠ 1 ∧ cb ≠ 2 ∧ cb ≠ 0
theorem Env.but {w w':World} {cb:Nat} (h:Env w) (hb:But cb w w') (hc:Own cb):Env w':=by
 refine ⟨h.v.but hb hc.1 hc.2.1,?_,Nat.lt_of_lt_of_le h.lt hb.size⟩
 have:=h.t
 unfold Lib.TabIs World.var? at this ⊢
 rw [gTab] at this ⊢
 simp only [Option.bind_some] at this ⊢
 rw [hb.block _ h.lt (fun e=>hc.2.2 e.symm)]
 exact this
theorem Env.below {w w':World} (h:Env w) (hb:Below w.heap.size w w'):Env w':=by
 refine ⟨h.v.below hb,?_,Nat.lt_of_lt_of_le h.lt hb.size⟩
 have:=h.t
 unfold Lib.TabIs World.var? at this ⊢
 rw [gTab] at this ⊢
 simp only [Option.bind_some] at this ⊢
 rw [hb.block _ h.lt]
 exact this
theorem dec_len (u:Nat):u < 10 ^ (Lib.decDigits u).length ∧ 1 ≤ (Lib.decDigits u).length:=by
 induction u using Nat.strongRecOn with
 | _ u ih =>
  rw [Lib.decDigits]
  by_cases h:u < 10
  ·rw [dif_pos h];exact ⟨by simpa using h,by simp⟩
  ·rw [dif_neg h,List.length_append,List.length_singleton]
   have:=(ih (u / 10) (by omega)).1
   exact ⟨by rw [Nat.pow_succ];omega,by omega⟩
theorem pow_le (k:Nat):2 * 10 ^ (k + 1) ≤ 128 ^ (k + 1):=by
 induction k with
 | zero=>decide
 | succ k ih=>rw [Nat.pow_succ 10,Nat.pow_succ 128];omega
theorem vint_int {n:Int} (_h1:-9223372036854775808 ≤ n) (_h2:n ≤ 9223372036854775807):(vint (zigN n)).length ≤ (Lib.itoa n).length:=by
 have key:∀ (u z:Nat),z ≤ 2 * u → (vint z).length ≤ (Lib.decDigits u).length:=by
  intro u z hz
  obtain ⟨h1,h2⟩:=dec_len u
  obtain ⟨k,hk⟩:∃ k,(Lib.decDigits u).length = k + 1:=⟨(Lib.decDigits u).length - 1,by omega⟩
  rw [hk] at h1 ⊢
  have:=pow_le k
  exact vint_len k z (by omega)
 unfold Lib.itoa zigN
 by_cases hn:n < 0
 ·rw [if_pos hn,if_pos hn,List.length_cons]
  have:=key n.natAbs (-2 * n - 1).toNat (by omega)
  omega
 ·rw [if_neg hn,if_neg hn]
  exact key n.toNat (2 * n).toNat (by omega)
end Go.Proofs.YtdgcamlmjmnpeaaGreatDoor
namespace Go.Proofs.YtdgcamlmjmnpeaaGreatDoor
open Go.RowKit
def fdR (f:RField):FD:=⟨f.number.toNat,f.name.toList,if isW f.kind wOpt then 1 else if isW f.kind wList then 2 else 0,f.base.toList⟩
def tyR (Y:List IV) (base:List UInt8):Option TD:=match Y[(findI Y base).toNat]? with
 | none=>none
 | some y=>if findI Y base < 0 then none else if isW y.it.kind wMessage then some (.inr (y.it.fields.map fdR)) else some (.inl (y.it.names.map ByteArray.toList))
theorem bracketB:(ByteArray.mk #[91]).toList = [91]:=by rw [ByteArray.toList_eq]
theorem shutB:(ByteArray.mk #[93]).toList = [93]:=by rw [ByteArray.toList_eq]
theorem commaB:(ByteArray.mk #[44]).toList = [44]:=by rw [ByteArray.toList_eq]
theorem listGo_eq (val:List UInt8 → Got) (k:Nat) (f:Bool) (t:List UInt8):listGo val k f t = match eatP [93] t with
  | some r=>some ([],r)
  | none=>match k with
   | 0=>none
   | k + 1=>(if f then some t else eatP [44] t).bind fun t1=>(val t1).bind fun v=>(listGo val k false v.2).map fun o=>(vsized v.1 ++ o.1,o.2):=by
 conv=>lhs;unfold listGo
 rfl
theorem apt_new {w w':World} {lo:Nat} {v v2:Value} {L L2:List UInt8} (h:Bys w lo v L) (h2:Bys w' w.heap.size v2 L2):Apt v v2:=fun b h1 h3=>by
 have:=(h.lt b h1).2
 have:=(h2.lt b h3).1
 omega
theorem vsized_len {b:List UInt8} (h:b.length < 16384):(vsized b).length ≤ b.length + 2:=by
 unfold vsized
 have e:(128:Nat) ^ (1 + 1) = 16384:=by decide
 have:=vint_len 1 b.length (by rw [e];omega)
 rw [List.length_append];omega
end Go.Proofs.YtdgcamlmjmnpeaaGreatDoor
