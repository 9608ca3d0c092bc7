/- Encode and Decode at the schema of package courierkeep: what they answer, by reckoning (no walk). -/
import Derived.Test.YtdgcamlmjmnpeaaGreatDoorMKeepA
import Derived.Test.YtdgcamlmjmnpeaaGreatDoorMDecD
import Derived.Test.YtdgcamlmjmnpeaaGreatDoorKKeepChk
namespace Go.Proofs.YtdgcamlmjmnpeaaGreatDoor
theorem refK:RefAns schemaK 0 0:=by
 refine Or.inr ⟨szK,Or.inr ⟨ivK,goK,Or.inr ⟨fun j y hy=>?_,rfl,rfl⟩⟩⟩
 have hj:j < 7:=by have:=at_lt hy;rw [lenK] at this;exact this
 have h1:=List.all_eq_true.1 faultK j (List.mem_range.2 hj)
 rw [hy] at h1
 simpa using h1
theorem twinK {X:List PIV} (h:(parseP schemaK).1 = some (X.map (fun x=>x.it))):Twin X ivK:=by
 have hq:=parse_eq schemaK
 rw [h] at hq
 simp only at hq
 have:=goK
 rw [hq] at this
 unfold Twin
 simp only [Option.some.injEq] at this
 rw [← this,List.map_map];rfl
theorem notK {E0 P0:Int} (h:ProgAns schemaK E0 P0):E0 = 0:=(check_agree refK h).1.symm
theorem tyK {X:List PIV} (h:(parseP schemaK).1 = some (X.map (fun x=>x.it))):tyR ivK = tyP X:=ty_twin (twinK h) (facts_of h).shapes
theorem whole_some {x:Got} {p:List UInt8}:whole x = some p ↔ x = some (p,[]):=by
 unfold whole
 constructor
 ·intro h
  split at h
  ·simp only [Option.some.injEq] at h;rw [h]
  ·cases h
 ·intro h;rw [h]
theorem namesK {X:List PIV} (h:(parseP schemaK).1 = some (X.map (fun x=>x.it))):NamesOk (tyP X):=by
 have hS:Sound schemaK ivK:=Sound.of szK goK (fun j y hy=>by
  have hj:j < 7:=by have:=at_lt hy;rw [lenK] at this;exact this
  have h1:=List.all_eq_true.1 faultK j (List.mem_range.2 hj)
  rw [hy] at h1
  simpa using h1) goK (by rw [lenK];omega) sizesK
 rw [← tyK h]
 exact hS.names
theorem encK_iff {X:List PIV} (h:(parseP schemaK).1 = some (X.map (fun x=>x.it))) (base v p:List UInt8):(encP X 6).1 base v = some (p,[]) ↔ whole (encK base v) = some p:=by
 rw [whole_some]
 show _ ↔ (encE wideC wideC (tyR ivK) 6).1 base v = _
 rw [tyK h]
 exact enc_same (namesK h) 6 base v p
theorem encK_ok {base v:ByteArray} {E:Int} {b p:List UInt8} (h:PEncAns schemaK base v E b) (hb:typeB ivK base.toList = true) (hv:v.size ≤ 400) (hp:whole (encK base.toList v.toList) = some p) (hl:p.length ≤ 64):E = 0 ∧ b = p:=by
 rcases h with ⟨_,_,E0,P0,hA,hne⟩ | ⟨X,_,_,hX,h⟩
 ·exact absurd (notK hA) hne
 ·have hB:=typeB_has (twinK hX) base
  rcases h with ⟨_,_,hn⟩ | ⟨_,h⟩
  ·rw [← hB,hb] at hn;cases hn
  ·rcases h with ⟨h4,_⟩ | ⟨_,⟨hno,_⟩ | ⟨x,hx,h⟩⟩
   ·omega
   ·exact absurd ((encK_iff hX _ _ p).2 hp) (hno p)
   ·have e:=(encK_iff hX _ _ x).1 hx
    rw [hp] at e
    simp only [Option.some.injEq] at e
    subst e
    rcases h with ⟨h,_⟩ | ⟨_,e1,e2⟩
    ·omega
    ·exact ⟨e1,e2⟩
theorem encK_bad {base v:ByteArray} {E:Int} {b:List UInt8} (h:PEncAns schemaK base v E b) (hb:typeB ivK base.toList = true) (hv:v.size ≤ 400) (hp:whole (encK base.toList v.toList) = none):E = 5:=by
 rcases h with ⟨_,_,E0,P0,hA,hne⟩ | ⟨X,_,_,hX,h⟩
 ·exact absurd (notK hA) hne
 ·have hB:=typeB_has (twinK hX) base
  rcases h with ⟨_,_,hn⟩ | ⟨_,h⟩
  ·rw [← hB,hb] at hn;cases hn
  ·rcases h with ⟨h4,_⟩ | ⟨_,⟨_,e,_⟩ | ⟨x,hx,h⟩⟩
   ·omega
   ·exact e
   ·have e:=(encK_iff hX _ _ x).1 hx
    rw [hp] at e;cases e
theorem encK_type {base v:ByteArray} {E:Int} {b:List UInt8} (h:PEncAns schemaK base v E b) (hb:typeB ivK base.toList = false):E = 4:=by
 rcases h with ⟨_,_,E0,P0,hA,hne⟩ | ⟨X,_,_,hX,h⟩
 ·exact absurd (notK hA) hne
 ·have hB:=typeB_has (twinK hX) base
  rcases h with ⟨e,_⟩ | ⟨hn,_⟩
  ·exact e
  ·rw [← hB,hb] at hn;cases hn
theorem decK_ok {base:ByteArray} {d:List UInt8} {E:Int} {t u:List UInt8} (h:PDecAns schemaK base d E t) (hb:typeB ivK base.toList = true) (hd:d.length ≤ 64) (hu:decK base.toList d = some u) (hl:u.length ≤ 400):E = 0 ∧ t = u:=by
 rcases h with ⟨_,_,E0,P0,hA,hne⟩ | ⟨X,_,_,hX,h⟩
 ·exact absurd (notK hA) hne
 ·have hB:=typeB_has (twinK hX) base
  have hu':(decP X 6).1 base.toList d = some u:=by
   show (decE (tyP X) 6).1 base.toList d = some u
   rw [← tyK hX];exact hu
  rcases h with ⟨_,_,hn⟩ | ⟨_,h⟩
  ·rw [← hB,hb] at hn;cases hn
  ·rcases h with ⟨_,_,h | h⟩ | ⟨e,_,h,_⟩
   ·omega
   ·have:=h u hu';omega
   ·rw [hu'] at h
    simp only [Option.some.injEq] at h
    exact ⟨e,h.symm⟩
theorem decK_bad {base:ByteArray} {d:List UInt8} {E:Int} {t:List UInt8} (h:PDecAns schemaK base d E t) (hb:typeB ivK base.toList = true) (hu:decK base.toList d = none):E = 6:=by
 rcases h with ⟨_,_,E0,P0,hA,hne⟩ | ⟨X,_,_,hX,h⟩
 ·exact absurd (notK hA) hne
 ·have hB:=typeB_has (twinK hX) base
  have hu':(decP X 6).1 base.toList d = none:=by
   show (decE (tyP X) 6).1 base.toList d = none
   rw [← tyK hX];exact hu
  rcases h with ⟨_,_,hn⟩ | ⟨_,h⟩
  ·rw [← hB,hb] at hn;cases hn
  ·rcases h with ⟨e,_⟩ | ⟨_,_,h,_⟩
   ·exact e
   ·rw [hu'] at h;cases h
end Go.Proofs.YtdgcamlmjmnpeaaGreatDoor
namespace Go.Proofs.YtdgcamlmjmnpeaaGreatDoor
def fsPt:List FD:=[⟨1,[120],0,wInt⟩,⟨2,[121],0,wInt⟩,⟨5,[116,97,103],1,wText⟩,⟨7,[109,111,114,101],2,wPoint⟩]
theorem tyPt:tyR ivK wPoint = some (.inr fsPt):=by kernel_rfl
theorem dec_six (ty:List UInt8 → Option TD) (base d:List UInt8):(decE ty 6).1 base d = valD ty (msgD (decE ty 5).1 (decE ty 5).2) base d:=rfl
theorem val_msg {ty:List UInt8 → Option TD} {msg:List FD → List UInt8 → Txt} {base d:List UInt8} {fs:List FD} (h1:¬ base = wInt) (h2:¬ base = wBool) (h3:¬ base = wText) (h4:ty base = some (.inr fs)):valD ty msg base d = msg fs d:=by
 unfold valD
 rw [if_neg h1,if_neg h2,if_neg h3,h4]
theorem decK_pt (d:List UInt8):decK wPoint d = msgD (decE (tyR ivK) 5).1 (decE (tyR ivK) 5).2 fsPt d:=by
 unfold decK
 rw [dec_six,val_msg (by decide) (by decide) (by decide) tyPt]
theorem more_len (n:Nat):(moreK n).length ≤ 9:=by unfold moreK;split <;> simp
def freeK (w:Nat):Nat:=if w = 1 then 3 else if w = 2 then 6 else 99
theorem psK_rises (n:Nat) (hn:n ≤ 1000):Rises 0 (psK n):=by
 have h1:=vint_len10 (2 * n) (by omega)
 have h2:=more_len n
 refine ⟨by simp [psK],fun p hp=>?_⟩
 simp only [psK,List.mem_cons,List.not_mem_nil,or_false] at hp
 rcases hp with rfl | rfl | rfl | rfl <;> simp <;> omega
theorem psK_more (n:Nat) (hn:n ≤ 1000) (w:Nat) (hw:w = 1 ∨ w = 2 ∨ w = 3) (u:List UInt8) (hu:u.length ≤ 10):Rises 0 ((psK n).take (w + 1) ++ (freeK w,u) :: (psK n).drop (w + 1)):=by
 have h1:=vint_len10 (2 * n) (by omega)
 have h2:=more_len n
 rcases hw with rfl | rfl | rfl
 all_goals
  refine ⟨by simp [psK,freeK],fun p hp=>?_⟩
  simp only [psK,List.take_succ_cons,List.take_zero,List.drop_succ_cons,List.drop_zero,List.cons_append,List.nil_append,List.mem_cons,List.not_mem_nil,or_false] at hp
  rcases hp with rfl | rfl | rfl | rfl | rfl <;> simp [freeK] <;> omega
theorem partB_app (a b:List (Nat × List UInt8)):partB (a ++ b) = partB a ++ partB b:=by simp [partB]
theorem partB_cons (m:Nat) (u:List UInt8) (b:List (Nat × List UInt8)):partB ((m,u) :: b) = vint m ++ vsized u ++ partB b:=by simp [partB]
theorem pass_ok {k:Nat} (hk:k < 100) (w:Nat) (hw:w = 1 ∨ w = 2 ∨ w = 3) (u:List UInt8) (hu:u.length ≤ 10):decK wPoint (partB ((psK (2 * k)).take (w + 1)) ++ (vint (freeK w) ++ vsized u) ++ partB ((psK (2 * k)).drop (w + 1))) = some (valPt (2 * k)):=by
 have hc:=List.all_eq_true.1 chkP k (List.mem_range.2 hk)
 unfold okPass at hc
 simp only [Bool.and_eq_true,beq_iff_eq] at hc
 have h1:decK wPoint (partB (psK (2 * k))) = some (valPt (2 * k)):=hc.1.1.2
 have e:partB ((psK (2 * k)).take (w + 1)) ++ (vint (freeK w) ++ vsized u) ++ partB ((psK (2 * k)).drop (w + 1)) = partB ((psK (2 * k)).take (w + 1) ++ (freeK w,u) :: (psK (2 * k)).drop (w + 1)):=by
  rw [partB_app,partB_cons];simp
 rw [e,decK_pt,msgD_extra _ _ fsPt (by rw [List.take_append_drop];exact psK_rises _ (by omega)) (psK_more _ (by omega) w hw u hu) (by
  intro f hf
  rcases hw with rfl | rfl | rfl <;> (simp only [fsPt,List.mem_cons,List.not_mem_nil,or_false] at hf;rcases hf with rfl | rfl | rfl | rfl <;> simp [freeK])),List.take_append_drop,← decK_pt]
 exact h1
theorem pass_bad {k:Nat} (hk:k < 100) (w:Nat) (hw:w = 1 ∨ w = 2 ∨ w = 3) (r:List UInt8):decK wPoint (partB ((psK (2 * k)).take (w + 1)) ++ (vint 2 ++ r)) = none:=by
 rw [decK_pt]
 unfold msgD
 have hr:Rises 0 ((psK (2 * k)).take (w + 1)):=by
  have h0:=psK_rises (2 * k) (by omega)
  refine ⟨?_,fun p hp=>h0.le p (List.mem_of_mem_take hp)⟩
  have:=h0.up
  rw [List.map_take]
  exact this.sublist (List.Sublist.cons_cons _ (List.take_sublist _ _))
 rw [partsD_fall hr (by rcases hw with rfl | rfl | rfl <;> simp [psK,lastP]) (by omega)]
 rfl
end Go.Proofs.YtdgcamlmjmnpeaaGreatDoor
