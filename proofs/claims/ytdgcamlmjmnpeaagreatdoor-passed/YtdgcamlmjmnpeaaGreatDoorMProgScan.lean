/- The numbers of package schemas: numberOf, kindOfRun, kindOfMark and the bytes' kinds. -/
import Derived.Test.YtdgcamlmjmnpeaaGreatDoorMKept
import Derived.Lib.AtoiAll
import Derived.Lib.SmallJoins
import Derived.Deep.RegionWith
namespace Go.Proofs.YtdgcamlmjmnpeaaGreatDoor
open Go.RowKit
theorem pu_ge:∀ (l:List UInt8) (acc u:Nat),Lib.parseUint10 acc l = .ok u → acc ≤ u
 | [],acc,u,h=>by simp only [Lib.parseUint10] at h;injection h with h;omega
 | c :: r,acc,u,h=>by
  simp only [Lib.parseUint10] at h
  split at h
  ·split at h
   ·cases h
   ·split at h
    ·cases h
    ·have:=pu_ge r _ u h;omega
  ·cases h
theorem pu_step {c:UInt8} {r:List UInt8} {acc u:Nat} (h:Lib.parseUint10 acc (c :: r) = .ok u):48 ≤ c.toNat ∧ c.toNat ≤ 57 ∧ Lib.parseUint10 (acc * 10 + (c.toNat - 48)) r = .ok u:=by
 simp only [Lib.parseUint10] at h
 split at h
 ·rename_i hc
  split at h
  ·cases h
  ·split at h
   ·cases h
   ·exact ⟨hc.1,hc.2,h⟩
 ·cases h
theorem u8_eq (c:UInt8) (n:Nat) (h:c.toNat = n):c = UInt8.ofNat n:=by
 subst h;simp
theorem atoiAll_num:∀ k,k < 100 → 1 ≤ k → Lib.atoiAll (dec2 k) = .ok (k:Int) ∧ (dec2 k).head? ≠ some 48:=by decide
theorem num_iff {c:UInt8} {r:List UInt8} (hc:c.toNat ≠ 43 ∧ c.toNat ≠ 45) {v:Int} (h:Lib.atoiAll (c :: r) = .ok v):((c.toNat ≠ 48 ∧ v ≤ 99) ↔ numB (c :: r) = true) ∧ (numB (c :: r) = true → v = numI (c :: r)):=by
 have h':=h
 unfold Lib.atoiAll at h'
 simp only [hc.1,hc.2,or_self,if_false,Lib.parseMag,reduceCtorEq] at h'
 have key:c.toNat ≠ 48 → v ≤ 99 → ∃ k,1 ≤ k ∧ k ≤ 99 ∧ c :: r = dec2 k:=by
  intro hz hv
  rcases hp:Lib.parseUint10 0 (c :: r) with u | _ | _
  rotate_left
  ·rw [hp] at h';simp at h'
  ·rw [hp] at h';simp at h'
  ·rw [hp] at h'
   have hu:(u:Int) = v:=by
    simp only [not_false_eq_true,true_and,false_and,if_false] at h'
    split at h'
    ·cases h'
    ·injection h'
   obtain ⟨h1,h2,h3⟩:=pu_step hp
   cases r with
   | nil =>
    simp only [Lib.parseUint10] at h3;injection h3 with h3
    exact ⟨u,by omega,by omega,by unfold dec2;rw [if_pos (by omega)];rw [u8_eq c (48 + u) (by omega)]⟩
   | cons d r' =>
    obtain ⟨h4,h5,h6⟩:=pu_step h3
    cases r' with
    | nil =>
     simp only [Lib.parseUint10] at h6;injection h6 with h6
     refine ⟨u,by omega,by omega,?_⟩
     unfold dec2;rw [if_neg (by omega),u8_eq c (48 + u / 10) (by omega),u8_eq d (48 + u % 10) (by omega)]
    | cons e r'' =>
     obtain ⟨h7,h8,h9⟩:=pu_step h6
     have:=pu_ge _ _ _ h9
     omega
 refine ⟨⟨fun ⟨a,b⟩=>?_,fun hn=>?_⟩,fun hn=>?_⟩
 ·obtain ⟨k,h1,h2,h3⟩:=key a b
  exact numB_hit h1 h2 (by rw [h3,dec2_eq k (by omega)])
 ·obtain ⟨k,h1,h2,h3⟩:=numB_cases hn
  have hk:=atoiAll_num k (by omega) h1
  rw [← h3,h] at hk
  have h4:=hk.1;injection h4 with h4
  refine ⟨?_,by omega⟩
  intro h48
  exact hk.2 (by simp;exact UInt8.toNat_inj.1 (by simpa using h48))
 ·obtain ⟨k,h1,h2,h3⟩:=numB_cases hn
  have hk:=atoiAll_num k (by omega) h1
  rw [← h3,h] at hk
  have h4:=hk.1;injection h4 with h4
  have ha:=(atoi_dec2 k (by omega)).1
  rw [numI,h3,ha];simpa using h4
theorem num_bad {l:List UInt8} (h:∀ v,Lib.atoiAll l ≠ .ok v):numB l = false:=by
 cases hn:numB l with
 | false=>rfl
 | true =>
  obtain ⟨k,h1,h2,h3⟩:=numB_cases hn
  exact absurd (by rw [h3];exact (atoiAll_num k (by omega) h1).1) (h k)
end Go.Proofs.YtdgcamlmjmnpeaaGreatDoor
namespace Go.Proofs.YtdgcamlmjmnpeaaGreatDoor
open Go.RowKit
structure Vars (w:World):Prop where
 sx:∃ te pe,w.cell? ⟨1,0,none⟩ = some (.iface te pe)
 rg:∃ te pe,w.cell? ⟨2,0,none⟩ = some (.iface te pe)
 lt1:1 < w.heap.size
 lt2:2 < w.heap.size
theorem Vars.below {w w':World} (h:Vars w) (hb:Below w.heap.size w w'):Vars w':=by
 obtain ⟨te,pe,h1⟩:=h.sx
 obtain ⟨tf,pf,h2⟩:=h.rg
 have l1:=h.lt1
 have l2:=h.lt2
 exact ⟨⟨te,pe,by rw [hb.cell l1];exact h1⟩,⟨tf,pf,by rw [hb.cell l2];exact h2⟩,Nat.lt_of_lt_of_le l1 hb.size,Nat.lt_of_lt_of_le l2 hb.size⟩
set_option maxHeartbeats 400000 in
theorem isLetter_any (c:Int) (w:World) :
  Calls Tryz.prog 127 #[.int .u8 c] w fun e w'=>e = .returned (.bool (smallB c)) ∧ w' = w:=by
 go_enter Tryz.func127,Tryz.ntmps127
 go_wp2
 ·have h:97 ≤ c:=by assumption
  go_ret
  exact ⟨ret_bool (by simp [smallB,h]),rfl⟩
 ·have h:c < 97:=by assumption
  go_ret
  exact ⟨ret_bool (by simp [smallB];omega),rfl⟩
set_option maxHeartbeats 400000 in
theorem pIsDigit_any (c:Int) (w:World) :
  Calls Tryz.prog 128 #[.int .u8 c] w fun e w'=>e = .returned (.bool (digitB c)) ∧ w' = w:=by
 go_enter Tryz.func128,Tryz.ntmps128
 go_wp2
 ·have h:48 ≤ c:=by assumption
  go_ret
  exact ⟨ret_bool (by simp [digitB,h]),rfl⟩
 ·have h:c < 48:=by assumption
  go_ret
  exact ⟨ret_bool (by simp [digitB];omega),rfl⟩
def blankB (c:Int):Bool:=c == 32 || c == 10
set_option maxHeartbeats 400000 in
theorem isBlank_any (c:Int) (w:World) :
  Calls Tryz.prog 126 #[.int .u8 c] w fun e w'=>e = .returned (.bool (blankB c)) ∧ w' = w:=by
 go_enter Tryz.func126,Tryz.ntmps126
 cases h1:(c == 32)
 all_goals
  go_wp2
  go_ret
  exact ⟨ret_bool (by simp [blankB,h1]),rfl⟩
def markK (c:Int):Nat:=if c = 123 then 4 else if c = 125 then 5 else 1
set_option maxHeartbeats 400000 in
theorem kindOfMark_any (c:Int) (w:World) :
  Calls Tryz.prog 129 #[.int .u8 c] w fun e w'=>e = .returned (.int .i64 (markK c:Nat)) ∧ w' = w:=by
 go_enter Tryz.func129,Tryz.ntmps129
 by_cases h1:c = 123
 ·have hb:(c == 123) = true:=by simp [h1]
  have HM:=hid (show markK c = 4 by simp [markK,h1])
  clear h1
  go_wp2
  go_ret
  exact ⟨by rw [HM.out];rfl,rfl⟩
 ·have hb:(c == 123) = false:=by simp [h1]
  by_cases h2:c = 125
  ·have hb2:(c == 125) = true:=by simp [h2]
   have HM:=hid (show markK c = 5 by simp [markK,h2])
   clear h1 h2
   go_wp2
   go_ret
   exact ⟨by rw [HM.out];rfl,rfl⟩
  ·have hb2:(c == 125) = false:=by simp [h2]
   have HM:=hid (show markK c = 1 by simp [markK,h1,h2])
   clear h1 h2
   go_wp2
   go_ret
   exact ⟨by rw [HM.out];rfl,rfl⟩
theorem first_of (s:ByteArray) (h:0 < s.size):∃ r,s.toList = s[0] :: r:=by
 obtain ⟨⟨l⟩⟩:=s
 rw [ByteArray.toList_eq]
 cases l with
 | nil=>simp [ByteArray.size] at h
 | cons c r=>exact ⟨r,rfl⟩
set_option maxRecDepth 100000 in
set_option maxHeartbeats 1000000 in
theorem numberOf_any (run:ByteArray) (w:World) (hv:Vars w) (h0:0 < run.size) (hs:run.size ≤ 400) (hc:(run[0]'h0).toNat ≠ 43 ∧ (run[0]'h0).toNat ≠ 45) :
  Calls Tryz.prog 169 #[.string run] w fun e w'=>∃ n:Int,e = .returned (.tuple #[.int .i64 n,.bool (numB run.toList)]) ∧ (numB run.toList = true → n = numI run.toList) ∧ Below w.heap.size w w':=by
 obtain ⟨r,hr⟩:=first_of run h0
 rcases hA:Lib.atoiAll run.data.toList with v | _ | _
 ·have hN:=num_iff hc (r:=r) (v:=v) (by rw [← hr,ByteArray.toList_eq];exact hA)
  rw [← hr] at hN
  have HN:=hid hN
  have HC:=hid hc
  clear hN hr hc
  generalize numB run.toList = nb at *
  go_enter Tryz.func169,Tryz.ntmps169
  go_wp2_with fail
  refine (Tryz.strconv_Atoi_ok run (by omega) v hA _).mono ?_;rintro e w1 ⟨rfl,hw1⟩
  have hb1:Below w.heap.size w w1:=by
   rcases hw1 with rfl | ⟨bt,rfl⟩
   ·exact Below.refl _ _
   ·exact Joins.below_bytesWorld _ _ _ _ (Nat.le_refl _)
  clear hw1 hA
  go_wp2_with fail
  ·have h:((run[0]'h0).toNat:Int) = 48:=by assumption
   have hnb:nb = false:=by
    cases nb with
    | false=>rfl
    | true=>exact absurd (by omega) (HN.out.1.2 rfl).1
   subst hnb
   go_ret2
   exact ⟨v,rfl,HN.out.2,hb1⟩
  ·have h:¬ ((run[0]'h0).toNat:Int) = 48:=by assumption
   have hne:(((run[0]'h0).toNat:Int) != 48) = true:=by simp;omega
   have hnb:nb = ((((run[0]'h0).toNat:Int) != 48) && decide (v ≤ 99)):=by
    rw [hne,Bool.true_and]
    by_cases hv9:v ≤ 99
    ·rw [HN.out.1.1 ⟨by omega,hv9⟩];simp [hv9]
    ·cases nb with
     | false=>simp [hv9]
     | true=>exact absurd (HN.out.1.2 rfl).2 hv9
   subst hnb
   go_ret2
   exact ⟨v,rfl,HN.out.2,hb1⟩
 ·have HN:=hid (num_bad (l:=run.toList) (fun v hh=>by rw [ByteArray.toList_eq,hA] at hh;cases hh))
  obtain ⟨te,pe,hsx⟩:=hv.sx
  go_enter Tryz.func169,Tryz.ntmps169
  go_wp2_with fail
  refine (Tryz.strconv_Atoi_no run (by omega) ⟨fun v hh => (by rw [hA] at hh; cases hh),fun hh => (by rw [hA] at hh; cases hh)⟩ _ _ hsx (Or.inr ⟨te,pe,rfl⟩)).mono ?_;rintro e w1 ⟨N,rfl,_,_,hb1⟩
  clear hA
  go_wp2_with fail
  go_ret2
  exact ⟨_,by rw [HN.out];rfl,fun hh=>(by rw [HN.out] at hh;cases hh),hb1⟩
 ·have HN:=hid (num_bad (l:=run.toList) (fun v hh=>by rw [ByteArray.toList_eq,hA] at hh;cases hh))
  obtain ⟨te,pe,hrg⟩:=hv.rg
  go_enter Tryz.func169,Tryz.ntmps169
  go_wp2_with fail
  refine (Tryz.strconv_Atoi_range run (by omega) hA _ _ hrg (Or.inr ⟨te,pe,rfl⟩)).mono ?_;rintro e w1 ⟨N,rfl,_,_,hb1⟩
  clear hA
  go_wp2_with fail
  go_ret2
  exact ⟨_,by rw [HN.out];rfl,fun hh=>(by rw [HN.out] at hh;cases hh),hb1⟩
def runK (l:List UInt8):Nat:=if nameB l = true then 2 else if numB l = true then 3 else 1
set_option maxRecDepth 100000 in
set_option maxHeartbeats 1000000 in
theorem kindOfRun_any (run:ByteArray) (w:World) (hv:Vars w) (h0:0 < run.size) (hs:run.size ≤ 400) (hc:(run[0]'h0).toNat ≠ 43 ∧ (run[0]'h0).toNat ≠ 45) :
  Calls Tryz.prog 130 #[.string run] w fun e w'=>e = .returned (.int .i64 (runK run.toList:Nat)) ∧ Below w.heap.size w w':=by
 have hn:=nameB_at run h0
 have HV:=hid hv
 have HC:=hid hc
 clear hv hc
 cases hsm:smallB ((run[0]'h0).toNat:Int) with
 | true =>
  by_cases h12:(run.size:Int) ≤ 12
  ·have HK:=hid (show runK run.toList = 2 by unfold runK;rw [hn,hsm];simp [h12])
   clear hn
   go_enter Tryz.func130,Tryz.ntmps130
   go_wp2_with fail
   refine (isLetter_any _ _).mono ?_;rintro e w1 ⟨rfl,rfl⟩;rw [hsm]
   go_wp2_with fail
   go_ret
   exact ⟨by rw [HK.out];rfl,Below.refl _ _⟩
  ·have HNM:=hid (show nameB run.toList = false by rw [hn,hsm];simp [h12])
   clear hn
   go_enter Tryz.func130,Tryz.ntmps130
   go_wp2_with fail
   refine (isLetter_any _ _).mono ?_;rintro e w1 ⟨rfl,rfl⟩;rw [hsm]
   go_wp2_with fail
   refine (numberOf_any run _ HV.out h0 hs HC.out).mono ?_;rintro e w2 ⟨n,rfl,_,hb2⟩
   cases hnb:numB run.toList with
   | true =>
    have HK:=hid (show runK run.toList = 3 by unfold runK;rw [HNM.out,hnb];rfl)
    go_wp2_with fail
    go_ret
    exact ⟨by rw [HK.out];rfl,hb2⟩
   | false =>
    have HK:=hid (show runK run.toList = 1 by unfold runK;rw [HNM.out,hnb];rfl)
    go_wp2_with fail
    go_ret
    exact ⟨by rw [HK.out];rfl,hb2⟩
 | false =>
  have HNM:=hid (show nameB run.toList = false by rw [hn,hsm];rfl)
  clear hn
  go_enter Tryz.func130,Tryz.ntmps130
  go_wp2_with fail
  refine (isLetter_any _ _).mono ?_;rintro e w1 ⟨rfl,rfl⟩;rw [hsm]
  go_wp2_with fail
  refine (numberOf_any run _ HV.out h0 hs HC.out).mono ?_;rintro e w2 ⟨n,rfl,_,hb2⟩
  cases hnb:numB run.toList with
  | true =>
   have HK:=hid (show runK run.toList = 3 by unfold runK;rw [HNM.out,hnb];rfl)
   go_wp2_with fail
   go_ret
   exact ⟨by rw [HK.out];rfl,hb2⟩
  | false =>
   have HK:=hid (show runK run.toList = 1 by unfold runK;rw [HNM.out,hnb];rfl)
   go_wp2_with fail
   go_ret
   exact ⟨by rw [HK.out];rfl,hb2⟩
end Go.Proofs.YtdgcamlmjmnpeaaGreatDoor
namespace Go.Proofs.YtdgcamlmjmnpeaaGreatDoor
open Go.RowKit
structure PTok where
 kind:Nat
 text:ByteArray
 at_:Nat
def blankEnd (s:ByteArray):Nat → Nat → Nat
 | 0,i=>i
 | f + 1,i=>if i < s.size ∧ blankB (B s i) = true then blankEnd s f (i + 1) else i
def bEnd (s:ByteArray) (i:Nat):Nat:=blankEnd s s.size i
theorem blankEnd_fuel (s:ByteArray):∀ f g i,s.size ≤ f + i → s.size ≤ g + i → blankEnd s f i = blankEnd s g i
 | 0,g,i,h1,h2=>by
  cases g with
  | zero=>rfl
  | succ g=>unfold blankEnd;rw [if_neg (by omega)]
 | f + 1,0,i,h1,h2=>by unfold blankEnd;rw [if_neg (by omega)]
 | f + 1,g + 1,i,h1,h2=>by
  unfold blankEnd;split
  ·exact blankEnd_fuel s f g (i + 1) (by omega) (by omega)
  ·rfl
theorem bEnd_step (s:ByteArray) (i:Nat) (h:i < s.size) (hr:blankB (B s i) = true):bEnd s i = bEnd s (i + 1):=by
 unfold bEnd
 rw [blankEnd_fuel s s.size (s.size + 1) i (by omega) (by omega)]
 conv=>lhs;unfold blankEnd
 rw [if_pos ⟨h,hr⟩]
theorem bEnd_stop (s:ByteArray) (i:Nat) (h:¬ (i < s.size ∧ blankB (B s i) = true)):bEnd s i = i:=by
 unfold bEnd
 cases hs:s.size with
 | zero=>rfl
 | succ n=>unfold blankEnd;rw [if_neg h]
theorem bEnd_le (s:ByteArray) (i:Nat) (h:i ≤ s.size):bEnd s i ≤ s.size:=by
 unfold bEnd
 have:∀ f i,i ≤ s.size → blankEnd s f i ≤ s.size:=by
  intro f
  induction f with
  | zero=>intro i h;exact h
  | succ f ih =>
   intro i h;unfold blankEnd;split
   ·rename_i hh;exact ih (i + 1) hh.1
   ·exact h
 exact this _ _ h
def scanAt (s:ByteArray) (k:Nat):PTok :=
 if k = s.size then ⟨0,⟨#[]⟩,k⟩
 else if runEnd s s.size k = k then ⟨markK (B s k),s.extract k (k + 1),k⟩
 else ⟨runK (s.extract k (runEnd s s.size k)).toList,s.extract k (runEnd s s.size k),k⟩
def scanP (s:ByteArray) (i:Nat):PTok:=scanAt s (bEnd s i)
theorem run_first (s:ByteArray) (k j:Nat) (hk:k < j) (hj:j ≤ s.size):∃ h0:0 < (s.extract k j).size,(s.extract k j)[0] = s[k]'(by omega):=by
 have hz:(s.extract k j).size = j - k:=by simp [ByteArray.size_extract];omega
 exact ⟨by omega,by simp [ByteArray.getElem_extract]⟩
theorem run_char (s:ByteArray) (k j:Nat) (hk:k < s.size) (h:runEnd s s.size k = j) (hkj:k < j):(s[k]'hk).toNat ≠ 43 ∧ (s[k]'hk).toNat ≠ 45:=by
 have hr:runB (B s k) = true:=by
  cases hr:runB (B s k) with
  | true=>rfl
  | false=>have:=runEnd_stop s k (by simp [hr]);omega
 have hb:=B_at s k hk
 rw [← hb] at hr
 simp [runB,smallB,digitB] at hr
 omega
theorem pwrap_small (n:Int) (h1:0 ≤ n) (h2:n ≤ 1000000):IntKind.i64.wrap n = n:=by rw [IntKind.wrap_i64];omega
theorem tok_store {w0:World} {b:Nat} {T:TypeId} {c0 c1 c2:Value} (d0 d1 d2:Value) (h:Seg w0 b T 0 [c0,c1,c2]) :
  (((w0.setCell ⟨b,0,none⟩ d0).setCell ⟨b,1,none⟩ d1).setCell ⟨b,2,none⟩ d2).cell? ⟨b,0,none⟩ = some d0 ∧
  (((w0.setCell ⟨b,0,none⟩ d0).setCell ⟨b,1,none⟩ d1).setCell ⟨b,2,none⟩ d2).cell? ⟨b,1,none⟩ = some d1 ∧
  (((w0.setCell ⟨b,0,none⟩ d0).setCell ⟨b,1,none⟩ d1).setCell ⟨b,2,none⟩ d2).cell? ⟨b,2,none⟩ = some d2:=by
 have h3:=((h.set 0 d0).set 1 d1).set 2 d2
 simp only [Nat.zero_add] at h3
 have e0:=h3.cell (j:=0) (v:=d0) rfl
 have e1:=h3.cell (j:=1) (v:=d1) rfl
 have e2:=h3.cell (j:=2) (v:=d2) rfl
 simp only [Nat.zero_add] at e0 e1 e2
 exact ⟨e0,e1,e2⟩
theorem below_store3 {w w0:World} {b:Nat} (d0 d1 d2:Value) (h:Below b w w0):Below b w (((w0.setCell ⟨b,0,none⟩ d0).setCell ⟨b,1,none⟩ d1).setCell ⟨b,2,none⟩ d2) :=
 ((h.setCell (p:=⟨b,0,none⟩) (Nat.le_refl _) d0).setCell (p:=⟨b,1,none⟩) (Nat.le_refl _) d1).setCell (p:=⟨b,2,none⟩) (Nat.le_refl _) d2
set_option maxRecDepth 100000 in
set_option maxHeartbeats 4000000 in
theorem scan_any (s:ByteArray) (i:Nat) (w:World) (hv:Vars w) (hs:s.size ≤ 400) (hi:i ≤ s.size) :
  Calls Tryz.prog 73 #[.string s,.int .i64 i] w fun e w'=>e = .returned (.agg #[.int .i64 (scanP s i).kind,.string (scanP s i).text,.int .i64 (scanP s i).at_]) ∧ Below w.heap.size w w':=by
 have HV:=hid hv
 clear hv
 generalize hR:scanP s i = R
 have HR:=hid hR
 clear hR
 go_enter Tryz.func73,Tryz.ntmps73
 go_wp2_with fail
 have hb0:Below w.heap.size w (w.alloc (.cells #[.int .i64 0,.string ⟨#[]⟩,.int .i64 0] 89)):=(Below.refl _ _).alloc (Nat.le_refl _) _
 have hsg:Seg (w.alloc (.cells #[.int .i64 0,.string ⟨#[]⟩,.int .i64 0] 89)) w.heap.size 89 0 [.int .i64 0,.string ⟨#[]⟩,.int .i64 0]:=⟨_,heap_alloc_new w _,by simp,by simp⟩
 generalize hw0:w.alloc (.cells #[.int .i64 0,.string ⟨#[]⟩,.int .i64 0] 89) = w0 at *
 clear hw0
 have r0:=hsg.cell (j:=0) rfl
 have r1:=hsg.cell (j:=1) rfl
 have r2:=hsg.cell (j:=2) rfl
 have rf:∀ j,w0.frozen? ⟨w.heap.size,j,none⟩ = false:=fun j=>hsg.frozen j
 simp only [Nat.zero_add] at r0 r1 r2
 have HSG:=hid hsg
 clear hsg
 go_loopg [5] (s.size - i) (fun gk a wr=>∃ k:Nat,k + gk = s.size ∧ a = .int .i64 k ∧ Hid (scanAt s (bEnd s k) = R) ∧ wr = w0)
 case atStart=>exact ⟨i,by omega,rfl,hid HR.out,rfl⟩
 case round =>
  obtain ⟨k,hk,rfl,HK,rfl⟩:=hrel
  by_cases hlt:k < s.size
  ·have HB:=hid (B_at s k hlt)
   cases hbl:blankB (B s k) with
   | true =>
    have HK2:=hid (show scanAt s (bEnd s (k + 1)) = R by rw [← bEnd_step s k hlt hbl];exact HK.out)
    go_wp2_with fail
    refine (isBlank_any _ _).mono ?_;rintro e w1 ⟨rfl,rfl⟩;rw [HB.out,hbl]
    go_wp2_with fail
    go_roundg (gk - 1)
    case rel=>exact ⟨k + 1,by omega,by go_num,HK2,rfl⟩
    case measure=>omega
   | false =>
    have HK2:=hid (show scanAt s k = R by rw [← HK.out,bEnd_stop s k (by simp [hbl])])
    have hne:((k:Int) == (s.size:Int)) = false:=by simp;omega
    go_wp2_with fail
    refine (isBlank_any _ _).mono ?_;rintro e w1 ⟨rfl,rfl⟩;rw [HB.out,hbl]
    go_wp2_with fail
    go_loopg [6] (s.size - k) (fun gk e wr=>∃ j:Nat,k ≤ j ∧ j + gk = s.size ∧ e = .int .i64 j ∧ Hid (runEnd s s.size k = runEnd s s.size j) ∧ wr = w1)
    case atStart=>exact ⟨k,Nat.le_refl _,by omega,rfl,hid rfl,rfl⟩
    case round =>
     obtain ⟨j,hkj,hj,rfl,HE,rfl⟩:=hrel
     by_cases hjl:j < s.size
     ·have HBJ:=hid (B_at s j hjl)
      cases hsm:smallB (B s j) with
      | true =>
       have HE2:=hid (HE.out.trans (runEnd_step s j hjl (by simp [runB,hsm])))
       go_wp2_with fail
       refine (isLetter_any _ _).mono ?_;rintro e w2 ⟨rfl,rfl⟩;rw [HBJ.out,hsm]
       go_wp2_with fail
       go_roundg (gk - 1)
       case rel=>exact ⟨j + 1,by omega,by omega,by go_num,HE2,rfl⟩
       case measure=>omega
      | false =>
       cases hdg:digitB (B s j) with
       | true =>
        have HE2:=hid (HE.out.trans (runEnd_step s j hjl (by simp [runB,hdg])))
        go_wp2_with fail
        refine (isLetter_any _ _).mono ?_;rintro e w2 ⟨rfl,rfl⟩;rw [HBJ.out,hsm]
        go_wp2_with fail
        refine (pIsDigit_any _ _).mono ?_;rintro e w3 ⟨rfl,rfl⟩;rw [HBJ.out,hdg]
        go_wp2_with fail
        go_roundg (gk - 1)
        case rel=>exact ⟨j + 1,by omega,by omega,by go_num,HE2,rfl⟩
        case measure=>omega
       | false =>
        have HE2:=hid (HE.out.trans (runEnd_stop s j (by simp [runB,hsm,hdg])))
        go_wp2_with fail
        refine (isLetter_any _ _).mono ?_;rintro e w2 ⟨rfl,rfl⟩;rw [HBJ.out,hsm]
        go_wp2_with fail
        refine (pIsDigit_any _ _).mono ?_;rintro e w3 ⟨rfl,rfl⟩;rw [HBJ.out,hdg]
        by_cases hje:j = k
        ·subst hje
         have HF:=hid (show R = ⟨markK (B s j),s.extract j (j + 1),j⟩ by rw [← HK2.out];unfold scanAt;rw [if_neg (by omega),if_pos HE2.out])
         have heq:((j:Int) == (j:Int)) = true:=by simp
         have b1:(0:Int) ≤ (j:Int) + 1:=by omega
         have b2:(j:Int) + 1 ≤ (s.size:Int):=by omega
         have b3:(j:Int) ≤ (j:Int) + 1:=by omega
         have hwrp:IntKind.i64.wrap ((j:Int) + 1) = (j:Int) + 1:=pwrap_small _ (by omega) (by omega)
         obtain ⟨z0,z1,z2⟩:=tok_store (.int .i64 (markK (B s j):Nat)) (.string (s.extract j (j + 1))) (.int .i64 (j:Nat)) HSG.out
         go_wp2_with fail
         go_region_with (go_at_call 129;refine (kindOfMark_any _ _).mono ?_;rintro e w4 ⟨rfl,rfl⟩;rw [HBJ.out])
         all_goals
          go_wp2_with fail
          rw [HF.out]
          refine bodyPost_ret (v:=.agg #[.int .i64 (markK (B s j):Nat),.string (s.extract j (j + 1)),.int .i64 (j:Nat)]) (by simp [results,Tryz.results73,go_sem,z0,z1,z2]) rfl ⟨rfl,(below_store3 _ _ _ hb0).drew⟩
        ·have heq:((j:Int) == (k:Int)) = false:=by simp;omega
         have hkj':k < j:=by omega
         have hjs:j ≤ s.size:=by omega
         obtain ⟨hf0,hf1⟩:=run_first s k j hkj' hjs
         have hfz:(s.extract k j).size ≤ 400:=by simp [ByteArray.size_extract];omega
         have HF:=hid (show R = ⟨runK (s.extract k j).toList,s.extract k j,k⟩ by rw [← HK2.out];unfold scanAt;rw [if_neg (by omega),if_neg (by rw [HE2.out];omega),HE2.out])
         have HRC:=hid (show ((s.extract k j)[0]'hf0).toNat ≠ 43 ∧ ((s.extract k j)[0]'hf0).toNat ≠ 45 by
          rw [hf1];exact run_char s k j (by omega) HE2.out hkj')
         have b1:(0:Int) ≤ (j:Int):=by omega
         have b2:(j:Int) ≤ (s.size:Int):=by omega
         have b3:(k:Int) ≤ (j:Int):=by omega
         clear hf1
         go_wp2_with fail
         go_region_with (go_at_call 130;refine (kindOfRun_any _ _ ((HV.out.below hb0).below (Below.refl _ _).drew) hf0 hfz HRC.out).mono ?_;rintro e w4 ⟨rfl,hb4⟩;have hsg4:=HSG.out.same (hb4.block _ HSG.out.lt);have y0:=hsg4.cell (j:=0) rfl;have y1:=hsg4.cell (j:=1) rfl;have y2:=hsg4.cell (j:=2) rfl;have yf:∀ j,w4.frozen? ⟨w.heap.size,j,none⟩ = false:=fun j=>hsg4.frozen j;simp only [Nat.zero_add] at y0 y1 y2)
         all_goals
          obtain ⟨z0,z1,z2⟩:=tok_store (.int .i64 (runK (s.extract k j).toList:Nat)) (.string (s.extract k j)) (.int .i64 (k:Nat)) hsg4
          have hb04:=hb0.trans ((Below.refl _ _).drew.trans (hb4.mono (show w.heap.size ≤ _ from hb0.size)))
          go_wp2_with fail
          rw [HF.out]
          refine bodyPost_ret (v:=.agg #[.int .i64 (runK (s.extract k j).toList:Nat),.string (s.extract k j),.int .i64 (k:Nat)]) (by simp [results,Tryz.results73,go_sem,z0,z1,z2]) rfl ⟨rfl,below_store3 _ _ _ hb04⟩
     ·have HE2:=hid (HE.out.trans (runEnd_stop s j (by omega)))
      have hje:j ≠ k:=by omega
      have heq:((j:Int) == (k:Int)) = false:=by simp;omega
      have hkj':k < j:=by omega
      have hjs:j ≤ s.size:=by omega
      obtain ⟨hf0,hf1⟩:=run_first s k j hkj' hjs
      have hfz:(s.extract k j).size ≤ 400:=by simp [ByteArray.size_extract];omega
      have HF:=hid (show R = ⟨runK (s.extract k j).toList,s.extract k j,k⟩ by rw [← HK2.out];unfold scanAt;rw [if_neg (by omega),if_neg (by rw [HE2.out];omega),HE2.out])
      have HRC:=hid (show ((s.extract k j)[0]'hf0).toNat ≠ 43 ∧ ((s.extract k j)[0]'hf0).toNat ≠ 45 by
       rw [hf1];exact run_char s k j (by omega) HE2.out hkj')
      have b1:(0:Int) ≤ (j:Int):=by omega
      have b2:(j:Int) ≤ (s.size:Int):=by omega
      have b3:(k:Int) ≤ (j:Int):=by omega
      clear hf1
      go_wp2_with fail
      go_region_with (go_at_call 130;refine (kindOfRun_any _ _ ((HV.out.below hb0).below (Below.refl _ _).drew) hf0 hfz HRC.out).mono ?_;rintro e w4 ⟨rfl,hb4⟩;have hsg4:=HSG.out.same (hb4.block _ HSG.out.lt);have y0:=hsg4.cell (j:=0) rfl;have y1:=hsg4.cell (j:=1) rfl;have y2:=hsg4.cell (j:=2) rfl;have yf:∀ j,w4.frozen? ⟨w.heap.size,j,none⟩ = false:=fun j=>hsg4.frozen j;simp only [Nat.zero_add] at y0 y1 y2)
      all_goals
       obtain ⟨z0,z1,z2⟩:=tok_store (.int .i64 (runK (s.extract k j).toList:Nat)) (.string (s.extract k j)) (.int .i64 (k:Nat)) hsg4
       have hb04:=hb0.trans ((Below.refl _ _).drew.trans (hb4.mono (show w.heap.size ≤ _ from hb0.size)))
       go_wp2_with fail
       rw [HF.out]
       refine bodyPost_ret (v:=.agg #[.int .i64 (runK (s.extract k j).toList:Nat),.string (s.extract k j),.int .i64 (k:Nat)]) (by simp [results,Tryz.results73,go_sem,z0,z1,z2]) rfl ⟨rfl,below_store3 _ _ _ hb04⟩
  ·have hke:k = s.size:=by omega
   have HK2:=hid (show R = ⟨0,⟨#[]⟩,s.size⟩ by rw [← HK.out,bEnd_stop s k (by omega)];simp [scanAt,hke])
   obtain ⟨z0,z1,z2⟩:=tok_store (.int .i64 0) (.string ⟨#[]⟩) (.int .i64 (s.size:Nat)) HSG.out
   subst hke
   have heq:((s.size:Int) == (s.size:Int)) = true:=by simp
   go_wp2_with fail
   rw [HK2.out]
   exact bodyPost_ret (v:=.agg #[.int .i64 0,.string ⟨#[]⟩,.int .i64 (s.size:Nat)]) (by simp [results,Tryz.results73,go_sem,z0,z1,z2]) rfl ⟨rfl,below_store3 _ _ _ hb0⟩
end Go.Proofs.YtdgcamlmjmnpeaaGreatDoor
namespace Go.Proofs.YtdgcamlmjmnpeaaGreatDoor
open Go.RowKit
structure But (pb:Nat) (w w':World):Prop where
 os:w'.os = w.os
 tape:w'.tape = w.tape
 output:w'.output = w.output
 size:w.heap.size ≤ w'.heap.size
 block:∀ k,k < w.heap.size → k ≠ pb → w'.heap[k]? = w.heap[k]?
theorem But.refl (pb:Nat) (w:World):But pb w w:=⟨rfl,rfl,rfl,Nat.le_refl _,fun _ _ _=>rfl⟩
theorem But.trans {pb:Nat} {a b c:World} (h:But pb a b) (k:But pb b c):But pb a c :=
 ⟨k.os.trans h.os,k.tape.trans h.tape,k.output.trans h.output,Nat.le_trans h.size k.size,fun i hi hp=>(k.block i (Nat.lt_of_lt_of_le hi h.size) hp).trans (h.block i hi hp)⟩
theorem But.ofBelow {pb:Nat} {w w':World} (h:Below w.heap.size w w'):But pb w w':=⟨h.os,h.tape,h.output,h.size,fun k hk _=>h.block k hk⟩
theorem But.setCell {pb:Nat} {w w':World} (h:But pb w w') (q:Nat) (v:Value):But pb w (w'.setCell ⟨pb,q,none⟩ v) :=
 ⟨h.os,h.tape,h.output,by simpa [World.setCell] using h.size,fun k hk hp=>(Below.heap_setCell _ _ _ _ hp).trans (h.block k hk hp)⟩
theorem But.drew {pb:Nat} {w w':World} (h:But pb w w'):But pb w w'.drew:=⟨h.os,h.tape,h.output,h.size,h.block⟩
theorem Vars.but {pb:Nat} {w w':World} (h:Vars w) (hb:But pb w w') (h1:pb ≠ 1) (h2:pb ≠ 2):Vars w':=by
 obtain ⟨te,pe,e1⟩:=h.sx
 obtain ⟨tf,pf,e2⟩:=h.rg
 have l1:=h.lt1
 have l2:=h.lt2
 exact ⟨⟨te,pe,(World.cell?_of_block (w:=w) (a:=⟨1,0,none⟩) (hb.block _ l1 (Ne.symm h1))).trans e1⟩,⟨tf,pf,(World.cell?_of_block (w:=w) (a:=⟨2,0,none⟩) (hb.block _ l2 (Ne.symm h2))).trans e2⟩,Nat.lt_of_lt_of_le l1 hb.size,Nat.lt_of_lt_of_le l2 hb.size⟩
def psCells (s:ByteArray) (t:PTok):List Value:=[.string s,.int .i64 t.kind,.string t.text,.int .i64 t.at_]
structure Ps (w:World) (pb:Nat) (s:ByteArray) (t:PTok):Prop where
 seg:Seg w pb 91 0 (psCells s t)
 vars:Vars w
 ne1:pb ≠ 1
 ne2:pb ≠ 2
 fit:t.at_ + t.text.size ≤ s.size
 sz:s.size ≤ 400
theorem Ps.below {w w':World} {pb:Nat} {s:ByteArray} {t:PTok} (h:Ps w pb s t) (hb:Below w.heap.size w w'):Ps w' pb s t :=
 ⟨h.seg.same (hb.block pb h.seg.lt),h.vars.below hb,h.ne1,h.ne2,h.fit,h.sz⟩
def nextP (s:ByteArray) (t:PTok):PTok:=scanP s (t.at_ + t.text.size)
def afterT (b:Bool) (s:ByteArray) (t:PTok):PTok:=match b with | true=>nextP s t | false=>t
theorem scanAt_fit (s:ByteArray) (k:Nat) (hk:k ≤ s.size):(scanAt s k).at_ + (scanAt s k).text.size ≤ s.size:=by
 unfold scanAt
 split
 ·show k + 0 ≤ s.size;omega
 ·split
  ·simp [ByteArray.size_extract];omega
  ·have:=runEnd_le s s.size k hk
   have:=runEnd_ge s s.size k
   simp [ByteArray.size_extract];omega
theorem nextP_fit {s:ByteArray} {t:PTok} (h:t.at_ + t.text.size ≤ s.size):(nextP s t).at_ + (nextP s t).text.size ≤ s.size :=
 scanAt_fit s _ (bEnd_le s _ h)
set_option maxRecDepth 100000 in
set_option maxHeartbeats 2000000 in
theorem step_any (w:World) (pb:Nat) (s:ByteArray) (t:PTok) (h:Ps w pb s t) :
  Calls Tryz.prog 39 #[.pointer (some ⟨pb,0,none⟩)] w fun e w'=>e = .returned (.tuple #[]) ∧ Ps w' pb s (nextP s t) ∧ But pb w w':=by
 have c0:=h.seg.cell (j:=0) (v:=.string s) rfl
 have c1:=h.seg.cell (j:=1) (v:=.int .i64 t.kind) rfl
 have c2:=h.seg.cell (j:=2) (v:=.string t.text) rfl
 have c3:=h.seg.cell (j:=3) (v:=.int .i64 t.at_) rfl
 simp only [Nat.zero_add] at c0 c1 c2 c3
 have hfit:=h.fit
 have hsz:=h.sz
 have hwr:IntKind.i64.wrap ((t.at_:Int) + (t.text.size:Int)) = (t.at_:Int) + (t.text.size:Int):=pwrap_small _ (by omega) (by omega)
 have hcast:(t.at_:Int) + (t.text.size:Int) = ((t.at_ + t.text.size:Nat):Int):=by omega
 have HC:=hid hcast
 have H:=hid h
 clear h hcast
 go_enter Tryz.func39,Tryz.ntmps39
 go_wp2_with fail
 go_region_with (go_at_call 73;rw [HC.out];refine (scan_any s (t.at_ + t.text.size) _ (H.out.vars.below (Below.refl _ _).drew) hsz hfit).mono ?_;rintro e w4 ⟨rfl,hb4⟩;have hp4:=(H.out.below (Below.refl _ _).drew).below hb4;have y1:=hp4.seg.cell (j:=1) (v:=.int .i64 t.kind) rfl;have y2:=hp4.seg.cell (j:=2) (v:=.string t.text) rfl;have y3:=hp4.seg.cell (j:=3) (v:=.int .i64 t.at_) rfl;have yf:∀ j,w4.frozen? ⟨pb,j,none⟩ = false:=fun j=>hp4.seg.frozen j;simp only [Nat.zero_add] at y1 y2 y3)
 all_goals
  go_wp2_with fail
  go_end0
  have hb5:Below w.heap.size w w4:=((Below.refl w.heap.size w).drew).trans hb4
  have hbut:=(((But.ofBelow (pb:=pb) hb5).setCell 1 (.int .i64 (scanP s (t.at_ + t.text.size)).kind)).setCell 2 (.string (scanP s (t.at_ + t.text.size)).text)).setCell 3 (.int .i64 (scanP s (t.at_ + t.text.size)).at_)
  have hseg:=((hp4.seg.set 1 (.int .i64 (scanP s (t.at_ + t.text.size)).kind)).set 2 (.string (scanP s (t.at_ + t.text.size)).text)).set 3 (.int .i64 (scanP s (t.at_ + t.text.size)).at_)
  simp only [Nat.zero_add] at hseg
  exact ⟨rfl,⟨hseg,H.out.vars.but hbut H.out.ne1 H.out.ne2,H.out.ne1,H.out.ne2,nextP_fit hfit,hsz⟩,hbut⟩
set_option maxRecDepth 100000 in
set_option maxHeartbeats 1000000 in
theorem mark_any (w:World) (pb:Nat) (s:ByteArray) (t:PTok) (k:Nat) (h:Ps w pb s t) :
  Calls Tryz.prog 131 #[.pointer (some ⟨pb,0,none⟩),.int .i64 k] w fun e w'=>e = .returned (.bool (t.kind == k)) ∧ Ps w' pb s (afterT (t.kind == k) s t) ∧ But pb w w':=by
 have c1:=h.seg.cell (j:=1) (v:=.int .i64 t.kind) rfl
 simp only [Nat.zero_add] at c1
 have H:=hid h
 clear h
 cases hk:(t.kind == k) with
 | true =>
  have hne:((t.kind:Int) != (k:Int)) = false:=by have:=eq_of_beq hk;simp;omega
  go_enter Tryz.func131,Tryz.ntmps131
  go_wp2_with fail
  refine (step_any _ pb s t H.out).mono ?_;rintro e w1 ⟨rfl,hp1,hb1⟩
  go_wp2_with fail
  go_ret
  exact ⟨rfl,hp1,hb1⟩
 | false =>
  have hne:((t.kind:Int) != (k:Int)) = true:=by have:=ne_of_beq_false hk;simp;omega
  go_enter Tryz.func131,Tryz.ntmps131
  go_wp2_with fail
  go_ret
  exact ⟨rfl,H.out,But.refl _ _⟩
def isWordT (t:PTok) (l:List UInt8):Bool:=(t.text.toList == l) && (t.kind == 2)
set_option maxRecDepth 100000 in
set_option maxHeartbeats 1000000 in
theorem word_any (w:World) (pb:Nat) (s:ByteArray) (t:PTok) (l:ByteArray) (h:Ps w pb s t) :
  Calls Tryz.prog 74 #[.pointer (some ⟨pb,0,none⟩),.string l] w fun e w'=>e = .returned (.bool (isWordT t l.toList)) ∧ Ps w' pb s (afterT (isWordT t l.toList) s t) ∧ But pb w w':=by
 have c2:=h.seg.cell (j:=2) (v:=.string t.text) rfl
 simp only [Nat.zero_add] at c2
 have H:=hid h
 clear h
 generalize hI:isWordT t l.toList = b
 have HI:=hid hI
 clear hI
 cases hw:(t.text.toList == l.toList) with
 | false =>
  have HW:=hid (show b = false by rw [← HI.out];simp only [isWordT,hw];rfl)
  go_enter Tryz.func74,Tryz.ntmps74
  go_wp2_with fail
  go_ret
  exact ⟨ret_bool HW.out.symm,by rw [HW.out];exact H.out,But.refl _ _⟩
 | true =>
  have HW:=hid (show b = (t.kind == 2) by rw [← HI.out];simp only [isWordT,hw];rfl)
  go_enter Tryz.func74,Tryz.ntmps74
  go_wp2_with fail
  refine (mark_any _ pb s t 2 H.out).mono ?_;rintro e w1 ⟨rfl,hp1,hb1⟩
  rw [← HW.out] at hp1 ⊢
  go_wp2_with fail
  go_ret
  exact ⟨rfl,hp1,hb1⟩
end Go.Proofs.YtdgcamlmjmnpeaaGreatDoor
