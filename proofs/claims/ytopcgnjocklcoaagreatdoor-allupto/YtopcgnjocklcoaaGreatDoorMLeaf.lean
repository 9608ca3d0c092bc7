/- The leaves of package courierref: what each small function answers, for every argument. -/
import Derived.Test.YtopcgnjocklcoaaGreatDoorRows
import Derived.WalkKit
import Derived.WalkSpells
import Derived.WalkLawsBesides
import Derived.Test.YtopcgnjocklcoaaGreatDoorMFrA
import Derived.Test.YtopcgnjocklcoaaGreatDoorShelf
import Derived.Deep.RegionHeld3
import Derived.Deep.RegionLaw
import Derived.Deep.LoopGhost
namespace Go.Proofs.YtopcgnjocklcoaaGreatDoor
open Go.RowKit
def smallB (c:Int):Bool:=decide (97 ≤ c) && decide (c ≤ 122)
def digitB (c:Int):Bool:=decide (48 ≤ c) && decide (c ≤ 57)
def leastI (a b:Int):Int:=if a < 0 ∨ (0 ≤ b ∧ b < a) then b else a
set_option maxHeartbeats 400000 in
theorem isSmall_any (c:Int) (w:World) :
  Calls Tryz.prog 118 #[.int .u8 c] w fun e w'=>e = .returned (.bool (smallB c)) ∧ w' = w:=by
 go_enter Tryz.func118,Tryz.ntmps118
 go_wp2
 ·have h:97 ≤ c:=by assumption
  go_ret
  exact ⟨ret_bool (by simp [smallB,h]),rfl⟩
 ·have h:c < 97:=by assumption
  go_ret
  exact ⟨ret_bool (by simp [smallB];omega),rfl⟩
set_option maxHeartbeats 400000 in
theorem isDigit_any (c:Int) (w:World) :
  Calls Tryz.prog 119 #[.int .u8 c] w fun e w'=>e = .returned (.bool (digitB c)) ∧ w' = w:=by
 go_enter Tryz.func119,Tryz.ntmps119
 go_wp2
 ·have h:48 ≤ c:=by assumption
  go_ret
  exact ⟨ret_bool (by simp [digitB,h]),rfl⟩
 ·have h:c < 48:=by assumption
  go_ret
  exact ⟨ret_bool (by simp [digitB];omega),rfl⟩
def runB (c:Int):Bool:=smallB c || digitB c
set_option maxHeartbeats 400000 in
theorem isRun_any (c:Int) (w:World) :
  Calls Tryz.prog 78 #[.int .u8 c] w fun e w'=>e = .returned (.bool (runB c)) ∧ w' = w:=by
 unfold runB
 generalize hs:smallB c = s
 generalize hd:digitB c = d
 have Hs:Hid (smallB c = s):=hs
 have Hd:Hid (digitB c = d):=hd
 clear hs hd
 go_enter Tryz.func78,Tryz.ntmps78
 go_wp2_with (first
  | (go_at_call 118;refine (isSmall_any _ _).mono ?_;rintro e w' ⟨rfl,rfl⟩;rw [Hs.out])
  | (go_at_call 119;refine (isDigit_any _ _).mono ?_;rintro e w' ⟨rfl,rfl⟩;rw [Hd.out]))
 ·have h:s = true:=by assumption
  go_ret
  exact ⟨ret_bool (by simp [h]),rfl⟩
 ·have h:¬s = true:=by assumption
  go_ret
  exact ⟨ret_bool (by simp [h]),rfl⟩
set_option maxHeartbeats 400000 in
theorem least_any (a b:Int) (w:World) :
  Calls Tryz.prog 48 #[.int .i64 a,.int .i64 b] w fun e w'=>e = .returned (.int .i64 (leastI a b)) ∧ w' = w:=by
 go_enter Tryz.func48,Tryz.ntmps48
 go_wp2
 all_goals go_ret
 all_goals refine ⟨ret_int ?_,rfl⟩
 all_goals (unfold leastI;split <;> omega)
def nameB (l:List UInt8):Bool:=match l with | []=>false | c :: _=>smallB (c.toNat:Int) && decide (l.length ≤ 12)
theorem nameB_empty {s:ByteArray} (h:s.toList.isEmpty = true):nameB s.toList = false:=by
 rw [List.isEmpty_iff] at h;rw [h];rfl
theorem nameB_at (s:ByteArray) (h:0 < s.size):nameB s.toList = (smallB (s[0].toNat:Int) && decide ((s.size:Int) ≤ 12)):=by
 obtain ⟨⟨l⟩⟩:=s
 rw [ByteArray.toList_eq]
 cases l with
 | nil=>simp [ByteArray.size] at h
 | cons c r =>
  have e:(({ data:={ toList:=c :: r } }:ByteArray)[0]'h) = c:=rfl
  have e2:(({ data:={ toList:=c :: r } }:ByteArray).size) = (c :: r).length:=rfl
  rw [e,e2];simp only [nameB]
  congr 1
  exact decide_eq_decide.2 (by omega)
set_option maxHeartbeats 400000 in
theorem isName_any (s:ByteArray) (w:World) :
  Calls Tryz.prog 80 #[.string s] w fun e w'=>e = .returned (.bool (nameB s.toList)) ∧ w' = w:=by
 by_cases h0:0 < s.size
 ·have hn:=nameB_at s h0
  have HN:Hid (nameB s.toList = (smallB (s[0].toNat:Int) && decide ((s.size:Int) ≤ 12))):=hn
  have he:s.toList.isEmpty = false:=by
   rw [ByteArray.toList_eq,List.isEmpty_eq_false_iff];intro hh
   have:s.size = 0:=by rw [show s.size = s.data.toList.length from rfl,hh];rfl
   omega
  clear hn
  generalize nameB s.toList = r at *
  go_enter Tryz.func80,Tryz.ntmps80
  go_wp2_with (first
   | (go_at_call 118;refine (isSmall_any _ _).mono ?_;rintro e w' ⟨rfl,rfl⟩))
  ·have h:smallB (s[0].toNat:Int) = true:=by assumption
   go_ret
   exact ⟨ret_bool (by rw [HN.out,h];simp),rfl⟩
  ·have h:¬ smallB (s[0].toNat:Int) = true:=by assumption
   go_ret
   exact ⟨ret_bool (by rw [HN.out];simp [h]),rfl⟩
 ·have he:s.toList.isEmpty = true:=by
   rw [ByteArray.toList_eq,List.isEmpty_iff];apply List.eq_nil_of_length_eq_zero
   have:s.size = s.data.toList.length:=rfl
   omega
  have HN:Hid (nameB s.toList = false):=nameB_empty he
  generalize nameB s.toList = r at *
  go_enter Tryz.func80,Tryz.ntmps80
  go_wp2_with fail
  go_ret
  exact ⟨ret_bool HN.out.symm,rfl⟩
def typeWord (l:List UInt8):Bool:=l == [109,101,115,115,97,103,101] || l == [101,110,117,109]
set_option maxHeartbeats 400000 in
theorem typed_any (k n:ByteArray) (at_:Int) (f ns na bs ba:Value) (w:World) :
  Calls Tryz.prog 46 #[.agg #[.string k,.string n,.int .i64 at_,f,ns,na,bs,ba]] w fun e w'=>e = .returned (.bool (typeWord k.toList)) ∧ Below w.heap.size w w':=by
 have HT:Hid (typeWord k.toList = (k.toList == [109,101,115,115,97,103,101] || k.toList == [101,110,117,109])):=rfl
 generalize typeWord k.toList = r at *
 go_enter Tryz.func46,Tryz.ntmps46
 go_wp2
 ·have h:k.toList = [109,101,115,115,97,103,101]:=by assumption
  go_ret
  exact ⟨ret_bool (by rw [HT.out,h];rfl),(Below.refl _ _).alloc (Nat.le_refl _) _⟩
 ·go_ret
  exact ⟨ret_bool (by rw [HT.out]),(Below.refl _ _).alloc (Nat.le_refl _) _⟩
def words:List (List UInt8):=[[109,101,115,115,97,103,101],[101,110,117,109],[115,116,114,101,97,109],[99,97,108,108],[111,112,116],[108,105,115,116],[105,110,116],[98,111,111,108],[116,101,120,116]]
def wordB (l:List UInt8):Bool:=words.any (fun a=>a == l)
set_option maxHeartbeats 1000000 in
theorem reserved_any (s:ByteArray) (w:World) :
  Calls Tryz.prog 121 #[.string s] w fun e w'=>e = .returned (.bool (wordB s.toList)) ∧ Below w.heap.size w w':=by
 have HW:Hid (wordB s.toList = words.any (fun a=>a == s.toList)):=rfl
 generalize wordB s.toList = r at *
 go_enter Tryz.func121,Tryz.ntmps121
 go_wp2
 refine wp_loop_rounds 10 ?_
 iterate 9
  rw [rounds_succ]
  go_wp2
  ·rename_i h
   go_ret
   exact ⟨ret_bool (by rw [HW.out,← eq_of_beq h];decide),(Below.refl _ _).alloc (Nat.le_refl _) _⟩
 rw [rounds_succ]
 go_wp2
 go_ret
 exact ⟨ret_bool (by rw [HW.out];simp only [words,List.any_cons,List.any_nil, *];rfl),(Below.refl _ _).alloc (Nat.le_refl _) _⟩
def freeB (l:List UInt8):Bool:=nameB l && !wordB l
set_option maxHeartbeats 400000 in
theorem free_any (s:ByteArray) (w:World) :
  Calls Tryz.prog 81 #[.string s] w fun e w'=>e = .returned (.bool (freeB s.toList)) ∧ Below w.heap.size w w':=by
 unfold freeB
 generalize hn:nameB s.toList = n
 generalize hd:wordB s.toList = d
 have Hn:Hid (nameB s.toList = n):=hn
 have Hd:Hid (wordB s.toList = d):=hd
 clear hn hd
 go_enter Tryz.func81,Tryz.ntmps81
 go_wp2_with fail
 refine (isName_any _ _).mono ?_;rintro e w1 ⟨rfl,rfl⟩;rw [Hn.out]
 go_wp2_with fail
 refine (reserved_any _ _).mono ?_;rintro e w2 ⟨rfl,hb⟩;rw [Hd.out]
 go_wp2_with fail
 ·have h:n = true:=by assumption
  go_ret
  exact ⟨ret_bool (by simp [h]),hb⟩
 ·have h:¬ n = true:=by assumption
  go_ret
  exact ⟨ret_bool (by simp [h]),hb⟩
def builtB (l:List UInt8):Bool:=l == [105,110,116] || l == [98,111,111,108] || l == [116,101,120,116]
def baseB (l:List UInt8):Bool:=freeB l || builtB l
set_option maxHeartbeats 400000 in
theorem isBase_any (s:ByteArray) (w:World) :
  Calls Tryz.prog 82 #[.string s] w fun e w'=>e = .returned (.bool (baseB s.toList)) ∧ Below w.heap.size w w':=by
 unfold baseB builtB
 generalize hn:freeB s.toList = n
 have Hn:Hid (freeB s.toList = n):=hn
 clear hn
 go_enter Tryz.func82,Tryz.ntmps82
 go_wp2_with fail
 refine (free_any _ _).mono ?_;rintro e w1 ⟨rfl,hb⟩;rw [Hn.out]
 go_wp2_with fail
 all_goals go_ret
 all_goals refine ⟨ret_bool ?_,hb⟩
 all_goals (cases n <;> simp_all)
end Go.Proofs.YtopcgnjocklcoaaGreatDoor
namespace Go.Proofs.YtopcgnjocklcoaaGreatDoor
open Go.RowKit
def numB (l:List UInt8):Bool:=(List.range 99).any (fun i=>l == Lib.decDigits (i + 1))
theorem numB_hit {l:List UInt8} {k:Nat} (h1:1 ≤ k) (h2:k ≤ 99) (h:l = Lib.decDigits k):numB l = true:=by
 unfold numB;rw [List.any_eq_true]
 exact ⟨k - 1,by simp;omega,by rw [show k - 1 + 1 = k from by omega,h];simp⟩
theorem numB_miss {l:List UInt8} (h:∀ j,1 ≤ j → j < 100 → ¬ l = Lib.decDigits j):numB l = false:=by
 unfold numB;rw [List.any_eq_false]
 intro i hi;simp at hi
 have:=h (i + 1) (by omega) (by omega)
 simpa using this
set_option maxHeartbeats 400000 in
theorem isNumber_any (s:ByteArray) (w:World) :
  Calls Tryz.prog 79 #[.string s] w fun e w'=>e = .returned (.bool (numB s.toList)) ∧ w' = w:=by
 go_enter Tryz.func79,Tryz.ntmps79
 go_wp2
 go_loop [3] (fun n=>∃ k:Nat,1 ≤ k ∧ k ≤ 100 ∧ n = .int .i64 k ∧ ∀ j,1 ≤ j → j < k → ¬ s.toList = Lib.decDigits j) (fun n=>100 - (intOf n).toNat)
 case atStart=>exact ⟨1,by omega,by omega,rfl,by intro j h1 h2;omega⟩
 case round =>
  obtain ⟨k,h1,h2,rfl,hall⟩:=hrel
  have HA:Hid (∀ j,1 ≤ j → j < k → ¬ s.toList = Lib.decDigits j):=hall
  clear hall
  by_cases hlt:k ≤ 99
  ·by_cases hd:s.toList = Lib.decDigits k
   ·have HN:Hid (numB s.toList = true):=numB_hit h1 hlt hd
    have hbq:(s.toList == Lib.decDigits k) = true:=by simp [hd]
    clear hd
    go_wp2_with fail
    refine (Tryz.strconv_Itoa_small k (by omega) _).mono ?_;rintro e w1 ⟨rfl,rfl⟩
    go_wp2_with fail
    go_ret
    exact ⟨ret_bool HN.out.symm,rfl⟩
   ·have hbq:(s.toList == Lib.decDigits k) = false:=by simp [hd]
    go_wp2_with fail
    refine (Tryz.strconv_Itoa_small k (by omega) _).mono ?_;rintro e w1 ⟨rfl,rfl⟩
    go_wp2_with fail
    go_round
    case rel=>exact ⟨k + 1,by omega,by omega,by go_num,fun j a b=>by
     rcases Nat.lt_or_ge j k with h | h
     ·exact HA.out j a h
     ·rw [show j = k from by omega];exact hd⟩
    case measure=>simp [intOf];omega
  ·have HN:Hid (numB s.toList = false):=numB_miss (fun j a b=>HA.out j a (by omega))
   go_wp2_with fail
   go_ret
   exact ⟨ret_bool HN.out.symm,rfl⟩
def dec2 (k:Nat):List UInt8:=if k < 10 then [UInt8.ofNat (48 + k)] else [UInt8.ofNat (48 + k / 10),UInt8.ofNat (48 + k % 10)]
theorem dec2_eq (k:Nat) (h:k < 100):Lib.decDigits k = dec2 k:=by
 rw [Lib.decDigits];unfold dec2
 by_cases h1:k < 10
 ·simp [h1]
 ·have h2:k / 10 < 10:=by omega
  rw [Lib.decDigits];simp [h1,h2]
theorem atoi_dec2:∀ k,k < 100 → Lib.atoi (dec2 k) = some (k:Int) ∧ (dec2 k).length ≤ 2:=by decide
theorem numB_cases {l:List UInt8} (h:numB l = true):∃ k,1 ≤ k ∧ k ≤ 99 ∧ l = dec2 k:=by
 unfold numB at h;rw [List.any_eq_true] at h
 obtain ⟨i,hi,he⟩:=h
 simp at hi he
 exact ⟨i + 1,by omega,by omega,by rw [he,dec2_eq _ (by omega)]⟩
theorem numB_atoi {s:ByteArray} (h:numB s.toList = true):∃ k:Nat,1 ≤ k ∧ k ≤ 99 ∧ s.size ≤ 18 ∧ Lib.atoi s.data.toList = some (k:Int):=by
 obtain ⟨k,h1,h2,he⟩:=numB_cases h
 have:=atoi_dec2 k (by omega)
 rw [ByteArray.toList_eq] at he
 refine ⟨k,h1,h2,?_,by rw [he];exact this.1⟩
 show s.data.toList.length ≤ 18
 rw [he];omega
end Go.Proofs.YtopcgnjocklcoaaGreatDoor
namespace Go.Proofs.YtopcgnjocklcoaaGreatDoor
def B (s:ByteArray) (i:Nat):Int:=((s.toList.getD i 0).toNat:Int)
theorem B_at (s:ByteArray) (i:Nat) (h:i < s.size):((s[i]'h).toNat:Int) = B s i:=by
 unfold B
 have e:s.toList.getD i 0 = s[i]'h:=by
  rw [ByteArray.toList_eq,List.getD_eq_getElem?_getD,List.getElem?_eq_getElem (by simpa using h)];rfl
 rw [e]
structure Tok where
 text:ByteArray
 at_:Nat
 bad:Bool
def tokCells (t:Tok):List Value:=[.string t.text,.int .i64 t.at_,.bool t.bad]
def runEnd (s:ByteArray):Nat → Nat → Nat
 | 0,i=>i
 | f + 1,i=>if i < s.size ∧ runB (B s i) = true then runEnd s f (i + 1) else i
def badRun (t:ByteArray):Bool:=!(numB t.toList) && !(nameB t.toList)
def toks (s:ByteArray):Nat → Nat → List Tok
 | 0,_=>[]
 | f + 1,i =>
  if i < s.size then
   if B s i = 32 ∨ B s i = 10 then toks s f (i + 1)
   else if runB (B s i) = true then ⟨s.extract i (runEnd s s.size i),i,badRun (s.extract i (runEnd s s.size i))⟩ :: toks s f (runEnd s s.size i)
   else ⟨s.extract i (i + 1),i,!(B s i == 123) && !(B s i == 125)⟩ :: toks s f (i + 1)
  else []
def toksOf (s:ByteArray):List Tok:=toks s (s.size + 1) 0
theorem runEnd_ge (s:ByteArray):∀ f i,i ≤ runEnd s f i
 | 0,i=>Nat.le_refl _
 | f + 1,i=>by
  unfold runEnd;split
  ·exact Nat.le_trans (Nat.le_succ i) (runEnd_ge s f (i + 1))
  ·exact Nat.le_refl _
theorem runEnd_le (s:ByteArray):∀ f i,i ≤ s.size → runEnd s f i ≤ s.size
 | 0,i,h=>h
 | f + 1,i,h=>by
  unfold runEnd;split
  ·rename_i hh;exact runEnd_le s f (i + 1) hh.1
  ·exact h
theorem runEnd_fuel (s:ByteArray):∀ f g i,s.size ≤ f + i → s.size ≤ g + i → runEnd s f i = runEnd s g i
 | 0,g,i,h1,h2=>by
  cases g with
  | zero=>rfl
  | succ g=>unfold runEnd;rw [if_neg (by omega)]
 | f + 1,0,i,h1,h2=>by unfold runEnd;rw [if_neg (by omega)]
 | f + 1,g + 1,i,h1,h2=>by
  unfold runEnd;split
  ·exact runEnd_fuel s f g (i + 1) (by omega) (by omega)
  ·rfl
theorem runEnd_step (s:ByteArray) (i:Nat) (h:i < s.size) (hr:runB (B s i) = true):runEnd s s.size i = runEnd s s.size (i + 1):=by
 rw [runEnd_fuel s s.size (s.size + 1) i (by omega) (by omega)]
 conv=>lhs;unfold runEnd
 rw [if_pos ⟨h,hr⟩]
theorem runEnd_stop (s:ByteArray) (i:Nat) (h:¬ (i < s.size ∧ runB (B s i) = true)):runEnd s s.size i = i:=by
 cases hs:s.size with
 | zero=>rfl
 | succ n=>unfold runEnd;rw [if_neg h]
theorem toks_fuel (s:ByteArray):∀ f g i,s.size < f + i → s.size < g + i → toks s f i = toks s g i
 | 0,g,i,h1,h2=>by
  cases g with
  | zero=>rfl
  | succ g=>unfold toks;rw [if_neg (by omega)]
 | f + 1,0,i,h1,h2=>by unfold toks;rw [if_neg (by omega)]
 | f + 1,g + 1,i,h1,h2=>by
  unfold toks
  by_cases hi:i < s.size
  ·rw [if_pos hi,if_pos hi]
   split
   ·exact toks_fuel s f g (i + 1) (by omega) (by omega)
   ·split
    ·rename_i hr
     have:i + 1 ≤ runEnd s s.size i:=by rw [runEnd_step s i hi hr];exact runEnd_ge s _ _
     rw [toks_fuel s f g _ (by omega) (by omega)]
    ·rw [toks_fuel s f g (i + 1) (by omega) (by omega)]
  ·rw [if_neg hi,if_neg hi]
def toksAt (s:ByteArray) (i:Nat):List Tok:=toks s (s.size + 1) i
theorem toksAt_end (s:ByteArray) (i:Nat) (h:¬ i < s.size):toksAt s i = []:=by unfold toksAt toks;rw [if_neg h]
theorem toksAt_blank (s:ByteArray) (i:Nat) (h:i < s.size) (hb:B s i = 32 ∨ B s i = 10):toksAt s i = toksAt s (i + 1):=by
 unfold toksAt
 conv=>lhs;unfold toks
 rw [if_pos h,if_pos hb]
 exact toks_fuel s _ _ _ (by omega) (by omega)
theorem toksAt_run (s:ByteArray) (i:Nat) (h:i < s.size) (hb:¬ (B s i = 32 ∨ B s i = 10)) (hr:runB (B s i) = true) :
  toksAt s i = ⟨s.extract i (runEnd s s.size i),i,badRun (s.extract i (runEnd s s.size i))⟩ :: toksAt s (runEnd s s.size i):=by
 unfold toksAt
 conv=>lhs;unfold toks
 rw [if_pos h,if_neg hb,if_pos hr]
 have:i + 1 ≤ runEnd s s.size i:=by rw [runEnd_step s i h hr];exact runEnd_ge s _ _
 rw [toks_fuel s s.size (s.size + 1) _ (by omega) (by omega)]
theorem toksAt_mark (s:ByteArray) (i:Nat) (h:i < s.size) (hb:¬ (B s i = 32 ∨ B s i = 10)) (hr:¬ runB (B s i) = true) :
  toksAt s i = ⟨s.extract i (i + 1),i,!(B s i == 123) && !(B s i == 125)⟩ :: toksAt s (i + 1):=by
 unfold toksAt
 conv=>lhs;unfold toks
 rw [if_pos h,if_neg hb,if_neg hr]
 rw [toks_fuel s s.size (s.size + 1) _ (by omega) (by omega)]
theorem toks_length (s:ByteArray):∀ f i,(toks s f i).length ≤ s.size - i
 | 0,i=>by simp [toks]
 | f + 1,i=>by
  unfold toks;split
  ·rename_i hi
   split
   ·have:=toks_length s f (i + 1);omega
   ·split
    ·rename_i hr
     have h1:i + 1 ≤ runEnd s s.size i:=by rw [runEnd_step s i hi hr];exact runEnd_ge s _ _
     have:=toks_length s f (runEnd s s.size i);simp;omega
    ·have:=toks_length s f (i + 1);simp;omega
  ·simp
end Go.Proofs.YtopcgnjocklcoaaGreatDoor
namespace Go.Proofs.YtopcgnjocklcoaaGreatDoor
open Go.RowKit
theorem Tryz.infoTok:(Tryz.prog.info? 92).map (fun i=>(i.zero,i.size,i.bytes)) = some (some (.agg #[.string ⟨#[]⟩,.int .i64 0,.bool false]),3,32):=by kernel_rfl
theorem step_append_own {P:Program} {ops:Array Oper} {o:Oper} {a:Act} {w:World} {K:Act → World → Prop} {Q:Exit → Act → World → Prop} {E:Prop}
  (hg:o.guard = none) (s x:Operand) (t:TypeId)
  (ho:o.op = .call { callee:=.builtin .append,args:=#[s,x],argTypes:=#[t,t] })
  (base:Nat) (e:TypeId) (i:TypeInfo) (z:Value) (size bytes:Nat) (ht:P.underlying t = some (.slice e)) (hi:P.info? e = some i) (hz:i.zero = some z)
  (hsize:i.size = size) (hby:i.bytes = bytes) (hzs:z.cells.size = size) (hsz:0 < size)
  (v:Value) (n:Nat) (xs:List Value) (hs:a.eval s = v) (hown:w.ownsRow base e size v n xs)
  (ad:Addr) (m c:Nat) (news:List Value) (hx:a.eval x = .slice (some ad) m c) (hl:news.length = m * size) (hnews:∀ j u,news[j]? = some u → w.cell? (ad.add j) = some u) (h1:∀ u ∈ news,u.oneCell' = true)
  (h63:n + m ≤ maxLen) (hbytes:(n + m) * bytes ≤ 140737488355328) (hbase:base ≤ w.heap.size)
  (h:∀ v' w',w'.ownsRow base e size v' (n + m) (xs ++ news) → w.grownBy w' v.ownBlock → (v' = .slice none 0 0 ↔ v = .slice none 0 0 ∧ m = 0) → K (a.put o.dst v') w') :
  if Region.wanted o (yielded ops a.tmps) = true then Oper.wp P o a w K Q else E:=by
 rw [if_pos (by simp [Region.wanted,hg])]
 exact wp_append_own w s x t ho base e i z size bytes ht hi hz hsize hby hzs hsz v n xs hs hown ad m c news hx hl hnews h1 h63 hbytes hbase h
theorem cells_three (w:World) (c0 c1 c2:Value) (t:TypeId) (j:Nat) (u:Value) (h:[c0,c1,c2][j]? = some u):(w.alloc (.cells #[c0,c1,c2] t)).cell? ((⟨w.heap.size,0,none⟩:Addr).add j) = some u:=by
 match j,h with
 | 0,h=>simp at h;subst h;simp [Addr.add]
 | 1,h=>simp at h;subst h;simp [Addr.add]
 | 2,h=>simp at h;subst h;simp [Addr.add]
theorem mark_bad1 (x:Int) (h:(x != 123) = true):(x != 125) = (!(x == 123) && !(x == 125)):=by
 rw [bne_iff_ne] at h;simp [h,bne]
theorem mark_bad0 (x:Int) (h:(x != 123) = false):false = (!(x == 123) && !(x == 125)):=by
 simp at h;simp [h]
theorem tok_list {s:ByteArray} {L D:List Tok} {k j:Nat} {t:Tok} (HL:L = D ++ toksAt s k) (HX:toksAt s k = t :: toksAt s j):L = (D ++ [t]) ++ toksAt s j:=by
 rw [HL,HX];simp
theorem tok_owns {w2:World} {b:Nat} {D:List Tok} {t:Tok} {v:Value} {xs:List Value} (hx:xs = tokCells t) (h:w2.ownsRow b 92 3 v (D.length + 1) (D.flatMap tokCells ++ xs)) :
  w2.ownsRow b 92 3 v (D ++ [t]).length ((D ++ [t]).flatMap tokCells):=by
 subst hx
 simpa using h
theorem below_append {w wr w2:World} {e:TypeId} {size n:Nat} {v:Value} {xs:List Value} {o:Obj} (hbel:Below w.heap.size w wr) (hown:wr.ownsRow w.heap.size e size v n xs) (hg:((wr.alloc o).drew).grownBy w2 v.ownBlock):Below w.heap.size w w2 :=
 ((hbel.alloc hbel.size o).drew).grown hg (by have:=hbel.size;show w.heap.size ≤ (wr.alloc o).heap.size;simp;omega) (fun k hk=>(hown.lt k hk).1)
theorem below_append' {w wr w2:World} {e:TypeId} {size n:Nat} {v:Value} {xs:List Value} {o:Obj} (hbel:Below w.heap.size w wr) (hown:wr.ownsRow w.heap.size e size v n xs) (hg:(wr.alloc o).grownBy w2 v.ownBlock):Below w.heap.size w w2 :=
 (hbel.alloc hbel.size o).grown hg (by have:=hbel.size;simp;omega) (fun k hk=>(hown.lt k hk).1)
set_option maxRecDepth 100000 in
set_option maxHeartbeats 1000000 in
theorem tokens_any (s:ByteArray) (w:World) (hs:s.size ≤ 400) :
  Calls Tryz.prog 44 #[.string s] w fun e w'=>∃ v,e = .returned v ∧ w'.ownsRow w.heap.size 92 3 v (toksOf s).length ((toksOf s).flatMap tokCells) ∧ Below w.heap.size w w':=by
 obtain ⟨i0,hi,hz0,hz1,hz2⟩:=info_parts Tryz.infoTok
 have H0:Hid (toksOf s = toksAt s 0):=rfl
 generalize toksOf s = L at *
 go_enter Tryz.func44,Tryz.ntmps44
 go_wp2
 go_loopg [3,4,5,6,7,8] s.size (fun gk v i a r n m wr=>∃ k D,k + gk = s.size ∧ i = .int .i64 (k:Nat) ∧ L = D ++ toksAt s k ∧ wr.ownsRow w.heap.size 92 3 v D.length (D.flatMap tokCells) ∧ D.length ≤ k ∧ Below w.heap.size w wr)
 case atStart=>exact ⟨0,[],by omega,rfl,by simpa using H0.out,by simpa using World.ownsRow_nil _ _ _ _,by simp,Below.refl _ _⟩
 case round =>
  obtain ⟨k,D,hk,rfl,hL,hown,hD,hbel⟩:=hrel
  have HL:Hid (L = D ++ toksAt s k):=hL
  clear hL
  by_cases hlt:k < s.size
  ·have hB:=B_at s k hlt
   have HB:Hid (((s[k]'hlt).toNat:Int) = B s k):=hB
   clear hB
   by_cases hbl:B s k = 32 ∨ B s k = 10
   ·have HX:=hid (toksAt_blank s k hlt hbl)
    have HH:=hid hbl
    clear hbl
    go_wp2_with fail
    refine (isRun_any _ _).mono ?_;rintro e w1 ⟨rfl,rfl⟩
    rcases HH.out with h | h
    ·have h32:(((s[k]'hlt).toNat:Int) == 32) = true:=by rw [HB.out];simp [h]
     clear h HH
     go_wp2_with fail
     go_roundg (gk - 1)
     case rel=>exact ⟨k + 1,D,by omega,by go_num,by rw [HL.out,HX.out],hown,by omega,hbel⟩
     case measure=>omega
    ·have h32:(((s[k]'hlt).toNat:Int) == 32) = false:=by rw [HB.out];simp [h]
     have h10:(((s[k]'hlt).toNat:Int) == 10) = true:=by rw [HB.out];simp [h]
     clear h HH
     go_wp2_with fail
     go_roundg (gk - 1)
     case rel=>exact ⟨k + 1,D,by omega,by go_num,by rw [HL.out,HX.out],hown,by omega,hbel⟩
     case measure=>omega
   ·by_cases hr:runB (B s k) = true
    ·have HX:=hid (toksAt_run s k hlt hbl hr)
     have hr':runB ((s[k]'hlt).toNat:Int) = true:=by rw [HB.out];exact hr
     have h32:(((s[k]'hlt).toNat:Int) == 32) = false:=by rw [HB.out];simp;intro h;exact hbl (Or.inl h)
     have h10:(((s[k]'hlt).toNat:Int) == 10) = false:=by rw [HB.out];simp;intro h;exact hbl (Or.inr h)
     have HE:=hid (⟨hlt,hr⟩:k < s.size ∧ runB (B s k) = true)
     clear hbl hr
     go_wp2_with fail
     refine (isRun_any _ _).mono ?_;rintro e w1 ⟨rfl,rfl⟩;rw [hr']
     go_wp2_with fail
     clear hr' h32 h10
     go_loopg [4,6] (s.size - k) (fun g i r wr=>∃ j b,k ≤ j ∧ j + g = s.size ∧ i = .int .i64 (j:Nat) ∧ r = .bool b ∧ Hid (b = true ↔ (j < s.size ∧ runB (B s j) = true)) ∧ Hid (runEnd s s.size k = runEnd s s.size j) ∧ Hid (b = false → k < j) ∧ wr = w1)
     case atStart=>exact ⟨k,true,Nat.le_refl _,by omega,rfl,rfl,hid (by simpa using HE.out),hid rfl,hid (by simp),rfl⟩
     case round =>
      obtain ⟨j,b,hkj,hj,rfl,rfl,HI,HR,HK,rfl⟩:=hrel
      cases b with
      | true =>
       have hjs:=HI.out.1 rfl
       have HS:=hid (HR.out.trans (runEnd_step s j hjs.1 hjs.2))
       have hj1:j < s.size:=hjs.1
       clear hjs HI HR HK
       by_cases hj2:j + 1 < s.size
       ·have HB2:=hid (B_at s (j + 1) hj2)
        go_wp2_with fail
        refine (isRun_any _ _).mono ?_;rintro e w2 ⟨rfl,rfl⟩;rw [HB2.out]
        generalize hq:runB (B s (j + 1)) = q
        have HQ:=hid hq
        clear hq
        go_wp2_with fail
        go_roundg (gk - 1)
        case rel=>exact ⟨j + 1,q,by omega,by omega,by go_num,rfl,hid (by rw [HQ.out];exact ⟨fun h=>⟨hj2,h⟩,fun h=>h.2⟩),HS,hid (fun _=>by omega),rfl⟩
        case measure=>omega
       ·go_wp2_with fail
        go_roundg (gk - 1)
        case rel=>exact ⟨j + 1,false,by omega,by omega,by go_num,rfl,hid (by simp;omega),HS,hid (fun _=>by omega),rfl⟩
        case measure=>omega
      | false =>
       have HJ:=hid (HR.out.trans (runEnd_stop s j (fun h=>by simpa using HI.out.2 h)))
       have hkj':k < j:=HK.out rfl
       have hjs:j ≤ s.size:=by omega
       have HX2:=hid (by have:=HX.out;rw [HJ.out] at this;exact this)
       clear HI HR HK HJ HX HE
       go_wp2_with fail
       refine (isNumber_any _ _).mono ?_;rintro e w2 ⟨rfl,rfl⟩
       generalize hnb:numB (s.extract k j).toList = nb
       go_wp2_with fail
       refine (isName_any _ _).mono ?_;rintro e w3 ⟨rfl,rfl⟩
       generalize hmb:nameB (s.extract k j).toList = mb
       have HT:=hid (show (!nb && !mb) = badRun (s.extract k j) by unfold badRun;rw [hnb,hmb])
       clear hnb hmb
       cases nb
       all_goals
        go_wp2_with (at_builtin;refine wpList_append_own _ rfl _ _ 89 rfl w.heap.size 92 i0 _ 3 32 Tryz.underlying89 hi hz0 hz1 hz2 rfl (by decide) _ _ _ rfl (hown.alloc _) ⟨_,0,none⟩ 1 1 [_,_,_] rfl rfl (cells_three _ _ _ _ _) (by simp [Value.oneCell']) (by unfold maxLen;omega) (by omega) (by have:=hbel.size;simp;omega) ?_)
        intro v' w4 hown' hgrow _
        have hbel':=below_append' hbel hown hgrow
        have hown2:=tok_owns (t:=⟨s.extract k j,k,badRun (s.extract k j)⟩) (by rw [tokCells,← HT.out];rfl) hown'
        have HL2:=hid (tok_list HL.out HX2.out)
        clear hown' hgrow hown HL
        go_wp2
        go_roundg (s.size - j)
        case rel=>exact ⟨j,_,by omega,by go_num,HL2.out,hown2,by simp;omega,hbel'⟩
        case measure=>omega
    ·have HX:=hid (toksAt_mark s k hlt hbl hr)
     have hr':runB ((s[k]'hlt).toNat:Int) = false:=by rw [HB.out];simpa using hr
     have h32:(((s[k]'hlt).toNat:Int) == 32) = false:=by rw [HB.out];simp;intro h;exact hbl (Or.inl h)
     have h10:(((s[k]'hlt).toNat:Int) == 10) = false:=by rw [HB.out];simp;intro h;exact hbl (Or.inr h)
     clear hbl hr
     have b1:(0:Int) ≤ (k:Int) + 1:=by omega
     have b2:(k:Int) + 1 ≤ (s.size:Int):=by omega
     have b3:(k:Int) ≤ (k:Int) + 1:=by omega
     by_cases h123:(((s[k]'hlt).toNat:Int) != 123) = true
     ·go_wp2_with fail
      refine (isRun_any _ _).mono ?_;rintro e w1 ⟨rfl,rfl⟩;rw [hr']
      go_wp2_with fail
      go_region_law (refine step_append_own rfl (.tmp 20) (.tmp 37) 89 rfl w.heap.size 92 i0 _ 3 32 Tryz.underlying89 hi hz0 hz1 hz2 rfl (by decide) u3 D.length (D.flatMap tokCells) (by simp [Act.eval]) (hown.alloc _) ⟨w1.heap.size,0,none⟩ 1 1 [.string (s.extract k (k + 1)),.int .i64 k,.bool ((((s[k]'hlt).toNat:Int) != 125))] (by simp [Act.eval]) rfl (cells_three _ _ _ _ _) (by simp [Value.oneCell']) (by unfold maxLen;omega) (by omega) (by have:=hbel.size;simp;omega) ?_;intro v' w2 hown' hgrow _)
      have hbel':=below_append hbel hown hgrow
      have hown2:=tok_owns (t:=⟨s.extract k (k + 1),k,!(B s k == 123) && !(B s k == 125)⟩) (by rw [← HB.out,tokCells,mark_bad1 _ h123]) hown'
      have HL2:=hid (tok_list HL.out HX.out)
      clear hown' hgrow hown HL
      go_wp2
      go_roundg (gk - 1)
      case rel=>exact ⟨k + 1,_,by omega,by go_num,HL2.out,hown2,by simp;omega,hbel'⟩
      case measure=>omega
     ·have hx:((s[k]'hlt).toNat:Int) = 123:=by simpa using h123
      have HZ:=hid hx
      clear h123 hr' h32 h10
      have hr':runB 123 = false:=by decide
      go_wp2_with fail
      refine (isRun_any _ _).mono ?_;rintro e w1 ⟨rfl,rfl⟩;rw [hr']
      go_wp2_with fail
      (first | (go_region_law (refine step_append_own rfl (.tmp 20) (.tmp 37) 89 rfl w.heap.size 92 i0 _ 3 32 Tryz.underlying89 hi hz0 hz1 hz2 rfl (by decide) u3 D.length (D.flatMap tokCells) (by simp [Act.eval]) (hown.alloc _) ⟨w1.heap.size,0,none⟩ 1 1 [.string (s.extract k (k + 1)),.int .i64 k,.bool false] (by simp [Act.eval]) rfl (cells_three _ _ _ _ _) (by simp [Value.oneCell']) (by unfold maxLen;omega) (by omega) (by have:=hbel.size;simp;omega) ?_;intro v' w2 hown' hgrow _)) | fail)
      all_goals
       have hbel':=below_append hbel hown hgrow
       have hown2:=tok_owns (t:=⟨s.extract k (k + 1),k,!(B s k == 123) && !(B s k == 125)⟩) (by rw [← HB.out,tokCells,HZ.out,mark_bad0 123 (by decide)]) hown'
       have HL2:=hid (tok_list HL.out HX.out)
       clear hown' hgrow hown HL
       go_wp2
       go_roundg (gk - 1)
       case rel=>exact ⟨k + 1,_,by omega,by go_num,HL2.out,hown2,by simp;omega,hbel'⟩
       case measure=>omega
  ·go_wp2_with fail
   go_ret
   exact ⟨u3,rfl,by rw [HL.out,toksAt_end s k hlt];simpa using hown,hbel⟩
end Go.Proofs.YtopcgnjocklcoaaGreatDoor
