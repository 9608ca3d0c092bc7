/- The leaves of package courierref: what each small function answers, for every argument. -/
import Derived.Test.YtdgcamlmjmnpeaaGreatDoorRows
import Derived.WalkKit
import Derived.WalkSpells
import Derived.WalkLawsBesides
import Derived.Test.YtdgcamlmjmnpeaaGreatDoorMFrA
import Derived.Test.YtdgcamlmjmnpeaaGreatDoorShelf
import Derived.Deep.RegionHeld3
import Derived.Deep.RegionLaw
import Derived.Deep.LoopGhost
namespace Go.Proofs.YtdgcamlmjmnpeaaGreatDoor
open Go.RowKit
def smallB (c:Int):Bool:=decide (97 ≤ c) && decide (c ≤ 122)
def digitB (c:Int):Bool:=decide (48 ≤ c) && decide (c ≤ 57)
def leastI (a b:Int):Int:=if a < 0 ∨ (0 ≤ b ∧ b < a) then b else a
def runB (c:Int):Bool:=smallB c || digitB c
def nameB (l:List UInt8):Bool:=match l with | []=>false | c :: _=>smallB (c.toNat:Int) && decide (l.length ≤ 12)
theorem nameB_at (s:ByteArray) (h:0 < s.size):nameB s.toList = (smallB (s[0].toNat:Int) && decide ((s.size:Int) ≤ 12)):=by
 obtain ⟨⟨l⟩⟩:=s
 rw [ByteArray.toList_eq]
 cases l with
 | nil=>simp [ByteArray.size] at h
 | cons c r =>
  have e:(({ data:={ toList:=c :: r } }:ByteArray)[0]'h) = c:=rfl
  have e2:(({ data:={ toList:=c :: r } }:ByteArray).size) = (c :: r).length:=rfl
  rw [e,e2];simp only [nameB]
  congr 1
  exact decide_eq_decide.2 (by omega)
def typeWord (l:List UInt8):Bool:=l == [109,101,115,115,97,103,101] || l == [101,110,117,109]
def words:List (List UInt8):=[[109,101,115,115,97,103,101],[101,110,117,109],[115,116,114,101,97,109],[99,97,108,108],[111,112,116],[108,105,115,116],[105,110,116],[98,111,111,108],[116,101,120,116]]
def wordB (l:List UInt8):Bool:=words.any (fun a=>a == l)
def freeB (l:List UInt8):Bool:=nameB l && !wordB l
def builtB (l:List UInt8):Bool:=l == [105,110,116] || l == [98,111,111,108] || l == [116,101,120,116]
def baseB (l:List UInt8):Bool:=freeB l || builtB l
end Go.Proofs.YtdgcamlmjmnpeaaGreatDoor
namespace Go.Proofs.YtdgcamlmjmnpeaaGreatDoor
open Go.RowKit
def numB (l:List UInt8):Bool:=(List.range 99).any (fun i=>l == Lib.decDigits (i + 1))
theorem numB_hit {l:List UInt8} {k:Nat} (h1:1 ≤ k) (h2:k ≤ 99) (h:l = Lib.decDigits k):numB l = true:=by
 unfold numB;rw [List.any_eq_true]
 exact ⟨k - 1,by simp;omega,by rw [show k - 1 + 1 = k from by omega,h];simp⟩
def dec2 (k:Nat):List UInt8:=if k < 10 then [UInt8.ofNat (48 + k)] else [UInt8.ofNat (48 + k / 10),UInt8.ofNat (48 + k % 10)]
theorem dec2_eq (k:Nat) (h:k < 100):Lib.decDigits k = dec2 k:=by
 rw [Lib.decDigits];unfold dec2
 by_cases h1:k < 10
 ·simp [h1]
 ·have h2:k / 10 < 10:=by omega
  rw [Lib.decDigits];simp [h1,h2]
theorem atoi_dec2:∀ k,k < 100 → Lib.atoi (dec2 k) = some (k:Int) ∧ (dec2 k).length ≤ 2:=by decide
theorem numB_cases {l:List UInt8} (h:numB l = true):∃ k,1 ≤ k ∧ k ≤ 99 ∧ l = dec2 k:=by
 unfold numB at h;rw [List.any_eq_true] at h
 obtain ⟨i,hi,he⟩:=h
 simp at hi he
 exact ⟨i + 1,by omega,by omega,by rw [he,dec2_eq _ (by omega)]⟩
theorem numB_atoi {s:ByteArray} (h:numB s.toList = true):∃ k:Nat,1 ≤ k ∧ k ≤ 99 ∧ s.size ≤ 18 ∧ Lib.atoi s.data.toList = some (k:Int):=by
 obtain ⟨k,h1,h2,he⟩:=numB_cases h
 have:=atoi_dec2 k (by omega)
 rw [ByteArray.toList_eq] at he
 refine ⟨k,h1,h2,?_,by rw [he];exact this.1⟩
 show s.data.toList.length ≤ 18
 rw [he];omega
end Go.Proofs.YtdgcamlmjmnpeaaGreatDoor
namespace Go.Proofs.YtdgcamlmjmnpeaaGreatDoor
def B (s:ByteArray) (i:Nat):Int:=((s.toList.getD i 0).toNat:Int)
theorem B_at (s:ByteArray) (i:Nat) (h:i < s.size):((s[i]'h).toNat:Int) = B s i:=by
 unfold B
 have e:s.toList.getD i 0 = s[i]'h:=by
  rw [ByteArray.toList_eq,List.getD_eq_getElem?_getD,List.getElem?_eq_getElem (by simpa using h)];rfl
 rw [e]
structure Tok where
 text:ByteArray
 at_:Nat
 bad:Bool
def runEnd (s:ByteArray):Nat → Nat → Nat
 | 0,i=>i
 | f + 1,i=>if i < s.size ∧ runB (B s i) = true then runEnd s f (i + 1) else i
def badRun (t:ByteArray):Bool:=!(numB t.toList) && !(nameB t.toList)
def toks (s:ByteArray):Nat → Nat → List Tok
 | 0,_=>[]
 | f + 1,i =>
  if i < s.size then
   if B s i = 32 ∨ B s i = 10 then toks s f (i + 1)
   else if runB (B s i) = true then ⟨s.extract i (runEnd s s.size i),i,badRun (s.extract i (runEnd s s.size i))⟩ :: toks s f (runEnd s s.size i)
   else ⟨s.extract i (i + 1),i,!(B s i == 123) && !(B s i == 125)⟩ :: toks s f (i + 1)
  else []
def toksOf (s:ByteArray):List Tok:=toks s (s.size + 1) 0
theorem runEnd_ge (s:ByteArray):∀ f i,i ≤ runEnd s f i
 | 0,i=>Nat.le_refl _
 | f + 1,i=>by
  unfold runEnd;split
  ·exact Nat.le_trans (Nat.le_succ i) (runEnd_ge s f (i + 1))
  ·exact Nat.le_refl _
theorem runEnd_le (s:ByteArray):∀ f i,i ≤ s.size → runEnd s f i ≤ s.size
 | 0,i,h=>h
 | f + 1,i,h=>by
  unfold runEnd;split
  ·rename_i hh;exact runEnd_le s f (i + 1) hh.1
  ·exact h
theorem runEnd_fuel (s:ByteArray):∀ f g i,s.size ≤ f + i → s.size ≤ g + i → runEnd s f i = runEnd s g i
 | 0,g,i,h1,h2=>by
  cases g with
  | zero=>rfl
  | succ g=>unfold runEnd;rw [if_neg (by omega)]
 | f + 1,0,i,h1,h2=>by unfold runEnd;rw [if_neg (by omega)]
 | f + 1,g + 1,i,h1,h2=>by
  unfold runEnd;split
  ·exact runEnd_fuel s f g (i + 1) (by omega) (by omega)
  ·rfl
theorem runEnd_step (s:ByteArray) (i:Nat) (h:i < s.size) (hr:runB (B s i) = true):runEnd s s.size i = runEnd s s.size (i + 1):=by
 rw [runEnd_fuel s s.size (s.size + 1) i (by omega) (by omega)]
 conv=>lhs;unfold runEnd
 rw [if_pos ⟨h,hr⟩]
theorem runEnd_stop (s:ByteArray) (i:Nat) (h:¬ (i < s.size ∧ runB (B s i) = true)):runEnd s s.size i = i:=by
 cases hs:s.size with
 | zero=>rfl
 | succ n=>unfold runEnd;rw [if_neg h]
theorem toks_fuel (s:ByteArray):∀ f g i,s.size < f + i → s.size < g + i → toks s f i = toks s g i
 | 0,g,i,h1,h2=>by
  cases g with
  | zero=>rfl
  | succ g=>unfold toks;rw [if_neg (by omega)]
 | f + 1,0,i,h1,h2=>by unfold toks;rw [if_neg (by omega)]
 | f + 1,g + 1,i,h1,h2=>by
  unfold toks
  by_cases hi:i < s.size
  ·rw [if_pos hi,if_pos hi]
   split
   ·exact toks_fuel s f g (i + 1) (by omega) (by omega)
   ·split
    ·rename_i hr
     have:i + 1 ≤ runEnd s s.size i:=by rw [runEnd_step s i hi hr];exact runEnd_ge s _ _
     rw [toks_fuel s f g _ (by omega) (by omega)]
    ·rw [toks_fuel s f g (i + 1) (by omega) (by omega)]
  ·rw [if_neg hi,if_neg hi]
def toksAt (s:ByteArray) (i:Nat):List Tok:=toks s (s.size + 1) i
theorem toksAt_end (s:ByteArray) (i:Nat) (h:¬ i < s.size):toksAt s i = []:=by unfold toksAt toks;rw [if_neg h]
theorem toksAt_blank (s:ByteArray) (i:Nat) (h:i < s.size) (hb:B s i = 32 ∨ B s i = 10):toksAt s i = toksAt s (i + 1):=by
 unfold toksAt
 conv=>lhs;unfold toks
 rw [if_pos h,if_pos hb]
 exact toks_fuel s _ _ _ (by omega) (by omega)
theorem toksAt_run (s:ByteArray) (i:Nat) (h:i < s.size) (hb:¬ (B s i = 32 ∨ B s i = 10)) (hr:runB (B s i) = true) :
  toksAt s i = ⟨s.extract i (runEnd s s.size i),i,badRun (s.extract i (runEnd s s.size i))⟩ :: toksAt s (runEnd s s.size i):=by
 unfold toksAt
 conv=>lhs;unfold toks
 rw [if_pos h,if_neg hb,if_pos hr]
 have:i + 1 ≤ runEnd s s.size i:=by rw [runEnd_step s i h hr];exact runEnd_ge s _ _
 rw [toks_fuel s s.size (s.size + 1) _ (by omega) (by omega)]
theorem toksAt_mark (s:ByteArray) (i:Nat) (h:i < s.size) (hb:¬ (B s i = 32 ∨ B s i = 10)) (hr:¬ runB (B s i) = true) :
  toksAt s i = ⟨s.extract i (i + 1),i,!(B s i == 123) && !(B s i == 125)⟩ :: toksAt s (i + 1):=by
 unfold toksAt
 conv=>lhs;unfold toks
 rw [if_pos h,if_neg hb,if_neg hr]
 rw [toks_fuel s s.size (s.size + 1) _ (by omega) (by omega)]
end Go.Proofs.YtdgcamlmjmnpeaaGreatDoor
namespace Go.Proofs.YtdgcamlmjmnpeaaGreatDoor
open Go.RowKit
end Go.Proofs.YtdgcamlmjmnpeaaGreatDoor
