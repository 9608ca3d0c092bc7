/- The program's scan gives the reference's tokens, one by one (no walk). -/
import Derived.Test.YtdgcamlmjmnpeaaGreatDoorMBlock
import Derived.Test.YtdgcamlmjmnpeaaGreatDoorMParse
import Derived.Test.YtdgcamlmjmnpeaaGreatDoorMRead
namespace Go.Proofs.YtdgcamlmjmnpeaaGreatDoor
theorem toks_blank (s:ByteArray):∀ f i,toksAt s i = toksAt s (blankEnd s f i)
 | 0,i=>rfl
 | f + 1,i=>by
  unfold blankEnd
  split
  ·rename_i h
   rw [toksAt_blank s i h.1 (by have:=h.2;simp [blankB] at this;exact this)]
   exact toks_blank s f (i + 1)
  ·rfl
theorem bEnd_not (s:ByteArray):∀ f i,s.size ≤ f + i → ¬ (blankEnd s f i < s.size ∧ blankB (B s (blankEnd s f i)) = true)
 | 0,i,h=>by intro hh;have:=hh.1;simp only [blankEnd] at this;omega
 | f + 1,i,h=>by
  unfold blankEnd
  by_cases hc:i < s.size ∧ blankB (B s i) = true
  ·rw [if_pos hc];exact bEnd_not s f (i + 1) (by omega)
  ·rw [if_neg hc];exact hc
theorem runK_bad (l:List UInt8):((runK l) == 1) = (!(numB l) && !(nameB l)):=by
 unfold runK
 cases nameB l <;> cases numB l <;> rfl
theorem markK_bad (c:Int):((markK c) == 1) = (!(c == 123) && !(c == 125)):=by
 unfold markK
 by_cases h1:c = 123
 ·simp [h1]
 ·by_cases h2:c = 125
  ·simp [h2]
  ·simp [h1,h2]
theorem runK_ne (l:List UInt8):runK l ≠ 0:=by
 unfold runK;split
 ·omega
 ·split <;> omega
theorem markK_ne (c:Int):markK c ≠ 0:=by rcases markK_cases c with h | h | h <;> omega
theorem scan_toks (s:ByteArray) (i:Nat) (hi:i ≤ s.size) :
  ((scanP s i).kind = 0 ∧ toksAt s i = [] ∧ (scanP s i).at_ = s.size) ∨
  ((scanP s i).kind ≠ 0 ∧ toksAt s i = ⟨(scanP s i).text,(scanP s i).at_,(scanP s i).kind == 1⟩ :: toksAt s ((scanP s i).at_ + (scanP s i).text.size)):=by
 have hb:=toks_blank s s.size i
 have hle:=bEnd_le s i hi
 have hnb:=bEnd_not s s.size i (by omega)
 rw [hb]
 unfold scanP
 change ((scanAt s (bEnd s i)).kind = 0 ∧ toksAt s (bEnd s i) = [] ∧ _) ∨ ((scanAt s (bEnd s i)).kind ≠ 0 ∧ toksAt s (bEnd s i) = _)
 change ¬ (bEnd s i < s.size ∧ blankB (B s (bEnd s i)) = true) at hnb
 generalize bEnd s i = k at *
 by_cases hk:k = s.size
 ·left
  unfold scanAt
  rw [if_pos hk]
  exact ⟨rfl,toksAt_end s k (by omega),hk⟩
 ·right
  have hlt:k < s.size:=by omega
  have hbl:¬ (B s k = 32 ∨ B s k = 10):=fun hh=>hnb ⟨hlt,by simpa [blankB] using hh⟩
  cases hr:runB (B s k) with
  | true =>
   have hge:=runEnd_ge s s.size (k + 1)
   rw [← runEnd_step s k hlt hr] at hge
   have hle2:=runEnd_le s s.size k (by omega)
   unfold scanAt
   rw [if_neg hk,if_neg (by omega)]
   refine ⟨runK_ne _,?_⟩
   rw [toksAt_run s k hlt hbl hr]
   have hz:(s.extract k (runEnd s s.size k)).size = runEnd s s.size k - k:=by simp [ByteArray.size_extract];omega
   simp only [hz,runK_bad,badRun]
   rw [show k + (runEnd s s.size k - k) = runEnd s s.size k from by omega]
  | false =>
   have hst:=runEnd_stop s k (by simp [hr])
   unfold scanAt
   rw [if_neg hk,if_pos hst]
   refine ⟨markK_ne _,?_⟩
   rw [toksAt_mark s k hlt hbl (by simp [hr])]
   have hz:(s.extract k (k + 1)).size = 1:=by simp [ByteArray.size_extract];omega
   simp only [hz,markK_bad]
end Go.Proofs.YtdgcamlmjmnpeaaGreatDoor
namespace Go.Proofs.YtdgcamlmjmnpeaaGreatDoor
theorem dec2_name:∀ k,k < 100 → nameB (dec2 k) = false:=by decide
theorem num_name {l:List UInt8} (h:numB l = true):nameB l = false:=by
 obtain ⟨k,_,h2,rfl⟩:=numB_cases h
 exact dec2_name k (by omega)
theorem dec2_first:∀ k,k < 100 → digitB (((dec2 k).getD 0 0).toNat:Int) = true:=by decide
theorem one_byte (s:ByteArray) (k:Nat) (h:k < s.size):(s.extract k (k + 1)).toList = [s.toList.getD k 0]:=by
 rw [Lib.extract_toList,ByteArray.toList_eq]
 have hk:k < s.data.toList.length:=h
 rw [List.drop_eq_getElem_cons hk,show k + 1 - k = 1 from by omega]
 simp [List.getD_eq_getElem?_getD]
 rw [Array.getElem?_eq_getElem h];rfl
theorem mark_kinds {c:UInt8} (h:runB (c.toNat:Int) = false):nameB [c] = false ∧ numB [c] = false:=by
 constructor
 ·simp only [runB,Bool.or_eq_false_iff] at h
  simp [nameB,h.1]
 ·cases hn:numB [c] with
  | false=>rfl
  | true =>
   obtain ⟨k,_,h2,h3⟩:=numB_cases hn
   have:=dec2_first k (by omega)
   rw [← h3] at this
   simp only [runB,Bool.or_eq_false_iff] at h
   simp at this
   rw [this] at h;simp at h
theorem Tk.kinds {s:ByteArray} {t:PTok} (h:Tk s t) (h0:t.kind ≠ 0):(t.kind == 2) = nameB t.text.toList ∧ (t.kind == 3) = numB t.text.toList ∧ (t.kind == 4) = isW t.text wOpen ∧ (t.kind == 5) = isW t.text wShut:=by
 obtain ⟨i,hi,rfl⟩:=h
 have hb:=bEnd_le s i hi
 unfold scanP at *
 generalize bEnd s i = k at *
 by_cases hk:k = s.size
 ·unfold scanAt at h0;rw [if_pos hk] at h0;simp at h0
 ·have hlt:k < s.size:=by omega
  by_cases hr:runEnd s s.size k = k
  ·unfold scanAt
   rw [if_neg hk,if_pos hr]
   have hrb:runB (B s k) = false:=by
    cases hh:runB (B s k) with
    | false=>rfl
    | true=>have h1:=runEnd_ge s s.size (k + 1);rw [← runEnd_step s k hlt hh] at h1;omega
   have hone:=one_byte s k hlt
   have hB:B s k = ((s.toList.getD k 0).toNat:Int):=rfl
   have hm:=mark_kinds (c:=s.toList.getD k 0) (by rw [← hB];exact hrb)
   simp only [hone,hm.1,hm.2,isW,wOpen,wShut]
   generalize hc:s.toList.getD k 0 = c at *
   have e4:([c] == [(123:UInt8)]) = decide (B s k = 123):=by
    rw [hB];by_cases hh:c = 123
    ·subst hh;rfl
    ·have:¬ ((c.toNat:Int) = 123):=fun e=>hh (UInt8.toNat_inj.1 (by simpa using (by omega:c.toNat = 123)))
     simp [hh,this]
   have e5:([c] == [(125:UInt8)]) = decide (B s k = 125):=by
    rw [hB];by_cases hh:c = 125
    ·subst hh;rfl
    ·have:¬ ((c.toNat:Int) = 125):=fun e=>hh (UInt8.toNat_inj.1 (by simpa using (by omega:c.toNat = 125)))
     simp [hh,this]
   rw [e4,e5]
   unfold markK
   by_cases h1:B s k = 123
   ·simp [h1]
   ·by_cases h2:B s k = 125
    ·simp [h2]
    ·simp [h1,h2]
  ·unfold scanAt
   rw [if_neg hk,if_neg hr]
   have hrb:runB (B s k) = true:=by
    cases hh:runB (B s k) with
    | true=>rfl
    | false=>exact absurd (runEnd_stop s k (by simp [hh])) hr
   have hge:=runEnd_ge s s.size k
   have hle:=runEnd_le s s.size k (by omega)
   obtain ⟨hf0,hf1⟩:=run_first s k (runEnd s s.size k) (by omega) hle
   obtain ⟨r,hfr⟩:=first_of (s.extract k (runEnd s s.size k)) hf0
   have hBk:=B_at s k hlt
   have hno:∀ d:UInt8,runB (d.toNat:Int) = false → ((s.extract k (runEnd s s.size k)).toList == [d]) = false:=by
    intro d hd
    rw [hfr,hf1]
    cases hq:(s[k] :: r == [d]) with
    | false=>rfl
    | true =>
     have:=eq_of_beq hq
     simp at this
     rw [← hBk,this.1,hd] at hrb;cases hrb
   have h4:=hno 123 (by decide)
   have h5:=hno 125 (by decide)
   simp only [isW,wOpen,wShut,h4,h5]
   generalize (s.extract k (runEnd s s.size k)).toList = l
   unfold runK
   cases hnb:numB l with
   | true=>rw [num_name hnb];simp
   | false=>cases nameB l <;> simp
end Go.Proofs.YtdgcamlmjmnpeaaGreatDoor
namespace Go.Proofs.YtdgcamlmjmnpeaaGreatDoor
def tl (s:ByteArray) (t:PTok):List Tok:=if t.kind = 0 then [] else ⟨t.text,t.at_,t.kind == 1⟩ :: toksAt s (t.at_ + t.text.size)
theorem tl_scan (s:ByteArray) (i:Nat) (hi:i ≤ s.size):tl s (scanP s i) = toksAt s i:=by
 unfold tl
 rcases scan_toks s i hi with ⟨h1,h2,_⟩ | ⟨h1,h2⟩
 ·rw [if_pos h1,h2]
 ·rw [if_neg h1,← h2]
theorem tl_next {s:ByteArray} {t:PTok} (h:Tk s t):tl s (nextP s t) = toksAt s (t.at_ + t.text.size):=tl_scan s _ h.fit
theorem Tk.atEnd {s:ByteArray} {t:PTok} (h:Tk s t) (h0:t.kind = 0):t.at_ = s.size:=by
 obtain ⟨i,hi,rfl⟩:=h
 rcases scan_toks s i hi with ⟨_,_,h3⟩ | ⟨h1,_⟩
 ·exact h3
 ·exact absurd h0 h1
def tokOf (t:PTok):Tok:=⟨t.text,t.at_,t.kind == 1⟩
def G (s:ByteArray) (t:PTok) (L:List RItem) (a:Nat):Option (List RItem) × Int:=goP s.size (tl s t) L a
theorem G_step {s:ByteArray} {t:PTok} {L L':List RItem} {a a':Nat} (h:Tk s t) (h0:t.kind ≠ 0) (hs:stepP L a (tokOf t) = some (L',a')):G s t L a = G s (nextP s t) L' a':=by
 unfold G;rw [tl_next h];unfold tl;rw [if_neg h0]
 show goP s.size (tokOf t :: _) L a = _
 simp only [goP,hs]
theorem G_fault {s:ByteArray} {t:PTok} {L:List RItem} {a:Nat} (h:Tk s t) (ha:a ≠ 0) (hs:t.kind ≠ 0 → stepP L a (tokOf t) = none):G s t L a = (none,(t.at_:Int)):=by
 unfold G tl
 by_cases h0:t.kind = 0
 ·rw [if_pos h0,h.atEnd h0];simp [goP,ha]
 ·rw [if_neg h0]
  show goP s.size (tokOf t :: _) L a = _
  simp only [goP,hs h0];rfl
theorem step_last {L:List RItem} {it:RItem} {a:Nat} {t:PTok} (ha:a ≠ 0) (h1:t.kind ≠ 1):stepP (L ++ [it]) a (tokOf t) = if (inItemP it a (tokOf t)).2 = 9 then none else some (L ++ [(inItemP it a (tokOf t)).1],(inItemP it a (tokOf t)).2):=by
 have hb:(tokOf t).bad = false:=by simp [tokOf];exact h1
 simp [stepP,hb,ha]
theorem step_bad {L:List RItem} {a:Nat} {t:PTok} (h1:t.kind = 1):stepP L a (tokOf t) = none:=by simp [stepP,tokOf,h1]
theorem G_in {s:ByteArray} {t:PTok} {L:List RItem} {it it':RItem} {a a':Nat} (h:Tk s t) (ha:a ≠ 0) (h0:t.kind ≠ 0) (h1:t.kind ≠ 1) (hi:inItemP it a (tokOf t) = (it',a')) (h9:a' ≠ 9):G s t (L ++ [it]) a = G s (nextP s t) (L ++ [it']) a' :=
 G_step h h0 (by rw [step_last ha h1,hi];simp [h9])
theorem G_out {s:ByteArray} {t:PTok} {L:List RItem} {it:RItem} {a:Nat} (h:Tk s t) (ha:a ≠ 0) (hi:t.kind ≠ 0 → t.kind ≠ 1 → (inItemP it a (tokOf t)).2 = 9):G s t (L ++ [it]) a = (none,(t.at_:Int)) :=
 G_fault h ha (fun h0=>by
  by_cases h1:t.kind = 1
  ·exact step_bad h1
  ·rw [step_last ha h1,if_pos (hi h0 h1)])
theorem nameOk_free {s:ByteArray} {t:PTok} (h:Tk s t) (h0:t.kind ≠ 0):nameOk t = freeB t.text.toList:=by
 unfold nameOk freeB;rw [(h.kinds h0).1,Bool.and_comm]
theorem nameOk_zero {t:PTok} (h0:t.kind = 0):nameOk t = false:=by simp [nameOk,h0]
theorem built_name {l:List UInt8} (h:builtB l = true):nameB l = true:=by
 simp only [builtB,Bool.or_eq_true,beq_iff_eq] at h
 rcases h with (h | h) | h <;> (rw [h];decide)
theorem baseOk_base {s:ByteArray} {t:PTok} (h:Tk s t) (h0:t.kind ≠ 0):baseOk t = baseB t.text.toList:=by
 unfold baseOk baseB freeB;rw [(h.kinds h0).1]
 cases hb:builtB t.text.toList with
 | true=>rw [built_name hb];simp
 | false=>cases wordB t.text.toList <;> cases nameB t.text.toList <;> rfl
theorem isWordT_eq {s:ByteArray} {t:PTok} {l:List UInt8} (h:Tk s t) (hl:nameB l = true) (hne:l ≠ []):isWordT t l = isW t.text l:=by
 unfold isWordT isW
 cases hb:(t.text.toList == l) with
 | false=>rfl
 | true =>
  have e:=eq_of_beq hb
  by_cases h0:t.kind = 0
  ·exfalso
   obtain ⟨i,hi,rfl⟩:=h
   unfold scanP scanAt at *
   split at h0
   ·rename_i hk
    rw [if_pos hk,ByteArray.toList_eq] at e
    exact hne e.symm
   ·split at h0
    ·exact absurd h0 (markK_ne _)
    ·exact absurd h0 (runK_ne _)
  ·rw [(h.kinds h0).1,e,hl];rfl
theorem text_eq {b:ByteArray} {l:List UInt8} (h:b.toList = l):b = ⟨l.toArray⟩:=by
 rw [ByteArray.toList_eq] at h
 subst h
 rfl
def shapeTxt (n:Nat):ByteArray:=if n = 1 then ⟨wOpt.toArray⟩ else if n = 2 then ⟨wList.toArray⟩ else emptyB
def toRF (f:PField):RField:=⟨f.number,f.name,shapeTxt f.shape,f.base,f.numberAt,f.nameAt,f.baseAt⟩
theorem field_eq {s:ByteArray} {t:PTok} (h:Tk s t) (L:List RItem) (it:RItem) (F:List RField) (h5:F = [] ∨ t.kind ≠ 5) :
  G s t (L ++ [{ it with fields:=F }]) 3 = if (fieldT s t).1 = true then G s (fieldT s t).2 (L ++ [{ it with fields:=F ++ [toRF (fieldV s t (numI t.text.toList))] }]) 3 else (none,((fieldT s t).2.at_:Int)):=by
 by_cases hk:t.kind = 3
 ·have h0:t.kind ≠ 0:=by omega
  have hnb:numB t.text.toList = true:=by rw [← (h.kinds h0).2.1];simp [hk]
  rw [G_in (it':={ it with fields:=F ++ [⟨numI t.text.toList,emptyB,emptyB,emptyB,t.at_,0,0⟩] }) (a':=4) h (by omega) h0 (by omega) (by simp [inItemP,tokOf,hnb]) (by omega)]
  have hk3:(t.kind == 3) = true:=by simp [hk]
  cases hno:nameOk (nextP s t) with
  | false =>
   have hf:fieldT s t = (false,nextP s t):=by simp [fieldT,hk3,hno]
   rw [hf];simp only [Bool.false_eq_true,if_false]
   exact G_out h.next (by omega) (fun h0' _=>by
    have:=nameOk_free h.next h0'
    rw [hno] at this
    simp [inItemP,tokOf,← this])
  | true =>
   have h0':(nextP s t).kind ≠ 0:=fun e=>by rw [nameOk_zero e] at hno;cases hno
   have hfr:freeB (nextP s t).text.toList = true:=by rw [← nameOk_free h.next h0'];exact hno
   have hk2:(nextP s t).kind = 2:=by simp only [nameOk,Bool.and_eq_true] at hno;exact eq_of_beq hno.2
   rw [G_in (it':={ it with fields:=F ++ [⟨numI t.text.toList,(nextP s t).text,emptyB,emptyB,t.at_,(nextP s t).at_,0⟩] }) (a':=5) h.next (by omega) h0' (by omega) (by simp [inItemP,tokOf,hfr,setLast_snoc]) (by omega)]
   have ht2:=h.next.next
   generalize hu:nextP s (nextP s t) = u at *
   have hopt:isWordT u wOpt = isW u.text wOpt:=isWordT_eq ht2 (by decide) (by decide)
   have hlis:isWordT u wList = isW u.text wList:=isWordT_eq ht2 (by decide) (by decide)
   cases hsh:shapeOk u with
   | false =>
    have hso:=hsh
    unfold shapeOk at hso
    rw [Bool.or_eq_false_iff,hopt,hlis] at hso
    have hv:shapeP u = 0:=by simp [shapeP,hopt,hlis,hso.1,hso.2]
    cases hbo:baseOk u with
    | false =>
     have hf:fieldT s t = (false,u):=by simp [fieldT,hk3,hno,hu,hsh,hbo,afterT]
     rw [hf];simp only [Bool.false_eq_true,if_false]
     exact G_out ht2 (by omega) (fun h0u _=>by
      have:=baseOk_base ht2 h0u
      rw [hbo] at this
      simp [inItemP,tokOf,← this,hso.1,hso.2])
    | true =>
     have hku:u.kind = 2:=by simp only [baseOk,Bool.and_eq_true] at hbo;exact eq_of_beq hbo.2
     have hbb:baseB u.text.toList = true:=by rw [← baseOk_base ht2 (by omega)];exact hbo
     have hf:fieldT s t = (true,nextP s u):=by simp [fieldT,hk3,hno,hu,hsh,hbo,afterT]
     rw [hf];simp only [if_true]
     rw [G_in (it':={ it with fields:=F ++ [toRF (fieldV s t (numI t.text.toList))] }) (a':=3) ht2 (by omega) (by omega) (by omega) (by simp [inItemP,tokOf,hbb,hso.1,hso.2,setLast_snoc,toRF,fieldV,hu,hsh,afterT,hv,shapeTxt]) (by omega)]
   | true =>
    have hso:=hsh
    unfold shapeOk at hso
    rw [Bool.or_eq_true,hopt,hlis] at hso
    have hku:u.kind = 2:=by
     simp only [shapeOk,isWordT,Bool.or_eq_true,Bool.and_eq_true] at hsh
     rcases hsh with hq | hq <;> exact eq_of_beq hq.2
    have hst:shapeTxt (shapeP u) = u.text:=by
     rcases hso with hq | hq
     ·have hv:shapeP u = 1:=by simp [shapeP,hopt,hq]
      rw [hv,text_eq (eq_of_beq hq)];rfl
     ·have hne:isW u.text wOpt = false:=by
       unfold isW at hq ⊢;rw [eq_of_beq hq];decide
      have hv:shapeP u = 2:=by simp [shapeP,hopt,hlis,hq,hne]
      rw [hv,text_eq (eq_of_beq hq)];rfl
    have hor:(isW u.text wOpt || isW u.text wList) = true:=by rw [Bool.or_eq_true];exact hso
    rw [G_in (it':={ it with fields:=F ++ [⟨numI t.text.toList,(nextP s t).text,u.text,emptyB,t.at_,(nextP s t).at_,0⟩] }) (a':=6) ht2 (by omega) (by omega) (by omega) (by simp only [inItemP,tokOf,hor,if_true,setLast_snoc]) (by omega)]
    cases hbo:baseOk (nextP s u) with
    | false =>
     have hf:fieldT s t = (false,nextP s u):=by simp [fieldT,hk3,hno,hu,hsh,hbo,afterT]
     rw [hf];simp only [Bool.false_eq_true,if_false]
     exact G_out ht2.next (by omega) (fun h0u _=>by
      have:=baseOk_base ht2.next h0u
      rw [hbo] at this
      simp [inItemP,tokOf,← this])
    | true =>
     have hkv:(nextP s u).kind = 2:=by simp only [baseOk,Bool.and_eq_true] at hbo;exact eq_of_beq hbo.2
     have hbb:baseB (nextP s u).text.toList = true:=by rw [← baseOk_base ht2.next (by omega)];exact hbo
     have hf:fieldT s t = (true,nextP s (nextP s u)):=by simp [fieldT,hk3,hno,hu,hsh,hbo,afterT]
     rw [hf];simp only [if_true]
     rw [G_in (it':={ it with fields:=F ++ [toRF (fieldV s t (numI t.text.toList))] }) (a':=3) ht2.next (by omega) (by omega) (by omega) (by simp [inItemP,tokOf,hbb,setLast_snoc,toRF,fieldV,hu,hsh,afterT,hst]) (by omega)]
 ·have hk3:(t.kind == 3) = false:=by simp [hk]
  have hf:fieldT s t = (false,t):=by simp [fieldT,hk3]
  rw [hf];simp only [Bool.false_eq_true,if_false]
  exact G_out h (by omega) (fun h0 _=>by
   have hnb:numB t.text.toList = false:=by rw [← (h.kinds h0).2.1];exact hk3
   have hsh:=(h.kinds h0).2.2.2
   rcases h5 with h5 | h5
   ·simp [inItemP,tokOf,hnb,h5]
   ·have:isW t.text wShut = false:=by rw [← hsh];simp [h5]
    simp [inItemP,tokOf,hnb,this])
end Go.Proofs.YtdgcamlmjmnpeaaGreatDoor
namespace Go.Proofs.YtdgcamlmjmnpeaaGreatDoor
theorem fields_eq {s:ByteArray} (L:List RItem) (it:RItem):∀ (f:Nat) (t:PTok) (Lp:List PField),Tk s t → s.size < t.at_ + f → (Lp = [] ∨ t.kind ≠ 5) →
  G s t (L ++ [{ it with fields:=Lp.map toRF }]) 3 = if (fieldsT s f t Lp).1 = true then G s (fieldsT s f t Lp).2.1 (L ++ [{ it with fields:=(fieldsT s f t Lp).2.2.map toRF }]) 0 else (none,((fieldsT s f t Lp).2.1.at_:Int))
 | 0,t,Lp,h,hf,_=>by have:=h.fit;omega
 | f + 1,t,Lp,h,hf,h5=>by
  rw [field_eq h L it (Lp.map toRF) (h5.imp (fun e=>by rw [e];rfl) id)]
  unfold fieldsT
  cases hok:(fieldT s t).1 with
  | false=>simp
  | true =>
   have hat:=fieldT_at h hok
   have htk:=fieldT_tk h
   simp only [if_true]
   have hmap:List.map toRF Lp ++ [toRF (fieldV s t (numI t.text.toList))] = (Lp ++ [fieldV s t (numI t.text.toList)]).map toRF:=by simp
   rw [hmap]
   cases hk:((fieldT s t).2.kind == 5) with
   | true =>
    have hk5:(fieldT s t).2.kind = 5:=eq_of_beq hk
    have hw:isW (fieldT s t).2.text wShut = true:=by rw [← (htk.kinds (by omega)).2.2.2];exact hk
    have hn:numB (fieldT s t).2.text.toList = false:=by rw [← (htk.kinds (by omega)).2.1];simp [hk5]
    simp only [if_true]
    rw [G_in (it':={ it with fields:=(Lp ++ [fieldV s t (numI t.text.toList)]).map toRF }) (a':=0) htk (by omega) (by omega) (by omega) (by simp [inItemP,tokOf,hn,hw]) (by omega)]
   | false =>
    simp only [Bool.false_eq_true,if_false]
    exact fields_eq L it f (fieldT s t).2 (Lp ++ [fieldV s t (numI t.text.toList)]) htk (by omega) (Or.inr (by simpa using hk))
theorem names_eq {s:ByteArray} (L:List RItem) (it:RItem):∀ (f:Nat) (t:PTok) (Lp:List PTok),Tk s t → s.size < t.at_ + f → (Lp = [] ∨ t.kind ≠ 5) →
  G s t (L ++ [{ it with names:=Lp.map PTok.text,namesAt:=Lp.map PTok.at_ }]) 7 = if (namesT s f t Lp).1 = true then G s (namesT s f t Lp).2.1 (L ++ [{ it with names:=(namesT s f t Lp).2.2.map PTok.text,namesAt:=(namesT s f t Lp).2.2.map PTok.at_ }]) 0 else (none,((namesT s f t Lp).2.1.at_:Int))
 | 0,t,Lp,h,hf,_=>by have:=h.fit;omega
 | f + 1,t,Lp,h,hf,h5=>by
  have hshut:t.kind ≠ 0 → (Lp ≠ [] → isW t.text wShut = false):=fun h0 hne=>by
   rcases h5 with h5 | h5
   ·exact absurd h5 hne
   ·rw [← (h.kinds h0).2.2.2];simp [h5]
  unfold namesT
  cases hno:nameOk t with
  | false =>
   simp only [Bool.false_eq_true,if_false]
   exact G_out h (by omega) (fun h0 _=>by
    have hfr:=nameOk_free h h0
    rw [hno] at hfr
    by_cases hne:Lp = []
    ·simp [inItemP,tokOf,← hfr,hne]
    ·simp [inItemP,tokOf,← hfr,hshut h0 hne])
  | true =>
   have hk2:t.kind = 2:=by simp only [nameOk,Bool.and_eq_true] at hno;exact eq_of_beq hno.2
   have h0:t.kind ≠ 0:=by omega
   have hfr:freeB t.text.toList = true:=by rw [← nameOk_free h h0];exact hno
   have hp:=h.pos h0
   have hna:=next_at s t
   simp only [if_true]
   rw [G_in (it':={ it with names:=(Lp ++ [t]).map PTok.text,namesAt:=(Lp ++ [t]).map PTok.at_ }) (a':=7) h (by omega) h0 (by omega) (by
    by_cases hne:Lp = []
    ·simp [inItemP,tokOf,hfr,hne]
    ·simp [inItemP,tokOf,hfr,hshut h0 hne]) (by omega)]
   cases hk:((nextP s t).kind == 5) with
   | true =>
    have hk5:(nextP s t).kind = 5:=eq_of_beq hk
    have hw:isW (nextP s t).text wShut = true:=by rw [← (h.next.kinds (by omega)).2.2.2];exact hk
    simp only [if_true]
    rw [G_in (it':={ it with names:=(Lp ++ [t]).map PTok.text,namesAt:=(Lp ++ [t]).map PTok.at_ }) (a':=0) h.next (by omega) (by omega) (by omega) (by simp [inItemP,tokOf,hw]) (by omega)]
   | false =>
    simp only [Bool.false_eq_true,if_false]
    exact names_eq L it f (nextP s t) (Lp ++ [t]) h.next (by omega) (Or.inr (by simpa using hk))
def cellText (l:List Value):ByteArray:=match l with | .string b :: _=>b | _=>emptyB
def cellAt (l:List Value):Nat:=match l with | [_,.int _ n]=>n.toNat | _=>0
def kindTxt (k:Nat):ByteArray:=if k = 0 then ⟨wMessage.toArray⟩ else if k = 1 then ⟨wEnum.toArray⟩ else if k = 2 then ⟨wStream.toArray⟩ else ⟨wCall.toArray⟩
def toR (p:PItem):RItem :=
 ⟨kindTxt p.kind,p.name.text,p.name.at_,p.fields.map toRF,p.names.map PTok.text,p.names.map PTok.at_,
  if p.kind = 2 then [cellText p.base] else if p.kind = 3 then [cellText p.base,cellText p.answer] else [],
  if p.kind = 2 then [cellAt p.base] else if p.kind = 3 then [cellAt p.base,cellAt p.answer] else []⟩
theorem cellAt_tok (t:PTok):cellAt (nameCells t) = t.at_:=by simp [cellAt,nameCells]
theorem G_begin {s:ByteArray} {t:PTok} {L:List RItem} {l:List UInt8} (h:Tk s t) (hw:isWordT t l = true) (hl:kindW l = true):G s t L 0 = G s (nextP s t) (L ++ [newItem ⟨l.toArray⟩]) 1:=by
 simp only [isWordT,Bool.and_eq_true] at hw
 have hk:t.kind = 2:=eq_of_beq hw.2
 have e:=eq_of_beq hw.1
 refine G_step h (by omega) ?_
 have hb:(tokOf t).bad = false:=by simp [tokOf,hk]
 simp only [stepP,hb,Bool.false_eq_true,if_false,if_true]
 rw [show (tokOf t).text = ⟨l.toArray⟩ from text_eq e]
 have:(ByteArray.mk l.toArray).toList = l:=by rw [ByteArray.toList_eq]
 rw [this,hl];simp
theorem G_name {s:ByteArray} {t:PTok} {L:List RItem} {k:ByteArray} (h:Tk s t):G s t (L ++ [newItem k]) 1 = if nameOk t = true then G s (nextP s t) (L ++ [{ newItem k with name:=t.text,nameAt:=t.at_ }]) (if typeWord k.toList then 2 else 8) else (none,(t.at_:Int)):=by
 cases hno:nameOk t with
 | false =>
  simp only [Bool.false_eq_true,if_false]
  exact G_out h (by omega) (fun h0 _=>by
   have hfr:=nameOk_free h h0
   rw [hno] at hfr
   simp [inItemP,tokOf,← hfr])
 | true =>
  have hk2:t.kind = 2:=by simp only [nameOk,Bool.and_eq_true] at hno;exact eq_of_beq hno.2
  have hfr:freeB t.text.toList = true:=by rw [← nameOk_free h (by omega)];exact hno
  simp only [if_true]
  exact G_in h (by omega) (by omega) (by omega) (by simp only [inItemP,tokOf,hfr,if_true,newItem];rfl) (by split <;> omega)
theorem G_base {s:ByteArray} {t:PTok} {L:List RItem} {it:RItem} (h:Tk s t):G s t (L ++ [it]) 8 = if baseOk t = true then G s (nextP s t) (L ++ [{ it with bases:=it.bases ++ [t.text],basesAt:=it.basesAt ++ [t.at_] }]) (if isW it.kind wCall && it.bases.isEmpty then 8 else 0) else (none,(t.at_:Int)):=by
 cases hbo:baseOk t with
 | false =>
  simp only [Bool.false_eq_true,if_false]
  exact G_out h (by omega) (fun h0 _=>by
   have hbb:=baseOk_base h h0
   rw [hbo] at hbb
   simp [inItemP,tokOf,← hbb])
 | true =>
  have hk2:t.kind = 2:=by simp only [baseOk,Bool.and_eq_true] at hbo;exact eq_of_beq hbo.2
  have hbb:baseB t.text.toList = true:=by rw [← baseOk_base h (by omega)];exact hbo
  simp only [if_true]
  exact G_in h (by omega) (by omega) (by omega) (by simp [inItemP,tokOf,hbb]) (by split <;> omega)
theorem G_open {s:ByteArray} {t:PTok} {L:List RItem} {it:RItem} (h:Tk s t):G s t (L ++ [it]) 2 = if (t.kind == 4) = true then G s (nextP s t) (L ++ [it]) (if isW it.kind wMessage then 3 else 7) else (none,(t.at_:Int)):=by
 cases hk:(t.kind == 4) with
 | false =>
  simp only [Bool.false_eq_true,if_false]
  exact G_out h (by omega) (fun h0 _=>by
   have:=(h.kinds h0).2.2.1
   rw [hk] at this
   simp [inItemP,tokOf,← this])
 | true =>
  have hk4:t.kind = 4:=eq_of_beq hk
  have hw:isW t.text wOpen = true:=by rw [← (h.kinds (by omega)).2.2.1];exact hk
  simp only [if_true]
  exact G_in h (by omega) (by omega) (by omega) (by simp [inItemP,tokOf,hw]) (by split <;> omega)
theorem item_eq {s:ByteArray} {t:PTok} (h:Tk s t) (h0:t.kind ≠ 0) (L:List RItem) :
  G s t L 0 = if (itemT s t).1 = true then G s (itemT s t).2.1 (L ++ [toR (itemT s t).2.2]) 0 else (none,((itemT s t).2.1.at_:Int)):=by
 have n1:=h.next
 have n2:=h.next.next
 have n3:=h.next.next.next
 unfold itemT
 cases e0:isWordT t wMessage with
 | true =>
  simp only [if_true]
  rw [G_begin h e0 (by decide),G_name n1]
  cases hno:nameOk (nextP s t) with
  | false=>simp
  | true =>
   simp only [if_true]
   rw [show typeWord (ByteArray.mk wMessage.toArray).toList = true by rw [ByteArray.toList_eq];decide]
   simp only [if_true]
   rw [G_open n2]
   unfold blockF
   cases hk:((nextP s (nextP s t)).kind == 4) with
   | false=>simp
   | true =>
    simp only [if_true]
    rw [show isW (newItem ⟨wMessage.toArray⟩).kind wMessage = true by unfold isW newItem;rw [ByteArray.toList_eq];decide]
    simp only [if_true]
    have:=fields_eq L { newItem ⟨wMessage.toArray⟩ with name:=(nextP s t).text,nameAt:=(nextP s t).at_ } (s.size + 1) (nextP s (nextP s (nextP s t))) [] n3 (by omega) (Or.inl rfl)
    simp only [List.map_nil] at this
    exact this
 | false =>
  simp only [Bool.false_eq_true,if_false]
  cases e1:isWordT t wEnum with
  | true =>
   simp only [if_true]
   rw [G_begin h e1 (by decide),G_name n1]
   cases hno:nameOk (nextP s t) with
   | false=>simp
   | true =>
    simp only [if_true]
    rw [show typeWord (ByteArray.mk wEnum.toArray).toList = true by rw [ByteArray.toList_eq];decide]
    simp only [if_true]
    rw [G_open n2]
    unfold blockN
    cases hk:((nextP s (nextP s t)).kind == 4) with
    | false=>simp
    | true =>
     simp only [if_true]
     rw [show isW (newItem ⟨wEnum.toArray⟩).kind wMessage = false by unfold isW newItem;rw [ByteArray.toList_eq];decide]
     simp only [Bool.false_eq_true,if_false]
     have:=names_eq L { newItem ⟨wEnum.toArray⟩ with name:=(nextP s t).text,nameAt:=(nextP s t).at_ } (s.size + 1) (nextP s (nextP s (nextP s t))) [] n3 (by omega) (Or.inl rfl)
     simp only [List.map_nil] at this
     exact this
  | false =>
   simp only [Bool.false_eq_true,if_false]
   cases e2:isWordT t wStream with
   | true =>
    simp only [if_true]
    rw [G_begin h e2 (by decide),G_name n1]
    cases hno:nameOk (nextP s t) with
    | false=>simp
    | true =>
     simp only [if_true]
     rw [show typeWord (ByteArray.mk wStream.toArray).toList = false by rw [ByteArray.toList_eq];decide]
     simp only [Bool.false_eq_true,if_false]
     rw [G_base n2]
     rw [show isW (newItem ⟨wStream.toArray⟩).kind wCall = false by unfold isW newItem;rw [ByteArray.toList_eq];decide]
     cases hbo:baseOk (nextP s (nextP s t)) with
     | false=>simp [afterT]
     | true =>
      simp only [if_true,Bool.false_and,Bool.false_eq_true,if_false,afterT]
      rfl
   | false =>
    simp only [Bool.false_eq_true,if_false]
    cases e3:isWordT t wCall with
    | true =>
     simp only [if_true]
     rw [G_begin h e3 (by decide),G_name n1]
     cases hno:nameOk (nextP s t) with
     | false=>simp
     | true =>
      simp only [if_true]
      rw [show typeWord (ByteArray.mk wCall.toArray).toList = false by rw [ByteArray.toList_eq];decide]
      simp only [Bool.false_eq_true,if_false]
      rw [G_base n2]
      rw [show isW (newItem ⟨wCall.toArray⟩).kind wCall = true by unfold isW newItem;rw [ByteArray.toList_eq];decide]
      cases hbo:baseOk (nextP s (nextP s t)) with
      | false=>simp
      | true =>
       simp only [if_true,Bool.true_and]
       rw [show ((newItem ⟨wCall.toArray⟩).bases.isEmpty) = true from rfl]
       simp only [if_true]
       rw [G_base n3]
       cases hb2:baseOk (nextP s (nextP s (nextP s t))) with
       | false=>simp [afterT]
       | true =>
        simp only [if_true,afterT,newItem,List.nil_append,List.cons_append,List.isEmpty_cons,Bool.and_false,Bool.false_eq_true,if_false]
        rfl
    | false =>
     simp only [Bool.false_eq_true,if_false]
     rw [isWordT_eq h (by decide) (by decide)] at e0 e1 e2 e3
     have hkw:kindW t.text.toList = false:=by
      unfold kindW;unfold isW at e0 e1 e2 e3;rw [e0,e1,e2,e3];rfl
     have hst:stepP L 0 (tokOf t) = none:=by
      unfold stepP
      split
      ·rfl
      ·simp [tokOf,hkw]
     unfold G tl
     rw [if_neg h0]
     show goP s.size (tokOf t :: _) L 0 = _
     simp only [goP,hst];rfl
theorem items_eq {s:ByteArray}:∀ (f:Nat) (t:PTok) (Lp:List PItem),Tk s t → s.size < t.at_ + f →
  G s t (Lp.map toR) 0 = match (itemsT s f t Lp).1 with | some M=>(some (M.map toR),-1) | none=>(none,((itemsT s f t Lp).2.at_:Int))
 | 0,t,Lp,h,hf=>by have:=h.fit;omega
 | f + 1,t,Lp,h,hf=>by
  unfold itemsT
  by_cases h0:t.kind = 0
  ·have hk:(t.kind == 0) = true:=by simp [h0]
   simp only [hk,if_true]
   unfold G tl
   rw [if_pos h0]
   simp [goP]
  ·have hk:(t.kind == 0) = false:=by simp [h0]
   simp only [hk,Bool.false_eq_true,if_false]
   rw [item_eq h h0]
   cases hok:(itemT s t).1 with
   | false=>simp
   | true =>
    have ht:=itemT_tk h
    have hat:=ht.2 hok
    simp only [if_true]
    rw [show List.map toR Lp ++ [toR (itemT s t).2.2] = (Lp ++ [(itemT s t).2.2]).map toR by simp]
    exact items_eq f (itemT s t).2.1 (Lp ++ [(itemT s t).2.2]) ht.1 (by omega)
theorem parse_eq (s:ByteArray):goP s.size (toksOf s) [] 0 = match (parseP s).1 with | some M=>(some (M.map toR),-1) | none=>(none,((parseP s).2.at_:Int)):=by
 have h:=items_eq (s:=s) (s.size + 1) (scanP s 0) [] ⟨0,by omega,rfl⟩ (by omega)
 unfold G at h
 rw [tl_scan s 0 (by omega)] at h
 exact h
end Go.Proofs.YtdgcamlmjmnpeaaGreatDoor
namespace Go.Proofs.YtdgcamlmjmnpeaaGreatDoor
structure FldP (s:ByteArray) (lo hi:Nat) (f:PField):Prop where
 n:lo ≤ f.numberAt ∧ f.numberAt < hi
 m:lo ≤ f.nameAt ∧ f.nameAt < hi
 b:lo ≤ f.baseAt ∧ f.baseAt < hi
 ms:f.name.size ≤ s.size
 bs:f.base.size ≤ s.size
 sh:f.shape ≤ 2
theorem shapeP_le (t:PTok):shapeP t ≤ 2:=by unfold shapeP;split <;> (try split) <;> omega
theorem FldP.mono {s:ByteArray} {lo hi lo' hi':Nat} {f:PField} (h:FldP s lo hi f) (h1:lo' ≤ lo) (h2:hi ≤ hi'):FldP s lo' hi' f :=
 ⟨⟨by have:=h.n;omega,by have:=h.n;omega⟩,⟨by have:=h.m;omega,by have:=h.m;omega⟩,⟨by have:=h.b;omega,by have:=h.b;omega⟩,h.ms,h.bs,h.sh⟩
theorem Tk.sizeLe {s:ByteArray} {t:PTok} (h:Tk s t):t.text.size ≤ s.size:=by have:=h.fit;omega
theorem nameOk_kind {t:PTok} (h:nameOk t = true):t.kind = 2:=by
 simp only [nameOk,Bool.and_eq_true] at h;exact eq_of_beq h.2
theorem baseOk_kind {t:PTok} (h:baseOk t = true):t.kind = 2:=by
 simp only [baseOk,Bool.and_eq_true] at h;exact eq_of_beq h.2
theorem Tk.step {s:ByteArray} {t:PTok} (h:Tk s t) (h0:t.kind ≠ 0):t.at_ < (nextP s t).at_:=by
 have:=h.pos h0;have:=next_at s t;omega
theorem fieldT_in {s:ByteArray} {t:PTok} (h:Tk s t) (hok:(fieldT s t).1 = true) (n:Int):FldP s t.at_ (fieldT s t).2.at_ (fieldV s t n) ∧ t.at_ < (fieldT s t).2.at_:=by
 unfold fieldT at hok ⊢
 by_cases hk:(t.kind == 3) = true
 ·rw [if_pos hk] at hok ⊢
  have hk3:t.kind = 3:=eq_of_beq hk
  by_cases hn:nameOk (nextP s t) = true
  ·rw [if_pos hn] at hok ⊢
   have s1:=h.step (by omega)
   have s2:=h.next.step (by rw [nameOk_kind hn];omega)
   by_cases hb:baseOk (afterT (shapeOk (nextP s (nextP s t))) s (nextP s (nextP s t))) = true
   ·rw [if_pos hb]
    have hu:=h.next.next.after (shapeOk (nextP s (nextP s t)))
    have s3:=after_at s (nextP s (nextP s t)) (shapeOk (nextP s (nextP s t)))
    have s4:=hu.step (by rw [baseOk_kind hb];omega)
    refine ⟨⟨?_,?_,?_,h.next.sizeLe,hu.sizeLe,shapeP_le _⟩,?_⟩ <;> simp only [fieldV] <;> omega
   ·rw [if_neg hb] at hok;cases hok
  ·rw [if_neg hn] at hok;cases hok
 ·rw [if_neg hk] at hok;cases hok
theorem fieldsT_in {s:ByteArray}:∀ (f:Nat) (t:PTok) (L:List PField),Tk s t → (fieldsT s f t L).1 = true →
  (∀ x ∈ (fieldsT s f t L).2.2,x ∈ L ∨ FldP s t.at_ (fieldsT s f t L).2.1.at_ x) ∧ (fieldsT s f t L).2.2.length + t.at_ ≤ L.length + (fieldsT s f t L).2.1.at_ ∧ Tk s (fieldsT s f t L).2.1
 | 0,t,L,h,hok=>by simp [fieldsT] at hok
 | f + 1,t,L,h,hok=>by
  unfold fieldsT at hok ⊢
  by_cases h1:(fieldT s t).1 = true
  ·rw [if_pos h1] at hok ⊢
   have hi:=fieldT_in h h1 (numI t.text.toList)
   have ht:=fieldT_tk h
   by_cases h5:((fieldT s t).2.kind == 5) = true
   ·rw [if_pos h5]
    have h5':(fieldT s t).2.kind = 5:=eq_of_beq h5
    have s1:=ht.step (by omega)
    refine ⟨fun x hx=>?_,?_,ht.next⟩
    ·rcases List.mem_append.1 hx with hx | hx
     ·exact Or.inl hx
     ·rw [List.mem_singleton.1 hx];exact Or.inr (hi.1.mono (Nat.le_refl _) (by show _ ≤ (nextP s (fieldT s t).2).at_;omega))
    ·show (L ++ [fieldV s t (numI t.text.toList)]).length + t.at_ ≤ L.length + (nextP s (fieldT s t).2).at_
     rw [List.length_append,List.length_singleton];have:=hi.2;omega
   ·rw [if_neg h5] at hok ⊢
    have ih:=fieldsT_in f (fieldT s t).2 _ ht hok
    have hge:=(fieldsT_tk f (fieldT s t).2 (L ++ [fieldV s t (numI t.text.toList)]) ht).2
    refine ⟨fun x hx=>?_,?_,ih.2.2⟩
    ·rcases ih.1 x hx with hx | hx
     ·rcases List.mem_append.1 hx with hx | hx
      ·exact Or.inl hx
      ·rw [List.mem_singleton.1 hx];exact Or.inr (hi.1.mono (Nat.le_refl _) hge)
     ·exact Or.inr (hx.mono (by have:=hi.2;omega) (Nat.le_refl _))
    ·have:=ih.2.1;rw [List.length_append,List.length_singleton] at this;have:=hi.2;omega
  ·rw [if_neg h1] at hok;cases hok
structure NmP (s:ByteArray) (lo hi:Nat) (t:PTok):Prop where
 a:lo ≤ t.at_ ∧ t.at_ < hi
 s:t.text.size ≤ s.size
theorem NmP.mono {s:ByteArray} {lo hi lo' hi':Nat} {f:PTok} (h:NmP s lo hi f) (h1:lo' ≤ lo) (h2:hi ≤ hi'):NmP s lo' hi' f :=
 ⟨⟨by have:=h.a;omega,by have:=h.a;omega⟩,h.s⟩
theorem namesT_in {s:ByteArray}:∀ (f:Nat) (t:PTok) (L:List PTok),Tk s t → (namesT s f t L).1 = true →
  (∀ x ∈ (namesT s f t L).2.2,x ∈ L ∨ NmP s t.at_ (namesT s f t L).2.1.at_ x) ∧ (namesT s f t L).2.2.length + t.at_ ≤ L.length + (namesT s f t L).2.1.at_ ∧ Tk s (namesT s f t L).2.1
 | 0,t,L,h,hok=>by simp [namesT] at hok
 | f + 1,t,L,h,hok=>by
  unfold namesT at hok ⊢
  by_cases h1:nameOk t = true
  ·rw [if_pos h1] at hok ⊢
   have s0:=h.step (by rw [nameOk_kind h1];omega)
   have ht:=h.next
   by_cases h5:((nextP s t).kind == 5) = true
   ·rw [if_pos h5]
    have h5':(nextP s t).kind = 5:=eq_of_beq h5
    have s1:=ht.step (by omega)
    refine ⟨fun x hx=>?_,?_,ht.next⟩
    ·rcases List.mem_append.1 hx with hx | hx
     ·exact Or.inl hx
     ·rw [List.mem_singleton.1 hx];exact Or.inr ⟨⟨Nat.le_refl _,by show _ < (nextP s (nextP s t)).at_;omega⟩,h.sizeLe⟩
    ·show (L ++ [t]).length + t.at_ ≤ L.length + (nextP s (nextP s t)).at_
     rw [List.length_append,List.length_singleton];omega
   ·rw [if_neg h5] at hok ⊢
    have ih:=namesT_in f (nextP s t) _ ht hok
    have hge:=(namesT_tk f (nextP s t) (L ++ [t]) ht).2
    refine ⟨fun x hx=>?_,?_,ih.2.2⟩
    ·rcases ih.1 x hx with hx | hx
     ·rcases List.mem_append.1 hx with hx | hx
      ·exact Or.inl hx
      ·rw [List.mem_singleton.1 hx];exact Or.inr ⟨⟨Nat.le_refl _,by omega⟩,h.sizeLe⟩
     ·exact Or.inr (hx.mono (by omega) (Nat.le_refl _))
    ·have:=ih.2.1;rw [List.length_append,List.length_singleton] at this;omega
  ·rw [if_neg h1] at hok;cases hok
structure ItP (s:ByteArray) (lo hi:Nat) (p:PItem):Prop where
 nm:NmP s lo hi p.name
 f:∀ f ∈ p.fields,FldP s lo hi f
 n:∀ t ∈ p.names,NmP s lo hi t
 b:2 ≤ p.kind → ∃ t,p.base = nameCells t ∧ NmP s lo hi t
 a:p.kind = 3 → ∃ t,p.answer = nameCells t ∧ NmP s lo hi t
 fl:p.fields.length + lo ≤ hi
 nl:p.names.length + lo ≤ hi
 k:p.kind ≤ 3
 fn:2 ≤ p.kind → p.fields = []
theorem ItP.mono {s:ByteArray} {lo hi lo' hi':Nat} {p:PItem} (h:ItP s lo hi p) (h1:lo' ≤ lo) (h2:hi ≤ hi'):ItP s lo' hi' p :=
 ⟨h.nm.mono h1 h2,fun f hf=>(h.f f hf).mono h1 h2,fun t ht=>(h.n t ht).mono h1 h2,fun hk=>by obtain ⟨t,e,ht⟩:=h.b hk;exact ⟨t,e,ht.mono h1 h2⟩,fun hk=>by obtain ⟨t,e,ht⟩:=h.a hk;exact ⟨t,e,ht.mono h1 h2⟩,by have:=h.fl;omega,by have:=h.nl;omega,h.k,h.fn⟩
theorem isWordT_kind {t:PTok} {l:List UInt8} (h:isWordT t l = true):t.kind = 2:=by
 simp only [isWordT,Bool.and_eq_true] at h;exact eq_of_beq h.2
theorem itemT_in {s:ByteArray} {t:PTok} (h:Tk s t) (hok:(itemT s t).1 = true):ItP s t.at_ (itemT s t).2.1.at_ (itemT s t).2.2:=by
 have n1:=h.next
 have n2:=h.next.next
 have n3:=h.next.next.next
 unfold itemT at hok ⊢
 by_cases e0:isWordT t wMessage = true
 ·rw [if_pos e0] at hok ⊢
  have s1:=h.step (by rw [isWordT_kind e0];omega)
  by_cases hn:nameOk (nextP s t) = true
  ·rw [if_pos hn] at hok ⊢
   have s2:=n1.step (by rw [nameOk_kind hn];omega)
   unfold blockF at hok ⊢
   by_cases h4:((nextP s (nextP s t)).kind == 4) = true
   ·rw [if_pos h4] at hok ⊢
    have hk4:(nextP s (nextP s t)).kind = 4:=eq_of_beq h4
    have s3:=n2.step (by omega)
    obtain ⟨i1,i2,_⟩:=fieldsT_in _ _ _ n3 hok
    have hge:=(fieldsT_tk (s.size + 1) _ [] n3).2
    refine ⟨⟨⟨by dsimp only;omega,by dsimp only;omega⟩,n1.sizeLe⟩,fun f hf=>?_,fun t ht=>by simp at ht,fun hk=>by simp at hk,fun hk=>by simp at hk,?_,by simp;omega,by simp,fun hk=>by simp at hk⟩
    ·rcases i1 f hf with hf | hf
     ·simp at hf
     ·exact hf.mono (by omega) (Nat.le_refl _)
    ·simp only [List.length_nil] at i2;dsimp only;omega
   ·rw [if_neg h4] at hok;cases hok
  ·rw [if_neg hn] at hok;cases hok
 ·rw [if_neg e0] at hok ⊢
  by_cases e1:isWordT t wEnum = true
  ·rw [if_pos e1] at hok ⊢
   have s1:=h.step (by rw [isWordT_kind e1];omega)
   by_cases hn:nameOk (nextP s t) = true
   ·rw [if_pos hn] at hok ⊢
    have s2:=n1.step (by rw [nameOk_kind hn];omega)
    unfold blockN at hok ⊢
    by_cases h4:((nextP s (nextP s t)).kind == 4) = true
    ·rw [if_pos h4] at hok ⊢
     have hk4:(nextP s (nextP s t)).kind = 4:=eq_of_beq h4
     have s3:=n2.step (by omega)
     obtain ⟨i1,i2,_⟩:=namesT_in _ _ _ n3 hok
     have hge:=(namesT_tk (s.size + 1) _ [] n3).2
     refine ⟨⟨⟨by dsimp only;omega,by dsimp only;omega⟩,n1.sizeLe⟩,fun f hf=>by simp at hf,fun f hf=>?_,fun hk=>by simp at hk,fun hk=>by simp at hk,by simp;omega,?_,by simp,fun hk=>by simp at hk⟩
     ·rcases i1 f hf with hf | hf
      ·simp at hf
      ·exact hf.mono (by omega) (Nat.le_refl _)
     ·simp only [List.length_nil] at i2;dsimp only;omega
    ·rw [if_neg h4] at hok;cases hok
   ·rw [if_neg hn] at hok;cases hok
  ·rw [if_neg e1] at hok ⊢
   by_cases e2:isWordT t wStream = true
   ·rw [if_pos e2] at hok ⊢
    have s1:=h.step (by rw [isWordT_kind e2];omega)
    by_cases hn:nameOk (nextP s t) = true
    ·rw [if_pos hn] at hok ⊢
     have s2:=n1.step (by rw [nameOk_kind hn];omega)
     simp only at hok ⊢
     rw [hok]
     have s3:=n2.step (by rw [baseOk_kind hok];omega)
     simp only [afterT]
     exact ⟨⟨⟨by dsimp only;omega,by dsimp only;omega⟩,n1.sizeLe⟩,fun f hf=>by simp at hf,fun f hf=>by simp at hf,fun _=>⟨_,rfl,⟨by omega,by omega⟩,n2.sizeLe⟩,fun hk=>by simp at hk,by simp;omega,by simp;omega,by simp,fun _=>rfl⟩
    ·rw [if_neg hn] at hok;cases hok
   ·rw [if_neg e2] at hok ⊢
    by_cases e3:isWordT t wCall = true
    ·rw [if_pos e3] at hok ⊢
     have s1:=h.step (by rw [isWordT_kind e3];omega)
     by_cases hn:nameOk (nextP s t) = true
     ·rw [if_pos hn] at hok ⊢
      have s2:=n1.step (by rw [nameOk_kind hn];omega)
      by_cases hb:baseOk (nextP s (nextP s t)) = true
      ·rw [if_pos hb] at hok ⊢
       have s3:=n2.step (by rw [baseOk_kind hb];omega)
       simp only at hok ⊢
       rw [hok]
       have s4:=n3.step (by rw [baseOk_kind hok];omega)
       simp only [afterT]
       exact ⟨⟨⟨by dsimp only;omega,by dsimp only;omega⟩,n1.sizeLe⟩,fun f hf=>by simp at hf,fun f hf=>by simp at hf,fun _=>⟨_,rfl,⟨by omega,by omega⟩,n2.sizeLe⟩,fun _=>⟨_,rfl,⟨by omega,by omega⟩,n3.sizeLe⟩,by simp;omega,by simp;omega,by simp,fun _=>rfl⟩
      ·rw [if_neg hb] at hok;cases hok
     ·rw [if_neg hn] at hok;cases hok
    ·rw [if_neg e3] at hok;cases hok
def Ahead (s:ByteArray) (p q:PItem):Prop:=∃ c,(∃ lo,ItP s lo c p) ∧ (∃ hi,ItP s c hi q)
theorem itemsT_in {s:ByteArray}:∀ (f:Nat) (t:PTok) (L M:List PItem),Tk s t → (itemsT s f t L).1 = some M → (∀ p ∈ L,∃ lo,ItP s lo t.at_ p) → L.Pairwise (Ahead s) → L.length ≤ t.at_ → (∀ p ∈ L,IsNm p.base ∧ IsNm p.answer) →
  (∀ p ∈ M,∃ lo,ItP s lo s.size p) ∧ M.Pairwise (Ahead s) ∧ M.length ≤ s.size ∧ (∀ p ∈ M,IsNm p.base ∧ IsNm p.answer)
 | 0,t,L,M,h,hM,_,_,_,_=>by simp [itemsT] at hM
 | f + 1,t,L,M,h,hM,hin,hpw,hlen,hnm=>by
  have hfit:=h.fit
  unfold itemsT at hM
  by_cases h0:(t.kind == 0) = true
  ·rw [if_pos h0] at hM
   simp only [Option.some.injEq] at hM
   subst hM
   refine ⟨fun p hp=>?_,hpw,by omega,hnm⟩
   obtain ⟨lo,hi⟩:=hin p hp
   exact ⟨lo,hi.mono (Nat.le_refl _) (by omega)⟩
  ·rw [if_neg h0] at hM
   by_cases h1:(itemT s t).1 = true
   ·rw [if_pos h1] at hM
    have ht:=itemT_tk h
    have hat:=ht.2 h1
    have hit:=itemT_in h h1
    refine itemsT_in f (itemT s t).2.1 _ M ht.1 hM (fun p hp=>?_) ?_ ?_ ?_
    ·rcases List.mem_append.1 hp with hp | hp
     ·obtain ⟨lo,hi⟩:=hin p hp
      exact ⟨lo,hi.mono (Nat.le_refl _) (by omega)⟩
     ·rw [List.mem_singleton.1 hp];exact ⟨_,hit⟩
    ·rw [List.pairwise_append]
     refine ⟨hpw,by simp,fun p hp q hq=>?_⟩
     rw [List.mem_singleton.1 hq]
     exact ⟨t.at_,hin p hp,_,hit⟩
    ·rw [List.length_append,List.length_singleton];omega
    ·intro p hp
     rcases List.mem_append.1 hp with hp | hp
     ·exact hnm p hp
     ·rw [List.mem_singleton.1 hp];exact itemT_nm s t
   ·rw [if_neg h1] at hM;cases hM
theorem parseP_in {s:ByteArray} {M:List PItem} (h:(parseP s).1 = some M):(∀ p ∈ M,∃ lo,ItP s lo s.size p) ∧ M.Pairwise (Ahead s) ∧ M.length ≤ s.size ∧ (∀ p ∈ M,IsNm p.base ∧ IsNm p.answer) :=
 itemsT_in (s.size + 1) (scanP s 0) [] M ⟨0,by omega,rfl⟩ h (by simp) (by simp) (by simp) (by simp)
end Go.Proofs.YtdgcamlmjmnpeaaGreatDoor
