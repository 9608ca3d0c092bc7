/- The leaves of package courierref: what each small function answers, for every argument. -/
import Derived.Test.YtolfcabodiphmaaGreatDoorRows
import Derived.WalkKit
import Derived.WalkSpells
import Derived.WalkLawsBesides
import Derived.Test.YtolfcabodiphmaaGreatDoorV00
import Derived.Test.YtolfcabodiphmaaGreatDoorShelf
import Derived.Deep.RegionHeld3
import Derived.Deep.RegionLaw
import Derived.Deep.LoopGhost
import Derived.Deep.AppendLies
import Derived.Lib.AtoiAll
import Derived.Lib.SmallJoins
import Derived.Deep.RegionWith
set_option linter.unusedSimpArgs false
set_option linter.unusedVariables false
set_option maxHeartbeats 4000000
set_option maxRecDepth 100000
namespace Go.Proofs.YtolfcabodiphmaaGreatDoor
open Go.Proofs.Tryz
open Go.RowKit
def pU(c:Int):Bool:=decide (97≤c)&&decide (c≤122)
def yg(c:Int):Bool:=decide (48≤c)&&decide (c≤57)
def wP(c:Int):Bool:=pU c||yg c
def nameB(l:List UInt8):Bool:=match l with | []=>false | c::_=>pU (c.toNat:Int)&&decide (l.length≤12)
theorem Uf(s:ByteArray)(h:0<s.size):nameB s.toList=(pU (s[0].toNat:Int)&&decide ((s.size:Int)≤12)):=by
 obtain⟨⟨l⟩⟩:=s
 rw[ByteArray.toList_eq]
 cases l with
 | nil=>simp[ByteArray.size] at h
 | cons c r=>
  have e:(({ data:={ toList:=c::r } }:ByteArray)[0]'h)=c:=rfl
  have e2:(({ data:={ toList:=c::r } }:ByteArray).size)=(c::r).length:=rfl
  rw[e,e2];simp only[nameB]
  congr 1
  exact decide_eq_decide.2 (by omega)
def Ug(l:List UInt8):Bool:=l==[109,101,115,115,97,103,101]||l==[101,110,117,109]
def words:List (List UInt8):=[[109,101,115,115,97,103,101],[101,110,117,109],[115,116,114,101,97,109],[99,97,108,108],[111,112,116],[108,105,115,116],[105,110,116],[98,111,111,108],[116,101,120,116]]
def wQ(l:List UInt8):Bool:=words.any (fun a=>a==l)
def Om(l:List UInt8):Bool:=nameB l && !wQ l
def kL(l:List UInt8):Bool:=l==[105,110,116]||l==[98,111,111,108]||l==[116,101,120,116]
def Uh(l:List UInt8):Bool:=Om l||kL l
def mW(l:List UInt8):Bool:=(List.range 99).any (fun i=>l==Lib.decDigits (i+1))
theorem Ui{l:List UInt8}{k:Nat}(h1:1≤k)(h2:k≤99)(h:l=Lib.decDigits k):mW l=true:=by
 unfold mW;rw[List.any_eq_true]
 exact⟨k-1,by simp;omega,by rw[show k-1+1=k from by omega,h];simp⟩
def zN(k:Nat):List UInt8:=if k<10 then [UInt8.ofNat (48+k)] else [UInt8.ofNat (48+k / 10),UInt8.ofNat (48+k % 10)]
theorem Oo(k:Nat)(h:k<100):Lib.decDigits k=zN k:=by
 rw[Lib.decDigits];unfold zN
 by_cases h1:k<10
 ·simp[h1]
 ·have h2:k / 10<10:=by omega
  rw[Lib.decDigits];simp[h1,h2]
theorem EK:∀ k,k<100→Lib.atoi (zN k)=some (k:Int)∧(zN k).length≤2:=by decide
theorem mX{l:List UInt8}(h:mW l=true):∃ k,1≤k∧k≤99∧l=zN k:=by
 unfold mW at h;rw[List.any_eq_true] at h
 obtain⟨i,hi,he⟩:=h
 simp at hi he
 exact⟨i+1,by omega,by omega,by rw[he,Oo _ (by omega)]⟩
theorem Qb{s:ByteArray}(h:mW s.toList=true):∃ k:Nat,1≤k∧k≤99∧s.size≤18∧Lib.atoi s.data.toList=some (k:Int):=by
 obtain⟨k,h1,h2,he⟩:=mX h
 have:=EK k (by omega)
 rw[ByteArray.toList_eq] at he
 refine⟨k,h1,h2,?_,by rw[he];exact this.1⟩
 show s.data.toList.length≤18
 rw[he];omega
def B(s:ByteArray)(i:Nat):Int:=((s.toList.getD i 0).toNat:Int)
theorem aa6(s:ByteArray)(i:Nat)(h:i<s.size):((s[i]'h).toNat:Int)=B s i:=by
 unfold B
 have e:s.toList.getD i 0=s[i]'h:=by
  rw[ByteArray.toList_eq,List.getD_eq_getElem?_getD,List.getElem?_eq_getElem (by simpa using h)];rfl
 rw[e]
structure Tok where
 text:ByteArray
 at_:Nat
 bad:Bool
def dN(s:ByteArray):Nat→Nat→Nat
 | 0,i=>i
 | f+1,i=>if i<s.size∧wP (B s i)=true then dN s f (i+1) else i
def aa7(t:ByteArray):Bool:=!(mW t.toList) && !(nameB t.toList)
def toks(s:ByteArray):Nat→Nat→List Tok
 | 0,_=>[]
 | f+1,i=>
  if i<s.size then
   if B s i=32∨B s i=10 then toks s f (i+1)
   else if wP (B s i)=true then⟨s.extract i (dN s s.size i),i,aa7 (s.extract i (dN s s.size i))⟩::toks s f (dN s s.size i)
   else⟨s.extract i (i+1),i,!(B s i==123) && !(B s i==125)⟩::toks s f (i+1)
  else []
theorem yh(s:ByteArray):∀ f i,i≤dN s f i
 | 0,i=>Nat.le_refl _
 | f+1,i=>by
  unfold dN;split
  ·exact Nat.le_trans (Nat.le_succ i) (yh s f (i+1))
  ·exact Nat.le_refl _
theorem yj(s:ByteArray):∀ f i,i≤s.size→dN s f i≤s.size
 | 0,i,h=>h
 | f+1,i,h=>by
  unfold dN;split
  ·rename_i hh;exact yj s f (i+1) hh.1
  ·exact h
theorem zf(s:ByteArray):∀ f g i,s.size≤f+i→s.size≤g+i→dN s f i=dN s g i
 | 0,g,i,h1,h2=>by
  cases g with
  | zero=>rfl
  | succ g=>unfold dN;rw[if_neg (by omega)]
 | f+1,0,i,h1,h2=>by unfold dN;rw[if_neg (by omega)]
 | f+1,g+1,i,h1,h2=>by
  unfold dN;split
  ·exact zf s f g (i+1) (by omega) (by omega)
  ·rfl
theorem zh(s:ByteArray)(i:Nat)(h:i<s.size)(hr:wP (B s i)=true):dN s s.size i=dN s s.size (i+1):=by
 rw[zf s s.size (s.size+1) i (by omega) (by omega)]
 conv=>lhs;unfold dN
 rw[if_pos ⟨h,hr⟩]
theorem rC(s:ByteArray)(i:Nat)(h:¬ (i<s.size∧wP (B s i)=true)):dN s s.size i=i:=by
 cases hs:s.size with
 | zero=>rfl
 | succ n=>unfold dN;rw[if_neg h]
def aa8(s:ByteArray)(i:Nat):List Tok:=toks s (s.size+1) i
def Seg(w:World)(b:Nat)(T:TypeId)(o:Nat)(xs:List Value):Prop :=
 ∃ cur,w.heap[b]? = some (.cells cur T (0,0))∧o+xs.length≤cur.size∧(cur.toList.drop o).take xs.length=xs
theorem Seg.cell{w:World}{b:Nat}{T:TypeId}{o:Nat}{xs:List Value}(h:Seg w b T o xs){j:Nat}{v:Value}(hj:xs[j]? = some v):w.cell? ⟨b,o+j,none⟩=some v:=by
 obtain⟨cur,hb,hs,ht⟩:=h
 have hlt:j<xs.length:=by
  rcases Nat.lt_or_ge j xs.length with h | h
  ·exact h
  ·rw[List.getElem?_eq_none h] at hj;cases hj
 simp only[World.cell?,hb]
 rw[← hj]
 conv=>rhs;rw[← ht,List.getElem?_take,if_pos hlt]
 simp
theorem Seg.frozen{w:World}{b:Nat}{T:TypeId}{o:Nat}{xs:List Value}(h:Seg w b T o xs)(j:Nat):w.frozen? ⟨b,j,none⟩=false:=by
 obtain⟨cur,hb,_⟩:=h
 simp[World.frozen?,hb]
theorem Seg.lt{w:World}{b:Nat}{T:TypeId}{o:Nat}{xs:List Value}(h:Seg w b T o xs):b<w.heap.size:=by
 obtain⟨cur,hb,_⟩:=h
 rcases Nat.lt_or_ge b w.heap.size with hlt | hge
 ·exact hlt
 ·rw[Array.getElem?_eq_none hge] at hb;cases hb
theorem Seg.same{w w':World}{b:Nat}{T:TypeId}{o:Nat}{xs:List Value}(h:Seg w b T o xs)(e:w'.heap[b]? = w.heap[b]?):Seg w' b T o xs:=by
 obtain⟨cur,hb,hr⟩:=h
 exact⟨cur,by rw[e,hb],hr⟩
theorem Seg.set{w:World}{b:Nat}{T:TypeId}{o:Nat}{xs:List Value}(h:Seg w b T o xs)(j:Nat)(v:Value):Seg (w.setCell ⟨b,o+j,none⟩ v) b T o (xs.set j v):=by
 obtain⟨cur,hb,hs,ht⟩:=h
 refine⟨cur.setIfInBounds (o+j) v,heap_setCell_same w b (o+j) cur T v hb,by simpa using hs,?_⟩
 rw[Array.toList_setIfInBounds,List.length_set]
 by_cases hj:j<xs.length
 ·rw[List.drop_set,if_neg (by omega),List.take_set,ht,show o+j-o=j from by omega]
 ·rw[List.drop_set,if_neg (by omega),List.take_set,ht,List.set_eq_of_length_le (by omega),List.set_eq_of_length_le (by omega)]
structure AZ where
 number:Int
 name:ByteArray
 kind:ByteArray
 base:ByteArray
 numberAt:Nat
 nameAt:Nat
 dG:Nat
structure wR where
 kind:ByteArray
 name:ByteArray
 nameAt:Nat
 fields:List AZ
 names:List ByteArray
 Oq:List Nat
 bases:List ByteArray
 Ot:List Nat
def jd(s:ByteArray):Value:=.string s
def kU(n:Nat):Value:=.int .i64 n
theorem own_base{w:World}{lo lo':Nat}{e:TypeId}{size n:Nat}{v:Value}{xs:List Value}(h:w.ownsRow lo e size v n xs)(hl:lo'≤lo):w.ownsRow lo' e size v n xs:=by
 obtain⟨h1,h2⟩:=h
 refine⟨h1,?_⟩
 rcases h2 with h2 | ⟨g,cap,cur,hv,hg,r⟩
 ·exact Or.inl h2
 ·exact Or.inr ⟨g,cap,cur,hv,by omega,r⟩
theorem dM{w:World}{lo b o:Nat}{T e:TypeId}{size n:Nat}{v:Value}{xs ys:List Value}(h:w.ownsRow lo e size v n xs)(h':Seg w b T o ys)(he:e≠T){g:Nat}(hg:v.ownBlock=some g):g≠b:=by
 intro hh;subst hh
 obtain⟨c,hc⟩:=mM h hg
 obtain⟨c',hc',_⟩:=h'
 rw[hc] at hc';simp at hc';exact he hc'.2
def A8:ByteArray:=⟨#[]⟩
def lu(l:List UInt8):Int:=(Lib.atoi l).getD 0
def setLast(f:AZ→AZ)(l:List AZ):List AZ:=match l.getLast? with | some a=>l.dropLast++[f a] | none=>[]
def isW(t:ByteArray)(l:List UInt8):Bool:=t.toList==l
def dP:List UInt8:=[109,101,115,115,97,103,101]
def mY:List UInt8:=[101,110,117,109]
def je:List UInt8:=[115,116,114,101,97,109]
def qE:List UInt8:=[99,97,108,108]
def zO:List UInt8:=[111,112,116]
def uJ:List UInt8:=[108,105,115,116]
def adY:List UInt8:=[123]
def aam:List UInt8:=[125]
def Gn(it:wR)(at_:Nat)(t:Tok):wR × Nat :=
 match at_ with
 | 1=>if Om t.text.toList then({ it with name:=t.text,nameAt:=t.at_ },if Ug it.kind.toList then 2 else 8) else(it,9)
 | 2=>if isW t.text adY then(it,if isW it.kind dP then 3 else 7) else(it,9)
 | 3=>if mW t.text.toList then({ it with fields:=it.fields++[⟨lu t.text.toList,A8,A8,A8,t.at_,0,0⟩] },4)
     else if it.fields≠[]∧isW t.text aam=true then(it,0) else(it,9)
 | 4=>if Om t.text.toList then({ it with fields:=setLast (fun f=>{ f with name:=t.text,nameAt:=t.at_ }) it.fields },5) else(it,9)
 | 5=>if isW t.text zO||isW t.text uJ then({ it with fields:=setLast (fun f=>{ f with kind:=t.text }) it.fields },6)
     else if Uh t.text.toList then({ it with fields:=setLast (fun f=>{ f with base:=t.text,dG:=t.at_ }) it.fields },3) else(it,9)
 | 6=>if Uh t.text.toList then({ it with fields:=setLast (fun f=>{ f with base:=t.text,dG:=t.at_ }) it.fields },3) else(it,9)
 | 7=>if it.names≠[]∧isW t.text aam=true then(it,0)
     else if Om t.text.toList then({ it with names:=it.names++[t.text],Oq:=it.Oq++[t.at_] },7) else(it,9)
 | 8=>if Uh t.text.toList then({ it with bases:=it.bases++[t.text],Ot:=it.Ot++[t.at_] },if isW it.kind qE&&it.bases.isEmpty then 8 else 0) else(it,9)
 | _=>(it,9)
theorem aan:∀ (l:List UInt8) (acc u:Nat),Lib.parseUint10 acc l=.ok u→acc≤u
 | [],acc,u,h=>by simp only[Lib.parseUint10] at h;injection h with h;omega
 | c::r,acc,u,h=>by
  simp only[Lib.parseUint10] at h
  split at h
  ·split at h
   ·cases h
   ·split at h
    ·cases h
    ·have:=aan r _ u h;omega
  ·cases h
theorem Gp{c:UInt8}{r:List UInt8}{acc u:Nat}(h:Lib.parseUint10 acc (c::r)=.ok u):48≤c.toNat∧c.toNat≤57∧Lib.parseUint10 (acc*10+(c.toNat-48)) r=.ok u:=by
 simp only[Lib.parseUint10] at h
 split at h
 ·rename_i hc
  split at h
  ·cases h
  ·split at h
   ·cases h
   ·exact⟨hc.1,hc.2,h⟩
 ·cases h
theorem Uj(c:UInt8)(n:Nat)(h:c.toNat=n):c=UInt8.ofNat n:=by
 subst h;simp
theorem rD:∀ k,k<100→1≤k→Lib.atoiAll (zN k)=.ok (k:Int)∧(zN k).head? ≠ some 48:=by decide
theorem X5{c:UInt8}{r:List UInt8}(hc:c.toNat≠43∧c.toNat≠45){v:Int}(h:Lib.atoiAll (c::r)=.ok v):((c.toNat≠48∧v≤99)↔mW (c::r)=true)∧(mW (c::r)=true→v=lu (c::r)):=by
 have h':=h
 unfold Lib.atoiAll at h'
 simp only[hc.1,hc.2,or_self,if_false,Lib.parseMag,reduceCtorEq] at h'
 have key:c.toNat≠48→v≤99→∃ k,1≤k∧k≤99∧c::r=zN k:=by
  intro hz hv
  rcases hp:Lib.parseUint10 0 (c::r) with u | _ | _
  rotate_left
  ·rw[hp] at h';simp at h'
  ·rw[hp] at h';simp at h'
  ·rw[hp] at h'
   have hu:(u:Int)=v:=by
    simp only[not_false_eq_true,true_and,false_and,if_false] at h'
    split at h'
    ·cases h'
    ·injection h'
   obtain⟨h1,h2,h3⟩:=Gp hp
   cases r with
   | nil=>
    simp only[Lib.parseUint10] at h3;injection h3 with h3
    exact⟨u,by omega,by omega,by unfold zN;rw[if_pos (by omega)];rw[Uj c (48+u) (by omega)]⟩
   | cons d r'=>
    obtain⟨h4,h5,h6⟩:=Gp h3
    cases r' with
    | nil=>
     simp only[Lib.parseUint10] at h6;injection h6 with h6
     refine⟨u,by omega,by omega,?_⟩
     unfold zN;rw[if_neg (by omega),Uj c (48+u / 10) (by omega),Uj d (48+u % 10) (by omega)]
    | cons e r''=>
     obtain⟨h7,h8,h9⟩:=Gp h6
     have:=aan _ _ _ h9
     omega
 refine⟨⟨fun⟨a,b⟩=>?_,fun hn=>?_⟩,fun hn=>?_⟩
 ·obtain⟨k,h1,h2,h3⟩:=key a b
  exact Ui h1 h2 (by rw[h3,Oo k (by omega)])
 ·obtain⟨k,h1,h2,h3⟩:=mX hn
  have hk:=rD k (by omega) h1
  rw[← h3,h] at hk
  have h4:=hk.1;injection h4 with h4
  refine⟨?_,by omega⟩
  intro h48
  exact hk.2 (by simp;exact UInt8.toNat_inj.1 (by simpa using h48))
 ·obtain⟨k,h1,h2,h3⟩:=mX hn
  have hk:=rD k (by omega) h1
  rw[← h3,h] at hk
  have h4:=hk.1;injection h4 with h4
  have ha:=(EK k (by omega)).1
  rw[lu,h3,ha];simpa using h4
theorem Ae{l:List UInt8}(h:∀ v,Lib.atoiAll l≠.ok v):mW l=false:=by
 cases hn:mW l with
 | false=>rfl
 | true=>
  obtain⟨k,h1,h2,h3⟩:=mX hn
  exact absurd (by rw[h3];exact(rD k (by omega) h1).1) (h k)
structure Vars(w:World):Prop where
 sx:∃ te pe,w.cell? ⟨3,0,none⟩=some (.iface te pe)
 rg:∃ te pe,w.cell? ⟨4,0,none⟩=some (.iface te pe)
 X6:3 < w.heap.size
 X7:4 < w.heap.size
theorem Vars.below{w w':World}(h:Vars w)(hb:Below w.heap.size w w'):Vars w':=by
 obtain⟨te,pe,h1⟩:=h.sx
 obtain⟨tf,pf,h2⟩:=h.rg
 have l1:=h.X6
 have l2:=h.X7
 exact⟨⟨te,pe,by rw[hb.cell l1];exact h1⟩,⟨tf,pf,by rw[hb.cell l2];exact h2⟩,Nat.lt_of_lt_of_le l1 hb.size,Nat.lt_of_lt_of_le l2 hb.size⟩
theorem jf(c:Int)(w:World):
  Calls Tryz.prog 215 #[.int .u8 c] w fun e w'=>e=.returned (.bool (pU c))∧w'=w:=by
 go_enter func215,ntmps215
 go_wp2
 ·have h:97≤c:=by assumption
  go_ret
  exact⟨bM (by simp[pU,h]),rfl⟩
 ·have h:c<97:=by assumption
  go_ret
  exact⟨bM (by simp[pU];omega),rfl⟩
theorem wS(c:Int)(w:World):
  Calls Tryz.prog 216 #[.int .u8 c] w fun e w'=>e=.returned (.bool (yg c))∧w'=w:=by
 go_enter func216,ntmps216
 go_wp2
 ·have h:48≤c:=by assumption
  go_ret
  exact⟨bM (by simp[yg,h]),rfl⟩
 ·have h:c<48:=by assumption
  go_ret
  exact⟨bM (by simp[yg];omega),rfl⟩
def yt(c:Int):Bool:=c==32||c==10
theorem zi(c:Int)(w:World):
  Calls Tryz.prog 214 #[.int .u8 c] w fun e w'=>e=.returned (.bool (yt c))∧w'=w:=by
 go_enter func214,ntmps214
 cases h1:(c==32)
 all_goals
  go_wp2
  go_ret
  exact⟨bM (by simp[yt,h1]),rfl⟩
def lC(c:Int):Nat:=if c=123 then 4 else if c=125 then 5 else 1
theorem Ba(c:Int)(w:World):
  Calls Tryz.prog 217 #[.int .u8 c] w fun e w'=>e=.returned (.int .i64 (lC c:Nat))∧w'=w:=by
 go_enter func217,ntmps217
 by_cases h1:c=123
 ·have hb:(c==123)=true:=by simp[h1]
  have HM:=hid (show lC c=4 by simp[lC,h1])
  clear h1
  go_wp2
  go_ret
  exact⟨by rw[HM.out];rfl,rfl⟩
 ·have hb:(c==123)=false:=by simp[h1]
  by_cases h2:c=125
  ·have hb2:(c==125)=true:=by simp[h2]
   have HM:=hid (show lC c=5 by simp[lC,h2])
   clear h1 h2
   go_wp2
   go_ret
   exact⟨by rw[HM.out];rfl,rfl⟩
  ·have hb2:(c==125)=false:=by simp[h2]
   have HM:=hid (show lC c=1 by simp[lC,h1,h2])
   clear h1 h2
   go_wp2
   go_ret
   exact⟨by rw[HM.out];rfl,rfl⟩
theorem Jd(s:ByteArray)(h:0<s.size):∃ r,s.toList=s[0]::r:=by
 obtain⟨⟨l⟩⟩:=s
 rw[ByteArray.toList_eq]
 cases l with
 | nil=>simp[ByteArray.size] at h
 | cons c r=>exact⟨r,rfl⟩
theorem pV(run:ByteArray)(w:World)(hv:Vars w)(h0:0<run.size)(hs:run.size≤400)(hc:(run[0]'h0).toNat≠43∧(run[0]'h0).toNat≠45):
  Calls Tryz.prog 242 #[.string run] w fun e w'=>∃ n:Int,e=.returned (.tuple #[.int .i64 n,.bool (mW run.toList)])∧(mW run.toList=true→n=lu run.toList)∧Below w.heap.size w w':=by
 obtain⟨r,hr⟩:=Jd run h0
 rcases hA:Lib.atoiAll run.data.toList with v | _ | _
 ·have hN:=X5 hc (r:=r) (v:=v) (by rw[← hr,ByteArray.toList_eq];exact hA)
  rw[← hr] at hN
  have HN:=hid hN
  have HC:=hid hc
  clear hN hr hc
  generalize mW run.toList=nb at *
  go_enter func242,ntmps242
  go_wp2_with fail
  refine(Tryz.strconv_Atoi_ok run (by omega) v hA _).mono ?_;rintro e w1 ⟨rfl,hw1⟩
  have hb1:Below w.heap.size w w1:=by
   rcases hw1 with rfl | ⟨bt,rfl⟩
   ·exact Below.refl _ _
   ·exact Joins.below_bytesWorld _ _ _ _ (Nat.le_refl _)
  clear hw1 hA
  go_wp2_with fail
  ·have h:((run[0]'h0).toNat:Int)=48:=by assumption
   have hnb:nb=false:=by
    cases nb with
    | false=>rfl
    | true=>exact absurd (by omega) (HN.out.1.2 rfl).1
   subst hnb
   go_ret2
   exact⟨v,rfl,HN.out.2,hb1⟩
  ·have h:¬ ((run[0]'h0).toNat:Int)=48:=by assumption
   have hne:(((run[0]'h0).toNat:Int) != 48)=true:=by simp;omega
   have hnb:nb=((((run[0]'h0).toNat:Int) != 48)&&decide (v≤99)):=by
    rw[hne,Bool.true_and]
    by_cases hv9:v≤99
    ·rw[HN.out.1.1 ⟨by omega,hv9⟩];simp[hv9]
    ·cases nb with
     | false=>simp[hv9]
     | true=>exact absurd (HN.out.1.2 rfl).2 hv9
   subst hnb
   go_ret2
   exact⟨v,rfl,HN.out.2,hb1⟩
 ·have HN:=hid (Ae (l:=run.toList) (fun v hh=>by rw[ByteArray.toList_eq,hA] at hh;cases hh))
  obtain⟨te,pe,hsx⟩:=hv.sx
  go_enter func242,ntmps242
  go_wp2_with fail
  refine(Tryz.strconv_Atoi_no run (by omega) ⟨fun v hh => (by rw [hA] at hh; cases hh),fun hh => (by rw [hA] at hh; cases hh)⟩ _ _ hsx (Or.inr ⟨te,pe,rfl⟩)).mono ?_;rintro e w1 ⟨N,rfl,_,_,hb1⟩
  clear hA
  go_wp2_with fail
  go_ret2
  exact⟨_,by rw[HN.out];rfl,fun hh=>(by rw[HN.out] at hh;cases hh),hb1⟩
 ·have HN:=hid (Ae (l:=run.toList) (fun v hh=>by rw[ByteArray.toList_eq,hA] at hh;cases hh))
  obtain⟨te,pe,hrg⟩:=hv.rg
  go_enter func242,ntmps242
  go_wp2_with fail
  refine(Tryz.strconv_Atoi_range run (by omega) hA _ _ hrg (Or.inr ⟨te,pe,rfl⟩)).mono ?_;rintro e w1 ⟨N,rfl,_,_,hb1⟩
  clear hA
  go_wp2_with fail
  go_ret2
  exact⟨_,by rw[HN.out];rfl,fun hh=>(by rw[HN.out] at hh;cases hh),hb1⟩
def runK(l:List UInt8):Nat:=if nameB l=true then 2 else if mW l=true then 3 else 1
theorem uK(run:ByteArray)(w:World)(hv:Vars w)(h0:0<run.size)(hs:run.size≤400)(hc:(run[0]'h0).toNat≠43∧(run[0]'h0).toNat≠45):
  Calls Tryz.prog 218 #[.string run] w fun e w'=>e=.returned (.int .i64 (runK run.toList:Nat))∧Below w.heap.size w w':=by
 have hn:=Uf run h0
 have HV:=hid hv
 have HC:=hid hc
 clear hv hc
 cases hsm:pU ((run[0]'h0).toNat:Int) with
 | true=>
  by_cases h12:(run.size:Int)≤12
  ·have HK:=hid (show runK run.toList=2 by unfold runK;rw[hn,hsm];simp[h12])
   clear hn
   go_enter func218,ntmps218
   go_wp2_with fail
   refine(jf _ _).mono ?_;rintro e w1 ⟨rfl,rfl⟩;rw[hsm]
   go_wp2_with fail
   go_ret
   exact⟨by rw[HK.out];rfl,Below.refl _ _⟩
  ·have Je:=hid (show nameB run.toList=false by rw[hn,hsm];simp[h12])
   clear hn
   go_enter func218,ntmps218
   go_wp2_with fail
   refine(jf _ _).mono ?_;rintro e w1 ⟨rfl,rfl⟩;rw[hsm]
   go_wp2_with fail
   refine(pV run _ HV.out h0 hs HC.out).mono ?_;rintro e w2 ⟨n,rfl,_,hb2⟩
   cases hnb:mW run.toList with
   | true=>
    have HK:=hid (show runK run.toList=3 by unfold runK;rw[Je.out,hnb];rfl)
    go_wp2_with fail
    go_ret
    exact⟨by rw[HK.out];rfl,hb2⟩
   | false=>
    have HK:=hid (show runK run.toList=1 by unfold runK;rw[Je.out,hnb];rfl)
    go_wp2_with fail
    go_ret
    exact⟨by rw[HK.out];rfl,hb2⟩
 | false=>
  have Je:=hid (show nameB run.toList=false by rw[hn,hsm];rfl)
  clear hn
  go_enter func218,ntmps218
  go_wp2_with fail
  refine(jf _ _).mono ?_;rintro e w1 ⟨rfl,rfl⟩;rw[hsm]
  go_wp2_with fail
  refine(pV run _ HV.out h0 hs HC.out).mono ?_;rintro e w2 ⟨n,rfl,_,hb2⟩
  cases hnb:mW run.toList with
  | true=>
   have HK:=hid (show runK run.toList=3 by unfold runK;rw[Je.out,hnb];rfl)
   go_wp2_with fail
   go_ret
   exact⟨by rw[HK.out];rfl,hb2⟩
  | false=>
   have HK:=hid (show runK run.toList=1 by unfold runK;rw[Je.out,hnb];rfl)
   go_wp2_with fail
   go_ret
   exact⟨by rw[HK.out];rfl,hb2⟩
structure aN where
 kind:Nat
 text:ByteArray
 at_:Nat
def gJ(s:ByteArray):Nat→Nat→Nat
 | 0,i=>i
 | f+1,i=>if i<s.size∧yt (B s i)=true then gJ s f (i+1) else i
def uy(s:ByteArray)(i:Nat):Nat:=gJ s s.size i
theorem uM(s:ByteArray):∀ f g i,s.size≤f+i→s.size≤g+i→gJ s f i=gJ s g i
 | 0,g,i,h1,h2=>by
  cases g with
  | zero=>rfl
  | succ g=>unfold gJ;rw[if_neg (by omega)]
 | f+1,0,i,h1,h2=>by unfold gJ;rw[if_neg (by omega)]
 | f+1,g+1,i,h1,h2=>by
  unfold gJ;split
  ·exact uM s f g (i+1) (by omega) (by omega)
  ·rfl
theorem Qc(s:ByteArray)(i:Nat)(h:i<s.size)(hr:yt (B s i)=true):uy s i=uy s (i+1):=by
 unfold uy
 rw[uM s s.size (s.size+1) i (by omega) (by omega)]
 conv=>lhs;unfold gJ
 rw[if_pos ⟨h,hr⟩]
theorem EL(s:ByteArray)(i:Nat)(h:¬ (i<s.size∧yt (B s i)=true)):uy s i=i:=by
 unfold uy
 cases hs:s.size with
 | zero=>rfl
 | succ n=>unfold gJ;rw[if_neg h]
theorem Gq(s:ByteArray)(i:Nat)(h:i≤s.size):uy s i≤s.size:=by
 unfold uy
 have:∀ f i,i≤s.size→gJ s f i≤s.size:=by
  intro f
  induction f with
  | zero=>intro i h;exact h
  | succ f ih=>
   intro i h;unfold gJ;split
   ·rename_i hh;exact ih (i+1) hh.1
   ·exact h
 exact this _ _ h
def jq(s:ByteArray)(k:Nat):aN :=
 if k=s.size then⟨0,⟨#[]⟩,k⟩
 else if dN s s.size k=k then⟨lC (B s k),s.extract k (k+1),k⟩
 else⟨runK (s.extract k (dN s s.size k)).toList,s.extract k (dN s s.size k),k⟩
def jw(s:ByteArray)(i:Nat):aN:=jq s (uy s i)
theorem EM(s:ByteArray)(k j:Nat)(hk:k<j)(hj:j≤s.size):∃ h0:0<(s.extract k j).size,(s.extract k j)[0]=s[k]'(by omega):=by
 have hz:(s.extract k j).size=j-k:=by simp[ByteArray.size_extract];omega
 exact⟨by omega,by simp[ByteArray.getElem_extract]⟩
theorem Jf(s:ByteArray)(k j:Nat)(hk:k<s.size)(h:dN s s.size k=j)(hkj:k<j):(s[k]'hk).toNat≠43∧(s[k]'hk).toNat≠45:=by
 have hr:wP (B s k)=true:=by
  cases hr:wP (B s k) with
  | true=>rfl
  | false=>have:=rC s k (by simp[hr]);omega
 have hb:=aa6 s k hk
 rw[← hb] at hr
 simp[wP,pU,yg] at hr
 omega
theorem zk(n:Int)(h1:0≤n)(h2:n≤1000000):IntKind.i64.wrap n=n:=by rw[IntKind.wrap_i64];omega
theorem sW{w0:World}{b:Nat}{T:TypeId}{c0 c1 c2:Value}(d0 d1 d2:Value)(h:Seg w0 b T 0 [c0,c1,c2]):
  (((w0.setCell ⟨b,0,none⟩ d0).setCell ⟨b,1,none⟩ d1).setCell ⟨b,2,none⟩ d2).cell? ⟨b,0,none⟩=some d0 ∧
  (((w0.setCell ⟨b,0,none⟩ d0).setCell ⟨b,1,none⟩ d1).setCell ⟨b,2,none⟩ d2).cell? ⟨b,1,none⟩=some d1 ∧
  (((w0.setCell ⟨b,0,none⟩ d0).setCell ⟨b,1,none⟩ d1).setCell ⟨b,2,none⟩ d2).cell? ⟨b,2,none⟩=some d2:=by
 have h3:=((h.set 0 d0).set 1 d1).set 2 d2
 simp only[Nat.zero_add] at h3
 have e0:=h3.cell (j:=0) (v:=d0) rfl
 have e1:=h3.cell (j:=1) (v:=d1) rfl
 have e2:=h3.cell (j:=2) (v:=d2) rfl
 simp only[Nat.zero_add] at e0 e1 e2
 exact⟨e0,e1,e2⟩
theorem lV{w w0:World}{b:Nat}(d0 d1 d2:Value)(h:Below b w w0):Below b w (((w0.setCell ⟨b,0,none⟩ d0).setCell ⟨b,1,none⟩ d1).setCell ⟨b,2,none⟩ d2) :=
 ((h.setCell (p:=⟨b,0,none⟩) (Nat.le_refl _) d0).setCell (p:=⟨b,1,none⟩) (Nat.le_refl _) d1).setCell (p:=⟨b,2,none⟩) (Nat.le_refl _) d2
theorem Uk(s:ByteArray)(i:Nat)(w:World)(hv:Vars w)(hs:s.size≤400)(hi:i≤s.size):
  Calls Tryz.prog 180 #[.string s,.int .i64 i] w fun e w'=>e=.returned (.agg #[.int .i64 (jw s i).kind,.string (jw s i).text,.int .i64 (jw s i).at_])∧Below w.heap.size w w':=by
 have HV:=hid hv
 clear hv
 generalize hR:jw s i=R
 have HR:=hid hR
 clear hR
 go_enter func180,ntmps180
 go_wp2_with fail
 have hb0:Below w.heap.size w (w.alloc (.cells #[.int .i64 0,.string ⟨#[]⟩,.int .i64 0] 212)):=(Below.refl _ _).alloc (Nat.le_refl _) _
 have hsg:Seg (w.alloc (.cells #[.int .i64 0,.string ⟨#[]⟩,.int .i64 0] 212)) w.heap.size 212 0 [.int .i64 0,.string ⟨#[]⟩,.int .i64 0]:=⟨_,heap_alloc_new w _,by simp,by simp⟩
 generalize hw0:w.alloc (.cells #[.int .i64 0,.string ⟨#[]⟩,.int .i64 0] 212)=w0 at *
 clear hw0
 have r0:=hsg.cell (j:=0) rfl
 have r1:=hsg.cell (j:=1) rfl
 have r2:=hsg.cell (j:=2) rfl
 have rf:∀ j,w0.frozen? ⟨w.heap.size,j,none⟩=false:=fun j=>hsg.frozen j
 simp only[Nat.zero_add] at r0 r1 r2
 have Ld:=hid hsg
 clear hsg
 go_loopg [5] (s.size-i) (fun gk a wr=>∃ k:Nat,k+gk=s.size∧a=.int .i64 k∧Hid (jq s (uy s k)=R)∧wr=w0)
 case atStart=>exact⟨i,by omega,rfl,hid HR.out,rfl⟩
 case round=>
  obtain⟨k,hk,rfl,HK,rfl⟩:=hrel
  by_cases hlt:k<s.size
  ·have HB:=hid (aa6 s k hlt)
   cases hbl:yt (B s k) with
   | true=>
    have Ul:=hid (show jq s (uy s (k+1))=R by rw[← Qc s k hlt hbl];exact HK.out)
    go_wp2_with fail
    refine(zi _ _).mono ?_;rintro e w1 ⟨rfl,rfl⟩;rw[HB.out,hbl]
    go_wp2_with fail
    go_roundg (gk-1)
    case rel=>exact⟨k+1,by omega,by go_num,Ul,rfl⟩
    case measure=>omega
   | false=>
    have Ul:=hid (show jq s k=R by rw[← HK.out,EL s k (by simp[hbl])])
    have hne:((k:Int)==(s.size:Int))=false:=by simp;omega
    go_wp2_with fail
    refine(zi _ _).mono ?_;rintro e w1 ⟨rfl,rfl⟩;rw[HB.out,hbl]
    go_wp2_with fail
    go_loopg [6] (s.size-k) (fun gk e wr=>∃ j:Nat,k≤j∧j+gk=s.size∧e=.int .i64 j∧Hid (dN s s.size k=dN s s.size j)∧wr=w1)
    case atStart=>exact⟨k,Nat.le_refl _,by omega,rfl,hid rfl,rfl⟩
    case round=>
     obtain⟨j,hkj,hj,rfl,HE,rfl⟩:=hrel
     by_cases hjl:j<s.size
     ·have HBJ:=hid (aa6 s j hjl)
      cases hsm:pU (B s j) with
      | true=>
       have HE2:=hid (HE.out.trans (zh s j hjl (by simp[wP,hsm])))
       go_wp2_with fail
       refine(jf _ _).mono ?_;rintro e w2 ⟨rfl,rfl⟩;rw[HBJ.out,hsm]
       go_wp2_with fail
       go_roundg (gk-1)
       case rel=>exact⟨j+1,by omega,by omega,by go_num,HE2,rfl⟩
       case measure=>omega
      | false=>
       cases hdg:yg (B s j) with
       | true=>
        have HE2:=hid (HE.out.trans (zh s j hjl (by simp[wP,hdg])))
        go_wp2_with fail
        refine(jf _ _).mono ?_;rintro e w2 ⟨rfl,rfl⟩;rw[HBJ.out,hsm]
        go_wp2_with fail
        refine(wS _ _).mono ?_;rintro e w3 ⟨rfl,rfl⟩;rw[HBJ.out,hdg]
        go_wp2_with fail
        go_roundg (gk-1)
        case rel=>exact⟨j+1,by omega,by omega,by go_num,HE2,rfl⟩
        case measure=>omega
       | false=>
        have HE2:=hid (HE.out.trans (rC s j (by simp[wP,hsm,hdg])))
        go_wp2_with fail
        refine(jf _ _).mono ?_;rintro e w2 ⟨rfl,rfl⟩;rw[HBJ.out,hsm]
        go_wp2_with fail
        refine(wS _ _).mono ?_;rintro e w3 ⟨rfl,rfl⟩;rw[HBJ.out,hdg]
        by_cases hje:j=k
        ·subst hje
         have HF:=hid (show R=⟨lC (B s j),s.extract j (j+1),j⟩ by rw[← Ul.out];unfold jq;rw[if_neg (by omega),if_pos HE2.out])
         have heq:((j:Int)==(j:Int))=true:=by simp
         have b1:(0:Int)≤(j:Int)+1:=by omega
         have b2:(j:Int)+1≤(s.size:Int):=by omega
         have b3:(j:Int)≤(j:Int)+1:=by omega
         have adZ:IntKind.i64.wrap ((j:Int)+1)=(j:Int)+1:=zk _ (by omega) (by omega)
         obtain⟨z0,z1,z2⟩:=sW (.int .i64 (lC (B s j):Nat)) (.string (s.extract j (j+1))) (.int .i64 (j:Nat)) Ld.out
         go_wp2_with fail
         go_region_with (go_at_call 217;refine(Ba _ _).mono ?_;rintro e w4 ⟨rfl,rfl⟩;rw[HBJ.out])
         all_goals
          go_wp2_with fail
          rw[HF.out]
          refine bodyPost_ret (v:=.agg #[.int .i64 (lC (B s j):Nat),.string (s.extract j (j+1)),.int .i64 (j:Nat)]) (by simp[results,Tryz.results180,go_sem,z0,z1,z2]) rfl ⟨rfl,(lV _ _ _ hb0).drew⟩
        ·have heq:((j:Int)==(k:Int))=false:=by simp;omega
         have Um:k<j:=by omega
         have hjs:j≤s.size:=by omega
         obtain⟨hf0,hf1⟩:=EM s k j Um hjs
         have hfz:(s.extract k j).size≤400:=by simp[ByteArray.size_extract];omega
         have HF:=hid (show R=⟨runK (s.extract k j).toList,s.extract k j,k⟩ by rw[← Ul.out];unfold jq;rw[if_neg (by omega),if_neg (by rw[HE2.out];omega),HE2.out])
         have HRC:=hid (show ((s.extract k j)[0]'hf0).toNat≠43∧((s.extract k j)[0]'hf0).toNat≠45 by
          rw[hf1];exact Jf s k j (by omega) HE2.out Um)
         have b1:(0:Int)≤(j:Int):=by omega
         have b2:(j:Int)≤(s.size:Int):=by omega
         have b3:(k:Int)≤(j:Int):=by omega
         clear hf1
         go_wp2_with fail
         go_region_with (go_at_call 218;refine(uK _ _ ((HV.out.below hb0).below (Below.refl _ _).drew) hf0 hfz HRC.out).mono ?_;rintro e w4 ⟨rfl,hb4⟩;have nI:=Ld.out.same (hb4.block _ Ld.out.lt);have y0:=nI.cell (j:=0) rfl;have y1:=nI.cell (j:=1) rfl;have y2:=nI.cell (j:=2) rfl;have yf:∀ j,w4.frozen? ⟨w.heap.size,j,none⟩=false:=fun j=>nI.frozen j;simp only[Nat.zero_add] at y0 y1 y2)
         all_goals
          obtain⟨z0,z1,z2⟩:=sW (.int .i64 (runK (s.extract k j).toList:Nat)) (.string (s.extract k j)) (.int .i64 (k:Nat)) nI
          have LH:=hb0.trans ((Below.refl _ _).drew.trans (hb4.mono (show w.heap.size≤_ from hb0.size)))
          go_wp2_with fail
          rw[HF.out]
          refine bodyPost_ret (v:=.agg #[.int .i64 (runK (s.extract k j).toList:Nat),.string (s.extract k j),.int .i64 (k:Nat)]) (by simp[results,Tryz.results180,go_sem,z0,z1,z2]) rfl ⟨rfl,lV _ _ _ LH⟩
     ·have HE2:=hid (HE.out.trans (rC s j (by omega)))
      have hje:j≠k:=by omega
      have heq:((j:Int)==(k:Int))=false:=by simp;omega
      have Um:k<j:=by omega
      have hjs:j≤s.size:=by omega
      obtain⟨hf0,hf1⟩:=EM s k j Um hjs
      have hfz:(s.extract k j).size≤400:=by simp[ByteArray.size_extract];omega
      have HF:=hid (show R=⟨runK (s.extract k j).toList,s.extract k j,k⟩ by rw[← Ul.out];unfold jq;rw[if_neg (by omega),if_neg (by rw[HE2.out];omega),HE2.out])
      have HRC:=hid (show ((s.extract k j)[0]'hf0).toNat≠43∧((s.extract k j)[0]'hf0).toNat≠45 by
       rw[hf1];exact Jf s k j (by omega) HE2.out Um)
      have b1:(0:Int)≤(j:Int):=by omega
      have b2:(j:Int)≤(s.size:Int):=by omega
      have b3:(k:Int)≤(j:Int):=by omega
      clear hf1
      go_wp2_with fail
      go_region_with (go_at_call 218;refine(uK _ _ ((HV.out.below hb0).below (Below.refl _ _).drew) hf0 hfz HRC.out).mono ?_;rintro e w4 ⟨rfl,hb4⟩;have nI:=Ld.out.same (hb4.block _ Ld.out.lt);have y0:=nI.cell (j:=0) rfl;have y1:=nI.cell (j:=1) rfl;have y2:=nI.cell (j:=2) rfl;have yf:∀ j,w4.frozen? ⟨w.heap.size,j,none⟩=false:=fun j=>nI.frozen j;simp only[Nat.zero_add] at y0 y1 y2)
      all_goals
       obtain⟨z0,z1,z2⟩:=sW (.int .i64 (runK (s.extract k j).toList:Nat)) (.string (s.extract k j)) (.int .i64 (k:Nat)) nI
       have LH:=hb0.trans ((Below.refl _ _).drew.trans (hb4.mono (show w.heap.size≤_ from hb0.size)))
       go_wp2_with fail
       rw[HF.out]
       refine bodyPost_ret (v:=.agg #[.int .i64 (runK (s.extract k j).toList:Nat),.string (s.extract k j),.int .i64 (k:Nat)]) (by simp[results,Tryz.results180,go_sem,z0,z1,z2]) rfl ⟨rfl,lV _ _ _ LH⟩
  ·have hke:k=s.size:=by omega
   have Ul:=hid (show R=⟨0,⟨#[]⟩,s.size⟩ by rw[← HK.out,EL s k (by omega)];simp[jq,hke])
   obtain⟨z0,z1,z2⟩:=sW (.int .i64 0) (.string ⟨#[]⟩) (.int .i64 (s.size:Nat)) Ld.out
   subst hke
   have heq:((s.size:Int)==(s.size:Int))=true:=by simp
   go_wp2_with fail
   rw[Ul.out]
   exact bodyPost_ret (v:=.agg #[.int .i64 0,.string ⟨#[]⟩,.int .i64 (s.size:Nat)]) (by simp[results,Tryz.results180,go_sem,z0,z1,z2]) rfl ⟨rfl,lV _ _ _ hb0⟩
end Go.Proofs.YtolfcabodiphmaaGreatDoor
