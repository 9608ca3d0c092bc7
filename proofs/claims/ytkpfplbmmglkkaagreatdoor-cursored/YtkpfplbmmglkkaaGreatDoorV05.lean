/- The leaves of package courierref: what each small function answers, for every argument. -/
import Derived.Test.YtkpfplbmmglkkaaGreatDoorV01
import Derived.Deep.RegionHeld3
import Derived.Deep.RegionLaw
import Derived.Lib.AtoiAll
import Derived.Lib.SmallJoins
set_option linter.all false
set_option maxHeartbeats 4000000
set_option maxRecDepth 100000
namespace Go.Proofs.YtkpfplbmmglkkaaGreatDoor
open Go.Proofs.Tryz
variable {l r:List UInt8}{w w' w0:World}{b o lo size n:Nat}{T e:TypeId}{xs:List Value}{v:Value}{c:UInt8}
open Go.RowKit
def oE(c:Int):Bool:=decide (97≤c)&&decide (c≤122)
def vz(c:Int):Bool:=decide (48≤c)&&decide (c≤57)
def ui(c:Int):Bool:=oE c||vz c
def zP(l:List UInt8):Bool:=match l with | []=>false | c::_=>oE (c.toNat:Int)&&decide (l.length≤12)
theorem Rm(s:ByteArray)(h:0<s.size):zP s.toList=(oE (s[0].toNat:Int)&&decide ((s.size:Int)≤12)):=by
 obtain⟨⟨l⟩⟩:=s;rw[ByteArray.toList_eq]
 cases l with
 | nil=>simp[ByteArray.size] at h
 | cons c r=>
  have e:(({ data:={ toList:=c::r } }:ByteArray)[0]'h)=c:=rfl;have e2:(({ data:={ toList:=c::r } }:ByteArray).size)=(c::r).length:=rfl;rw[e,e2];simp only[zP]
  congr 1
  exact decide_eq_decide.2 (by omega)
def Rn(l:List UInt8):Bool:=l==[109,101,115,115,97,103,101]||l==[101,110,117,109]
def Yu:List (List UInt8):=[[109,101,115,115,97,103,101],[101,110,117,109],[115,116,114,101,97,109],[99,97,108,108],[111,112,116],[108,105,115,116],[105,110,116],[98,111,111,108],[116,101,120,116]]
def uj(l:List UInt8):Bool:=Yu.any (fun a=>a==l)
def MD(l:List UInt8):Bool:=zP l && !uj l
def kx(l:List UInt8):Bool:=l==[105,110,116]||l==[98,111,111,108]||l==[116,101,120,116]
def Ro(l:List UInt8):Bool:=MD l||kx l
def me(l:List UInt8):Bool:=(List.range 99).any (fun i=>l==Lib.decDigits (i+1))
theorem Rp{k:Nat}(h1:1≤k)(h2:k≤99)(h:l=Lib.decDigits k):me l=true:=by
 unfold me;rw[List.any_eq_true];exact⟨k-1,by simp;omega,by rw[show k-1+1=k from by omega,h];simp⟩
def ye(k:Nat):List UInt8:=if k<10 then [UInt8.ofNat (48+k)] else [UInt8.ofNat (48+k / 10),UInt8.ofNat (48+k % 10)]
theorem ME(k:Nat)(h:k<100):Lib.decDigits k=ye k:=by
 rw[Lib.decDigits];unfold ye
 by_cases h1:k<10
 ·simp[h1]
 ·have h2:k / 10<10:=by omega
  rw[Lib.decDigits];simp[h1,h2]
theorem CO:∀ k,k<100→Lib.atoi (ye k)=some (k:Int)∧(ye k).length≤2:=by decide
theorem mf(h:me l=true):∃ k,1≤k∧k≤99∧l=ye k:=by
 unfold me at h;rw[List.any_eq_true] at h;obtain⟨i,hi,he⟩:=h;simp at hi he;exact⟨i+1,by omega,by omega,by rw[he,ME _ (by omega)]⟩
theorem On{s:ByteArray}(h:me s.toList=true):∃ k:Nat,1≤k∧k≤99∧s.size≤18∧Lib.atoi s.data.toList=some (k:Int):=by
 obtain⟨k,h1,h2,he⟩:=mf h;have:=CO k (by omega);rw[ByteArray.toList_eq] at he;refine⟨k,h1,h2,?_,by rw[he];exact this.1⟩;show s.data.toList.length≤18;rw[he];omega
def B(s:ByteArray)(i:Nat):Int:=((s.toList.getD i 0).toNat:Int)
theorem ZP(s:ByteArray)(i:Nat)(h:i<s.size):((s[i]'h).toNat:Int)=B s i:=by
 unfold B
 have e:s.toList.getD i 0=s[i]'h:=by
  rw[ByteArray.toList_eq,List.getD_eq_getElem?_getD,List.getElem?_eq_getElem (by simpa using h)];rfl
 rw[e]
structure Tok where
 text:ByteArray
 at_:Nat
 bad:Bool
def dx(s:ByteArray):Nat→Nat→Nat
 | 0,i=>i
 | f+1,i=>if i<s.size∧ui (B s i)=true then dx s f (i+1) else i
def ZQ(t:ByteArray):Bool:=!(me t.toList) && !(zP t.toList)
def VF(s:ByteArray):Nat→Nat→List Tok
 | 0,_=>[]
 | f+1,i=>
  if i<s.size then
   if B s i=32∨B s i=10 then VF s f (i+1)
   else if ui (B s i)=true then⟨s.extract i (dx s s.size i),i,ZQ (s.extract i (dx s s.size i))⟩::VF s f (dx s s.size i)
   else⟨s.extract i (i+1),i,!(B s i==123) && !(B s i==125)⟩::VF s f (i+1)
  else []
theorem vA(s:ByteArray):∀ f i,i≤dx s f i
 | 0,i=>Nat.le_refl _
 | f+1,i=>by
  unfold dx;split
  ·exact Nat.le_trans (Nat.le_succ i) (vA s f (i+1))
  ·exact Nat.le_refl _
theorem vC(s:ByteArray):∀ f i,i≤s.size→dx s f i≤s.size
 | 0,i,h=>h
 | f+1,i,h=>by
  unfold dx;split
  ·rename_i hh;exact vC s f (i+1) hh.1
  ·exact h
theorem xe(s:ByteArray):∀ f g i,s.size≤f+i→s.size≤g+i→dx s f i=dx s g i
 | 0,g,i,h1,h2=>by
  cases g with
  | zero=>rfl
  | succ g=>unfold dx;rw[if_neg (by omega)]
 | f+1,0,i,h1,h2=>by unfold dx;rw[if_neg (by omega)]
 | f+1,g+1,i,h1,h2=>by
  unfold dx;split
  ·exact xe s f g (i+1) (by omega) (by omega)
  ·rfl
theorem xf(s:ByteArray)(i:Nat)(h:i<s.size)(hr:ui (B s i)=true):dx s s.size i=dx s s.size (i+1):=by
 rw[xe s s.size (s.size+1) i (by omega) (by omega)]
 conv=>lhs;unfold dx
 rw[if_pos ⟨h,hr⟩]
theorem qm(s:ByteArray)(i:Nat)(h:¬ (i<s.size∧ui (B s i)=true)):dx s s.size i=i:=by
 cases hs:s.size with
 | zero=>rfl
 | succ n=>unfold dx;rw[if_neg h]
def ZR(s:ByteArray)(i:Nat):List Tok:=VF s (s.size+1) i
def dU(w:World)(b:Nat)(T:TypeId)(o:Nat)(xs:List Value):Prop :=
 ∃ cur,w.heap[b]? = some (.cells cur T (0,0))∧o+xs.length≤cur.size∧(cur.toList.drop o).take xs.length=xs
theorem dU.cell(h:dU w b T o xs){j:Nat}{v:Value}(hj:xs[j]? = some v):w.cell? ⟨b,o+j,none⟩=some v:=by
 obtain⟨cur,hb,hs,ht⟩:=h
 have bC:j<xs.length:=by
  rcases Nat.lt_or_ge j xs.length with h | h
  ·exact h
  ·rw[List.getElem?_eq_none h] at hj;cases hj
 simp only[World.cell?,hb];rw[← hj]
 conv=>rhs;rw[← ht,List.getElem?_take,if_pos bC]
 simp
theorem dU.aq(h:dU w b T o xs)(j:Nat):w.frozen? (aj b j)=false:=by
 obtain⟨cur,hb,_⟩:=h;simp[World.frozen?,hb]
theorem dU.lt(h:dU w b T o xs):b<w.heap.size:=by
 obtain⟨cur,hb,_⟩:=h
 rcases Nat.lt_or_ge b w.heap.size with bC | Ki
 ·exact bC
 ·rw[Array.getElem?_eq_none Ki] at hb;cases hb
theorem dU.same(h:dU w b T o xs)(e:w'.heap[b]? = w.heap[b]?):dU w' b T o xs:=by
 obtain⟨cur,hb,hr⟩:=h;exact⟨cur,by rw[e,hb],hr⟩
theorem dU.set(h:dU w b T o xs)(j:Nat)(v:Value):dU (w.setCell ⟨b,o+j,none⟩ v) b T o (xs.set j v):=by
 obtain⟨cur,hb,hs,ht⟩:=h;refine⟨cur.setIfInBounds (o+j) v,heap_setCell_same w b (o+j) cur T v hb,by simpa using hs,?_⟩;rw[Array.toList_setIfInBounds,List.length_set]
 by_cases hj:j<xs.length
 ·rw[List.drop_set,if_neg (by omega),List.take_set,ht,show o+j-o=j from by omega]
 ·rw[List.drop_set,if_neg (by omega),List.take_set,ht,List.set_eq_of_length_le (by omega),List.set_eq_of_length_le (by omega)]
structure zQ where
 number:Int
 name:ByteArray
 kind:ByteArray
 base:ByteArray
 numberAt:Nat
 nameAt:Nat
 baseAt:Nat
structure uk where
 kind:ByteArray
 name:ByteArray
 nameAt:Nat
 fields:List zQ
 names:List ByteArray
 MF:List Nat
 Rq:List ByteArray
 MH:List Nat
def ie(s:ByteArray):Value:=.string s
def kI(n:Nat):Value:=.int .i64 n
theorem cm{lo':Nat}(h:w.ownsRow lo e size v n xs)(hl:lo'≤lo):w.ownsRow lo' e size v n xs:=by
 obtain⟨h1,h2⟩:=h;refine⟨h1,?_⟩
 rcases h2 with h2 | ⟨g,cap,cur,hv,hg,r⟩
 ·exact Or.inl h2
 ·exact Or.inr ⟨g,cap,cur,hv,by omega,r⟩
theorem dG{ys:List Value}(h:w.ownsRow lo e size v n xs)(h':dU w b T o ys)(he:e≠T){g:Nat}(hg:v.ownBlock=some g):g≠b:=by
 intro hh;subst hh;obtain⟨c,hc⟩:=gB h hg;obtain⟨c',fZ,_⟩:=h';rw[hc] at fZ;simp at fZ;exact he fZ.2
def zR:ByteArray:=⟨#[]⟩
def kU(l:List UInt8):Int:=(Lib.atoi l).getD 0
def yN(f:zQ→zQ)(l:List zQ):List zQ:=match l.getLast? with | some a=>l.dropLast++[f a] | none=>[]
def ZS(t:ByteArray)(l:List UInt8):Bool:=t.toList==l
def eA:List UInt8:=[109,101,115,115,97,103,101]
def mM:List UInt8:=[101,110,117,109]
def gu:List UInt8:=[115,116,114,101,97,109]
def mg:List UInt8:=[99,97,108,108]
def yg:List UInt8:=[111,112,116]
def r9:List UInt8:=[108,105,115,116]
def aet:List UInt8:=[123]
def Yv:List UInt8:=[125]
def Eg(it:uk)(at_:Nat)(t:Tok):uk × Nat :=
 match at_ with
 | 1=>if MD t.text.toList then({ it with name:=t.text,nameAt:=t.at_ },if Rn it.kind.toList then 2 else 8) else(it,9)
 | 2=>if ZS t.text aet then(it,if ZS it.kind eA then 3 else 7) else(it,9)
 | 3=>if me t.text.toList then({ it with fields:=it.fields++[⟨kU t.text.toList,zR,zR,zR,t.at_,0,0⟩] },4)
     else if it.fields≠[]∧ZS t.text Yv=true then(it,0) else(it,9)
 | 4=>if MD t.text.toList then({ it with fields:=yN (fun f=>{ f with name:=t.text,nameAt:=t.at_ }) it.fields },5) else(it,9)
 | 5=>if ZS t.text yg||ZS t.text r9 then({ it with fields:=yN (fun f=>{ f with kind:=t.text }) it.fields },6)
     else if Ro t.text.toList then({ it with fields:=yN (fun f=>{ f with base:=t.text,baseAt:=t.at_ }) it.fields },3) else(it,9)
 | 6=>if Ro t.text.toList then({ it with fields:=yN (fun f=>{ f with base:=t.text,baseAt:=t.at_ }) it.fields },3) else(it,9)
 | 7=>if it.names≠[]∧ZS t.text Yv=true then(it,0)
     else if MD t.text.toList then({ it with names:=it.names++[t.text],MF:=it.MF++[t.at_] },7) else(it,9)
 | 8=>if Ro t.text.toList then({ it with Rq:=it.Rq++[t.text],MH:=it.MH++[t.at_] },if ZS it.kind mg&&it.Rq.isEmpty then 8 else 0) else(it,9)
 | _=>(it,9)
theorem Yw:∀ (l:List UInt8) (acc u:Nat),Lib.parseUint10 acc l=.ok u→acc≤u
 | [],acc,u,h=>by simp only[Lib.parseUint10] at h;injection h with h;omega
 | c::r,acc,u,h=>by
  simp only[Lib.parseUint10] at h
  split at h
  ·split at h
   ·cases h
   ·split at h
    ·cases h
    ·have:=Yw r _ u h;omega
  ·cases h
theorem Eh{acc u:Nat}(h:Lib.parseUint10 acc (c::r)=.ok u):48≤c.toNat∧c.toNat≤57∧Lib.parseUint10 (acc*10+(c.toNat-48)) r=.ok u:=by
 simp only[Lib.parseUint10] at h
 split at h
 ·rename_i hc
  split at h
  ·cases h
  ·split at h
   ·cases h
   ·exact⟨hc.1,hc.2,h⟩
 ·cases h
theorem Rr(c:UInt8)(n:Nat)(h:c.toNat=n):c=UInt8.ofNat n:=by
 subst h;simp
theorem qn:∀ k,k<100→1≤k→Lib.atoiAll (ye k)=.ok (k:Int)∧(ye k).head? ≠ some 48:=by decide
theorem VG(hc:c.toNat≠43∧c.toNat≠45){v:Int}(h:Lib.atoiAll (c::r)=.ok v):((c.toNat≠48∧v≤99)↔me (c::r)=true)∧(me (c::r)=true→v=kU (c::r)):=by
 have h':=h;unfold Lib.atoiAll at h';simp only[hc.1,hc.2,or_self,if_false,Lib.parseMag,reduceCtorEq] at h'
 have key:c.toNat≠48→v≤99→∃ k,1≤k∧k≤99∧c::r=ye k:=by
  intro hz hv
  rcases hp:Lib.parseUint10 0 (c::r) with u | _ | _
  rotate_left
  ·rw[hp] at h';simp at h'
  ·rw[hp] at h';simp at h'
  ·rw[hp] at h'
   have hu:(u:Int)=v:=by
    simp only[not_false_eq_true,true_and,false_and,if_false] at h'
    split at h'
    ·cases h'
    ·injection h'
   obtain⟨h1,h2,h3⟩:=Eh hp
   cases r with
   | nil=>
    simp only[Lib.parseUint10] at h3;injection h3 with h3
    exact⟨u,by omega,by omega,by unfold ye;rw[if_pos (by omega)];rw[Rr c (48+u) (by omega)]⟩
   | cons d r'=>
    obtain⟨h4,h5,h6⟩:=Eh h3
    cases r' with
    | nil=>
     simp only[Lib.parseUint10] at h6;injection h6 with h6
     refine⟨u,by omega,by omega,?_⟩;unfold ye;rw[if_neg (by omega),Rr c (48+u / 10) (by omega),Rr d (48+u % 10) (by omega)]
    | cons e r''=>
     obtain⟨h7,h8,h9⟩:=Eh h6;have:=Yw _ _ _ h9;omega
 refine⟨⟨fun⟨a,b⟩=>?_,fun hn=>?_⟩,fun hn=>?_⟩
 ·obtain⟨k,h1,h2,h3⟩:=key a b
  exact Rp h1 h2 (by rw[h3,ME k (by omega)])
 ·obtain⟨k,h1,h2,h3⟩:=mf hn
  have hk:=qn k (by omega) h1;rw[← h3,h] at hk;have h4:=hk.1;injection h4 with h4
  refine⟨?_,by omega⟩;intro h48;exact hk.2 (by simp;exact UInt8.toNat_inj.1 (by simpa using h48))
 ·obtain⟨k,h1,h2,h3⟩:=mf hn
  have hk:=qn k (by omega) h1;rw[← h3,h] at hk;have h4:=hk.1;injection h4 with h4
  have ha:=(CO k (by omega)).1;rw[kU,h3,ha];simpa using h4
theorem yO(h:∀ v,Lib.atoiAll l≠.ok v):me l=false:=by
 cases hn:me l with
 | false=>rfl
 | true=>
  obtain⟨k,h1,h2,h3⟩:=mf hn;exact absurd (by rw[h3];exact(qn k (by omega) h1).1) (h k)
structure Vars(w:World):Prop where
 sx:∃ te pe,w.cell? ⟨1,0,none⟩=some (.iface te pe)
 rg:∃ te pe,w.cell? ⟨2,0,none⟩=some (.iface te pe)
 lt1:1<w.heap.size
 lt2:2<w.heap.size
theorem Vars.below(h:Vars w)(hb:Below w.heap.size w w'):Vars w':=by
 obtain⟨te,pe,h1⟩:=h.sx;obtain⟨tf,pf,h2⟩:=h.rg;have l1:=h.lt1;have l2:=h.lt2;exact⟨⟨te,pe,by rw[hb.cell l1];exact h1⟩,⟨tf,pf,by rw[hb.cell l2];exact h2⟩,Nat.lt_of_lt_of_le l1 hb.size,Nat.lt_of_lt_of_le l2 hb.size⟩
theorem ig(c:Int)(w:World):
  aT 213 #[vB c] w fun e w'=>e=.returned (.bool (oE c))∧w'=w:=by
 go_enter func213,ntmps213
 go_wp2
 ·have h:97≤c:=by assumption
  go_ret
  exact⟨bR (by simp[oE,h]),rfl⟩
 ·have h:c<97:=by assumption
  go_ret
  exact⟨bR (by simp[oE];omega),rfl⟩
theorem ul(c:Int)(w:World):
  aT 214 #[vB c] w fun e w'=>e=.returned (.bool (vz c))∧w'=w:=by
 go_enter func214,ntmps214
 go_wp2
 ·have h:48≤c:=by assumption
  go_ret
  exact⟨bR (by simp[vz,h]),rfl⟩
 ·have h:c<48:=by assumption
  go_ret
  exact⟨bR (by simp[vz];omega),rfl⟩
def vD(c:Int):Bool:=c==32||c==10
theorem xg(c:Int)(w:World):
  aT 212 #[vB c] w fun e w'=>e=.returned (.bool (vD c))∧w'=w:=by
 go_enter func212,ntmps212
 cases h1:(c==32)
 all_goals
  go_wp2
  go_ret
  exact⟨bR (by simp[vD,h1]),rfl⟩
def markK(c:Int):Nat:=if c=123 then 4 else if c=125 then 5 else 1
theorem zS(c:Int)(w:World):
  aT 215 #[vB c] w fun e w'=>e=.returned (vI (markK c:Nat))∧w'=w:=by
 go_enter func215,ntmps215
 by_cases h1:c=123
 ·have hb:(c==123)=true:=by simp[h1]
  have HM:=U (show markK c=4 by simp[markK,h1]);clear h1
  go_wp2
  go_ret
  exact⟨by rw[HM.o];rfl,rfl⟩
 ·have hb:(c==123)=false:=by simp[h1]
  by_cases h2:c=125
  ·have aW:(c==125)=true:=by simp[h2]
   have HM:=U (show markK c=5 by simp[markK,h2]);clear h1 h2
   go_wp2
   go_ret
   exact⟨by rw[HM.o];rfl,rfl⟩
  ·have aW:(c==125)=false:=by simp[h2]
   have HM:=U (show markK c=1 by simp[markK,h1,h2]);clear h1 h2
   go_wp2
   go_ret
   exact⟨by rw[HM.o];rfl,rfl⟩
theorem Gg(s:ByteArray)(h:0<s.size):∃ r,s.toList=s[0]::r:=by
 obtain⟨⟨l⟩⟩:=s;rw[ByteArray.toList_eq]
 cases l with
 | nil=>simp[ByteArray.size] at h
 | cons c r=>exact⟨r,rfl⟩
theorem oF(run:ByteArray)(w:World)(hv:Vars w)(h0:0<run.size)(hs:run.size≤400)(hc:(run[0]'h0).toNat≠43∧(run[0]'h0).toNat≠45):
  aT 248 #[.string run] w fun e w'=>∃ n:Int,e=.returned (.tuple #[vI n,.bool (me run.toList)])∧(me run.toList=true→n=kU run.toList)∧Below w.heap.size w w':=by
 obtain⟨r,hr⟩:=Gg run h0
 rcases hA:Lib.atoiAll run.data.toList with v | _ | _
 ·have hN:=VG hc (r:=r) (v:=v) (by rw[← hr,ByteArray.toList_eq];exact hA)
  rw[← hr] at hN;have HN:=U hN;have HC:=U hc;clear hN hr hc;generalize me run.toList=nb at *
  go_enter func248,ntmps248
  go_wp2_with fail
  refine(lY run (by omega) v hA _).mono ?_;rintro e w1 ⟨rfl,ee⟩
  have aA:Below w.heap.size w w1:=by
   rcases ee with rfl | ⟨bt,rfl⟩
   ·exact Below.refl _ _
   ·exact Joins.below_bytesWorld _ _ _ _ (Nat.le_refl _)
  clear ee hA
  go_wp2_with fail
  ·have h:((run[0]'h0).toNat:Int)=48:=by assumption
   have ol:nb=false:=by
    cases nb with
    | false=>rfl
    | true=>exact absurd (by omega) (HN.o.1.2 rfl).1
   subst ol
   go_ret2
   exact⟨v,rfl,HN.o.2,aA⟩
  ·have h:¬ ((run[0]'h0).toNat:Int)=48:=by assumption
   have bT:(((run[0]'h0).toNat:Int) != 48)=true:=by simp;omega
   have ol:nb=((((run[0]'h0).toNat:Int) != 48)&&decide (v≤99)):=by
    rw[bT,Bool.true_and]
    by_cases hv9:v≤99
    ·rw[HN.o.1.1 ⟨by omega,hv9⟩];simp[hv9]
    ·cases nb with
     | false=>simp[hv9]
     | true=>exact absurd (HN.o.1.2 rfl).2 hv9
   subst ol
   go_ret2
   exact⟨v,rfl,HN.o.2,aA⟩
 ·have HN:=U (yO (l:=run.toList) (fun v hh=>by rw[ByteArray.toList_eq,hA] at hh;cases hh))
  obtain⟨te,pe,ZT⟩:=hv.sx
  go_enter func248,ntmps248
  go_wp2_with fail
  refine(jx run (by omega) ⟨fun v hh => (by rw [hA] at hh; cases hh),fun hh => (by rw [hA] at hh; cases hh)⟩ _ _ ZT (Or.inr ⟨te,pe,rfl⟩)).mono ?_;rintro e w1 ⟨N,rfl,_,_,aA⟩;clear hA
  go_wp2_with fail
  go_ret2
  exact⟨_,by rw[HN.o];rfl,fun hh=>(by rw[HN.o] at hh;cases hh),aA⟩
 ·have HN:=U (yO (l:=run.toList) (fun v hh=>by rw[ByteArray.toList_eq,hA] at hh;cases hh))
  obtain⟨te,pe,ZU⟩:=hv.rg
  go_enter func248,ntmps248
  go_wp2_with fail
  refine(jZ run (by omega) hA _ _ ZU (Or.inr ⟨te,pe,rfl⟩)).mono ?_;rintro e w1 ⟨N,rfl,_,_,aA⟩;clear hA
  go_wp2_with fail
  go_ret2
  exact⟨_,by rw[HN.o];rfl,fun hh=>(by rw[HN.o] at hh;cases hh),aA⟩
def runK(l:List UInt8):Nat:=if zP l=true then 2 else if me l=true then 3 else 1
theorem sk(run:ByteArray)(w:World)(hv:Vars w)(h0:0<run.size)(hs:run.size≤400)(hc:(run[0]'h0).toNat≠43∧(run[0]'h0).toNat≠45):
  aT 216 #[.string run] w fun e w'=>e=.returned (vI (runK run.toList:Nat))∧Below w.heap.size w w':=by
 have hn:=Rm run h0;have HV:=U hv;have HC:=U hc;clear hv hc
 cases wZ:oE ((run[0]'h0).toNat:Int) with
 | true=>
  by_cases h12:(run.size:Int)≤12
  ·have HK:=U (show runK run.toList=2 by unfold runK;rw[hn,wZ];simp[h12])
   clear hn
   go_enter func216,ntmps216
   go_wp2_with fail
   refine(ig _ _).mono ?_;rintro e w1 ⟨rfl,rfl⟩;rw[wZ]
   go_wp2_with fail
   go_ret
   exact⟨by rw[HK.o];rfl,Below.refl _ _⟩
  ·have Kj:=U (show zP run.toList=false by rw[hn,wZ];simp[h12])
   clear hn
   go_enter func216,ntmps216
   go_wp2_with fail
   refine(ig _ _).mono ?_;rintro e w1 ⟨rfl,rfl⟩;rw[wZ]
   go_wp2_with fail
   refine(oF run _ HV.o h0 hs HC.o).mono ?_;rintro e w2 ⟨n,rfl,_,aW⟩
   cases ol:me run.toList with
   | true=>
    have HK:=U (show runK run.toList=3 by unfold runK;rw[Kj.o,ol];rfl)
    go_wp2_with fail
    go_ret
    exact⟨by rw[HK.o];rfl,aW⟩
   | false=>
    have HK:=U (show runK run.toList=1 by unfold runK;rw[Kj.o,ol];rfl)
    go_wp2_with fail
    go_ret
    exact⟨by rw[HK.o];rfl,aW⟩
 | false=>
  have Kj:=U (show zP run.toList=false by rw[hn,wZ];rfl);clear hn
  go_enter func216,ntmps216
  go_wp2_with fail
  refine(ig _ _).mono ?_;rintro e w1 ⟨rfl,rfl⟩;rw[wZ]
  go_wp2_with fail
  refine(oF run _ HV.o h0 hs HC.o).mono ?_;rintro e w2 ⟨n,rfl,_,aW⟩
  cases ol:me run.toList with
  | true=>
   have HK:=U (show runK run.toList=3 by unfold runK;rw[Kj.o,ol];rfl)
   go_wp2_with fail
   go_ret
   exact⟨by rw[HK.o];rfl,aW⟩
  | false=>
   have HK:=U (show runK run.toList=1 by unfold runK;rw[Kj.o,ol];rfl)
   go_wp2_with fail
   go_ret
   exact⟨by rw[HK.o];rfl,aW⟩
structure PTok where
 kind:Nat
 text:ByteArray
 at_:Nat
def fx(s:ByteArray):Nat→Nat→Nat
 | 0,i=>i
 | f+1,i=>if i<s.size∧vD (B s i)=true then fx s f (i+1) else i
def bEnd(s:ByteArray)(i:Nat):Nat:=fx s s.size i
theorem sn(s:ByteArray):∀ f g i,s.size≤f+i→s.size≤g+i→fx s f i=fx s g i
 | 0,g,i,h1,h2=>by
  cases g with
  | zero=>rfl
  | succ g=>unfold fx;rw[if_neg (by omega)]
 | f+1,0,i,h1,h2=>by unfold fx;rw[if_neg (by omega)]
 | f+1,g+1,i,h1,h2=>by
  unfold fx;split
  ·exact sn s f g (i+1) (by omega) (by omega)
  ·rfl
theorem Oo(s:ByteArray)(i:Nat)(h:i<s.size)(hr:vD (B s i)=true):bEnd s i=bEnd s (i+1):=by
 unfold bEnd;rw[sn s s.size (s.size+1) i (by omega) (by omega)]
 conv=>lhs;unfold fx
 rw[if_pos ⟨h,hr⟩]
theorem CQ(s:ByteArray)(i:Nat)(h:¬ (i<s.size∧vD (B s i)=true)):bEnd s i=i:=by
 unfold bEnd
 cases hs:s.size with
 | zero=>rfl
 | succ n=>unfold fx;rw[if_neg h]
theorem Ei(s:ByteArray)(i:Nat)(h:i≤s.size):bEnd s i≤s.size:=by
 unfold bEnd
 have:∀ f i,i≤s.size→fx s f i≤s.size:=by
  intro f
  induction f with
  | zero=>intro i h;exact h
  | succ f ih=>
   intro i h;unfold fx;split
   ·rename_i hh;exact ih (i+1) hh.1
   ·exact h
 exact this _ _ h
def scanAt(s:ByteArray)(k:Nat):PTok :=
 if k=s.size then⟨0,⟨#[]⟩,k⟩
 else if dx s s.size k=k then⟨markK (B s k),s.extract k (k+1),k⟩
 else⟨runK (s.extract k (dx s s.size k)).toList,s.extract k (dx s s.size k),k⟩
def scanP(s:ByteArray)(i:Nat):PTok:=scanAt s (bEnd s i)
theorem CR(s:ByteArray)(k j:Nat)(hk:k<j)(hj:j≤s.size):∃ h0:0<(s.extract k j).size,(s.extract k j)[0]=s[k]'(by omega):=by
 have hz:(s.extract k j).size=j-k:=by simp[ByteArray.size_extract];omega
 exact⟨by omega,by simp[ByteArray.getElem_extract]⟩
theorem Gh(s:ByteArray)(k j:Nat)(hk:k<s.size)(h:dx s s.size k=j)(hkj:k<j):(s[k]'hk).toNat≠43∧(s[k]'hk).toNat≠45:=by
 have hr:ui (B s k)=true:=by
  cases hr:ui (B s k) with
  | true=>rfl
  | false=>have:=qm s k (by simp[hr]);omega
 have hb:=ZP s k hk;rw[← hb] at hr;simp[ui,oE,vz] at hr;omega
theorem xh(n:Int)(h1:0≤n)(h2:n≤1000000):IntKind.i64.wrap n=n:=by rw[IntKind.wrap_i64];omega
theorem qV{c0 c1 c2:Value}(d0 d1 d2:Value)(h:dU w0 b T 0 [c0,c1,c2]):
  (((w0.setCell (aj b 0) d0).setCell (aj b 1) d1).setCell (aj b 2) d2).cell? (aj b 0)=some d0 ∧
  (((w0.setCell (aj b 0) d0).setCell (aj b 1) d1).setCell (aj b 2) d2).cell? (aj b 1)=some d1 ∧
  (((w0.setCell (aj b 0) d0).setCell (aj b 1) d1).setCell (aj b 2) d2).cell? (aj b 2)=some d2:=by
 have h3:=((h.set 0 d0).set 1 d1).set 2 d2;simp only[Nat.zero_add] at h3;have e0:=h3.cell (j:=0) (v:=d0) rfl;have e1:=h3.cell (j:=1) (v:=d1) rfl;have e2:=h3.cell (j:=2) (v:=d2) rfl;simp only[Nat.zero_add] at e0 e1 e2;exact⟨e0,e1,e2⟩
theorem lI(d0 d1 d2:Value)(h:Below b w w0):Below b w (((w0.setCell (aj b 0) d0).setCell (aj b 1) d1).setCell (aj b 2) d2) :=
 ((h.setCell (p:=(aj b 0)) (Nat.le_refl _) d0).setCell (p:=(aj b 1)) (Nat.le_refl _) d1).setCell (p:=(aj b 2)) (Nat.le_refl _) d2
theorem Rs(s:ByteArray)(i:Nat)(w:World)(hv:Vars w)(hs:s.size≤400)(hi:i≤s.size):
  aT 177 #[.string s,vI i] w fun e w'=>e=.returned (.agg #[.int .i64 (scanP s i).kind,.string (scanP s i).text,.int .i64 (scanP s i).at_])∧Below w.heap.size w w':=by
 have HV:=U hv;clear hv;generalize hR:scanP s i=R;have HR:=U hR;clear hR
 go_enter func177,ntmps177
 go_wp2_with fail
 have cj:Below w.heap.size w (w.alloc (.cells #[vI 0,.string ⟨#[]⟩,vI 0] 221)):=(Below.refl _ _).alloc (Nat.le_refl _) _;have fy:dU (w.alloc (.cells #[vI 0,.string ⟨#[]⟩,vI 0] 221)) w.heap.size 221 0 [vI 0,.string ⟨#[]⟩,vI 0]:=⟨_,heap_alloc_new w _,by simp,by simp⟩
 generalize nF:w.alloc (.cells #[vI 0,.string ⟨#[]⟩,vI 0] 221)=w0 at *;clear nF;have r0:=fy.cell (j:=0) rfl;have r1:=fy.cell (j:=1) rfl;have r2:=fy.cell (j:=2) rfl;have rf:∀ j,w0.frozen? (aj w.heap.size j)=false:=fun j=>fy.aq j
 simp only[Nat.zero_add] at r0 r1 r2;have MI:=U fy;clear fy
 go_loopg [5] (s.size-i) (fun gk a wr=>∃ k:Nat,k+gk=s.size∧a=.int .i64 k∧Hid (scanAt s (bEnd s k)=R)∧wr=w0)
 case atStart=>exact⟨i,by omega,rfl,U HR.o,rfl⟩
 case round=>
  obtain⟨k,hk,rfl,HK,rfl⟩:=hrel
  by_cases bC:k<s.size
  ·have HB:=U (ZP s k bC)
   cases zA:vD (B s k) with
   | true=>
    have Rt:=U (show scanAt s (bEnd s (k+1))=R by rw[← Oo s k bC zA];exact HK.o)
    go_wp2_with fail
    refine(xg _ _).mono ?_;rintro e w1 ⟨rfl,rfl⟩;rw[HB.o,zA]
    go_wp2_with fail
    go_roundg (gk-1)
    case rel=>exact⟨k+1,by omega,by go_num,Rt,rfl⟩
    case measure=>omega
   | false=>
    have Rt:=U (show scanAt s k=R by rw[← HK.o,CQ s k (by simp[zA])]);have bT:((k:Int)==(s.size:Int))=false:=by simp;omega
    go_wp2_with fail
    refine(xg _ _).mono ?_;rintro e w1 ⟨rfl,rfl⟩;rw[HB.o,zA]
    go_wp2_with fail
    go_loopg [6] (s.size-k) (fun gk e wr=>∃ j:Nat,k≤j∧j+gk=s.size∧e=.int .i64 j∧Hid (dx s s.size k=dx s s.size j)∧wr=w1)
    case atStart=>exact⟨k,Nat.le_refl _,by omega,rfl,U rfl,rfl⟩
    case round=>
     obtain⟨j,hkj,hj,rfl,HE,rfl⟩:=hrel
     by_cases N7:j<s.size
     ·have HBJ:=U (ZP s j N7)
      cases wZ:oE (B s j) with
      | true=>
       have pd:=U (HE.o.trans (xf s j N7 (by simp[ui,wZ])))
       go_wp2_with fail
       refine(ig _ _).mono ?_;rintro e w2 ⟨rfl,rfl⟩;rw[HBJ.o,wZ]
       go_wp2_with fail
       go_roundg (gk-1)
       case rel=>exact⟨j+1,by omega,by omega,by go_num,pd,rfl⟩
       case measure=>omega
      | false=>
       cases hdg:vz (B s j) with
       | true=>
        have pd:=U (HE.o.trans (xf s j N7 (by simp[ui,hdg])))
        go_wp2_with fail
        refine(ig _ _).mono ?_;rintro e w2 ⟨rfl,rfl⟩;rw[HBJ.o,wZ]
        go_wp2_with fail
        refine(ul _ _).mono ?_;rintro e w3 ⟨rfl,rfl⟩;rw[HBJ.o,hdg]
        go_wp2_with fail
        go_roundg (gk-1)
        case rel=>exact⟨j+1,by omega,by omega,by go_num,pd,rfl⟩
        case measure=>omega
       | false=>
        have pd:=U (HE.o.trans (qm s j (by simp[ui,wZ,hdg])))
        go_wp2_with fail
        refine(ig _ _).mono ?_;rintro e w2 ⟨rfl,rfl⟩;rw[HBJ.o,wZ]
        go_wp2_with fail
        refine(ul _ _).mono ?_;rintro e w3 ⟨rfl,rfl⟩;rw[HBJ.o,hdg]
        by_cases hje:j=k
        ·subst hje
         have HF:=U (show R=⟨markK (B s j),s.extract j (j+1),j⟩ by rw[← Rt.o];unfold scanAt;rw[if_neg (by omega),if_pos pd.o]);have U6:((j:Int)==(j:Int))=true:=by simp
         have b1:(0:Int)≤(j:Int)+1:=by omega
         have b2:(j:Int)+1≤(s.size:Int):=by omega
         have b3:(j:Int)≤(j:Int)+1:=by omega
         have aev:IntKind.i64.wrap ((j:Int)+1)=(j:Int)+1:=xh _ (by omega) (by omega);obtain⟨z0,z1,z2⟩:=qV (vI (markK (B s j):Nat)) (.string (s.extract j (j+1))) (vI (j:Nat)) MI.o
         go_wp2_with fail
         go_region_with (go_at_call 215;refine(zS _ _).mono ?_;rintro e w4 ⟨rfl,rfl⟩;rw[HBJ.o])
         all_goals
          go_wp2_with fail
          rw[HF.o];refine bodyPost_ret (v:=.agg #[vI (markK (B s j):Nat),.string (s.extract j (j+1)),vI (j:Nat)]) (by simp[results,Tryz.results177,go_sem,z0,z1,z2]) rfl ⟨rfl,(lI _ _ _ cj).drew⟩
        ·have U6:((j:Int)==(k:Int))=false:=by simp;omega
         have Ru:k<j:=by omega
         have hjs:j≤s.size:=by omega
         obtain⟨QE,yh⟩:=CR s k j Ru hjs;have QF:(s.extract k j).size≤400:=by simp[ByteArray.size_extract];omega
         have HF:=U (show R=⟨runK (s.extract k j).toList,s.extract k j,k⟩ by rw[← Rt.o];unfold scanAt;rw[if_neg (by omega),if_neg (by rw[pd.o];omega),pd.o])
         have ZV:=U (show ((s.extract k j)[0]'QE).toNat≠43∧((s.extract k j)[0]'QE).toNat≠45 by
          rw[yh];exact Gh s k j (by omega) pd.o Ru)
         have b1:(0:Int)≤(j:Int):=by omega
         have b2:(j:Int)≤(s.size:Int):=by omega
         have b3:(k:Int)≤(j:Int):=by omega
         clear yh
         go_wp2_with fail
         go_region_with (go_at_call 216;refine(sk _ _ ((HV.o.below cj).below (Below.refl _ _).drew) QE QF ZV.o).mono ?_;rintro e w4 ⟨rfl,iA⟩;have mE:=MI.o.same (iA.block _ MI.o.lt);have y0:=mE.cell (j:=0) rfl;have y1:=mE.cell (j:=1) rfl;have y2:=mE.cell (j:=2) rfl;have yf:∀ j,w4.frozen? (aj w.heap.size j)=false:=fun j=>mE.aq j;simp only[Nat.zero_add] at y0 y1 y2)
         all_goals
          obtain⟨z0,z1,z2⟩:=qV (vI (runK (s.extract k j).toList:Nat)) (.string (s.extract k j)) (vI (k:Nat)) mE;have Kk:=cj.trans ((Below.refl _ _).drew.trans (iA.mono (show w.heap.size≤_ from cj.size)))
          go_wp2_with fail
          rw[HF.o];refine bodyPost_ret (v:=.agg #[vI (runK (s.extract k j).toList:Nat),.string (s.extract k j),vI (k:Nat)]) (by simp[results,Tryz.results177,go_sem,z0,z1,z2]) rfl ⟨rfl,lI _ _ _ Kk⟩
     ·have pd:=U (HE.o.trans (qm s j (by omega)))
      have hje:j≠k:=by omega
      have U6:((j:Int)==(k:Int))=false:=by simp;omega
      have Ru:k<j:=by omega
      have hjs:j≤s.size:=by omega
      obtain⟨QE,yh⟩:=CR s k j Ru hjs;have QF:(s.extract k j).size≤400:=by simp[ByteArray.size_extract];omega
      have HF:=U (show R=⟨runK (s.extract k j).toList,s.extract k j,k⟩ by rw[← Rt.o];unfold scanAt;rw[if_neg (by omega),if_neg (by rw[pd.o];omega),pd.o])
      have ZV:=U (show ((s.extract k j)[0]'QE).toNat≠43∧((s.extract k j)[0]'QE).toNat≠45 by
       rw[yh];exact Gh s k j (by omega) pd.o Ru)
      have b1:(0:Int)≤(j:Int):=by omega
      have b2:(j:Int)≤(s.size:Int):=by omega
      have b3:(k:Int)≤(j:Int):=by omega
      clear yh
      go_wp2_with fail
      go_region_with (go_at_call 216;refine(sk _ _ ((HV.o.below cj).below (Below.refl _ _).drew) QE QF ZV.o).mono ?_;rintro e w4 ⟨rfl,iA⟩;have mE:=MI.o.same (iA.block _ MI.o.lt);have y0:=mE.cell (j:=0) rfl;have y1:=mE.cell (j:=1) rfl;have y2:=mE.cell (j:=2) rfl;have yf:∀ j,w4.frozen? (aj w.heap.size j)=false:=fun j=>mE.aq j;simp only[Nat.zero_add] at y0 y1 y2)
      all_goals
       obtain⟨z0,z1,z2⟩:=qV (vI (runK (s.extract k j).toList:Nat)) (.string (s.extract k j)) (vI (k:Nat)) mE;have Kk:=cj.trans ((Below.refl _ _).drew.trans (iA.mono (show w.heap.size≤_ from cj.size)))
       go_wp2_with fail
       rw[HF.o];refine bodyPost_ret (v:=.agg #[vI (runK (s.extract k j).toList:Nat),.string (s.extract k j),vI (k:Nat)]) (by simp[results,Tryz.results177,go_sem,z0,z1,z2]) rfl ⟨rfl,lI _ _ _ Kk⟩
  ·have hke:k=s.size:=by omega
   have Rt:=U (show R=⟨0,⟨#[]⟩,s.size⟩ by rw[← HK.o,CQ s k (by omega)];simp[scanAt,hke]);obtain⟨z0,z1,z2⟩:=qV (vI 0) (.string ⟨#[]⟩) (vI (s.size:Nat)) MI.o;subst hke;have U6:((s.size:Int)==(s.size:Int))=true:=by simp
   go_wp2_with fail
   rw[Rt.o];exact bodyPost_ret (v:=.agg #[vI 0,.string ⟨#[]⟩,vI (s.size:Nat)]) (by simp[results,Tryz.results177,go_sem,z0,z1,z2]) rfl ⟨rfl,lI _ _ _ cj⟩
end Go.Proofs.YtkpfplbmmglkkaaGreatDoor
