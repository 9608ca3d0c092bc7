/- The leaves of package courierref: what each small function answers, for every argument. -/
import Derived.Test.YtgalebcpagmohaaGreatDoorRows
import Derived.WalkKit
import Derived.WalkSpells
import Derived.WalkLawsBesides
import Derived.Test.YtgalebcpagmohaaGreatDoorMFrA
import Derived.Test.YtgalebcpagmohaaGreatDoorShelf
import Derived.Deep.RegionHeld3
import Derived.Deep.RegionLaw
import Derived.Deep.LoopGhost
set_option maxHeartbeats 1000000
set_option maxRecDepth 100000
namespace Go.Proofs.YtgalebcpagmohaaGreatDoor
open Go.Proofs.Tryz
open Go.RowKit
def kC (c:Int):Bool:=decide (97≤c)&&decide (c≤122)
def oO (c:Int):Bool:=decide (48≤c)&&decide (c≤57)
def kS (a b:Int):Int:=if a<0∨(0≤b∧b<a) then b else a
theorem Ae (c:Int) (w:World) :
  Calls Tryz.prog 90 #[.int .u8 c] w fun e w'=>e=.returned (.bool (kC c))∧w'=w:=by
 go_enter func90,ntmps90
 go_wp2
 ·have h:97≤c:=by assumption
  go_ret
  exact⟨aG (by simp[kC,h]),rfl⟩
 ·have h:c<97:=by assumption
  go_ret
  exact⟨aG (by simp[kC];omega),rfl⟩
theorem J5 (c:Int) (w:World) :
  Calls Tryz.prog 91 #[.int .u8 c] w fun e w'=>e=.returned (.bool (oO c))∧w'=w:=by
 go_enter func91,ntmps91
 go_wp2
 ·have h:48≤c:=by assumption
  go_ret
  exact⟨aG (by simp[oO,h]),rfl⟩
 ·have h:c<48:=by assumption
  go_ret
  exact⟨aG (by simp[oO];omega),rfl⟩
def jP (c:Int):Bool:=kC c||oO c
theorem lX (c:Int) (w:World) :
  Calls Tryz.prog 57 #[.int .u8 c] w fun e w'=>e=.returned (.bool (jP c))∧w'=w:=by
 unfold jP
 generalize hs:kC c=s
 generalize hd:oO c=d
 have Hs:Hid (kC c=s):=hs
 have Hd:Hid (oO c=d):=hd
 clear hs hd
 go_enter func57,ntmps57
 go_wp2_with (first
  | (go_at_call 90;refine(Ae _ _).mono ?_;rintro e w' ⟨rfl,rfl⟩;rw[Hs.out])
  | (go_at_call 91;refine(J5 _ _).mono ?_;rintro e w' ⟨rfl,rfl⟩;rw[Hd.out]))
 ·have h:s=true:=by assumption
  go_ret
  exact⟨aG (by simp[h]),rfl⟩
 ·have h:¬s=true:=by assumption
  go_ret
  exact⟨aG (by simp[h]),rfl⟩
theorem pR (a b:Int) (w:World) :
  Calls Tryz.prog 24 #[.int .i64 a,.int .i64 b] w fun e w'=>e=.returned (.int .i64 (kS a b))∧w'=w:=by
 go_enter func24,ntmps24
 go_wp2
 all_goals go_ret
 all_goals refine⟨o8 ?_,rfl⟩
 all_goals (unfold kS;split<;>omega)
def nameB (l:List UInt8):Bool:=match l with | []=>false | c::_=>kC (c.toNat:Int)&&decide (l.length≤12)
theorem J6 {s:ByteArray} (h:s.toList.isEmpty=true):nameB s.toList=false:=by
 rw[List.isEmpty_iff] at h;rw[h];rfl
theorem J7 (s:ByteArray) (h:0<s.size):nameB s.toList=(kC (s[0].toNat:Int)&&decide ((s.size:Int)≤12)):=by
 obtain⟨⟨l⟩⟩:=s
 rw[ByteArray.toList_eq]
 cases l with
 | nil=>simp[ByteArray.size] at h
 | cons c r=>
  have e:(({ data:={ toList:=c::r } }:ByteArray)[0]'h)=c:=rfl
  have e2:(({ data:={ toList:=c::r } }:ByteArray).size)=(c::r).length:=rfl
  rw[e,e2];simp only[nameB]
  congr 1
  exact decide_eq_decide.2 (by omega)
theorem CP (s:ByteArray) (w:World) :
  Calls Tryz.prog 59 #[.string s] w fun e w'=>e=.returned (.bool (nameB s.toList))∧w'=w:=by
 by_cases h0:0<s.size
 ·have hn:=J7 s h0
  have HN:Hid (nameB s.toList=(kC (s[0].toNat:Int)&&decide ((s.size:Int)≤12))):=hn
  have he:s.toList.isEmpty=false:=by
   rw[ByteArray.toList_eq,List.isEmpty_eq_false_iff];intro hh
   have:s.size=0:=by rw[show s.size=s.data.toList.length from rfl,hh];rfl
   omega
  clear hn
  generalize nameB s.toList=r at *
  go_enter func59,ntmps59
  go_wp2_with (first
   | (go_at_call 90;refine(Ae _ _).mono ?_;rintro e w' ⟨rfl,rfl⟩))
  ·have h:kC (s[0].toNat:Int)=true:=by assumption
   go_ret
   exact⟨aG (by rw[HN.out,h];simp),rfl⟩
  ·have h:¬ kC (s[0].toNat:Int)=true:=by assumption
   go_ret
   exact⟨aG (by rw[HN.out];simp[h]),rfl⟩
 ·have he:s.toList.isEmpty=true:=by
   rw[ByteArray.toList_eq,List.isEmpty_iff];apply List.eq_nil_of_length_eq_zero
   have:s.size=s.data.toList.length:=rfl
   omega
  have HN:Hid (nameB s.toList=false):=J6 he
  generalize nameB s.toList=r at *
  go_enter func59,ntmps59
  go_wp2_with fail
  go_ret
  exact⟨aG HN.out.symm,rfl⟩
def dQ (l:List UInt8):Bool:=l==[109,101,115,115,97,103,101]||l==[101,110,117,109]
theorem zy (k n:ByteArray) (at_:Int) (f ns na bs ba:Value) (w:World) :
  Calls Tryz.prog 22 #[.agg #[.string k,.string n,.int .i64 at_,f,ns,na,bs,ba]] w fun e w'=>e=.returned (.bool (dQ k.toList))∧Below w.heap.size w w':=by
 have HT:Hid (dQ k.toList=(k.toList==[109,101,115,115,97,103,101]||k.toList==[101,110,117,109])):=rfl
 generalize dQ k.toList=r at *
 go_enter func22,ntmps22
 go_wp2
 ·have h:k.toList=[109,101,115,115,97,103,101]:=by assumption
  go_ret
  exact⟨aG (by rw[HT.out,h];rfl),(Below.refl _ _).alloc (Nat.le_refl _) _⟩
 ·go_ret
  exact⟨aG (by rw[HT.out]),(Below.refl _ _).alloc (Nat.le_refl _) _⟩
def words:List (List UInt8):=[[109,101,115,115,97,103,101],[101,110,117,109],[115,116,114,101,97,109],[99,97,108,108],[111,112,116],[108,105,115,116],[105,110,116],[98,111,111,108],[116,101,120,116]]
def qg (l:List UInt8):Bool:=words.any (fun a=>a==l)
theorem Io (s:ByteArray) (w:World) :
  Calls Tryz.prog 92 #[.string s] w fun e w'=>e=.returned (.bool (qg s.toList))∧Below w.heap.size w w':=by
 have HW:Hid (qg s.toList=words.any (fun a=>a==s.toList)):=rfl
 generalize qg s.toList=r at *
 go_enter func92,ntmps92
 go_wp2
 refine wp_loop_rounds 10 ?_
 iterate 9
  rw[rounds_succ]
  go_wp2
  ·rename_i h
   go_ret
   exact⟨aG (by rw[HW.out,← eq_of_beq h];decide),(Below.refl _ _).alloc (Nat.le_refl _) _⟩
 rw[rounds_succ]
 go_wp2
 go_ret
 exact⟨aG (by rw[HW.out];simp only[words,List.any_cons,List.any_nil, *];rfl),(Below.refl _ _).alloc (Nat.le_refl _) _⟩
def nO (l:List UInt8):Bool:=nameB l && !qg l
theorem mW (s:ByteArray) (w:World) :
  Calls Tryz.prog 60 #[.string s] w fun e w'=>e=.returned (.bool (nO s.toList))∧Below w.heap.size w w':=by
 unfold nO
 generalize hn:nameB s.toList=n
 generalize hd:qg s.toList=d
 have Hn:Hid (nameB s.toList=n):=hn
 have Hd:Hid (qg s.toList=d):=hd
 clear hn hd
 go_enter func60,ntmps60
 go_wp2_with fail
 refine(CP _ _).mono ?_;rintro e w1 ⟨rfl,rfl⟩;rw[Hn.out]
 go_wp2_with fail
 refine(Io _ _).mono ?_;rintro e w2 ⟨rfl,hb⟩;rw[Hd.out]
 go_wp2_with fail
 ·have h:n=true:=by assumption
  go_ret
  exact⟨aG (by simp[h]),hb⟩
 ·have h:¬ n=true:=by assumption
  go_ret
  exact⟨aG (by simp[h]),hb⟩
def jl (l:List UInt8):Bool:=l==[105,110,116]||l==[98,111,111,108]||l==[116,101,120,116]
def rM (l:List UInt8):Bool:=nO l||jl l
theorem kD (s:ByteArray) (w:World) :
  Calls Tryz.prog 61 #[.string s] w fun e w'=>e=.returned (.bool (rM s.toList))∧Below w.heap.size w w':=by
 unfold rM jl
 generalize hn:nO s.toList=n
 have Hn:Hid (nO s.toList=n):=hn
 clear hn
 go_enter func61,ntmps61
 go_wp2_with fail
 refine(mW _ _).mono ?_;rintro e w1 ⟨rfl,hb⟩;rw[Hn.out]
 go_wp2_with fail
 all_goals go_ret
 all_goals refine⟨aG ?_,hb⟩
 all_goals (cases n<;>simp_all)
def jv (l:List UInt8):Bool:=(List.range 99).any (fun i=>l==Lib.decDigits (i+1))
theorem J8 {l:List UInt8} {k:Nat} (h1:1≤k) (h2:k≤99) (h:l=Lib.decDigits k):jv l=true:=by
 unfold jv;rw[List.any_eq_true]
 exact⟨k-1,by simp;omega,by rw[show k-1+1=k from by omega,h];simp⟩
theorem Rh {l:List UInt8} (h:∀ j,1≤j→j<100→¬ l=Lib.decDigits j):jv l=false:=by
 unfold jv;rw[List.any_eq_false]
 intro i hi;simp at hi
 have:=h (i+1) (by omega) (by omega)
 simpa using this
theorem gY (s:ByteArray) (w:World) :
  Calls Tryz.prog 58 #[.string s] w fun e w'=>e=.returned (.bool (jv s.toList))∧w'=w:=by
 go_enter func58,ntmps58
 go_wp2
 go_loop [3] (fun n=>∃ k:Nat,1≤k∧k≤100∧n=.int .i64 k∧∀ j,1≤j→j<k→¬ s.toList=Lib.decDigits j) (fun n=>100-(intOf n).toNat)
 case atStart=>exact⟨1,by omega,by omega,rfl,by intro j h1 h2;omega⟩
 case round=>
  obtain⟨k,h1,h2,rfl,hall⟩:=hrel
  have HA:Hid (∀ j,1≤j→j<k→¬ s.toList=Lib.decDigits j):=hall
  clear hall
  by_cases hlt:k≤99
  ·by_cases hd:s.toList=Lib.decDigits k
   ·have HN:Hid (jv s.toList=true):=J8 h1 hlt hd
    have hbq:(s.toList==Lib.decDigits k)=true:=by simp[hd]
    clear hd
    go_wp2_with fail
    refine(Tryz.strconv_Itoa_small k (by omega) _).mono ?_;rintro e w1 ⟨rfl,rfl⟩
    go_wp2_with fail
    go_ret
    exact⟨aG HN.out.symm,rfl⟩
   ·have hbq:(s.toList==Lib.decDigits k)=false:=by simp[hd]
    go_wp2_with fail
    refine(Tryz.strconv_Itoa_small k (by omega) _).mono ?_;rintro e w1 ⟨rfl,rfl⟩
    go_wp2_with fail
    go_round
    case rel=>exact⟨k+1,by omega,by omega,by go_num,fun j a b=>by
     rcases Nat.lt_or_ge j k with h | h
     ·exact HA.out j a h
     ·rw[show j=k from by omega];exact hd⟩
    case measure=>simp[intOf];omega
  ·have HN:Hid (jv s.toList=false):=Rh (fun j a b=>HA.out j a (by omega))
   go_wp2_with fail
   go_ret
   exact⟨aG HN.out.symm,rfl⟩
def yc (k:Nat):List UInt8:=if k<10 then [UInt8.ofNat (48+k)] else [UInt8.ofNat (48+k / 10),UInt8.ofNat (48+k % 10)]
theorem PZ (k:Nat) (h:k<100):Lib.decDigits k=yc k:=by
 rw[Lib.decDigits];unfold yc
 by_cases h1:k<10
 ·simp[h1]
 ·have h2:k / 10<10:=by omega
  rw[Lib.decDigits];simp[h1,h2]
theorem FZ:∀ k,k<100→Lib.atoi (yc k)=some (k:Int)∧(yc k).length≤2:=by decide
theorem lM {l:List UInt8} (h:jv l=true):∃ k,1≤k∧k≤99∧l=yc k:=by
 unfold jv at h;rw[List.any_eq_true] at h
 obtain⟨i,hi,he⟩:=h
 simp at hi he
 exact⟨i+1,by omega,by omega,by rw[he,PZ _ (by omega)]⟩
theorem F5 {s:ByteArray} (h:jv s.toList=true):∃ k:Nat,1≤k∧k≤99∧s.size≤18∧Lib.atoi s.data.toList=some (k:Int):=by
 obtain⟨k,h1,h2,he⟩:=lM h
 have:=FZ k (by omega)
 rw[ByteArray.toList_eq] at he
 refine⟨k,h1,h2,?_,by rw[he];exact this.1⟩
 show s.data.toList.length≤18
 rw[he];omega
def B (s:ByteArray) (i:Nat):Int:=((s.toList.getD i 0).toNat:Int)
theorem Ri (s:ByteArray) (i:Nat) (h:i<s.size):((s[i]'h).toNat:Int)=B s i:=by
 unfold B
 have e:s.toList.getD i 0=s[i]'h:=by
  rw[ByteArray.toList_eq,List.getD_eq_getElem?_getD,List.getElem?_eq_getElem (by simpa using h)];rfl
 rw[e]
structure Tok where
 text:ByteArray
 at_:Nat
 bad:Bool
def fD (t:Tok):List Value:=[.string t.text,.int .i64 t.at_,.bool t.bad]
def bQ (s:ByteArray):Nat→Nat→Nat
 | 0,i=>i
 | f+1,i=>if i<s.size∧jP (B s i)=true then bQ s f (i+1) else i
def zA (t:ByteArray):Bool:=!(jv t.toList) && !(nameB t.toList)
def toks (s:ByteArray):Nat→Nat→List Tok
 | 0,_=>[]
 | f+1,i=>
  if i<s.size then
   if B s i=32∨B s i=10 then toks s f (i+1)
   else if jP (B s i)=true then⟨s.extract i (bQ s s.size i),i,zA (s.extract i (bQ s s.size i))⟩::toks s f (bQ s s.size i)
   else⟨s.extract i (i+1),i,!(B s i==123) && !(B s i==125)⟩::toks s f (i+1)
  else []
def fE (s:ByteArray):List Tok:=toks s (s.size+1) 0
theorem kN (s:ByteArray):∀ f i,i≤bQ s f i
 | 0,i=>Nat.le_refl _
 | f+1,i=>by
  unfold bQ;split
  ·exact Nat.le_trans (Nat.le_succ i) (kN s f (i+1))
  ·exact Nat.le_refl _
theorem rO (s:ByteArray):∀ f i,i≤s.size→bQ s f i≤s.size
 | 0,i,h=>h
 | f+1,i,h=>by
  unfold bQ;split
  ·rename_i hh;exact rO s f (i+1) hh.1
  ·exact h
theorem Af (s:ByteArray):∀ f g i,s.size≤f+i→s.size≤g+i→bQ s f i=bQ s g i
 | 0,g,i,h1,h2=>by
  cases g with
  | zero=>rfl
  | succ g=>unfold bQ;rw[if_neg (by omega)]
 | f+1,0,i,h1,h2=>by unfold bQ;rw[if_neg (by omega)]
 | f+1,g+1,i,h1,h2=>by
  unfold bQ;split
  ·exact Af s f g (i+1) (by omega) (by omega)
  ·rfl
theorem jy (s:ByteArray) (i:Nat) (h:i<s.size) (hr:jP (B s i)=true):bQ s s.size i=bQ s s.size (i+1):=by
 rw[Af s s.size (s.size+1) i (by omega) (by omega)]
 conv=>lhs;unfold bQ
 rw[if_pos ⟨h,hr⟩]
theorem lY (s:ByteArray) (i:Nat) (h:¬ (i<s.size∧jP (B s i)=true)):bQ s s.size i=i:=by
 cases hs:s.size with
 | zero=>rfl
 | succ n=>unfold bQ;rw[if_neg h]
theorem pU (s:ByteArray):∀ f g i,s.size<f+i→s.size<g+i→toks s f i=toks s g i
 | 0,g,i,h1,h2=>by
  cases g with
  | zero=>rfl
  | succ g=>unfold toks;rw[if_neg (by omega)]
 | f+1,0,i,h1,h2=>by unfold toks;rw[if_neg (by omega)]
 | f+1,g+1,i,h1,h2=>by
  unfold toks
  by_cases hi:i<s.size
  ·rw[if_pos hi,if_pos hi]
   split
   ·exact pU s f g (i+1) (by omega) (by omega)
   ·split
    ·rename_i hr
     have:i+1≤bQ s s.size i:=by rw[jy s i hi hr];exact kN s _ _
     rw[pU s f g _ (by omega) (by omega)]
    ·rw[pU s f g (i+1) (by omega) (by omega)]
  ·rw[if_neg hi,if_neg hi]
def fM (s:ByteArray) (i:Nat):List Tok:=toks s (s.size+1) i
theorem CQ (s:ByteArray) (i:Nat) (h:¬ i<s.size):fM s i=[]:=by unfold fM toks;rw[if_neg h]
theorem yg (s:ByteArray) (i:Nat) (h:i<s.size) (hb:B s i=32∨B s i=10):fM s i=fM s (i+1):=by
 unfold fM
 conv=>lhs;unfold toks
 rw[if_pos h,if_pos hb]
 exact pU s _ _ _ (by omega) (by omega)
theorem CS (s:ByteArray) (i:Nat) (h:i<s.size) (hb:¬ (B s i=32∨B s i=10)) (hr:jP (B s i)=true) :
  fM s i=⟨s.extract i (bQ s s.size i),i,zA (s.extract i (bQ s s.size i))⟩::fM s (bQ s s.size i):=by
 unfold fM
 conv=>lhs;unfold toks
 rw[if_pos h,if_neg hb,if_pos hr]
 have:i+1≤bQ s s.size i:=by rw[jy s i h hr];exact kN s _ _
 rw[pU s s.size (s.size+1) _ (by omega) (by omega)]
theorem Ag (s:ByteArray) (i:Nat) (h:i<s.size) (hb:¬ (B s i=32∨B s i=10)) (hr:¬ jP (B s i)=true) :
  fM s i=⟨s.extract i (i+1),i,!(B s i==123) && !(B s i==125)⟩::fM s (i+1):=by
 unfold fM
 conv=>lhs;unfold toks
 rw[if_pos h,if_neg hb,if_neg hr]
 rw[pU s s.size (s.size+1) _ (by omega) (by omega)]
theorem qK (s:ByteArray):∀ f i,(toks s f i).length≤s.size-i
 | 0,i=>by simp[toks]
 | f+1,i=>by
  unfold toks;split
  ·rename_i hi
   split
   ·have:=qK s f (i+1);omega
   ·split
    ·rename_i hr
     have h1:i+1≤bQ s s.size i:=by rw[jy s i hi hr];exact kN s _ _
     have:=qK s f (bQ s s.size i);simp;omega
    ·have:=qK s f (i+1);simp;omega
  ·simp
theorem Tryz.infoTok:(Tryz.prog.info? 84).map (fun i=>(i.zero,i.size,i.bytes))=some (some (.agg #[.string ⟨#[]⟩,.int .i64 0,.bool false]),3,32):=by kernel_rfl
theorem uf {P:Program} {ops:Array Oper} {o:Oper} {a:Act} {w:World} {K:Act→World→Prop} {Q:Exit→Act→World→Prop} {E:Prop}
  (hg:o.guard=none) (s x:Operand) (t:TypeId)
  (ho:o.op=.call { callee:=.builtin .append,args:=#[s,x],argTypes:=#[t,t] })
  (base:Nat) (e:TypeId) (i:TypeInfo) (z:Value) (size bytes:Nat) (ht:P.underlying t=some (.slice e)) (hi:P.info? e=some i) (hz:i.zero=some z)
  (hsize:i.size=size) (hby:i.bytes=bytes) (hzs:z.cells.size=size) (hsz:0<size)
  (v:Value) (n:Nat) (xs:List Value) (hs:a.eval s=v) (hown:w.ownsRow base e size v n xs)
  (ad:Addr) (m c:Nat) (news:List Value) (hx:a.eval x=.slice (some ad) m c) (hl:news.length=m*size) (hnews:∀ j u,news[j]? = some u→w.cell? (ad.add j)=some u) (h1:∀ u∈news,u.oneCell'=true)
  (h63:n+m≤maxLen) (hbytes:(n+m)*bytes≤140737488355328) (hbase:base≤w.heap.size)
  (h:∀ v' w',w'.ownsRow base e size v' (n+m) (xs++news)→w.grownBy w' v.ownBlock→(v'=.slice none 0 0↔v=.slice none 0 0∧m=0)→K (a.put o.dst v') w') :
  if Region.wanted o (yielded ops a.tmps)=true then Oper.wp P o a w K Q else E:=by
 rw[if_pos (by simp[Region.wanted,hg])]
 exact wp_append_own w s x t ho base e i z size bytes ht hi hz hsize hby hzs hsz v n xs hs hown ad m c news hx hl hnews h1 h63 hbytes hbase h
theorem uH (w:World) (c0 c1 c2:Value) (t:TypeId) (j:Nat) (u:Value) (h:[c0,c1,c2][j]? = some u):(w.alloc (.cells #[c0,c1,c2] t)).cell? ((⟨w.heap.size,0,none⟩:Addr).add j)=some u:=by
 match j,h with
 | 0,h=>simp at h;subst h;simp[Addr.add]
 | 1,h=>simp at h;subst h;simp[Addr.add]
 | 2,h=>simp at h;subst h;simp[Addr.add]
theorem Rj (x:Int) (h:(x != 123)=true):(x != 125)=(!(x==123) && !(x==125)):=by
 rw[bne_iff_ne] at h;simp[h,bne]
theorem Rk (x:Int) (h:(x != 123)=false):false=(!(x==123) && !(x==125)):=by
 simp at h;simp[h]
theorem CU {s:ByteArray} {L D:List Tok} {k j:Nat} {t:Tok} (HL:L=D++fM s k) (HX:fM s k=t::fM s j):L=(D++[t])++fM s j:=by
 rw[HL,HX];simp
theorem CV {w2:World} {b:Nat} {D:List Tok} {t:Tok} {v:Value} {xs:List Value} (hx:xs=fD t) (h:w2.ownsRow b 84 3 v (D.length+1) (D.flatMap fD++xs)) :
  w2.ownsRow b 84 3 v (D++[t]).length ((D++[t]).flatMap fD):=by
 subst hx
 simpa using h
theorem yh {w wr w2:World} {e:TypeId} {size n:Nat} {v:Value} {xs:List Value} {o:Obj} (hbel:Below w.heap.size w wr) (hown:wr.ownsRow w.heap.size e size v n xs) (hg:((wr.alloc o).drew).grownBy w2 v.ownBlock):Below w.heap.size w w2 :=
 ((hbel.alloc hbel.size o).drew).grown hg (by have:=hbel.size;show w.heap.size≤(wr.alloc o).heap.size;simp;omega) (fun k hk=>(hown.lt k hk).1)
theorem Fb {w wr w2:World} {e:TypeId} {size n:Nat} {v:Value} {xs:List Value} {o:Obj} (hbel:Below w.heap.size w wr) (hown:wr.ownsRow w.heap.size e size v n xs) (hg:(wr.alloc o).grownBy w2 v.ownBlock):Below w.heap.size w w2 :=
 (hbel.alloc hbel.size o).grown hg (by have:=hbel.size;simp;omega) (fun k hk=>(hown.lt k hk).1)
theorem NU (s:ByteArray) (w:World) (hs:s.size≤400) :
  Calls Tryz.prog 20 #[.string s] w fun e w'=>∃ v,e=.returned v∧w'.ownsRow w.heap.size 84 3 v (fE s).length ((fE s).flatMap fD)∧Below w.heap.size w w':=by
 obtain⟨i0,hi,hz0,hz1,hz2⟩:=info_parts Tryz.infoTok
 have H0:Hid (fE s=fM s 0):=rfl
 generalize fE s=L at *
 go_enter func20,ntmps20
 go_wp2
 go_loopg [3,4,5,6,7,8] s.size (fun gk v i a r n m wr=>∃ k D,k+gk=s.size∧i=.int .i64 (k:Nat)∧L=D++fM s k∧wr.ownsRow w.heap.size 84 3 v D.length (D.flatMap fD)∧D.length≤k∧Below w.heap.size w wr)
 case atStart=>exact⟨0,[],by omega,rfl,by simpa using H0.out,by simpa using World.ownsRow_nil _ _ _ _,by simp,Below.refl _ _⟩
 case round=>
  obtain⟨k,D,hk,rfl,hL,hown,hD,hbel⟩:=hrel
  have HL:Hid (L=D++fM s k):=hL
  clear hL
  by_cases hlt:k<s.size
  ·have hB:=Ri s k hlt
   have HB:Hid (((s[k]'hlt).toNat:Int)=B s k):=hB
   clear hB
   by_cases hbl:B s k=32∨B s k=10
   ·have HX:=hid (yg s k hlt hbl)
    have HH:=hid hbl
    clear hbl
    go_wp2_with fail
    refine(lX _ _).mono ?_;rintro e w1 ⟨rfl,rfl⟩
    rcases HH.out with h | h
    ·have h32:(((s[k]'hlt).toNat:Int)==32)=true:=by rw[HB.out];simp[h]
     clear h HH
     go_wp2_with fail
     go_roundg (gk-1)
     case rel=>exact⟨k+1,D,by omega,by go_num,by rw[HL.out,HX.out],hown,by omega,hbel⟩
     case measure=>omega
    ·have h32:(((s[k]'hlt).toNat:Int)==32)=false:=by rw[HB.out];simp[h]
     have h10:(((s[k]'hlt).toNat:Int)==10)=true:=by rw[HB.out];simp[h]
     clear h HH
     go_wp2_with fail
     go_roundg (gk-1)
     case rel=>exact⟨k+1,D,by omega,by go_num,by rw[HL.out,HX.out],hown,by omega,hbel⟩
     case measure=>omega
   ·by_cases hr:jP (B s k)=true
    ·have HX:=hid (CS s k hlt hbl hr)
     have hr':jP ((s[k]'hlt).toNat:Int)=true:=by rw[HB.out];exact hr
     have h32:(((s[k]'hlt).toNat:Int)==32)=false:=by rw[HB.out];simp;intro h;exact hbl (Or.inl h)
     have h10:(((s[k]'hlt).toNat:Int)==10)=false:=by rw[HB.out];simp;intro h;exact hbl (Or.inr h)
     have HE:=hid (⟨hlt,hr⟩:k<s.size∧jP (B s k)=true)
     clear hbl hr
     go_wp2_with fail
     refine(lX _ _).mono ?_;rintro e w1 ⟨rfl,rfl⟩;rw[hr']
     go_wp2_with fail
     clear hr' h32 h10
     go_loopg [4,6] (s.size-k) (fun g i r wr=>∃ j b,k≤j∧j+g=s.size∧i=.int .i64 (j:Nat)∧r=.bool b∧Hid (b=true↔(j<s.size∧jP (B s j)=true))∧Hid (bQ s s.size k=bQ s s.size j)∧Hid (b=false→k<j)∧wr=w1)
     case atStart=>exact⟨k,true,Nat.le_refl _,by omega,rfl,rfl,hid (by simpa using HE.out),hid rfl,hid (by simp),rfl⟩
     case round=>
      obtain⟨j,b,hkj,hj,rfl,rfl,HI,HR,HK,rfl⟩:=hrel
      cases b with
      | true=>
       have hjs:=HI.out.1 rfl
       have HS:=hid (HR.out.trans (jy s j hjs.1 hjs.2))
       have hj1:j<s.size:=hjs.1
       clear hjs HI HR HK
       by_cases hj2:j+1<s.size
       ·have HB2:=hid (Ri s (j+1) hj2)
        go_wp2_with fail
        refine(lX _ _).mono ?_;rintro e w2 ⟨rfl,rfl⟩;rw[HB2.out]
        generalize hq:jP (B s (j+1))=q
        have HQ:=hid hq
        clear hq
        go_wp2_with fail
        go_roundg (gk-1)
        case rel=>exact⟨j+1,q,by omega,by omega,by go_num,rfl,hid (by rw[HQ.out];exact⟨fun h=>⟨hj2,h⟩,fun h=>h.2⟩),HS,hid (fun _=>by omega),rfl⟩
        case measure=>omega
       ·go_wp2_with fail
        go_roundg (gk-1)
        case rel=>exact⟨j+1,false,by omega,by omega,by go_num,rfl,hid (by simp;omega),HS,hid (fun _=>by omega),rfl⟩
        case measure=>omega
      | false=>
       have HJ:=hid (HR.out.trans (lY s j (fun h=>by simpa using HI.out.2 h)))
       have Rl:k<j:=HK.out rfl
       have hjs:j≤s.size:=by omega
       have HX2:=hid (by have:=HX.out;rw[HJ.out] at this;exact this)
       clear HI HR HK HJ HX HE
       go_wp2_with fail
       refine(gY _ _).mono ?_;rintro e w2 ⟨rfl,rfl⟩
       generalize hnb:jv (s.extract k j).toList=nb
       go_wp2_with fail
       refine(CP _ _).mono ?_;rintro e w3 ⟨rfl,rfl⟩
       generalize hmb:nameB (s.extract k j).toList=mb
       have HT:=hid (show (!nb && !mb)=zA (s.extract k j) by unfold zA;rw[hnb,hmb])
       clear hnb hmb
       cases nb
       all_goals
        go_wp2_with (at_builtin;refine wpList_append_own _ rfl _ _ 81 rfl w.heap.size 84 i0 _ 3 32 underlying81 hi hz0 hz1 hz2 rfl (by decide) _ _ _ rfl (hown.alloc _) ⟨_,0,none⟩ 1 1 [_,_,_] rfl rfl (uH _ _ _ _ _) (by simp[Value.oneCell']) (by unfold maxLen;omega) (by omega) (by have:=hbel.size;simp;omega) ?_)
        intro v' w4 hown' hgrow _
        have J9:=Fb hbel hown hgrow
        have hown2:=CV (t:=⟨s.extract k j,k,zA (s.extract k j)⟩) (by rw[fD,← HT.out];rfl) hown'
        have HL2:=hid (CU HL.out HX2.out)
        clear hown' hgrow hown HL
        go_wp2
        go_roundg (s.size-j)
        case rel=>exact⟨j,_,by omega,by go_num,HL2.out,hown2,by simp;omega,J9⟩
        case measure=>omega
    ·have HX:=hid (Ag s k hlt hbl hr)
     have hr':jP ((s[k]'hlt).toNat:Int)=false:=by rw[HB.out];simpa using hr
     have h32:(((s[k]'hlt).toNat:Int)==32)=false:=by rw[HB.out];simp;intro h;exact hbl (Or.inl h)
     have h10:(((s[k]'hlt).toNat:Int)==10)=false:=by rw[HB.out];simp;intro h;exact hbl (Or.inr h)
     clear hbl hr
     have b1:(0:Int)≤(k:Int)+1:=by omega
     have b2:(k:Int)+1≤(s.size:Int):=by omega
     have b3:(k:Int)≤(k:Int)+1:=by omega
     by_cases ZW:(((s[k]'hlt).toNat:Int) != 123)=true
     ·go_wp2_with fail
      refine(lX _ _).mono ?_;rintro e w1 ⟨rfl,rfl⟩;rw[hr']
      go_wp2_with fail
      go_region_law (refine uf rfl (.tmp 20) (.tmp 37) 81 rfl w.heap.size 84 i0 _ 3 32 underlying81 hi hz0 hz1 hz2 rfl (by decide) u3 D.length (D.flatMap fD) (by simp[Act.eval]) (hown.alloc _) ⟨w1.heap.size,0,none⟩ 1 1 [.string (s.extract k (k+1)),.int .i64 k,.bool ((((s[k]'hlt).toNat:Int) != 125))] (by simp[Act.eval]) rfl (uH _ _ _ _ _) (by simp[Value.oneCell']) (by unfold maxLen;omega) (by omega) (by have:=hbel.size;simp;omega) ?_;intro v' w2 hown' hgrow _)
      have J9:=yh hbel hown hgrow
      have hown2:=CV (t:=⟨s.extract k (k+1),k,!(B s k==123) && !(B s k==125)⟩) (by rw[← HB.out,fD,Rj _ ZW]) hown'
      have HL2:=hid (CU HL.out HX.out)
      clear hown' hgrow hown HL
      go_wp2
      go_roundg (gk-1)
      case rel=>exact⟨k+1,_,by omega,by go_num,HL2.out,hown2,by simp;omega,J9⟩
      case measure=>omega
     ·have hx:((s[k]'hlt).toNat:Int)=123:=by simpa using ZW
      have HZ:=hid hx
      clear ZW hr' h32 h10
      have hr':jP 123=false:=by decide
      go_wp2_with fail
      refine(lX _ _).mono ?_;rintro e w1 ⟨rfl,rfl⟩;rw[hr']
      go_wp2_with fail
      (first | (go_region_law (refine uf rfl (.tmp 20) (.tmp 37) 81 rfl w.heap.size 84 i0 _ 3 32 underlying81 hi hz0 hz1 hz2 rfl (by decide) u3 D.length (D.flatMap fD) (by simp[Act.eval]) (hown.alloc _) ⟨w1.heap.size,0,none⟩ 1 1 [.string (s.extract k (k+1)),.int .i64 k,.bool false] (by simp[Act.eval]) rfl (uH _ _ _ _ _) (by simp[Value.oneCell']) (by unfold maxLen;omega) (by omega) (by have:=hbel.size;simp;omega) ?_;intro v' w2 hown' hgrow _)) | fail)
      all_goals
       have J9:=yh hbel hown hgrow
       have hown2:=CV (t:=⟨s.extract k (k+1),k,!(B s k==123) && !(B s k==125)⟩) (by rw[← HB.out,fD,HZ.out,Rk 123 (by decide)]) hown'
       have HL2:=hid (CU HL.out HX.out)
       clear hown' hgrow hown HL
       go_wp2
       go_roundg (gk-1)
       case rel=>exact⟨k+1,_,by omega,by go_num,HL2.out,hown2,by simp;omega,J9⟩
       case measure=>omega
  ·go_wp2_with fail
   go_ret
   exact⟨u3,rfl,by rw[HL.out,CQ s k hlt];simpa using hown,hbel⟩
end Go.Proofs.YtgalebcpagmohaaGreatDoor
