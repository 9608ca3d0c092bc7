/- The numbers of package schemas: numberOf, kindOfRun, kindOfMark and the bytes' kinds. -/
import Derived.Test.YtgalebcpagmohaaGreatDoorMKept
import Derived.Lib.AtoiAll
import Derived.Lib.SmallJoins
import Derived.Deep.RegionWith
set_option maxHeartbeats 4000000
set_option maxRecDepth 100000
namespace Go.Proofs.YtgalebcpagmohaaGreatDoor
open Go.Proofs.Tryz
open Go.RowKit
theorem Zo:∀ (l:List UInt8) (acc u:Nat),Lib.parseUint10 acc l=.ok u→acc≤u
 | [],acc,u,h=>by simp only[Lib.parseUint10] at h;injection h with h;omega
 | c::r,acc,u,h=>by
  simp only[Lib.parseUint10] at h
  split at h
  ·split at h
   ·cases h
   ·split at h
    ·cases h
    ·have:=Zo r _ u h;omega
  ·cases h
theorem Ip {c:UInt8} {r:List UInt8} {acc u:Nat} (h:Lib.parseUint10 acc (c::r)=.ok u):48≤c.toNat∧c.toNat≤57∧Lib.parseUint10 (acc*10+(c.toNat-48)) r=.ok u:=by
 simp only[Lib.parseUint10] at h
 split at h
 ·rename_i hc
  split at h
  ·cases h
  ·split at h
   ·cases h
   ·exact⟨hc.1,hc.2,h⟩
 ·cases h
theorem UL (c:UInt8) (n:Nat) (h:c.toNat=n):c=UInt8.ofNat n:=by
 subst h;simp
theorem uK:∀ k,k<100→1≤k→Lib.atoiAll (yc k)=.ok (k:Int)∧(yc k).head? ≠ some 48:=by decide
theorem X6 {c:UInt8} {r:List UInt8} (hc:c.toNat≠43∧c.toNat≠45) {v:Int} (h:Lib.atoiAll (c::r)=.ok v):((c.toNat≠48∧v≤99)↔jv (c::r)=true)∧(jv (c::r)=true→v=jQ (c::r)):=by
 have h':=h
 unfold Lib.atoiAll at h'
 simp only[hc.1,hc.2,or_self,if_false,Lib.parseMag,reduceCtorEq] at h'
 have key:c.toNat≠48→v≤99→∃ k,1≤k∧k≤99∧c::r=yc k:=by
  intro hz hv
  rcases hp:Lib.parseUint10 0 (c::r) with u | _ | _
  rotate_left
  ·rw[hp] at h';simp at h'
  ·rw[hp] at h';simp at h'
  ·rw[hp] at h'
   have hu:(u:Int)=v:=by
    simp only[not_false_eq_true,true_and,false_and,if_false] at h'
    split at h'
    ·cases h'
    ·injection h'
   obtain⟨h1,h2,h3⟩:=Ip hp
   cases r with
   | nil=>
    simp only[Lib.parseUint10] at h3;injection h3 with h3
    exact⟨u,by omega,by omega,by unfold yc;rw[if_pos (by omega)];rw[UL c (48+u) (by omega)]⟩
   | cons d r'=>
    obtain⟨h4,h5,h6⟩:=Ip h3
    cases r' with
    | nil=>
     simp only[Lib.parseUint10] at h6;injection h6 with h6
     refine⟨u,by omega,by omega,?_⟩
     unfold yc;rw[if_neg (by omega),UL c (48+u / 10) (by omega),UL d (48+u % 10) (by omega)]
    | cons e r''=>
     obtain⟨h7,h8,h9⟩:=Ip h6
     have:=Zo _ _ _ h9
     omega
 refine⟨⟨fun⟨a,b⟩=>?_,fun hn=>?_⟩,fun hn=>?_⟩
 ·obtain⟨k,h1,h2,h3⟩:=key a b
  exact J8 h1 h2 (by rw[h3,PZ k (by omega)])
 ·obtain⟨k,h1,h2,h3⟩:=lM hn
  have hk:=uK k (by omega) h1
  rw[← h3,h] at hk
  have h4:=hk.1;injection h4 with h4
  refine⟨?_,by omega⟩
  intro h48
  exact hk.2 (by simp;exact UInt8.toNat_inj.1 (by simpa using h48))
 ·obtain⟨k,h1,h2,h3⟩:=lM hn
  have hk:=uK k (by omega) h1
  rw[← h3,h] at hk
  have h4:=hk.1;injection h4 with h4
  have ha:=(FZ k (by omega)).1
  rw[jQ,h3,ha];simpa using h4
theorem BJ {l:List UInt8} (h:∀ v,Lib.atoiAll l≠.ok v):jv l=false:=by
 cases hn:jv l with
 | false=>rfl
 | true=>
  obtain⟨k,h1,h2,h3⟩:=lM hn
  exact absurd (by rw[h3];exact(uK k (by omega) h1).1) (h k)
structure Vars (w:World):Prop where
 sx:∃ te pe,w.cell? ⟨0,0,none⟩=some (.iface te pe)
 rg:∃ te pe,w.cell? ⟨1,0,none⟩=some (.iface te pe)
 X7:0 < w.heap.size
 X8:1 < w.heap.size
theorem Vars.below {w w':World} (h:Vars w) (hb:Below w.heap.size w w'):Vars w':=by
 obtain⟨te,pe,h1⟩:=h.sx
 obtain⟨tf,pf,h2⟩:=h.rg
 have l1:=h.X7
 have l2:=h.X8
 exact⟨⟨te,pe,by rw[hb.cell l1];exact h1⟩,⟨tf,pf,by rw[hb.cell l2];exact h2⟩,Nat.lt_of_lt_of_le l1 hb.size,Nat.lt_of_lt_of_le l2 hb.size⟩
theorem kP (c:Int) (w:World) :
  Calls Tryz.prog 242 #[.int .u8 c] w fun e w'=>e=.returned (.bool (kC c))∧w'=w:=by
 go_enter func242,ntmps242
 go_wp2
 ·have h:97≤c:=by assumption
  go_ret
  exact⟨aG (by simp[kC,h]),rfl⟩
 ·have h:c<97:=by assumption
  go_ret
  exact⟨aG (by simp[kC];omega),rfl⟩
theorem yx (c:Int) (w:World) :
  Calls Tryz.prog 243 #[.int .u8 c] w fun e w'=>e=.returned (.bool (oO c))∧w'=w:=by
 go_enter func243,ntmps243
 go_wp2
 ·have h:48≤c:=by assumption
  go_ret
  exact⟨aG (by simp[oO,h]),rfl⟩
 ·have h:c<48:=by assumption
  go_ret
  exact⟨aG (by simp[oO];omega),rfl⟩
def qm (c:Int):Bool:=c==32||c==10
theorem Ai (c:Int) (w:World) :
  Calls Tryz.prog 241 #[.int .u8 c] w fun e w'=>e=.returned (.bool (qm c))∧w'=w:=by
 go_enter func241,ntmps241
 cases h1:(c==32)
 all_goals
  go_wp2
  go_ret
  exact⟨aG (by simp[qm,h1]),rfl⟩
def lC (c:Int):Nat:=if c=123 then 4 else if c=125 then 5 else 1
theorem CY (c:Int) (w:World) :
  Calls Tryz.prog 244 #[.int .u8 c] w fun e w'=>e=.returned (.int .i64 (lC c:Nat))∧w'=w:=by
 go_enter func244,ntmps244
 by_cases h1:c=123
 ·have hb:(c==123)=true:=by simp[h1]
  have HM:=hid (show lC c=4 by simp[lC,h1])
  clear h1
  go_wp2
  go_ret
  exact⟨by rw[HM.out];rfl,rfl⟩
 ·have hb:(c==123)=false:=by simp[h1]
  by_cases h2:c=125
  ·have hb2:(c==125)=true:=by simp[h2]
   have HM:=hid (show lC c=5 by simp[lC,h2])
   clear h1 h2
   go_wp2
   go_ret
   exact⟨by rw[HM.out];rfl,rfl⟩
  ·have hb2:(c==125)=false:=by simp[h2]
   have HM:=hid (show lC c=1 by simp[lC,h1,h2])
   clear h1 h2
   go_wp2
   go_ret
   exact⟨by rw[HM.out];rfl,rfl⟩
theorem CZ (s:ByteArray) (h:0<s.size):∃ r,s.toList=s[0]::r:=by
 obtain⟨⟨l⟩⟩:=s
 rw[ByteArray.toList_eq]
 cases l with
 | nil=>simp[ByteArray.size] at h
 | cons c r=>exact⟨r,rfl⟩
theorem sS (run:ByteArray) (w:World) (hv:Vars w) (h0:0<run.size) (hs:run.size≤400) (hc:(run[0]'h0).toNat≠43∧(run[0]'h0).toNat≠45) :
  Calls Tryz.prog 277 #[.string run] w fun e w'=>∃ n:Int,e=.returned (.tuple #[.int .i64 n,.bool (jv run.toList)])∧(jv run.toList=true→n=jQ run.toList)∧Below w.heap.size w w':=by
 obtain⟨r,hr⟩:=CZ run h0
 rcases hA:Lib.atoiAll run.data.toList with v | _ | _
 ·have hN:=X6 hc (r:=r) (v:=v) (by rw[← hr,ByteArray.toList_eq];exact hA)
  rw[← hr] at hN
  have HN:=hid hN
  have HC:=hid hc
  clear hN hr hc
  generalize jv run.toList=nb at *
  go_enter func277,ntmps277
  go_wp2_with fail
  refine(Tryz.strconv_Atoi_ok run (by omega) v hA _).mono ?_;rintro e w1 ⟨rfl,hw1⟩
  have hb1:Below w.heap.size w w1:=by
   rcases hw1 with rfl | ⟨bt,rfl⟩
   ·exact Below.refl _ _
   ·exact Joins.below_bytesWorld _ _ _ _ (Nat.le_refl _)
  clear hw1 hA
  go_wp2_with fail
  ·have h:((run[0]'h0).toNat:Int)=48:=by assumption
   have hnb:nb=false:=by
    cases nb with
    | false=>rfl
    | true=>exact absurd (by omega) (HN.out.1.2 rfl).1
   subst hnb
   go_ret2
   exact⟨v,rfl,HN.out.2,hb1⟩
  ·have h:¬ ((run[0]'h0).toNat:Int)=48:=by assumption
   have hne:(((run[0]'h0).toNat:Int) != 48)=true:=by simp;omega
   have hnb:nb=((((run[0]'h0).toNat:Int) != 48)&&decide (v≤99)):=by
    rw[hne,Bool.true_and]
    by_cases hv9:v≤99
    ·rw[HN.out.1.1 ⟨by omega,hv9⟩];simp[hv9]
    ·cases nb with
     | false=>simp[hv9]
     | true=>exact absurd (HN.out.1.2 rfl).2 hv9
   subst hnb
   go_ret2
   exact⟨v,rfl,HN.out.2,hb1⟩
 ·have HN:=hid (BJ (l:=run.toList) (fun v hh=>by rw[ByteArray.toList_eq,hA] at hh;cases hh))
  obtain⟨te,pe,hsx⟩:=hv.sx
  go_enter func277,ntmps277
  go_wp2_with fail
  refine(Tryz.strconv_Atoi_no run (by omega) ⟨fun v hh => (by rw [hA] at hh; cases hh),fun hh => (by rw [hA] at hh; cases hh)⟩ _ _ hsx (Or.inr ⟨te,pe,rfl⟩)).mono ?_;rintro e w1 ⟨N,rfl,_,_,hb1⟩
  clear hA
  go_wp2_with fail
  go_ret2
  exact⟨_,by rw[HN.out];rfl,fun hh=>(by rw[HN.out] at hh;cases hh),hb1⟩
 ·have HN:=hid (BJ (l:=run.toList) (fun v hh=>by rw[ByteArray.toList_eq,hA] at hh;cases hh))
  obtain⟨te,pe,hrg⟩:=hv.rg
  go_enter func277,ntmps277
  go_wp2_with fail
  refine(Tryz.strconv_Atoi_range run (by omega) hA _ _ hrg (Or.inr ⟨te,pe,rfl⟩)).mono ?_;rintro e w1 ⟨N,rfl,_,_,hb1⟩
  clear hA
  go_wp2_with fail
  go_ret2
  exact⟨_,by rw[HN.out];rfl,fun hh=>(by rw[HN.out] at hh;cases hh),hb1⟩
def runK (l:List UInt8):Nat:=if nameB l=true then 2 else if jv l=true then 3 else 1
theorem wH (run:ByteArray) (w:World) (hv:Vars w) (h0:0<run.size) (hs:run.size≤400) (hc:(run[0]'h0).toNat≠43∧(run[0]'h0).toNat≠45) :
  Calls Tryz.prog 245 #[.string run] w fun e w'=>e=.returned (.int .i64 (runK run.toList:Nat))∧Below w.heap.size w w':=by
 have hn:=J7 run h0
 have HV:=hid hv
 have HC:=hid hc
 clear hv hc
 cases hsm:kC ((run[0]'h0).toNat:Int) with
 | true=>
  by_cases h12:(run.size:Int)≤12
  ·have HK:=hid (show runK run.toList=2 by unfold runK;rw[hn,hsm];simp[h12])
   clear hn
   go_enter func245,ntmps245
   go_wp2_with fail
   refine(kP _ _).mono ?_;rintro e w1 ⟨rfl,rfl⟩;rw[hsm]
   go_wp2_with fail
   go_ret
   exact⟨by rw[HK.out];rfl,Below.refl _ _⟩
  ·have Cb:=hid (show nameB run.toList=false by rw[hn,hsm];simp[h12])
   clear hn
   go_enter func245,ntmps245
   go_wp2_with fail
   refine(kP _ _).mono ?_;rintro e w1 ⟨rfl,rfl⟩;rw[hsm]
   go_wp2_with fail
   refine(sS run _ HV.out h0 hs HC.out).mono ?_;rintro e w2 ⟨n,rfl,_,hb2⟩
   cases hnb:jv run.toList with
   | true=>
    have HK:=hid (show runK run.toList=3 by unfold runK;rw[Cb.out,hnb];rfl)
    go_wp2_with fail
    go_ret
    exact⟨by rw[HK.out];rfl,hb2⟩
   | false=>
    have HK:=hid (show runK run.toList=1 by unfold runK;rw[Cb.out,hnb];rfl)
    go_wp2_with fail
    go_ret
    exact⟨by rw[HK.out];rfl,hb2⟩
 | false=>
  have Cb:=hid (show nameB run.toList=false by rw[hn,hsm];rfl)
  clear hn
  go_enter func245,ntmps245
  go_wp2_with fail
  refine(kP _ _).mono ?_;rintro e w1 ⟨rfl,rfl⟩;rw[hsm]
  go_wp2_with fail
  refine(sS run _ HV.out h0 hs HC.out).mono ?_;rintro e w2 ⟨n,rfl,_,hb2⟩
  cases hnb:jv run.toList with
  | true=>
   have HK:=hid (show runK run.toList=3 by unfold runK;rw[Cb.out,hnb];rfl)
   go_wp2_with fail
   go_ret
   exact⟨by rw[HK.out];rfl,hb2⟩
  | false=>
   have HK:=hid (show runK run.toList=1 by unfold runK;rw[Cb.out,hnb];rfl)
   go_wp2_with fail
   go_ret
   exact⟨by rw[HK.out];rfl,hb2⟩
structure aF where
 kind:Nat
 text:ByteArray
 at_:Nat
def fF (s:ByteArray):Nat→Nat→Nat
 | 0,i=>i
 | f+1,i=>if i<s.size∧qm (B s i)=true then fF s f (i+1) else i
def pz (s:ByteArray) (i:Nat):Nat:=fF s s.size i
theorem wJ (s:ByteArray):∀ f g i,s.size≤f+i→s.size≤g+i→fF s f i=fF s g i
 | 0,g,i,h1,h2=>by
  cases g with
  | zero=>rfl
  | succ g=>unfold fF;rw[if_neg (by omega)]
 | f+1,0,i,h1,h2=>by unfold fF;rw[if_neg (by omega)]
 | f+1,g+1,i,h1,h2=>by
  unfold fF;split
  ·exact wJ s f g (i+1) (by omega) (by omega)
  ·rfl
theorem Ro (s:ByteArray) (i:Nat) (h:i<s.size) (hr:qm (B s i)=true):pz s i=pz s (i+1):=by
 unfold pz
 rw[wJ s s.size (s.size+1) i (by omega) (by omega)]
 conv=>lhs;unfold fF
 rw[if_pos ⟨h,hr⟩]
theorem F8 (s:ByteArray) (i:Nat) (h:¬ (i<s.size∧qm (B s i)=true)):pz s i=i:=by
 unfold pz
 cases hs:s.size with
 | zero=>rfl
 | succ n=>unfold fF;rw[if_neg h]
theorem yA (s:ByteArray) (i:Nat) (h:i≤s.size):pz s i≤s.size:=by
 unfold pz
 have:∀ f i,i≤s.size→fF s f i≤s.size:=by
  intro f
  induction f with
  | zero=>intro i h;exact h
  | succ f ih=>
   intro i h;unfold fF;split
   ·rename_i hh;exact ih (i+1) hh.1
   ·exact h
 exact this _ _ h
def gQ (s:ByteArray) (k:Nat):aF :=
 if k=s.size then⟨0,⟨#[]⟩,k⟩
 else if bQ s s.size k=k then⟨lC (B s k),s.extract k (k+1),k⟩
 else⟨runK (s.extract k (bQ s s.size k)).toList,s.extract k (bQ s s.size k),k⟩
def gI (s:ByteArray) (i:Nat):aF:=gQ s (pz s i)
theorem zB (s:ByteArray) (k j:Nat) (hk:k<j) (hj:j≤s.size):∃ h0:0<(s.extract k j).size,(s.extract k j)[0]=s[k]'(by omega):=by
 have hz:(s.extract k j).size=j-k:=by simp[ByteArray.size_extract];omega
 exact⟨by omega,by simp[ByteArray.getElem_extract]⟩
theorem Kr (s:ByteArray) (k j:Nat) (hk:k<s.size) (h:bQ s s.size k=j) (hkj:k<j):(s[k]'hk).toNat≠43∧(s[k]'hk).toNat≠45:=by
 have hr:jP (B s k)=true:=by
  cases hr:jP (B s k) with
  | true=>rfl
  | false=>have:=lY s k (by simp[hr]);omega
 have hb:=Ri s k hk
 rw[← hb] at hr
 simp[jP,kC,oO] at hr
 omega
theorem Aj (n:Int) (h1:0≤n) (h2:n≤1000000):IntKind.i64.wrap n=n:=by rw[IntKind.wrap_i64];omega
theorem vP {w0:World} {b:Nat} {T:TypeId} {c0 c1 c2:Value} (d0 d1 d2:Value) (h:Seg w0 b T 0 [c0,c1,c2]) :
  (((w0.setCell ⟨b,0,none⟩ d0).setCell ⟨b,1,none⟩ d1).setCell ⟨b,2,none⟩ d2).cell? ⟨b,0,none⟩=some d0 ∧
  (((w0.setCell ⟨b,0,none⟩ d0).setCell ⟨b,1,none⟩ d1).setCell ⟨b,2,none⟩ d2).cell? ⟨b,1,none⟩=some d1 ∧
  (((w0.setCell ⟨b,0,none⟩ d0).setCell ⟨b,1,none⟩ d1).setCell ⟨b,2,none⟩ d2).cell? ⟨b,2,none⟩=some d2:=by
 have h3:=((h.set 0 d0).set 1 d1).set 2 d2
 simp only[Nat.zero_add] at h3
 have e0:=h3.cell (j:=0) (v:=d0) rfl
 have e1:=h3.cell (j:=1) (v:=d1) rfl
 have e2:=h3.cell (j:=2) (v:=d2) rfl
 simp only[Nat.zero_add] at e0 e1 e2
 exact⟨e0,e1,e2⟩
theorem pF {w w0:World} {b:Nat} (d0 d1 d2:Value) (h:Below b w w0):Below b w (((w0.setCell ⟨b,0,none⟩ d0).setCell ⟨b,1,none⟩ d1).setCell ⟨b,2,none⟩ d2) :=
 ((h.setCell (p:=⟨b,0,none⟩) (Nat.le_refl _) d0).setCell (p:=⟨b,1,none⟩) (Nat.le_refl _) d1).setCell (p:=⟨b,2,none⟩) (Nat.le_refl _) d2
theorem UM (s:ByteArray) (i:Nat) (w:World) (hv:Vars w) (hs:s.size≤400) (hi:i≤s.size) :
  Calls Tryz.prog 184 #[.string s,.int .i64 i] w fun e w'=>e=.returned (.agg #[.int .i64 (gI s i).kind,.string (gI s i).text,.int .i64 (gI s i).at_])∧Below w.heap.size w w':=by
 have HV:=hid hv
 clear hv
 generalize hR:gI s i=R
 have HR:=hid hR
 clear hR
 go_enter func184,ntmps184
 go_wp2_with fail
 have hb0:Below w.heap.size w (w.alloc (.cells #[.int .i64 0,.string ⟨#[]⟩,.int .i64 0] 216)):=(Below.refl _ _).alloc (Nat.le_refl _) _
 have hsg:Seg (w.alloc (.cells #[.int .i64 0,.string ⟨#[]⟩,.int .i64 0] 216)) w.heap.size 216 0 [.int .i64 0,.string ⟨#[]⟩,.int .i64 0]:=⟨_,heap_alloc_new w _,by simp,by simp⟩
 generalize hw0:w.alloc (.cells #[.int .i64 0,.string ⟨#[]⟩,.int .i64 0] 216)=w0 at *
 clear hw0
 have r0:=hsg.cell (j:=0) rfl
 have r1:=hsg.cell (j:=1) rfl
 have r2:=hsg.cell (j:=2) rfl
 have rf:∀ j,w0.frozen? ⟨w.heap.size,j,none⟩=false:=fun j=>hsg.frozen j
 simp only[Nat.zero_add] at r0 r1 r2
 have Ue:=hid hsg
 clear hsg
 go_loopg [5] (s.size-i) (fun gk a wr=>∃ k:Nat,k+gk=s.size∧a=.int .i64 k∧Hid (gQ s (pz s k)=R)∧wr=w0)
 case atStart=>exact⟨i,by omega,rfl,hid HR.out,rfl⟩
 case round=>
  obtain⟨k,hk,rfl,HK,rfl⟩:=hrel
  by_cases hlt:k<s.size
  ·have HB:=hid (Ri s k hlt)
   cases hbl:qm (B s k) with
   | true=>
    have Nh:=hid (show gQ s (pz s (k+1))=R by rw[← Ro s k hlt hbl];exact HK.out)
    go_wp2_with fail
    refine(Ai _ _).mono ?_;rintro e w1 ⟨rfl,rfl⟩;rw[HB.out,hbl]
    go_wp2_with fail
    go_roundg (gk-1)
    case rel=>exact⟨k+1,by omega,by go_num,Nh,rfl⟩
    case measure=>omega
   | false=>
    have Nh:=hid (show gQ s k=R by rw[← HK.out,F8 s k (by simp[hbl])])
    have hne:((k:Int)==(s.size:Int))=false:=by simp;omega
    go_wp2_with fail
    refine(Ai _ _).mono ?_;rintro e w1 ⟨rfl,rfl⟩;rw[HB.out,hbl]
    go_wp2_with fail
    go_loopg [6] (s.size-k) (fun gk e wr=>∃ j:Nat,k≤j∧j+gk=s.size∧e=.int .i64 j∧Hid (bQ s s.size k=bQ s s.size j)∧wr=w1)
    case atStart=>exact⟨k,Nat.le_refl _,by omega,rfl,hid rfl,rfl⟩
    case round=>
     obtain⟨j,hkj,hj,rfl,HE,rfl⟩:=hrel
     by_cases hjl:j<s.size
     ·have HBJ:=hid (Ri s j hjl)
      cases hsm:kC (B s j) with
      | true=>
       have HE2:=hid (HE.out.trans (jy s j hjl (by simp[jP,hsm])))
       go_wp2_with fail
       refine(kP _ _).mono ?_;rintro e w2 ⟨rfl,rfl⟩;rw[HBJ.out,hsm]
       go_wp2_with fail
       go_roundg (gk-1)
       case rel=>exact⟨j+1,by omega,by omega,by go_num,HE2,rfl⟩
       case measure=>omega
      | false=>
       cases hdg:oO (B s j) with
       | true=>
        have HE2:=hid (HE.out.trans (jy s j hjl (by simp[jP,hdg])))
        go_wp2_with fail
        refine(kP _ _).mono ?_;rintro e w2 ⟨rfl,rfl⟩;rw[HBJ.out,hsm]
        go_wp2_with fail
        refine(yx _ _).mono ?_;rintro e w3 ⟨rfl,rfl⟩;rw[HBJ.out,hdg]
        go_wp2_with fail
        go_roundg (gk-1)
        case rel=>exact⟨j+1,by omega,by omega,by go_num,HE2,rfl⟩
        case measure=>omega
       | false=>
        have HE2:=hid (HE.out.trans (lY s j (by simp[jP,hsm,hdg])))
        go_wp2_with fail
        refine(kP _ _).mono ?_;rintro e w2 ⟨rfl,rfl⟩;rw[HBJ.out,hsm]
        go_wp2_with fail
        refine(yx _ _).mono ?_;rintro e w3 ⟨rfl,rfl⟩;rw[HBJ.out,hdg]
        by_cases hje:j=k
        ·subst hje
         have HF:=hid (show R=⟨lC (B s j),s.extract j (j+1),j⟩ by rw[← Nh.out];unfold gQ;rw[if_neg (by omega),if_pos HE2.out])
         have heq:((j:Int)==(j:Int))=true:=by simp
         have b1:(0:Int)≤(j:Int)+1:=by omega
         have b2:(j:Int)+1≤(s.size:Int):=by omega
         have b3:(j:Int)≤(j:Int)+1:=by omega
         have aeM:IntKind.i64.wrap ((j:Int)+1)=(j:Int)+1:=Aj _ (by omega) (by omega)
         obtain⟨z0,z1,z2⟩:=vP (.int .i64 (lC (B s j):Nat)) (.string (s.extract j (j+1))) (.int .i64 (j:Nat)) Ue.out
         go_wp2_with fail
         go_region_with (go_at_call 244;refine(CY _ _).mono ?_;rintro e w4 ⟨rfl,rfl⟩;rw[HBJ.out])
         all_goals
          go_wp2_with fail
          rw[HF.out]
          refine bodyPost_ret (v:=.agg #[.int .i64 (lC (B s j):Nat),.string (s.extract j (j+1)),.int .i64 (j:Nat)]) (by simp[results,Tryz.results184,go_sem,z0,z1,z2]) rfl ⟨rfl,(pF _ _ _ hb0).drew⟩
        ·have heq:((j:Int)==(k:Int))=false:=by simp;omega
         have Rl:k<j:=by omega
         have hjs:j≤s.size:=by omega
         obtain⟨hf0,hf1⟩:=zB s k j Rl hjs
         have hfz:(s.extract k j).size≤400:=by simp[ByteArray.size_extract];omega
         have HF:=hid (show R=⟨runK (s.extract k j).toList,s.extract k j,k⟩ by rw[← Nh.out];unfold gQ;rw[if_neg (by omega),if_neg (by rw[HE2.out];omega),HE2.out])
         have HRC:=hid (show ((s.extract k j)[0]'hf0).toNat≠43∧((s.extract k j)[0]'hf0).toNat≠45 by
          rw[hf1];exact Kr s k j (by omega) HE2.out Rl)
         have b1:(0:Int)≤(j:Int):=by omega
         have b2:(j:Int)≤(s.size:Int):=by omega
         have b3:(k:Int)≤(j:Int):=by omega
         clear hf1
         go_wp2_with fail
         go_region_with (go_at_call 245;refine(wH _ _ ((HV.out.below hb0).below (Below.refl _ _).drew) hf0 hfz HRC.out).mono ?_;rintro e w4 ⟨rfl,hb4⟩;have yB:=Ue.out.same (hb4.block _ Ue.out.lt);have y0:=yB.cell (j:=0) rfl;have y1:=yB.cell (j:=1) rfl;have y2:=yB.cell (j:=2) rfl;have yf:∀ j,w4.frozen? ⟨w.heap.size,j,none⟩=false:=fun j=>yB.frozen j;simp only[Nat.zero_add] at y0 y1 y2)
         all_goals
          obtain⟨z0,z1,z2⟩:=vP (.int .i64 (runK (s.extract k j).toList:Nat)) (.string (s.extract k j)) (.int .i64 (k:Nat)) yB
          have NY:=hb0.trans ((Below.refl _ _).drew.trans (hb4.mono (show w.heap.size≤_ from hb0.size)))
          go_wp2_with fail
          rw[HF.out]
          refine bodyPost_ret (v:=.agg #[.int .i64 (runK (s.extract k j).toList:Nat),.string (s.extract k j),.int .i64 (k:Nat)]) (by simp[results,Tryz.results184,go_sem,z0,z1,z2]) rfl ⟨rfl,pF _ _ _ NY⟩
     ·have HE2:=hid (HE.out.trans (lY s j (by omega)))
      have hje:j≠k:=by omega
      have heq:((j:Int)==(k:Int))=false:=by simp;omega
      have Rl:k<j:=by omega
      have hjs:j≤s.size:=by omega
      obtain⟨hf0,hf1⟩:=zB s k j Rl hjs
      have hfz:(s.extract k j).size≤400:=by simp[ByteArray.size_extract];omega
      have HF:=hid (show R=⟨runK (s.extract k j).toList,s.extract k j,k⟩ by rw[← Nh.out];unfold gQ;rw[if_neg (by omega),if_neg (by rw[HE2.out];omega),HE2.out])
      have HRC:=hid (show ((s.extract k j)[0]'hf0).toNat≠43∧((s.extract k j)[0]'hf0).toNat≠45 by
       rw[hf1];exact Kr s k j (by omega) HE2.out Rl)
      have b1:(0:Int)≤(j:Int):=by omega
      have b2:(j:Int)≤(s.size:Int):=by omega
      have b3:(k:Int)≤(j:Int):=by omega
      clear hf1
      go_wp2_with fail
      go_region_with (go_at_call 245;refine(wH _ _ ((HV.out.below hb0).below (Below.refl _ _).drew) hf0 hfz HRC.out).mono ?_;rintro e w4 ⟨rfl,hb4⟩;have yB:=Ue.out.same (hb4.block _ Ue.out.lt);have y0:=yB.cell (j:=0) rfl;have y1:=yB.cell (j:=1) rfl;have y2:=yB.cell (j:=2) rfl;have yf:∀ j,w4.frozen? ⟨w.heap.size,j,none⟩=false:=fun j=>yB.frozen j;simp only[Nat.zero_add] at y0 y1 y2)
      all_goals
       obtain⟨z0,z1,z2⟩:=vP (.int .i64 (runK (s.extract k j).toList:Nat)) (.string (s.extract k j)) (.int .i64 (k:Nat)) yB
       have NY:=hb0.trans ((Below.refl _ _).drew.trans (hb4.mono (show w.heap.size≤_ from hb0.size)))
       go_wp2_with fail
       rw[HF.out]
       refine bodyPost_ret (v:=.agg #[.int .i64 (runK (s.extract k j).toList:Nat),.string (s.extract k j),.int .i64 (k:Nat)]) (by simp[results,Tryz.results184,go_sem,z0,z1,z2]) rfl ⟨rfl,pF _ _ _ NY⟩
  ·have hke:k=s.size:=by omega
   have Nh:=hid (show R=⟨0,⟨#[]⟩,s.size⟩ by rw[← HK.out,F8 s k (by omega)];simp[gQ,hke])
   obtain⟨z0,z1,z2⟩:=vP (.int .i64 0) (.string ⟨#[]⟩) (.int .i64 (s.size:Nat)) Ue.out
   subst hke
   have heq:((s.size:Int)==(s.size:Int))=true:=by simp
   go_wp2_with fail
   rw[Nh.out]
   exact bodyPost_ret (v:=.agg #[.int .i64 0,.string ⟨#[]⟩,.int .i64 (s.size:Nat)]) (by simp[results,Tryz.results184,go_sem,z0,z1,z2]) rfl ⟨rfl,pF _ _ _ hb0⟩
structure But (pb:Nat) (w w':World):Prop where
 os:w'.os=w.os
 tape:w'.tape=w.tape
 output:w'.output=w.output
 size:w.heap.size≤w'.heap.size
 block:∀ k,k<w.heap.size→k≠pb→w'.heap[k]? = w.heap[k]?
theorem But.refl (pb:Nat) (w:World):But pb w w:=⟨rfl,rfl,rfl,Nat.le_refl _,fun _ _ _=>rfl⟩
theorem But.trans {pb:Nat} {a b c:World} (h:But pb a b) (k:But pb b c):But pb a c :=
 ⟨k.os.trans h.os,k.tape.trans h.tape,k.output.trans h.output,Nat.le_trans h.size k.size,fun i hi hp=>(k.block i (Nat.lt_of_lt_of_le hi h.size) hp).trans (h.block i hi hp)⟩
theorem But.dJ {pb:Nat} {w w':World} (h:Below w.heap.size w w'):But pb w w':=⟨h.os,h.tape,h.output,h.size,fun k hk _=>h.block k hk⟩
theorem But.setCell {pb:Nat} {w w':World} (h:But pb w w') (q:Nat) (v:Value):But pb w (w'.setCell ⟨pb,q,none⟩ v) :=
 ⟨h.os,h.tape,h.output,by simpa[World.setCell] using h.size,fun k hk hp=>(Below.heap_setCell _ _ _ _ hp).trans (h.block k hk hp)⟩
theorem But.drew {pb:Nat} {w w':World} (h:But pb w w'):But pb w w'.drew:=⟨h.os,h.tape,h.output,h.size,h.block⟩
theorem Vars.but {pb:Nat} {w w':World} (h:Vars w) (hb:But pb w w') (h1:pb ≠ 0) (h2:pb ≠ 1):Vars w':=by
 obtain⟨te,pe,e1⟩:=h.sx
 obtain⟨tf,pf,e2⟩:=h.rg
 have l1:=h.X7
 have l2:=h.X8
 exact⟨⟨te,pe,(World.cell?_of_block (w:=w) (a:=⟨0,0,none⟩) (hb.block _ l1 (Ne.symm h1))).trans e1⟩,⟨tf,pf,(World.cell?_of_block (w:=w) (a:=⟨1,0,none⟩) (hb.block _ l2 (Ne.symm h2))).trans e2⟩,Nat.lt_of_lt_of_le l1 hb.size,Nat.lt_of_lt_of_le l2 hb.size⟩
def Iq (s:ByteArray) (t:aF):List Value:=[.string s,.int .i64 t.kind,.string t.text,.int .i64 t.at_]
structure Ps (w:World) (pb:Nat) (s:ByteArray) (t:aF):Prop where
 seg:Seg w pb 218 0 (Iq s t)
 vars:Vars w
 ne1:pb ≠ 0
 ne2:pb ≠ 1
 fit:t.at_+t.text.size≤s.size
 sz:s.size≤400
theorem Ps.below {w w':World} {pb:Nat} {s:ByteArray} {t:aF} (h:Ps w pb s t) (hb:Below w.heap.size w w'):Ps w' pb s t :=
 ⟨h.seg.same (hb.block pb h.seg.lt),h.vars.below hb,h.ne1,h.ne2,h.fit,h.sz⟩
def aj (s:ByteArray) (t:aF):aF:=gI s (t.at_+t.text.size)
def dH (b:Bool) (s:ByteArray) (t:aF):aF:=match b with | true=>aj s t | false=>t
theorem C9 (s:ByteArray) (k:Nat) (hk:k≤s.size):(gQ s k).at_+(gQ s k).text.size≤s.size:=by
 unfold gQ
 split
 ·show k+0≤s.size;omega
 ·split
  ·simp[ByteArray.size_extract];omega
  ·have:=rO s s.size k hk
   have:=kN s s.size k
   simp[ByteArray.size_extract];omega
theorem Rq {s:ByteArray} {t:aF} (h:t.at_+t.text.size≤s.size):(aj s t).at_+(aj s t).text.size≤s.size :=
 C9 s _ (yA s _ h)
theorem Kt (w:World) (pb:Nat) (s:ByteArray) (t:aF) (h:Ps w pb s t) :
  Calls Tryz.prog 131 #[.pointer (some ⟨pb,0,none⟩)] w fun e w'=>e=.returned (.tuple #[])∧Ps w' pb s (aj s t)∧But pb w w':=by
 have c0:=h.seg.cell (j:=0) (v:=.string s) rfl
 have c1:=h.seg.cell (j:=1) (v:=.int .i64 t.kind) rfl
 have c2:=h.seg.cell (j:=2) (v:=.string t.text) rfl
 have c3:=h.seg.cell (j:=3) (v:=.int .i64 t.at_) rfl
 simp only[Nat.zero_add] at c0 c1 c2 c3
 have hfit:=h.fit
 have hsz:=h.sz
 have hwr:IntKind.i64.wrap ((t.at_:Int)+(t.text.size:Int))=(t.at_:Int)+(t.text.size:Int):=Aj _ (by omega) (by omega)
 have hcast:(t.at_:Int)+(t.text.size:Int)=((t.at_+t.text.size:Nat):Int):=by omega
 have HC:=hid hcast
 have H:=hid h
 clear h hcast
 go_enter func131,ntmps131
 go_wp2_with fail
 go_region_with (go_at_call 184;rw[HC.out];refine(UM s (t.at_+t.text.size) _ (H.out.vars.below (Below.refl _ _).drew) hsz hfit).mono ?_;rintro e w4 ⟨rfl,hb4⟩;have wK:=(H.out.below (Below.refl _ _).drew).below hb4;have y1:=wK.seg.cell (j:=1) (v:=.int .i64 t.kind) rfl;have y2:=wK.seg.cell (j:=2) (v:=.string t.text) rfl;have y3:=wK.seg.cell (j:=3) (v:=.int .i64 t.at_) rfl;have yf:∀ j,w4.frozen? ⟨pb,j,none⟩=false:=fun j=>wK.seg.frozen j;simp only[Nat.zero_add] at y1 y2 y3)
 all_goals
  go_wp2_with fail
  go_end0
  have hb5:Below w.heap.size w w4:=((Below.refl w.heap.size w).drew).trans hb4
  have jI:=(((But.dJ (pb:=pb) hb5).setCell 1 (.int .i64 (gI s (t.at_+t.text.size)).kind)).setCell 2 (.string (gI s (t.at_+t.text.size)).text)).setCell 3 (.int .i64 (gI s (t.at_+t.text.size)).at_)
  have hseg:=((wK.seg.set 1 (.int .i64 (gI s (t.at_+t.text.size)).kind)).set 2 (.string (gI s (t.at_+t.text.size)).text)).set 3 (.int .i64 (gI s (t.at_+t.text.size)).at_)
  simp only[Nat.zero_add] at hseg
  exact⟨rfl,⟨hseg,H.out.vars.but jI H.out.ne1 H.out.ne2,H.out.ne1,H.out.ne2,Rq hfit,hsz⟩,jI⟩
theorem mX (w:World) (pb:Nat) (s:ByteArray) (t:aF) (k:Nat) (h:Ps w pb s t) :
  Calls Tryz.prog 246 #[.pointer (some ⟨pb,0,none⟩),.int .i64 k] w fun e w'=>e=.returned (.bool (t.kind==k))∧Ps w' pb s (dH (t.kind==k) s t)∧But pb w w':=by
 have c1:=h.seg.cell (j:=1) (v:=.int .i64 t.kind) rfl
 simp only[Nat.zero_add] at c1
 have H:=hid h
 clear h
 cases hk:(t.kind==k) with
 | true=>
  have hne:((t.kind:Int) != (k:Int))=false:=by have:=eq_of_beq hk;simp;omega
  go_enter func246,ntmps246
  go_wp2_with fail
  refine(Kt _ pb s t H.out).mono ?_;rintro e w1 ⟨rfl,hp1,hb1⟩
  go_wp2_with fail
  go_ret
  exact⟨rfl,hp1,hb1⟩
 | false=>
  have hne:((t.kind:Int) != (k:Int))=true:=by have:=ne_of_beq_false hk;simp;omega
  go_enter func246,ntmps246
  go_wp2_with fail
  go_ret
  exact⟨rfl,H.out,But.refl _ _⟩
def aH (t:aF) (l:List UInt8):Bool:=(t.text.toList==l)&&(t.kind==2)
theorem gW (w:World) (pb:Nat) (s:ByteArray) (t:aF) (l:ByteArray) (h:Ps w pb s t) :
  Calls Tryz.prog 185 #[.pointer (some ⟨pb,0,none⟩),.string l] w fun e w'=>e=.returned (.bool (aH t l.toList))∧Ps w' pb s (dH (aH t l.toList) s t)∧But pb w w':=by
 have c2:=h.seg.cell (j:=2) (v:=.string t.text) rfl
 simp only[Nat.zero_add] at c2
 have H:=hid h
 clear h
 generalize hI:aH t l.toList=b
 have HI:=hid hI
 clear hI
 cases hw:(t.text.toList==l.toList) with
 | false=>
  have HW:=hid (show b=false by rw[← HI.out];simp only[aH,hw];rfl)
  go_enter func185,ntmps185
  go_wp2_with fail
  go_ret
  exact⟨aG HW.out.symm,by rw[HW.out];exact H.out,But.refl _ _⟩
 | true=>
  have HW:=hid (show b=(t.kind==2) by rw[← HI.out];simp only[aH,hw];rfl)
  go_enter func185,ntmps185
  go_wp2_with fail
  refine(mX _ pb s t 2 H.out).mono ?_;rintro e w1 ⟨rfl,hp1,hb1⟩
  rw[← HW.out] at hp1 ⊢
  go_wp2_with fail
  go_ret
  exact⟨rfl,hp1,hb1⟩
theorem qX (s:ByteArray) (w:World) :
  Calls Tryz.prog 221 #[.string s] w fun e w'=>e=.returned (.bool (jl s.toList))∧w'=w:=by
 generalize hB:jl s.toList=b
 have HB:=hid hB
 clear hB
 cases h1:(s.toList==[105,110,116])
 ·cases h2:(s.toList==[98,111,111,108])
  ·go_enter func221,ntmps221
   go_wp2
   go_ret
   exact⟨aG (by rw[← HB.out];simp[jl,h1,h2]),rfl⟩
  ·go_enter func221,ntmps221
   go_wp2
   go_ret
   exact⟨aG (by rw[← HB.out];simp[jl,h2]),rfl⟩
 ·go_enter func221,ntmps221
  go_wp2
  go_ret
  exact⟨aG (by rw[← HB.out];simp[jl,h1]),rfl⟩
theorem UN (l:List UInt8):qg l=((l==aX)||(l==kR)||(l==dV)||(l==iE)||(l==kZ)||(l==iY)||jl l):=by
 unfold qg words jl aX kR dV iE kZ iY
 simp only[List.any_cons,List.any_nil,Bool.or_false]
 rw[BEq.comm (a:=[109,101,115,115,97,103,101]),BEq.comm (a:=[101,110,117,109]),BEq.comm (a:=[115,116,114,101,97,109]),BEq.comm (a:=[99,97,108,108]),BEq.comm (a:=[111,112,116]),BEq.comm (a:=[108,105,115,116]),BEq.comm (a:=[105,110,116]),BEq.comm (a:=[98,111,111,108]),BEq.comm (a:=[116,101,120,116])]
 simp only[Bool.or_assoc]
theorem Dc (s:ByteArray) (w:World) :
  Calls Tryz.prog 247 #[.string s] w fun e w'=>e=.returned (.bool (qg s.toList))∧w'=w:=by
 have hW:=UN s.toList
 generalize hB:qg s.toList=b at *
 have HW:=hid hW
 clear hW hB
 simp only[aX,kR,dV,iE,kZ,iY] at HW
 cases h1:(s.toList==[109,101,115,115,97,103,101])
 case' false=>
  cases h2:(s.toList==[101,110,117,109])
  case' false=>
   cases h3:(s.toList==[115,116,114,101,97,109])
   case' false=>
    cases h4:(s.toList==[99,97,108,108])
    case' false=>
     cases h5:(s.toList==[111,112,116])
     case' false=>
      cases h6:(s.toList==[108,105,115,116])
      case false=>
       go_enter func247,ntmps247
       go_wp2_with fail
       refine(qX _ _).mono ?_;rintro e w1 ⟨rfl,rfl⟩
       go_wp2_with fail
       go_ret
       exact⟨aG (by rw[HW.out,h1,h2,h3,h4,h5,h6];rfl),rfl⟩
 all_goals
  go_enter func247,ntmps247
  go_wp2_with fail
  go_ret
  exact⟨aG (by rw[HW.out];simp[*]),rfl⟩
structure Wrote (w w':World) (pb nb no n:Nat):Prop where
 os:w'.os=w.os
 tape:w'.tape=w.tape
 output:w'.output=w.output
 size:w.heap.size≤w'.heap.size
 block:∀ k,k<w.heap.size→k≠pb→k≠nb→w'.heap[k]? = w.heap[k]?
 seg:∀ T p xs,(p+xs.length≤no∨no+n≤p)→Seg w nb T p xs→Seg w' nb T p xs
 len:∀ T cur,w.heap[nb]? = some (.cells cur T (0,0))→∃ cur',w'.heap[nb]? = some (.cells cur' T (0,0))∧cur'.size=cur.size
theorem Wrote.rQ {w w':World} {pb nb no n:Nat} (h:But pb w w') (hl:nb<w.heap.size) (hne:nb≠pb):Wrote w w' pb nb no n :=
 ⟨h.os,h.tape,h.output,h.size,fun k hk hp _=>h.block k hk hp,fun _ _ _ _ hs=>hs.same (h.block nb hl hne),fun _ cur hc=>⟨cur,by rw[h.block nb hl hne];exact hc,rfl⟩⟩
theorem Wrote.setCell {w w':World} {pb nb no n:Nat} (h:Wrote w w' pb nb no n) (j:Nat) (hj:j<n) (v:Value):Wrote w (w'.setCell ⟨nb,no+j,none⟩ v) pb nb no n :=
 ⟨h.os,h.tape,h.output,by simpa[World.setCell] using h.size,fun k hk hp hn=>(Below.heap_setCell _ _ _ _ hn).trans (h.block k hk hp hn),fun T p xs hp hs=>(h.seg T p xs hp hs).F6 _ _ (by omega),fun T cur hc=>by
  obtain⟨c',h1,h2⟩:=h.len T cur hc
  exact⟨_,heap_setCell_same w' nb (no+j) c' T v h1,by simpa using h2⟩⟩
theorem Wrote.drew {w w':World} {pb nb no n:Nat} (h:Wrote w w' pb nb no n):Wrote w w'.drew pb nb no n:=⟨h.os,h.tape,h.output,h.size,h.block,h.seg,h.len⟩
theorem Wrote.but {w w' w'':World} {pb nb no n:Nat} (h:Wrote w w' pb nb no n) (hb:But pb w' w'') (hl:nb<w.heap.size) (hne:nb≠pb):Wrote w w'' pb nb no n :=
 ⟨hb.os.trans h.os,hb.tape.trans h.tape,hb.output.trans h.output,Nat.le_trans h.size hb.size,fun k hk hp hn=>(hb.block k (Nat.lt_of_lt_of_le hk h.size) hp).trans (h.block k hk hp hn),
  fun T p xs hp hs=>(h.seg T p xs hp hs).same (hb.block nb (Nat.lt_of_lt_of_le hl h.size) hne),fun T cur hc=>by
  obtain⟨c',h1,h2⟩:=h.len T cur hc
  exact⟨c',by rw[hb.block nb (Nat.lt_of_lt_of_le hl h.size) hne];exact h1,h2⟩⟩
theorem Ps.store {w:World} {pb:Nat} {s:ByteArray} {t:aF} (h:Ps w pb s t) {nb:Nat} (hne:nb≠pb) (h1:nb ≠ 0) (h2:nb ≠ 1) (q:Nat) (v:Value):Ps (w.setCell ⟨nb,q,none⟩ v) pb s t :=
 ⟨h.seg.same (Below.heap_setCell _ _ _ _ (Ne.symm hne)),h.vars.but ((But.refl nb w).setCell q v) h1 h2,h.ne1,h.ne2,h.fit,h.sz⟩
theorem Ps.drew {w:World} {pb:Nat} {s:ByteArray} {t:aF} (h:Ps w pb s t):Ps w.drew pb s t:=h.below (Below.refl _ _).drew
def bC (t:aF):Bool:=!(qg t.text.toList)&&(t.kind==2)
def aA (t:aF):List Value:=[.string t.text,.int .i64 t.at_]
theorem name_any (w:World) (pb:Nat) (s:ByteArray) (t:aF) (nb no:Nat) (T:TypeId) (d0 d1:Value) (h:Ps w pb s t) (hn:Seg w nb T no [d0,d1]) (hne:nb≠pb) (h1:nb ≠ 0) (h2:nb ≠ 1) :
  Calls Tryz.prog 186 #[.pointer (some ⟨pb,0,none⟩),.pointer (some ⟨nb,no,none⟩)] w fun e w'=>e=.returned (.bool (bC t))∧Ps w' pb s (dH (bC t) s t)∧Seg w' nb T no (aA t)∧Wrote w w' pb nb no 2:=by
 have c2:=h.seg.cell (j:=2) (v:=.string t.text) rfl
 have c3:=h.seg.cell (j:=3) (v:=.int .i64 t.at_) rfl
 have e0:=hn.cell (j:=0) (v:=d0) rfl
 have e1:=hn.cell (j:=1) (v:=d1) rfl
 have ef:∀ j,w.frozen? ⟨nb,j,none⟩=false:=fun j=>hn.frozen j
 simp only[Nat.zero_add,Nat.add_zero] at c2 c3 e0
 have q1:(nb=pb)=False:=by simp;omega
 have q2:(pb=nb)=False:=by simp;omega
 have H:=hid h
 have HN:=hid hn
 clear h hn
 generalize hO:bC t=b
 have HO:=hid hO
 clear hO
 go_enter func186,ntmps186
 go_wp2_with fail
 go_region
 all_goals
  go_wp2_with fail
  have hs2:=(HN.out.set 0 (.string t.text)).set 1 (.int .i64 t.at_)
  have hp2:=(H.out.store hne h1 h2 (no+0) (.string t.text)).store hne h1 h2 (no+1) (.int .i64 t.at_)
  have hw2:=(((Wrote.rQ (no:=no) (n:=2) (But.refl pb w) HN.out.lt hne).setCell 0 (by omega) (.string t.text)).setCell 1 (by omega) (.int .i64 t.at_)).drew
  simp only[Nat.add_zero] at hs2 hp2 hw2
  have HS2:=hid (show Seg ((w.setCell ⟨nb,no,none⟩ (.string t.text)).setCell ⟨nb,no+1,none⟩ (.int .i64 t.at_)).drew nb T no (aA t) from hs2)
  have HP2:=hid hp2.drew
  have HW2:=hid hw2
  clear hs2 hp2 hw2
  refine(Dc _ _).mono ?_;rintro e w1 ⟨rfl,rfl⟩
  cases hwd:qg t.text.toList
  case' true=>
   have HB:=hid (show b=false by rw[← HO.out];simp[bC,hwd])
   go_wp2_with fail
   go_ret
   exact⟨aG HB.out.symm,by rw[HB.out];exact HP2.out,HS2.out,HW2.out⟩
  case' false=>
   have HB:=hid (show b=(t.kind==2) by rw[← HO.out];simp[bC,hwd])
   go_wp2_with fail
   refine(mX _ pb s t 2 HP2.out).mono ?_;rintro e w3 ⟨rfl,hp3,hb3⟩
   rw[← HB.out] at hp3 ⊢
   go_wp2_with fail
   go_ret
   exact⟨rfl,hp3,HS2.out.same (hb3.block nb (Nat.lt_of_lt_of_le HN.out.lt HW2.out.size) hne),HW2.out.but hb3 HN.out.lt hne⟩
def dI (t:aF):Bool:=(!(qg t.text.toList)||jl t.text.toList)&&(t.kind==2)
theorem yC (w:World) (pb:Nat) (s:ByteArray) (t:aF) (nb no:Nat) (T:TypeId) (d0 d1:Value) (h:Ps w pb s t) (hn:Seg w nb T no [d0,d1]) (hne:nb≠pb) (h1:nb ≠ 0) (h2:nb ≠ 1) :
  Calls Tryz.prog 190 #[.pointer (some ⟨pb,0,none⟩),.pointer (some ⟨nb,no,none⟩)] w fun e w'=>e=.returned (.bool (dI t))∧Ps w' pb s (dH (dI t) s t)∧Seg w' nb T no (aA t)∧Wrote w w' pb nb no 2:=by
 have c2:=h.seg.cell (j:=2) (v:=.string t.text) rfl
 have c3:=h.seg.cell (j:=3) (v:=.int .i64 t.at_) rfl
 have e0:=hn.cell (j:=0) (v:=d0) rfl
 have e1:=hn.cell (j:=1) (v:=d1) rfl
 have ef:∀ j,w.frozen? ⟨nb,j,none⟩=false:=fun j=>hn.frozen j
 simp only[Nat.zero_add,Nat.add_zero] at c2 c3 e0
 have q1:(nb=pb)=False:=by simp;omega
 have q2:(pb=nb)=False:=by simp;omega
 have H:=hid h
 have HN:=hid hn
 clear h hn
 generalize hO:dI t=b
 have HO:=hid hO
 clear hO
 go_enter func190,ntmps190
 go_wp2_with fail
 go_region
 all_goals
  go_wp2_with fail
  have hs2:=(HN.out.set 0 (.string t.text)).set 1 (.int .i64 t.at_)
  have hp2:=(H.out.store hne h1 h2 (no+0) (.string t.text)).store hne h1 h2 (no+1) (.int .i64 t.at_)
  have hw2:=(((Wrote.rQ (no:=no) (n:=2) (But.refl pb w) HN.out.lt hne).setCell 0 (by omega) (.string t.text)).setCell 1 (by omega) (.int .i64 t.at_)).drew
  simp only[Nat.add_zero] at hs2 hp2 hw2
  have HS2:=hid (show Seg ((w.setCell ⟨nb,no,none⟩ (.string t.text)).setCell ⟨nb,no+1,none⟩ (.int .i64 t.at_)).drew nb T no (aA t) from hs2)
  have HP2:=hid hp2.drew
  have HW2:=hid hw2
  clear hs2 hp2 hw2
  refine(Dc _ _).mono ?_;rintro e w1 ⟨rfl,rfl⟩
  cases hwd:qg t.text.toList
  case' true=>
   go_wp2_with fail
   refine(qX _ _).mono ?_;rintro e w2 ⟨rfl,rfl⟩
   cases hbt:jl t.text.toList
   case' false=>
    have HB:=hid (show b=false by rw[← HO.out];simp[dI,hwd,hbt])
    go_wp2_with fail
    go_ret
    exact⟨aG HB.out.symm,by rw[HB.out];exact HP2.out,HS2.out,HW2.out⟩
   case' true=>
    have HB:=hid (show b=(t.kind==2) by rw[← HO.out];simp[dI,hbt])
    go_wp2_with fail
    refine(mX _ pb s t 2 HP2.out).mono ?_;rintro e w3 ⟨rfl,hp3,hb3⟩
    rw[← HB.out] at hp3 ⊢
    go_wp2_with fail
    go_ret
    exact⟨rfl,hp3,HS2.out.same (hb3.block nb (Nat.lt_of_lt_of_le HN.out.lt HW2.out.size) hne),HW2.out.but hb3 HN.out.lt hne⟩
  case' false=>
   have HB:=hid (show b=(t.kind==2) by rw[← HO.out];simp[dI,hwd])
   go_wp2_with fail
   refine(mX _ pb s t 2 HP2.out).mono ?_;rintro e w3 ⟨rfl,hp3,hb3⟩
   rw[← HB.out] at hp3 ⊢
   go_wp2_with fail
   go_ret
   exact⟨rfl,hp3,HS2.out.same (hb3.block nb (Nat.lt_of_lt_of_le HN.out.lt HW2.out.size) hne),HW2.out.but hb3 HN.out.lt hne⟩
theorem Rt:∀ k,k<100→(yc k).head? ≠ some 43∧(yc k).head? ≠ some 45:=by decide
theorem Ir (run:ByteArray) (w:World) (hv:Vars w) (hs:run.size≤400) :
  Calls Tryz.prog 277 #[.string run] w fun e w'=>∃ (n:Int) (b:Bool),e=.returned (.tuple #[.int .i64 n,.bool b])∧(jv run.toList=true→n=jQ run.toList)∧Below w.heap.size w w':=by
 rcases hA:Lib.atoiAll run.data.toList with v | _ | _
 ·have h0:0<run.size:=by
   rcases Nat.eq_zero_or_pos run.size with h | h
   ·have:run.data.toList=[]:=List.eq_nil_of_length_eq_zero h
    rw[this] at hA;simp[Lib.atoiAll] at hA
   ·exact h
  by_cases hc:(run[0]'h0).toNat≠43∧(run[0]'h0).toNat≠45
  ·refine(sS run w hv h0 hs hc).mono ?_
   rintro e w1 ⟨n,rfl,hn,hb⟩
   exact⟨n,_,rfl,hn,hb⟩
  ·have HN:=hid (show jv run.toList=false by
    cases hn:jv run.toList with
    | false=>rfl
    | true=>
     obtain⟨k,h1,h2,h3⟩:=lM hn
     obtain⟨r,hr⟩:=CZ run h0
     have hd:=Rt k (by omega)
     rw[← h3,hr] at hd
     simp at hd
     exfalso;apply hc
     exact⟨fun e=>hd.1 (UInt8.toNat_inj.1 (by simpa using e)),fun e=>hd.2 (UInt8.toNat_inj.1 (by simpa using e))⟩)
   clear hc
   go_enter func277,ntmps277
   go_wp2_with fail
   refine(Tryz.strconv_Atoi_ok run (by omega) v hA _).mono ?_;rintro e w1 ⟨rfl,hw1⟩
   have hb1:Below w.heap.size w w1:=by
    rcases hw1 with rfl | ⟨bt,rfl⟩
    ·exact Below.refl _ _
    ·exact Joins.below_bytesWorld _ _ _ _ (Nat.le_refl _)
   clear hw1 hA
   go_wp2_with fail
   all_goals
    go_ret2
    exact⟨_,_,rfl,fun hh=>(by rw[HN.out] at hh;cases hh),hb1⟩
 ·have HN:=hid (BJ (l:=run.toList) (fun v hh=>by rw[ByteArray.toList_eq,hA] at hh;cases hh))
  obtain⟨te,pe,hsx⟩:=hv.sx
  go_enter func277,ntmps277
  go_wp2_with fail
  refine(Tryz.strconv_Atoi_no run (by omega) ⟨fun v hh => (by rw [hA] at hh; cases hh),fun hh => (by rw [hA] at hh; cases hh)⟩ _ _ hsx (Or.inr ⟨te,pe,rfl⟩)).mono ?_;rintro e w1 ⟨N,rfl,_,_,hb1⟩
  clear hA
  go_wp2_with fail
  go_ret2
  exact⟨_,_,rfl,fun hh=>(by rw[HN.out] at hh;cases hh),hb1⟩
 ·have HN:=hid (BJ (l:=run.toList) (fun v hh=>by rw[ByteArray.toList_eq,hA] at hh;cases hh))
  obtain⟨te,pe,hrg⟩:=hv.rg
  go_enter func277,ntmps277
  go_wp2_with fail
  refine(Tryz.strconv_Atoi_range run (by omega) hA _ _ hrg (Or.inr ⟨te,pe,rfl⟩)).mono ?_;rintro e w1 ⟨N,rfl,_,_,hb1⟩
  clear hA
  go_wp2_with fail
  go_ret2
  exact⟨_,_,rfl,fun hh=>(by rw[HN.out] at hh;cases hh),hb1⟩
theorem NZ (w:World) (pb:Nat) (s:ByteArray) (t:aF) (nb no:Nat) (T:TypeId) (d0 d1:Value) (h:Ps w pb s t) (hn:Seg w nb T no [d0,d1]) (hne:nb≠pb) (h1:nb ≠ 0) (h2:nb ≠ 1) :
  Calls Tryz.prog 248 #[.pointer (some ⟨pb,0,none⟩),.pointer (some ⟨nb,no,none⟩)] w fun e w'=>∃ n:Int,e=.returned (.bool (t.kind==3))∧(jv t.text.toList=true→n=jQ t.text.toList)∧Ps w' pb s (dH (t.kind==3) s t)∧Seg w' nb T no [.int .i64 n,.int .i64 t.at_]∧Wrote w w' pb nb no 2:=by
 have c2:=h.seg.cell (j:=2) (v:=.string t.text) rfl
 simp only[Nat.zero_add] at c2
 have hts:t.text.size≤400:=by have:=h.fit;have:=h.sz;omega
 have q1:(nb=pb)=False:=by simp;omega
 have q2:(pb=nb)=False:=by simp;omega
 have H:=hid h
 have HN:=hid hn
 clear h hn
 go_enter func248,ntmps248
 go_wp2_with fail
 refine(Ir _ _ H.out.vars hts).mono ?_;rintro e w1 ⟨n,bb,rfl,hnum,hb1⟩
 have hp1:=H.out.below hb1
 have hs1:=HN.out.same (hb1.block nb HN.out.lt)
 have c3:=hp1.seg.cell (j:=3) (v:=.int .i64 t.at_) rfl
 have e0:=hs1.cell (j:=0) (v:=d0) rfl
 have e1:=hs1.cell (j:=1) (v:=d1) rfl
 have ef:∀ j,w1.frozen? ⟨nb,j,none⟩=false:=fun j=>hs1.frozen j
 simp only[Nat.zero_add,Nat.add_zero] at c3 e0
 have Cb:=hid hnum
 have qo:=hid hp1
 have Il:=hid hs1
 clear hnum hp1 hs1 c2
 go_wp2_with fail
 have hs2:=(Il.out.set 0 (.int .i64 n)).set 1 (.int .i64 t.at_)
 have hp2:=(qo.out.store hne h1 h2 (no+0) (.int .i64 n)).store hne h1 h2 (no+1) (.int .i64 t.at_)
 have hw2:=(((Wrote.rQ (no:=no) (n:=2) (But.dJ (pb:=pb) hb1) HN.out.lt hne).setCell 0 (by omega) (.int .i64 n)).setCell 1 (by omega) (.int .i64 t.at_))
 simp only[Nat.add_zero] at hs2 hp2 hw2
 have HS2:=hid (show Seg ((w1.setCell ⟨nb,no,none⟩ (.int .i64 n)).setCell ⟨nb,no+1,none⟩ (.int .i64 t.at_)) nb T no [.int .i64 n,.int .i64 t.at_] from hs2)
 have HP2:=hid hp2
 have HW2:=hid hw2
 clear hs2 hp2 hw2
 refine(mX _ pb s t 3 HP2.out).mono ?_;rintro e w3 ⟨rfl,hp3,hb3⟩
 go_wp2_with fail
 go_ret
 exact⟨n,rfl,Cb.out,hp3,HS2.out.same (hb3.block nb (Nat.lt_of_lt_of_le HN.out.lt HW2.out.size) hne),HW2.out.but hb3 HN.out.lt hne⟩
def lQ (t:aF):Nat:=if aH t kZ=true then 1 else if aH t iY=true then 2 else 0
def dX (t:aF):Bool:=aH t kZ||aH t iY
theorem Ru (w:World) (pb:Nat) (s:ByteArray) (t:aF) (nb no:Nat) (T:TypeId) (d0:Value) (h:Ps w pb s t) (hn:Seg w nb T no [d0]) (hne:nb≠pb) (h1:nb ≠ 0) (h2:nb ≠ 1) :
  Calls Tryz.prog 249 #[.pointer (some ⟨pb,0,none⟩),.pointer (some ⟨nb,no,none⟩)] w fun e w'=>e=.returned (.bool true)∧Ps w' pb s (dH (dX t) s t)∧Seg w' nb T no [.int .i64 (lQ t:Nat)]∧Wrote w w' pb nb no 1:=by
 have H:=hid h
 have HN:=hid hn
 clear h hn
 generalize hA:dH (dX t) s t=A
 generalize hS:lQ t=S
 have HA:=hid hA
 have HS:=hid hS
 clear hA hS
 have fin:∀ (w3:World) (k:Nat),Ps w3 pb s A→But pb w w3→k=S→Ps (w3.setCell ⟨nb,no,none⟩ (.int .i64 (k:Nat))) pb s A∧Seg (w3.setCell ⟨nb,no,none⟩ (.int .i64 (k:Nat))) nb T no [.int .i64 (S:Nat)]∧Wrote w (w3.setCell ⟨nb,no,none⟩ (.int .i64 (k:Nat))) pb nb no 1:=by
  intro w3 k hp hb hk
  subst hk
  have hs:=(HN.out.same (hb.block nb HN.out.lt hne)).set 0 (.int .i64 (k:Nat))
  have hw:=(Wrote.rQ (no:=no) (n:=1) hb HN.out.lt hne).setCell 0 (by omega) (.int .i64 (k:Nat))
  simp only[Nat.add_zero] at hs hw
  exact⟨hp.store hne h1 h2 no _,hs,hw⟩
 have FIN:=hid fin
 clear fin
 have cf:∀ w3,But pb w w3→w3.cell? ⟨nb,no,none⟩=some d0∧∀ j,w3.frozen? ⟨nb,j,none⟩=false:=by
  intro w3 hb
  have hs:=HN.out.same (hb.block nb HN.out.lt hne)
  have e0:=hs.cell (j:=0) (v:=d0) rfl
  exact⟨by simpa using e0,fun j=>hs.frozen j⟩
 have CF:=hid cf
 clear cf
 go_enter func249,ntmps249
 go_wp2_with fail
 refine(gW _ pb s t _ H.out).mono ?_;rintro e w1 ⟨rfl,hp1,hb1⟩
 cases ho:aH t [111,112,116]
 case' true=>
  have ho':aH t (ByteArray.mk #[111,112,116]).toList=true:=by rw[ByteArray.toList_eq];exact ho
  rw[ho'] at hp1 ⊢
  obtain⟨e0,ef⟩:=CF.out w1 hb1
  have F:=hid (FIN.out w1 1 (by rw[← HA.out];simp only[dX,kZ,ho,Bool.true_or];exact hp1) hb1 (by rw[← HS.out];simp[lQ,kZ,ho]))
  clear hp1
  go_wp2_with fail
  go_ret
  exact⟨rfl,F.out.1,F.out.2.1,F.out.2.2⟩
 case' false=>
  have ho':aH t (ByteArray.mk #[111,112,116]).toList=false:=by rw[ByteArray.toList_eq];exact ho
  rw[ho'] at hp1 ⊢
  go_wp2_with fail
  refine(gW _ pb s t _ hp1).mono ?_;rintro e w2 ⟨rfl,hp2,hb2⟩
  have fC:=hb1.trans hb2
  obtain⟨e0,ef⟩:=CF.out w2 fC
  cases hl:aH t [108,105,115,116]
  case' true=>
   have hl':aH t (ByteArray.mk #[108,105,115,116]).toList=true:=by rw[ByteArray.toList_eq];exact hl
   rw[hl'] at hp2 ⊢
   have F:=hid (FIN.out w2 2 (by rw[← HA.out];simp only[dX,kZ,iY,ho,hl,Bool.or_true];exact hp2) fC (by rw[← HS.out];simp[lQ,kZ,iY,ho,hl]))
   clear hp1 hp2
   go_wp2_with fail
   go_ret
   exact⟨rfl,F.out.1,F.out.2.1,F.out.2.2⟩
  case' false=>
   have hl':aH t (ByteArray.mk #[108,105,115,116]).toList=false:=by rw[ByteArray.toList_eq];exact hl
   rw[hl'] at hp2 ⊢
   have F:=hid (FIN.out w2 0 (by rw[← HA.out];simp only[dX,kZ,iY,ho,hl,Bool.or_self];exact hp2) fC (by rw[← HS.out];simp[lQ,kZ,iY,ho,hl]))
   clear hp1 hp2
   go_wp2_with fail
   go_ret
   exact⟨rfl,F.out.1,F.out.2.1,F.out.2.2⟩
end Go.Proofs.YtgalebcpagmohaaGreatDoor
