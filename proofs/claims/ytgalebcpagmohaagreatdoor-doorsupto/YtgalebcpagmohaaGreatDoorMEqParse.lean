/- The program's scan gives the reference's tokens, one by one (no walk). -/
import Derived.Test.YtgalebcpagmohaaGreatDoorMBlock
import Derived.Test.YtgalebcpagmohaaGreatDoorMParse
import Derived.Test.YtgalebcpagmohaaGreatDoorMRead
namespace Go.Proofs.YtgalebcpagmohaaGreatDoor
theorem Dp (s:ByteArray):∀ f i,fM s i=fM s (fF s f i)
 | 0,i=>rfl
 | f+1,i=>by
  unfold fF
  split
  ·rename_i h
   rw[yg s i h.1 (by have:=h.2;simp[qm] at this;exact this)]
   exact Dp s f (i+1)
  ·rfl
theorem Ky (s:ByteArray):∀ f i,s.size≤f+i→¬ (fF s f i<s.size∧qm (B s (fF s f i))=true)
 | 0,i,h=>by intro hh;have:=hh.1;simp only[fF] at this;omega
 | f+1,i,h=>by
  unfold fF
  by_cases hc:i<s.size∧qm (B s i)=true
  ·rw[if_pos hc];exact Ky s f (i+1) (by omega)
  ·rw[if_neg hc];exact hc
theorem U0 (l:List UInt8):((runK l)==1)=(!(jv l) && !(nameB l)):=by
 unfold runK
 cases nameB l<;>cases jv l<;>rfl
theorem RQ (c:Int):((lC c)==1)=(!(c==123) && !(c==125)):=by
 unfold lC
 by_cases h1:c=123
 ·simp[h1]
 ·by_cases h2:c=125
  ·simp[h2]
  ·simp[h1,h2]
theorem Qb (l:List UInt8):runK l≠0:=by
 unfold runK;split
 ·omega
 ·split<;>omega
theorem Kz (c:Int):lC c≠0:=by rcases Ak c with h | h | h<;>omega
theorem Gg (s:ByteArray) (i:Nat) (hi:i≤s.size) :
  ((gI s i).kind=0∧fM s i=[]∧(gI s i).at_=s.size) ∨
  ((gI s i).kind≠0∧fM s i=⟨(gI s i).text,(gI s i).at_,(gI s i).kind==1⟩::fM s ((gI s i).at_+(gI s i).text.size)):=by
 have hb:=Dp s s.size i
 have hle:=yA s i hi
 have hnb:=Ky s s.size i (by omega)
 rw[hb]
 unfold gI
 change ((gQ s (pz s i)).kind=0∧fM s (pz s i)=[]∧_)∨((gQ s (pz s i)).kind≠0∧fM s (pz s i)=_)
 change ¬ (pz s i<s.size∧qm (B s (pz s i))=true) at hnb
 generalize pz s i=k at *
 by_cases hk:k=s.size
 ·left
  unfold gQ
  rw[if_pos hk]
  exact⟨rfl,CQ s k (by omega),hk⟩
 ·right
  have hlt:k<s.size:=by omega
  have hbl:¬ (B s k=32∨B s k=10):=fun hh=>hnb ⟨hlt,by simpa[qm] using hh⟩
  cases hr:jP (B s k) with
  | true=>
   have hge:=kN s s.size (k+1)
   rw[← jy s k hlt hr] at hge
   have hle2:=rO s s.size k (by omega)
   unfold gQ
   rw[if_neg hk,if_neg (by omega)]
   refine⟨Qb _,?_⟩
   rw[CS s k hlt hbl hr]
   have hz:(s.extract k (bQ s s.size k)).size=bQ s s.size k-k:=by simp[ByteArray.size_extract];omega
   simp only[hz,U0,zA]
   rw[show k+(bQ s s.size k-k)=bQ s s.size k from by omega]
  | false=>
   have hst:=lY s k (by simp[hr])
   unfold gQ
   rw[if_neg hk,if_pos hst]
   refine⟨Kz _,?_⟩
   rw[Ag s k hlt hbl (by simp[hr])]
   have hz:(s.extract k (k+1)).size=1:=by simp[ByteArray.size_extract];omega
   simp only[hz,RQ]
theorem RS:∀ k,k<100→nameB (yc k)=false:=by decide
theorem U1 {l:List UInt8} (h:jv l=true):nameB l=false:=by
 obtain⟨k,_,h2,rfl⟩:=lM h
 exact RS k (by omega)
theorem Oj:∀ k,k<100→oO (((yc k).getD 0 0).toNat:Int)=true:=by decide
theorem one_byte (s:ByteArray) (k:Nat) (h:k<s.size):(s.extract k (k+1)).toList=[s.toList.getD k 0]:=by
 rw[Lib.extract_toList,ByteArray.toList_eq]
 have hk:k<s.data.toList.length:=h
 rw[List.drop_eq_getElem_cons hk,show k+1-k=1 from by omega]
 simp[List.getD_eq_getElem?_getD]
 rw[Array.getElem?_eq_getElem h];rfl
theorem Ol {c:UInt8} (h:jP (c.toNat:Int)=false):nameB [c]=false∧jv [c]=false:=by
 constructor
 ·simp only[jP,Bool.or_eq_false_iff] at h
  simp[nameB,h.1]
 ·cases hn:jv [c] with
  | false=>rfl
  | true=>
   obtain⟨k,_,h2,h3⟩:=lM hn
   have:=Oj k (by omega)
   rw[← h3] at this
   simp only[jP,Bool.or_eq_false_iff] at h
   simp at this
   rw[this] at h;simp at h
theorem Tk.kinds {s:ByteArray} {t:aF} (h:Tk s t) (h0:t.kind≠0):(t.kind==2)=nameB t.text.toList∧(t.kind==3)=jv t.text.toList∧(t.kind==4)=jH t.text Ah∧(t.kind==5)=jH t.text qj:=by
 obtain⟨i,hi,rfl⟩:=h
 have hb:=yA s i hi
 unfold gI at *
 generalize pz s i=k at *
 by_cases hk:k=s.size
 ·unfold gQ at h0;rw[if_pos hk] at h0;simp at h0
 ·have hlt:k<s.size:=by omega
  by_cases hr:bQ s s.size k=k
  ·unfold gQ
   rw[if_neg hk,if_pos hr]
   have hrb:jP (B s k)=false:=by
    cases hh:jP (B s k) with
    | false=>rfl
    | true=>have h1:=kN s s.size (k+1);rw[← jy s k hlt hh] at h1;omega
   have hone:=one_byte s k hlt
   have hB:B s k=((s.toList.getD k 0).toNat:Int):=rfl
   have hm:=Ol (c:=s.toList.getD k 0) (by rw[← hB];exact hrb)
   simp only[hone,hm.1,hm.2,jH,Ah,qj]
   generalize hc:s.toList.getD k 0=c at *
   have e4:([c]==[(123:UInt8)])=decide (B s k=123):=by
    rw[hB];by_cases hh:c=123
    ·subst hh;rfl
    ·have:¬ ((c.toNat:Int)=123):=fun e=>hh (UInt8.toNat_inj.1 (by simpa using(by omega:c.toNat=123)))
     simp[hh,this]
   have e5:([c]==[(125:UInt8)])=decide (B s k=125):=by
    rw[hB];by_cases hh:c=125
    ·subst hh;rfl
    ·have:¬ ((c.toNat:Int)=125):=fun e=>hh (UInt8.toNat_inj.1 (by simpa using(by omega:c.toNat=125)))
     simp[hh,this]
   rw[e4,e5]
   unfold lC
   by_cases h1:B s k=123
   ·simp[h1]
   ·by_cases h2:B s k=125
    ·simp[h2]
    ·simp[h1,h2]
  ·unfold gQ
   rw[if_neg hk,if_neg hr]
   have hrb:jP (B s k)=true:=by
    cases hh:jP (B s k) with
    | true=>rfl
    | false=>exact absurd (lY s k (by simp[hh])) hr
   have hge:=kN s s.size k
   have hle:=rO s s.size k (by omega)
   obtain⟨hf0,hf1⟩:=zB s k (bQ s s.size k) (by omega) hle
   obtain⟨r,hfr⟩:=CZ (s.extract k (bQ s s.size k)) hf0
   have hBk:=Ri s k hlt
   have hno:∀ d:UInt8,jP (d.toNat:Int)=false→((s.extract k (bQ s s.size k)).toList==[d])=false:=by
    intro d hd
    rw[hfr,hf1]
    cases hq:(s[k]::r==[d]) with
    | false=>rfl
    | true=>
     have:=eq_of_beq hq
     simp at this
     rw[← hBk,this.1,hd] at hrb;cases hrb
   have h4:=hno 123 (by decide)
   have h5:=hno 125 (by decide)
   simp only[jH,Ah,qj,h4,h5]
   generalize (s.extract k (bQ s s.size k)).toList=l
   unfold runK
   cases hnb:jv l with
   | true=>rw[U1 hnb];simp
   | false=>cases nameB l<;>simp
def tl (s:ByteArray) (t:aF):List Tok:=if t.kind=0 then [] else⟨t.text,t.at_,t.kind==1⟩::fM s (t.at_+t.text.size)
theorem Qc (s:ByteArray) (i:Nat) (hi:i≤s.size):tl s (gI s i)=fM s i:=by
 unfold tl
 rcases Gg s i hi with⟨h1,h2,_⟩ | ⟨h1,h2⟩
 ·rw[if_pos h1,h2]
 ·rw[if_neg h1,← h2]
theorem Yc {s:ByteArray} {t:aF} (h:Tk s t):tl s (aj s t)=fM s (t.at_+t.text.size):=Qc s _ h.fit
theorem Tk.atEnd {s:ByteArray} {t:aF} (h:Tk s t) (h0:t.kind=0):t.at_=s.size:=by
 obtain⟨i,hi,rfl⟩:=h
 rcases Gg s i hi with⟨_,_,h3⟩ | ⟨h1,_⟩
 ·exact h3
 ·exact absurd h0 h1
def dY (t:aF):Tok:=⟨t.text,t.at_,t.kind==1⟩
def G (s:ByteArray) (t:aF) (L:List bI) (a:Nat):Option (List bI) × Int:=pW s.size (tl s t) L a
theorem G_step {s:ByteArray} {t:aF} {L L':List bI} {a a':Nat} (h:Tk s t) (h0:t.kind≠0) (hs:nP L a (dY t)=some (L',a')):G s t L a=G s (aj s t) L' a':=by
 unfold G;rw[Yc h];unfold tl;rw[if_neg h0]
 show pW s.size (dY t::_) L a=_
 simp only[pW,hs]
theorem Yd {s:ByteArray} {t:aF} {L:List bI} {a:Nat} (h:Tk s t) (ha:a≠0) (hs:t.kind≠0→nP L a (dY t)=none):G s t L a=(none,(t.at_:Int)):=by
 unfold G tl
 by_cases h0:t.kind=0
 ·rw[if_pos h0,h.atEnd h0];simp[pW,ha]
 ·rw[if_neg h0]
  show pW s.size (dY t::_) L a=_
  simp only[pW,hs h0];rfl
theorem Gh {L:List bI} {it:bI} {a:Nat} {t:aF} (ha:a≠0) (h1:t.kind≠1):nP (L++[it]) a (dY t)=if (ay it a (dY t)).2=9 then none else some (L++[(ay it a (dY t)).1],(ay it a (dY t)).2):=by
 have hb:(dY t).bad=false:=by simp[dY];exact h1
 simp[nP,hb,ha]
theorem step_bad {L:List bI} {a:Nat} {t:aF} (h1:t.kind=1):nP L a (dY t)=none:=by simp[nP,dY,h1]
theorem Dq {s:ByteArray} {t:aF} {L:List bI} {it it':bI} {a a':Nat} (h:Tk s t) (ha:a≠0) (h0:t.kind≠0) (h1:t.kind≠1) (hi:ay it a (dY t)=(it',a')) (h9:a'≠9):G s t (L++[it]) a=G s (aj s t) (L++[it']) a' :=
 G_step h h0 (by rw[Gh ha h1,hi];simp[h9])
theorem Aq {s:ByteArray} {t:aF} {L:List bI} {it:bI} {a:Nat} (h:Tk s t) (ha:a≠0) (hi:t.kind≠0→t.kind≠1→(ay it a (dY t)).2=9):G s t (L++[it]) a=(none,(t.at_:Int)) :=
 Yd h ha (fun h0=>by
  by_cases h1:t.kind=1
  ·exact step_bad h1
  ·rw[Gh ha h1,if_pos (hi h0 h1)])
theorem l9 {s:ByteArray} {t:aF} (h:Tk s t) (h0:t.kind≠0):bC t=nO t.text.toList:=by
 unfold bC nO;rw[(h.kinds h0).1,Bool.and_comm]
theorem KA {t:aF} (h0:t.kind=0):bC t=false:=by simp[bC,h0]
theorem Om {l:List UInt8} (h:jl l=true):nameB l=true:=by
 simp only[jl,Bool.or_eq_true,beq_iff_eq] at h
 rcases h with(h | h) | h<;>(rw[h];decide)
theorem mg {s:ByteArray} {t:aF} (h:Tk s t) (h0:t.kind≠0):dI t=rM t.text.toList:=by
 unfold dI rM nO;rw[(h.kinds h0).1]
 cases hb:jl t.text.toList with
 | true=>rw[Om hb];simp
 | false=>cases qg t.text.toList<;>cases nameB t.text.toList<;>rfl
theorem xk {s:ByteArray} {t:aF} {l:List UInt8} (h:Tk s t) (hl:nameB l=true) (hne:l≠[]):aH t l=jH t.text l:=by
 unfold aH jH
 cases hb:(t.text.toList==l) with
 | false=>rfl
 | true=>
  have e:=eq_of_beq hb
  by_cases h0:t.kind=0
  ·exfalso
   obtain⟨i,hi,rfl⟩:=h
   unfold gI gQ at *
   split at h0
   ·rename_i hk
    rw[if_pos hk,ByteArray.toList_eq] at e
    exact hne e.symm
   ·split at h0
    ·exact absurd h0 (Kz _)
    ·exact absurd h0 (Qb _)
  ·rw[(h.kinds h0).1,e,hl];rfl
theorem text_eq {b:ByteArray} {l:List UInt8} (h:b.toList=l):b=⟨l.toArray⟩:=by
 rw[ByteArray.toList_eq] at h
 subst h
 rfl
def lD (n:Nat):ByteArray:=if n=1 then⟨kZ.toArray⟩ else if n=2 then⟨iY.toArray⟩ else je
def ni (f:bD):aZ:=⟨f.number,f.name,lD f.shape,f.base,f.numberAt,f.nameAt,f.bV⟩
theorem U2 {s:ByteArray} {t:aF} (h:Tk s t) (L:List bI) (it:bI) (F:List aZ) (h5:F=[]∨t.kind≠5) :
  G s t (L++[{ it with fields:=F }]) 3=if (aJ s t).1=true then G s (aJ s t).2 (L++[{ it with fields:=F++[ni (fU s t (jQ t.text.toList))] }]) 3 else(none,((aJ s t).2.at_:Int)):=by
 by_cases hk:t.kind=3
 ·have h0:t.kind≠0:=by omega
  have hnb:jv t.text.toList=true:=by rw[← (h.kinds h0).2.1];simp[hk]
  rw[Dq (it':={ it with fields:=F++[⟨jQ t.text.toList,je,je,je,t.at_,0,0⟩] }) (a':=4) h (by omega) h0 (by omega) (by simp[ay,dY,hnb]) (by omega)]
  have hk3:(t.kind==3)=true:=by simp[hk]
  cases hno:bC (aj s t) with
  | false=>
   have hf:aJ s t=(false,aj s t):=by simp[aJ,hk3,hno]
   rw[hf];simp only[Bool.false_eq_true,if_false]
   exact Aq h.next (by omega) (fun h0' _=>by
    have:=l9 h.next h0'
    rw[hno] at this
    simp[ay,dY,← this])
  | true=>
   have h0':(aj s t).kind≠0:=fun e=>by rw[KA e] at hno;cases hno
   have hfr:nO (aj s t).text.toList=true:=by rw[← l9 h.next h0'];exact hno
   have hk2:(aj s t).kind=2:=by simp only[bC,Bool.and_eq_true] at hno;exact eq_of_beq hno.2
   rw[Dq (it':={ it with fields:=F++[⟨jQ t.text.toList,(aj s t).text,je,je,t.at_,(aj s t).at_,0⟩] }) (a':=5) h.next (by omega) h0' (by omega) (by simp[ay,dY,hfr,gy]) (by omega)]
   have ht2:=h.next.next
   generalize hu:aj s (aj s t)=u at *
   have U3:aH u kZ=jH u.text kZ:=xk ht2 (by decide) (by decide)
   have Ye:aH u iY=jH u.text iY:=xk ht2 (by decide) (by decide)
   cases hsh:dX u with
   | false=>
    have hso:=hsh
    unfold dX at hso
    rw[Bool.or_eq_false_iff,U3,Ye] at hso
    have hv:lQ u=0:=by simp[lQ,U3,Ye,hso.1,hso.2]
    cases vS:dI u with
    | false=>
     have hf:aJ s t=(false,u):=by simp[aJ,hk3,hno,hu,hsh,vS,dH]
     rw[hf];simp only[Bool.false_eq_true,if_false]
     exact Aq ht2 (by omega) (fun h0u _=>by
      have:=mg ht2 h0u
      rw[vS] at this
      simp[ay,dY,← this,hso.1,hso.2])
    | true=>
     have hku:u.kind=2:=by simp only[dI,Bool.and_eq_true] at vS;exact eq_of_beq vS.2
     have hbb:rM u.text.toList=true:=by rw[← mg ht2 (by omega)];exact vS
     have hf:aJ s t=(true,aj s u):=by simp[aJ,hk3,hno,hu,hsh,vS,dH]
     rw[hf];simp only[if_true]
     rw[Dq (it':={ it with fields:=F++[ni (fU s t (jQ t.text.toList))] }) (a':=3) ht2 (by omega) (by omega) (by omega) (by simp[ay,dY,hbb,hso.1,hso.2,gy,ni,fU,hu,hsh,dH,hv,lD]) (by omega)]
   | true=>
    have hso:=hsh
    unfold dX at hso
    rw[Bool.or_eq_true,U3,Ye] at hso
    have hku:u.kind=2:=by
     simp only[dX,aH,Bool.or_eq_true,Bool.and_eq_true] at hsh
     rcases hsh with hq | hq<;>exact eq_of_beq hq.2
    have hst:lD (lQ u)=u.text:=by
     rcases hso with hq | hq
     ·have hv:lQ u=1:=by simp[lQ,U3,hq]
      rw[hv,text_eq (eq_of_beq hq)];rfl
     ·have hne:jH u.text kZ=false:=by
       unfold jH at hq ⊢;rw[eq_of_beq hq];decide
      have hv:lQ u=2:=by simp[lQ,U3,Ye,hq,hne]
      rw[hv,text_eq (eq_of_beq hq)];rfl
    have hor:(jH u.text kZ||jH u.text iY)=true:=by rw[Bool.or_eq_true];exact hso
    rw[Dq (it':={ it with fields:=F++[⟨jQ t.text.toList,(aj s t).text,u.text,je,t.at_,(aj s t).at_,0⟩] }) (a':=6) ht2 (by omega) (by omega) (by omega) (by simp only[ay,dY,hor,if_true,gy]) (by omega)]
    cases vS:dI (aj s u) with
    | false=>
     have hf:aJ s t=(false,aj s u):=by simp[aJ,hk3,hno,hu,hsh,vS,dH]
     rw[hf];simp only[Bool.false_eq_true,if_false]
     exact Aq ht2.next (by omega) (fun h0u _=>by
      have:=mg ht2.next h0u
      rw[vS] at this
      simp[ay,dY,← this])
    | true=>
     have hkv:(aj s u).kind=2:=by simp only[dI,Bool.and_eq_true] at vS;exact eq_of_beq vS.2
     have hbb:rM (aj s u).text.toList=true:=by rw[← mg ht2.next (by omega)];exact vS
     have hf:aJ s t=(true,aj s (aj s u)):=by simp[aJ,hk3,hno,hu,hsh,vS,dH]
     rw[hf];simp only[if_true]
     rw[Dq (it':={ it with fields:=F++[ni (fU s t (jQ t.text.toList))] }) (a':=3) ht2.next (by omega) (by omega) (by omega) (by simp[ay,dY,hbb,gy,ni,fU,hu,hsh,dH,hst]) (by omega)]
 ·have hk3:(t.kind==3)=false:=by simp[hk]
  have hf:aJ s t=(false,t):=by simp[aJ,hk3]
  rw[hf];simp only[Bool.false_eq_true,if_false]
  exact Aq h (by omega) (fun h0 _=>by
   have hnb:jv t.text.toList=false:=by rw[← (h.kinds h0).2.1];exact hk3
   have hsh:=(h.kinds h0).2.2.2
   rcases h5 with h5 | h5
   ·simp[ay,dY,hnb,h5]
   ·have:jH t.text qj=false:=by rw[← hsh];simp[h5]
    simp[ay,dY,hnb,this])
theorem Gi {s:ByteArray} (L:List bI) (it:bI):∀ (f:Nat) (t:aF) (Lp:List bD),Tk s t→s.size<t.at_+f→(Lp=[]∨t.kind≠5) →
  G s t (L++[{ it with fields:=Lp.map ni }]) 3=if (dO s f t Lp).1=true then G s (dO s f t Lp).2.1 (L++[{ it with fields:=(dO s f t Lp).2.2.map ni }]) 0 else(none,((dO s f t Lp).2.1.at_:Int))
 | 0,t,Lp,h,hf,_=>by have:=h.fit;omega
 | f+1,t,Lp,h,hf,h5=>by
  rw[U2 h L it (Lp.map ni) (h5.imp (fun e=>by rw[e];rfl) id)]
  unfold dO
  cases hok:(aJ s t).1 with
  | false=>simp
  | true=>
   have hat:=Gf h hok
   have htk:=rV h
   simp only[if_true]
   have hmap:List.map ni Lp++[ni (fU s t (jQ t.text.toList))]=(Lp++[fU s t (jQ t.text.toList)]).map ni:=by simp
   rw[hmap]
   cases hk:((aJ s t).2.kind==5) with
   | true=>
    have hk5:(aJ s t).2.kind=5:=eq_of_beq hk
    have hw:jH (aJ s t).2.text qj=true:=by rw[← (htk.kinds (by omega)).2.2.2];exact hk
    have hn:jv (aJ s t).2.text.toList=false:=by rw[← (htk.kinds (by omega)).2.1];simp[hk5]
    simp only[if_true]
    rw[Dq (it':={ it with fields:=(Lp++[fU s t (jQ t.text.toList)]).map ni }) (a':=0) htk (by omega) (by omega) (by omega) (by simp[ay,dY,hn,hw]) (by omega)]
   | false=>
    simp only[Bool.false_eq_true,if_false]
    exact Gi L it f (aJ s t).2 (Lp++[fU s t (jQ t.text.toList)]) htk (by omega) (Or.inr (by simpa using hk))
theorem KC {s:ByteArray} (L:List bI) (it:bI):∀ (f:Nat) (t:aF) (Lp:List aF),Tk s t→s.size<t.at_+f→(Lp=[]∨t.kind≠5) →
  G s t (L++[{ it with names:=Lp.map aF.text,aQ:=Lp.map aF.at_ }]) 7=if (namesT s f t Lp).1=true then G s (namesT s f t Lp).2.1 (L++[{ it with names:=(namesT s f t Lp).2.2.map aF.text,aQ:=(namesT s f t Lp).2.2.map aF.at_ }]) 0 else(none,((namesT s f t Lp).2.1.at_:Int))
 | 0,t,Lp,h,hf,_=>by have:=h.fit;omega
 | f+1,t,Lp,h,hf,h5=>by
  have hshut:t.kind≠0→(Lp≠[]→jH t.text qj=false):=fun h0 hne=>by
   rcases h5 with h5 | h5
   ·exact absurd h5 hne
   ·rw[← (h.kinds h0).2.2.2];simp[h5]
  unfold namesT
  cases hno:bC t with
  | false=>
   simp only[Bool.false_eq_true,if_false]
   exact Aq h (by omega) (fun h0 _=>by
    have hfr:=l9 h h0
    rw[hno] at hfr
    by_cases hne:Lp=[]
    ·simp[ay,dY,← hfr,hne]
    ·simp[ay,dY,← hfr,hshut h0 hne])
  | true=>
   have hk2:t.kind=2:=by simp only[bC,Bool.and_eq_true] at hno;exact eq_of_beq hno.2
   have h0:t.kind≠0:=by omega
   have hfr:nO t.text.toList=true:=by rw[← l9 h h0];exact hno
   have hp:=h.pos h0
   have hna:=iP s t
   simp only[if_true]
   rw[Dq (it':={ it with names:=(Lp++[t]).map aF.text,aQ:=(Lp++[t]).map aF.at_ }) (a':=7) h (by omega) h0 (by omega) (by
    by_cases hne:Lp=[]
    ·simp[ay,dY,hfr,hne]
    ·simp[ay,dY,hfr,hshut h0 hne]) (by omega)]
   cases hk:((aj s t).kind==5) with
   | true=>
    have hk5:(aj s t).kind=5:=eq_of_beq hk
    have hw:jH (aj s t).text qj=true:=by rw[← (h.next.kinds (by omega)).2.2.2];exact hk
    simp only[if_true]
    rw[Dq (it':={ it with names:=(Lp++[t]).map aF.text,aQ:=(Lp++[t]).map aF.at_ }) (a':=0) h.next (by omega) (by omega) (by omega) (by simp[ay,dY,hw]) (by omega)]
   | false=>
    simp only[Bool.false_eq_true,if_false]
    exact KC L it f (aj s t) (Lp++[t]) h.next (by omega) (Or.inr (by simpa using hk))
def cellText (l:List Value):ByteArray:=match l with | .string b::_=>b | _=>je
def cellAt (l:List Value):Nat:=match l with | [_,.int _ n]=>n.toNat | _=>0
def oz (k:Nat):ByteArray:=if k=0 then⟨aX.toArray⟩ else if k=1 then⟨kR.toArray⟩ else if k=2 then⟨dV.toArray⟩ else⟨iE.toArray⟩
def toR (p:iy):bI :=
 ⟨oz p.kind,p.name.text,p.name.at_,p.fields.map ni,p.names.map aF.text,p.names.map aF.at_,
  if p.kind=2 then [cellText p.base] else if p.kind=3 then [cellText p.base,cellText p.answer] else [],
  if p.kind=2 then [cellAt p.base] else if p.kind=3 then [cellAt p.base,cellAt p.answer] else []⟩
theorem Dt (t:aF):cellAt (aA t)=t.at_:=by simp[cellAt,aA]
theorem BL {s:ByteArray} {t:aF} {L:List bI} {l:List UInt8} (h:Tk s t) (hw:aH t l=true) (hl:Dh l=true):G s t L 0=G s (aj s t) (L++[fG ⟨l.toArray⟩]) 1:=by
 simp only[aH,Bool.and_eq_true] at hw
 have hk:t.kind=2:=eq_of_beq hw.2
 have e:=eq_of_beq hw.1
 refine G_step h (by omega) ?_
 have hb:(dY t).bad=false:=by simp[dY,hk]
 simp only[nP,hb,Bool.false_eq_true,if_false,if_true]
 rw[show (dY t).text=⟨l.toArray⟩ from text_eq e]
 have:(ByteArray.mk l.toArray).toList=l:=by rw[ByteArray.toList_eq]
 rw[this,hl];simp
theorem IC {s:ByteArray} {t:aF} {L:List bI} {k:ByteArray} (h:Tk s t):G s t (L++[fG k]) 1=if bC t=true then G s (aj s t) (L++[{ fG k with name:=t.text,nameAt:=t.at_ }]) (if dQ k.toList then 2 else 8) else(none,(t.at_:Int)):=by
 cases hno:bC t with
 | false=>
  simp only[Bool.false_eq_true,if_false]
  exact Aq h (by omega) (fun h0 _=>by
   have hfr:=l9 h h0
   rw[hno] at hfr
   simp[ay,dY,← hfr])
 | true=>
  have hk2:t.kind=2:=by simp only[bC,Bool.and_eq_true] at hno;exact eq_of_beq hno.2
  have hfr:nO t.text.toList=true:=by rw[← l9 h (by omega)];exact hno
  simp only[if_true]
  exact Dq h (by omega) (by omega) (by omega) (by simp only[ay,dY,hfr,if_true,fG];rfl) (by split<;>omega)
theorem Oo {s:ByteArray} {t:aF} {L:List bI} {it:bI} (h:Tk s t):G s t (L++[it]) 8=if dI t=true then G s (aj s t) (L++[{ it with bases:=it.bases++[t.text],aV:=it.aV++[t.at_] }]) (if jH it.kind iE&&it.bases.isEmpty then 8 else 0) else(none,(t.at_:Int)):=by
 cases vS:dI t with
 | false=>
  simp only[Bool.false_eq_true,if_false]
  exact Aq h (by omega) (fun h0 _=>by
   have hbb:=mg h h0
   rw[vS] at hbb
   simp[ay,dY,← hbb])
 | true=>
  have hk2:t.kind=2:=by simp only[dI,Bool.and_eq_true] at vS;exact eq_of_beq vS.2
  have hbb:rM t.text.toList=true:=by rw[← mg h (by omega)];exact vS
  simp only[if_true]
  exact Dq h (by omega) (by omega) (by omega) (by simp[ay,dY,hbb]) (by split<;>omega)
theorem U4 {s:ByteArray} {t:aF} {L:List bI} {it:bI} (h:Tk s t):G s t (L++[it]) 2=if (t.kind==4)=true then G s (aj s t) (L++[it]) (if jH it.kind aX then 3 else 7) else(none,(t.at_:Int)):=by
 cases hk:(t.kind==4) with
 | false=>
  simp only[Bool.false_eq_true,if_false]
  exact Aq h (by omega) (fun h0 _=>by
   have:=(h.kinds h0).2.2.1
   rw[hk] at this
   simp[ay,dY,← this])
 | true=>
  have hk4:t.kind=4:=eq_of_beq hk
  have hw:jH t.text Ah=true:=by rw[← (h.kinds (by omega)).2.2.1];exact hk
  simp only[if_true]
  exact Dq h (by omega) (by omega) (by omega) (by simp[ay,dY,hw]) (by split<;>omega)
theorem Yf {s:ByteArray} {t:aF} (h:Tk s t) (h0:t.kind≠0) (L:List bI) :
  G s t L 0=if (bZ s t).1=true then G s (bZ s t).2.1 (L++[toR (bZ s t).2.2]) 0 else(none,((bZ s t).2.1.at_:Int)):=by
 have n1:=h.next
 have n2:=h.next.next
 have n3:=h.next.next.next
 unfold bZ
 cases e0:aH t aX with
 | true=>
  simp only[if_true]
  rw[BL h e0 (by decide),IC n1]
  cases hno:bC (aj s t) with
  | false=>simp
  | true=>
   simp only[if_true]
   rw[show dQ (ByteArray.mk aX.toArray).toList=true by rw[ByteArray.toList_eq];decide]
   simp only[if_true]
   rw[U4 n2]
   unfold jf
   cases hk:((aj s (aj s t)).kind==4) with
   | false=>simp
   | true=>
    simp only[if_true]
    rw[show jH (fG ⟨aX.toArray⟩).kind aX=true by unfold jH fG;rw[ByteArray.toList_eq];decide]
    simp only[if_true]
    have:=Gi L { fG ⟨aX.toArray⟩ with name:=(aj s t).text,nameAt:=(aj s t).at_ } (s.size+1) (aj s (aj s (aj s t))) [] n3 (by omega) (Or.inl rfl)
    simp only[List.map_nil] at this
    exact this
 | false=>
  simp only[Bool.false_eq_true,if_false]
  cases e1:aH t kR with
  | true=>
   simp only[if_true]
   rw[BL h e1 (by decide),IC n1]
   cases hno:bC (aj s t) with
   | false=>simp
   | true=>
    simp only[if_true]
    rw[show dQ (ByteArray.mk kR.toArray).toList=true by rw[ByteArray.toList_eq];decide]
    simp only[if_true]
    rw[U4 n2]
    unfold jg
    cases hk:((aj s (aj s t)).kind==4) with
    | false=>simp
    | true=>
     simp only[if_true]
     rw[show jH (fG ⟨kR.toArray⟩).kind aX=false by unfold jH fG;rw[ByteArray.toList_eq];decide]
     simp only[Bool.false_eq_true,if_false]
     have:=KC L { fG ⟨kR.toArray⟩ with name:=(aj s t).text,nameAt:=(aj s t).at_ } (s.size+1) (aj s (aj s (aj s t))) [] n3 (by omega) (Or.inl rfl)
     simp only[List.map_nil] at this
     exact this
  | false=>
   simp only[Bool.false_eq_true,if_false]
   cases e2:aH t dV with
   | true=>
    simp only[if_true]
    rw[BL h e2 (by decide),IC n1]
    cases hno:bC (aj s t) with
    | false=>simp
    | true=>
     simp only[if_true]
     rw[show dQ (ByteArray.mk dV.toArray).toList=false by rw[ByteArray.toList_eq];decide]
     simp only[Bool.false_eq_true,if_false]
     rw[Oo n2]
     rw[show jH (fG ⟨dV.toArray⟩).kind iE=false by unfold jH fG;rw[ByteArray.toList_eq];decide]
     cases vS:dI (aj s (aj s t)) with
     | false=>simp[dH]
     | true=>
      simp only[if_true,Bool.false_and,Bool.false_eq_true,if_false,dH]
      rfl
   | false=>
    simp only[Bool.false_eq_true,if_false]
    cases e3:aH t iE with
    | true=>
     simp only[if_true]
     rw[BL h e3 (by decide),IC n1]
     cases hno:bC (aj s t) with
     | false=>simp
     | true=>
      simp only[if_true]
      rw[show dQ (ByteArray.mk iE.toArray).toList=false by rw[ByteArray.toList_eq];decide]
      simp only[Bool.false_eq_true,if_false]
      rw[Oo n2]
      rw[show jH (fG ⟨iE.toArray⟩).kind iE=true by unfold jH fG;rw[ByteArray.toList_eq];decide]
      cases vS:dI (aj s (aj s t)) with
      | false=>simp
      | true=>
       simp only[if_true,Bool.true_and]
       rw[show ((fG ⟨iE.toArray⟩).bases.isEmpty)=true from rfl]
       simp only[if_true]
       rw[Oo n3]
       cases hb2:dI (aj s (aj s (aj s t))) with
       | false=>simp[dH]
       | true=>
        simp only[if_true,dH,fG,List.nil_append,List.cons_append,List.isEmpty_cons,Bool.and_false,Bool.false_eq_true,if_false]
        rfl
    | false=>
     simp only[Bool.false_eq_true,if_false]
     rw[xk h (by decide) (by decide)] at e0 e1 e2 e3
     have hkw:Dh t.text.toList=false:=by
      unfold Dh;unfold jH at e0 e1 e2 e3;rw[e0,e1,e2,e3];rfl
     have hst:nP L 0 (dY t)=none:=by
      unfold nP
      split
      ·rfl
      ·simp[dY,hkw]
     unfold G tl
     rw[if_neg h0]
     show pW s.size (dY t::_) L 0=_
     simp only[pW,hst];rfl
theorem KD {s:ByteArray}:∀ (f:Nat) (t:aF) (Lp:List iy),Tk s t→s.size<t.at_+f →
  G s t (Lp.map toR) 0=match (kT s f t Lp).1 with | some M=>(some (M.map toR),-1) | none=>(none,((kT s f t Lp).2.at_:Int))
 | 0,t,Lp,h,hf=>by have:=h.fit;omega
 | f+1,t,Lp,h,hf=>by
  unfold kT
  by_cases h0:t.kind=0
  ·have hk:(t.kind==0)=true:=by simp[h0]
   simp only[hk,if_true]
   unfold G tl
   rw[if_pos h0]
   simp[pW]
  ·have hk:(t.kind==0)=false:=by simp[h0]
   simp only[hk,Bool.false_eq_true,if_false]
   rw[Yf h h0]
   cases hok:(bZ s t).1 with
   | false=>simp
   | true=>
    have ht:=yG h
    have hat:=ht.2 hok
    simp only[if_true]
    rw[show List.map toR Lp++[toR (bZ s t).2.2]=(Lp++[(bZ s t).2.2]).map toR by simp]
    exact KD f (bZ s t).2.1 (Lp++[(bZ s t).2.2]) ht.1 (by omega)
theorem yI (s:ByteArray):pW s.size (fE s) [] 0=match (dD s).1 with | some M=>(some (M.map toR),-1) | none=>(none,((dD s).2.at_:Int)):=by
 have h:=KD (s:=s) (s.size+1) (gI s 0) [] ⟨0,by omega,rfl⟩ (by omega)
 unfold G at h
 rw[Qc s 0 (by omega)] at h
 exact h
structure RU (s:ByteArray) (lo hi:Nat) (f:bD):Prop where
 n:lo≤f.numberAt∧f.numberAt<hi
 m:lo≤f.nameAt∧f.nameAt<hi
 b:lo≤f.bV∧f.bV<hi
 ms:f.name.size≤s.size
 bs:f.base.size≤s.size
 sh:f.shape≤2
theorem Gj (t:aF):lQ t≤2:=by unfold lQ;split<;>(try split)<;>omega
theorem RU.mono {s:ByteArray} {lo hi lo' hi':Nat} {f:bD} (h:RU s lo hi f) (h1:lo'≤lo) (h2:hi≤hi'):RU s lo' hi' f :=
 ⟨⟨by have:=h.n;omega,by have:=h.n;omega⟩,⟨by have:=h.m;omega,by have:=h.m;omega⟩,⟨by have:=h.b;omega,by have:=h.b;omega⟩,h.ms,h.bs,h.sh⟩
theorem Tk.sizeLe {s:ByteArray} {t:aF} (h:Tk s t):t.text.size≤s.size:=by have:=h.fit;omega
theorem jC {t:aF} (h:bC t=true):t.kind=2:=by
 simp only[bC,Bool.and_eq_true] at h;exact eq_of_beq h.2
theorem qN {t:aF} (h:dI t=true):t.kind=2:=by
 simp only[dI,Bool.and_eq_true] at h;exact eq_of_beq h.2
theorem Tk.step {s:ByteArray} {t:aF} (h:Tk s t) (h0:t.kind≠0):t.at_<(aj s t).at_:=by
 have:=h.pos h0;have:=iP s t;omega
theorem RV {s:ByteArray} {t:aF} (h:Tk s t) (hok:(aJ s t).1=true) (n:Int):RU s t.at_ (aJ s t).2.at_ (fU s t n)∧t.at_<(aJ s t).2.at_:=by
 unfold aJ at hok ⊢
 by_cases hk:(t.kind==3)=true
 ·rw[if_pos hk] at hok ⊢
  have hk3:t.kind=3:=eq_of_beq hk
  by_cases hn:bC (aj s t)=true
  ·rw[if_pos hn] at hok ⊢
   have s1:=h.step (by omega)
   have s2:=h.next.step (by rw[jC hn];omega)
   by_cases hb:dI (dH (dX (aj s (aj s t))) s (aj s (aj s t)))=true
   ·rw[if_pos hb]
    have hu:=h.next.next.after (dX (aj s (aj s t)))
    have s3:=after_at s (aj s (aj s t)) (dX (aj s (aj s t)))
    have s4:=hu.step (by rw[qN hb];omega)
    refine⟨⟨?_,?_,?_,h.next.sizeLe,hu.sizeLe,Gj _⟩,?_⟩<;>simp only[fU]<;>omega
   ·rw[if_neg hb] at hok;cases hok
  ·rw[if_neg hn] at hok;cases hok
 ·rw[if_neg hk] at hok;cases hok
theorem Du {s:ByteArray}:∀ (f:Nat) (t:aF) (L:List bD),Tk s t→(dO s f t L).1=true →
  (∀ x∈(dO s f t L).2.2,x∈L∨RU s t.at_ (dO s f t L).2.1.at_ x)∧(dO s f t L).2.2.length+t.at_≤L.length+(dO s f t L).2.1.at_∧Tk s (dO s f t L).2.1
 | 0,t,L,h,hok=>by simp[dO] at hok
 | f+1,t,L,h,hok=>by
  unfold dO at hok ⊢
  by_cases h1:(aJ s t).1=true
  ·rw[if_pos h1] at hok ⊢
   have hi:=RV h h1 (jQ t.text.toList)
   have ht:=rV h
   by_cases h5:((aJ s t).2.kind==5)=true
   ·rw[if_pos h5]
    have h5':(aJ s t).2.kind=5:=eq_of_beq h5
    have s1:=ht.step (by omega)
    refine⟨fun x hx=>?_,?_,ht.next⟩
    ·rcases List.mem_append.1 hx with hx | hx
     ·exact Or.inl hx
     ·rw[List.mem_singleton.1 hx];exact Or.inr (hi.1.mono (Nat.le_refl _) (by show _≤(aj s (aJ s t).2).at_;omega))
    ·show (L++[fU s t (jQ t.text.toList)]).length+t.at_≤L.length+(aj s (aJ s t).2).at_
     rw[List.length_append,List.length_singleton];have:=hi.2;omega
   ·rw[if_neg h5] at hok ⊢
    have ih:=Du f (aJ s t).2 _ ht hok
    have hge:=(sV f (aJ s t).2 (L++[fU s t (jQ t.text.toList)]) ht).2
    refine⟨fun x hx=>?_,?_,ih.2.2⟩
    ·rcases ih.1 x hx with hx | hx
     ·rcases List.mem_append.1 hx with hx | hx
      ·exact Or.inl hx
      ·rw[List.mem_singleton.1 hx];exact Or.inr (hi.1.mono (Nat.le_refl _) hge)
     ·exact Or.inr (hx.mono (by have:=hi.2;omega) (Nat.le_refl _))
    ·have:=ih.2.1;rw[List.length_append,List.length_singleton] at this;have:=hi.2;omega
  ·rw[if_neg h1] at hok;cases hok
structure Zp (s:ByteArray) (lo hi:Nat) (t:aF):Prop where
 a:lo≤t.at_∧t.at_<hi
 s:t.text.size≤s.size
theorem Zp.mono {s:ByteArray} {lo hi lo' hi':Nat} {f:aF} (h:Zp s lo hi f) (h1:lo'≤lo) (h2:hi≤hi'):Zp s lo' hi' f :=
 ⟨⟨by have:=h.a;omega,by have:=h.a;omega⟩,h.s⟩
theorem Gl {s:ByteArray}:∀ (f:Nat) (t:aF) (L:List aF),Tk s t→(namesT s f t L).1=true →
  (∀ x∈(namesT s f t L).2.2,x∈L∨Zp s t.at_ (namesT s f t L).2.1.at_ x)∧(namesT s f t L).2.2.length+t.at_≤L.length+(namesT s f t L).2.1.at_∧Tk s (namesT s f t L).2.1
 | 0,t,L,h,hok=>by simp[namesT] at hok
 | f+1,t,L,h,hok=>by
  unfold namesT at hok ⊢
  by_cases h1:bC t=true
  ·rw[if_pos h1] at hok ⊢
   have s0:=h.step (by rw[jC h1];omega)
   have ht:=h.next
   by_cases h5:((aj s t).kind==5)=true
   ·rw[if_pos h5]
    have h5':(aj s t).kind=5:=eq_of_beq h5
    have s1:=ht.step (by omega)
    refine⟨fun x hx=>?_,?_,ht.next⟩
    ·rcases List.mem_append.1 hx with hx | hx
     ·exact Or.inl hx
     ·rw[List.mem_singleton.1 hx];exact Or.inr ⟨⟨Nat.le_refl _,by show _<(aj s (aj s t)).at_;omega⟩,h.sizeLe⟩
    ·show (L++[t]).length+t.at_≤L.length+(aj s (aj s t)).at_
     rw[List.length_append,List.length_singleton];omega
   ·rw[if_neg h5] at hok ⊢
    have ih:=Gl f (aj s t) _ ht hok
    have hge:=(vU f (aj s t) (L++[t]) ht).2
    refine⟨fun x hx=>?_,?_,ih.2.2⟩
    ·rcases ih.1 x hx with hx | hx
     ·rcases List.mem_append.1 hx with hx | hx
      ·exact Or.inl hx
      ·rw[List.mem_singleton.1 hx];exact Or.inr ⟨⟨Nat.le_refl _,by omega⟩,h.sizeLe⟩
     ·exact Or.inr (hx.mono (by omega) (Nat.le_refl _))
    ·have:=ih.2.1;rw[List.length_append,List.length_singleton] at this;omega
  ·rw[if_neg h1] at hok;cases hok
structure Ug (s:ByteArray) (lo hi:Nat) (p:iy):Prop where
 nm:Zp s lo hi p.name
 f:∀ f∈p.fields,RU s lo hi f
 n:∀ t∈p.names,Zp s lo hi t
 b:2≤p.kind→∃ t,p.base=aA t∧Zp s lo hi t
 a:p.kind=3→∃ t,p.answer=aA t∧Zp s lo hi t
 fl:p.fields.length+lo≤hi
 nl:p.names.length+lo≤hi
 k:p.kind≤3
 fn:2≤p.kind→p.fields=[]
theorem Ug.mono {s:ByteArray} {lo hi lo' hi':Nat} {p:iy} (h:Ug s lo hi p) (h1:lo'≤lo) (h2:hi≤hi'):Ug s lo' hi' p :=
 ⟨h.nm.mono h1 h2,fun f hf=>(h.f f hf).mono h1 h2,fun t ht=>(h.n t ht).mono h1 h2,fun hk=>by obtain⟨t,e,ht⟩:=h.b hk;exact⟨t,e,ht.mono h1 h2⟩,fun hk=>by obtain⟨t,e,ht⟩:=h.a hk;exact⟨t,e,ht.mono h1 h2⟩,by have:=h.fl;omega,by have:=h.nl;omega,h.k,h.fn⟩
theorem pG {t:aF} {l:List UInt8} (h:aH t l=true):t.kind=2:=by
 simp only[aH,Bool.and_eq_true] at h;exact eq_of_beq h.2
theorem U5 {s:ByteArray} {t:aF} (h:Tk s t) (hok:(bZ s t).1=true):Ug s t.at_ (bZ s t).2.1.at_ (bZ s t).2.2:=by
 have n1:=h.next
 have n2:=h.next.next
 have n3:=h.next.next.next
 unfold bZ at hok ⊢
 by_cases e0:aH t aX=true
 ·rw[if_pos e0] at hok ⊢
  have s1:=h.step (by rw[pG e0];omega)
  by_cases hn:bC (aj s t)=true
  ·rw[if_pos hn] at hok ⊢
   have s2:=n1.step (by rw[jC hn];omega)
   unfold jf at hok ⊢
   by_cases h4:((aj s (aj s t)).kind==4)=true
   ·rw[if_pos h4] at hok ⊢
    have hk4:(aj s (aj s t)).kind=4:=eq_of_beq h4
    have s3:=n2.step (by omega)
    obtain⟨i1,i2,_⟩:=Du _ _ _ n3 hok
    have hge:=(sV (s.size+1) _ [] n3).2
    refine⟨⟨⟨by dsimp only;omega,by dsimp only;omega⟩,n1.sizeLe⟩,fun f hf=>?_,fun t ht=>by simp at ht,fun hk=>by simp at hk,fun hk=>by simp at hk,?_,by simp;omega,by simp,fun hk=>by simp at hk⟩
    ·rcases i1 f hf with hf | hf
     ·simp at hf
     ·exact hf.mono (by omega) (Nat.le_refl _)
    ·simp only[List.length_nil] at i2;dsimp only;omega
   ·rw[if_neg h4] at hok;cases hok
  ·rw[if_neg hn] at hok;cases hok
 ·rw[if_neg e0] at hok ⊢
  by_cases e1:aH t kR=true
  ·rw[if_pos e1] at hok ⊢
   have s1:=h.step (by rw[pG e1];omega)
   by_cases hn:bC (aj s t)=true
   ·rw[if_pos hn] at hok ⊢
    have s2:=n1.step (by rw[jC hn];omega)
    unfold jg at hok ⊢
    by_cases h4:((aj s (aj s t)).kind==4)=true
    ·rw[if_pos h4] at hok ⊢
     have hk4:(aj s (aj s t)).kind=4:=eq_of_beq h4
     have s3:=n2.step (by omega)
     obtain⟨i1,i2,_⟩:=Gl _ _ _ n3 hok
     have hge:=(vU (s.size+1) _ [] n3).2
     refine⟨⟨⟨by dsimp only;omega,by dsimp only;omega⟩,n1.sizeLe⟩,fun f hf=>by simp at hf,fun f hf=>?_,fun hk=>by simp at hk,fun hk=>by simp at hk,by simp;omega,?_,by simp,fun hk=>by simp at hk⟩
     ·rcases i1 f hf with hf | hf
      ·simp at hf
      ·exact hf.mono (by omega) (Nat.le_refl _)
     ·simp only[List.length_nil] at i2;dsimp only;omega
    ·rw[if_neg h4] at hok;cases hok
   ·rw[if_neg hn] at hok;cases hok
  ·rw[if_neg e1] at hok ⊢
   by_cases e2:aH t dV=true
   ·rw[if_pos e2] at hok ⊢
    have s1:=h.step (by rw[pG e2];omega)
    by_cases hn:bC (aj s t)=true
    ·rw[if_pos hn] at hok ⊢
     have s2:=n1.step (by rw[jC hn];omega)
     simp only at hok ⊢
     rw[hok]
     have s3:=n2.step (by rw[qN hok];omega)
     simp only[dH]
     exact⟨⟨⟨by dsimp only;omega,by dsimp only;omega⟩,n1.sizeLe⟩,fun f hf=>by simp at hf,fun f hf=>by simp at hf,fun _=>⟨_,rfl,⟨by omega,by omega⟩,n2.sizeLe⟩,fun hk=>by simp at hk,by simp;omega,by simp;omega,by simp,fun _=>rfl⟩
    ·rw[if_neg hn] at hok;cases hok
   ·rw[if_neg e2] at hok ⊢
    by_cases e3:aH t iE=true
    ·rw[if_pos e3] at hok ⊢
     have s1:=h.step (by rw[pG e3];omega)
     by_cases hn:bC (aj s t)=true
     ·rw[if_pos hn] at hok ⊢
      have s2:=n1.step (by rw[jC hn];omega)
      by_cases hb:dI (aj s (aj s t))=true
      ·rw[if_pos hb] at hok ⊢
       have s3:=n2.step (by rw[qN hb];omega)
       simp only at hok ⊢
       rw[hok]
       have s4:=n3.step (by rw[qN hok];omega)
       simp only[dH]
       exact⟨⟨⟨by dsimp only;omega,by dsimp only;omega⟩,n1.sizeLe⟩,fun f hf=>by simp at hf,fun f hf=>by simp at hf,fun _=>⟨_,rfl,⟨by omega,by omega⟩,n2.sizeLe⟩,fun _=>⟨_,rfl,⟨by omega,by omega⟩,n3.sizeLe⟩,by simp;omega,by simp;omega,by simp,fun _=>rfl⟩
      ·rw[if_neg hb] at hok;cases hok
     ·rw[if_neg hn] at hok;cases hok
    ·rw[if_neg e3] at hok;cases hok
def Ahead (s:ByteArray) (p q:iy):Prop:=∃ c,(∃ lo,Ug s lo c p)∧(∃ hi,Ug s c hi q)
theorem Gm {s:ByteArray}:∀ (f:Nat) (t:aF) (L M:List iy),Tk s t→(kT s f t L).1=some M→(∀ p∈L,∃ lo,Ug s lo t.at_ p)→L.Pairwise (Ahead s)→L.length≤t.at_→(∀ p∈L,yH p.base∧yH p.answer) →
  (∀ p∈M,∃ lo,Ug s lo s.size p)∧M.Pairwise (Ahead s)∧M.length≤s.size∧(∀ p∈M,yH p.base∧yH p.answer)
 | 0,t,L,M,h,hM,_,_,_,_=>by simp[kT] at hM
 | f+1,t,L,M,h,hM,hin,hpw,hlen,hnm=>by
  have hfit:=h.fit
  unfold kT at hM
  by_cases h0:(t.kind==0)=true
  ·rw[if_pos h0] at hM
   simp only[Option.some.injEq] at hM
   subst hM
   refine⟨fun p hp=>?_,hpw,by omega,hnm⟩
   obtain⟨lo,hi⟩:=hin p hp
   exact⟨lo,hi.mono (Nat.le_refl _) (by omega)⟩
  ·rw[if_neg h0] at hM
   by_cases h1:(bZ s t).1=true
   ·rw[if_pos h1] at hM
    have ht:=yG h
    have hat:=ht.2 h1
    have hit:=U5 h h1
    refine Gm f (bZ s t).2.1 _ M ht.1 hM (fun p hp=>?_) ?_ ?_ ?_
    ·rcases List.mem_append.1 hp with hp | hp
     ·obtain⟨lo,hi⟩:=hin p hp
      exact⟨lo,hi.mono (Nat.le_refl _) (by omega)⟩
     ·rw[List.mem_singleton.1 hp];exact⟨_,hit⟩
    ·rw[List.pairwise_append]
     refine⟨hpw,by simp,fun p hp q hq=>?_⟩
     rw[List.mem_singleton.1 hq]
     exact⟨t.at_,hin p hp,_,hit⟩
    ·rw[List.length_append,List.length_singleton];omega
    ·intro p hp
     rcases List.mem_append.1 hp with hp | hp
     ·exact hnm p hp
     ·rw[List.mem_singleton.1 hp];exact Kv s t
   ·rw[if_neg h1] at hM;cases hM
theorem vV {s:ByteArray} {M:List iy} (h:(dD s).1=some M):(∀ p∈M,∃ lo,Ug s lo s.size p)∧M.Pairwise (Ahead s)∧M.length≤s.size∧(∀ p∈M,yH p.base∧yH p.answer) :=
 Gm (s.size+1) (gI s 0) [] M ⟨0,by omega,rfl⟩ h (by simp) (by simp) (by simp) (by simp)
end Go.Proofs.YtgalebcpagmohaaGreatDoor
