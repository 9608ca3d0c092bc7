/- Values read from bytes: the document's own way, over lists of bytes (no walk). -/
import Derived.Test.YtkpfplbmmglkkaaGreatDoorV12
import Derived.Lib.ConvBytes
import Derived.Laws.Bits64b
import Derived.Lib.Builder
import Derived.Laws.Externs
set_option linter.all false
set_option maxHeartbeats 8000000
set_option maxRecDepth 100000
namespace Go.Proofs.YtkpfplbmmglkkaaGreatDoor
open Go.Proofs.Tryz
variable {t r L:List UInt8}{n i acc db lo m:Nat}{p:Option Addr}{w w':World}{lv v:Value}
def dB:List UInt8→Option (Nat × List UInt8)
 | []=>none
 | b::r=>if b.toNat<128 then some (b.toNat,r) else match dB r with
  | none=>none
  | some x=>if x.1=0 then none else if (b.toNat-128)+128*x.1<18446744073709551616 then some ((b.toNat-128)+128*x.1,x.2) else none
theorem sW:∀ {t:List UInt8} {n:Nat} {r:List UInt8},dB t=some (n,r)→t=eV n++r∧n<18446744073709551616
 | [],n,r,h=>by simp[dB] at h
 | b::t,n,r,h=>by
  unfold dB at h
  by_cases hb:b.toNat<128
  ·rw[if_pos hb] at h
   simp only[Option.some.injEq,Prod.mk.injEq] at h;obtain⟨rfl,rfl⟩:=h;rw[mQ hb];exact⟨by simp,by omega⟩
  ·rw[if_neg hb] at h
   cases e:dB t with
   | none=>rw[e] at h;cases h
   | some x=>
    rw[e] at h;simp only at h;obtain⟨m,r'⟩:=x;obtain⟨h1,h2⟩:=sW e;simp only at h
    by_cases h0:m=0
    ·rw[if_pos h0] at h;cases h
    ·rw[if_neg h0] at h
     by_cases hl:(b.toNat-128)+128*m<18446744073709551616
     ·rw[if_pos hl] at h
      simp only[Option.some.injEq,Prod.mk.injEq] at h;obtain⟨rfl,rfl⟩:=h;have aW:=b.toNat_lt;refine⟨?_,hl⟩;rw[qY (by omega),show ((b.toNat-128+128*m) % 128+128)=b.toNat by omega,show (b.toNat-128+128*m) / 128=m by omega,h1];simp
     ·rw[if_neg hl] at h;cases h
theorem KW(n:Nat):n<18446744073709551616→∀ r,dB (eV n++r)=some (n,r):=by
 induction n using Nat.strongRecOn with
 | _ n ih=>
  intro hn r
  by_cases h:n<128
  ·rw[mQ h]
   have:n.toUInt8.toNat=n:=by simp[Nat.toUInt8,UInt8.toNat_ofNat'];omega
   simp[dB,this,h]
  ·rw[qY h]
   have hb:((n % 128+128).toUInt8).toNat=n % 128+128:=by simp[Nat.toUInt8,UInt8.toNat_ofNat'];omega
   have:=ih (n / 128) (by omega) (by omega) r;rw[List.cons_append];unfold dB;rw[hb,if_neg (by omega),this];simp only;rw[if_neg (by omega),if_pos (by omega)]
   congr 2;omega
theorem kK(h:dB t=some (n,r)):r.length<t.length:=by
 rw[(sW h).1,List.length_append]
 have:1≤(eV n).length:=by
  by_cases h:n<128
  ·rw[mQ h];simp
  ·rw[qY h];simp
 omega
def ix(t:List UInt8):Option (List UInt8 × List UInt8):=(dB t).bind fun x=>if x.1≤x.2.length then some (x.2.take x.1,x.2.drop x.1) else none
theorem ri{v:List UInt8}(h:ix t=some (v,r)):v.length+r.length<t.length:=by
 unfold ix at h;obtain⟨x,h1,h2⟩:=Option.bind_eq_some_iff.1 h;have:=kK (n:=x.1) (r:=x.2) h1
 split at h2
 ·simp only[Option.some.injEq,Prod.mk.injEq] at h2
  obtain⟨rfl,rfl⟩:=h2;simp only[List.length_take,List.length_drop];omega
 ·cases h2
def fC(t:List UInt8):Option Nat:=(dB t).bind fun x=>if x.2=[] then some x.1 else none
def qE(m:Nat):Int:=if m % 2=1 then -((m / 2:Nat):Int)-1 else((m / 2:Nat):Int)
def Po(n:Nat):UInt8:=if n<10 then(48+n).toUInt8 else(87+n).toUInt8
def vT(c:UInt8):List UInt8:=if gG c then [c] else [92,Po (c.toNat / 16),Po (c.toNat % 16)]
def AF(b:List UInt8):List UInt8:=34::(b.flatMap vT++[34])
def jI:Nat→Nat→List UInt8→Option (List (Nat × List UInt8))
 | f,bu,d=>if d=[] then some [] else match f with
  | 0=>none
  | f+1=>(dB d).bind fun x=>(ix x.2).bind fun y=>if bu<x.1∧x.1≤99 then(jI f x.1 y.2).map fun o=>(x.1,y.1)::o else none
def iE(d:List UInt8):Option (List (Nat × List UInt8)):=jI d.length 0 d
abbrev uH:=Option (List UInt8)
def He(first:Bool):List UInt8:=if first then [] else [44]
def xA(val:List UInt8→uH):Nat→Bool→List UInt8→uH
 | k,first,d=>if d=[] then some [93] else match k with
  | 0=>none
  | k+1=>(ix d).bind fun x=>(val x.1).bind fun s=>(xA val k false x.2).map fun o=>He first++s++o
def oQ(val pP:List UInt8→List UInt8→uH)(ps:List (Nat × List UInt8)):List FD→Bool→uH
 | [],_=>some [125]
 | f::fs,first=>match ps.find? (fun p=>p.1==f.number) with
  | none=>if f.shape=1 then oQ val pP ps fs first else none
  | some p=>(if f.shape=2 then pP f.base p.2 else val f.base p.2).bind fun s=>(oQ val pP ps fs false).map fun o=>He first++f.name++[58]++s++o
def Wu(val pP:List UInt8→List UInt8→uH)(fs:List FD)(d:List UInt8):uH:=(iE d).bind fun ps=>(oQ val pP ps fs true).map fun o=>123::o
def vV(names:List (List UInt8))(d:List UInt8):uH:=(fC d).bind fun i=>names[i]?
def rO(ty:List UInt8→Option TD)(C8:List FD→List UInt8→uH)(base d:List UInt8):uH :=
 if base=Cf then(fC d).map fun m=>Lib.itoa (qE m) else if base=xw then vV nU d else if base=C9 then some (AF d)
 else match ty base with
  | none=>none
  | some (.inl ns)=>vV ns d
  | some (.inr fs)=>C8 fs d
def SE(ty:List UInt8→Option TD):Nat→(List UInt8→List UInt8→uH) × (List UInt8→List UInt8→uH)
 | 0=>(rO ty (fun _ _=>none),fun _ _=>none)
 | n+1=>(rO ty (Wu (SE ty n).1 (SE ty n).2),fun b d=>(xA ((SE ty n).1 b) 16 true d).map fun o=>91::o)
open Go.RowKit
def qF(t:List UInt8)(i acc:Nat):Prop:=acc<128 ^ i∧dB t=((dB (t.drop i)).bind fun x=>if 0<i∧x.1=0 then none else if acc+128 ^ i*x.1<18446744073709551616 then some (acc+128 ^ i*x.1,x.2) else none)
theorem qF.Hg(t:List UInt8):qF t 0 0:=by
 refine⟨by decide,?_⟩;rw[List.drop_zero]
 cases e:dB t with
 | none=>rfl
 | some x=>
  have:=(sW (n:=x.1) (r:=x.2) e).2;simp[this]
theorem oR(b:UInt8)(r:List UInt8):dB (b::r)=if b.toNat<128 then some (b.toNat,r) else match dB r with
  | none=>none
  | some x=>if x.1=0 then none else if (b.toNat-128)+128*x.1<18446744073709551616 then some ((b.toNat-128)+128*x.1,x.2) else none:=by rw[dB]<;>rfl
theorem SF(i:Nat):(128:Nat) ^ (i+1)=128 ^ i*128:=Nat.pow_succ _ _
theorem sX(i:Nat):0<(128:Nat) ^ i:=Nat.pow_pos (by decide)
theorem qF.go(h:qF t i acc)(hi:i<t.length)(hb:128≤t[i].toNat)(hp:(t[i].toNat-128)*128 ^ i<18446744073709551616):qF t (i+1) (acc+(t[i].toNat-128)*128 ^ i):=by
 obtain⟨h1,h2⟩:=h;have bC:=t[i].toNat_lt;have ux:=sX i;refine⟨?_,?_⟩
 ·rw[SF]
  have:(t[i].toNat-128)*128 ^ i≤127*128 ^ i:=Nat.mul_le_mul_right _ (by omega);omega
 ·rw[h2,List.drop_eq_getElem_cons hi,oR,if_neg (by omega)]
  cases e:dB (t.drop (i+1)) with
  | none=>rfl
  | some x=>
   obtain⟨m,r⟩:=x
   have hv:acc+128 ^ i*(t[i].toNat-128+128*m)=acc+(t[i].toNat-128)*128 ^ i+128 ^ (i+1)*m:=by
    rw[SF,Nat.mul_add,Nat.mul_comm (128 ^ i) (t[i].toNat-128),Nat.mul_assoc];omega
   dsimp only;rw[Option.bind_some];dsimp only
   by_cases h0:m=0
   ·rw[if_pos h0,if_pos ⟨by omega,h0⟩];rfl
   ·have hR:¬ (0<i+1∧m=0):=by omega
    rw[if_neg h0,if_neg hR]
    by_cases hl:(t[i].toNat-128)+128*m<18446744073709551616
    ·rw[if_pos hl,Option.bind_some]
     dsimp only;rw[if_neg (by omega),hv]
    ·have h3:(t[i].toNat-128+128*m)≤128 ^ i*(t[i].toNat-128+128*m):=Nat.le_mul_of_pos_left _ ux
     rw[if_neg hl,if_neg (by omega)];rfl
theorem qF.afr(h:qF t i acc)(hi:i<t.length)(hp:18446744073709551616≤(t[i].toNat % 128)*128 ^ i):dB t=none:=by
 obtain⟨h1,h2⟩:=h;have bC:=t[i].toNat_lt;rw[h2,List.drop_eq_getElem_cons hi,oR]
 by_cases hb:t[i].toNat<128
 ·rw[if_pos hb]
  simp only[Option.bind_some];rw[Nat.mod_eq_of_lt hb,Nat.mul_comm] at hp
  split
  ·rfl
  ·rw[if_neg (by omega)]
 ·rw[if_neg hb]
  cases e:dB (t.drop (i+1)) with
  | none=>rfl
  | some x=>
   obtain⟨m,r⟩:=x;simp only
   split
   ·rfl
   ·split
    ·simp only[Option.bind_some]
     have h3:(t[i].toNat % 128)*128 ^ i≤128 ^ i*(t[i].toNat-128+128*m):=by rw[Nat.mul_comm];exact Nat.mul_le_mul_left _ (by omega)
     rw[if_neg (by omega),if_neg (by omega)]
    ·rfl
theorem SH{p:Nat}(h1:acc<128 ^ i)(hp:p*128 ^ i<18446744073709551616)(hi9:i≤9):acc+p*128 ^ i<18446744073709551616:=by
 have e9:∀ j,j≤9→∃ q,18446744073709551616=128 ^ j*q:=fun j hj=>by
  match j,hj with
  | 0,_=>exact⟨18446744073709551616,by decide⟩
  | 1,_=>exact⟨144115188075855872,by decide⟩
  | 2,_=>exact⟨1125899906842624,by decide⟩
  | 3,_=>exact⟨8796093022208,by decide⟩
  | 4,_=>exact⟨68719476736,by decide⟩
  | 5,_=>exact⟨536870912,by decide⟩
  | 6,_=>exact⟨4194304,by decide⟩
  | 7,_=>exact⟨32768,by decide⟩
  | 8,_=>exact⟨256,by decide⟩
  | 9,_=>exact⟨2,by decide⟩
 obtain⟨q,hq⟩:=e9 i hi9
 have hxq:p<q:=by
  rw[hq,Nat.mul_comm] at hp;exact Nat.lt_of_mul_lt_mul_left hp
 have:(p+1)*128 ^ i≤q*128 ^ i:=Nat.mul_le_mul_right _ hxq;rw[Nat.add_mul,Nat.one_mul] at this;rw[hq,Nat.mul_comm (128 ^ i) q];omega
theorem qF.bu(h:qF t i acc)(hi:i<t.length)(hb:t[i].toNat<128)(hp:t[i].toNat*128 ^ i<18446744073709551616)(hi9:i≤9):dB t=if decide (0<t[i].toNat)||decide (i=0) then some (acc+t[i].toNat*128 ^ i,t.drop (i+1)) else none:=by
 obtain⟨h1,h2⟩:=h;rw[h2,List.drop_eq_getElem_cons hi,oR,if_pos hb];simp only[Option.bind_some];have hs:acc+128 ^ i*t[i].toNat<18446744073709551616:=by rw[Nat.mul_comm];exact SH h1 hp hi9
 by_cases hz:0<i∧t[i].toNat=0
 ·rw[if_pos hz]
  have:(decide (0<t[i].toNat)||decide (i=0))=false:=by simp;omega
  rw[this];rfl
 ·rw[if_neg hz,if_pos hs]
  have:(decide (0<t[i].toNat)||decide (i=0))=true:=by simp;omega
  rw[this,Nat.mul_comm];rfl
theorem qF.zero(h:qF t i acc)(hi:i<t.length)(hb:t[i].toNat=0)(h0:0<i):dB t=none:=by
 rw[h.2,List.drop_eq_getElem_cons hi,oR,if_pos (by omega)];simp only[Option.bind_some];rw[if_pos ⟨h0,hb⟩]
theorem qF.none(h:qF t i acc)(hi:t.length≤i):dB t=none:=by
 rw[h.2,List.drop_eq_nil_of_le hi];rfl
theorem Pp(x:Nat)(h:x≤255):IntKind.u64.wrap (bits BinOp.andNot IntKind.u8 (x:Int) 128)=((x % 128:Nat):Int):=by
 have all:∀ a:Fin 256,IntKind.u64.wrap (bits BinOp.andNot IntKind.u8 ((a.val:Nat):Int) 128)=((a.val % 128:Nat):Int):=by decide +kernel
 exact all ⟨x,by omega⟩
theorem AG(i:Nat):(2:Nat) ^ (7*i)=128 ^ i:=by rw[Nat.pow_mul]
theorem aaJ(p i:Nat):IntKind.u64.wrap ((p:Int)*2 ^ (7*i))=((p*128 ^ i % 18446744073709551616:Nat):Int):=by
 rw[IntKind.wrap_u64,← AG,Int.natCast_emod,Int.natCast_mul,Int.natCast_pow];rfl
theorem SI(q i:Nat):(q:Int) / 2 ^ (7*i)=((q / 128 ^ i:Nat):Int):=by
 rw[← AG,Int.natCast_ediv,Int.natCast_pow];rfl
theorem SJ(p i:Nat):(p*128 ^ i % 18446744073709551616) / 128 ^ i≠p↔18446744073709551616≤p*128 ^ i:=by
 have ux:=sX i;constructor
 ·intro h
  rcases Nat.lt_or_ge (p*128 ^ i) 18446744073709551616 with hl | hl
  ·rw[Nat.mod_eq_of_lt hl,Nat.mul_div_cancel _ ux] at h
   exact absurd rfl h
  ·exact hl
 ·intro h e
  have h1:p*128 ^ i % 18446744073709551616<18446744073709551616:=Nat.mod_lt _ (by decide);have h2:=Nat.div_mul_le_self (p*128 ^ i % 18446744073709551616) (128 ^ i);rw[e] at h2;omega
theorem aaK{p:Nat}(ha:acc<128 ^ i)(hq:p*128 ^ i<18446744073709551616)(KX:acc<18446744073709551616):bits BinOp.or IntKind.u64 (acc:Int) ((p*128 ^ i:Nat):Int)=((acc+p*128 ^ i:Nat):Int):=by
 rw[bits_or_u64_nat _ _ KX hq]
 congr 1
 rw[← AG] at ha ⊢;rw[Nat.mul_comm p,Nat.or_comm,← Nat.two_pow_add_eq_or_of_lt ha,Nat.add_comm]
theorem SK(x y:Int)(h:64≤y):Op.shift BinOp.shl IntKind.u64 x IntKind.i64 y=pure (vU 0):=by
 have hm:min y.toNat 64=64:=by omega
 have h0:¬ y<0:=by omega
 simp[Op.shift,IntKind.bits,hm,h0,IntKind.wrap_u64]
theorem SL(y:Int)(h:64≤y):Op.shift BinOp.shr IntKind.u64 0 IntKind.i64 y=pure (vU 0):=by
 have hm:min y.toNat 64=64:=by omega
 have h0:¬ y<0:=by omega
 simp[Op.shift,IntKind.bits,hm,h0]
theorem aaL{p:Nat}(hp:p≠0)(hi:10≤i):18446744073709551616≤p*128 ^ i:=by
 have h1:(128:Nat) ^ 10≤128 ^ i:=Nat.pow_le_pow_right (by decide) hi;have h2:(128:Nat) ^ 10=1180591620717411303424:=by decide
 have h3:1*128 ^ i≤p*128 ^ i:=Nat.mul_le_mul_right _ (by omega);omega
def om(w:World)(v:Value)(L:List UInt8):Prop:=Rd w v L∧∃ a c,v=.slice a L.length c∧L.length≤c
def Hh(w:World)(v:Value)(L:List UInt8)(e:Ending)(w':World):Prop:=∃ (n:Nat) (a:Option Addr) (c:Nat) (R:List UInt8) (ok:Bool),e=.returned (.tuple #[.int .u64 n,.slice a R.length c,.bool ok])∧n<18446744073709551616∧om w' (.slice a R.length c) R∧R.length≤L.length∧(∀ k,(Value.slice a R.length c).ownBlock=some k→v.ownBlock=some k)∧Below w.heap.size w w'∧dB L=(match ok with | true=>some (n,R) | false=>none)
theorem mT(w:World)(v:Value)(L:List UInt8)(h:om w v L)(hl:L.length≤1000):
  aT 229 #[v] w (Hh w v L):=by
 obtain⟨hR,a,c,rfl,hc⟩:=h;unfold Hh;have HR:=U hR;clear hR
 go_enter func229,ntmps229
 go_wp2_with fail
 go_loopg [5,6,7,8,9,12] L.length (fun gk n5 i6 b7 p8 s9 i12 wr=>∃ (i acc:Nat),i+gk=L.length∧i12=.int .i64 i∧n5=.int .u64 acc∧acc<18446744073709551616∧Hid (qF L i acc)∧Below w.heap.size w wr)
 case atStart=>exact⟨0,0,by omega,rfl,rfl,by omega,U (qF.Hg L),Below.refl _ _⟩
 case round=>
  obtain⟨i,acc,hi,rfl,rfl,KX,HT,bi⟩:=hrel
  by_cases bC:i<L.length
  ·obtain⟨b,o,c',hv,hb,aK⟩:=(HR.o.gr bi).at (by omega)
   obtain⟨rfl,rfl⟩:a=some (aj b o)∧c=c':=by simpa using hv
   have hx:wr.cell? ⟨b,o+i,none⟩=some (vB (L[i].toNat:Int)):=aK i bC;have HCC:=U aK;clear hv aK;obtain⟨x,hxe⟩:∃ x,L[i].toNat=x:=⟨_,rfl⟩
   have HX:=U hxe;rw[hxe] at hx;have afs:x≤255:=by rw[← hxe];have:=L[i].toNat_lt;omega
   clear hxe;have he1:=Pp x afs;have afu:x % 128<128:=Nat.mod_lt _ (by decide);obtain⟨p,HP⟩:∃ p,Hid (x % 128=p):=⟨_,U rfl⟩
   rw[HP.o] at he1 afu
   by_cases hi9:i≤9
   ·have he2:=aaJ p i
    by_cases MP:18446744073709551616≤p*128 ^ i
    ·have HN:=U (HT.o.afr bC (by rw[HX.o,HP.o];exact MP))
     have he3:(((p*128 ^ i % 18446744073709551616:Nat):Int) / 2 ^ (7*i) != (p:Int))=true:=by
      rw[SI];have:=(SJ p i).2 MP;rw[bne_iff_ne];exact fun e=>this (by exact_mod_cast e)
     generalize p*128 ^ i % 18446744073709551616=q at *;clear MP
     go_wp2_with fail
     go_ret3
     exact⟨0,none,0,[],false,rfl,by omega,⟨Or.inl ⟨rfl,rfl⟩,none,0,rfl,by simp⟩,by simp,fun k hk=>by simp[Value.ownBlock] at hk,bi,HN.o⟩
    ·have hq:p*128 ^ i<18446744073709551616:=by omega
     have he3:(((p*128 ^ i % 18446744073709551616:Nat):Int) / 2 ^ (7*i) != (p:Int))=false:=by
      rw[SI]
      have:(p*128 ^ i % 18446744073709551616) / 128 ^ i=p:=by
       rw[Nat.mod_eq_of_lt hq,Nat.mul_div_cancel _ (sX i)]
      rw[this];simp
     have he4:=aaK HT.o.1 hq KX;rw[Nat.mod_eq_of_lt hq] at he2 he3;have AH:=SH (acc:=acc) (p:=p) HT.o.1 hq hi9;obtain⟨q,HQ⟩:∃ q,Hid (p*128 ^ i=q):=⟨_,U rfl⟩
     rw[HQ.o] at he2 he3 he4 hq AH;clear MP
     by_cases hgo:x<128
     ·have afv:(x:Int)<128:=by omega
      have hxp:x=p:=by rw[← HP.o];omega
      have HN:=U (HT.o.bu bC (by rw[HX.o];exact hgo) (by rw[HX.o,hxp,HQ.o];exact hq) hi9);rw[HX.o,hxp,HQ.o] at HN;have HPX:=U hxp;clear hxp;have Yo:=U (Rd.CN HCC.o (i+1) (L.length-(i+1)) (c-(i+1)) (by omega));have b1:(0:Int)≤(i:Int)+1:=by omega
      have b2:(i:Int)+1≤(L.length:Int):=by omega
      have aev:IntKind.i64.wrap ((i:Int)+1)=(i:Int)+1:=by rw[IntKind.wrap_i64];omega
      by_cases Sw:0<x
      ·have SM:(0:Int)<(x:Int):=by omega
       have afw:decide ((0:Int)<(x:Int))=true:=by simpa using SM
       have HF:=U (show dB L=some (acc+q,L.drop (i+1)) by
        rw[HN.o];have:(decide (0<p)||decide (i=0))=true:=by rw[← HPX.o];simp[Sw]
        rw[this];rfl)
       by_cases BE:c=i+1
       ·have Wm:=U (show L.drop (i+1)=[] from List.drop_eq_nil_of_le (by omega))
        have SN:L.length-(i+1)=0:=by omega
        subst BE
        go_wp2_with fail
        (first | (go_region) | fail)
        all_goals
         go_wp2_with fail
         go_ret3
         exact⟨acc+q,some (aj b o),0,[],true,by first | rfl | (rw[SN];push_cast;rfl) | (push_cast;simp[SN]),AH,⟨Or.inr ⟨_,_,rfl,fun j u hu=>by simp at hu⟩,_,_,rfl,by simp⟩,by simp,fun k hk=>hk,bi.drew,by first | rw[HF.o,Wm.o] | rw[HF.o]⟩
       ·have sY:=U (show (L.drop (i+1)).length=L.length-(i+1) from List.length_drop)
        go_wp2_with fail
        (first | (go_region) | fail)
        all_goals
         go_wp2_with fail
         go_ret3
         refine⟨acc+q,some ⟨b,o+(i+1),none⟩,c-(i+1),L.drop (i+1),true,by rw[sY.o];first | rfl | (push_cast;rfl),AH,⟨?_,_,_,rfl,by rw[sY.o];omega⟩,by rw[sY.o];omega,fun k hk=>hk,bi.drew,by rw[HF.o]⟩;have:=Yo.o;rw[List.take_of_length_le (by rw[sY.o];exact Nat.le_refl _)] at this;rw[sY.o];exact this.gr (Below.refl _ _).drew
      ·have SM:¬ (0:Int)<(x:Int):=by omega
       have afw:decide ((0:Int)<(x:Int))=false:=by simpa using SM
       cases hib:((i:Int)==0) with
       | true=>
        have HF:=U (show dB L=some (acc+q,L.drop (i+1)) by
         rw[HN.o];have h1:i=0:=by simpa using hib
         have:(decide (0<p)||decide (i=0))=true:=by simp[h1]
         rw[this];rfl)
        by_cases BE:c=i+1
        ·have Wm:=U (show L.drop (i+1)=[] from List.drop_eq_nil_of_le (by omega))
         have SN:L.length-(i+1)=0:=by omega
         subst BE
         go_wp2_with fail
         (first | (go_region) | fail)
         all_goals
          go_wp2_with fail
          go_ret3
          exact⟨acc+q,some (aj b o),0,[],true,by first | rfl | (rw[SN];push_cast;rfl) | (push_cast;simp[SN]),AH,⟨Or.inr ⟨_,_,rfl,fun j u hu=>by simp at hu⟩,_,_,rfl,by simp⟩,by simp,fun k hk=>hk,bi.drew,by first | rw[HF.o,Wm.o] | rw[HF.o]⟩
        ·have sY:=U (show (L.drop (i+1)).length=L.length-(i+1) from List.length_drop)
         go_wp2_with fail
         (first | (go_region) | fail)
         all_goals
          go_wp2_with fail
          go_ret3
          refine⟨acc+q,some ⟨b,o+(i+1),none⟩,c-(i+1),L.drop (i+1),true,by rw[sY.o];first | rfl | (push_cast;rfl),AH,⟨?_,_,_,rfl,by rw[sY.o];omega⟩,by rw[sY.o];omega,fun k hk=>hk,bi.drew,by rw[HF.o]⟩;have:=Yo.o;rw[List.take_of_length_le (by rw[sY.o];exact Nat.le_refl _)] at this;rw[sY.o];exact this.gr (Below.refl _ _).drew
       | false=>
        have HF:=U (show dB L=none by
         rw[HN.o];have h1:¬ i=0:=by simpa using hib
         have:(decide (0<p)||decide (i=0))=false:=by rw[← HPX.o];simp[Sw,h1]
         rw[this];rfl)
        by_cases BE:c=i+1
        ·have Wm:=U (show L.drop (i+1)=[] from List.drop_eq_nil_of_le (by omega))
         have SN:L.length-(i+1)=0:=by omega
         subst BE
         go_wp2_with fail
         (first | (go_region) | fail)
         all_goals
          go_wp2_with fail
          go_ret3
          exact⟨acc+q,some (aj b o),0,[],false,by first | rfl | (rw[SN];push_cast;rfl) | (push_cast;simp[SN]),AH,⟨Or.inr ⟨_,_,rfl,fun j u hu=>by simp at hu⟩,_,_,rfl,by simp⟩,by simp,fun k hk=>hk,bi.drew,by first | rw[HF.o,Wm.o] | rw[HF.o]⟩
        ·have sY:=U (show (L.drop (i+1)).length=L.length-(i+1) from List.length_drop)
         go_wp2_with fail
         (first | (go_region) | fail)
         all_goals
          go_wp2_with fail
          go_ret3
          refine⟨acc+q,some ⟨b,o+(i+1),none⟩,c-(i+1),L.drop (i+1),false,by rw[sY.o];first | rfl | (push_cast;rfl),AH,⟨?_,_,_,rfl,by rw[sY.o];omega⟩,by rw[sY.o];omega,fun k hk=>hk,bi.drew,by rw[HF.o]⟩;have:=Yo.o;rw[List.take_of_length_le (by rw[sY.o];exact Nat.le_refl _)] at this;rw[sY.o];exact this.gr (Below.refl _ _).drew
     ·have afv:¬ (x:Int)<128:=by omega
      have HN:=U (show qF L (i+1) (acc+q) by
       have:=HT.o.go bC (by rw[HX.o];omega) (by rw[HX.o,show x-128=p by rw[← HP.o];omega,HQ.o];exact hq);rw[HX.o,show x-128=p by rw[← HP.o];omega,HQ.o] at this
       exact this)
      obtain⟨ak5,HA⟩:∃ a',Hid (acc+q=a'):=⟨_,U rfl⟩
      rw[HA.o] at he4 HN AH
      go_wp2_with fail
      go_roundg (gk-1)
      case rel=>exact⟨i+1,ak5,by omega,by go_num,rfl,AH,HN,bi⟩
      case measure=>omega
   ·have Ke:(64:Int)≤7*(i:Int):=by omega
    have gY:∀ z:Int,Op.shift BinOp.shl IntKind.u64 z IntKind.i64 (7*(i:Int))=pure (vU 0):=fun z=>SK z _ Ke
    have il:Op.shift BinOp.shr IntKind.u64 0 IntKind.i64 (7*(i:Int))=pure (vU 0):=SL _ Ke;clear Ke
    by_cases Z2:p=0
    ·subst Z2
     have YX:((0:Nat):Int)=0:=rfl;rw[YX] at he1
     have he4:bits BinOp.or IntKind.u64 (acc:Int) 0=(acc:Int):=by
      have:=bits_or_u64_nat acc 0 KX (by decide);simpa using this
     by_cases hgo:x<128
     ·have afv:(x:Int)<128:=by omega
      have afx:x=0:=by have:=HP.o;omega
      have HF:=U (HT.o.zero bC (by rw[HX.o];exact afx) (by omega));have Yo:=U (Rd.CN HCC.o (i+1) (L.length-(i+1)) (c-(i+1)) (by omega));have b1:(0:Int)≤(i:Int)+1:=by omega
      have b2:(i:Int)+1≤(L.length:Int):=by omega
      have aev:IntKind.i64.wrap ((i:Int)+1)=(i:Int)+1:=by rw[IntKind.wrap_i64];omega
      have SM:¬ (0:Int)<(x:Int):=by omega
      have afw:decide ((0:Int)<(x:Int))=false:=by simpa using SM
      have hib:((i:Int)==0)=false:=by simp;omega
      clear YX;subst afx
      by_cases BE:c=i+1
      ·have SN:L.length-(i+1)=0:=by omega
       subst BE
       go_wp2_with fail
       (first | (go_region) | fail)
       all_goals
        go_wp2_with fail
        go_ret3
        exact⟨acc,some (aj b o),0,[],false,by first | rfl | (rw[SN];push_cast;rfl) | (push_cast;simp[SN]),KX,⟨Or.inr ⟨_,_,rfl,fun j u hu=>by simp at hu⟩,_,_,rfl,by simp⟩,by simp,fun k hk=>hk,bi.drew,by rw[HF.o]⟩
      ·have sY:=U (show (L.drop (i+1)).length=L.length-(i+1) from List.length_drop)
       go_wp2_with fail
       (first | (go_region) | fail)
       all_goals
        go_wp2_with fail
        go_ret3
        refine⟨acc,some ⟨b,o+(i+1),none⟩,c-(i+1),L.drop (i+1),false,by rw[sY.o];first | rfl | (push_cast;rfl),KX,⟨?_,_,_,rfl,by rw[sY.o];omega⟩,by rw[sY.o];omega,fun k hk=>hk,bi.drew,by rw[HF.o]⟩;have:=Yo.o;rw[List.take_of_length_le (by rw[sY.o];exact Nat.le_refl _)] at this;rw[sY.o];exact this.gr (Below.refl _ _).drew
     ·have afy:x=128:=by have:=HP.o;omega
      have HN:=U (show qF L (i+1) acc by
       have hz:L[i].toNat-128=0:=by rw[HX.o];have:=HP.o;omega
       have:=HT.o.go bC (by rw[HX.o];omega) (by rw[hz];omega);rw[hz] at this
       simpa using this)
      clear YX;subst afy
      go_wp2_with fail
      go_roundg (gk-1)
      case rel=>exact⟨i+1,acc,by omega,by go_num,rfl,KX,HN,bi⟩
      case measure=>omega
    ·have HN:=U (HT.o.afr bC (by rw[HX.o,HP.o];exact aaL Z2 (by omega)))
     have hpB:((0:Int) != (p:Int))=true:=by simp;omega
     go_wp2_with fail
     go_ret3
     exact⟨0,none,0,[],false,rfl,by omega,⟨Or.inl ⟨rfl,rfl⟩,none,0,rfl,by simp⟩,by simp,fun k hk=>by simp[Value.ownBlock] at hk,bi,HN.o⟩
  ·have HN:=U (HT.o.none (by omega))
   go_wp2_with fail
   go_ret3
   exact⟨0,none,0,[],false,rfl,by omega,⟨Or.inl ⟨rfl,rfl⟩,none,0,rfl,by simp⟩,by simp,fun k hk=>by simp[Value.ownBlock] at hk,bi,HN.o⟩
def Dp(w:World)(v:Value)(L:List UInt8)(e:Ending)(w':World):Prop:=∃ (a a2:Option Addr) (c c2:Nat) (V R:List UInt8) (ok:Bool),e=.returned (.tuple #[.slice a V.length c,.slice a2 R.length c2,.bool ok])∧om w' (.slice a V.length c) V∧om w' (.slice a2 R.length c2) R∧V.length+R.length≤L.length∧(∀ k,(Value.slice a V.length c).ownBlock=some k→v.ownBlock=some k)∧(∀ k,(Value.slice a2 R.length c2).ownBlock=some k→v.ownBlock=some k)∧Below w.heap.size w w'∧ix L=(match ok with | true=>some (V,R) | false=>none)
theorem pz(w:World)(v:Value)(L:List UInt8)(h:om w v L)(hl:L.length≤1000):
  aT 286 #[v] w (Dp w v L):=by
 unfold Dp;have H:=U h;clear h;obtain⟨va,vc,hv⟩:∃ a c,v=.slice a L.length c:=H.o.1.slice
 subst hv
 go_enter func286,ntmps286
 go_wp2_with fail
 refine(mT w _ L H.o hl).mono ?_;rintro e w1 ⟨n,a,c,R,ok,rfl,hn,hR,hRl,Wv,aA,jt⟩;have HR:=U hR;have QK:=U Wv;have ph:=U jt;clear hR Wv jt
 cases ok with
 | false=>
  have HN:=U (show ix L=none by unfold ix;rw[ph.o];rfl)
  go_wp2_with fail
  go_ret3
  exact⟨none,none,0,0,[],[],false,rfl,⟨Or.inl ⟨rfl,rfl⟩,none,0,rfl,by simp⟩,⟨Or.inl ⟨rfl,rfl⟩,none,0,rfl,by simp⟩,by simp,fun k hk=>by simp[Value.ownBlock] at hk,fun k hk=>by simp[Value.ownBlock] at hk,aA,HN.o⟩
 | true=>
  have aps:IntKind.u64.wrap (R.length:Int)=(R.length:Int):=by rw[IntKind.wrap_u64];omega
  by_cases Cl:n≤R.length
  ·have afz:¬ (R.length:Int)<(n:Int):=by omega
   have as3:decide ((R.length:Int)<(n:Int))=false:=by simpa using afz
   have HN:=U (show ix L=some (R.take n,R.drop n) by unfold ix;rw[ph.o];simp[Cl]);obtain⟨YU,a',c',hac,hRc⟩:=HR.o;obtain⟨rfl,rfl⟩:a=a'∧c=c':=by simpa using hac
   clear hac
   rcases YU with⟨EF,hRn⟩ | ⟨ad,c'',Mt,qp⟩
   ·obtain⟨rfl,rfl⟩:a=none∧c=0:=by
     subst hRn;simpa using EF
    subst hRn;obtain rfl:n=0:=by simpa using Cl
    go_wp2_with fail
    (first | (go_region) | fail)
    all_goals
     go_wp2_with fail
     go_ret3
     exact⟨none,none,0,0,[],[],true,rfl,⟨Or.inl ⟨rfl,rfl⟩,none,0,rfl,by simp⟩,⟨Or.inl ⟨rfl,rfl⟩,none,0,rfl,by simp⟩,by simp,fun k hk=>by simp[Value.ownBlock] at hk,fun k hk=>by simp[Value.ownBlock] at hk,aA.drew,by rw[HN.o];simp⟩
   ·obtain⟨rfl,rfl⟩:a=some ad∧c=c'':=by simpa using Mt
    clear Mt;have HC:=U qp;clear qp
    by_cases hR0:R.length=0
    ·have hRn:R=[]:=List.eq_nil_of_length_eq_zero hR0
     subst hRn;obtain rfl:n=0:=by simpa using Cl
     by_cases hc0:c=0
     ·subst hc0
      go_wp2_with fail
      (first | (go_region) | fail)
      all_goals
       go_wp2_with fail
       go_ret3
       exact⟨some ad,some ad,0,0,[],[],true,rfl,⟨Or.inr ⟨_,_,rfl,fun j u hu=>by simp at hu⟩,_,_,rfl,by simp⟩,⟨Or.inr ⟨_,_,rfl,fun j u hu=>by simp at hu⟩,_,_,rfl,by simp⟩,by simp,QK.o,QK.o,aA.drew,by rw[HN.o];simp⟩
     ·go_wp2_with fail
      (first | (go_region) | fail)
      all_goals
       go_wp2_with fail
       go_ret3
       exact⟨some ad,_,c,c,[],[],true,rfl,⟨Or.inr ⟨_,_,rfl,fun j u hu=>by simp at hu⟩,_,_,rfl,by simp⟩,⟨Or.inr ⟨_,_,rfl,fun j u hu=>by simp at hu⟩,_,_,rfl,by simp⟩,by simp,QK.o,fun k hk=>QK.o k (by simpa[Value.ownBlock] using hk),aA.drew,by rw[HN.o];simp⟩
    ·obtain⟨b,o,c3,hv3,D2,aK⟩:=(show Rd w1 (.slice (some ad) R.length c) R from Or.inr ⟨ad,c,rfl,HC.o⟩).at (by omega)
     obtain⟨rfl,rfl⟩:ad=(aj b o)∧c=c3:=by simpa using hv3
     have jP:=U (Rd.CN aK 0 n c (by omega));have jn:=U (Rd.CN aK n (R.length-n) (c-n) (by omega));have Kp:=U (show (R.take n).length=n by rw[List.length_take];omega);have HL2:=U (show (R.drop n).length=R.length-n from List.length_drop);clear hv3 aK
     by_cases BE:c=n
     ·have HRn:=U (show R.drop n=[] from List.drop_eq_nil_of_le (by omega))
      have hz:R.length-n=0:=by omega
      subst BE
      go_wp2_with fail
      (first | (go_region) | fail)
      all_goals
       go_wp2_with fail
       go_ret3
       refine⟨some (aj b o),some (aj b o),c,0,R.take c,[],true,by rw[Kp.o];rfl,⟨?_,_,_,rfl,by rw[Kp.o];omega⟩,⟨Or.inr ⟨_,_,rfl,fun j u hu=>by simp at hu⟩,_,_,rfl,by simp⟩,by rw[Kp.o];simp;omega,fun k hk=>QK.o k hk,fun k hk=>QK.o k hk,aA.drew,by rw[HN.o,HRn.o]⟩;rw[Kp.o];exact jP.o.gr (Below.refl _ _).drew
     ·go_wp2_with fail
      (first | (go_region) | fail)
      all_goals
       go_wp2_with fail
       go_ret3
       refine⟨some (aj b o),some ⟨b,o+n,none⟩,c,c-n,R.take n,R.drop n,true,by rw[Kp.o,HL2.o];rfl,⟨?_,_,_,rfl,by rw[Kp.o];omega⟩,⟨?_,_,_,rfl,by rw[HL2.o];omega⟩,by rw[Kp.o,HL2.o];omega,fun k hk=>QK.o k hk,fun k hk=>QK.o k hk,aA.drew,by rw[HN.o]⟩
       ·rw[Kp.o]
        exact jP.o.gr (Below.refl _ _).drew
       ·rw[HL2.o]
        have:=jn.o;rw[List.take_of_length_le (by rw[HL2.o];exact Nat.le_refl _)] at this;exact this.gr (Below.refl _ _).drew
  ·have afz:(R.length:Int)<(n:Int):=by omega
   have HN:=U (show ix L=none by unfold ix;rw[ph.o];simp[Cl])
   go_wp2_with fail
   go_ret3
   exact⟨none,none,0,0,[],[],false,rfl,⟨Or.inl ⟨rfl,rfl⟩,none,0,rfl,by simp⟩,⟨Or.inl ⟨rfl,rfl⟩,none,0,rfl,by simp⟩,by simp,fun k hk=>by simp[Value.ownBlock] at hk,fun k hk=>by simp[Value.ownBlock] at hk,aA,HN.o⟩
def AI(w:World)(L:List UInt8)(e:Ending)(w':World):Prop:=∃ (n:Nat) (ok:Bool),e=.returned (.tuple #[.int .u64 n,.bool ok])∧n<18446744073709551616∧Below w.heap.size w w'∧fC L=(match ok with | true=>some n | false=>none)
theorem pA(w:World)(v:Value)(L:List UInt8)(h:om w v L)(hl:L.length≤1000):
  aT 276 #[v] w (AI w L):=by
 unfold AI;have H:=U h;clear h;obtain⟨va,vc,hv⟩:∃ a c,v=.slice a L.length c:=H.o.1.slice
 subst hv
 go_enter func276,ntmps276
 go_wp2_with fail
 refine(mT w _ L H.o hl).mono ?_;rintro e w1 ⟨n,a,c,R,ok,rfl,hn,hR,hRl,Wv,aA,jt⟩;have ph:=U jt;clear hR Wv jt
 cases ok with
 | false=>
  have HN:=U (show fC L=none by unfold fC;rw[ph.o];rfl)
  go_wp2_with fail
  go_ret2
  exact⟨n,false,rfl,hn,aA,HN.o⟩
 | true=>
  cases hz:((R.length:Int)==0) with
  | true=>
   have HN:=U (show fC L=some n by
    unfold fC;rw[ph.o];have:R=[]:=List.eq_nil_of_length_eq_zero (by simpa using hz)
    simp[this])
   go_wp2_with fail
   go_ret2
   exact⟨n,true,rfl,hn,aA,HN.o⟩
  | false=>
   have HN:=U (show fC L=none by
    unfold fC;rw[ph.o];have:¬ R=[]:=fun e=>by rw[e] at hz;simp at hz
    simp[this])
   go_wp2_with fail
   go_ret2
   exact⟨n,false,rfl,hn,aA,HN.o⟩
def Dc(w:World)(db:Nat)(lv:Value)(p:Option Addr)(v:Value):Prop:=w.heap[db]? = some (.cells #[lv,.pointer p,v] 347 (0,0))
theorem Dc.seg(h:Dc w db lv p v):dU w db 347 0 [lv,.pointer p,v]:=⟨_,h,by simp,by simp⟩
theorem Dc.lt(h:Dc w db lv p v):db<w.heap.size:=h.seg.lt
theorem Dc.same(h:Dc w db lv p v)(hb:w'.heap[db]? = w.heap[db]?):Dc w' db lv p v:=hb.trans h
theorem Dc.ak6(h:Dc w db lv p v)(q:Option Addr):Dc (w.setCell (aj db 1) (.pointer q)) db lv q v:=heap_setCell_same w db 1 _ _ _ h
theorem Dc.aaP(h:Dc w db lv p v)(u:Value):Dc (w.setCell (aj db 2) u) db lv p u:=heap_setCell_same w db 2 _ _ _ h
theorem Tryz.infoBld:(Tryz.prog.info? 345).map (·.size)=some 2:=by kernel_rfl
theorem Ww:liesAt Tryz.prog Tryz.prog.depth 347 (3 / Tryz.prog.cellsOf 347) 1 345 1=true:=by kernel_rfl
theorem nr(w:World)(db:Nat)(lv v:Value)(p:Option Addr)(hp:p=none∨p=some (aj db 1))(h:Dc w db lv p v):
  aT 285 #[.pointer (some (aj db 1))] w fun e w'=>e=.returned (.tuple #[])∧Dc w' db lv (some (aj db 1)) v∧But db w w':=by
 obtain⟨j,hj,hjs⟩:=Option.map_eq_some_iff.1 Tryz.infoBld;have c1:=h.seg.cell (j:=1) rfl;have f1:=h.seg.aq 1;simp only[Nat.zero_add] at c1;have GD:w.shape? db=some (347,3):=by unfold World.shape?;rw[h];rfl
 have H:=U h;clear h
 rcases hp with rfl | rfl
 ·go_enter func285,ntmps285
  go_wp2_with fail
  rw[Lib.run_to_unsafe w (aj db 1) underlying343 underlying380 hj (by rw[hjs];decide) GD (by show 1<3;omega)];simp only[Result.andThen];rw[Oper.upon_value]
  go_wp2_with fail
  rw[run_callFunc_extern func289 (by kernel_rfl) (by kernel_rfl) (by kernel_rfl) (e:=Extern.AbiNoEscape.same) (by kernel_rfl)];rw[Lib.run_noEscape];simp only[Result.andThen];rw[Oper.upon_value]
  go_wp2_with fail
  rw[Lib.run_from_unsafe w (aj db 1) underlying380 underlying343 hj GD Ww];simp only[Result.andThen];rw[Oper.upon_value]
  go_wp2_with fail
  go_end0
  exact⟨rfl,H.o.ak6 _,(But.refl _ _).setCell _ _⟩
 ·go_enter func285,ntmps285
  go_wp2_with fail
  rw[Lib.run_neq_ptr_same w _ underlying343 hj]
  go_wp2_with fail
  go_end0
  exact⟨rfl,H.o,But.refl _ _⟩
def M9(lo:Nat)(w:World)(k:Nat):Prop:=k<lo∨∃ cur T,w.heap[k]? = some (.cells cur T (0,0))∧T≠5
structure DF(db lo:Nat)(w w':World):Prop where
 os:w'.os=w.os
 tape:w'.tape=w.tape
 output:w'.output=w.output
 size:w.heap.size≤w'.heap.size
 block:∀ k,k<w.heap.size→k≠db→M9 lo w k→w'.heap[k]? = w.heap[k]?
theorem DF.refl(db lo:Nat)(w:World):DF db lo w w:=⟨rfl,rfl,rfl,Nat.le_refl _,fun _ _ _ _=>rfl⟩
theorem M9.on{k:Nat}(h:M9 lo w k)(e:w'.heap[k]? = w.heap[k]?):M9 lo w' k:=by
 rcases h with h | ⟨cur,T,h1,h2⟩
 ·exact Or.inl h
 ·exact Or.inr ⟨cur,T,e.trans h1,h2⟩
theorem DF.trans{a b c:World}(h:DF db lo a b)(k:DF db lo b c):DF db lo a c :=
 ⟨k.os.trans h.os,k.tape.trans h.tape,k.output.trans h.output,Nat.le_trans h.size k.size,fun q hq hd hu=>by
  have h1:=h.block q hq hd hu;rw[k.block q (Nat.lt_of_lt_of_le hq h.size) hd (hu.on h1)]
  exact h1⟩
theorem DF.kg(lo:Nat)(h:But db w w'):DF db lo w w':=⟨h.os,h.tape,h.output,h.size,fun k hk hd _=>h.block k hk hd⟩
theorem DF.ofBelow(lo:Nat)(h:Below w.heap.size w w'):DF db lo w w':=DF.kg lo (But.ofBelow h)
theorem DF.EV(hB:fG w lo v L)(h:w.grownBy w' v.ownBlock):DF db lo w w':=⟨h.os,h.tape,h.output,h.size,fun k hk _ hv=>h.block k hk (fun e=>by
 rcases hv with hv | ⟨cur,T,h1,h2⟩
 ·have:=(hB.lt k e.symm).1;omega
 ·obtain⟨sG,hc⟩:=gB hB e.symm
  rw[h1] at hc;simp at hc;exact h2 hc.2)⟩
theorem DF.own{lo':Nat}{e:TypeId}{size:Nat}{xs:List Value}(h:DF db lo w w')(ho:w.ownsRow lo' e size v n xs)(he:e≠5)(hd:∀ g,v.ownBlock=some g→g≠db):w'.ownsRow lo' e size v n xs :=
 aH ho (fun g hg=>h.block g (ho.lt g hg).2 (hd g hg) (Or.inr (by obtain⟨cur,hc⟩:=gB ho hg;exact⟨cur,e,hc,he⟩)))
structure yu(w:World)(db lo:Nat)(lv v:Value)(L:List UInt8):Prop where
 d:∃ p,(p=none∨p=some ⟨db,1,none⟩)∧Dc w db lv p v
 o:fG w lo v L
theorem yu.lt(h:yu w db lo lv v L):db<w.heap.size:=by obtain⟨p,_,h⟩:=h.d;exact h.lt
theorem yu.below(h:yu w db lo lv v L)(hb:Below w.heap.size w w'):yu w' db lo lv v L :=
 ⟨by obtain⟨p,hp,hd⟩:=h.d;exact⟨p,hp,hd.same (hb.block db hd.lt)⟩,h.o.same hb⟩
def xB(w:World)(db lo:Nat)(lv:Value)(L:List UInt8)(w':World):Prop:=∃ v',yu w' db lo lv v' L∧DF db lo w w'
theorem eg(w:World)(db lo:Nat)(lv v:Value)(L:List UInt8)(c:UInt8)(z:Int)(hz:z=(c.toNat:Int))(h:yu w db lo lv v L)(hl:L.length≤1000000000)(di:lo≤w.heap.size):
  aT 278 #[.pointer (some (aj db 1)),vB z] w fun e w'=>e=.returned .nilIface∧xB w db lo lv (L++[c]) w':=by
 unfold xB;obtain⟨la,lc,nk⟩:∃ a c,v=.slice a L.length c:=ax h.o
 obtain⟨p,hp,hd⟩:=h.d;have HO:=U h.o;have HD:=U hd;subst nk;clear h hd
 go_enter func278,ntmps278
 go_wp2_with fail
 refine(nr w db lv _ p hp HD.o).mono ?_;rintro e w1 ⟨rfl,vW,aA⟩;have Dq:=U vW;have KT:=U (HO.o.but (show dU _ _ _ _ _ from HD.o.seg) (by decide) aA);have c2:=vW.seg.cell (j:=2) rfl;have f2:=vW.seg.aq 2;simp only[Nat.zero_add] at c2;have ju:=aA.size;clear vW
 go_wp2_with (at_builtin;refine ei _ rfl _ _ rfl _ L lo rfl (KT.o.same ((Below.refl _ _).alloc (Nat.le_refl _) _)) _ [c] _ rfl (qP _ _ _ (by first | rfl | exact hz)) (by simp;omega) (by simp;omega) ?_)
 intro a5 c5 w5 iC rM;have YY:=U ((gd.call ((Below.refl _ _).alloc (Nat.le_refl _) _)).trans rM:gd w1 w5 (.slice la L.length lc) (.slice a5 (L.length+1) c5));have FR:=U iC;have Hj:Dc w5 db lv (some (aj db 1)) (.slice la L.length lc):=Dq.o.same (YY.o.g.block db Dq.o.lt (fun e=>dG KT.o Dq.o.seg (by decide) e.symm rfl));have c5':=Hj.seg.cell (j:=2) rfl;have f5:=Hj.seg.aq 2;simp only[Nat.zero_add] at c5';have QT:=U Hj;clear iC rM Hj c2 f2
 go_wp2_with fail
 go_ret
 refine⟨rfl,.slice a5 (L.length+1) c5,⟨⟨_,Or.inr rfl,QT.o.aaP _⟩,?_⟩,((DF.kg _ aA).trans (DF.EV KT.o YY.o.g)).trans ((DF.kg _ ((But.refl _ _).setCell _ _)))⟩;exact aH FR.o (fun g hg=>Below.heap_setCell _ _ _ _ (dG FR.o QT.o.seg (by decide) hg))
theorem uI(w:World){ops:Array Oper}{rest:List Oper}{o:Oper}{a:Act}{Q:Exit→Act→World→Prop}(JA:o.guard=none)(sl x:Operand)
  (ho:o.op=.call { callee:=.builtin .append,args:=#[sl,x],argTypes:=#[103,9] }) (v:Value) (L:List UInt8) (lo:Nat) (hs:a.eval sl=v) (hP:fG w lo v L) (s:ByteArray) (hx:a.eval x=.string s) (vQ:s.size≤1000000000) (hl:L.length≤1000000000) (di:lo≤w.heap.size) (M:List UInt8) (hM:L++s.toList=M)
  (h:∀ a' c' w',fG w' lo (.slice a' M.length c') M→w.grownBy w' v.ownBlock→wpList Tryz.prog ops Q rest (a.put o.dst (.slice a' M.length c')) w'):wpList Tryz.prog ops Q (o::rest) a w:=by
 obtain⟨iI,rE,zj,uZ,zk⟩:=info_parts Tryz.infoByte;refine Lib.wpList_append_own_string w JA sl x 103 9 ho lo 5 iI underlying103 underlying9 rE zj uZ zk v L.length (L.map bJ) hs hP s hx (by unfold maxLen;omega) (by omega) di ?_;intro v' w' mz xR _;have hz:=aO s;rw[uf,← List.map_append,← hz,← List.length_append,hM] at mz;obtain⟨a',c',rfl⟩:=ax mz;exact h a' c' w' mz xR
theorem iU(w:World)(db lo:Nat)(lv v:Value)(L:List UInt8)(s:ByteArray)(h:yu w db lo lv v L)(hl:L.length≤1000000000)(hs:s.size≤1000000000)(di:lo≤w.heap.size):
  aT 277 #[.pointer (some (aj db 1)),.string s] w fun e w'=>e=.returned (.tuple #[vI s.size,.nilIface])∧xB w db lo lv (L++s.toList) w':=by
 unfold xB;obtain⟨T,HT⟩:∃ T,Hid (L++s.toList=T):=⟨_,U rfl⟩
 rw[HT.o];obtain⟨la,lc,nk⟩:∃ a c,v=.slice a L.length c:=ax h.o
 obtain⟨p,hp,hd⟩:=h.d;have HO:=U h.o;have HD:=U hd;subst nk;clear h hd
 go_enter func277,ntmps277
 go_wp2_with fail
 refine(nr w db lv _ p hp HD.o).mono ?_;rintro e w1 ⟨rfl,vW,aA⟩;have Dq:=U vW;have KT:=U (HO.o.but (show dU _ _ _ _ _ from HD.o.seg) (by decide) aA);have c2:=vW.seg.cell (j:=2) rfl;have f2:=vW.seg.aq 2;simp only[Nat.zero_add] at c2;have ju:=aA.size;clear vW
 go_wp2_with (at_builtin;refine uI _ rfl _ _ rfl _ L lo rfl KT.o s rfl hs hl (by omega) T HT.o ?_)
 intro a5 c5 w5 iC rM;have YY:=U rM;have FR:=U iC;have Hj:Dc w5 db lv (some (aj db 1)) (.slice la L.length lc):=Dq.o.same (rM.block db Dq.o.lt (fun e=>dG KT.o Dq.o.seg (by decide) e.symm rfl));have c5':=Hj.seg.cell (j:=2) rfl;have f5:=Hj.seg.aq 2;simp only[Nat.zero_add] at c5';have QT:=U Hj;clear iC rM Hj c2 f2
 go_wp2_with fail
 go_ret2
 refine⟨rfl,.slice a5 T.length c5,⟨⟨_,Or.inr rfl,QT.o.aaP _⟩,?_⟩,((DF.kg _ aA).trans (DF.EV KT.o YY.o)).trans ((DF.kg _ ((But.refl _ _).setCell _ _)))⟩;exact aH FR.o (fun g hg=>Below.heap_setCell _ _ _ _ (dG FR.o QT.o.seg (by decide) hg))
structure Pq(ty:List UInt8→Option TD):Prop where
 e:∀ b ns,ty b=some (.inl ns)→∀ n∈ns,n≠[]∧∀ c∈n,eX c=true
 f:∀ b fs,ty b=some (.inr fs)→∀ f∈fs,f.name≠[]∧∀ c∈f.name,eX c=true
 d:∀ b fs,ty b=some (.inr fs)→fs.Pairwise fun f g=>f.name≠g.name
theorem Hk(h:m<18446744073709551616):GJ (qE m):=by unfold qE GJ;split<;>omega
def SO(t:List UInt8):Prop:=∃ c r,t=c::r∧c≠93
theorem Pr(u:Nat):∃ c r,Lib.decDigits u=c::r:=by
 obtain⟨d,r,e,_⟩:=Sb u;exact⟨_,r,e⟩
theorem KY(v:Int):SO (Lib.itoa v):=by
 have mG:=RW v
 have:∃ c r,Lib.itoa v=c::r:=by
  unfold Lib.itoa
  split
  ·exact⟨_,_,rfl⟩
  ·exact Pr _
 obtain⟨c,r,e⟩:=this;refine⟨c,r,e,fun h=>?_⟩;have:=mG c (by rw[e];simp);rw[h] at this;exact absurd this (by decide)
theorem AJ{n:List UInt8}(h0:n≠[])(h:∀ c∈n,eX c=true):SO n:=by
 obtain⟨c,r,rfl⟩:=List.exists_cons_of_ne_nil h0;refine⟨c,r,rfl,fun e=>?_⟩;have:=h c (by simp);rw[e] at this;exact absurd this (by decide)
theorem Wx:∀ n∈nU,n≠[]∧∀ c∈n,eX c=true:=by decide
theorem Hl{ns:List (List UInt8)}{d s:List UInt8}(h:vV ns d=some s):s∈ns:=by
 obtain⟨i,_,h⟩:=Option.bind_eq_some_iff.1 h;exact List.mem_of_getElem? h
theorem KZ{ty:List UInt8→Option TD}(hT:Pq ty){C8:List FD→List UInt8→uH}(hm:∀ fs d s,C8 fs d=some s→∃ r,s=123::r){b d s:List UInt8}(h:rO ty C8 b d=some s):SO s:=by
 unfold rO at h
 split at h
 ·obtain⟨m,_,rfl⟩:=Option.map_eq_some_iff.1 h
  exact KY _
 ·split at h
  ·have:=Wx s (Hl h)
   exact AJ this.1 this.2
  ·split at h
   ·simp only[Option.some.injEq] at h
    subst h;exact⟨34,_,rfl,by decide⟩
   ·cases e:ty b with
    | none=>rw[e] at h;cases h
    | some t=>
     rw[e] at h
     cases t with
     | inl ns =>
      have:=hT.e b ns e s (Hl h);exact AJ this.1 this.2
     | inr fs =>
      obtain⟨r,rfl⟩:=hm fs d s h;exact⟨123,r,rfl,by decide⟩
theorem AK(val:List UInt8→uH)(k:Nat)(first:Bool)(d:List UInt8):xA val k first d=if d=[] then some [93] else match k with
  | 0=>none
  | k+1=>(ix d).bind fun x=>(val x.1).bind fun s=>(xA val k false x.2).map fun o=>He first++s++o:=by rw[xA.eq_def]<;>rfl
theorem sZ(f bu:Nat)(d:List UInt8):jI f bu d=if d=[] then some [] else match f with
  | 0=>none
  | f+1=>(dB d).bind fun x=>(ix x.2).bind fun y=>if bu<x.1∧x.1≤99 then(jI f x.1 y.2).map fun o=>(x.1,y.1)::o else none:=by rw[jI.eq_def]<;>rfl
theorem K0(w:World)(db lo FZ:Nat)(lv v v2:Value)(L:List UInt8)(c1 c2 c3:UInt8)(h:yu w db lo lv v L)(h2:fG w FZ v2 [c1,c2,c3])(QV:v2.ownBlock≠some db)(hl:L.length≤1000000000)(di:lo≤w.heap.size):
  aT 279 #[.pointer (some (aj db 1)),v2] w fun e w'=>e=.returned (.tuple #[vI 3,.nilIface])∧xB w db lo lv (L++[c1,c2,c3]) w':=by
 unfold xB;obtain⟨la,lc,nk⟩:∃ a c,v=.slice a L.length c:=ax h.o
 obtain⟨pa,pc,VS⟩:∃ a c,v2=.slice a 3 c:=ax h2
 obtain⟨p,hp,hd⟩:=h.d;have HO:=U h.o;have HD:=U hd;subst nk VS;have H2:=U h2;have Vd:=U QV;obtain⟨T,HT⟩:∃ T,Hid ([c1,c2,c3]=T):=⟨_,U rfl⟩
 rw[HT.o] at H2;rw[HT.o];have hTl:T.length=3:=by rw[← HT.o];rfl
 have QP:=U hTl;clear h hd h2 QV hTl
 go_enter func279,ntmps279
 go_wp2_with fail
 refine(nr w db lv _ p hp HD.o).mono ?_;rintro e w1 ⟨rfl,vW,aA⟩;have Dq:=U vW;have KT:=U (HO.o.but (show dU _ _ _ _ _ from HD.o.seg) (by decide) aA);have H21:=U (aH H2.o (fun g hg=>aA.block g (H2.o.lt g hg).2 (fun e=>Vd.o (by rw[← e];exact hg))):fG w1 FZ (.slice pa 3 pc) T);have k2:=vW.seg.cell (j:=2) rfl;have f2:=vW.seg.aq 2;simp only[Nat.zero_add] at k2;have ju:=aA.size;clear vW
 go_wp2_with (at_builtin;refine ei _ rfl _ _ rfl _ L lo rfl KT.o _ T _ rfl H21.o (by have:=QP.o;omega) (by omega) ?_)
 intro a5 c5 w5 iC rM;have YY:=U rM;have FR:=U iC;have Hj:Dc w5 db lv (some (aj db 1)) (.slice la L.length lc):=Dq.o.same (rM.g.block db Dq.o.lt (fun e=>dG KT.o Dq.o.seg (by decide) e.symm rfl));have c5':=Hj.seg.cell (j:=2) rfl;have f5:=Hj.seg.aq 2;simp only[Nat.zero_add] at c5';have QT:=U Hj;clear iC rM Hj k2 f2
 go_wp2_with fail
 go_ret2
 refine⟨rfl,.slice a5 (L.length+T.length) c5,⟨⟨_,Or.inr rfl,QT.o.aaP _⟩,?_⟩,((DF.kg _ aA).trans (DF.EV KT.o YY.o.g)).trans ((DF.kg _ ((But.refl _ _).setCell _ _)))⟩;exact aH FR.o (fun g hg=>Below.heap_setCell _ _ _ _ (dG FR.o QT.o.seg (by decide) hg))
def iy(spec:uH)(w:World)(db lo:Nat)(lv:Value)(L:List UInt8)(K:Nat)(e:Ending)(w':World):Prop :=
 ∃ (ok:Bool) (v':Value) (S:List UInt8),e=.returned (.bool ok)∧yu w' db lo lv v' (L++S)∧DF db lo w w'∧S.length≤K∧(match ok with | true=>spec=some S | false=>spec=none)
theorem ak7(m:Nat)(h:m<18446744073709551616):bits BinOp.and IntKind.u64 (m:Int) 1=((m % 2:Nat):Int):=by
 have:=bits_and_u64_nat m 1 h (by decide);rw[show ((1:Nat):Int)=1 from rfl] at this;rw[this,Nat.and_one_is_mod]
theorem Wy(n:Nat)(h:n<9223372036854775808):bits BinOp.xor IntKind.i64 (-1) (n:Int) = -(n:Int)-1:=by
 have h2:(BitVec.ofInt 64 (n:Int)).toNat=n:=by
  rw[BitVec.ofInt_natCast,BitVec.toNat_ofNat];exact Nat.mod_eq_of_lt (by omega)
 have h1:(BitVec.ofInt 64 (-1:Int)).toNat=18446744073709551615:=by decide
 show IntKind.i64.wrap ((BitVec.ofInt 64 (-1:Int) ^^^ BitVec.ofInt 64 (n:Int)).toNat:Int)=_;rw[BitVec.toNat_xor,h1,h2,YQ n (by omega),IntKind.wrap_i64];omega
theorem Dr(h:m % 2=1):qE m = -((m:Int) / 2)-1:=by unfold qE;rw[if_pos h];omega
theorem AL(h:¬ m % 2=1):qE m=(m:Int) / 2:=by unfold qE;rw[if_neg h];omega
theorem pB(w:World)(n:Nat)(os:Array Obj):Below w.heap.size w (Sort.grow (w.drew.drewN n) os):=by
 have h1:Below w.heap.size w w.drew:=(Below.refl _ _).drew;have h2:Below w.drew.heap.size w.drew (Sort.grow (w.drew.drewN n) os):=An _ _ _;exact h1.trans h2
theorem vX:∀ (k u:Nat),u<10 ^ (k+1)→(Lib.decDigits u).length≤k+1
 | 0,u,h=>by rw[Lib.decDigits,dif_pos (by omega)];simp
 | k+1,u,h=>by
  rw[Lib.decDigits]
  by_cases h1:u<10
  ·rw[dif_pos h1];simp
  ·rw[dif_neg h1,List.length_append]
   have:=vX k (u / 10) (by rw[Nat.pow_succ] at h;omega);simp;omega
theorem Ho(v:Int)(h:GJ v):(Lib.itoa v).length≤20:=by
 obtain⟨h1,h2⟩:=h;have e:(10:Nat) ^ (18+1)=10000000000000000000:=by decide
 unfold Lib.itoa
 split
 ·have:=vX 18 v.natAbs (by rw[e];omega)
  simp;omega
 ·have:=vX 18 v.toNat (by rw[e];omega)
  omega
theorem EW(w:World)(db lo:Nat)(lv v dv:Value)(L d:List UInt8)(h:yu w db lo lv v L)(hd:om w dv d)(yU:d.length≤1000)(hE:mR w)(hl:L.length≤900000000)(di:lo≤w.heap.size):
  aT 267 #[aM db,dv] w (iy ((fC d).map fun m=>Lib.itoa (qE m)) w db lo lv L 20):=by
 unfold iy;obtain⟨da,dc,BR⟩:∃ a c,dv=.slice a d.length c:=hd.1.slice
 subst BR;have H:=U h;have HD:=U hd;have HE:=U hE;clear h hd hE
 go_enter func267,ntmps267
 go_wp2_with fail
 refine(pA w _ d HD.o yU).mono ?_;rintro e w1 ⟨m,ok,rfl,hm,aA,hw⟩;have HW:=U hw;have H1:=U (H.o.below aA);have CY:=U (HE.o.below aA);have ju:=aA.size;clear hw
 cases ok with
 | false=>
  go_wp2_with fail
  go_ret
  exact⟨false,v,[],rfl,by simpa using H1.o,DF.ofBelow _ aA,by simp,by rw[show fC d=none from HW.o];rfl⟩
 | true=>
  have ha:=ak7 m hm;have pY:((m:Int) / 2)=((m / 2:Nat):Int):=by omega
  by_cases K1:m % 2=1
  ·rw[K1] at ha
   have HU:=U (show (fC d).map (fun m=>Lib.itoa (qE m))=some (Lib.itoa (-((m:Int) / 2)-1)) by rw[show fC d=some m from HW.o,Option.map_some,Dr K1]);have Ku:GJ (-((m:Int) / 2)-1):=by rw[← Dr K1];exact Hk hm
   obtain⟨z,HZ⟩:∃ z:Int,Hid (-((m:Int) / 2)-1=z):=⟨_,U rfl⟩
   rw[HZ.o] at HU Ku;have hx:bits BinOp.xor IntKind.i64 (-1) ((m:Int) / 2)=z:=by rw[pY,Wy _ (by omega),← pY];exact HZ.o
   clear pY K1;obtain⟨QR,Dg⟩:=Ku;have OR:=U (show (ByteArray.mk (Lib.itoa z).toArray).toList=Lib.itoa z by rw[ByteArray.toList_eq]);have VO:=U (Ho z ⟨QR,Dg⟩);obtain⟨fb,YZ⟩:∃ fb,Hid (ByteArray.mk (Lib.itoa z).toArray=fb):=⟨_,U rfl⟩
   rw[YZ.o] at OR;have JJ:fb.size≤20:=by rw[← aO,OR.o];exact VO.o
   go_wp2_with fail
   go_region_with (first | (go_at_call 146;refine(fu z QR Dg _ (CY.o.below (Below.refl _ _).drew).t).mono ?_;rintro e w3 ⟨rfl,kk,os,iK⟩;rw[YZ.o];have lE:=U (show Below w1.heap.size w1 w3 by rw[iK];exact pB _ _ _);clear iK) | (go_at_call 277;refine(iU _ db lo lv v L fb (H1.o.below lE.o) (by omega) (by omega) (by have:=lE.o.size;omega)).mono ?_;rintro e w4 ⟨rfl,v4,Ds,vO⟩;have EQ:=U Ds;have Sv:=U vO;clear Ds vO))
   all_goals
    go_wp2_with fail
    go_ret
    exact⟨true,v4,fb.toList,rfl,EQ.o,((DF.ofBelow _ aA).trans (DF.ofBelow _ lE.o)).trans Sv.o,by rw[aO];exact JJ,by rw[OR.o];exact HU.o⟩
  ·rw[show m % 2=0 by omega] at ha
   have HU:=U (show (fC d).map (fun m=>Lib.itoa (qE m))=some (Lib.itoa ((m:Int) / 2)) by rw[show fC d=some m from HW.o,Option.map_some,AL K1]);have Ku:GJ ((m:Int) / 2):=by rw[← AL K1];exact Hk hm
   obtain⟨z,HZ⟩:∃ z:Int,Hid ((m:Int) / 2=z):=⟨_,U rfl⟩
   rw[HZ.o] at HU Ku;have hx:(m:Int) / 2=z:=HZ.o;clear pY K1;obtain⟨QR,Dg⟩:=Ku;have OR:=U (show (ByteArray.mk (Lib.itoa z).toArray).toList=Lib.itoa z by rw[ByteArray.toList_eq]);have VO:=U (Ho z ⟨QR,Dg⟩);obtain⟨fb,YZ⟩:∃ fb,Hid (ByteArray.mk (Lib.itoa z).toArray=fb):=⟨_,U rfl⟩
   rw[YZ.o] at OR;have JJ:fb.size≤20:=by rw[← aO,OR.o];exact VO.o
   go_wp2_with fail
   go_region_with (first | (go_at_call 146;refine(fu z QR Dg _ (CY.o.below (Below.refl _ _).drew).t).mono ?_;rintro e w3 ⟨rfl,kk,os,iK⟩;rw[YZ.o];have lE:=U (show Below w1.heap.size w1 w3 by rw[iK];exact pB _ _ _);clear iK) | (go_at_call 277;refine(iU _ db lo lv v L fb (H1.o.below lE.o) (by omega) (by omega) (by have:=lE.o.size;omega)).mono ?_;rintro e w4 ⟨rfl,v4,Ds,vO⟩;have EQ:=U Ds;have Sv:=U vO;clear Ds vO))
   all_goals
    go_wp2_with fail
    go_ret
    exact⟨true,v4,fb.toList,rfl,EQ.o,((DF.ofBelow _ aA).trans (DF.ofBelow _ lE.o)).trans Sv.o,by rw[aO];exact JJ,by rw[OR.o];exact HU.o⟩
end Go.Proofs.YtkpfplbmmglkkaaGreatDoor
