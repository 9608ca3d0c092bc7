/- Package numbers: Take, what it comes to (no walk). -/
import Derived.Test.YtolfcabodiphmaaGreatDoorV09
import Derived.Laws.Bits64b
import Derived.Lib.Builder
import Derived.Laws.Externs
set_option linter.unusedSimpArgs false
set_option linter.unusedVariables false
set_option maxHeartbeats 8000000
set_option maxRecDepth 100000
namespace Go.Proofs.YtolfcabodiphmaaGreatDoor
open Go.Proofs.Tryz
open Go.RowKit
def rW(t:List UInt8)(i acc:Nat):Prop:=acc<128 ^ i∧dR t=((dR (t.drop i)).bind fun x=>if 0<i∧x.1=0 then none else if acc+128 ^ i*x.1<18446744073709551616 then some (acc+128 ^ i*x.1,x.2) else none)
theorem rW.begin(t:List UInt8):rW t 0 0:=by
 refine⟨by decide,?_⟩
 rw[List.drop_zero]
 cases e:dR t with
 | none=>rfl
 | some x=>
  have:=(uZ (n:=x.1) (r:=x.2) e).2
  simp[this]
theorem qj(b:UInt8)(r:List UInt8):dR (b::r)=if b.toNat<128 then some (b.toNat,r) else match dR r with
  | none=>none
  | some x=>if x.1=0 then none else if (b.toNat-128)+128*x.1<18446744073709551616 then some ((b.toNat-128)+128*x.1,x.2) else none:=by rw[dR];rfl
theorem U2(i:Nat):(128:Nat) ^ (i+1)=128 ^ i*128:=Nat.pow_succ _ _
theorem vg(i:Nat):0<(128:Nat) ^ i:=Nat.pow_pos (by decide)
theorem rW.go{t:List UInt8}{i acc:Nat}(h:rW t i acc)(hi:i<t.length)(hb:128≤t[i].toNat)(hp:(t[i].toNat-128)*128 ^ i<18446744073709551616):rW t (i+1) (acc+(t[i].toNat-128)*128 ^ i):=by
 obtain⟨h1,h2⟩:=h
 have hlt:=t[i].toNat_lt
 have hpos:=vg i
 refine⟨?_,?_⟩
 ·rw[U2]
  have:(t[i].toNat-128)*128 ^ i≤127*128 ^ i:=Nat.mul_le_mul_right _ (by omega)
  omega
 ·rw[h2,List.drop_eq_getElem_cons hi,qj,if_neg (by omega)]
  cases e:dR (t.drop (i+1)) with
  | none=>rfl
  | some x=>
   obtain⟨m,r⟩:=x
   have hv:acc+128 ^ i*(t[i].toNat-128+128*m)=acc+(t[i].toNat-128)*128 ^ i+128 ^ (i+1)*m:=by
    rw[U2,Nat.mul_add,Nat.mul_comm (128 ^ i) (t[i].toNat-128),Nat.mul_assoc];omega
   dsimp only
   rw[Option.bind_some]
   dsimp only
   by_cases h0:m=0
   ·rw[if_pos h0,if_pos ⟨by omega,h0⟩];rfl
   ·have hR:¬ (0<i+1∧m=0):=by omega
    rw[if_neg h0,if_neg hR]
    by_cases hl:(t[i].toNat-128)+128*m<18446744073709551616
    ·rw[if_pos hl,Option.bind_some]
     dsimp only
     rw[if_neg (by omega),hv]
    ·have h3:(t[i].toNat-128+128*m)≤128 ^ i*(t[i].toNat-128+128*m):=Nat.le_mul_of_pos_left _ hpos
     rw[if_neg hl,if_neg (by omega)]
     rfl
theorem rW.over{t:List UInt8}{i acc:Nat}(h:rW t i acc)(hi:i<t.length)(hp:18446744073709551616≤(t[i].toNat % 128)*128 ^ i):dR t=none:=by
 obtain⟨h1,h2⟩:=h
 have hlt:=t[i].toNat_lt
 rw[h2,List.drop_eq_getElem_cons hi,qj]
 by_cases hb:t[i].toNat<128
 ·rw[if_pos hb]
  simp only[Option.bind_some]
  rw[Nat.mod_eq_of_lt hb,Nat.mul_comm] at hp
  split
  ·rfl
  ·rw[if_neg (by omega)]
 ·rw[if_neg hb]
  cases e:dR (t.drop (i+1)) with
  | none=>rfl
  | some x=>
   obtain⟨m,r⟩:=x
   simp only
   split
   ·rfl
   ·split
    ·simp only[Option.bind_some]
     have h3:(t[i].toNat % 128)*128 ^ i≤128 ^ i*(t[i].toNat-128+128*m):=by rw[Nat.mul_comm];exact Nat.mul_le_mul_left _ (by omega)
     rw[if_neg (by omega),if_neg (by omega)]
    ·rfl
theorem sum_lt{acc p i:Nat}(h1:acc<128 ^ i)(hp:p*128 ^ i<18446744073709551616)(hi9:i≤9):acc+p*128 ^ i<18446744073709551616:=by
 have e9:∀ j,j≤9→∃ q,18446744073709551616=128 ^ j*q:=fun j hj=>by
  match j,hj with
  | 0,_=>exact⟨18446744073709551616,by decide⟩
  | 1,_=>exact⟨144115188075855872,by decide⟩
  | 2,_=>exact⟨1125899906842624,by decide⟩
  | 3,_=>exact⟨8796093022208,by decide⟩
  | 4,_=>exact⟨68719476736,by decide⟩
  | 5,_=>exact⟨536870912,by decide⟩
  | 6,_=>exact⟨4194304,by decide⟩
  | 7,_=>exact⟨32768,by decide⟩
  | 8,_=>exact⟨256,by decide⟩
  | 9,_=>exact⟨2,by decide⟩
 obtain⟨q,hq⟩:=e9 i hi9
 have hxq:p<q:=by
  rw[hq,Nat.mul_comm] at hp
  exact Nat.lt_of_mul_lt_mul_left hp
 have:(p+1)*128 ^ i≤q*128 ^ i:=Nat.mul_le_mul_right _ hxq
 rw[Nat.add_mul,Nat.one_mul] at this
 rw[hq,Nat.mul_comm (128 ^ i) q]
 omega
theorem rW.last{t:List UInt8}{i acc:Nat}(h:rW t i acc)(hi:i<t.length)(hb:t[i].toNat<128)(hp:t[i].toNat*128 ^ i<18446744073709551616)(hi9:i≤9):dR t=if decide (0<t[i].toNat)||decide (i=0) then some (acc+t[i].toNat*128 ^ i,t.drop (i+1)) else none:=by
 obtain⟨h1,h2⟩:=h
 rw[h2,List.drop_eq_getElem_cons hi,qj,if_pos hb]
 simp only[Option.bind_some]
 have hs:acc+128 ^ i*t[i].toNat<18446744073709551616:=by rw[Nat.mul_comm];exact sum_lt h1 hp hi9
 by_cases hz:0<i∧t[i].toNat=0
 ·rw[if_pos hz]
  have:(decide (0<t[i].toNat)||decide (i=0))=false:=by simp;omega
  rw[this];rfl
 ·rw[if_neg hz,if_pos hs]
  have:(decide (0<t[i].toNat)||decide (i=0))=true:=by simp;omega
  rw[this,Nat.mul_comm];rfl
theorem rW.zero{t:List UInt8}{i acc:Nat}(h:rW t i acc)(hi:i<t.length)(hb:t[i].toNat=0)(h0:0<i):dR t=none:=by
 rw[h.2,List.drop_eq_getElem_cons hi,qj,if_pos (by omega)]
 simp only[Option.bind_some]
 rw[if_pos ⟨h0,hb⟩]
theorem rW.none{t:List UInt8}{i acc:Nat}(h:rW t i acc)(hi:t.length≤i):dR t=none:=by
 rw[h.2,List.drop_eq_nil_of_le hi];rfl
theorem QM(x:Nat)(h:x≤255):IntKind.u64.wrap (bits BinOp.andNot IntKind.u8 (x:Int) 128)=((x % 128:Nat):Int):=by
 have all:∀ a:Fin 256,IntKind.u64.wrap (bits BinOp.andNot IntKind.u8 ((a.val:Nat):Int) 128)=((a.val % 128:Nat):Int):=by decide +kernel
 exact all ⟨x,by omega⟩
theorem BN(i:Nat):(2:Nat) ^ (7*i)=128 ^ i:=by rw[Nat.pow_mul]
theorem abr(p i:Nat):IntKind.u64.wrap ((p:Int)*2 ^ (7*i))=((p*128 ^ i % 18446744073709551616:Nat):Int):=by
 rw[IntKind.wrap_u64,← BN,Int.natCast_emod,Int.natCast_mul,Int.natCast_pow];rfl
theorem U3(q i:Nat):(q:Int) / 2 ^ (7*i)=((q / 128 ^ i:Nat):Int):=by
 rw[← BN,Int.natCast_ediv,Int.natCast_pow];rfl
theorem U4(p i:Nat):(p*128 ^ i % 18446744073709551616) / 128 ^ i≠p↔18446744073709551616≤p*128 ^ i:=by
 have hpos:=vg i
 constructor
 ·intro h
  rcases Nat.lt_or_ge (p*128 ^ i) 18446744073709551616 with hl | hl
  ·rw[Nat.mod_eq_of_lt hl,Nat.mul_div_cancel _ hpos] at h
   exact absurd rfl h
  ·exact hl
 ·intro h e
  have h1:p*128 ^ i % 18446744073709551616<18446744073709551616:=Nat.mod_lt _ (by decide)
  have h2:=Nat.div_mul_le_self (p*128 ^ i % 18446744073709551616) (128 ^ i)
  rw[e] at h2
  omega
theorem abt{acc p i:Nat}(ha:acc<128 ^ i)(hq:p*128 ^ i<18446744073709551616)(hacc:acc<18446744073709551616):bits BinOp.or IntKind.u64 (acc:Int) ((p*128 ^ i:Nat):Int)=((acc+p*128 ^ i:Nat):Int):=by
 rw[bits_or_u64_nat _ _ hacc hq]
 congr 1
 rw[← BN] at ha ⊢
 rw[Nat.mul_comm p,Nat.or_comm,← Nat.two_pow_add_eq_or_of_lt ha,Nat.add_comm]
theorem U5(x y:Int)(h:64≤y):Op.shift BinOp.shl IntKind.u64 x IntKind.i64 y=pure (.int .u64 0):=by
 have hm:min y.toNat 64=64:=by omega
 have h0:¬ y<0:=by omega
 simp[Op.shift,IntKind.bits,hm,h0,IntKind.wrap_u64]
theorem U6(y:Int)(h:64≤y):Op.shift BinOp.shr IntKind.u64 0 IntKind.i64 y=pure (.int .u64 0):=by
 have hm:min y.toNat 64=64:=by omega
 have h0:¬ y<0:=by omega
 simp[Op.shift,IntKind.bits,hm,h0]
theorem abu{p i:Nat}(hp:p≠0)(hi:10≤i):18446744073709551616≤p*128 ^ i:=by
 have h1:(128:Nat) ^ 10≤128 ^ i:=Nat.pow_le_pow_right (by decide) hi
 have h2:(128:Nat) ^ 10=1180591620717411303424:=by decide
 have h3:1*128 ^ i≤p*128 ^ i:=Nat.mul_le_mul_right _ (by omega)
 omega
def pF(w:World)(v:Value)(L:List UInt8):Prop:=Rd w v L∧∃ a c,v=.slice a L.length c∧L.length≤c
def Jz(w:World)(v:Value)(L:List UInt8)(e:Ending)(w':World):Prop:=∃ (n:Nat) (a:Option Addr) (c:Nat) (R:List UInt8) (ok:Bool),e=.returned (.tuple #[.int .u64 n,.slice a R.length c,.bool ok])∧n<18446744073709551616∧pF w' (.slice a R.length c) R∧R.length≤L.length∧(∀ k,(Value.slice a R.length c).ownBlock=some k→v.ownBlock=some k)∧Below w.heap.size w w'∧dR L=(match ok with | true=>some (n,R) | false=>none)
theorem nV(w:World)(v:Value)(L:List UInt8)(h:pF w v L)(hl:L.length≤1000):
  Calls Tryz.prog 158 #[v] w (Jz w v L):=by
 obtain⟨hR,a,c,rfl,hc⟩:=h
 unfold Jz
 have HR:=hid hR
 clear hR
 go_enter func158,ntmps158
 go_wp2_with fail
 go_loopg [5,6,7,8,9,12] L.length (fun gk n5 i6 b7 p8 s9 i12 wr=>∃ (i acc:Nat),i+gk=L.length∧i12=.int .i64 i∧n5=.int .u64 acc∧acc<18446744073709551616∧Hid (rW L i acc)∧Below w.heap.size w wr)
 case atStart=>exact⟨0,0,by omega,rfl,rfl,by omega,hid (rW.begin L),Below.refl _ _⟩
 case round=>
  obtain⟨i,acc,hi,rfl,rfl,hacc,HT,hbel⟩:=hrel
  by_cases hlt:i<L.length
  ·obtain⟨b,o,c',hv,hb,hcell⟩:=(HR.out.later hbel).at (by omega)
   obtain⟨rfl,rfl⟩:a=some ⟨b,o,none⟩∧c=c':=by simpa using hv
   have hx:wr.cell? ⟨b,o+i,none⟩=some (.int .u8 (L[i].toNat:Int)):=hcell i hlt
   have Xr:=hid hcell
   clear hv hcell
   obtain⟨x,hxe⟩:∃ x,L[i].toNat=x:=⟨_,rfl⟩
   have HX:=hid hxe
   rw[hxe] at hx
   have hx255:x≤255:=by rw[← hxe];have:=L[i].toNat_lt;omega
   clear hxe
   have he1:=QM x hx255
   have aes:x % 128<128:=Nat.mod_lt _ (by decide)
   obtain⟨p,HP⟩:∃ p,Hid (x % 128=p):=⟨_,hid rfl⟩
   rw[HP.out] at he1 aes
   by_cases hi9:i≤9
   ·have he2:=abr p i
    by_cases hov:18446744073709551616≤p*128 ^ i
    ·have HN:=hid (HT.out.over hlt (by rw[HX.out,HP.out];exact hov))
     have he3:(((p*128 ^ i % 18446744073709551616:Nat):Int) / 2 ^ (7*i) != (p:Int))=true:=by
      rw[U3]
      have:=(U4 p i).2 hov
      rw[bne_iff_ne]
      exact fun e=>this (by exact_mod_cast e)
     generalize p*128 ^ i % 18446744073709551616=q at *
     clear hov
     go_wp2_with fail
     go_ret3
     exact⟨0,none,0,[],false,rfl,by omega,⟨Or.inl ⟨rfl,rfl⟩,none,0,rfl,by simp⟩,by simp,fun k hk=>by simp[Value.ownBlock] at hk,hbel,HN.out⟩
    ·have hq:p*128 ^ i<18446744073709551616:=by omega
     have he3:(((p*128 ^ i % 18446744073709551616:Nat):Int) / 2 ^ (7*i) != (p:Int))=false:=by
      rw[U3]
      have:(p*128 ^ i % 18446744073709551616) / 128 ^ i=p:=by
       rw[Nat.mod_eq_of_lt hq,Nat.mul_div_cancel _ (vg i)]
      rw[this];simp
     have he4:=abt HT.out.1 hq hacc
     rw[Nat.mod_eq_of_lt hq] at he2 he3
     have hsum:=sum_lt (acc:=acc) (p:=p) HT.out.1 hq hi9
     obtain⟨q,HQ⟩:∃ q,Hid (p*128 ^ i=q):=⟨_,hid rfl⟩
     rw[HQ.out] at he2 he3 he4 hq hsum
     clear hov
     by_cases hgo:x<128
     ·have aeu:(x:Int)<128:=by omega
      have hxp:x=p:=by rw[← HP.out];omega
      have HN:=hid (HT.out.last hlt (by rw[HX.out];exact hgo) (by rw[HX.out,hxp,HQ.out];exact hq) hi9)
      rw[HX.out,hxp,HQ.out] at HN
      have HPX:=hid hxp
      clear hxp
      have HRd:=hid (Rd.piece Xr.out (i+1) (L.length-(i+1)) (c-(i+1)) (by omega))
      have b1:(0:Int)≤(i:Int)+1:=by omega
      have b2:(i:Int)+1≤(L.length:Int):=by omega
      have adZ:IntKind.i64.wrap ((i:Int)+1)=(i:Int)+1:=by rw[IntKind.wrap_i64];omega
      by_cases hx0:0<x
      ·have U7:(0:Int)<(x:Int):=by omega
       have aev:decide ((0:Int)<(x:Int))=true:=by simpa using U7
       have HF:=hid (show dR L=some (acc+q,L.drop (i+1)) by
        rw[HN.out]
        have:(decide (0<p)||decide (i=0))=true:=by rw[← HPX.out];simp[hx0]
        rw[this];rfl)
       by_cases hcc:c=i+1
       ·have HDR:=hid (show L.drop (i+1)=[] from List.drop_eq_nil_of_le (by omega))
        have U8:L.length-(i+1)=0:=by omega
        subst hcc
        go_wp2_with fail
        (first | (go_region) | fail)
        all_goals
         go_wp2_with fail
         go_ret3
         exact⟨acc+q,some ⟨b,o,none⟩,0,[],true,by first | rfl | (rw[U8];push_cast;rfl) | (push_cast;simp[U8]),hsum,⟨Or.inr ⟨_,_,rfl,fun j u hu=>by simp at hu⟩,_,_,rfl,by simp⟩,by simp,fun k hk=>hk,hbel.drew,by first | rw[HF.out,HDR.out] | rw[HF.out]⟩
       ·have vw:=hid (show (L.drop (i+1)).length=L.length-(i+1) from List.length_drop)
        go_wp2_with fail
        (first | (go_region) | fail)
        all_goals
         go_wp2_with fail
         go_ret3
         refine⟨acc+q,some ⟨b,o+(i+1),none⟩,c-(i+1),L.drop (i+1),true,by rw[vw.out];first | rfl | (push_cast;rfl),hsum,⟨?_,_,_,rfl,by rw[vw.out];omega⟩,by rw[vw.out];omega,fun k hk=>hk,hbel.drew,by rw[HF.out]⟩
         have:=HRd.out
         rw[List.take_of_length_le (by rw[vw.out];exact Nat.le_refl _)] at this
         rw[vw.out]
         exact this.later (Below.refl _ _).drew
      ·have U7:¬ (0:Int)<(x:Int):=by omega
       have aev:decide ((0:Int)<(x:Int))=false:=by simpa using U7
       cases hib:((i:Int)==0) with
       | true=>
        have HF:=hid (show dR L=some (acc+q,L.drop (i+1)) by
         rw[HN.out]
         have h1:i=0:=by simpa using hib
         have:(decide (0<p)||decide (i=0))=true:=by simp[h1]
         rw[this];rfl)
        by_cases hcc:c=i+1
        ·have HDR:=hid (show L.drop (i+1)=[] from List.drop_eq_nil_of_le (by omega))
         have U8:L.length-(i+1)=0:=by omega
         subst hcc
         go_wp2_with fail
         (first | (go_region) | fail)
         all_goals
          go_wp2_with fail
          go_ret3
          exact⟨acc+q,some ⟨b,o,none⟩,0,[],true,by first | rfl | (rw[U8];push_cast;rfl) | (push_cast;simp[U8]),hsum,⟨Or.inr ⟨_,_,rfl,fun j u hu=>by simp at hu⟩,_,_,rfl,by simp⟩,by simp,fun k hk=>hk,hbel.drew,by first | rw[HF.out,HDR.out] | rw[HF.out]⟩
        ·have vw:=hid (show (L.drop (i+1)).length=L.length-(i+1) from List.length_drop)
         go_wp2_with fail
         (first | (go_region) | fail)
         all_goals
          go_wp2_with fail
          go_ret3
          refine⟨acc+q,some ⟨b,o+(i+1),none⟩,c-(i+1),L.drop (i+1),true,by rw[vw.out];first | rfl | (push_cast;rfl),hsum,⟨?_,_,_,rfl,by rw[vw.out];omega⟩,by rw[vw.out];omega,fun k hk=>hk,hbel.drew,by rw[HF.out]⟩
          have:=HRd.out
          rw[List.take_of_length_le (by rw[vw.out];exact Nat.le_refl _)] at this
          rw[vw.out]
          exact this.later (Below.refl _ _).drew
       | false=>
        have HF:=hid (show dR L=none by
         rw[HN.out]
         have h1:¬ i=0:=by simpa using hib
         have:(decide (0<p)||decide (i=0))=false:=by rw[← HPX.out];simp[hx0,h1]
         rw[this];rfl)
        by_cases hcc:c=i+1
        ·have HDR:=hid (show L.drop (i+1)=[] from List.drop_eq_nil_of_le (by omega))
         have U8:L.length-(i+1)=0:=by omega
         subst hcc
         go_wp2_with fail
         (first | (go_region) | fail)
         all_goals
          go_wp2_with fail
          go_ret3
          exact⟨acc+q,some ⟨b,o,none⟩,0,[],false,by first | rfl | (rw[U8];push_cast;rfl) | (push_cast;simp[U8]),hsum,⟨Or.inr ⟨_,_,rfl,fun j u hu=>by simp at hu⟩,_,_,rfl,by simp⟩,by simp,fun k hk=>hk,hbel.drew,by first | rw[HF.out,HDR.out] | rw[HF.out]⟩
        ·have vw:=hid (show (L.drop (i+1)).length=L.length-(i+1) from List.length_drop)
         go_wp2_with fail
         (first | (go_region) | fail)
         all_goals
          go_wp2_with fail
          go_ret3
          refine⟨acc+q,some ⟨b,o+(i+1),none⟩,c-(i+1),L.drop (i+1),false,by rw[vw.out];first | rfl | (push_cast;rfl),hsum,⟨?_,_,_,rfl,by rw[vw.out];omega⟩,by rw[vw.out];omega,fun k hk=>hk,hbel.drew,by rw[HF.out]⟩
          have:=HRd.out
          rw[List.take_of_length_le (by rw[vw.out];exact Nat.le_refl _)] at this
          rw[vw.out]
          exact this.later (Below.refl _ _).drew
     ·have aeu:¬ (x:Int)<128:=by omega
      have HN:=hid (show rW L (i+1) (acc+q) by
       have:=HT.out.go hlt (by rw[HX.out];omega) (by rw[HX.out,show x-128=p by rw[← HP.out];omega,HQ.out];exact hq)
       rw[HX.out,show x-128=p by rw[← HP.out];omega,HQ.out] at this
       exact this)
      obtain⟨acc',HA⟩:∃ a',Hid (acc+q=a'):=⟨_,hid rfl⟩
      rw[HA.out] at he4 HN hsum
      go_wp2_with fail
      go_roundg (gk-1)
      case rel=>exact⟨i+1,acc',by omega,by go_num,rfl,hsum,HN,hbel⟩
      case measure=>omega
   ·have hbig:(64:Int)≤7*(i:Int):=by omega
    have hs1:∀ z:Int,Op.shift BinOp.shl IntKind.u64 z IntKind.i64 (7*(i:Int))=pure (.int .u64 0):=fun z=>U5 z _ hbig
    have hs2:Op.shift BinOp.shr IntKind.u64 0 IntKind.i64 (7*(i:Int))=pure (.int .u64 0):=U6 _ hbig
    clear hbig
    by_cases hp0:p=0
    ·subst hp0
     have he0:((0:Nat):Int)=0:=rfl
     rw[he0] at he1
     have he4:bits BinOp.or IntKind.u64 (acc:Int) 0=(acc:Int):=by
      have:=bits_or_u64_nat acc 0 hacc (by decide)
      simpa using this
     by_cases hgo:x<128
     ·have aeu:(x:Int)<128:=by omega
      have aew:x=0:=by have:=HP.out;omega
      have HF:=hid (HT.out.zero hlt (by rw[HX.out];exact aew) (by omega))
      have HRd:=hid (Rd.piece Xr.out (i+1) (L.length-(i+1)) (c-(i+1)) (by omega))
      have b1:(0:Int)≤(i:Int)+1:=by omega
      have b2:(i:Int)+1≤(L.length:Int):=by omega
      have adZ:IntKind.i64.wrap ((i:Int)+1)=(i:Int)+1:=by rw[IntKind.wrap_i64];omega
      have U7:¬ (0:Int)<(x:Int):=by omega
      have aev:decide ((0:Int)<(x:Int))=false:=by simpa using U7
      have hib:((i:Int)==0)=false:=by simp;omega
      clear he0
      subst aew
      by_cases hcc:c=i+1
      ·have U8:L.length-(i+1)=0:=by omega
       subst hcc
       go_wp2_with fail
       (first | (go_region) | fail)
       all_goals
        go_wp2_with fail
        go_ret3
        exact⟨acc,some ⟨b,o,none⟩,0,[],false,by first | rfl | (rw[U8];push_cast;rfl) | (push_cast;simp[U8]),hacc,⟨Or.inr ⟨_,_,rfl,fun j u hu=>by simp at hu⟩,_,_,rfl,by simp⟩,by simp,fun k hk=>hk,hbel.drew,by rw[HF.out]⟩
      ·have vw:=hid (show (L.drop (i+1)).length=L.length-(i+1) from List.length_drop)
       go_wp2_with fail
       (first | (go_region) | fail)
       all_goals
        go_wp2_with fail
        go_ret3
        refine⟨acc,some ⟨b,o+(i+1),none⟩,c-(i+1),L.drop (i+1),false,by rw[vw.out];first | rfl | (push_cast;rfl),hacc,⟨?_,_,_,rfl,by rw[vw.out];omega⟩,by rw[vw.out];omega,fun k hk=>hk,hbel.drew,by rw[HF.out]⟩
        have:=HRd.out
        rw[List.take_of_length_le (by rw[vw.out];exact Nat.le_refl _)] at this
        rw[vw.out]
        exact this.later (Below.refl _ _).drew
     ·have hx128:x=128:=by have:=HP.out;omega
      have HN:=hid (show rW L (i+1) acc by
       have hz:L[i].toNat-128=0:=by rw[HX.out];have:=HP.out;omega
       have:=HT.out.go hlt (by rw[HX.out];omega) (by rw[hz];omega)
       rw[hz] at this
       simpa using this)
      clear he0
      subst hx128
      go_wp2_with fail
      go_roundg (gk-1)
      case rel=>exact⟨i+1,acc,by omega,by go_num,rfl,hacc,HN,hbel⟩
      case measure=>omega
    ·have HN:=hid (HT.out.over hlt (by rw[HX.out,HP.out];exact abu hp0 (by omega)))
     have hpB:((0:Int) != (p:Int))=true:=by simp;omega
     go_wp2_with fail
     go_ret3
     exact⟨0,none,0,[],false,rfl,by omega,⟨Or.inl ⟨rfl,rfl⟩,none,0,rfl,by simp⟩,by simp,fun k hk=>by simp[Value.ownBlock] at hk,hbel,HN.out⟩
  ·have HN:=hid (HT.out.none (by omega))
   go_wp2_with fail
   go_ret3
   exact⟨0,none,0,[],false,rfl,by omega,⟨Or.inl ⟨rfl,rfl⟩,none,0,rfl,by simp⟩,by simp,fun k hk=>by simp[Value.ownBlock] at hk,hbel,HN.out⟩
def EZ(w:World)(v:Value)(L:List UInt8)(e:Ending)(w':World):Prop:=∃ (a a2:Option Addr) (c c2:Nat) (V R:List UInt8) (ok:Bool),e=.returned (.tuple #[.slice a V.length c,.slice a2 R.length c2,.bool ok])∧pF w' (.slice a V.length c) V∧pF w' (.slice a2 R.length c2) R∧V.length+R.length≤L.length∧(∀ k,(Value.slice a V.length c).ownBlock=some k→v.ownBlock=some k)∧(∀ k,(Value.slice a2 R.length c2).ownBlock=some k→v.ownBlock=some k)∧Below w.heap.size w w'∧takeC L=(match ok with | true=>some (V,R) | false=>none)
theorem qF(w:World)(v:Value)(L:List UInt8)(h:pF w v L)(hl:L.length≤1000):
  Calls Tryz.prog 268 #[v] w (EZ w v L):=by
 unfold EZ
 have H:=hid h
 clear h
 obtain⟨va,vc,hv⟩:∃ a c,v=.slice a L.length c:=H.out.1.slice
 subst hv
 go_enter func268,ntmps268
 go_wp2_with fail
 refine(nV w _ L H.out hl).mono ?_;rintro e w1 ⟨n,a,c,R,ok,rfl,hn,hR,hRl,hblk,hb1,htk⟩
 have HR:=hid hR
 have II:=hid hblk
 have pz:=hid htk
 clear hR hblk htk
 cases ok with
 | false=>
  have HN:=hid (show takeC L=none by unfold takeC;rw[pz.out];rfl)
  go_wp2_with fail
  go_ret3
  exact⟨none,none,0,0,[],[],false,rfl,⟨Or.inl ⟨rfl,rfl⟩,none,0,rfl,by simp⟩,⟨Or.inl ⟨rfl,rfl⟩,none,0,rfl,by simp⟩,by simp,fun k hk=>by simp[Value.ownBlock] at hk,fun k hk=>by simp[Value.ownBlock] at hk,hb1,HN.out⟩
 | true=>
  have ak1:IntKind.u64.wrap (R.length:Int)=(R.length:Int):=by rw[IntKind.wrap_u64];omega
  by_cases hnl:n≤R.length
  ·have aex:¬ (R.length:Int)<(n:Int):=by omega
   have am2:decide ((R.length:Int)<(n:Int))=false:=by simpa using aex
   have HN:=hid (show takeC L=some (R.take n,R.drop n) by unfold takeC;rw[pz.out];simp[hnl])
   obtain⟨hR1,a',c',hac,hRc⟩:=HR.out
   obtain⟨rfl,rfl⟩:a=a'∧c=c':=by simpa using hac
   clear hac
   rcases hR1 with⟨hnil,hRn⟩ | ⟨ad,c'',hsome,hcells⟩
   ·obtain⟨rfl,rfl⟩:a=none∧c=0:=by
     subst hRn;simpa using hnil
    subst hRn
    obtain rfl:n=0:=by simpa using hnl
    go_wp2_with fail
    (first | (go_region) | fail)
    all_goals
     go_wp2_with fail
     go_ret3
     exact⟨none,none,0,0,[],[],true,rfl,⟨Or.inl ⟨rfl,rfl⟩,none,0,rfl,by simp⟩,⟨Or.inl ⟨rfl,rfl⟩,none,0,rfl,by simp⟩,by simp,fun k hk=>by simp[Value.ownBlock] at hk,fun k hk=>by simp[Value.ownBlock] at hk,hb1.drew,by rw[HN.out];simp⟩
   ·obtain⟨rfl,rfl⟩:a=some ad∧c=c'':=by simpa using hsome
    clear hsome
    have HC:=hid hcells
    clear hcells
    by_cases hR0:R.length=0
    ·have hRn:R=[]:=List.eq_nil_of_length_eq_zero hR0
     subst hRn
     obtain rfl:n=0:=by simpa using hnl
     by_cases hc0:c=0
     ·subst hc0
      go_wp2_with fail
      (first | (go_region) | fail)
      all_goals
       go_wp2_with fail
       go_ret3
       exact⟨some ad,some ad,0,0,[],[],true,rfl,⟨Or.inr ⟨_,_,rfl,fun j u hu=>by simp at hu⟩,_,_,rfl,by simp⟩,⟨Or.inr ⟨_,_,rfl,fun j u hu=>by simp at hu⟩,_,_,rfl,by simp⟩,by simp,II.out,II.out,hb1.drew,by rw[HN.out];simp⟩
     ·go_wp2_with fail
      (first | (go_region) | fail)
      all_goals
       go_wp2_with fail
       go_ret3
       exact⟨some ad,_,c,c,[],[],true,rfl,⟨Or.inr ⟨_,_,rfl,fun j u hu=>by simp at hu⟩,_,_,rfl,by simp⟩,⟨Or.inr ⟨_,_,rfl,fun j u hu=>by simp at hu⟩,_,_,rfl,by simp⟩,by simp,II.out,fun k hk=>II.out k (by simpa[Value.ownBlock] using hk),hb1.drew,by rw[HN.out];simp⟩
    ·obtain⟨b,o,c3,hv3,hbb,hcell⟩:=(show Rd w1 (.slice (some ad) R.length c) R from Or.inr ⟨ad,c,rfl,HC.out⟩).at (by omega)
     obtain⟨rfl,rfl⟩:ad=⟨b,o,none⟩∧c=c3:=by simpa using hv3
     have jJ:=hid (Rd.piece hcell 0 n c (by omega))
     have HP2:=hid (Rd.piece hcell n (R.length-n) (c-n) (by omega))
     have Oj:=hid (show (R.take n).length=n by rw[List.length_take];omega)
     have HL2:=hid (show (R.drop n).length=R.length-n from List.length_drop)
     clear hv3 hcell
     by_cases hcc:c=n
     ·have HRn:=hid (show R.drop n=[] from List.drop_eq_nil_of_le (by omega))
      have hz:R.length-n=0:=by omega
      subst hcc
      go_wp2_with fail
      (first | (go_region) | fail)
      all_goals
       go_wp2_with fail
       go_ret3
       refine⟨some ⟨b,o,none⟩,some ⟨b,o,none⟩,c,0,R.take c,[],true,by rw[Oj.out];rfl,⟨?_,_,_,rfl,by rw[Oj.out];omega⟩,⟨Or.inr ⟨_,_,rfl,fun j u hu=>by simp at hu⟩,_,_,rfl,by simp⟩,by rw[Oj.out];simp;omega,fun k hk=>II.out k hk,fun k hk=>II.out k hk,hb1.drew,by rw[HN.out,HRn.out]⟩
       rw[Oj.out]
       exact jJ.out.later (Below.refl _ _).drew
     ·go_wp2_with fail
      (first | (go_region) | fail)
      all_goals
       go_wp2_with fail
       go_ret3
       refine⟨some ⟨b,o,none⟩,some ⟨b,o+n,none⟩,c,c-n,R.take n,R.drop n,true,by rw[Oj.out,HL2.out];rfl,⟨?_,_,_,rfl,by rw[Oj.out];omega⟩,⟨?_,_,_,rfl,by rw[HL2.out];omega⟩,by rw[Oj.out,HL2.out];omega,fun k hk=>II.out k hk,fun k hk=>II.out k hk,hb1.drew,by rw[HN.out]⟩
       ·rw[Oj.out]
        exact jJ.out.later (Below.refl _ _).drew
       ·rw[HL2.out]
        have:=HP2.out
        rw[List.take_of_length_le (by rw[HL2.out];exact Nat.le_refl _)] at this
        exact this.later (Below.refl _ _).drew
  ·have aex:(R.length:Int)<(n:Int):=by omega
   have HN:=hid (show takeC L=none by unfold takeC;rw[pz.out];simp[hnl])
   go_wp2_with fail
   go_ret3
   exact⟨none,none,0,0,[],[],false,rfl,⟨Or.inl ⟨rfl,rfl⟩,none,0,rfl,by simp⟩,⟨Or.inl ⟨rfl,rfl⟩,none,0,rfl,by simp⟩,by simp,fun k hk=>by simp[Value.ownBlock] at hk,fun k hk=>by simp[Value.ownBlock] at hk,hb1,HN.out⟩
def BO(w:World)(L:List UInt8)(e:Ending)(w':World):Prop:=∃ (n:Nat) (ok:Bool),e=.returned (.tuple #[.int .u64 n,.bool ok])∧n<18446744073709551616∧Below w.heap.size w w'∧gX L=(match ok with | true=>some n | false=>none)
theorem qG(w:World)(v:Value)(L:List UInt8)(h:pF w v L)(hl:L.length≤1000):
  Calls Tryz.prog 252 #[v] w (BO w L):=by
 unfold BO
 have H:=hid h
 clear h
 obtain⟨va,vc,hv⟩:∃ a c,v=.slice a L.length c:=H.out.1.slice
 subst hv
 go_enter func252,ntmps252
 go_wp2_with fail
 refine(nV w _ L H.out hl).mono ?_;rintro e w1 ⟨n,a,c,R,ok,rfl,hn,hR,hRl,hblk,hb1,htk⟩
 have pz:=hid htk
 clear hR hblk htk
 cases ok with
 | false=>
  have HN:=hid (show gX L=none by unfold gX;rw[pz.out];rfl)
  go_wp2_with fail
  go_ret2
  exact⟨n,false,rfl,hn,hb1,HN.out⟩
 | true=>
  cases hz:((R.length:Int)==0) with
  | true=>
   have HN:=hid (show gX L=some n by
    unfold gX;rw[pz.out]
    have:R=[]:=List.eq_nil_of_length_eq_zero (by simpa using hz)
    simp[this])
   go_wp2_with fail
   go_ret2
   exact⟨n,true,rfl,hn,hb1,HN.out⟩
  | false=>
   have HN:=hid (show gX L=none by
    unfold gX;rw[pz.out]
    have:¬ R=[]:=fun e=>by rw[e] at hz;simp at hz
    simp[this])
   go_wp2_with fail
   go_ret2
   exact⟨n,false,rfl,hn,hb1,HN.out⟩
def Dc(w:World)(db:Nat)(lv:Value)(p:Option Addr)(v:Value):Prop:=w.heap[db]? = some (.cells #[lv,.pointer p,v] 296 (0,0))
theorem Dc.seg{w:World}{db:Nat}{lv v:Value}{p:Option Addr}(h:Dc w db lv p v):Seg w db 296 0 [lv,.pointer p,v]:=⟨_,h,by simp,by simp⟩
theorem Dc.lt{w:World}{db:Nat}{lv v:Value}{p:Option Addr}(h:Dc w db lv p v):db<w.heap.size:=h.seg.lt
theorem Dc.same{w w':World}{db:Nat}{lv v:Value}{p:Option Addr}(h:Dc w db lv p v)(hb:w'.heap[db]? = w.heap[db]?):Dc w' db lv p v:=hb.trans h
theorem Dc.ahY{w:World}{db:Nat}{lv v:Value}{p:Option Addr}(h:Dc w db lv p v)(q:Option Addr):Dc (w.setCell ⟨db,1,none⟩ (.pointer q)) db lv q v:=heap_setCell_same w db 1 _ _ _ h
theorem Dc.abv{w:World}{db:Nat}{lv v:Value}{p:Option Addr}(h:Dc w db lv p v)(u:Value):Dc (w.setCell ⟨db,2,none⟩ u) db lv p u:=heap_setCell_same w db 2 _ _ _ h
theorem Tryz.infoBld:(Tryz.prog.info? 294).map (·.size)=some 2:=by kernel_rfl
theorem Yq:liesAt Tryz.prog Tryz.prog.depth 296 (3 / Tryz.prog.cellsOf 296) 1 294 1=true:=by kernel_rfl
theorem oC(w:World)(db:Nat)(lv v:Value)(p:Option Addr)(hp:p=none∨p=some ⟨db,1,none⟩)(h:Dc w db lv p v):
  Calls Tryz.prog 267 #[.pointer (some ⟨db,1,none⟩)] w fun e w'=>e=.returned (.tuple #[])∧Dc w' db lv (some ⟨db,1,none⟩) v∧But db w w':=by
 obtain⟨j,hj,hjs⟩:=Option.map_eq_some_iff.1 Tryz.infoBld
 have c1:=h.seg.cell (j:=1) rfl
 have f1:=h.seg.frozen 1
 simp only[Nat.zero_add] at c1
 have hsh:w.shape? db=some (296,3):=by unfold World.shape?;rw[h];rfl
 have H:=hid h
 clear h
 rcases hp with rfl | rfl
 ·go_enter func267,ntmps267
  go_wp2_with fail
  rw[Lib.run_to_unsafe w ⟨db,1,none⟩ underlying292 underlying372 hj (by rw[hjs];decide) hsh (by show 1<3;omega)]
  simp only[Result.andThen]
  rw[Oper.upon_value]
  go_wp2_with fail
  rw[run_callFunc_extern func273 (by kernel_rfl) (by kernel_rfl) (by kernel_rfl) (e:=Extern.AbiNoEscape.same) (by kernel_rfl)]
  rw[Lib.run_noEscape]
  simp only[Result.andThen]
  rw[Oper.upon_value]
  go_wp2_with fail
  rw[Lib.run_from_unsafe w ⟨db,1,none⟩ underlying372 underlying292 hj hsh Yq]
  simp only[Result.andThen]
  rw[Oper.upon_value]
  go_wp2_with fail
  go_end0
  exact⟨rfl,H.out.ahY _,(But.refl _ _).setCell _ _⟩
 ·go_enter func267,ntmps267
  go_wp2_with fail
  rw[Lib.run_neq_ptr_same w _ underlying292 hj]
  go_wp2_with fail
  go_end0
  exact⟨rfl,H.out,But.refl _ _⟩
def OA(lo:Nat)(w:World)(k:Nat):Prop:=k<lo∨∃ cur T,w.heap[k]? = some (.cells cur T (0,0))∧T ≠ 5
structure DF(db lo:Nat)(w w':World):Prop where
 os:w'.os=w.os
 tape:w'.tape=w.tape
 output:w'.output=w.output
 size:w.heap.size≤w'.heap.size
 block:∀ k,k<w.heap.size→k≠db→OA lo w k→w'.heap[k]? = w.heap[k]?
theorem DF.refl(db lo:Nat)(w:World):DF db lo w w:=⟨rfl,rfl,rfl,Nat.le_refl _,fun _ _ _ _=>rfl⟩
theorem OA.on{lo k:Nat}{w w':World}(h:OA lo w k)(e:w'.heap[k]? = w.heap[k]?):OA lo w' k:=by
 rcases h with h | ⟨cur,T,h1,h2⟩
 ·exact Or.inl h
 ·exact Or.inr ⟨cur,T,e.trans h1,h2⟩
theorem DF.trans{db lo:Nat}{a b c:World}(h:DF db lo a b)(k:DF db lo b c):DF db lo a c :=
 ⟨k.os.trans h.os,k.tape.trans h.tape,k.output.trans h.output,Nat.le_trans h.size k.size,fun q hq hd hu=>by
  have h1:=h.block q hq hd hu
  rw[k.block q (Nat.lt_of_lt_of_le hq h.size) hd (hu.on h1)]
  exact h1⟩
theorem DF.jy{db:Nat}{w w':World}(lo:Nat)(h:But db w w'):DF db lo w w':=⟨h.os,h.tape,h.output,h.size,fun k hk hd _=>h.block k hk hd⟩
theorem DF.bG{db:Nat}{w w':World}(lo:Nat)(h:Below w.heap.size w w'):DF db lo w w':=DF.jy lo (But.bG h)
theorem DF.GY{db lo:Nat}{w w':World}{v:Value}{L:List UInt8}(hB:gZ w lo v L)(h:w.grownBy w' v.ownBlock):DF db lo w w':=⟨h.os,h.tape,h.output,h.size,fun k hk _ hv=>h.block k hk (fun e=>by
 rcases hv with hv | ⟨cur,T,h1,h2⟩
 ·have:=(hB.lt k e.symm).1;omega
 ·obtain⟨cur',hc⟩:=mM hB e.symm
  rw[h1] at hc;simp at hc;exact h2 hc.2)⟩
theorem DF.own{db lo lo':Nat}{w w':World}{e:TypeId}{size n:Nat}{v:Value}{xs:List Value}(h:DF db lo w w')(ho:w.ownsRow lo' e size v n xs)(he:e ≠ 5)(hd:∀ g,v.ownBlock=some g→g≠db):w'.ownsRow lo' e size v n xs :=
 aC ho (fun g hg=>h.block g (ho.lt g hg).2 (hd g hg) (Or.inr (by obtain⟨cur,hc⟩:=mM ho hg;exact⟨cur,e,hc,he⟩)))
structure yH(w:World)(db lo:Nat)(lv v:Value)(L:List UInt8):Prop where
 d:∃ p,(p=none∨p=some ⟨db,1,none⟩)∧Dc w db lv p v
 o:gZ w lo v L
theorem yH.lt{w:World}{db lo:Nat}{lv v:Value}{L:List UInt8}(h:yH w db lo lv v L):db<w.heap.size:=by obtain⟨p,_,h⟩:=h.d;exact h.lt
theorem yH.ne{w:World}{db lo:Nat}{lv v:Value}{L:List UInt8}(h:yH w db lo lv v L):v.ownBlock≠some db:=fun e=>by
 obtain⟨p,_,hd⟩:=h.d
 exact dM h.o hd.seg (by decide) e rfl
theorem yH.below{w w':World}{db lo:Nat}{lv v:Value}{L:List UInt8}(h:yH w db lo lv v L)(hb:Below w.heap.size w w'):yH w' db lo lv v L :=
 ⟨by obtain⟨p,hp,hd⟩:=h.d;exact⟨p,hp,hd.same (hb.block db hd.lt)⟩,h.o.same hb⟩
def zA(w:World)(db lo:Nat)(lv:Value)(L:List UInt8)(w':World):Prop:=∃ v',yH w' db lo lv v' L∧DF db lo w w'
theorem fA(w:World)(db lo:Nat)(lv v:Value)(L:List UInt8)(c:UInt8)(z:Int)(hz:z=(c.toNat:Int))(h:yH w db lo lv v L)(hl:L.length≤1000000000)(hlo:lo≤w.heap.size):
  Calls Tryz.prog 254 #[.pointer (some ⟨db,1,none⟩),.int .u8 z] w fun e w'=>e=.returned .nilIface∧zA w db lo lv (L++[c]) w':=by
 unfold zA
 obtain⟨la,lc,hlv⟩:∃ a c,v=.slice a L.length c:=ay h.o
 obtain⟨p,hp,hd⟩:=h.d
 have HO:=hid h.o
 have HD:=hid hd
 subst hlv
 clear h hd
 go_enter func254,ntmps254
 go_wp2_with fail
 refine(oC w db lv _ p hp HD.out).mono ?_;rintro e w1 ⟨rfl,hd1,hb1⟩
 have HD1:=hid hd1
 have BP:=hid (HO.out.but (show Seg _ _ _ _ _ from HD.out.seg) (by decide) hb1)
 have c2:=hd1.seg.cell (j:=2) rfl
 have f2:=hd1.seg.frozen 2
 simp only[Nat.zero_add] at c2
 have hz1:=hb1.size
 clear hd1
 go_wp2_with (at_builtin;refine fB _ rfl _ _ rfl _ L lo rfl (BP.out.same ((Below.refl _ _).alloc (Nat.le_refl _) _)) _ [c] _ rfl (sS _ _ _ (by first | rfl | exact hz)) (by simp;omega) (by simp;omega) ?_)
 intro a5 c5 w5 hb5 hg5
 have HG5:=hid ((Grew.call ((Below.refl _ _).alloc (Nat.le_refl _) _)).trans hg5:Grew w1 w5 (.slice la L.length lc) (.slice a5 (L.length+1) c5))
 have E5:=hid hb5
 have hd5:Dc w5 db lv (some ⟨db,1,none⟩) (.slice la L.length lc):=HD1.out.same (HG5.out.g.block db HD1.out.lt (fun e=>dM BP.out HD1.out.seg (by decide) e.symm rfl))
 have c5':=hd5.seg.cell (j:=2) rfl
 have f5:=hd5.seg.frozen 2
 simp only[Nat.zero_add] at c5'
 have HD5:=hid hd5
 clear hb5 hg5 hd5 c2 f2
 go_wp2_with fail
 go_ret
 refine⟨rfl,.slice a5 (L.length+1) c5,⟨⟨_,Or.inr rfl,HD5.out.abv _⟩,?_⟩,((DF.jy _ hb1).trans (DF.GY BP.out HG5.out.g)).trans ((DF.jy _ ((But.refl _ _).setCell _ _)))⟩
 exact aC E5.out (fun g hg=>Below.heap_setCell _ _ _ _ (dM E5.out HD5.out.seg (by decide) hg))
theorem xA(w:World){ops:Array Oper}{rest:List Oper}{o:Oper}{a:Act}{Q:Exit→Act→World→Prop}(hgd:o.guard=none)(sl x:Operand)
  (ho:o.op=.call { callee:=.builtin .append,args:=#[sl,x],argTypes:=#[64,9] }) (v:Value) (L:List UInt8) (lo:Nat) (hs:a.eval sl=v) (hP:gZ w lo v L) (s:ByteArray) (hx:a.eval x=.string s) (hsl:s.size≤1000000000) (hl:L.length≤1000000000) (hlo:lo≤w.heap.size) (M:List UInt8) (hM:L++s.toList=M)
  (h:∀ a' c' w',gZ w' lo (.slice a' M.length c') M→w.grownBy w' v.ownBlock→wpList Tryz.prog ops Q rest (a.put o.dst (.slice a' M.length c')) w'):wpList Tryz.prog ops Q (o::rest) a w:=by
 obtain⟨iI,uS,hI0,hI1,hI2⟩:=info_parts Tryz.infoByte
 refine Lib.wpList_append_own_string w hgd sl x 64 9 ho lo 5 iI underlying64 underlying9 uS hI0 hI1 hI2 v L.length (L.map aZ) hs hP s hx (by unfold maxLen;omega) (by omega) hlo ?_
 intro v' w' ho' hg' _
 have hz:=aF s
 rw[xw,← List.map_append,← hz,← List.length_append,hM] at ho'
 obtain⟨a',c',rfl⟩:=ay ho'
 exact h a' c' w' ho' hg'
theorem jC(w:World)(db lo:Nat)(lv v:Value)(L:List UInt8)(s:ByteArray)(h:yH w db lo lv v L)(hl:L.length≤1000000000)(hs:s.size≤1000000000)(hlo:lo≤w.heap.size):
  Calls Tryz.prog 253 #[.pointer (some ⟨db,1,none⟩),.string s] w fun e w'=>e=.returned (.tuple #[.int .i64 s.size,.nilIface])∧zA w db lo lv (L++s.toList) w':=by
 unfold zA
 obtain⟨T,HT⟩:∃ T,Hid (L++s.toList=T):=⟨_,hid rfl⟩
 rw[HT.out]
 obtain⟨la,lc,hlv⟩:∃ a c,v=.slice a L.length c:=ay h.o
 obtain⟨p,hp,hd⟩:=h.d
 have HO:=hid h.o
 have HD:=hid hd
 subst hlv
 clear h hd
 go_enter func253,ntmps253
 go_wp2_with fail
 refine(oC w db lv _ p hp HD.out).mono ?_;rintro e w1 ⟨rfl,hd1,hb1⟩
 have HD1:=hid hd1
 have BP:=hid (HO.out.but (show Seg _ _ _ _ _ from HD.out.seg) (by decide) hb1)
 have c2:=hd1.seg.cell (j:=2) rfl
 have f2:=hd1.seg.frozen 2
 simp only[Nat.zero_add] at c2
 have hz1:=hb1.size
 clear hd1
 go_wp2_with (at_builtin;refine xA _ rfl _ _ rfl _ L lo rfl BP.out s rfl hs hl (by omega) T HT.out ?_)
 intro a5 c5 w5 hb5 hg5
 have HG5:=hid hg5
 have E5:=hid hb5
 have hd5:Dc w5 db lv (some ⟨db,1,none⟩) (.slice la L.length lc):=HD1.out.same (hg5.block db HD1.out.lt (fun e=>dM BP.out HD1.out.seg (by decide) e.symm rfl))
 have c5':=hd5.seg.cell (j:=2) rfl
 have f5:=hd5.seg.frozen 2
 simp only[Nat.zero_add] at c5'
 have HD5:=hid hd5
 clear hb5 hg5 hd5 c2 f2
 go_wp2_with fail
 go_ret2
 refine⟨rfl,.slice a5 T.length c5,⟨⟨_,Or.inr rfl,HD5.out.abv _⟩,?_⟩,((DF.jy _ hb1).trans (DF.GY BP.out HG5.out)).trans ((DF.jy _ ((But.refl _ _).setCell _ _)))⟩
 exact aC E5.out (fun g hg=>Below.heap_setCell _ _ _ _ (dM E5.out HD5.out.seg (by decide) hg))
end Go.Proofs.YtolfcabodiphmaaGreatDoor
