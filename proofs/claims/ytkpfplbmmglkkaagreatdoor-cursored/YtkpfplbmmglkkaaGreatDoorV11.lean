/- Bytes in memory: small numbers put behind bytes, by the program and by the reference. -/
import Derived.Test.YtkpfplbmmglkkaaGreatDoorV09
import Derived.Test.YtkpfplbmmglkkaaGreatDoorV10
import Derived.Shelf.Strings.SlTrimAscii
import Derived.Laws.Bits64
set_option linter.all false
set_option maxHeartbeats 1000000
set_option maxRecDepth 100000
namespace Go.Proofs.YtkpfplbmmglkkaaGreatDoor
open Go.Proofs.Tryz
variable {m lo cb eb b j:Nat}{c:UInt8}{w w' w0 wx:World}{v v' lv:Value}{L T p out T1:List UInt8}{t s t1:ByteArray}{n:Int}{f:FD}{X:List PIV}{G:qv}{fs:List FD}{first:Bool}{e:Ending}
open Go.RowKit
theorem qx:∀ (k n:Nat),n<128 ^ (k+1)→(eV n).length≤k+1
 | 0,n,h=>by rw[mQ (by simpa using h)];simp
 | k+1,n,h=>by
  by_cases h':n<128
  ·rw[mQ h'];simp
  ·rw[qY h',List.length_cons]
   have:=qx k (n / 128) (by rw[Nat.pow_succ] at h;omega);omega
theorem oI(n:Nat)(h:n<18446744073709551616):(eV n).length≤10:=by
 have e:(128:Nat) ^ (9+1)=1180591620717411303424:=by decide
 exact qx 9 n (by rw[e];omega)
theorem R8(n:Nat):1≤(eV n).length:=by
 by_cases h:n<128
 ·rw[mQ h];simp
 ·rw[qY h];simp
theorem YN(h:m<256):(m.toUInt8.toNat:Int)=(m:Int):=by
 have:m.toUInt8.toNat=m:=by simp[Nat.toUInt8,UInt8.toNat_ofNat',Nat.mod_eq_of_lt h]
 rw[this]
theorem ae0(g:Nat):bits BinOp.or IntKind.u8 ((g:Int) % 256) 128=(((g % 128+128).toUInt8).toNat:Int):=by
 rw[YN (by omega)];have all:∀ a:Fin 256,bits BinOp.or IntKind.u8 ((a.val:Nat):Int) 128=((a.val % 128+128:Nat):Int):=by decide +kernel
 have:=all ⟨g % 256,by omega⟩;rw[show ((g:Int) % 256)=((g % 256:Nat):Int) by omega,this];show (((g % 256) % 128+128:Nat):Int)=((g % 128+128:Nat):Int);omega
theorem fX(w:World)(lo:Nat)(v:Value)(L:List UInt8)(n:Nat)(h:fG w lo v L)(hn:n<18446744073709551616)(hl:L.length≤10000000000)(di:lo≤w.heap.size):
  aT 147 #[v,vU n] w fun e w'=>∃ a c,e=.returned (.slice a (L++eV n).length c)∧fG w' lo (.slice a (L++eV n).length c) (L++eV n)∧gd w w' v (.slice a (L++eV n).length c):=by
 obtain⟨la,lc,nk⟩:∃ a c,v=.slice a L.length c:=ax h
 subst nk;have H:=U h;clear h
 go_enter func147,ntmps147
 go_wp2_with fail
 go_loopg [0,1] n (fun gk dv nv wr=>∃ M:List UInt8,nv=.int .u64 gk∧gk≤n∧Hid (L++eV n=M++eV gk)∧M.length≤L.length+10∧Hid (fG wr lo dv M)∧Hid (gd w wr (.slice la L.length lc) dv))
 case atStart=>exact⟨L,rfl,Nat.le_refl _,U rfl,by omega,U H.o,U (gd.refl _ _)⟩
 case round=>
  obtain⟨M,rfl,OA,HE,hM,HB,HG⟩:=hrel;obtain⟨na,nc,mB⟩:∃ a c,u0=.slice a M.length c:=ax HB.o
  subst mB;have mI:=HG.o.g.size
  have hML:M.length+1≤L.length+10:=by
   have h1:=congrArg List.length HE.o;have h2:=oI n hn;have h3:=R8 gk;simp only[List.length_append] at h1;omega
  by_cases Ki:128≤gk
  ·have akk:(128:Int)≤(gk:Int):=by omega
   have ju:=ae0 gk;have Vg:=qY (n:=gk) (by omega);generalize (gk % 128+128).toUInt8=c at ju Vg;have HV:=U Vg;clear Vg
   go_wp2_with (at_builtin;refine ei _ rfl _ _ rfl _ M lo rfl (HB.o.same ((Below.refl _ _).alloc (Nat.le_refl _) _)) _ [c] _ rfl (qP _ _ _ (by first | rfl | exact ju)) (by simp;omega) (by simp;omega) ?_)
   intro a1 c1 w1 aA ku;have OV:=U (HG.o.trans ((gd.call ((Below.refl _ _).alloc (Nat.le_refl _) _)).trans ku));have kJ:=U aA;clear aA ku
   go_wp2_with fail
   go_roundg (gk / 128)
   case rel=>exact⟨M++[c],by go_num,by omega,U (by rw[HE.o,HV.o];simp),by rw[List.length_append,List.length_singleton];omega,U (by simpa using kJ.o),U (by simpa using OV.o)⟩
   case measure=>omega
  ·have akk:¬ (128:Int)≤(gk:Int):=by omega
   have ju:(gk:Int)=(gk.toUInt8.toNat:Int):=(YN (by omega)).symm;have Vg:=mQ (n:=gk) (by omega);generalize gk.toUInt8=c at ju Vg;have HV:=U Vg;clear Vg
   go_wp2_with (at_builtin;refine ei _ rfl _ _ rfl _ M lo rfl (HB.o.same ((Below.refl _ _).alloc (Nat.le_refl _) _)) _ [c] _ rfl (qP _ _ _ (by omega)) (by simp;omega) (by simp;omega) ?_)
   intro a1 c1 w1 aA ku;have OV:=U (HG.o.trans ((gd.call ((Below.refl _ _).alloc (Nat.le_refl _) _)).trans ku));have kJ:=U aA;clear aA ku;have HR:=U (show M++[c]=L++eV n by rw[HE.o,HV.o])
   go_wp2_with fail
   go_ret
   exact⟨a1,c1,by rw[← HR.o];simp,by rw[← HR.o];simpa using kJ.o,by rw[← HR.o];simpa using OV.o⟩
def Dd(w:World)(lo:Nat)(v:Value)(L B:List UInt8)(e:Ending)(w':World):Prop:=∃ a c,e=.returned (.slice a (L++fA B).length c)∧fG w' lo (.slice a (L++fA B).length c) (L++fA B)∧gd w w' v (.slice a (L++fA B).length c)
theorem jF(w:World)(lo FZ:Nat)(v v2:Value)(L B:List UInt8)(h:fG w lo v L)(h2:fG w FZ v2 B)(bT:Apt v v2)(hl:L.length≤1000000000)(MO:B.length≤1000000000)(di:lo≤w.heap.size):
  aT 152 #[v,v2] w (Dd w lo v L B):=by
 unfold Dd;obtain⟨la,lc,nk⟩:∃ a c,v=.slice a L.length c:=ax h
 subst nk;obtain⟨ba,bc,hbv⟩:∃ a c,v2=.slice a B.length c:=ax h2
 subst hbv;have H:=U h;have H2:=U h2;have HN:=U bT;clear h h2 bT
 go_enter func152,ntmps152
 go_wp2_with fail
 refine(fX _ lo _ L B.length H.o (by omega) (by omega) di).mono ?_;rintro e w1 ⟨a1,c1,rfl,aA,ku⟩;have hz:=ku.g.size;have asl:=oI B.length (by omega);have gX:=U (show fG w1 FZ (.slice ba B.length bc) B from aH H2.o (fun g hg=>ku.g.block g (H2.o.lt g hg).2 (fun e=>HN.o g e.symm hg)));have kJ:=U aA;have OV:=U ku;have FM:(L++eV B.length).length≤L.length+10:=by rw[List.length_append];omega
 have HT:=U (show (L++eV B.length)++B=L++fA B by unfold fA;rw[List.append_assoc]);clear aA ku;generalize L++eV B.length=M at *
 go_wp2_with (at_builtin;refine ei _ rfl _ _ rfl _ M lo rfl kJ.o _ B _ rfl gX.o (by omega) (by omega) ?_)
 intro a3 c3 w3 bP YK;have lE:=U bP;have V4:=U (OV.o.trans YK);clear bP YK
 go_wp2_with fail
 go_ret
 exact⟨a3,c3,by rw[← HT.o];simp,by rw[← HT.o];simpa using lE.o,by rw[← HT.o];simpa using V4.o⟩
def De(s:ByteArray)(i:Nat):List UInt8:=s.toList.drop i
theorem uy(s:ByteArray)(i j:Nat):(s.extract i j).toList=(s.toList.drop i).take (j-i):=by
 rw[Lib.extract_toList,ByteArray.toList_eq]
theorem aO(s:ByteArray):s.toList.length=s.size:=by rw[ByteArray.toList_eq];exact Array.length_toList
theorem OX(s:ByteArray)(k:Nat)(h:k<s.size):De s k=s[k]'h::De s (k+1):=by
 unfold De;have hl:k<s.toList.length:=by rw[aO];exact h
 rw[List.drop_eq_getElem_cons hl]
 congr 1
 obtain⟨l⟩:=s;simp[ByteArray.toList_eq,ByteArray.getElem_eq_getElem_data]
theorem ml{p:UInt8→Bool}:∀ l:List UInt8,l.take (l.takeWhile p).length=l.takeWhile p∧l.drop (l.takeWhile p).length=l.dropWhile p
 | []=>by simp
 | c::r=>by
  rw[List.takeWhile_cons,List.dropWhile_cons]
  cases p c with
  | true=>have:=ml (p:=p) r;simp[this.1,this.2]
  | false=>simp
def Ex(c:Int):Bool:=decide (32≤c)&&decide (c≤126) && !(c==34) && !(c==92)
def Ch(c:Int):Int:=if 48≤c∧c≤57 then c-48 else if 97≤c∧c≤102 then c-87 else -1
theorem Al(c:UInt8):gG c=Ex (c.toNat:Int):=by
 have all:∀ a:Fin 256,gG (UInt8.ofNat a.val)=Ex ((UInt8.ofNat a.val).toNat:Int):=by decide +kernel
 have:=all ⟨c.toNat,c.toNat_lt⟩;simpa using this
theorem R9(c:UInt8):(match uv c with | some h=>(h:Int) | none=>-1)=Ch (c.toNat:Int):=by
 have all:∀ a:Fin 256,(match uv (UInt8.ofNat a.val) with | some h=>(h:Int) | none=>-1)=Ch ((UInt8.ofNat a.val).toNat:Int):=by decide +kernel
 have:=all ⟨c.toNat,c.toNat_lt⟩;simpa using this
theorem KJ(c:Int):Ch c = -1∨(0≤Ch c∧Ch c≤15):=by unfold Ch;split<;>(try split)<;>omega
theorem lL:∀ (m:Nat) (t:List UInt8) (f:Nat),t.length≤m→t.length+1≤f→eB f t=eB (t.length+1) t
 | m,[],f,_,hf=>by
  obtain⟨g,rfl⟩:∃ g,f=g+1:=⟨f-1,by simp at hf;omega⟩
  simp[eB]
 | 0,c::r,f,hm,hf=>by simp at hm
 | m+1,c::r,f,hm,hf=>by
  rw[List.length_cons] at hm hf ⊢;obtain⟨g,rfl⟩:∃ g,f=g+1:=⟨f-1,by omega⟩
  unfold eB;rw[lL m r g (by omega) (by omega)]
  split
  ·rfl
  ·split
   ·match r with
    | []=>rfl
    | [a]=>rfl
    | a::b::r'=>
     simp only[List.length_cons] at hm hf ⊢;rw[lL m r' g (by omega) (by omega),lL m r' (r'.length+1+1+1) (by omega) (by omega)]
   ·rfl
def dA(t:List UInt8):qv:=eB (t.length+1) t
theorem Ey:dA []=none:=by simp[dA,eB]
theorem Ez(r:List UInt8):dA (34::r)=some ([],r):=by simp[dA,eB]
theorem Am(r:List UInt8)(h:gG c=true):dA (c::r)=(dA r).map fun x=>(c::x.1,x.2):=by
 have h34:c≠34:=by intro e;subst e;exact absurd h (by decide)
 have YO:c≠92:=by intro e;subst e;exact absurd h (by decide)
 unfold dA;rw[List.length_cons]
 conv=>lhs;unfold eB
 rw[if_neg h34,if_neg YO,if_pos h]
theorem EA(r:List UInt8)(h:gG c=false)(h34:c≠34)(YO:c≠92):dA (c::r)=none:=by
 unfold dA;rw[List.length_cons];unfold eB;rw[if_neg h34,if_neg YO];simp[h]
theorem qy(r:List UInt8)(h:r.length<2):dA (92::r)=none:=by
 unfold dA
 match r,h with
 | [],_=>simp[eB]
 | [a],_=>simp[eB]
theorem EC(a b:UInt8)(r:List UInt8):dA (92::a::b::r)=match uv a,uv b with
  | some h,some l=>if gG (16*h+l).toUInt8 then none else(dA r).map fun x=>((16*h+l).toUInt8::x.1,x.2)
  | _,_=>none:=by
 unfold dA;rw[List.length_cons]
 conv=>lhs;unfold eB
 rw[if_neg (by decide),if_pos rfl];simp only[List.length_cons];rw[lL r.length r (r.length+1+1+1) (Nat.le_refl _) (by omega)]
 all_goals (cases uv a<;>cases uv b<;>rfl)
theorem Sa:(ByteArray.mk #[34]).toList=[34]:=by rw[ByteArray.toList_eq]
theorem fG.but{o:Nat}{T:TypeId}{ys:List Value}(h:fG w lo v L)(hc:dU w cb T o ys)(hT:5≠T)(hb:But cb w w'):fG w' lo v L :=
 aH h (fun g hg=>hb.block g (h.lt g hg).2 (dG h hc hT hg))
theorem But.mZ(h:But cb w0 w)(hb:Below w.heap.size w wx)(hB:fG w w0.heap.size v L)(hg:gd wx w' v v'):But cb w0 w':=by
 have h1:=h.trans (But.ofBelow hb);refine⟨hg.g.os.trans h1.os,hg.g.tape.trans h1.tape,hg.g.output.trans h1.output,Nat.le_trans h1.size hg.g.size,fun k hk bT=>?_⟩;rw[hg.g.block k (Nat.lt_of_lt_of_le hk h1.size) (fun e=>by have:=(hB.lt k e.symm).1;omega)];exact h1.block k hk bT
def GJ(n:Int):Prop:=-9223372036854775808≤n∧n≤9223372036854775807
theorem Sb(u:Nat):∃ d r,Lib.decDigits u=UInt8.ofNat (48+d)::r∧d<10:=by
 induction u using Nat.strongRecOn with
 | _ u ih=>
  rw[Lib.decDigits]
  by_cases h:u<10
  ·rw[dif_pos h];exact⟨u,[],rfl,h⟩
  ·rw[dif_neg h]
   obtain⟨d,r,e,hd⟩:=ih (u / 10) (by omega);rw[e];exact⟨d,_,rfl,hd⟩
theorem Sc{t:List UInt8}(h:Lib.parseIntB 64 t=.ok n):GJ n:=by
 unfold Lib.parseIntB at h
 cases t with
 | nil=>cases h
 | cons c r=>
  simp only at h
  cases e:Lib.parseUintB 64 (if c.toNat=43∨c.toNat=45 then r else c::r) with
  | ok u=>
   rw[e] at h;simp only at h
   split at h
   ·cases h
   ·split at h
    ·cases h
    ·rename_i g1 g2
     simp only[Lib.NumEnd.ok.injEq] at h;subst h;unfold GJ
     by_cases hn:c.toNat=45
     ·rw[if_pos hn]
      have:¬ (2 ^ (64-1)<u):=fun hh=>g2 ⟨hn,hh⟩
      omega
     ·rw[if_neg hn]
      have:¬ (2 ^ (64-1)≤u):=fun hh=>g1 ⟨hn,hh⟩
      omega
  | _=>rw[e] at h;cases h
theorem An(w:World)(n:Nat)(os:Array Obj):Below w.heap.size w (Sort.grow (w.drewN n) os) :=
 ⟨rfl,rfl,rfl,by simp[Sort.grow],fun k hk=>by
  have h1:=(below_drewN (Below.refl w.heap.size w) n).block k hk;have h2:(w.drewN n).heap=w.heap:=rfl;simp only[Sort.grow,h2]
  rw[Array.getElem?_append_left hk]⟩
theorem V5:Tryz.prog.globalNamed "internal/strconv.uint64pow10" = some 0:=by kernel_rfl
structure mR(w:World):Prop where
 v:Vars w
 t:Lib.TabIs Tryz.prog w "internal/strconv.uint64pow10" .u64 Lib.pow10Tab
 lt:0<w.heap.size
def KK(cb:Nat):Prop:=cb≠1∧cb≠2∧cb≠0
theorem mR.but(h:mR w)(hb:But cb w w')(hc:KK cb):mR w':=by
 refine⟨h.v.but hb hc.1 hc.2.1,?_,Nat.lt_of_lt_of_le h.lt hb.size⟩;have:=h.t;unfold Lib.TabIs World.var? at this ⊢;rw[V5] at this ⊢;simp only[Option.bind_some] at this ⊢;rw[hb.block _ h.lt (fun e=>hc.2.2 e.symm)];exact this
theorem mR.below(h:mR w)(hb:Below w.heap.size w w'):mR w':=by
 refine⟨h.v.below hb,?_,Nat.lt_of_lt_of_le h.lt hb.size⟩;have:=h.t;unfold Lib.TabIs World.var? at this ⊢;rw[V5] at this ⊢;simp only[Option.bind_some] at this ⊢;rw[hb.block _ h.lt];exact this
theorem V6(u:Nat):u<10 ^ (Lib.decDigits u).length∧1≤(Lib.decDigits u).length:=by
 induction u using Nat.strongRecOn with
 | _ u ih=>
  rw[Lib.decDigits]
  by_cases h:u<10
  ·rw[dif_pos h];exact⟨by simpa using h,by simp⟩
  ·rw[dif_neg h,List.length_append,List.length_singleton]
   have:=(ih (u / 10) (by omega)).1;exact⟨by rw[Nat.pow_succ];omega,by omega⟩
theorem aan(k:Nat):2*10 ^ (k+1)≤128 ^ (k+1):=by
 induction k with
 | zero=>decide
 | succ k ih=>rw[Nat.pow_succ 10,Nat.pow_succ 128];omega
theorem Sd(_h1:-9223372036854775808≤n)(_h2:n≤9223372036854775807):(eV (qu n)).length≤(Lib.itoa n).length:=by
 have key:∀ (u z:Nat),z≤2*u→(eV z).length≤(Lib.decDigits u).length:=by
  intro u z hz;obtain⟨h1,h2⟩:=V6 u;obtain⟨k,hk⟩:∃ k,(Lib.decDigits u).length=k+1:=⟨(Lib.decDigits u).length-1,by omega⟩
  rw[hk] at h1 ⊢;have:=aan k;exact qx k z (by omega)
 unfold Lib.itoa qu
 by_cases hn:n<0
 ·rw[if_pos hn,if_pos hn,List.length_cons]
  have:=key n.natAbs (-2*n-1).toNat (by omega);omega
 ·rw[if_neg hn,if_neg hn]
  exact key n.toNat (2*n).toNat (by omega)
theorem Se:(ByteArray.mk #[91]).toList=[91]:=by rw[ByteArray.toList_eq]
theorem ae2:(ByteArray.mk #[93]).toList=[93]:=by rw[ByteArray.toList_eq]
theorem aao:(ByteArray.mk #[44]).toList=[44]:=by rw[ByteArray.toList_eq]
theorem q9(val:List UInt8→qv)(k:Nat)(f:Bool)(t:List UInt8):sM val k f t=match cO [93] t with
  | some r=>some ([],r)
  | none=>match k with
   | 0=>none
   | k+1=>(if f then some t else cO [44] t).bind fun t1=>(val t1).bind fun v=>(sM val k false v.2).map fun o=>(fA v.1++o.1,o.2):=by
 conv=>lhs;unfold sM
 rfl
theorem ED{v2:Value}{L2:List UInt8}(h:fG w lo v L)(h2:fG w' w.heap.size v2 L2):Apt v v2:=fun b h1 h3=>by
 have:=(h.lt b h1).2;have:=(h2.lt b h3).1;omega
theorem sN{b:List UInt8}(h:b.length<16384):(fA b).length≤b.length+2:=by
 unfold fA;have e:(128:Nat) ^ (1+1)=16384:=by decide
 have:=qx 1 b.length (by rw[e];omega);rw[List.length_append];omega
theorem kV{t:List UInt8}(h:(cO p t).isSome=false):cO p t=none:=by
 cases e:cO p t with
 | none=>rfl
 | some r=>rw[e] at h;cases h
theorem ae3:(ByteArray.mk #[123]).toList=[123]:=by rw[ByteArray.toList_eq]
theorem aap:(ByteArray.mk #[125]).toList=[125]:=by rw[ByteArray.toList_eq]
theorem Ao(s:ByteArray):∀ (f k j:Nat),k≤j→j<dx s f k→ui (B s j)=true
 | 0,k,j,h1,h2=>by simp only[dx] at h2;omega
 | f+1,k,j,h1,h2=>by
  unfold dx at h2
  by_cases h:k<s.size∧ui (B s k)=true
  ·rw[if_pos h] at h2
   rcases Nat.lt_or_ge k j with hk | hk
   ·exact Ao s f (k+1) j (by omega) h2
   ·rw[show j=k by omega];exact h.2
  ·rw[if_neg h] at h2;omega
theorem Sf(c:UInt8):ui (c.toNat:Int)=eX c:=by
 have all:∀ a:Fin 256,ui ((UInt8.ofNat a.val).toNat:Int)=eX (UInt8.ofNat a.val):=by decide +kernel
 have:=all ⟨c.toNat,c.toNat_lt⟩;simpa using this
theorem OY(c:Int):markK c≠2:=by unfold markK;split<;>(try split)<;>omega
theorem Tk.V7{t:PTok}(h:Tk s t)(h2:t.kind=2):∀ c∈t.text.toList,eX c=true:=by
 obtain⟨i,hi,rfl⟩:=h;unfold scanP at *;generalize bEnd s i=k at *;unfold scanAt at h2 ⊢
 by_cases hk:k=s.size
 ·rw[if_pos hk] at h2;simp at h2
 ·rw[if_neg hk] at h2 ⊢
  by_cases hr:dx s s.size k=k
  ·rw[if_pos hr] at h2;exact absurd h2 (OY _)
  ·rw[if_neg hr]
   intro c hc;simp only at hc;rw[uy] at hc;obtain⟨q,hq,e⟩:=List.getElem_of_mem hc;rw[List.length_take,List.length_drop] at hq;rw[List.getElem_take,List.getElem_drop] at e;have:=Ao s s.size k (k+q) (by omega) (by omega);rw[← Sf,← e];unfold B at this;rw[List.getD_eq_getElem?_getD,List.getElem?_eq_getElem (by omega)] at this;exact this
def GK(s:ByteArray)(f:PField):Prop:=∃ t,Tk s t∧(fieldT s t).1=true∧f=fieldV s t (kU t.text.toList)
def EE(s:ByteArray)(t:PTok):Prop:=Tk s t∧nameOk t=true
theorem xx:∀ (f:Nat) (t:PTok) (L:List PField),Tk s t→(∀ x∈L,GK s x)→∀ x∈(fieldsT s f t L).2.2,GK s x
 | 0,t,L,h,hL=>hL
 | f+1,t,L,h,hL=>by
  have iZ:(fieldT s t).1=true→∀ x∈L++[fieldV s t (kU t.text.toList)],GK s x:=fun h1 x hx=>by
   rcases List.mem_append.1 hx with hx | hx
   ·exact hL x hx
   ·rw[List.mem_singleton.1 hx];exact⟨t,h,h1,rfl⟩
  unfold fieldsT
  by_cases h1:(fieldT s t).1=true
  ·rw[if_pos h1]
   by_cases h5:((fieldT s t).2.kind==5)=true
   ·rw[if_pos h5];exact iZ h1
   ·rw[if_neg h5];exact xx f _ _ (fieldT_tk h) (iZ h1)
  ·rw[if_neg h1];exact hL
theorem Ap:∀ (f:Nat) (t:PTok) (L:List PTok),Tk s t→(∀ x∈L,EE s x)→∀ x∈(namesT s f t L).2.2,EE s x
 | 0,t,L,h,hL=>hL
 | f+1,t,L,h,hL=>by
  have iZ:nameOk t=true→∀ x∈L++[t],EE s x:=fun h1 x hx=>by
   rcases List.mem_append.1 hx with hx | hx
   ·exact hL x hx
   ·rw[List.mem_singleton.1 hx];exact⟨h,h1⟩
  unfold namesT
  by_cases h1:nameOk t=true
  ·rw[if_pos h1]
   by_cases h5:((nextP s t).kind==5)=true
   ·rw[if_pos h5];exact iZ h1
   ·rw[if_neg h5];exact Ap f _ _ h.next (iZ h1)
  ·rw[if_neg h1];exact hL
structure OZ(s:ByteArray)(p:PItem):Prop where
 f:∀ f∈p.fields,GK s f
 n:∀ t∈p.names,EE s t
 m:EE s p.name
 e:p.kind=0∨p.kind=1∨2≤p.kind
theorem O0{t:PTok}(h:Tk s t)(bX:(itemT s t).1=true):OZ s (itemT s t).2.2:=by
 have n1:=h.next;have n3:=h.next.next.next;unfold itemT at bX ⊢
 by_cases e0:isWordT t eA=true
 ·rw[if_pos e0] at bX ⊢
  by_cases hn:nameOk (nextP s t)=true
  ·rw[if_pos hn] at bX ⊢
   unfold blockF at bX ⊢
   by_cases h4:((nextP s (nextP s t)).kind==4)=true
   ·rw[if_pos h4]
    exact⟨xx _ _ _ n3 (by simp),by simp,⟨n1,hn⟩,Or.inl rfl⟩
   ·rw[if_neg h4] at bX;cases bX
  ·rw[if_neg hn] at bX;cases bX
 ·rw[if_neg e0] at bX ⊢
  by_cases e1:isWordT t mM=true
  ·rw[if_pos e1] at bX ⊢
   by_cases hn:nameOk (nextP s t)=true
   ·rw[if_pos hn] at bX ⊢
    unfold blockN at bX ⊢
    by_cases h4:((nextP s (nextP s t)).kind==4)=true
    ·rw[if_pos h4]
     exact⟨by simp,Ap _ _ _ n3 (by simp),⟨n1,hn⟩,Or.inr (Or.inl rfl)⟩
    ·rw[if_neg h4] at bX;cases bX
   ·rw[if_neg hn] at bX;cases bX
  ·rw[if_neg e1] at bX ⊢
   by_cases e2:isWordT t gu=true
   ·rw[if_pos e2] at bX ⊢
    by_cases hn:nameOk (nextP s t)=true
    ·rw[if_pos hn]
     exact⟨by simp,by simp,⟨n1,hn⟩,Or.inr (Or.inr (by simp))⟩
    ·rw[if_neg hn] at bX;cases bX
   ·rw[if_neg e2] at bX ⊢
    by_cases e3:isWordT t mg=true
    ·rw[if_pos e3] at bX ⊢
     by_cases hn:nameOk (nextP s t)=true
     ·rw[if_pos hn] at bX ⊢
      by_cases hb:baseOk (nextP s (nextP s t))=true
      ·rw[if_pos hb]
       exact⟨by simp,by simp,⟨n1,hn⟩,Or.inr (Or.inr (by simp))⟩
      ·rw[if_neg hb] at bX;cases bX
     ·rw[if_neg hn] at bX;cases bX
    ·rw[if_neg e3] at bX;cases bX
theorem Aq:∀ (f:Nat) (t:PTok) (L M:List PItem),Tk s t→(itemsT s f t L).1=some M→(∀ p∈L,OZ s p)→∀ p∈M,OZ s p
 | 0,t,L,M,h,hM,_=>by simp[itemsT] at hM
 | f+1,t,L,M,h,hM,hL=>by
  unfold itemsT at hM
  by_cases h0:(t.kind==0)=true
  ·rw[if_pos h0] at hM
   simp only[Option.some.injEq] at hM;subst hM;exact hL
  ·rw[if_neg h0] at hM
   by_cases h1:(itemT s t).1=true
   ·rw[if_pos h1] at hM
    refine Aq f _ _ M (itemT_tk h).1 hM (fun p hp=>?_)
    rcases List.mem_append.1 hp with hp | hp
    ·exact hL p hp
    ·rw[List.mem_singleton.1 hp];exact O0 h h1
   ·rw[if_neg h1] at hM;cases hM
theorem Ar{M:List PItem}(h:(parseP s).1=some M):∀ p∈M,OZ s p :=
 Aq (s.size+1) (scanP s 0) [] M ⟨0,by omega,rfl⟩ h (by simp)
theorem EE.size{t:PTok}(h:EE s t)(hs:s.size≤400):1≤t.text.size∧t.text.size≤400 :=
 ⟨h.1.pos (by rw[fJ h.2];omega),by have:=h.1.lz;omega⟩
theorem GK.num{f:PField}(h:GK s f):1≤f.number∧f.number≤99:=by
 obtain⟨t,ht,bX,rfl⟩:=h;unfold fieldT at bX
 by_cases h3:(t.kind==3)=true
 ·have hn:=ht.num (eq_of_beq h3)
  obtain⟨k,h1,h2,_,h4⟩:=On hn;show 1≤kU t.text.toList∧kU t.text.toList≤99;unfold kU;rw[ByteArray.toList_eq,h4];simp;omega
 ·rw[if_neg h3] at bX;cases bX
theorem GK.name{f:PField}(h:GK s f):∃ t,EE s t∧f.name=t.text:=by
 obtain⟨t,ht,bX,rfl⟩:=h;unfold fieldT at bX
 by_cases h3:(t.kind==3)=true
 ·rw[if_pos h3] at bX
  by_cases hn:nameOk (nextP s t)=true
  ·exact⟨_,⟨ht.next,hn⟩,rfl⟩
  ·rw[if_neg hn] at bX;cases bX
 ·rw[if_neg h3] at bX;cases bX
theorem O1(v:ByteArray):De v 0=v.toList:=by unfold De;simp
theorem But.below{W:World}{B:Nat}(h:But cb W w')(hb:Below B w W)(hc:B≤cb)(hB:B≤w.heap.size):Below B w w' :=
 ⟨h.os.trans hb.os,h.tape.trans hb.tape,h.output.trans hb.output,Nat.le_trans hb.size h.size,fun k hk=>(h.block k (Nat.lt_of_lt_of_le hk (Nat.le_trans hB hb.size)) (by omega)).trans (hb.block k hk)⟩
def Pe(w:World)(eb:Nat)(lv:Value)(t:ByteArray):Prop:=dU w eb 151 0 [lv,.string t]
theorem Pe.lt(h:Pe w eb lv t):eb<w.heap.size:=dU.lt h
theorem Pe.same(h:Pe w eb lv t)(hb:w'.heap[eb]? = w.heap[eb]?):Pe w' eb lv t:=dU.same h hb
theorem Pe.put(h:Pe w eb lv t)(u:ByteArray):Pe (w.setCell (aj eb 1) (.string u)) eb lv u:=dU.set h 1 (.string u)
theorem Pe.rest(h:Pe w eb lv t):w.cell? (aj eb 1)=some (.string t):=dU.cell h (j:=1) rfl
theorem Pe.MX(h:Pe w eb lv t):w.cell? (aj eb 0)=some lv:=dU.cell h (j:=0) rfl
theorem KL(p t:List UInt8):(cO p t).isSome=Lib.hasPrefix t p:=by unfold cO Lib.hasPrefix;cases p.isPrefixOf t<;>simp
theorem Sg(p t:List UInt8):(cO p t).getD t=Lib.trimPrefix t p:=by unfold cO Lib.trimPrefix Lib.hasPrefix;cases p.isPrefixOf t<;>simp
theorem Ci(t p:ByteArray)(w:World):
  aT 187 #[.string t,.string p] w fun e w'=>∃ t':ByteArray,e=.returned (.tuple #[.string t',.bool (cO p.toList t.toList).isSome])∧w'=w∧t'.toList=(cO p.toList t.toList).getD t.toList:=by
 refine(qh t p w).mono ?_;rintro e w1 ⟨rfl,rfl⟩;refine⟨⟨(Lib.trimPrefix t.data.toList p.data.toList).toArray⟩,?_,rfl,?_⟩
 ·rw[KL,ByteArray.toList_eq,ByteArray.toList_eq]
 ·rw[Sg,ByteArray.toList_eq,ByteArray.toList_eq,ByteArray.toList_eq]
theorem mS(c:Int)(w:World):
  aT 189 #[vB c] w fun e w'=>e=.returned (.bool (Ex c))∧w'=w:=by
 unfold Ex
 by_cases h1:32≤c
 ·by_cases h2:c≤126
  ·cases h3:(c==34)<;>cases h4:(c==92) <;>
   (go_enter func189,ntmps189
    go_wp2
    all_goals (go_ret;simp_all))
  ·have hd:decide (c≤126)=false:=by simpa using h2
   rw[hd]
   go_enter func189,ntmps189
   go_wp2
   go_ret
   exact⟨bR (by simp),rfl⟩
 ·have hd:decide (32≤c)=false:=by simpa using h1
  rw[hd]
  go_enter func189,ntmps189
  go_wp2
  go_ret
  exact⟨bR (by simp),rfl⟩
theorem jG(w:World)(eb:Nat)(la:Option Addr)(ll lc:Nat)(t p:ByteArray)(h:Pe w eb (.slice la ll lc) t):
  aT 149 #[aM eb,.string p] w fun e w'=>∃ t':ByteArray,e=.returned (.bool (cO p.toList t.toList).isSome)∧But eb w w'∧Pe w' eb (.slice la ll lc) t'∧t'.toList=(cO p.toList t.toList).getD t.toList:=by
 have c1:=h.rest;have yh:=dU.aq h 1;have H:=U h;have HC:=U (Ci t p w);clear h;generalize (cO p.toList t.toList).isSome=r at *;generalize (cO p.toList t.toList).getD t.toList=T at *
 go_enter func149,ntmps149
 go_wp2_with fail
 refine HC.o.mono ?_;rintro e w1 ⟨t',rfl,rfl,Gl⟩;have HT:=U Gl;clear Gl
 go_wp2_with fail
 go_ret
 exact⟨t',rfl,(But.refl _ _).setCell _ _,H.o.put t',HT.o⟩
theorem GL(w:World)(eb:Nat)(la:Option Addr)(ll lc:Nat)(t:ByteArray)(h:Pe w eb (.slice la ll lc) t):
  aT 190 #[aM eb] w fun e w'=>(t.toList=[]∧e=.returned (.tuple #[vB 0,.bool false])∧w'=w)∨∃ (c:UInt8) (t':ByteArray),t.toList=c::t'.toList∧e=.returned (.tuple #[vB c.toNat,.bool true])∧But eb w w'∧Pe w' eb (.slice la ll lc) t':=by
 have c1:=h.rest;have yh:=dU.aq h 1;have H:=U h;clear h
 by_cases h0:t.size=0
 ·have hl:t.toList=[]:=by rw[← List.length_eq_zero_iff,aO];exact h0
  have HL:=U hl;have hem:t.toList.isEmpty=true:=by rw[hl];rfl
  clear hl
  go_enter func190,ntmps190
  go_wp2_with fail
  go_ret2
  exact Or.inl ⟨HL.o,rfl,rfl⟩
 ·have bC:0<t.size:=by omega
  have hem:t.toList.isEmpty=false:=by
   cases e:t.toList with
   | nil=>have:=aO t;rw[e] at this;simp at this;omega
   | cons a r=>rfl
  have QP:=U (show t.toList=t[0]::(t.extract 1 t.size).toList by
   have h1:=OX t 0 bC;rw[O1] at h1;rw[h1,uy];unfold De
   rw[List.take_of_length_le (by rw[List.length_drop,aO];omega)])
  go_enter func190,ntmps190
  go_wp2_with fail
  go_ret2
  exact Or.inr ⟨t[0],t.extract 1 t.size,QP.o,rfl,(But.refl _ _).setCell _ _,H.o.put _⟩
def aaq:List UInt8:=[48,49,50,51,52,53,54,55,56,57,97,98,99,100,101,102]
theorem O2(c:UInt8):Lib.indexByte aaq c=Ch (c.toNat:Int):=by
 have all:∀ a:Fin 256,Lib.indexByte aaq (UInt8.ofNat a.val)=Ch ((UInt8.ofNat a.val).toNat:Int):=by decide +kernel
 have:=all ⟨c.toNat,c.toNat_lt⟩;simpa using this
theorem As(c:UInt8)(z:Int)(hz:z=(c.toNat:Int))(w:World):
  aT 226 #[.string ⟨#[48,49,50,51,52,53,54,55,56,57,97,98,99,100,101,102]⟩,vB z] w fun e w'=>e=.returned (vI (Ch (c.toNat:Int)))∧w'=w:=by
 refine(qg _ z w).mono ?_;rintro e w1 ⟨rfl,rfl⟩;refine⟨?_,rfl⟩;rw[← O2,hz];simp[aaq]
def uz(t:List UInt8):Option (Nat × List UInt8):=match t with | []=>none | c::r=>(uv c).map fun h=>(h,r)
theorem V8{h:Nat}(e:uv c=some h):h≤15:=by
 have:=R9 c;rw[e] at this
 rcases KJ (c.toNat:Int) with k | k
 ·simp only at this;omega
 ·simp only at this;omega
theorem At(w:World)(eb:Nat)(la:Option Addr)(ll lc:Nat)(t:ByteArray)(h:Pe w eb (.slice la ll lc) t):
  aT 188 #[aM eb] w fun e w'=>∃ (b:Nat) (ok:Bool) (t':ByteArray),e=.returned (.tuple #[vB b,.bool ok])∧b≤255∧But eb w w'∧Pe w' eb (.slice la ll lc) t'∧t'.size≤t.size∧(match ok with | true=>uz t.toList=some (b,t'.toList)∧b≤15 | false=>uz t.toList=none):=by
 have H:=U h;clear h
 go_enter func188,ntmps188
 go_wp2_with fail
 refine(GL w eb la ll lc t H.o).mono ?_;rintro e w1 (⟨EF,rfl,rfl⟩ | ⟨c,t',sK,rfl,aA,fe⟩)
 ·have HN:=U EF
  clear EF
  go_wp2_with fail
  refine(As 0 0 rfl _).mono ?_;rintro e w2 ⟨rfl,rfl⟩;rw[show Ch (((0:UInt8).toNat:Nat):Int) = -1 by decide]
  go_wp2_with fail
  go_ret2
  exact⟨255,false,t,rfl,by omega,But.refl _ _,H.o,Nat.le_refl _,by rw[HN.o];rfl⟩
 ·have QP:=U sK
  have jP:=U fe;have mI:t'.size≤t.size:=by rw[← aO,← aO,sK];simp
  clear sK fe
  go_wp2_with fail
  refine(As c (c.toNat:Int) rfl _).mono ?_;rintro e w2 ⟨rfl,rfl⟩;have hx:=R9 c
  cases hv:uv c with
  | none=>
   rw[hv] at hx;simp only at hx;rw[← hx];have HV:=U hv;clear hv hx
   go_wp2_with fail
   go_ret2
   exact⟨255,false,t',rfl,by omega,aA,jP.o,mI,by rw[QP.o];simp[uz,HV.o]⟩
  | some q=>
   have hq:=V8 hv;rw[hv] at hx;simp only at hx;rw[← hx];have HV:=U hv;clear hv hx
   go_wp2_with fail
   go_ret2
   exact⟨q,true,t',rfl,by omega,aA,jP.o,mI,by rw[QP.o];simp[uz,HV.o],hq⟩
def nV(t:List UInt8):Option (UInt8 × List UInt8):=match t with
 | []=>none
 | c::r=>if c=92 then(uz r).bind fun x=>(uz x.2).bind fun y=>if gG (16*x.1+y.1).toUInt8 then none else some ((16*x.1+y.1).toUInt8,y.2)
  else if gG c then some (c,r) else none
def MY(w:World)(eb:Nat)(lv:Value)(t:ByteArray)(e:Ending)(w':World):Prop :=
 ∃ (bv:Value) (ok:Bool) (t':ByteArray),e=.returned (.tuple #[bv,.bool ok])∧But eb w w'∧Pe w' eb lv t'∧t'.size≤t.size∧(match ok with | true=>∃ c:UInt8,bv=.int .u8 c.toNat∧nV t.toList=some (c,t'.toList)∧t'.size<t.size | false=>nV t.toList=none)
theorem GM{a b:ByteArray}(h:a.toList=b.toList):a=b:=by rw[MK h,← MK (rfl:b.toList=b.toList)]
theorem jd(h:(cO [c] t.toList).isSome=true)(h1:t1.toList=(cO [c] t.toList).getD t.toList):t.toList=c::t1.toList:=by
 cases e:cO [c] t.toList with
 | none=>rw[e] at h;cases h
 | some r=>
  have:=Da e;rw[e] at h1;simp only[Option.getD_some] at h1;rw[this,h1];rfl
theorem fS(h:(cO p t.toList).isSome=false)(h1:t1.toList=(cO p t.toList).getD t.toList):t1=t:=by
 rw[kV h] at h1;exact GM h1
theorem GN{t:List UInt8}(h:(cO [c] t).isSome=false)(r:List UInt8):t≠c::r:=by
 intro e;subst e;simp[cO,List.isPrefixOf] at h
theorem akl{a:Nat}(ha:a≤15)(hb:b≤15):bits BinOp.or IntKind.u8 ((a:Int)*16) (b:Int)=(((16*a+b).toUInt8).toNat:Int):=by
 have all:∀ a b:Fin 16,bits BinOp.or IntKind.u8 ((a.val:Int)*16) (b.val:Int)=(((16*a.val+b.val).toUInt8).toNat:Int):=by decide +kernel
 exact all ⟨a,by omega⟩ ⟨b,by omega⟩
theorem aar:(ByteArray.mk #[92]).toList=[92]:=by rw[ByteArray.toList_eq]
theorem KM(w:World)(eb:Nat)(la:Option Addr)(ll lc:Nat)(t:ByteArray)(h:Pe w eb (.slice la ll lc) t):
  aT 150 #[aM eb] w (MY w eb (.slice la ll lc) t):=by
 unfold MY;have H:=U h;clear h
 go_enter func150,ntmps150
 go_wp2_with fail
 refine(jG w eb la ll lc t (ByteArray.mk #[92]) H.o).mono ?_;rintro e w1 ⟨t1,rfl,aA,fe,ij⟩;rw[aar] at ij ⊢;have jP:=U fe;have ir:=U ij;clear fe ij
 cases hr:(cO [92] t.toList).isSome with
 | true=>
  have HR:=U hr;clear hr
  go_wp2_with fail
  refine(At w1 eb la ll lc t1 jP.o).mono ?_;rintro e w2 ⟨b2,ok2,t2,rfl,asm,aW,fI,il,pY⟩;have jn:=U fI;have V0:=U pY;clear fI pY
  go_wp2_with fail
  refine(At w2 eb la ll lc t2 jn.o).mono ?_;rintro e w3 ⟨b3,ok3,t3,rfl,asn,bP,mN,Cb,Mw⟩;have nI:=U mN;have Mv:=U Mw;clear mN Mw;have Df:=U (jd HR.o ir.o);have gY:t1.size<t.size:=by rw[← aO,← aO t,Df.o];simp
  have rK:=(aA.trans aW).trans bP
  cases ok2 with
  | false=>
   go_wp2_with fail
   go_ret2
   exact⟨_,false,t3,rfl,rK,nI.o,by omega,by rw[Df.o];simp[nV,show uz t1.toList=none from V0.o]⟩
  | true=>
   have Vh:uz t1.toList=some (b2,t2.toList)∧b2≤15:=V0.o;have HD2:=U Vh.1;have akn:=Vh.2;clear Vh
   cases ok3 with
   | false=>
    go_wp2_with fail
    go_ret2
    exact⟨_,false,t3,rfl,rK,nI.o,by omega,by rw[Df.o];simp[nV,HD2.o,show uz t2.toList=none from Mv.o]⟩
   | true=>
    have JL:uz t2.toList=some (b3,t3.toList)∧b3≤15:=Mv.o;have HD3:=U JL.1;have ae6:=JL.2;clear JL
    go_wp2_with fail
    rw[akl akn ae6];have HLP:=U (show nV t.toList=if gG (16*b2+b3).toUInt8 then none else some ((16*b2+b3).toUInt8,t3.toList) by rw[Df.o];simp[nV,HD2.o,HD3.o]);generalize (16*b2+b3).toUInt8=c at *;refine(mS _ _).mono ?_;rintro e w4 ⟨rfl,rfl⟩;rw[← Al]
    cases hp:gG c with
    | true=>
     have GO:=U hp;clear hp
     go_wp2_with fail
     go_ret2
     exact⟨_,false,t3,rfl,rK,nI.o,by omega,by show nV t.toList=none;rw[HLP.o,GO.o];rfl⟩
    | false=>
     have GO:=U hp;clear hp
     go_wp2_with fail
     go_ret2
     exact⟨_,true,t3,rfl,rK,nI.o,by omega,c,rfl,by rw[HLP.o,GO.o];rfl,by omega⟩
 | false=>
  have HR:=U hr;clear hr
  go_wp2_with fail
  refine(GL w1 eb la ll lc t1 jP.o).mono ?_;have GP:t1=t:=fS HR.o ir.o;subst GP;rintro e w2 (⟨EF,rfl,rfl⟩ | ⟨c,t2,sK,rfl,aW,fI⟩)
  ·have HN:=U EF
   clear EF
   go_wp2_with fail
   go_ret2
   exact⟨_,false,t1,rfl,aA,jP.o,Nat.le_refl _,by show nV t1.toList=none;rw[HN.o];rfl⟩
  ·have QP:=U sK
   have jn:=U fI;have il:t2.size<t1.size:=by rw[← aO,← aO t1,sK];simp
   have HC:=U (show c≠92 from fun e=>GN HR.o t2.toList (by rw[sK,e]));have HLP:=U (show nV t1.toList=if gG c then some (c,t2.toList) else none by rw[sK];unfold nV;simp only;rw[if_neg HC.o]);clear sK fI
   go_wp2_with fail
   refine(mS _ _).mono ?_;rintro e w4 ⟨rfl,rfl⟩;rw[← Al]
   cases hp:gG c with
   | true=>
    have GO:=U hp;clear hp
    go_wp2_with fail
    go_ret2
    exact⟨_,true,t2,rfl,aA.trans aW,jn.o,by omega,c,rfl,by rw[HLP.o,GO.o];rfl,by omega⟩
   | false=>
    have GO:=U hp;clear hp
    go_wp2_with fail
    go_ret2
    exact⟨_,false,t2,rfl,aA.trans aW,jn.o,by omega,by show nV t1.toList=none;rw[HLP.o,GO.o];rfl⟩
def iM(spec:List UInt8→qv)(w:World)(eb:Nat)(lv:Value)(t:ByteArray)(e:Ending)(w':World):Prop :=
 ∃ (a:Option Addr) (c:Nat) (out:List UInt8) (t':ByteArray) (ok:Bool),e=.returned (.tuple #[.slice a out.length c,.bool ok])∧fG w' w.heap.size (.slice a out.length c) out∧But eb w w'∧Pe w' eb lv t'∧t'.size≤t.size∧out.length≤2*(t.size-t'.size) ∧
  spec t.toList=(match ok with | true=>some (out,t'.toList) | false=>none)
theorem Pe.mZ(h:Pe w eb lv t)(hb:Below w.heap.size w wx)(hB:fG w lo v L)(hg:gd wx w' v v'):Pe w' eb lv t :=
 h.same ((hg.g.block eb (Nat.lt_of_lt_of_le h.lt hb.size) (fun e=>dG hB h (by decide) e.symm rfl)).trans (hb.block eb h.lt))
theorem Cj{t:List UInt8}(h:∀ r,t≠34::r):dA t=(nV t).bind fun x=>(dA x.2).map fun z=>(x.1::z.1,z.2):=by
 match t,h with
 | [],_=>rw[Ey];rfl
 | c::r,h=>
  have h34:c≠34:=fun e=>h r (by rw[e])
  by_cases YO:c=92
  ·subst YO
   match r with
   | []=>rw[qy _ (by simp)];rfl
   | [a]=>
    rw[qy _ (by simp)];cases hv:uv a<;>simp[nV,uz,hv]
   | a::b::r'=>
    rw[EC]
    cases ha:uv a with
    | none=>simp[nV,uz,ha]
    | some x=>
     cases hb:uv b with
     | none=>simp[nV,uz,ha,hb]
     | some y=>
      simp only[nV,uz,ha,hb,↓reduceIte,Option.map_some,Option.bind_some];generalize (16*x+y).toUInt8=z;cases gG z<;>simp
  ·cases hp:gG c with
   | true=>rw[Am _ hp];simp[nV,YO,hp]
   | false=>rw[EA _ hp h34 YO];simp[nV,YO,hp]
theorem GQ(w:World)(eb:Nat)(la:Option Addr)(ll lc:Nat)(t:ByteArray)(h:Pe w eb (.slice la ll lc) t)(hs:t.size≤400):
  aT 102 #[aM eb] w (iM Ah w eb (.slice la ll lc) t):=by
 unfold iM;have H:=U h;clear h
 go_enter func102,ntmps102
 go_wp2_with fail
 refine(jG w eb la ll lc t (ByteArray.mk #[34]) H.o).mono ?_;rintro e w1 ⟨t1,rfl,aA,fe,ij⟩;rw[Sa] at ij ⊢;have jP:=U fe;have ir:=U ij;clear fe ij
 cases hr:(cO [34] t.toList).isSome with
 | false=>
  have HR:=U hr;clear hr;have GP:t1=t:=fS HR.o ir.o;subst GP
  go_wp2_with fail
  go_ret2
  exact⟨none,0,[],t1,false,rfl,World.ownsRow_nil _ _ _ _,aA,jP.o,Nat.le_refl _,by simp,by unfold Ah;rw[kV HR.o];rfl⟩
 | true=>
  have HR:=U hr;clear hr;have Df:=U (jd HR.o ir.o);have gY:t1.size<t.size:=by rw[← aO,← aO t,Df.o];simp
  have HG:=U (show Ah t.toList=dA t1.toList by unfold Ah;rw[Df.o];rfl);have ju:=aA.size
  go_wp2_with fail
  go_loopg [4,5,6] (t1.size+1) (fun gk d4 b5 o6 wr=>∃ (out:List UInt8) (tr:ByteArray),tr.size<gk∧tr.size≤t1.size∧out.length+tr.size≤t1.size∧Hid (Pe wr eb (.slice la ll lc) tr)∧Hid (fG wr w.heap.size d4 out)∧But eb w wr∧Hid (Ah t.toList=(dA tr.toList).map fun z=>(out++z.1,z.2)))
  case atStart=>exact⟨[],t1,by omega,Nat.le_refl _,by simp,U jP.o,U (World.ownsRow_nil _ _ _ _),aA,U (by rw[HG.o];simp)⟩
  case round=>
   obtain⟨out,tr,hm,hle,hol,HP,HB,rK,HS⟩:=hrel;obtain⟨oa,oc,MP⟩:∃ a c,u4=.slice a out.length c:=ax HB.o
   subst MP
   go_wp2_with fail
   refine(jG _ eb la ll lc tr (ByteArray.mk #[34]) HP.o).mono ?_;rintro e w2 ⟨t2,rfl,aW,fI,np⟩;rw[Sa] at np ⊢;have jn:=U fI;have jo:=U np;have gX:=U (HB.o.but (show dU _ _ _ _ _ from HP.o) (by decide) aW);have iu:=rK.trans aW;clear fI np
   cases uA:(cO [34] tr.toList).isSome with
   | true=>
    have GR:=U (jd uA jo.o);have il:t2.size<tr.size:=by rw[← aO,← aO tr,GR.o];simp
    clear uA
    go_wp2_with fail
    go_ret2
    exact⟨oa,oc,out,t2,true,rfl,gX.o,iu,jn.o,by omega,by omega,by rw[HS.o,GR.o,Ez];simp⟩
   | false=>
    have GP:t2=tr:=fS uA jo.o;subst GP;have BK:=U (Cj (GN uA));clear uA
    go_wp2_with fail
    refine(KM _ eb la ll lc t2 jn.o).mono ?_;rintro e w3 ⟨bv,ok3,t3,rfl,bP,mN,Cb,Mw⟩;have nI:=U mN;have Mv:=U Mw;have lE:=U (gX.o.but (show dU _ _ _ _ _ from jn.o) (by decide) bP);have xy:=iu.trans bP;clear mN Mw
    cases ok3 with
    | false=>
     go_wp2_with fail
     go_ret2
     exact⟨none,0,[],t3,false,rfl,World.ownsRow_nil _ _ _ _,xy,nI.o,by omega,by simp,by rw[HS.o,BK.o,show nV t2.toList=none from Mv.o];rfl⟩
    | true=>
     obtain⟨c,rfl,hlp,bC⟩:∃ c:UInt8,bv=.int .u8 c.toNat∧nV t2.toList=some (c,t3.toList)∧t3.size<t2.size:=Mv.o
     have HLP:=U hlp;clear hlp Mv;have BD:=xy.size
     go_wp2_with (at_builtin;refine ei _ rfl _ _ rfl _ out w.heap.size rfl (lE.o.same ((Below.refl _ _).alloc (Nat.le_refl _) _)) _ [c] _ rfl (qP _ _ _ rfl) (by simp;omega) (by simp;omega) ?_)
     intro a4 c4 w4 iA pI;have O3:=U (nI.o.mZ ((Below.refl _ _).alloc (Nat.le_refl _) _) lE.o pI);have nW:=xy.mZ ((Below.refl _ _).alloc (Nat.le_refl _) _) lE.o pI;have rY:=U iA;clear iA pI
     go_wp2_with fail
     go_roundg (gk-1)
     case rel=>exact⟨out++[c],t3,by omega,by omega,by rw[List.length_append,List.length_singleton];omega,U O3.o,U (by simpa using rY.o),nW,U (by rw[HS.o,BK.o,HLP.o];simp[Option.map_map,Function.comp_def])⟩
     case measure=>omega
theorem EG(s cut:ByteArray)(w:World)(BF:cut.size<4294967281)(EH:∀ (j:Nat) b,cut.data.toList[j]? = some b→b.toNat<128):
  aT 185 #[.string s,.string cut] w fun e w'=>e=.returned (.string ⟨(Lib.trimLeftS s.data.toList cut.data.toList).toArray⟩)∧Below w.heap.size w w' :=
 Any.strings_TrimLeft_laid J6 (by kernel_rfl) s cut w BF EH
theorem sr{p:UInt8→Bool}(l:List UInt8):(l.dropWhile p).length=l.length-(l.takeWhile p).length:=by
 have:=congrArg List.length (List.takeWhile_append_dropWhile (p:=p) (l:=l));rw[List.length_append] at this;omega
theorem GS(w:World)(eb:Nat)(la:Option Addr)(ll lc:Nat)(t cut:ByteArray)(p:UInt8→Bool)(h:Pe w eb (.slice la ll lc) t)(hs:t.size≤400)(BF:cut.size<4294967281)(EH:∀ (j:Nat) b,cut.data.toList[j]? = some b→b.toNat<128)(hp:∀ c,cut.data.toList.contains c=p c):
  aT 144 #[aM eb,.string cut] w fun e w'=>∃ r t':ByteArray,e=.returned (.string r)∧But eb w w'∧Pe w' eb (.slice la ll lc) t'∧r.toList=t.toList.takeWhile p∧t'.toList=t.toList.dropWhile p:=by
 have c1:=h.rest;have yh:=dU.aq h 1;have hel:=h.lt;have H:=U h;clear h;obtain⟨k,hk⟩:∃ k,(t.toList.takeWhile p).length=k:=⟨_,rfl⟩
 have hkt:k≤t.size:=by rw[← hk,← aO];exact(List.takeWhile_sublist (p:=p)).length_le
 have HTW:=U (show (t.extract 0 k).toList=t.toList.takeWhile p by rw[uy,← hk];simpa using(ml (p:=p) t.toList).1);have YP:=U (show (t.extract k t.size).toList=t.toList.dropWhile p by rw[uy,← hk,(ml (p:=p) t.toList).2,List.take_of_length_le (by rw[sr,aO];omega)]);obtain⟨m,hm⟩:∃ m,t.size-k=m:=⟨_,rfl⟩
 have HTM:=U (show ∀ w',Below w.heap.size w w'→aT 185 #[.string t,.string cut] w' (fun e vb=>∃ u:ByteArray,e=.returned (.string u)∧u.size=m∧Below w.heap.size w vb) from fun w' kW=>(EG t cut w' BF EH).mono (fun e vb hh=>⟨_,hh.1,by
  have hpp:(cut.data.toList.contains ·)=p:=funext hp;show (Lib.trimLeftS t.data.toList cut.data.toList).toArray.size=_;unfold Lib.trimLeftS
  rw[List.size_toArray,hpp,← ByteArray.toList_eq,sr,aO,hk,hm],kW.trans (hh.2.mono kW.size)⟩))
 have Ck:=U (show ∀ w',Below w.heap.size w w'→w'.cell? (aj eb 1)=some (.string t) from fun w' kW=>(World.cell?_of_block (w:=w) (kW.block eb hel)).trans c1);have JM:(t.size:Int)-(m:Int)=(k:Int):=by omega
 have hx3:(0:Int)≤(k:Int):=by omega
 have hx4:(k:Int)≤(t.size:Int):=by omega
 have hx5:k≤400:=by omega
 have ee:IntKind.i64.wrap (k:Int)=(k:Int):=by rw[IntKind.wrap_i64];omega
 have dX:IntKind.i64.wrap ((t.size:Int)-(m:Int))=(k:Int):=by rw[IntKind.wrap_i64];omega
 clear hk hp EH BF hm
 go_enter func144,ntmps144
 go_wp2_with fail
 go_region_held3 (fun w'=>w'.cell? (aj eb 1)=some (.string t))
  (exact Ck.o _ (by repeat (first | with_reducible assumption | with_reducible exact Below.refl _ _ | with_reducible apply Below.drew)))
  (first | (go_at_call 185;refine(HTM.o _ (by repeat (first | with_reducible assumption | with_reducible exact Below.refl _ _ | with_reducible apply Below.drew))).mono ?_;rintro e w1 ⟨u,rfl,hu,aA⟩;have iK:IntKind.i64.wrap ((t.size:Int)-(u.size:Int))=(k:Int):=(by rw[hu];exact dX)))
 have jP:=U (H.o.same (aA.block eb hel));have f1:=jP.o.rest;have ff1:=dU.aq jP.o 1;have hex:(t.extract 0 k).size=k:=by rw[ByteArray.size_extract];omega
 generalize t.extract 0 k=r at HTW hex ⊢;clear c1 yh
 go_wp2_with fail
 go_ret
 exact⟨r,t.extract k t.size,rfl,(But.ofBelow aA).setCell _ _,jP.o.put _,HTW.o,YP.o⟩
def V9:ByteArray:=⟨#[45,48,49,50,51,52,53,54,55,56,57]⟩
def MZ:ByteArray:=⟨#[97,98,99,100,101,102,103,104,105,106,107,108,109,110,111,112,113,114,115,116,117,118,119,120,121,122,48,49,50,51,52,53,54,55,56,57]⟩
theorem Sh(c:UInt8):V9.data.toList.contains c=mj c:=by
 have all:∀ a:Fin 256,V9.data.toList.contains (UInt8.ofNat a.val)=mj (UInt8.ofNat a.val):=by decide +kernel
 have:=all ⟨c.toNat,c.toNat_lt⟩;simpa using this
theorem O4(c:UInt8):MZ.data.toList.contains c=eX c:=by
 have all:∀ a:Fin 256,MZ.data.toList.contains (UInt8.ofNat a.val)=eX (UInt8.ofNat a.val):=by decide +kernel
 have:=all ⟨c.toNat,c.toNat_lt⟩;simpa using this
theorem KN(w:World)(eb:Nat)(la:Option Addr)(ll lc:Nat)(t:ByteArray)(h:Pe w eb (.slice la ll lc) t)(hs:t.size≤400):
  aT 144 #[aM eb,.string V9] w fun e w'=>∃ r t':ByteArray,e=.returned (.string r)∧But eb w w'∧Pe w' eb (.slice la ll lc) t'∧r.toList=t.toList.takeWhile mj∧t'.toList=t.toList.dropWhile mj :=
 GS w eb la ll lc t V9 mj h hs (by decide) (ascii_of_all (by decide)) Sh
theorem GU(w:World)(eb:Nat)(la:Option Addr)(ll lc:Nat)(t:ByteArray)(h:Pe w eb (.slice la ll lc) t)(hs:t.size≤400):
  aT 144 #[aM eb,.string MZ] w fun e w'=>∃ r t':ByteArray,e=.returned (.string r)∧But eb w w'∧Pe w' eb (.slice la ll lc) t'∧r.toList=t.toList.takeWhile eX∧t'.toList=t.toList.dropWhile eX :=
 GS w eb la ll lc t MZ eX h hs (by decide) (ascii_of_all (by decide)) O4
theorem GV(x:ByteArray):∀ (zs:List ByteArray) (i:Nat),Lib.idxFromS zs x i=match (zs.map ByteArray.toList).findIdx? (fun n=>n==x.toList) with | some j=>((i+j:Nat):Int) | none=>-1
 | [],i=>by simp[Lib.idxFromS]
 | z::zs,i=>by
  unfold Lib.idxFromS;rw[List.map_cons,List.findIdx?_cons]
  by_cases h:z=x
  ·subst h;simp
  ·have h':(z.toList==x.toList)=false:=by
    cases e:(z.toList==x.toList) with
    | false=>rfl
    | true=>exact absurd (GM (by simpa using e)) h
   rw[h'];have:=GV x zs (i+1);simp only[Bool.false_eq_true,if_false];rw[if_neg (by first | exact h | (intro e;exact h e.symm) | simpa using h),this]
   cases (zs.map ByteArray.toList).findIdx? (fun n=>n==x.toList) with
   | none=>rfl
   | some j=>simp only[Option.map_some];congr 1;omega
theorem Si(w:World)(lo:Nat)(na:Option Addr)(nc:Nat)(names:List ByteArray)(r:ByteArray)(h:w.ownsRow lo 9 1 (.slice na names.length nc) names.length (names.map ie))(Cl:names.length≤400):
  aT 148 #[.slice na names.length nc,.string r] w fun e w'=>e=.returned (vI (Lib.idxFromS names r 0))∧w'=w:=by
 by_cases h0:0<names.length
 ·obtain⟨g,cap,hv,_,_⟩:=fT h h0
  obtain⟨rfl,rfl⟩:na=some (aj g 0)∧nc=cap:=by simpa using hv
  refine(oy g 0 names.length nc names r w (Nat.le_refl _) (by omega) (fun j hj=>?_)).mono (fun e w' hh=>⟨by rw[hh.1,List.take_length];rfl,hh.2⟩);have:=h.cellAt j (by omega);rw[List.getElem?_map,List.getElem?_eq_getElem hj] at this;rw[Nat.zero_add,List.getD_eq_getElem?_getD,List.getElem?_eq_getElem hj];exact this
 ·have:names=[]:=List.eq_nil_of_length_eq_zero (by omega)
  subst this;exact li na nc r w
theorem Au(w:World)(eb lo:Nat)(la:Option Addr)(ll lc:Nat)(t:ByteArray)(nv:Value)(names:List ByteArray)(h:Pe w eb (.slice la ll lc) t)(hs:t.size≤400)(hn:w.ownsRow lo 9 1 nv names.length (names.map ie))(Cl:names.length≤400)(bT:∀ n∈names,1≤n.size):
  aT 101 #[aM eb,nv] w (iM (GF eX (names.map ByteArray.toList)) w eb (.slice la ll lc) t):=by
 unfold iM;obtain⟨na,nc,mB⟩:∃ a c,nv=.slice a names.length c:=ax hn
 subst mB;have H:=U h;have HN:=U hn;have HNE:=U bT;clear h hn bT
 go_enter func101,ntmps101
 go_wp2_with fail
 refine(GU w eb la ll lc t H.o hs).mono ?_;rintro e w1 ⟨r,t1,rfl,aA,fe,KO,ij⟩;have jP:=U fe;have QQ:=U KO;have ir:=U ij;have R4:=U (aH HN.o (fun g hg=>aA.block g (HN.o.lt g hg).2 (dG HN.o H.o (by decide) hg)))
 have mI:r.size+t1.size=t.size:=by
  rw[← aO,← aO t1,← aO t,KO,ij,← List.length_append,List.takeWhile_append_dropWhile]
 have ju:=aA.size;clear fe KO ij
 go_wp2_with fail
 refine(Si w1 lo na nc names r R4.o Cl).mono ?_;rintro e w2 ⟨rfl,rfl⟩;rw[GV];have HCH:=U (show GF eX (names.map ByteArray.toList) t.toList=((names.map ByteArray.toList).findIdx? (fun n=>n==r.toList)).map fun i=>(eV i,t1.toList) by unfold GF;rw[QQ.o,ir.o])
 cases hf:(names.map ByteArray.toList).findIdx? (fun n=>n==r.toList) with
 | none=>
  have HF:=U hf;clear hf;simp only
  go_wp2_with fail
  go_ret2
  exact⟨none,0,[],t1,false,rfl,World.ownsRow_nil _ _ _ _,aA,jP.o,by omega,by simp,by rw[HCH.o,HF.o];rfl⟩
 | some j=>
  have HF:=U hf
  have hj:j<names.length:=by
   have:=(List.findIdx?_eq_some_iff_getElem.1 hf).1;rw[List.length_map] at this;exact this
  have hrs:1≤r.size:=by
   obtain⟨h1,h2,_⟩:=List.findIdx?_eq_some_iff_getElem.1 hf;rw[List.getElem_map] at h2;have h3:(names[j]'hj).toList=r.toList:=by simpa using h2
   rw[← aO,← h3,aO];exact HNE.o _ (List.getElem_mem hj)
  clear hf;simp only[Nat.zero_add]
  go_wp2_with fail
  refine(fX w2 w.heap.size (.slice none 0 0) [] j (World.ownsRow_nil _ _ _ _) (by omega) (by simp) ju).mono ?_;rintro e w5 ⟨a5,c5,rfl,iC,rM⟩;have ae7:Below w2.heap.size w2 w5:=rM.below (fun k hk=>by cases hk) (Nat.le_refl _);rw[List.nil_append] at iC ⊢;have FR:=U iC;have BM:(eV j).length≤2:=qx 1 j (by have:(128:Nat) ^ (1+1)=16384:=(by decide);omega);clear iC rM
  go_wp2_with fail
  go_ret2
  exact⟨a5,c5,eV j,t1,true,rfl,FR.o,aA.trans (But.ofBelow ae7),jP.o.same (ae7.block eb jP.o.lt),by omega,by omega,by rw[HCH.o,HF.o];rfl⟩
theorem YQ(b:Nat)(h:b<18446744073709551616):18446744073709551615 ^^^ b=18446744073709551615-b:=by
 have h1:=BitVec.toNat_xor (BitVec.allOnes 64) (BitVec.ofNat 64 b);rw[BitVec.allOnes_xor,BitVec.toNat_not,BitVec.toNat_allOnes,BitVec.toNat_ofNat,Nat.mod_eq_of_lt (show b<2 ^ 64 by omega)] at h1;exact h1.symm
theorem Wa(h:n<0)(h1:-9223372036854775808≤n):bits BinOp.xor IntKind.u64 IntKind.u64.max (IntKind.u64.wrap (IntKind.u64.wrap n*2))=(qu n:Int):=by
 obtain⟨b,hb⟩:∃ b:Nat,IntKind.u64.wrap (IntKind.u64.wrap n*2)=(b:Int)∧(b:Int)=2*n+18446744073709551616:=⟨(2*n+18446744073709551616).toNat,by rw[IntKind.wrap_u64,IntKind.wrap_u64];omega,by omega⟩
 rw[hb.1,show IntKind.u64.max=((18446744073709551615:Nat):Int) by decide,bits_xor_u64_nat _ _ (by omega) (by omega),YQ b (by omega)];unfold qu;rw[if_pos h];omega
def O5(l:List UInt8):Option Int:=match Lib.parseIntB 64 l with | .ok v=>some v | _=>none
theorem EI(s:ByteArray)(w:World)(hs:s.size≤400)(hE:mR w):
  aT 145 #[.string s,vI 10,vI 64] w fun e w'=>Below w.heap.size w w'∧((∃ v,O5 s.toList=some v∧e=.returned (.tuple #[vI v,.nilIface]))∨(O5 s.toList=none∧∃ (v:Int) (N:Nat) (T:TypeId),e=.returned (.tuple #[vI v,.iface T (aM N)]))):=by
 obtain⟨te,pe,ZT⟩:=hE.v.sx;obtain⟨te2,pe2,ZU⟩:=hE.v.rg;unfold O5;rw[ByteArray.toList_eq]
 cases h:Lib.parseIntB 64 s.data.toList with
 | ok v=>
  refine(kw s (by omega) v h w).mono ?_;rintro e w1 ⟨rfl,ee⟩;refine⟨?_,Or.inl ⟨v,rfl,rfl⟩⟩
  rcases ee with rfl | ⟨t,rfl⟩
  ·exact Below.refl _ _
  ·exact Joins.below_bytesWorld _ _ _ _ (Nat.le_refl _)
 | range=>
  refine(jl s (by omega) h _ w ZU (Or.inr ⟨te2,pe2,rfl⟩)).mono ?_;rintro e w1 ⟨N,rfl,_,_,hb⟩;exact⟨hb,Or.inr ⟨rfl,_,N,_,rfl⟩⟩
 | _=>
  refine(iW s (by omega) ⟨fun v hh => (by rw [h] at hh; cases hh),fun hh => (by rw [h] at hh; cases hh)⟩ _ w ZT (Or.inr ⟨te,pe,rfl⟩)).mono ?_;rintro e w1 ⟨N,rfl,_,_,hb⟩;exact⟨hb,Or.inr ⟨rfl,_,N,_,rfl⟩⟩
theorem EJ(w:World)(eb:Nat)(la:Option Addr)(ll lc:Nat)(t:ByteArray)(h:Pe w eb (.slice la ll lc) t)(hs:t.size≤400)(hE:mR w)(hO:KK eb):
  aT 100 #[aM eb] w (iM (OU mj) w eb (.slice la ll lc) t):=by
 unfold iM;have H:=U h;have HE:=U hE;clear h hE
 go_enter func100,ntmps100
 go_wp2_with fail
 refine(KN w eb la ll lc t H.o hs).mono ?_;rintro e w1 ⟨r,t1,rfl,aA,fe,KO,ij⟩;have jP:=U fe;have rN:=U (show OU mj t.toList=(intOf r.toList).map fun n=>(eV (qu n),t1.toList) by unfold OU;rw[KO,ij])
 have mI:r.size+t1.size=t.size:=by
  rw[← aO,← aO t1,← aO t,KO,ij,← List.length_append,List.takeWhile_append_dropWhile]
 have CY:=U (HE.o.but aA hO);clear fe KO ij
 go_wp2_with fail
 refine(EI r w1 (by omega) CY.o).mono ?_;rintro e w2 ⟨aW,⟨n,bX,rfl⟩ | ⟨nH,v,N,T,rfl⟩⟩
 ·have UZ:=U bX
  have yn:=aA.trans (But.ofBelow aW);have jn:=U (jP.o.same (aW.block eb jP.o.lt));have pd:=U (CY.o.below aW);clear bX;have BY:=yn.size
  have Ku:GJ n:=Sc (t:=r.toList) (by
   have:=UZ.o;unfold O5 at this
   cases h:Lib.parseIntB 64 r.toList with
   | ok v=>rw[h] at this;simp only[Option.some.injEq] at this;rw[this]
   | range=>rw[h] at this;cases this
   | _=>rw[h] at this;cases this)
  obtain⟨QR,Dg⟩:=Ku
  go_wp2_with fail
  refine(fu n QR Dg _ pd.o.t).mono ?_;rintro e w3 ⟨rfl,kk,os,iK⟩;have EK:Below w2.heap.size w2 w3:=by rw[iK];exact An _ _ _
  have nI:=U (jn.o.same (EK.block eb jn.o.lt));have bP:=yn.trans (But.ofBelow EK);have BD:=bP.size;clear iK EK;have tM:(ByteArray.mk (Lib.itoa n).toArray).toList=Lib.itoa n:=by rw[ByteArray.toList_eq]
  generalize ByteArray.mk (Lib.itoa n).toArray=fb at *
  have HIO:=U (show intOf r.toList=if Lib.itoa n=r.toList then some n else none from by
   have:=UZ.o;unfold O5 at this;unfold intOf
   cases h:Lib.parseIntB 64 r.toList with
   | ok v=>rw[h] at this;simp only[Option.some.injEq] at this;rw[this]
   | range=>rw[h] at this;cases this
   | _=>rw[h] at this;cases this)
  rw[← tM] at HIO
  cases U6:(fb.toList==r.toList) with
  | false=>
   have HS:=U (show intOf r.toList=none by rw[HIO.o,if_neg (by simpa using U6)]);have bT:(fb.toList != r.toList)=true:=by simpa using U6
   clear tM
   go_wp2_with fail
   go_ret2
   exact⟨none,0,[],t1,false,rfl,World.ownsRow_nil _ _ _ _,bP,nI.o,by omega,by simp,by rw[rN.o,HS.o];rfl⟩
  | true=>
   have HS:=U (show intOf r.toList=some n by rw[HIO.o,if_pos (by simpa using U6)]);have bT:(fb.toList != r.toList)=false:=by simp at U6 ⊢;exact U6
   have YR:=U (show OU mj t.toList=some (eV (qu n),t1.toList) by rw[rN.o,HS.o];rfl);have hlw:=Sd (n:=n) QR Dg;rw[KG HS.o,aO] at hlw;clear tM
   by_cases hn:n<0
   ·go_wp2_with fail
    rw[Wa hn QR];have aau:qu n<18446744073709551616:=by unfold qu;split<;>omega
    refine(fX _ w.heap.size _ [] (qu n) (World.ownsRow_nil _ _ _ _) aau (by simp) BD).mono ?_;rintro e w4 ⟨a4,c4,rfl,iA,pI⟩;have Sj:Below w3.heap.size w3 w4:=pI.below (fun k hk=>by cases hk) (Nat.le_refl _);rw[List.nil_append] at iA ⊢;have rY:=U iA;clear iA pI;generalize eV (qu n)=out at *
    go_wp2_with fail
    go_ret2
    exact⟨a4,c4,out,t1,true,rfl,rY.o,bP.trans (But.ofBelow Sj),nI.o.same (Sj.block eb nI.o.lt),by omega,by omega,YR.o⟩
   ·go_wp2_with fail
    rw[show n*2=(qu n:Int) by unfold qu;rw[if_neg (by omega)];omega];have aau:qu n<18446744073709551616:=by unfold qu;split<;>omega
    refine(fX _ w.heap.size _ [] (qu n) (World.ownsRow_nil _ _ _ _) aau (by simp) BD).mono ?_;rintro e w4 ⟨a4,c4,rfl,iA,pI⟩;have Sj:Below w3.heap.size w3 w4:=pI.below (fun k hk=>by cases hk) (Nat.le_refl _);rw[List.nil_append] at iA ⊢;have rY:=U iA;clear iA pI;generalize eV (qu n)=out at *
    go_wp2_with fail
    go_ret2
    exact⟨a4,c4,out,t1,true,rfl,rY.o,bP.trans (But.ofBelow Sj),nI.o.same (Sj.block eb nI.o.lt),by omega,by omega,YR.o⟩
 ·have Sk:=U (show intOf r.toList=none from by
   unfold O5 at nH;unfold intOf
   cases h:Lib.parseIntB 64 r.toList with
   | ok v=>rw[h] at nH;cases nH
   | range=>rfl
   | _=>rfl)
  clear nH
  go_wp2_with fail
  go_ret2
  exact⟨none,0,[],t1,false,rfl,World.ownsRow_nil _ _ _ _,aA.trans (But.ofBelow aW),jP.o.same (aW.block eb jP.o.lt),by omega,by simp,by rw[rN.o,Sk.o];rfl⟩
def yT(f:PField):FD:=⟨f.number.toNat,f.name.toList,f.shape,f.base.toList⟩
def nJ(X:List PIV)(base:List UInt8):Option TD:=match X[(pFindI X base).toNat]? with
 | none=>none
 | some x=>if pFindI X base<0 then none else if x.it.kind=0 then some (.inr (x.it.fields.map yT)) else some (.inl (x.it.names.map fun t=>t.text.toList))
abbrev jp(X:List PIV)(n:Nat):=RV mj eX (nJ X) n
structure M0(X:List PIV):Prop where
 YS:Nms X
 len:X.length≤400
 n:∀ x∈X,∀ f∈x.it.fields,0≤f.number∧f.number≤99
 s:∀ x∈X,∀ f∈x.it.fields,1≤f.name.size∧f.name.size≤400
 fl:∀ x∈X,x.it.fields.length≤400
 nl:∀ x∈X,x.it.names.length≤400
 nn:∀ x∈X,∀ t∈x.it.names,1≤t.text.size∧t.text.size≤400
def O7(X:List PIV)(n:Nat):Prop:=∀ (w:World) (eb lo:Nat) (la:Option Addr) (ll lc:Nat) (t base:ByteArray),PIts w lo (.slice la ll lc) X→Pe w eb (.slice la ll lc) t→mR w→KK eb→t.size≤400 →
 Calls Tryz.prog 71 #[.pointer (some ⟨eb,0,none⟩),.string base,.int .i64 ((7:Int)-n)] w (iM ((jp X n).1 base.toList) w eb (.slice la ll lc) t)
def O8(X:List PIV)(n:Nat):Prop:=∀ (w:World) (eb lo:Nat) (la:Option Addr) (ll lc:Nat) (t base:ByteArray),PIts w lo (.slice la ll lc) X→Pe w eb (.slice la ll lc) t→mR w→KK eb→t.size≤400 →
 Calls Tryz.prog 191 #[.pointer (some ⟨eb,0,none⟩),.string base,.int .i64 ((7:Int)-n)] w (iM ((jp X n).2 base.toList) w eb (.slice la ll lc) t)
theorem PIts.but{lv2:Value}(h:PIts w lo lv X)(hc:Pe w eb lv2 t)(hb:But eb w w'):PIts w' lo lv X:=by
 have own:∀ {e:TypeId} {size n:Nat} {v:Value} {ys:List Value},e≠151→w.ownsRow lo e size v n ys→w'.ownsRow lo e size v n ys:=fun he h1=>aH h1 (fun g hg=>hb.block g (h1.lt g hg).2 (dG h1 hc he hg))
 refine⟨own (by decide) h.own,fun x hx=>?_⟩;have JN:=h.nest x hx;exact { JN with f:=own (by decide) JN.f,n:=own (by decide) JN.n }
def Sl(G:qv)(val:List UInt8→qv)(T:List UInt8)(m:Nat)(out:List UInt8):Prop:=m≤16∧G=(sM val (16-m) (decide (m=0)) T).map fun x=>(out++x.1,x.2)
theorem Sl.KP{val:List UInt8→qv}{r:List UInt8}(h:Sl G val T m out)(he:cO [93] T=some r):G=some (out,r):=by
 rw[h.2,q9,he];simp
theorem Sl.aks{val:List UInt8→qv}(h:Sl G val T 16 out)(he:cO [93] T=none):G=none:=by
 rw[h.2,q9,he];rfl
theorem Sl.Wb{val:List UInt8→qv}(h:Sl G val T m out)(he:cO [93] T=none)(hm:m≠0)(hc:cO [44] T=none):G=none:=by
 rw[h.2,q9,he]
 cases 16-m with
 | zero=>rfl
 | succ q=>simp[hm,hc]
theorem Sl.value{val:List UInt8→qv}(h:Sl G val T m out)(he:cO [93] T=none)(hm:m<16)(h1:(m=0∧T1=T)∨(m≠0∧cO [44] T=some T1)):
  (val T1=none→G=none)∧(∀ v T2,val T1=some (v,T2)→Sl G val T2 (m+1) (out++fA v)):=by
 have h':=h.2;rw[q9,he] at h';obtain⟨q,hq⟩:∃ q,16-m=q+1:=⟨15-m,by omega⟩
 rw[hq] at h'
 have ht:(if decide (m=0)=true then some T else cO [44] T)=some T1:=by
  rcases h1 with⟨e1,e2⟩ | ⟨e1,e2⟩
  ·simp[e1,e2]
  ·simp[e1,e2]
 simp only[ht,Option.bind_some] at h';refine⟨fun hv=>by rw[h',hv];rfl,fun v T2 hv=>⟨by omega,?_⟩⟩;rw[h',hv,show 16-(m+1)=q by omega,show decide (m+1=0)=false by simp];simp only[Option.bind_some,Option.map_map]
 congr 1
 funext x
 simp
def Vi:Bool→ByteArray
 | true=>⟨#[]⟩
 | false=>⟨#[44]⟩
theorem GW(b:Bool):(Vi b).toList=if b then [] else [44]:=by
 cases b
 ·simp only[Vi];rw[ByteArray.toList_eq];rfl
 ·simp only[Vi];rw[ByteArray.toList_eq];rfl
def FT(G:qv)(val pP:List UInt8→List UInt8→qv)(fs:List FD)(T:List UInt8)(j:Nat)(first:Bool)(out:List UInt8):Prop:=G=(jE val pP (fs.drop j) first T).map fun x=>(out++x.1,x.2)
theorem FT.KP{val pP:List UInt8→List UInt8→qv}(h:FT G val pP fs T j first out)(hj:fs.length≤j):G=(cO [125] T).map fun r=>(out,r):=by
 unfold FT at h;rw[h,List.drop_eq_nil_of_le hj];unfold jE;cases cO [125] T<;>simp
theorem FT.skip{val pP:List UInt8→List UInt8→qv}(h:FT G val pP fs T j first out)(hf:fs[j]? = some f)(he:cO ((if first then [] else [44])++f.name++[58]) T=none)(hs:f.shape=1):FT G val pP fs T (j+1) first out:=by
 unfold FT at h ⊢;have bC:=at_lt hf;rw[h,List.drop_eq_getElem_cons bC];have e:fs[j]=f:=by rw[List.getElem?_eq_getElem bC] at hf;simpa using hf
 rw[e]
 conv=>lhs;unfold jE
 rw[he];simp only[if_pos hs]
theorem FT.akt{val pP:List UInt8→List UInt8→qv}(h:FT G val pP fs T j first out)(hf:fs[j]? = some f)(he:cO ((if first then [] else [44])++f.name++[58]) T=none)(hs:f.shape≠1):G=none:=by
 unfold FT at h;have bC:=at_lt hf;rw[h,List.drop_eq_getElem_cons bC];have e:fs[j]=f:=by rw[List.getElem?_eq_getElem bC] at hf;simpa using hf
 rw[e];unfold jE;rw[he];simp only[if_neg hs];rfl
theorem FT.value{val pP:List UInt8→List UInt8→qv}(h:FT G val pP fs T j first out)(hf:fs[j]? = some f)(he:cO ((if first then [] else [44])++f.name++[58]) T=some T1):
  ((if f.shape=2 then pP f.base T1 else val f.base T1)=none→G=none)∧(∀ v T2,(if f.shape=2 then pP f.base T1 else val f.base T1)=some (v,T2)→FT G val pP fs T2 (j+1) false ((out++eV f.number)++fA v)):=by
 unfold FT at h ⊢;have bC:=at_lt hf;rw[List.drop_eq_getElem_cons bC] at h;have e:fs[j]=f:=by rw[List.getElem?_eq_getElem bC] at hf;simpa using hf
 rw[e] at h;unfold jE at h;rw[he] at h;refine⟨fun hv=>by rw[h];simp only[hv];rfl,fun v T2 hv=>?_⟩;rw[h];simp only[hv,Option.bind_some,Option.map_map]
 congr 1
 funext x
 simp
theorem iM.nM{spec:List UInt8→qv}{wf:World}(h:iM spec wf eb lv t e w')(hb:Below w.heap.size w wf):iM spec w eb lv t e w':=by
 obtain⟨a,c,out,t',ok,h1,h2,h3,h4,h5,h6,h7⟩:=h;exact⟨a,c,out,t',ok,h1,cm h2 hb.size,(But.ofBelow hb).trans h3,h4,h5,h6,h7⟩
theorem iM.sF{spec GX:List UInt8→qv}(h:iM spec w eb lv t e w')(hk:GX t.toList=spec t.toList):iM GX w eb lv t e w':=by
 obtain⟨a,c,out,t',ok,h1,h2,h3,h4,h5,h6,h7⟩:=h;exact⟨a,c,out,t',ok,h1,h2,h3,h4,h5,h6,hk.trans h7⟩
theorem KQ{n:Nat}(hV:O7 X n)(hL:O8 X n)(w:World)(eb lo:Nat)(la:Option Addr)(ll lc:Nat)(t:ByteArray)(f:PField)(d:Int)(hd:d=(7:Int)-n)(hI:PIts w lo (.slice la ll lc) X)(h:Pe w eb (.slice la ll lc) t)(hE:mR w)(hO:KK eb)(hs:t.size≤400):
  aT 151 #[aM eb,.agg #[vI f.number,vI f.numberAt,.string f.name,vI f.nameAt,vI f.shape,.string f.base,vI f.baseAt],vI d] w (iM (if f.shape=2 then(jp X n).2 f.base.toList else(jp X n).1 f.base.toList) w eb (.slice la ll lc) t):=by
 subst hd
 by_cases h2:f.shape=2
 ·have h2B:((f.shape:Int)==2)=true:=by simp;omega
  rw[if_pos h2];have HC:=U (fun w' (hb:Below w.heap.size w w')=>hL w' eb lo la ll lc t f.base (hI.below hb) (h.same (hb.block eb h.lt)) (hE.below hb) hO hs);clear hI h hE hV hL
  go_enter func151,ntmps151
  go_wp2_with fail
  refine(HC.o _ ((Below.refl _ _).alloc (Nat.le_refl _) _)).mono ?_;intro e w1 h1;have HP:=U (h1.nM ((Below.refl _ _).alloc (Nat.le_refl _) _));obtain⟨a,c,out,t',ok,rfl,_⟩:=h1
  go_wp2_with fail
  go_ret2
  exact HP.o
 ·have h2B:((f.shape:Int)==2)=false:=by simp;omega
  rw[if_neg h2];have HC:=U (fun w' (hb:Below w.heap.size w w')=>hV w' eb lo la ll lc t f.base (hI.below hb) (h.same (hb.block eb h.lt)) (hE.below hb) hO hs);clear hI h hE hV hL
  go_enter func151,ntmps151
  go_wp2_with fail
  refine(HC.o _ ((Below.refl _ _).alloc (Nat.le_refl _) _)).mono ?_;intro e w1 h1;have HP:=U (h1.nM ((Below.refl _ _).alloc (Nat.le_refl _) _));obtain⟨a,c,out,t',ok,rfl,_⟩:=h1
  go_wp2_with fail
  go_ret2
  exact HP.o
theorem uB(d0 d1 d2 d3 d4 d5 d6 d7 d8:Value)(h:Below b w w0):Below b w (((((((((w0.setCell (aj b 0) d0).setCell (aj b 1) d1).setCell (aj b 2) d2).setCell (aj b 3) d3).setCell (aj b 4) d4).setCell (aj b 5) d5).setCell (aj b 6) d6).setCell (aj b 7) d7).setCell (aj b 8) d8) :=
 (((((((((h.setCell (p:=(aj b 0)) (Nat.le_refl _) d0).setCell (p:=(aj b 1)) (Nat.le_refl _) d1).setCell (p:=(aj b 2)) (Nat.le_refl _) d2).setCell (p:=(aj b 3)) (Nat.le_refl _) d3).setCell (p:=(aj b 4)) (Nat.le_refl _) d4).setCell (p:=(aj b 5)) (Nat.le_refl _) d5).setCell (p:=(aj b 6)) (Nat.le_refl _) d6).setCell (p:=(aj b 7)) (Nat.le_refl _) d7).setCell (p:=(aj b 8)) (Nat.le_refl _) d8)
theorem oJ{T:TypeId}{x0 x1 x2 x3 x4 x5 x6 x7 x8:Value}(d0 d1 d2 d3 d4 d5 d6 d7 d8:Value)(h:dU w0 b T 0 [x0,x1,x2,x3,x4,x5,x6,x7,x8]):dU (((((((((w0.setCell (aj b 0) d0).setCell (aj b 1) d1).setCell (aj b 2) d2).setCell (aj b 3) d3).setCell (aj b 4) d4).setCell (aj b 5) d5).setCell (aj b 6) d6).setCell (aj b 7) d7).setCell (aj b 8) d8) b T 0 [d0,d1,d2,d3,d4,d5,d6,d7,d8]:=by
 have k:=(dU.set (dU.set (dU.set (dU.set (dU.set (dU.set (dU.set (dU.set (dU.set h 0 d0) 1 d1) 2 d2) 3 d3) 4 d4) 5 d5) 6 d6) 7 d7) 8 d8)
 simp only[Nat.zero_add] at k;exact k
theorem GY{name:List UInt8}(h:0≤pFindI X name):∃ (k:Nat) (x:PIV),pFindI X name=(k:Int)∧X[k]? = some x∧(x.it.kind=0∨x.it.kind=1):=by
 unfold pFindI at h ⊢
 cases e:X.findIdx? (fun x=>pMatchB name x.it) with
 | none=>rw[e] at h;simp at h
 | some k=>
  obtain⟨bC,hm,_⟩:=List.findIdx?_eq_some_iff_getElem.1 e;refine⟨k,X[k],rfl,List.getElem?_eq_getElem bC,?_⟩;simp only[pMatchB,pTypeB,Bool.and_eq_true,Bool.or_eq_true,beq_iff_eq] at hm;exact hm.1
def GZ(w:World)(X:List PIV)(name:ByteArray)(e:Ending)(w':World):Prop :=
 Below w.heap.size w w'∧((pFindI X name.toList<0∧e=.returned (.tuple #[.agg #[.int .i64 0,.string ⟨#[]⟩,.int .i64 0,.slice none 0 0,.slice none 0 0,.string ⟨#[]⟩,.int .i64 0,.string ⟨#[]⟩,.int .i64 0],.bool false])) ∨
  ∃ (k:Nat) (x:PIV) (n:Ninth),pFindI X name.toList=(k:Int)∧X[k]? = some x∧(x.it.kind=0∨x.it.kind=1)∧x.vf=.slice n.fa x.it.fields.length n.fc∧x.vn=.slice n.na x.it.names.length n.nc ∧
   e=.returned (.tuple #[.agg #[.int .i64 x.it.kind,.string x.it.name.text,.int .i64 x.it.name.at_,.slice n.fa x.it.fields.length n.fc,.slice n.na x.it.names.length n.nc,.string n.bb,.int .i64 n.ba,.string n.ab,.int .i64 n.aa],.bool true]))
theorem qz(w:World)(lo:Nat)(lv:Value)(X:List PIV)(name:ByteArray)(h:PIts w lo lv X)(hn:Nms X)(hX:X.length≤400):
  aT 103 #[lv,.string name] w (GZ w X name):=by
 obtain⟨la,lc,nk⟩:∃ a c,lv=.slice a X.length c:=ax h.own
 subst nk;unfold GZ;have H:=U h;have HN:=U hn;clear h hn
 go_enter func103,ntmps103
 go_wp2_with fail
 have cj:Below w.heap.size w (w.alloc (.cells #[vI 0,.string ⟨#[]⟩,vI 0,.slice none 0 0,.slice none 0 0,.string ⟨#[]⟩,vI 0,.string ⟨#[]⟩,vI 0] 117)):=(Below.refl _ _).alloc (Nat.le_refl _) _;refine(findType_any _ lo _ X name (H.o.below cj) HN.o hX).mono ?_;rintro e w1 ⟨rfl,ym⟩;have aA:=cj.trans (ym.mono cj.size);have fy:dU w1 w.heap.size 117 0 [vI 0,.string ⟨#[]⟩,vI 0,.slice none 0 0,.slice none 0 0,.string ⟨#[]⟩,vI 0,.string ⟨#[]⟩,vI 0]:=(seg_made w _ _).same (ym.block _ (by simp));have r0:=fy.cell (j:=0) rfl;have r1:=fy.cell (j:=1) rfl;have r2:=fy.cell (j:=2) rfl;have r3:=fy.cell (j:=3) rfl;have r4:=fy.cell (j:=4) rfl;have r5:=fy.cell (j:=5) rfl;have r6:=fy.cell (j:=6) rfl;have r7:=fy.cell (j:=7) rfl;have r8:=fy.cell (j:=8) rfl;simp only[Nat.zero_add] at r0 r1 r2 r3 r4 r5 r6 r7 r8;have asr:=fy.lt;have q0:=fy.aq 0;have q1:=fy.aq 1;have q2:=fy.aq 2;have q3:=fy.aq 3;have q4:=fy.aq 4;have q5:=fy.aq 5;have q6:=fy.aq 6;have q7:=fy.aq 7;have q8:=fy.aq 8;have MI:=U fy;clear fy ym
 by_cases rJ:pFindI X name.toList<0
 ·have akv:=U rJ
  go_wp2_with fail
  have oK:=oJ (vI 0) (.string ⟨#[]⟩) (vI 0) (.slice none 0 0) (.slice none 0 0) (.string ⟨#[]⟩) (vI 0) (.string ⟨#[]⟩) (vI 0) MI.o;have z0:=oK.cell (j:=0) rfl;have z1:=oK.cell (j:=1) rfl;have z2:=oK.cell (j:=2) rfl;have z3:=oK.cell (j:=3) rfl;have z4:=oK.cell (j:=4) rfl;have z5:=oK.cell (j:=5) rfl;have z6:=oK.cell (j:=6) rfl;have z7:=oK.cell (j:=7) rfl;have z8:=oK.cell (j:=8) rfl;simp only[Nat.zero_add] at z0 z1 z2 z3 z4 z5 z6 z7 z8;refine bodyPost_ret (v:=.tuple #[.agg #[vI 0,.string ⟨#[]⟩,vI 0,.slice none 0 0,.slice none 0 0,.string ⟨#[]⟩,vI 0,.string ⟨#[]⟩,vI 0],.bool false]) (by simp[results,Tryz.results103,go_sem,z0,z1,z2,z3,z4,z5,z6,z7,z8]) rfl ⟨uB _ _ _ _ _ _ _ _ _ aA,Or.inl ⟨akv.o,rfl⟩⟩
 ·obtain⟨k,x,hk,hx,iD⟩:=GY (X:=X) (name:=name.toList) (by omega)
  have HK:=U hk;rw[hk] at rJ ⊢;have bC:k<X.length:=at_lt hx;obtain⟨g,cap,hv,vH,xT⟩:=fT H.o.own (by omega);obtain⟨rfl,rfl⟩:la=some (aj g 0)∧lc=cap:=by simpa using hv
  obtain⟨n,hn⟩:=(H.o.below aA).itemAt HN.o hx;have hs:=hn.seg;have HX:=U hx;have HVF:=U hn.vf;have HVN:=U hn.vn;have HKD:=U iD;clear hx hv hn hk iD;have c0:=hs.cell (j:=0) rfl;have c1:=hs.cell (j:=1) rfl;have c2:=hs.cell (j:=2) rfl;have c3:=hs.cell (j:=3) rfl;have c4:=hs.cell (j:=4) rfl;have c5:=hs.cell (j:=5) rfl;have c6:=hs.cell (j:=6) rfl;have c7:=hs.cell (j:=7) rfl;have c8:=hs.cell (j:=8) rfl;simp only[Nat.add_zero] at c0;clear hs;have BL:¬ (k:Int)<0:=by omega
  clear rJ
  go_wp2_with fail
  have oK:=oJ (vI x.it.kind) (.string x.it.name.text) (vI x.it.name.at_) (.slice n.fa x.it.fields.length n.fc) (.slice n.na x.it.names.length n.nc) (.string n.bb) (vI n.ba) (.string n.ab) (vI n.aa) MI.o;have z0:=oK.cell (j:=0) rfl;have z1:=oK.cell (j:=1) rfl;have z2:=oK.cell (j:=2) rfl;have z3:=oK.cell (j:=3) rfl;have z4:=oK.cell (j:=4) rfl;have z5:=oK.cell (j:=5) rfl;have z6:=oK.cell (j:=6) rfl;have z7:=oK.cell (j:=7) rfl;have z8:=oK.cell (j:=8) rfl;simp only[Nat.zero_add] at z0 z1 z2 z3 z4 z5 z6 z7 z8;refine bodyPost_ret (v:=.tuple #[.agg #[vI x.it.kind,.string x.it.name.text,vI x.it.name.at_,.slice n.fa x.it.fields.length n.fc,.slice n.na x.it.names.length n.nc,.string n.bb,vI n.ba,.string n.ab,vI n.aa],.bool true]) (by simp[results,Tryz.results103,go_sem,z0,z1,z2,z3,z4,z5,z6,z7,z8]) rfl ⟨uB _ _ _ _ _ _ _ _ _ aA,Or.inr ⟨k,x,n,HK.o,HX.o,HKD.o,HVF.o,HVN.o,rfl⟩⟩
end Go.Proofs.YtkpfplbmmglkkaaGreatDoor
