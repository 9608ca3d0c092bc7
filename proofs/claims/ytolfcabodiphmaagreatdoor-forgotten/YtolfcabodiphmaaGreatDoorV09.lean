/- Bytes in memory: small numbers put behind bytes, by the program and by the reference. -/
import Derived.Test.YtolfcabodiphmaaGreatDoorV08
import Derived.Test.YtolfcabodiphmaaGreatDoorShelf2
import Derived.Test.YtolfcabodiphmaaGreatDoorV00
import Derived.Test.YtolfcabodiphmaaGreatDoorV04
import Derived.Lib.AppendStr
import Derived.Lib.ConvBytes
set_option linter.unusedSimpArgs false
set_option linter.unusedVariables false
set_option maxHeartbeats 1000000
set_option maxRecDepth 100000
namespace Go.Proofs.YtolfcabodiphmaaGreatDoor
open Go.Proofs.Tryz
open Go.RowKit
theorem rP:∀ (k n:Nat),n<128 ^ (k+1)→(fZ n).length≤k+1
 | 0,n,h=>by rw[nU (by simpa using h)];simp
 | k+1,n,h=>by
  by_cases h':n<128
  ·rw[nU h'];simp
  ·rw[tH h',List.length_cons]
   have:=rP k (n / 128) (by rw[Nat.pow_succ] at h;omega)
   omega
theorem qg(n:Nat)(h:n<18446744073709551616):(fZ n).length≤10:=by
 have e:(128:Nat) ^ (9+1)=1180591620717411303424:=by decide
 exact rP 9 n (by rw[e];omega)
theorem UR(n:Nat):1≤(fZ n).length:=by
 by_cases h:n<128
 ·rw[nU h];simp
 ·rw[tH h];simp
theorem aav{m:Nat}(h:m<256):(m.toUInt8.toNat:Int)=(m:Int):=by
 have:m.toUInt8.toNat=m:=by simp[Nat.toUInt8,UInt8.toNat_ofNat',Nat.mod_eq_of_lt h]
 rw[this]
theorem aeo(g:Nat):bits BinOp.or IntKind.u8 ((g:Int) % 256) 128=(((g % 128+128).toUInt8).toNat:Int):=by
 rw[aav (by omega)]
 have all:∀ a:Fin 256,bits BinOp.or IntKind.u8 ((a.val:Nat):Int) 128=((a.val % 128+128:Nat):Int):=by decide +kernel
 have:=all ⟨g % 256,by omega⟩
 rw[show ((g:Int) % 256)=((g % 256:Nat):Int) by omega,this]
 show (((g % 256) % 128+128:Nat):Int)=((g % 128+128:Nat):Int)
 omega
theorem iL(w:World)(lo:Nat)(v:Value)(L:List UInt8)(n:Nat)(h:gZ w lo v L)(hn:n<18446744073709551616)(hl:L.length≤10000000000)(hlo:lo≤w.heap.size):
  Calls Tryz.prog 85 #[v,.int .u64 n] w fun e w'=>∃ a c,e=.returned (.slice a (L++fZ n).length c)∧gZ w' lo (.slice a (L++fZ n).length c) (L++fZ n)∧Grew w w' v (.slice a (L++fZ n).length c):=by
 obtain⟨la,lc,hlv⟩:∃ a c,v=.slice a L.length c:=ay h
 subst hlv
 have H:=hid h
 clear h
 go_enter func85,ntmps85
 go_wp2_with fail
 go_loopg [0,1] n (fun gk dv nv wr=>∃ M:List UInt8,nv=.int .u64 gk∧gk≤n∧Hid (L++fZ n=M++fZ gk)∧M.length≤L.length+10∧Hid (gZ wr lo dv M)∧Hid (Grew w wr (.slice la L.length lc) dv))
 case atStart=>exact⟨L,rfl,Nat.le_refl _,hid rfl,by omega,hid H.out,hid (Grew.refl _ _)⟩
 case round=>
  obtain⟨M,rfl,hgk,HE,hM,HB,HG⟩:=hrel
  obtain⟨na,nc,yx⟩:∃ a c,u0=.slice a M.length c:=ay HB.out
  subst yx
  have hsz:=HG.out.g.size
  have hML:M.length+1≤L.length+10:=by
   have h1:=congrArg List.length HE.out
   have h2:=qg n hn
   have h3:=UR gk
   simp only[List.length_append] at h1
   omega
  by_cases hge:128≤gk
  ·have hge':(128:Int)≤(gk:Int):=by omega
   have hz1:=aeo gk
   have Xq:=tH (n:=gk) (by omega)
   generalize (gk % 128+128).toUInt8=c at hz1 Xq
   have HV:=hid Xq
   clear Xq
   go_wp2_with (at_builtin;refine fB _ rfl _ _ rfl _ M lo rfl (HB.out.same ((Below.refl _ _).alloc (Nat.le_refl _) _)) _ [c] _ rfl (sS _ _ _ (by first | rfl | exact hz1)) (by simp;omega) (by simp;omega) ?_)
   intro a1 c1 w1 hb1 hg1
   have QI:=hid (HG.out.trans ((Grew.call ((Below.refl _ _).alloc (Nat.le_refl _) _)).trans hg1))
   have HB1:=hid hb1
   clear hb1 hg1
   go_wp2_with fail
   go_roundg (gk / 128)
   case rel=>exact⟨M++[c],by go_num,by omega,hid (by rw[HE.out,HV.out];simp),by rw[List.length_append,List.length_singleton];omega,hid (by simpa using HB1.out),hid (by simpa using QI.out)⟩
   case measure=>omega
  ·have hge':¬ (128:Int)≤(gk:Int):=by omega
   have hz1:(gk:Int)=(gk.toUInt8.toNat:Int):=(aav (by omega)).symm
   have Xq:=nU (n:=gk) (by omega)
   generalize gk.toUInt8=c at hz1 Xq
   have HV:=hid Xq
   clear Xq
   go_wp2_with (at_builtin;refine fB _ rfl _ _ rfl _ M lo rfl (HB.out.same ((Below.refl _ _).alloc (Nat.le_refl _) _)) _ [c] _ rfl (sS _ _ _ (by omega)) (by simp;omega) (by simp;omega) ?_)
   intro a1 c1 w1 hb1 hg1
   have QI:=hid (HG.out.trans ((Grew.call ((Below.refl _ _).alloc (Nat.le_refl _) _)).trans hg1))
   have HB1:=hid hb1
   clear hb1 hg1
   have HR:=hid (show M++[c]=L++fZ n by rw[HE.out,HV.out])
   go_wp2_with fail
   go_ret
   exact⟨a1,c1,by rw[← HR.out];simp,by rw[← HR.out];simpa using HB1.out,by rw[← HR.out];simpa using QI.out⟩
def EX(w:World)(lo:Nat)(v:Value)(L B:List UInt8)(e:Ending)(w':World):Prop:=∃ a c,e=.returned (.slice a (L++gU B).length c)∧gZ w' lo (.slice a (L++gU B).length c) (L++gU B)∧Grew w w' v (.slice a (L++gU B).length c)
theorem ku(w:World)(lo lo2:Nat)(v v2:Value)(L B:List UInt8)(h:gZ w lo v L)(h2:gZ w lo2 v2 B)(hne:Tt v v2)(hl:L.length≤1000000000)(hl2:B.length≤1000000000)(hlo:lo≤w.heap.size):
  Calls Tryz.prog 154 #[v,v2] w (EX w lo v L B):=by
 unfold EX
 obtain⟨la,lc,hlv⟩:∃ a c,v=.slice a L.length c:=ay h
 subst hlv
 obtain⟨ba,bc,hbv⟩:∃ a c,v2=.slice a B.length c:=ay h2
 subst hbv
 have H:=hid h
 have H2:=hid h2
 have HN:=hid hne
 clear h h2 hne
 go_enter func154,ntmps154
 go_wp2_with fail
 refine(iL _ lo _ L B.length H.out (by omega) (by omega) hlo).mono ?_;rintro e w1 ⟨a1,c1,rfl,hb1,hg1⟩
 have hz:=hg1.g.size
 have am0:=qg B.length (by omega)
 have HB2:=hid (show gZ w1 lo2 (.slice ba B.length bc) B from aC H2.out (fun g hg=>hg1.g.block g (H2.out.lt g hg).2 (fun e=>HN.out g e.symm hg)))
 have HB1:=hid hb1
 have QI:=hid hg1
 have hl3:(L++fZ B.length).length≤L.length+10:=by rw[List.length_append];omega
 have HT:=hid (show (L++fZ B.length)++B=L++gU B by unfold gU;rw[List.append_assoc])
 clear hb1 hg1
 generalize L++fZ B.length=M at *
 go_wp2_with (at_builtin;refine fB _ rfl _ _ rfl _ M lo rfl HB1.out _ B _ rfl HB2.out (by omega) (by omega) ?_)
 intro a3 c3 w3 hb3 hg3
 have HB3:=hid hb3
 have HG3:=hid (QI.out.trans hg3)
 clear hb3 hg3
 go_wp2_with fail
 go_ret
 exact⟨a3,c3,by rw[← HT.out];simp,by rw[← HT.out];simpa using HB3.out,by rw[← HT.out];simpa using HG3.out⟩
def EY(s:ByteArray)(i:Nat):List UInt8:=s.toList.drop i
theorem ext_list(s:ByteArray)(i j:Nat):(s.extract i j).toList=(s.toList.drop i).take (j-i):=by
 rw[Lib.extract_toList,ByteArray.toList_eq]
theorem aF(s:ByteArray):s.toList.length=s.size:=by rw[ByteArray.toList_eq];exact Array.length_toList
theorem But.drewN{pb:Nat}(w:World)(n:Nat):But pb w (w.drewN n):=But.bG (below_drewN (Below.refl _ _) n)
theorem tail_cons(s:ByteArray)(k:Nat)(h:k<s.size):EY s k=s[k]'h::EY s (k+1):=by
 unfold EY
 have hl:k<s.toList.length:=by rw[aF];exact h
 rw[List.drop_eq_getElem_cons hl]
 congr 1
 obtain⟨l⟩:=s
 simp[ByteArray.toList_eq,ByteArray.getElem_eq_getElem_data]
theorem takeWhile_take{p:UInt8→Bool}:∀ l:List UInt8,l.take (l.takeWhile p).length=l.takeWhile p∧l.drop (l.takeWhile p).length=l.dropWhile p
 | []=>by simp
 | c::r=>by
  rw[List.takeWhile_cons,List.dropWhile_cons]
  cases p c with
  | true=>have:=takeWhile_take (p:=p) r;simp[this.1,this.2]
  | false=>simp
def GN(c:Int):Bool:=decide (32≤c)&&decide (c≤126) && !(c==34) && !(c==92)
def Eb(c:Int):Int:=if 48≤c∧c≤57 then c-48 else if 97≤c∧c≤102 then c-87 else -1
theorem BJ(c:UInt8):iV c=GN (c.toNat:Int):=by
 have all:∀ a:Fin 256,iV (UInt8.ofNat a.val)=GN ((UInt8.ofNat a.val).toNat:Int):=by decide +kernel
 have:=all ⟨c.toNat,c.toNat_lt⟩
 simpa using this
theorem UU(c:UInt8):(match hexV c with | some h=>(h:Int) | none=>-1)=Eb (c.toNat:Int):=by
 have all:∀ a:Fin 256,(match hexV (UInt8.ofNat a.val) with | some h=>(h:Int) | none=>-1)=Eb ((UInt8.ofNat a.val).toNat:Int):=by decide +kernel
 have:=all ⟨c.toNat,c.toNat_lt⟩
 simpa using this
theorem Me(c:Int):Eb c = -1∨(0≤Eb c∧Eb c≤15):=by unfold Eb;split<;>(try split)<;>omega
theorem lY:∀ (m:Nat) (t:List UInt8) (f:Nat),t.length≤m→t.length+1≤f→fG f t=fG (t.length+1) t
 | m,[],f,_,hf=>by
  obtain⟨g,rfl⟩:∃ g,f=g+1:=⟨f-1,by simp at hf;omega⟩
  simp[fG]
 | 0,c::r,f,hm,hf=>by simp at hm
 | m+1,c::r,f,hm,hf=>by
  rw[List.length_cons] at hm hf ⊢
  obtain⟨g,rfl⟩:∃ g,f=g+1:=⟨f-1,by omega⟩
  unfold fG
  rw[lY m r g (by omega) (by omega)]
  split
  ·rfl
  ·split
   ·match r with
    | []=>rfl
    | [a]=>rfl
    | a::b::r'=>
     simp only[List.length_cons] at hm hf ⊢
     rw[lY m r' g (by omega) (by omega),lY m r' (r'.length+1+1+1) (by omega) (by omega)]
   ·rfl
def dQ(t:List UInt8):Got:=fG (t.length+1) t
theorem GR:dQ []=none:=by simp[dQ,fG]
theorem GU(r:List UInt8):dQ (34::r)=some ([],r):=by simp[dQ,fG]
theorem BK{c:UInt8}(r:List UInt8)(h:iV c=true):dQ (c::r)=(dQ r).map fun x=>(c::x.1,x.2):=by
 have h34:c≠34:=by intro e;subst e;exact absurd h (by decide)
 have h92:c≠92:=by intro e;subst e;exact absurd h (by decide)
 unfold dQ
 rw[List.length_cons]
 conv=>lhs;unfold fG
 rw[if_neg h34,if_neg h92,if_pos h]
theorem GV{c:UInt8}(r:List UInt8)(h:iV c=false)(h34:c≠34)(h92:c≠92):dQ (c::r)=none:=by
 unfold dQ
 rw[List.length_cons]
 unfold fG
 rw[if_neg h34,if_neg h92];simp[h]
theorem rQ(r:List UInt8)(h:r.length<2):dQ (92::r)=none:=by
 unfold dQ
 match r,h with
 | [],_=>simp[fG]
 | [a],_=>simp[fG]
theorem GX(a b:UInt8)(r:List UInt8):dQ (92::a::b::r)=match hexV a,hexV b with
  | some h,some l=>if iV (16*h+l).toUInt8 then none else(dQ r).map fun x=>((16*h+l).toUInt8::x.1,x.2)
  | _,_=>none:=by
 unfold dQ
 rw[List.length_cons]
 conv=>lhs;unfold fG
 rw[if_neg (by decide),if_pos rfl]
 simp only[List.length_cons]
 rw[lY r.length r (r.length+1+1+1) (Nat.le_refl _) (by omega)]
 all_goals (cases hexV a<;>cases hexV b<;>rfl)
theorem UW:(ByteArray.mk #[34]).toList=[34]:=by rw[ByteArray.toList_eq]
theorem gZ.but{w w':World}{lo cb o:Nat}{v:Value}{L:List UInt8}{T:TypeId}{ys:List Value}(h:gZ w lo v L)(hc:Seg w cb T o ys)(hT:5 ≠ T)(hb:But cb w w'):gZ w' lo v L :=
 aC h (fun g hg=>hb.block g (h.lt g hg).2 (dM h hc hT hg))
theorem But.grew{w0 w wx w':World}{cb:Nat}{v v':Value}{L:List UInt8}(h:But cb w0 w)(hb:Below w.heap.size w wx)(hB:gZ w w0.heap.size v L)(hg:Grew wx w' v v'):But cb w0 w':=by
 have h1:=h.trans (But.bG hb)
 refine⟨hg.g.os.trans h1.os,hg.g.tape.trans h1.tape,hg.g.output.trans h1.output,Nat.le_trans h1.size hg.g.size,fun k hk hne=>?_⟩
 rw[hg.g.block k (Nat.lt_of_lt_of_le hk h1.size) (fun e=>by have:=(hB.lt k e.symm).1;omega)]
 exact h1.block k hk hne
def In64(n:Int):Prop:=-9223372036854775808≤n∧n≤9223372036854775807
theorem UY(u:Nat):∃ d r,Lib.decDigits u=UInt8.ofNat (48+d)::r∧d<10:=by
 induction u using Nat.strongRecOn with
 | _ u ih=>
  rw[Lib.decDigits]
  by_cases h:u<10
  ·rw[dif_pos h];exact⟨u,[],rfl,h⟩
  ·rw[dif_neg h]
   obtain⟨d,r,e,hd⟩:=ih (u / 10) (by omega)
   rw[e];exact⟨d,_,rfl,hd⟩
theorem UZ{t:List UInt8}{n:Int}(h:Lib.parseIntB 64 t=.ok n):In64 n:=by
 unfold Lib.parseIntB at h
 cases t with
 | nil=>cases h
 | cons c r=>
  simp only at h
  cases e:Lib.parseUintB 64 (if c.toNat=43∨c.toNat=45 then r else c::r) with
  | ok u=>
   rw[e] at h
   simp only at h
   split at h
   ·cases h
   ·split at h
    ·cases h
    ·rename_i g1 g2
     simp only[Lib.NumEnd.ok.injEq] at h
     subst h
     unfold In64
     by_cases hn:c.toNat=45
     ·rw[if_pos hn]
      have:¬ (2 ^ (64-1)<u):=fun hh=>g2 ⟨hn,hh⟩
      omega
     ·rw[if_neg hn]
      have:¬ (2 ^ (64-1)≤u):=fun hh=>g1 ⟨hn,hh⟩
      omega
  | _=>rw[e] at h;cases h
def dR:List UInt8→Option (Nat × List UInt8)
 | []=>none
 | b::r=>if b.toNat<128 then some (b.toNat,r) else match dR r with
  | none=>none
  | some x=>if x.1=0 then none else if (b.toNat-128)+128*x.1<18446744073709551616 then some ((b.toNat-128)+128*x.1,x.2) else none
theorem uZ:∀ {t:List UInt8} {n:Nat} {r:List UInt8},dR t=some (n,r)→t=fZ n++r∧n<18446744073709551616
 | [],n,r,h=>by simp[dR] at h
 | b::t,n,r,h=>by
  unfold dR at h
  by_cases hb:b.toNat<128
  ·rw[if_pos hb] at h
   simp only[Option.some.injEq,Prod.mk.injEq] at h
   obtain⟨rfl,rfl⟩:=h
   rw[nU hb]
   exact⟨by simp,by omega⟩
  ·rw[if_neg hb] at h
   cases e:dR t with
   | none=>rw[e] at h;cases h
   | some x=>
    rw[e] at h
    simp only at h
    obtain⟨m,r'⟩:=x
    obtain⟨h1,h2⟩:=uZ e
    simp only at h
    by_cases h0:m=0
    ·rw[if_pos h0] at h;cases h
    ·rw[if_neg h0] at h
     by_cases hl:(b.toNat-128)+128*m<18446744073709551616
     ·rw[if_pos hl] at h
      simp only[Option.some.injEq,Prod.mk.injEq] at h
      obtain⟨rfl,rfl⟩:=h
      have hb2:=b.toNat_lt
      refine⟨?_,hl⟩
      rw[tH (by omega),show ((b.toNat-128+128*m) % 128+128)=b.toNat by omega,show (b.toNat-128+128*m) / 128=m by omega,h1]
      simp
     ·rw[if_neg hl] at h;cases h
theorem MB(n:Nat):n<18446744073709551616→∀ r,dR (fZ n++r)=some (n,r):=by
 induction n using Nat.strongRecOn with
 | _ n ih=>
  intro hn r
  by_cases h:n<128
  ·rw[nU h]
   have:n.toUInt8.toNat=n:=by simp[Nat.toUInt8,UInt8.toNat_ofNat'];omega
   simp[dR,this,h]
  ·rw[tH h]
   have hb:((n % 128+128).toUInt8).toNat=n % 128+128:=by simp[Nat.toUInt8,UInt8.toNat_ofNat'];omega
   have:=ih (n / 128) (by omega) (by omega) r
   rw[List.cons_append]
   unfold dR
   rw[hb,if_neg (by omega),this]
   simp only
   rw[if_neg (by omega),if_pos (by omega)]
   congr 2;omega
theorem kV{t:List UInt8}{n:Nat}{r:List UInt8}(h:dR t=some (n,r)):r.length<t.length:=by
 rw[(uZ h).1,List.length_append]
 have:1≤(fZ n).length:=by
  by_cases h:n<128
  ·rw[nU h];simp
  ·rw[tH h];simp
 omega
def takeC(t:List UInt8):Option (List UInt8 × List UInt8):=(dR t).bind fun x=>if x.1≤x.2.length then some (x.2.take x.1,x.2.drop x.1) else none
theorem tJ{t v r:List UInt8}(h:takeC t=some (v,r)):v.length+r.length<t.length:=by
 unfold takeC at h
 obtain⟨x,h1,h2⟩:=Option.bind_eq_some_iff.1 h
 have:=kV (n:=x.1) (r:=x.2) h1
 split at h2
 ·simp only[Option.some.injEq,Prod.mk.injEq] at h2
  obtain⟨rfl,rfl⟩:=h2
  simp only[List.length_take,List.length_drop];omega
 ·cases h2
def gX(t:List UInt8):Option Nat:=(dR t).bind fun x=>if x.2=[] then some x.1 else none
def rU(m:Nat):Int:=if m % 2=1 then -((m / 2:Nat):Int)-1 else((m / 2:Nat):Int)
def hexD(n:Nat):UInt8:=if n<10 then(48+n).toUInt8 else(87+n).toUInt8
def yF(c:UInt8):List UInt8:=if iV c then [c] else [92,hexD (c.toNat / 16),hexD (c.toNat % 16)]
def BL(b:List UInt8):List UInt8:=34::(b.flatMap yF++[34])
def kD:Nat→Nat→List UInt8→Option (List (Nat × List UInt8))
 | f,last,d=>if d=[] then some [] else match f with
  | 0=>none
  | f+1=>(dR d).bind fun x=>(takeC x.2).bind fun y=>if last<x.1∧x.1≤99 then(kD f x.1 y.2).map fun o=>(x.1,y.1)::o else none
def jr(d:List UInt8):Option (List (Nat × List UInt8)):=kD d.length 0 d
abbrev rV:=Option (List UInt8)
def Jy(first:Bool):List UInt8:=if first then [] else [44]
def zy(val:List UInt8→rV):Nat→Bool→List UInt8→rV
 | k,first,d=>if d=[] then some [93] else match k with
  | 0=>none
  | k+1=>(takeC d).bind fun x=>(val x.1).bind fun s=>(zy val k false x.2).map fun o=>Jy first++s++o
def fieldsD(val lst:List UInt8→List UInt8→rV)(ps:List (Nat × List UInt8)):List FD→Bool→rV
 | [],_=>some [125]
 | f::fs,first=>match ps.find? (fun p=>p.1==f.number) with
  | none=>if f.shape=1 then fieldsD val lst ps fs first else none
  | some p=>(if f.shape=2 then lst f.base p.2 else val f.base p.2).bind fun s=>(fieldsD val lst ps fs false).map fun o=>Jy first++f.name++[58]++s++o
def Yp(val lst:List UInt8→List UInt8→rV)(fs:List FD)(d:List UInt8):rV:=(jr d).bind fun ps=>(fieldsD val lst ps fs true).map fun o=>123::o
def yG(names:List (List UInt8))(d:List UInt8):rV:=(gX d).bind fun i=>names[i]?
def uF(ty:List UInt8→Option TD)(msg:List FD→List UInt8→rV)(base d:List UInt8):rV :=
 if base=D9 then(gX d).map fun m=>Lib.itoa (rU m) else if base=zx then yG oM d else if base=wText then some (BL d)
 else match ty base with
  | none=>none
  | some (.inl ns)=>yG ns d
  | some (.inr fs)=>msg fs d
def U0(ty:List UInt8→Option TD):Nat→(List UInt8→List UInt8→rV) × (List UInt8→List UInt8→rV)
 | 0=>(uF ty (fun _ _=>none),fun _ _=>none)
 | n+1=>(uF ty (Yp (U0 ty n).1 (U0 ty n).2),fun b d=>(zy ((U0 ty n).1 b) 16 true d).map fun o=>91::o)
def BM(m:UInt8)(w w':World):Prop:=∀ ad,w.cell? ad=some (aZ m)→w'.cell? ad=some (aZ m)
theorem BM.trans{m:UInt8}{a b c:World}(h:BM m a b)(k:BM m b c):BM m a c:=fun ad hd=>k ad (h ad hd)
theorem BM.refl(m:UInt8)(w:World):BM m w w:=fun _ h=>h
theorem Rd.keep{m:UInt8}{n:Nat}{w w':World}{v:Value}(h:Rd w v (List.replicate n m))(k:BM m w w'):Rd w' v (List.replicate n m):=by
 rcases h with h | ⟨a,c,hv,hc⟩
 ·exact Or.inl h
 ·refine Or.inr ⟨a,c,hv,fun j u hu=>?_⟩
  have h1:=hc j u hu
  have e:u=aZ m:=by
   rw[List.map_replicate] at hu
   have:=List.mem_of_getElem? hu
   simpa using(List.mem_replicate.1 this).2
  subst e
  exact k _ h1
theorem Rd.turn{w w':World}{v:Value}{L:List UInt8}(h:Rd w v L)(hs:∀ k,v.ownBlock=some k→0<L.length→w'.heap[k]? = w.heap[k]?):Rd w' v L:=by
 rcases h with h | ⟨a,c,rfl,hc⟩
 ·exact Or.inl h
 ·refine Or.inr ⟨a,c,rfl,fun j u hu=>?_⟩
  have hl:0<L.length:=by
   rcases Nat.eq_zero_or_pos L.length with e | e
   ·have:=List.eq_nil_of_length_eq_zero e;subst this;simp at hu
   ·exact e
  have h2:(a.add j).block=a.block:=by unfold Addr.add;split<;>rfl
  rw[World.cell?_of_block (w:=w) (w':=w') (a:=a.add j) (by rw[h2];exact hs a.block rfl hl)]
  exact hc j u hu
theorem gZ.put{w:World}{lo g c:Nat}{L:List UInt8}(h:gZ w lo (.slice (some ⟨g,0,none⟩) L.length c) L)(i:Nat)(m:UInt8):gZ (w.setCell ⟨g,i,none⟩ (aZ m)) lo (.slice (some ⟨g,0,none⟩) (L.set i m).length c) (L.set i m):=by
 rcases h.2 with⟨h0,_⟩ | ⟨g',cap,cur,hv,hb,hh,h1,h2,h3,h4⟩
 ·simp at h0
 ·simp at hv
  obtain⟨rfl,rfl⟩:=hv
  refine⟨by simp,.inr ⟨g,c,cur.setIfInBounds i (aZ m),rfl,hb,?_,by simpa using h1,h2,by simpa using h3,?_⟩⟩
  ·simp only[World.setCell,Array.getElem?_modify,hh]
   simp
  ·rw[Array.toList_setIfInBounds,List.length_set,List.take_set,h4,List.map_set]
structure Ec(w:World)(lo:Nat)(v:Value)(vs:List Value)(Ls:List (List UInt8)):Prop where
 own:w.ownsRow lo 64 1 v Ls.length vs
 each:∀ (i:Nat) (u:Value) (L:List UInt8),vs[i]? = some u→Ls[i]? = some L→gZ w lo u L
 apart:∀ (i j:Nat) (u u':Value),vs[i]? = some u→vs[j]? = some u'→i≠j→∀ g,u.ownBlock=some g→u'.ownBlock=some g→False
theorem Ec.len{w:World}{lo:Nat}{v:Value}{vs:List Value}{Ls:List (List UInt8)}(h:Ec w lo v vs Ls):vs.length=Ls.length:=by have:=h.own.1;omega
theorem Ec.nil(w:World)(lo:Nat):Ec w lo (.slice none 0 0) [] []:=⟨World.ownsRow_nil _ _ _ _,fun i u L h=>by simp at h,fun i j u u' h=>by simp at h⟩
theorem Ec.at{w:World}{lo:Nat}{v:Value}{vs:List Value}{Ls:List (List UInt8)}(h:Ec w lo v vs Ls){i:Nat}(hi:i<Ls.length):∃ u,vs[i]? = some u∧gZ w lo u Ls[i]:=by
 have hl:=h.len
 exact⟨vs[i],List.getElem?_eq_getElem (by omega),h.each i _ _ (List.getElem?_eq_getElem (by omega)) (List.getElem?_eq_getElem hi)⟩
theorem Ec.same{w w':World}{lo:Nat}{v:Value}{vs:List Value}{Ls:List (List UInt8)}(h:Ec w lo v vs Ls)(hs:∀ k,lo≤k→k<w.heap.size→w'.heap[k]? = w.heap[k]?):Ec w' lo v vs Ls :=
 ⟨aC h.own (fun g hg=>hs g (h.own.lt g hg).1 (h.own.lt g hg).2),fun i u L hu hL=>aC (h.each i u L hu hL) (fun g hg=>hs g ((h.each i u L hu hL).lt g hg).1 ((h.each i u L hu hL).lt g hg).2),h.apart⟩
theorem Tryz.infoBytes:(Tryz.prog.info? 64).map (fun i=>(i.zero,i.size,i.bytes))=some (some (.slice none 0 0),1,24):=by kernel_rfl
theorem Ec.push{w w1 w2:World}{lo:Nat}{v v' u:Value}{vs:List Value}{Ls:List (List UInt8)}{P:List UInt8}(h:Ec w lo v vs Ls)(hu:gZ w1 w.heap.size u P)(hs:∀ k,lo≤k→k<w.heap.size→w1.heap[k]? = w.heap[k]?)(hlo:lo≤w.heap.size)
  (hown:w2.ownsRow lo 64 1 v' (Ls.length+1) (vs++[u])) (hg:Grew w1 w2 v v'):Ec w2 lo v' (vs++[u]) (Ls++[P]):=by
 have h1:=h.same hs
 have hne:∀ {u:Value} {L:List UInt8} {lo':Nat},gZ w1 lo' u L→∀ g,u.ownBlock=some g→some g≠v.ownBlock:=fun hB g hg' e=>own_ne hB h1.own (by decide) hg' e.symm rfl
 have hl:=h.len
 refine⟨by rw[List.length_append];exact hown,fun i q L hq hL=>?_,fun i j q q' hq hq' hij g hg1 hg2=>?_⟩
 ·rcases Nat.lt_or_ge i vs.length with hi | hi
  ·rw[List.getElem?_append_left hi] at hq
   rw[List.getElem?_append_left (by omega)] at hL
   have hB:=h1.each i q L hq hL
   exact aC hB (fun g hg'=>hg.g.block g (hB.lt g hg').2 (hne hB g hg'))
  ·rw[List.getElem?_append_right hi] at hq
   rw[List.getElem?_append_right (by omega)] at hL
   have hi0:i-vs.length=0:=by
    rcases Nat.eq_zero_or_pos (i-vs.length) with e | e
    ·exact e
    ·rw[List.getElem?_eq_none (by simp;omega)] at hq;cases hq
   rw[hi0] at hq
   rw[show i-Ls.length=0 by omega] at hL
   simp at hq hL
   subst hq hL
   exact gZ.lower (aC hu (fun g hg'=>hg.g.block g (hu.lt g hg').2 (hne hu g hg'))) hlo
 ·have key:∀ (i j:Nat) (q q':Value),i<vs.length→vs.length≤j→(vs++[u])[i]? = some q→(vs++[u])[j]? = some q'→q.ownBlock=some g→q'.ownBlock=some g→False:=fun i j q q' hi hj hq hq' hg1 hg2=>by
   rw[List.getElem?_append_left hi] at hq
   rw[List.getElem?_append_right hj] at hq'
   have hj0:j-vs.length=0:=by
    rcases Nat.eq_zero_or_pos (j-vs.length) with e | e
    ·exact e
    ·rw[List.getElem?_eq_none (by simp;omega)] at hq';cases hq'
   rw[hj0] at hq'
   simp at hq'
   subst hq'
   have h2:=(hu.lt g hg2).1
   have h3:=((h.each i q Ls[i] hq (List.getElem?_eq_getElem (by omega))).lt g hg1).2
   omega
  rcases Nat.lt_or_ge i vs.length with hi | hi<;>rcases Nat.lt_or_ge j vs.length with hj | hj
  ·rw[List.getElem?_append_left hi] at hq
   rw[List.getElem?_append_left hj] at hq'
   exact h.apart i j q q' hq hq' hij g hg1 hg2
  ·exact key i j q q' hi hj hq hq' hg1 hg2
  ·exact key j i q' q hj hi hq' hq hg2 hg1
  ·have:=(List.getElem?_eq_some_iff.1 hq).1
   have:=(List.getElem?_eq_some_iff.1 hq').1
   simp at *;omega
theorem U1(w:World)(u:Value)(T:TypeId):∀ j u',[u][j]? = some u'→(w.alloc (.cells #[u] T)).cell? ((⟨w.heap.size,0,none⟩:Addr).add j)=some u':=by
 intro j u' hj
 match j,hj with
 | 0,hj=>simp at hj;subst hj;simp[Addr.add]
theorem QJ{a:Option Addr}{n c:Nat}:∀ u∈[Value.slice a n c],u.oneCell'=true:=fun u hu=>by simp at hu;subst hu;rfl
theorem xw(s:ByteArray):Lib.strCells s=s.toList.map aZ:=by
 unfold Lib.strCells
 rw[ByteArray.toList_eq]
 rfl
def jK(c:Int)(n:Nat):Nat:=((if c<0 then -(c+1) else c) % n).toNat
theorem mod_lt{a:Int}{n:Nat}(h:0<n):0≤a % (n:Int)∧a % (n:Int)<n:=⟨Int.emod_nonneg _ (by omega),Int.emod_lt_of_pos _ (by omega)⟩
theorem oO(c:Int){n:Nat}(h:0<n):jK c n<n:=by
 unfold jK
 have:=mod_lt (a:=if c<0 then -(c+1) else c) h
 omega
theorem QK{c:Int}{n:Nat}(h0:0<n)(h:c<0):((jK c n:Nat):Int) = -((c+1).tmod n):=by
 unfold jK
 rw[if_pos h,← Int.neg_tmod,Int.tmod_eq_emod_of_nonneg (by omega)]
 have:=mod_lt (a:=-(c+1)) h0
 omega
theorem QL{c:Int}{n:Nat}(h0:0<n)(h:¬ c<0):((jK c n:Nat):Int)=c % n:=by
 unfold jK
 rw[if_neg h]
 have:=mod_lt (a:=c) h0
 omega
end Go.Proofs.YtolfcabodiphmaaGreatDoor
namespace Go.Proofs.YtolfcabodiphmaaGreatDoor
open Go.Proofs.Tryz
section
variable {sm:List UInt8→List UInt8}
end
end Go.Proofs.YtolfcabodiphmaaGreatDoor
namespace Go.Proofs.YtolfcabodiphmaaGreatDoor
open Go.Proofs.Tryz
open Go.RowKit
end Go.Proofs.YtolfcabodiphmaaGreatDoor
