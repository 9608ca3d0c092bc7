/- Package courierref: whole64, integer. -/
import Derived.Test.YtgalebcpagmohaaGreatDoorKEncText2
set_option maxHeartbeats 4000000
set_option maxRecDepth 100000
namespace Go.Proofs.YtgalebcpagmohaaGreatDoor
open Go.Proofs.Tryz
open Go.RowKit
def dW (c:UInt8):Int:=wrap64 (wrap64 (c.toNat:Int)-48)
def stepW (neg:Bool) (n:Int) (c:UInt8):Int:=if c=45 then n else match neg with
 | true=>wrap64 (wrap64 (wrap64 (10*n)+dW c)-wrap64 (2*dW c))
 | false=>wrap64 (wrap64 (10*n)+dW c)
def rD (t:List UInt8):Int:=t.foldl (stepW (t.head? == some 45)) 0
def In64 (n:Int):Prop:=-9223372036854775808≤n∧n≤9223372036854775807
theorem wrap_in (x:Int):In64 (wrap64 x):=by
 unfold In64 wrap64
 omega
theorem lJ {x:Int} (h1:-9223372036854775808≤x) (h2:x≤9223372036854775807):wrap64 x=x:=by
 unfold wrap64
 omega
theorem VO {neg:Bool} {n:Int} {c:UInt8} (h:In64 n):In64 (stepW neg n c):=by
 unfold stepW
 split
 ·exact h
 ·cases neg<;>exact wrap_in _
theorem IW (t:ByteArray) (k:Nat) (h:k<t.size):t.toList[k]? = some (t[k]'h):=by
 have:=tail_cons t k h
 unfold aC at this
 have h2:=congrArg List.head? this
 rw[List.head?_drop] at h2
 simpa using h2
theorem SI (t:ByteArray) (neg:Bool) (k:Nat) (h:k<t.size):(t.toList.take (k+1)).foldl (stepW neg) 0=stepW neg ((t.toList.take k).foldl (stepW neg) 0) (t[k]'h):=by
 rw[List.take_add_one,IW t k h,List.foldl_append];rfl
theorem c45 {c:UInt8}:(c.toNat:Int)=45↔c=45:=by
 constructor
 ·intro h
  apply UInt8.toNat.inj
  have:(45:UInt8).toNat=45:=rfl
  omega
 ·intro h;rw[h];rfl
theorem VP (t:ByteArray) (h0:0<t.size) (b:Bool) (hb:(((t[0]'h0).toNat:Int)==45)=b):(t.toList.head? == some 45)=b:=by
 have:=IW t 0 h0
 rw[← List.head?_eq_getElem?] at this
 rw[this,← hb,Bool.eq_iff_iff]
 simp only[beq_iff_eq,Option.some.injEq]
 exact c45.symm
theorem Lu (t:ByteArray) (w:World) (ht:t.size≤400) :
  Calls Tryz.prog 228 #[.string t] w fun e w'=>e=.returned (.int .i64 (rD t.toList))∧w'=w:=by
 unfold rD
 generalize hneg:(t.toList.head? == some 45)=neg
 have Yz:=hid hneg
 clear hneg
 go_enter func228,ntmps228
 go_wp2_with fail
 go_loopg [3,4,5] t.size (fun gk nv iv dv wr=>∃ (k:Nat) (n:Int),k+gk=t.size∧nv=.int .i64 n∧iv=.int .i64 k∧wr=w∧Hid (n=(t.toList.take k).foldl (stepW neg) 0))
 case atStart=>exact⟨0,0,by omega,rfl,rfl,rfl,hid rfl⟩
 case round=>
  obtain⟨k,n,hk,rfl,rfl,rfl,HF⟩:=hrel
  by_cases hlt:k<t.size
  ·have Ob:=hid (SI t neg k hlt)
   by_cases h45:((t[k]'hlt).toNat:Int)=45
   ·have acV:(((t[k]'hlt).toNat:Int)==45)=true:=by rw[h45];rfl
    have HST:=hid (show stepW neg n (t[k]'hlt)=n by unfold stepW;rw[if_pos (c45.1 h45)])
    clear h45
    go_wp2_with fail
    go_roundg (gk-1)
    case rel=>exact⟨k+1,n,by omega,rfl,by go_num,rfl,hid (by rw[Ob.out,← HF.out];exact HST.out.symm)⟩
    case measure=>omega
   ·have acV:(((t[k]'hlt).toNat:Int)==45)=false:=by simp[h45]
    have HC:=hid (show ¬ t[k]'hlt=45 from fun e=>h45 (c45.2 e))
    clear h45
    have h0:0<t.size:=by omega
    by_cases hn45:((t[0]'h0).toNat:Int)=45
    ·have VQ:(((t[0]'h0).toNat:Int)==45)=true:=by rw[hn45];rfl
     have HN:=hid (show neg=true from Yz.out.symm.trans (VP t h0 true VQ))
     clear hn45
     go_wp2_with fail
     go_roundg (gk-1)
     case rel=>exact⟨k+1,_,by omega,rfl,by go_num,rfl,hid (by rw[Ob.out,← HF.out,HN.out];unfold stepW;rw[if_neg HC.out];rfl)⟩
     case measure=>omega
    ·have VQ:(((t[0]'h0).toNat:Int)==45)=false:=by simp[hn45]
     have HN:=hid (show neg=false from Yz.out.symm.trans (VP t h0 false VQ))
     clear hn45
     go_wp2_with fail
     go_roundg (gk-1)
     case rel=>exact⟨k+1,_,by omega,rfl,by go_num,rfl,hid (by rw[Ob.out,← HF.out,HN.out];unfold stepW;rw[if_neg HC.out];rfl)⟩
     case measure=>omega
  ·have HE:=hid (show t.toList.take k=t.toList from List.take_of_length_le (by rw[aB];omega))
   go_wp2_with fail
   go_ret
   exact⟨o8 (by rw[HF.out,HE.out]),rfl⟩
theorem LC (t:List UInt8):In64 (rD t):=by
 unfold rD
 generalize (t.head? == some 45)=neg
 have:∀ (l:List UInt8) (n:Int),In64 n→In64 (l.foldl (stepW neg) n):=by
  intro l
  induction l with
  | nil=>intro n h;exact h
  | cons c r ih=>intro n h;exact ih _ (VO h)
 exact this t 0 ⟨by omega,by omega⟩
theorem OU {d:Nat} (h:d<10):dW (UInt8.ofNat (48+d))=d∧UInt8.ofNat (48+d)≠45:=by
 have all:∀ a:Fin 10,dW (UInt8.ofNat (48+a.val))=a.val∧UInt8.ofNat (48+a.val)≠45:=by decide +kernel
 exact all ⟨d,h⟩
theorem LD (u:Nat):(u<9223372036854775808→(Lib.decDigits u).foldl (stepW false) 0=(u:Int))∧(u≤9223372036854775808→(Lib.decDigits u).foldl (stepW true) 0 = -(u:Int)):=by
 induction u using Nat.strongRecOn with
 | _ u ih=>
  rw[Lib.decDigits]
  by_cases h:u<10
  ·rw[dif_pos h]
   obtain⟨e1,e2⟩:=OU h
   constructor<;>intro _<;>(simp only[List.foldl_cons,List.foldl_nil,stepW];rw[if_neg e2];simp only[e1])
   ·rw[lJ (x:=10*0) (by omega) (by omega),lJ (by omega) (by omega)];omega
   ·rw[lJ (x:=10*0) (by omega) (by omega),lJ (x:=10*0+(u:Int)) (by omega) (by omega),lJ (x:=2*(u:Int)) (by omega) (by omega),lJ (by omega) (by omega)];omega
  ·rw[dif_neg h]
   obtain⟨i1,i2⟩:=ih (u / 10) (by omega)
   obtain⟨e1,e2⟩:=OU (d:=u % 10) (by omega)
   constructor<;>intro hu<;>rw[List.foldl_append]
   ·rw[i1 (by omega)]
    simp only[List.foldl_cons,List.foldl_nil,stepW];rw[if_neg e2];simp only[e1]
    rw[lJ (x:=10*((u / 10:Nat):Int)) (by omega) (by omega),lJ (by omega) (by omega)];omega
   ·rw[i2 (by omega)]
    simp only[List.foldl_cons,List.foldl_nil,stepW];rw[if_neg e2];simp only[e1]
    rw[lJ (x:=10 * -((u / 10:Nat):Int)) (by omega) (by omega),lJ (x:=10 * -((u / 10:Nat):Int)+((u % 10:Nat):Int)) (by omega) (by omega),lJ (x:=2*((u % 10:Nat):Int)) (by omega) (by omega),lJ (by omega) (by omega)];omega
theorem Eb (u:Nat):∃ d r,Lib.decDigits u=UInt8.ofNat (48+d)::r∧d<10:=by
 induction u using Nat.strongRecOn with
 | _ u ih=>
  rw[Lib.decDigits]
  by_cases h:u<10
  ·rw[dif_pos h];exact⟨u,[],rfl,h⟩
  ·rw[dif_neg h]
   obtain⟨d,r,e,hd⟩:=ih (u / 10) (by omega)
   rw[e];exact⟨d,_,rfl,hd⟩
theorem OV {m:Int} (h:In64 m):rD (Lib.itoa m)=m:=by
 obtain⟨h1,h2⟩:=h
 unfold rD Lib.itoa
 by_cases hm:m<0
 ·rw[if_pos hm]
  have hh:((45::Lib.decDigits m.natAbs).head? == some (45:UInt8))=true:=by simp
  rw[hh,List.foldl_cons]
  have:stepW true 0 45=0:=rfl
  rw[this,(LD m.natAbs).2 (by omega)]
  omega
 ·rw[if_neg hm]
  obtain⟨d,r,e,hd⟩:=Eb m.toNat
  have hh:((Lib.decDigits m.toNat).head? == some (45:UInt8))=false:=by
   rw[e];simp only[List.head?_cons,beq_eq_false_iff_ne,ne_eq,Option.some.injEq]
   exact(OU hd).2
  rw[hh,(LD m.toNat).1 (by omega)]
  omega
theorem wS (M:Nat):∀ (xs ys:List UInt8) (acc a:Nat),Lib.parseUintM M acc xs=.ok a→Lib.parseUintM M acc (xs++ys)=Lib.parseUintM M a ys
 | [],ys,acc,a,h=>by simp only[Lib.parseUintM,Lib.NumEnd.ok.injEq] at h;subst h;rfl
 | c::r,ys,acc,a,h=>by
  rw[List.cons_append,Lib.parseUintM]
  rw[Lib.parseUintM] at h
  split at h
  ·rw[if_pos ‹_›]
   split at h
   ·cases h
   ·rw[if_neg ‹_›]
    split at h
    ·cases h
    ·rw[if_neg ‹_›];exact wS M r ys _ a h
  ·cases h
theorem Ec (u:Nat) (hu:u≤9223372036854775808):Lib.parseUintM 18446744073709551615 0 (Lib.decDigits u)=.ok u:=by
 induction u using Nat.strongRecOn with
 | _ u ih=>
  have dig:∀ (d acc:Nat),d<10→acc≤922337203685477580→Lib.parseUintM 18446744073709551615 acc [UInt8.ofNat (48+d)]=.ok (acc*10+d):=by
   intro d acc hd ha
   have e:(UInt8.ofNat (48+d)).toNat=48+d:=by
    have all:∀ a:Fin 10,(UInt8.ofNat (48+a.val)).toNat=48+a.val:=by decide +kernel
    exact all ⟨d,hd⟩
   simp only[Lib.parseUintM,e]
   rw[if_pos (by omega),if_neg (by omega),if_neg (by omega)]
   congr 1;omega
  rw[Lib.decDigits]
  by_cases h:u<10
  ·rw[dif_pos h,dig u 0 h (by omega)];congr 1;omega
  ·rw[dif_neg h,wS _ _ _ _ _ (ih (u / 10) (by omega) (by omega)),dig (u % 10) (u / 10) (by omega) (by omega)]
   congr 1;omega
theorem OW {m:Int} (h:In64 m):intOf (Lib.itoa m)=some m:=by
 obtain⟨h1,h2⟩:=h
 have key:Lib.parseIntB 64 (Lib.itoa m)=.ok m:=by
  unfold Lib.itoa
  by_cases hm:m<0
  ·rw[if_pos hm]
   obtain⟨d,r,e,hd⟩:=Eb m.natAbs
   have hne:Lib.decDigits m.natAbs≠[]:=by rw[e];simp
   have hp:Lib.parseUintB 64 (Lib.decDigits m.natAbs)=.ok m.natAbs:=by
    unfold Lib.parseUintB;rw[if_neg hne];exact Ec m.natAbs (by omega)
   have h45:(45:UInt8).toNat=45:=rfl
   unfold Lib.parseIntB
   simp only[h45,Nat.reduceEqDiff,false_or,if_true,hp,not_true,false_and,if_false,true_and]
   rw[if_neg (by omega)]
   congr 1;omega
  ·rw[if_neg hm]
   obtain⟨d,r,e,hd⟩:=Eb m.toNat
   have hc:(UInt8.ofNat (48+d)).toNat=48+d:=by
    have all:∀ a:Fin 10,(UInt8.ofNat (48+a.val)).toNat=48+a.val:=by decide +kernel
    exact all ⟨d,hd⟩
   have hne:Lib.decDigits m.toNat≠[]:=by rw[e];simp
   have hp:Lib.parseUintB 64 (Lib.decDigits m.toNat)=.ok m.toNat:=by
    unfold Lib.parseUintB;rw[if_neg hne];exact Ec m.toNat (by omega)
   rw[e] at hp ⊢
   generalize hg:UInt8.ofNat (48+d)=c at *
   have e2:(if c.toNat=43∨c.toNat=45 then r else c::r)=c::r:=if_neg (by omega)
   unfold Lib.parseIntB
   simp only[]
   rw[e2,hp]
   show (if ¬ c.toNat=45∧2 ^ (64-1)≤m.toNat then Lib.NumEnd.range else if c.toNat=45∧2 ^ (64-1)<m.toNat then Lib.NumEnd.range else Lib.NumEnd.ok (if c.toNat=45 then -(m.toNat:Int) else m.toNat))=Lib.NumEnd.ok m
   rw[if_neg (by omega),if_neg (by omega),if_neg (by omega)]
   congr 1;omega
 unfold intOf
 rw[key]
 simp
theorem LG {t:List UInt8} {n:Int} (h:Lib.parseIntB 64 t=.ok n):In64 n:=by
 unfold Lib.parseIntB at h
 cases t with
 | nil=>cases h
 | cons c r=>
  simp only at h
  cases e:Lib.parseUintB 64 (if c.toNat=43∨c.toNat=45 then r else c::r) with
  | ok u=>
   rw[e] at h
   simp only at h
   split at h
   ·cases h
   ·split at h
    ·cases h
    ·rename_i g1 g2
     simp only[Lib.NumEnd.ok.injEq] at h
     subst h
     unfold In64
     by_cases hn:c.toNat=45
     ·rw[if_pos hn]
      have:¬ (2 ^ (64-1)<u):=fun hh=>g2 ⟨hn,hh⟩
      omega
     ·rw[if_neg hn]
      have:¬ (2 ^ (64-1)≤u):=fun hh=>g1 ⟨hn,hh⟩
      omega
  | _=>rw[e] at h;cases h
theorem VR {t:List UInt8} {n:Int} (h:intOf t=some n):In64 n:=by
 unfold intOf at h
 split at h
 ·rename_i v e
  split at h
  ·cases h;exact LG e
  ·cases h
 ·cases h
theorem OX (t:List UInt8):(Lib.itoa (rD t)=t→intOf t=some (rD t))∧(Lib.itoa (rD t)≠t→intOf t=none):=by
 constructor
 ·intro h
  have:=OW (LC t)
  rw[h] at this;exact this
 ·intro h
  cases e:intOf t with
  | none=>rfl
  | some n=>
   exfalso;apply h
   have h1:=qx e
   have h2:=OV (VR e)
   rw[h1] at h2
   rw[h2];exact h1
theorem below_grow (w:World) (n:Nat) (os:Array Obj):Below w.heap.size w (Sort.grow (w.drewN n) os) :=
 ⟨rfl,rfl,rfl,by simp[Sort.grow],fun k hk=>by
  have h1:=(below_drewN (Below.refl w.heap.size w) n).block k hk
  have h2:(w.drewN n).heap=w.heap:=rfl
  simp only[Sort.grow,h2]
  rw[Array.getElem?_append_left hk]⟩
theorem gTab:Tryz.prog.globalNamed "internal/strconv.uint64pow10" = some 2:=by kernel_rfl
structure Env (w:World):Prop where
 v:Vars w
 t:Lib.TabIs Tryz.prog w "internal/strconv.uint64pow10" .u64 Lib.pow10Tab
 lt:2 < w.heap.size
def Own (cb:Nat):Prop:=cb ≠ 0 ∧ cb ≠ 1 ∧ cb ≠ 2
theorem Env.but {w w':World} {cb:Nat} (h:Env w) (hb:But cb w w') (hc:Own cb):Env w':=by
 refine⟨h.v.but hb hc.1 hc.2.1,?_,Nat.lt_of_lt_of_le h.lt hb.size⟩
 have:=h.t
 unfold Lib.TabIs World.var? at this ⊢
 rw[gTab] at this ⊢
 simp only[Option.bind_some] at this ⊢
 rw[hb.block _ h.lt (fun e=>hc.2.2 e.symm)]
 exact this
theorem Env.below {w w':World} (h:Env w) (hb:Below w.heap.size w w'):Env w':=by
 refine⟨h.v.below hb,?_,Nat.lt_of_lt_of_le h.lt hb.size⟩
 have:=h.t
 unfold Lib.TabIs World.var? at this ⊢
 rw[gTab] at this ⊢
 simp only[Option.bind_some] at this ⊢
 rw[hb.block _ h.lt]
 exact this
theorem YA (u:Nat):u<10 ^ (Lib.decDigits u).length∧1≤(Lib.decDigits u).length:=by
 induction u using Nat.strongRecOn with
 | _ u ih=>
  rw[Lib.decDigits]
  by_cases h:u<10
  ·rw[dif_pos h];exact⟨by simpa using h,by simp⟩
  ·rw[dif_neg h,List.length_append,List.length_singleton]
   have:=(ih (u / 10) (by omega)).1
   exact⟨by rw[Nat.pow_succ];omega,by omega⟩
theorem aao (k:Nat):2*10 ^ (k+1)≤128 ^ (k+1):=by
 induction k with
 | zero=>decide
 | succ k ih=>rw[Nat.pow_succ 10,Nat.pow_succ 128];omega
theorem Ed {n:Int} (_h1:-9223372036854775808≤n) (_h2:n≤9223372036854775807):(bU (kQ n)).length≤(Lib.itoa n).length:=by
 have key:∀ (u z:Nat),z≤2*u→(bU z).length≤(Lib.decDigits u).length:=by
  intro u z hz
  obtain⟨h1,h2⟩:=YA u
  obtain⟨k,hk⟩:∃ k,(Lib.decDigits u).length=k+1:=⟨(Lib.decDigits u).length-1,by omega⟩
  rw[hk] at h1 ⊢
  have:=aao k
  exact iJ k z (by omega)
 unfold Lib.itoa kQ
 by_cases hn:n<0
 ·rw[if_pos hn,if_pos hn,List.length_cons]
  have:=key n.natAbs (-2*n-1).toNat (by omega)
  omega
 ·rw[if_neg hn,if_neg hn]
  exact key n.toNat (2*n).toNat (by omega)
theorem LH (w:World) (cb:Nat) (la:Option Addr) (ll lc:Nat) (s:ByteArray) (i:Nat) (d:Int) (h:Cu w cb (.slice la ll lc) s i true d) (hs:s.size≤400) (hE:Env w) (hO:Own cb) :
  Calls Tryz.prog 172 #[.pointer (some ⟨cb,0,none⟩)] w (jq (uw bF) w cb (.slice la ll lc) s i d 10):=by
 unfold jq
 have H:=hid h
 have hle:=h.le
 have HE:=hid hE
 clear h hE
 have VT:=hid (show uw bF (aC s i)=(intOf (s.extract i (dZ s i)).toList).map fun n=>(bU (kQ n),aC s (dZ s i)) by unfold uw;rw[run_text,Ll])
 have hge:=Lj s i
 have hrl:=Lh (s:=s) (k:=i) hle
 have hts:(s.extract i (dZ s i)).size≤400:=by
  rw[← aB,ext_list,List.length_take,List.length_drop,aB];omega
 go_enter func172,ntmps172
 go_wp2_with fail
 refine(run_any w cb la ll lc s i true d H.out hs).mono ?_;rintro e w1 ⟨rfl,hb1,hc1⟩
 have afB:(s.extract i (dZ s i)).size=dZ s i-i:=by rw[← aB,ext_list,List.length_take,List.length_drop,aB];omega
 generalize hte:s.extract i (dZ s i)=t at *
 generalize hj:dZ s i=j at *
 clear hte
 have htl:t.size=j-i:=afB
 have wP:=hid hc1
 have U7:=hid (HE.out.but hb1 hO)
 obtain⟨hi1,hi2⟩:=LC t.toList
 have HT:=hid (OX t.toList)
 clear hc1
 go_wp2_with fail
 refine(Lu t _ hts).mono ?_;rintro e w2 ⟨rfl,hw2⟩
 subst hw2
 generalize rD t.toList=n at *
 go_wp2_with fail
 refine(Tryz.y_strconv_FormatInt_10 n hi1 hi2 _ U7.out.t).mono ?_;rintro e w3 ⟨rfl,kk,os,hw3⟩
 have hbw3:Below w2.heap.size w2 w3:=by rw[hw3];exact below_grow _ _ _
 have JE:=hid (wP.out.same (hbw3.block cb wP.out.seg.lt))
 have hb3:=hb1.trans (But.dJ hbw3)
 have e3:=JE.out.seg.cell (j:=3) rfl
 have ef3:=JE.out.seg.frozen 3
 simp only[Nat.zero_add] at e3
 have hz3:=hb3.size
 clear hw3 hbw3
 have hfl:(ByteArray.mk (Lib.itoa n).toArray).toList=Lib.itoa n:=by rw[ByteArray.toList_eq]
 generalize ByteArray.mk (Lib.itoa n).toArray=fb at *
 rw[← hfl] at HT
 cases heq:(fb.toList==t.toList) with
 | false=>
  have HS:=hid (show intOf t.toList=none from HT.out.2 (by simpa using heq))
  have hne:(fb.toList != t.toList)=true:=by simpa using heq
  clear hfl
  go_wp2_with fail
  go_ret
  exact⟨none,0,[],j,false,rfl,World.ownsRow_nil _ _ _ _,hb3.setCell _ _,JE.out.ji false,hge,fun h=>(by cases h),by simp,by rw[VT.out,HS.out];rfl⟩
 | true=>
  have HS:=hid (show intOf t.toList=some n from HT.out.1 (eq_of_beq heq))
  have hne:(fb.toList != t.toList)=false:=by simp at heq ⊢;exact heq
  clear hfl
  by_cases hn:n<0
  ·have hzz:2 * -(n+1)+1=(kQ n:Int):=by unfold kQ;rw[if_pos hn];omega
   go_wp2_with fail
   have IX:kQ n<18446744073709551616:=by unfold kQ;split<;>omega
   refine(dP _ w.heap.size _ [] (kQ n) (World.ownsRow_nil _ _ _ _) IX (by simp) hz3).mono ?_;rintro e w4 ⟨a4,c4,rfl,hb4,hg4⟩
   have afC:=lT (kQ n) IX
   have Uj:=Ed (n:=n) hi1 hi2
   rw[qx HS.out,aB,htl] at Uj
   simp only[List.nil_append] at hb4 hg4 ⊢
   have uo:=hid (JE.out.same (hg4.g.block cb JE.out.seg.lt (by simp[Value.ownBlock])))
   have NY:But cb w w4:=hb3.trans ⟨hg4.g.os,hg4.g.tape,hg4.g.output,hg4.g.size,fun k hk _=>hg4.g.block k hk (by simp[Value.ownBlock])⟩
   have HB4:=hid hb4
   have mD:=hid (show uw bF (aC s i)=some (bU (kQ n),aC s j) by rw[VT.out,HS.out];rfl)
   clear hb4 hg4
   generalize bU (kQ n)=out at *
   go_wp2_with fail
   go_ret
   exact⟨a4,c4,out,j,true,rfl,HB4.out,NY,uo.out,hge,fun _=>by omega,by omega,mD.out⟩
  ·have hzz:2*n=(kQ n:Int):=by unfold kQ;rw[if_neg hn];omega
   go_wp2_with fail
   have IX:kQ n<18446744073709551616:=by unfold kQ;split<;>omega
   refine(dP _ w.heap.size _ [] (kQ n) (World.ownsRow_nil _ _ _ _) IX (by simp) hz3).mono ?_;rintro e w4 ⟨a4,c4,rfl,hb4,hg4⟩
   have afC:=lT (kQ n) IX
   have Uj:=Ed (n:=n) hi1 hi2
   rw[qx HS.out,aB,htl] at Uj
   simp only[List.nil_append] at hb4 hg4 ⊢
   have uo:=hid (JE.out.same (hg4.g.block cb JE.out.seg.lt (by simp[Value.ownBlock])))
   have NY:But cb w w4:=hb3.trans ⟨hg4.g.os,hg4.g.tape,hg4.g.output,hg4.g.size,fun k hk _=>hg4.g.block k hk (by simp[Value.ownBlock])⟩
   have HB4:=hid hb4
   have mD:=hid (show uw bF (aC s i)=some (bU (kQ n),aC s j) by rw[VT.out,HS.out];rfl)
   clear hb4 hg4
   generalize bU (kQ n)=out at *
   go_wp2_with fail
   go_ret
   exact⟨a4,c4,out,j,true,rfl,HB4.out,NY,uo.out,hge,fun _=>by omega,by omega,mD.out⟩
def uj (f:aZ):FD:=⟨f.number.toNat,f.name.toList,if jH f.kind kZ then 1 else if jH f.kind iY then 2 else 0,f.base.toList⟩
def GK (Y:List IV) (base:List UInt8):Option TD:=match Y[(jm Y base).toNat]? with
 | none=>none
 | some y=>if jm Y base<0 then none else if jH y.it.kind aX then some (.inr (y.it.fields.map uj)) else some (.inl (y.it.names.map ByteArray.toList))
abbrev encR (Y:List IV) (n:Nat):=sD bF bF (GK Y) n
theorem Its.but {w w':World} {lo cb:Nat} {lv:Value} {Y:List IV} {xs:List Value} (h:Its w lo lv Y) (hc:Seg w cb 189 0 xs) (hb:But cb w w'):Its w' lo lv Y:=by
 have own:∀ {e:TypeId} {size n:Nat} {v:Value} {ys:List Value},e ≠ 189 → w.ownsRow lo e size v n ys→w'.ownsRow lo e size v n ys:=fun he h1=>au h1 (fun g hg=>hb.block g (h1.lt g hg).2 (gK h1 hc he hg))
 refine⟨own (by decide) h.own,fun x hx=>?_⟩
 have hx':=h.nest x hx
 exact⟨own (by decide) hx'.f,own (by decide) hx'.n,own (by decide) hx'.na,own (by decide) hx'.b,own (by decide) hx'.ba,hx'.zf,hx'.zn,hx'.yj,hx'.zb,hx'.yu⟩
def YB (Y:List IV) (n K:Nat):Prop:=∀ (w:World) (cb lo:Nat) (la:Option Addr) (ll lc:Nat) (s:ByteArray) (i:Nat) (base:ByteArray),Its w lo (.slice la ll lc) Y→Cu w cb (.slice la ll lc) s i true ((6:Int)-n)→Env w→Own cb→s.size≤400→jS Y base.toList=true →
 Calls Tryz.prog 116 #[.pointer (some ⟨cb,0,none⟩),.string base] w (jq ((encR Y n).1 base.toList) w cb (.slice la ll lc) s i ((6:Int)-n) K)
theorem IY (w:World) (cb:Nat) (la:Option Addr) (ll lc:Nat) (s base:ByteArray) (i:Nat) (d:Int) (h:Cu w cb (.slice la ll lc) s i false d) :
  Calls Tryz.prog 116 #[.pointer (some ⟨cb,0,none⟩),.string base] w fun e w'=>e=.returned (.slice none 0 0)∧But cb w w'∧Cu w' cb (.slice la ll lc) s i false d:=by
 have e3:=h.seg.cell (j:=3) rfl
 simp only[Nat.zero_add] at e3
 have H:=hid h
 clear h
 go_enter func116,ntmps116
 go_wp2_with fail
 go_ret
 exact⟨rfl,But.refl _ _,H.out⟩
def SK (G:Got) (val:List UInt8→Got) (s:ByteArray) (k m:Nat) (out:List UInt8) (ok:Bool):Prop:=match ok with
 | true=>m≤16∧G=(iW val (16-m) (decide (m=0)) (aC s k)).map fun x=>(out++x.1,x.2)
 | false=>G=none
theorem LJ:(ByteArray.mk #[91]).toList=[91]:=by rw[ByteArray.toList_eq]
theorem Zw:(ByteArray.mk #[93]).toList=[93]:=by rw[ByteArray.toList_eq]
theorem OY:(ByteArray.mk #[44]).toList=[44]:=by rw[ByteArray.toList_eq]
theorem og (val:List UInt8→Got) (k:Nat) (f:Bool) (t:List UInt8):iW val k f t=match aK [93] t with
  | some r=>some ([],r)
  | none=>match k with
   | 0=>none
   | k+1=>(if f then some t else aK [44] t).bind fun t1=>(val t1).bind fun v=>(iW val k false v.2).map fun o=>(aO v.1++o.1,o.2):=by
 conv=>lhs;unfold iW
 rfl
theorem SK.shut {G:Got} {val:List UInt8→Got} {s:ByteArray} {k m:Nat} {out:List UInt8} (h:SK G val s k m out true) (he:(aK [93] (aC s k)).isSome=true):G=some (out,aC s (k+1)):=by
 have h':G=(iW val (16-m) (decide (m=0)) (aC s k)).map fun x=>(out++x.1,x.2):=h.2
 rw[h',og,nZ he];simp
theorem SK.IZ {G:Got} {val:List UInt8→Got} {s:ByteArray} {k m:Nat} {out:List UInt8} (h:SK G val s k m out true) (he:(aK [93] (aC s k)).isSome=false) (hm:m≠0) (hc:(aK [44] (aC s k)).isSome=false):G=none:=by
 have h':G=(iW val (16-m) (decide (m=0)) (aC s k)).map fun x=>(out++x.1,x.2):=h.2
 rw[h',og,nY he]
 cases 16-m with
 | zero=>rfl
 | succ q=>simp[hm,nY hc]
theorem SK.value {G:Got} {val:List UInt8→Got} {s:ByteArray} {k k1 m:Nat} {out:List UInt8} (h:SK G val s k m out true) (he:(aK [93] (aC s k)).isSome=false) (h1:(m=0∧k1=k)∨(m≠0∧(aK [44] (aC s k)).isSome=true∧k1=k+1)) :
  (val (aC s k1)=none→G=none)∧(∀ v k2,val (aC s k1)=some (v,aC s k2)→(m<16→SK G val s k2 (m+1) (out++aO v) true)∧(m=16→G=none)):=by
 have hm:=h.1
 have h':G=(iW val (16-m) (decide (m=0)) (aC s k)).map fun x=>(out++x.1,x.2):=h.2
 rw[og,nY he] at h'
 have ht:(if decide (m=0)=true then some (aC s k) else aK [44] (aC s k))=some (aC s k1):=by
  rcases h1 with⟨e1,e2⟩ | ⟨e1,e2,e3⟩
  ·simp[e1,e2]
  ·simp[e1,e3,nZ e2]
 refine⟨fun hv=>?_,fun v k2 hv=>⟨fun hlt=>?_,fun h16=>?_⟩⟩
 ·rw[h']
  cases 16-m with
  | zero=>rfl
  | succ q=>simp only[ht,Option.bind_some,hv];rfl
 ·refine⟨by omega,?_⟩
  obtain⟨q,hq⟩:∃ q,16-m=q+1:=⟨15-m,by omega⟩
  rw[hq] at h'
  simp only[ht,Option.bind_some,hv] at h'
  rw[h',show 16-(m+1)=q by omega,show decide (m+1=0)=false by simp,Option.map_map]
  congr 1
  funext x
  simp
 ·rw[h',show 16-m=0 by omega];rfl
theorem pK {w w':World} {lo:Nat} {v v2:Value} {L L2:List UInt8} (h:gB w lo v L) (h2:gB w' w.heap.size v2 L2):EX v v2:=fun b h1 h3=>by
 have:=(h.lt b h1).2
 have:=(h2.lt b h3).1
 omega
theorem dN {b:List UInt8} (h:b.length<16384):(aO b).length≤b.length+2:=by
 unfold aO
 have e:(128:Nat) ^ (1+1)=16384:=by decide
 have:=iJ 1 b.length (by rw[e];omega)
 rw[List.length_append];omega
theorem VU {Y:List IV} {n K:Nat} (hV:YB Y n K) (w:World) (cb lo:Nat) (la:Option Addr) (ll lc:Nat) (s:ByteArray) (i:Nat) (base:ByteArray) (d:Int) (hd:d+1=(6:Int)-n) (hI:Its w lo (.slice la ll lc) Y) (h:Cu w cb (.slice la ll lc) s i true d) (hE:Env w) (hO:Own cb) (hs:s.size≤400) (hB:jS Y base.toList=true) (hK:K≤1000) (hd0:-1000≤d) :
  Calls Tryz.prog 234 #[.pointer (some ⟨cb,0,none⟩),.string base] w (jq ((encR Y (n+1)).2 base.toList) w cb (.slice la ll lc) s i d (K+10)):=by
 unfold jq
 have hle:=h.le
 have e4:=h.seg.cell (j:=4) rfl
 have XK:=h.seg.frozen 4
 simp only[Nat.zero_add] at e4
 have H:=hid h
 have HE:=hid hE
 have HI:=hid hI
 have HV:=hid hV
 have HB0:=hid hB
 clear h hE hI hV hB
 generalize hG:(encR Y (n+1)).2 base.toList (aC s i)=G
 have HG:=hid hG
 have hG2:G=(aK [91] (aC s i)).bind (iW ((encR Y n).1 base.toList) 16 true):=by rw[← hG];rfl
 have HG2:=hid hG2
 clear hG hG2
 have hd6:d+1≤6:=by omega
 have HD:=hid hd
 clear hd
 go_enter func234,ntmps234
 go_wp2_with fail
 refine(iK _ cb la ll lc s (ByteArray.mk #[91]) i true (d+1) (H.out.jU (d+1)) hs (by decide)).mono ?_;rintro e w1 ⟨⟨v,rfl⟩,hb1,hc1⟩
 rw[LJ] at hc1
 simp only[Bool.true_and] at hc1
 generalize hr:(aK [91] (aC s i)).isSome=r at *
 have HR:=hid hr
 have hz1:(ByteArray.mk #[91]).size=1:=rfl
 rw[hz1] at hc1
 obtain⟨k0,hk0⟩:∃ k0,k0=upTo r i 1:=⟨_,rfl⟩
 rw[← hk0] at hc1
 have hk0':i≤k0∧k0≤i+1∧(r=true→k0=i+1):=by rw[hk0];cases r<;>simp[upTo]
 have wP:=hid hc1
 have hle0:=hc1.le
 have kX:But cb w w1:=((But.refl cb w).setCell 4 (.int .i64 (d+1))).trans hb1
 have HT0:=hid (show SK G ((encR Y n).1 base.toList) s k0 0 [] r from by
  cases r with
  | true=>
   refine⟨by omega,?_⟩
   rw[HG2.out,nZ HR.out,hk0'.2.2 rfl];simp
  | false=>
   show G=none
   rw[HG2.out,nY HR.out];rfl)
 clear hc1 hk0 hr hb1 e4 XK
 have hz:=kX.size
 go_wp2_with fail
 go_loopg [5,6,7,8] 18 (fun gk o5 n6 x7 x8 wr=>∃ (k m:Nat) (out:List UInt8) (ok:Bool),i≤k∧n6=.int .i64 m∧m≤17∧(bif ok then 18-m else 0)≤gk∧Hid (Cu wr cb (.slice la ll lc) s k ok (d+1))∧Hid (gB wr w.heap.size o5 out)∧(ok=true→out.length+(bif decide (m=0) then 2 else 0)≤2*(k-i))∧out.length≤2*(k-i)+K+10∧Hid (SK G ((encR Y n).1 base.toList) s k m out ok)∧But cb w wr)
 case atStart=>exact⟨k0,0,[],r,hk0'.1,rfl,by omega,by cases r<;>simp,hid wP.out,hid (World.ownsRow_nil _ _ _ _),fun hr=>by simp;have:=hk0'.2.2 hr;omega,by simp,hid HT0.out,kX⟩
 case round=>
  obtain⟨k,m,out,ok,hik,rfl,ajn,hgk,HC,HB,hol,OZ,HT,jI⟩:=hrel
  obtain⟨oa,oc,hov⟩:∃ a c,u5=.slice a out.length c:=ak HB.out
  subst hov
  have e3:=HC.out.seg.cell (j:=3) rfl
  have e4:=HC.out.seg.cell (j:=4) rfl
  have XK:=HC.out.seg.frozen 4
  simp only[Nat.zero_add] at e3 e4
  cases ok with
  | false=>
   have HBx:=hid (HB.out.but HC.out.seg (by decide) ((But.refl _ _).setCell 4 (.int .i64 d)))
   go_wp2_with fail
   go_ret
   exact⟨oa,oc,out,k,false,rfl,HBx.out,jI.setCell _ _,HC.out.jU d,hik,fun h=>(by cases h),by omega,HT.out⟩
  | true=>
   have O1:=hol rfl
   go_wp2_with fail
   refine(yO _ cb la ll lc s (ByteArray.mk #[93]) k true (d+1) HC.out hs (by decide)).mono ?_;rintro e w2 ⟨rfl,hb2,hc2⟩
   rw[Zw] at hc2 ⊢
   have afD:(ByteArray.mk #[93]).size=1:=rfl
   rw[afD] at hc2
   have HB2:=hid (HB.out.but HC.out.seg (by decide) hb2)
   have bG:=jI.trans hb2
   cases hr2:(aK [93] (aC s k)).isSome with
   | true=>
    rw[hr2] at hc2
    have HF:=hid (HT.out.shut hr2)
    have HC2:=hid (show Cu w2 cb (.slice la ll lc) s (k+1) true (d+1) from hc2)
    have f4:=HC2.out.seg.cell (j:=4) rfl
    have ff4:=HC2.out.seg.frozen 4
    simp only[Nat.zero_add] at f4
    have HBx:=hid (HB2.out.but HC2.out.seg (by decide) ((But.refl _ _).setCell 4 (.int .i64 d)))
    clear hc2 hb2
    go_wp2_with fail
    go_ret
    exact⟨oa,oc,out,k+1,true,rfl,HBx.out,bG.setCell _ _,HC2.out.jU d,by omega,fun _=>by omega,by omega,HF.out⟩
   | false=>
    rw[hr2] at hc2
    have HC2:=hid (show Cu w2 cb (.slice la ll lc) s k true (d+1) from hc2)
    have hle2:k≤s.size:=HC2.out.le
    have afE:m≤16:=HT.out.1
    clear hc2 hb2 e3 e4 XK
    by_cases hm0:m=0
    ·subst hm0
     simp only[decide_true,cond_true] at O1
     go_wp2_with fail
     have hzX:=bG.size
     refine(HV.out w2 cb lo la ll lc s k base (HI.out.but H.out.seg bG) (by rw[← HD.out];exact HC2.out) (HE.out.but bG hO) hO hs HB0.out).mono ?_
     rintro e w4 ⟨a4,c4,v4,k4,LK,rfl,hb4,jF,hc4,hk4,hl4,VW,mM⟩
     rw[← HD.out] at hc4
     have VX:=hc4.le
     have uo:=hid hc4
     have jh:=hid hb4
     have fA:=hid (HB2.out.but HC2.out.seg (by decide) jF)
     have fV:=bG.trans jF
     have JQ:=fV.size
     have vg:=hid (pK HB2.out hb4)
     have FB:=hid (HT.out.value hr2 (Or.inl ⟨rfl,rfl⟩))
     have mD:=hid mM
     clear hc4 hb4 mM
     cases LK with
     | false=>
      have HN:=hid (show SK G ((encR Y n).1 base.toList) s k4 (0+1) (out++aO v4) false from FB.out.1 mD.out)
      clear FB mD
      go_wp2_with fail
      refine(dK w4 w.heap.size _ _ _ out v4 fA.out jh.out vg.out (by omega) (by omega) (by omega)).mono ?_;rintro e w5 ⟨a5,c5,rfl,hb5,hg5⟩
      have jW:=hid (uo.out.grew (Below.refl _ _) fA.out hg5)
      have dR:=fV.grew (Below.refl _ _) fA.out hg5
      have jM:=hid hb5
      have f3:=jW.out.seg.cell (j:=3) rfl
      have Zx:=jW.out.seg.frozen 3
      simp only[Nat.zero_add] at f3
      have LM:=hid (jM.out.but jW.out.seg (by decide) ((But.refl _ _).setCell 3 (.bool false)))
      have wE:(out++aO v4).length≤out.length+v4.length+2:=by rw[List.length_append];have:=dN (b:=v4) (by omega);omega
      generalize out++aO v4=eU at *
      clear hb5 hg5
      go_wp2_with fail
      go_roundg (gk-1)
      case rel=>exact⟨k4,0+1,eU,false,by omega,by go_num,by omega,by simp at hgk ⊢<;>omega,hid jW.out,hid jM.out,fun h=>(by cases h),by omega,hid HN.out,dR⟩
      case measure=>simp at hgk;omega
     | true=>
      have VY:=hl4 rfl
      have HN:=hid ((FB.out.2 v4 k4 mD.out).1 (by omega))
      clear FB mD
      go_wp2_with fail
      refine(dK w4 w.heap.size _ _ _ out v4 fA.out jh.out vg.out (by omega) (by omega) (by omega)).mono ?_;rintro e w5 ⟨a5,c5,rfl,hb5,hg5⟩
      have jW:=hid (uo.out.grew (Below.refl _ _) fA.out hg5)
      have dR:=fV.grew (Below.refl _ _) fA.out hg5
      have jM:=hid hb5
      have f3:=jW.out.seg.cell (j:=3) rfl
      have Zx:=jW.out.seg.frozen 3
      simp only[Nat.zero_add] at f3
      have LM:=hid (jM.out.but jW.out.seg (by decide) ((But.refl _ _).setCell 3 (.bool false)))
      have wE:(out++aO v4).length≤out.length+v4.length+2:=by rw[List.length_append];have:=dN (b:=v4) (by omega);omega
      generalize out++aO v4=eU at *
      clear hb5 hg5
      go_wp2_with fail
      go_roundg (gk-1)
      case rel=>exact⟨k4,0+1,eU,true,by omega,by go_num,by omega,by simp at hgk ⊢<;>omega,hid jW.out,hid jM.out,fun _=>by simp;omega,by omega,hid HN.out,dR⟩
      case measure=>simp at hgk;omega
    ·have acY:(0:Int)<(m:Int):=by omega
     have hmd:decide (m=0)=false:=by simp[hm0]
     rw[hmd] at O1
     simp only[cond_false] at O1
     go_wp2_with fail
     refine(iK _ cb la ll lc s (ByteArray.mk #[44]) k true (d+1) HC2.out hs (by decide)).mono ?_;rintro e w3 ⟨⟨v3,rfl⟩,hb3,hc3⟩
     rw[OY] at hc3
     have aaq:(ByteArray.mk #[44]).size=1:=rfl
     rw[aaq] at hc3
     simp only[Bool.true_and] at hc3
     have HB3:=hid (HB2.out.but HC2.out.seg (by decide) hb3)
     have o7:=bG.trans hb3
     cases hr3:(aK [44] (aC s k)).isSome with
     | true=>
      rw[hr3] at hc3
      have JE:=hid (show Cu w3 cb (.slice la ll lc) s (k+1) true (d+1) from hc3)
      have hle3:=JE.out.le
      clear hc3 hb3
      go_wp2_with fail
      have hzX:=o7.size
      refine(HV.out w3 cb lo la ll lc s (k+1) base (HI.out.but H.out.seg o7) (by rw[← HD.out];exact JE.out) (HE.out.but o7 hO) hO hs HB0.out).mono ?_
      rintro e w4 ⟨a4,c4,v4,k4,LK,rfl,hb4,jF,hc4,hk4,hl4,VW,mM⟩
      rw[← HD.out] at hc4
      have VX:=hc4.le
      have uo:=hid hc4
      have jh:=hid hb4
      have fA:=hid (HB3.out.but JE.out.seg (by decide) jF)
      have fV:=o7.trans jF
      have JQ:=fV.size
      have vg:=hid (pK HB3.out hb4)
      have FB:=hid (HT.out.value hr2 (Or.inr ⟨hm0,hr3,rfl⟩))
      have mD:=hid mM
      clear hc4 hb4 mM
      cases LK with
      | false=>
       have HN:=hid (show SK G ((encR Y n).1 base.toList) s k4 (m+1) (out++aO v4) false from FB.out.1 mD.out)
       clear FB mD
       go_wp2_with fail
       refine(dK w4 w.heap.size _ _ _ out v4 fA.out jh.out vg.out (by omega) (by omega) (by omega)).mono ?_;rintro e w5 ⟨a5,c5,rfl,hb5,hg5⟩
       have jW:=hid (uo.out.grew (Below.refl _ _) fA.out hg5)
       have dR:=fV.grew (Below.refl _ _) fA.out hg5
       have jM:=hid hb5
       have f3:=jW.out.seg.cell (j:=3) rfl
       have Zx:=jW.out.seg.frozen 3
       simp only[Nat.zero_add] at f3
       have LM:=hid (jM.out.but jW.out.seg (by decide) ((But.refl _ _).setCell 3 (.bool false)))
       have wE:(out++aO v4).length≤out.length+v4.length+2:=by rw[List.length_append];have:=dN (b:=v4) (by omega);omega
       generalize out++aO v4=eU at *
       clear hb5 hg5
       by_cases h16:m=16
       ·have SL:(16:Int)<(m:Int)+1:=by omega
        go_wp2_with fail
        go_roundg (gk-1)
        case rel=>exact⟨k4,m+1,eU,false,by omega,by go_num,by omega,by simp,hid (jW.out.ji false),hid LM.out,fun h=>(by cases h),by omega,hid HN.out,dR.setCell _ _⟩
        case measure=>simp at hgk;omega
       ·have SL:¬ (16:Int)<(m:Int)+1:=by omega
        go_wp2_with fail
        go_roundg (gk-1)
        case rel=>exact⟨k4,m+1,eU,false,by omega,by go_num,by omega,by simp at hgk ⊢<;>omega,hid jW.out,hid jM.out,fun h=>(by cases h),by omega,hid HN.out,dR⟩
        case measure=>simp at hgk;omega
      | true=>
       have VY:=hl4 rfl
       by_cases h16:m=16
       ·have SL:(16:Int)<(m:Int)+1:=by omega
        have HN:=hid (show SK G ((encR Y n).1 base.toList) s k4 (m+1) (out++aO v4) false from(FB.out.2 v4 k4 mD.out).2 h16)
        clear FB mD
        go_wp2_with fail
        refine(dK w4 w.heap.size _ _ _ out v4 fA.out jh.out vg.out (by omega) (by omega) (by omega)).mono ?_;rintro e w5 ⟨a5,c5,rfl,hb5,hg5⟩
        have jW:=hid (uo.out.grew (Below.refl _ _) fA.out hg5)
        have dR:=fV.grew (Below.refl _ _) fA.out hg5
        have jM:=hid hb5
        have f3:=jW.out.seg.cell (j:=3) rfl
        have Zx:=jW.out.seg.frozen 3
        simp only[Nat.zero_add] at f3
        have LM:=hid (jM.out.but jW.out.seg (by decide) ((But.refl _ _).setCell 3 (.bool false)))
        have wE:(out++aO v4).length≤out.length+v4.length+2:=by rw[List.length_append];have:=dN (b:=v4) (by omega);omega
        generalize out++aO v4=eU at *
        clear hb5 hg5
        go_wp2_with fail
        go_roundg (gk-1)
        case rel=>exact⟨k4,m+1,eU,false,by omega,by go_num,by omega,by simp,hid (jW.out.ji false),hid LM.out,fun h=>(by cases h),by omega,hid HN.out,dR.setCell _ _⟩
        case measure=>simp at hgk;omega
       ·have SL:¬ (16:Int)<(m:Int)+1:=by omega
        have HN:=hid ((FB.out.2 v4 k4 mD.out).1 (by omega))
        clear FB mD
        go_wp2_with fail
        refine(dK w4 w.heap.size _ _ _ out v4 fA.out jh.out vg.out (by omega) (by omega) (by omega)).mono ?_;rintro e w5 ⟨a5,c5,rfl,hb5,hg5⟩
        have jW:=hid (uo.out.grew (Below.refl _ _) fA.out hg5)
        have dR:=fV.grew (Below.refl _ _) fA.out hg5
        have jM:=hid hb5
        have f3:=jW.out.seg.cell (j:=3) rfl
        have Zx:=jW.out.seg.frozen 3
        simp only[Nat.zero_add] at f3
        have LM:=hid (jM.out.but jW.out.seg (by decide) ((But.refl _ _).setCell 3 (.bool false)))
        have wE:(out++aO v4).length≤out.length+v4.length+2:=by rw[List.length_append];have:=dN (b:=v4) (by omega);omega
        generalize out++aO v4=eU at *
        clear hb5 hg5
        go_wp2_with fail
        go_roundg (gk-1)
        case rel=>exact⟨k4,m+1,eU,true,by omega,by go_num,by omega,by simp at hgk ⊢<;>omega,hid jW.out,hid jM.out,fun _=>by simp;omega,by omega,hid HN.out,dR⟩
        case measure=>simp at hgk;omega
     | false=>
      rw[hr3] at hc3
      have JE:=hid (show Cu w3 cb (.slice la ll lc) s k false (d+1) from hc3)
      have HN:=hid (show SK G ((encR Y n).1 base.toList) s k (m+1) (out++aO []) false from HT.out.IZ hr2 hm0 hr3)
      clear hc3 hb3
      go_wp2_with fail
      refine(IY w3 cb la ll lc s base k (d+1) JE.out).mono ?_;rintro e w4 ⟨rfl,jF,hc4⟩
      obtain⟨v4,hv4⟩:∃ v4:List UInt8,v4=[]:=⟨_,rfl⟩
      rw[← hv4] at HN
      have ajp:v4.length=0:=by rw[hv4];rfl
      have uo:=hid hc4
      have fA:=hid (HB3.out.but JE.out.seg (by decide) jF)
      have jh:=hid (show gB w4 w4.heap.size (.slice none 0 0) v4 by rw[hv4];exact World.ownsRow_nil _ _ _ _)
      have fV:=o7.trans jF
      have JQ:=fV.size
      have vg:=hid (show EX (.slice oa out.length oc) (.slice none 0 0) from fun b h1 h2=>by cases h2)
      clear hc4 hv4 jF
      go_wp2_with fail
      refine(dK w4 w.heap.size _ _ _ out v4 fA.out jh.out vg.out (by omega) (by omega) (by omega)).mono ?_;rintro e w5 ⟨a5,c5,rfl,hb5,hg5⟩
      have jW:=hid (uo.out.grew (Below.refl _ _) fA.out hg5)
      have dR:=fV.grew (Below.refl _ _) fA.out hg5
      have jM:=hid hb5
      have f3:=jW.out.seg.cell (j:=3) rfl
      have Zx:=jW.out.seg.frozen 3
      simp only[Nat.zero_add] at f3
      have LM:=hid (jM.out.but jW.out.seg (by decide) ((But.refl _ _).setCell 3 (.bool false)))
      have wE:(out++aO v4).length≤out.length+v4.length+2:=by rw[List.length_append];have:=dN (b:=v4) (by omega);omega
      generalize out++aO v4=eU at *
      clear hb5 hg5
      by_cases h16:m=16
      ·have SL:(16:Int)<(m:Int)+1:=by omega
       go_wp2_with fail
       go_roundg (gk-1)
       case rel=>exact⟨k,m+1,eU,false,by omega,by go_num,by omega,by simp,hid (jW.out.ji false),hid LM.out,fun h=>(by cases h),by omega,hid HN.out,dR.setCell _ _⟩
       case measure=>simp at hgk;omega
      ·have SL:¬ (16:Int)<(m:Int)+1:=by omega
       go_wp2_with fail
       go_roundg (gk-1)
       case rel=>exact⟨k,m+1,eU,false,by omega,by go_num,by omega,by simp at hgk ⊢<;>omega,hid jW.out,hid jM.out,fun h=>(by cases h),by omega,hid HN.out,dR⟩
       case measure=>simp at hgk;omega
end Go.Proofs.YtgalebcpagmohaaGreatDoor
