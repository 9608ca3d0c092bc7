/- Package courierref's cursor: integer. -/
import Derived.Test.YtolfcabodiphmaaGreatDoorV09
import Derived.Deep.RegionHeld3
import Derived.Test.YtolfcabodiphmaaGreatDoorShelf3
import Derived.Shelf.Strings.SlTrimAscii
import Derived.Laws.Bits64
set_option linter.unusedSimpArgs false
set_option linter.unusedVariables false
set_option maxHeartbeats 1000000
set_option maxRecDepth 100000
namespace Go.Proofs.YtolfcabodiphmaaGreatDoor
open Go.Proofs.Tryz
open Go.RowKit
theorem below_grow(w:World)(n:Nat)(os:Array Obj):Below w.heap.size w (Sort.grow (w.drewN n) os) :=
 ⟨rfl,rfl,rfl,by simp[Sort.grow],fun k hk=>by
  have h1:=(below_drewN (Below.refl w.heap.size w) n).block k hk
  have h2:(w.drewN n).heap=w.heap:=rfl
  simp only[Sort.grow,h2]
  rw[Array.getElem?_append_left hk]⟩
theorem gTab:Tryz.prog.globalNamed "internal/strconv.uint64pow10" = some 0:=by kernel_rfl
structure Env(w:World):Prop where
 v:Vars w
 t:Lib.TabIs Tryz.prog w "internal/strconv.uint64pow10" .u64 Lib.pow10Tab
 lt:0 < w.heap.size
def Own(cb:Nat):Prop:=cb ≠ 3 ∧ cb ≠ 4 ∧ cb ≠ 0
theorem Env.but{w w':World}{cb:Nat}(h:Env w)(hb:But cb w w')(hc:Own cb):Env w':=by
 refine⟨h.v.but hb hc.1 hc.2.1,?_,Nat.lt_of_lt_of_le h.lt hb.size⟩
 have:=h.t
 unfold Lib.TabIs World.var? at this ⊢
 rw[gTab] at this ⊢
 simp only[Option.bind_some] at this ⊢
 rw[hb.block _ h.lt (fun e=>hc.2.2 e.symm)]
 exact this
theorem Env.below{w w':World}(h:Env w)(hb:Below w.heap.size w w'):Env w':=by
 refine⟨h.v.below hb,?_,Nat.lt_of_lt_of_le h.lt hb.size⟩
 have:=h.t
 unfold Lib.TabIs World.var? at this ⊢
 rw[gTab] at this ⊢
 simp only[Option.bind_some] at this ⊢
 rw[hb.block _ h.lt]
 exact this
theorem Yr(u:Nat):u<10 ^ (Lib.decDigits u).length∧1≤(Lib.decDigits u).length:=by
 induction u using Nat.strongRecOn with
 | _ u ih=>
  rw[Lib.decDigits]
  by_cases h:u<10
  ·rw[dif_pos h];exact⟨by simpa using h,by simp⟩
  ·rw[dif_neg h,List.length_append,List.length_singleton]
   have:=(ih (u / 10) (by omega)).1
   exact⟨by rw[Nat.pow_succ];omega,by omega⟩
theorem abw(k:Nat):2*10 ^ (k+1)≤128 ^ (k+1):=by
 induction k with
 | zero=>decide
 | succ k ih=>rw[Nat.pow_succ 10,Nat.pow_succ 128];omega
theorem U9{n:Int}(_h1:-9223372036854775808≤n)(_h2:n≤9223372036854775807):(fZ (rM n)).length≤(Lib.itoa n).length:=by
 have key:∀ (u z:Nat),z≤2*u→(fZ z).length≤(Lib.decDigits u).length:=by
  intro u z hz
  obtain⟨h1,h2⟩:=Yr u
  obtain⟨k,hk⟩:∃ k,(Lib.decDigits u).length=k+1:=⟨(Lib.decDigits u).length-1,by omega⟩
  rw[hk] at h1 ⊢
  have:=abw k
  exact rP k z (by omega)
 unfold Lib.itoa rM
 by_cases hn:n<0
 ·rw[if_pos hn,if_pos hn,List.length_cons]
  have:=key n.natAbs (-2*n-1).toNat (by omega)
  omega
 ·rw[if_neg hn,if_neg hn]
  exact key n.toNat (2*n).toNat (by omega)
theorem Va:(ByteArray.mk #[91]).toList=[91]:=by rw[ByteArray.toList_eq]
theorem aez:(ByteArray.mk #[93]).toList=[93]:=by rw[ByteArray.toList_eq]
theorem abx:(ByteArray.mk #[44]).toList=[44]:=by rw[ByteArray.toList_eq]
theorem tK(val:List UInt8→Got)(k:Nat)(f:Bool)(t:List UInt8):uY val k f t=match dJ [93] t with
  | some r=>some ([],r)
  | none=>match k with
   | 0=>none
   | k+1=>(if f then some t else dJ [44] t).bind fun t1=>(val t1).bind fun v=>(uY val k false v.2).map fun o=>(gU v.1++o.1,o.2):=by
 conv=>lhs;unfold uY
 rfl
theorem GZ{w w':World}{lo:Nat}{v v2:Value}{L L2:List UInt8}(h:gZ w lo v L)(h2:gZ w' w.heap.size v2 L2):Tt v v2:=fun b h1 h3=>by
 have:=(h.lt b h1).2
 have:=(h2.lt b h3).1
 omega
theorem vC{b:List UInt8}(h:b.length<16384):(gU b).length≤b.length+2:=by
 unfold gU
 have e:(128:Nat) ^ (1+1)=16384:=by decide
 have:=rP 1 b.length (by rw[e];omega)
 rw[List.length_append];omega
theorem lD{t:List UInt8}{p:List UInt8}(h:(dJ p t).isSome=false):dJ p t=none:=by
 cases e:dJ p t with
 | none=>rfl
 | some r=>rw[e] at h;cases h
theorem aeA:(ByteArray.mk #[123]).toList=[123]:=by rw[ByteArray.toList_eq]
theorem aby:(ByteArray.mk #[125]).toList=[125]:=by rw[ByteArray.toList_eq]
theorem BQ(s:ByteArray):∀ (f k j:Nat),k≤j→j<dN s f k→wP (B s j)=true
 | 0,k,j,h1,h2=>by simp only[dN] at h2;omega
 | f+1,k,j,h1,h2=>by
  unfold dN at h2
  by_cases h:k<s.size∧wP (B s k)=true
  ·rw[if_pos h] at h2
   rcases Nat.lt_or_ge k j with hk | hk
   ·exact BQ s f (k+1) j (by omega) h2
   ·rw[show j=k by omega];exact h.2
  ·rw[if_neg h] at h2;omega
theorem Vb(c:UInt8):wP (c.toNat:Int)=gu c:=by
 have all:∀ a:Fin 256,wP ((UInt8.ofNat a.val).toNat:Int)=gu (UInt8.ofNat a.val):=by decide +kernel
 have:=all ⟨c.toNat,c.toNat_lt⟩
 simpa using this
theorem QN(c:Int):lC c≠2:=by unfold lC;split<;>(try split)<;>omega
theorem Tk.letters{s:ByteArray}{t:aN}(h:Tk s t)(h2:t.kind=2):∀ c∈t.text.toList,gu c=true:=by
 obtain⟨i,hi,rfl⟩:=h
 unfold jw at *
 generalize uy s i=k at *
 unfold jq at h2 ⊢
 by_cases hk:k=s.size
 ·rw[if_pos hk] at h2;simp at h2
 ·rw[if_neg hk] at h2 ⊢
  by_cases hr:dN s s.size k=k
  ·rw[if_pos hr] at h2;exact absurd h2 (QN _)
  ·rw[if_neg hr]
   intro c hc
   simp only at hc
   rw[ext_list] at hc
   obtain⟨q,hq,e⟩:=List.getElem_of_mem hc
   rw[List.length_take,List.length_drop] at hq
   rw[List.getElem_take,List.getElem_drop] at e
   have:=BQ s s.size k (k+q) (by omega) (by omega)
   rw[← Vb,← e]
   unfold B at this
   rw[List.getD_eq_getElem?_getD,List.getElem?_eq_getElem (by omega)] at this
   exact this
def Ed(s:ByteArray)(f:bI):Prop:=∃ t,Tk s t∧(bD s t).1=true∧f=iM s t (lu t.text.toList)
def G5(s:ByteArray)(t:aN):Prop:=Tk s t∧cO t=true
theorem zB{s:ByteArray}:∀ (f:Nat) (t:aN) (L:List bI),Tk s t→(∀ x∈L,Ed s x)→∀ x∈(dO s f t L).2.2,Ed s x
 | 0,t,L,h,hL=>hL
 | f+1,t,L,h,hL=>by
  have hnew:(bD s t).1=true→∀ x∈L++[iM s t (lu t.text.toList)],Ed s x:=fun h1 x hx=>by
   rcases List.mem_append.1 hx with hx | hx
   ·exact hL x hx
   ·rw[List.mem_singleton.1 hx];exact⟨t,h,h1,rfl⟩
  unfold dO
  by_cases h1:(bD s t).1=true
  ·rw[if_pos h1]
   by_cases h5:((bD s t).2.kind==5)=true
   ·rw[if_pos h5];exact hnew h1
   ·rw[if_neg h5];exact zB f _ _ (sZ h) (hnew h1)
  ·rw[if_neg h1];exact hL
theorem BR{s:ByteArray}:∀ (f:Nat) (t:aN) (L:List aN),Tk s t→(∀ x∈L,G5 s x)→∀ x∈(namesT s f t L).2.2,G5 s x
 | 0,t,L,h,hL=>hL
 | f+1,t,L,h,hL=>by
  have hnew:cO t=true→∀ x∈L++[t],G5 s x:=fun h1 x hx=>by
   rcases List.mem_append.1 hx with hx | hx
   ·exact hL x hx
   ·rw[List.mem_singleton.1 hx];exact⟨h,h1⟩
  unfold namesT
  by_cases h1:cO t=true
  ·rw[if_pos h1]
   by_cases h5:((aj s t).kind==5)=true
   ·rw[if_pos h5];exact hnew h1
   ·rw[if_neg h5];exact BR f _ _ h.next (hnew h1)
  ·rw[if_neg h1];exact hL
structure QO(s:ByteArray)(p:iP):Prop where
 f:∀ f∈p.fields,Ed s f
 n:∀ t∈p.names,G5 s t
 m:G5 s p.name
 e:p.kind=0∨p.kind=1∨2≤p.kind
theorem QS{s:ByteArray}{t:aN}(h:Tk s t)(hok:(cZ s t).1=true):QO s (cZ s t).2.2:=by
 have n1:=h.next
 have n3:=h.next.next.next
 unfold cZ at hok ⊢
 by_cases e0:aI t dP=true
 ·rw[if_pos e0] at hok ⊢
  by_cases hn:cO (aj s t)=true
  ·rw[if_pos hn] at hok ⊢
   unfold gK at hok ⊢
   by_cases h4:((aj s (aj s t)).kind==4)=true
   ·rw[if_pos h4]
    exact⟨zB _ _ _ n3 (by simp),by simp,⟨n1,hn⟩,Or.inl rfl⟩
   ·rw[if_neg h4] at hok;cases hok
  ·rw[if_neg hn] at hok;cases hok
 ·rw[if_neg e0] at hok ⊢
  by_cases e1:aI t mY=true
  ·rw[if_pos e1] at hok ⊢
   by_cases hn:cO (aj s t)=true
   ·rw[if_pos hn] at hok ⊢
    unfold gQ at hok ⊢
    by_cases h4:((aj s (aj s t)).kind==4)=true
    ·rw[if_pos h4]
     exact⟨by simp,BR _ _ _ n3 (by simp),⟨n1,hn⟩,Or.inr (Or.inl rfl)⟩
    ·rw[if_neg h4] at hok;cases hok
   ·rw[if_neg hn] at hok;cases hok
  ·rw[if_neg e1] at hok ⊢
   by_cases e2:aI t je=true
   ·rw[if_pos e2] at hok ⊢
    by_cases hn:cO (aj s t)=true
    ·rw[if_pos hn]
     exact⟨by simp,by simp,⟨n1,hn⟩,Or.inr (Or.inr (by simp))⟩
    ·rw[if_neg hn] at hok;cases hok
   ·rw[if_neg e2] at hok ⊢
    by_cases e3:aI t qE=true
    ·rw[if_pos e3] at hok ⊢
     by_cases hn:cO (aj s t)=true
     ·rw[if_pos hn] at hok ⊢
      by_cases hb:eH (aj s (aj s t))=true
      ·rw[if_pos hb]
       exact⟨by simp,by simp,⟨n1,hn⟩,Or.inr (Or.inr (by simp))⟩
      ·rw[if_neg hb] at hok;cases hok
     ·rw[if_neg hn] at hok;cases hok
    ·rw[if_neg e3] at hok;cases hok
theorem BU{s:ByteArray}:∀ (f:Nat) (t:aN) (L M:List iP),Tk s t→(kM s f t L).1=some M→(∀ p∈L,QO s p)→∀ p∈M,QO s p
 | 0,t,L,M,h,hM,_=>by simp[kM] at hM
 | f+1,t,L,M,h,hM,hL=>by
  unfold kM at hM
  by_cases h0:(t.kind==0)=true
  ·rw[if_pos h0] at hM
   simp only[Option.some.injEq] at hM
   subst hM;exact hL
  ·rw[if_neg h0] at hM
   by_cases h1:(cZ s t).1=true
   ·rw[if_pos h1] at hM
    refine BU f _ _ M (Bh h).1 hM (fun p hp=>?_)
    rcases List.mem_append.1 hp with hp | hp
    ·exact hL p hp
    ·rw[List.mem_singleton.1 hp];exact QS h h1
   ·rw[if_neg h1] at hM;cases hM
theorem BX{s:ByteArray}{M:List iP}(h:(aV s).1=some M):∀ p∈M,QO s p :=
 BU (s.size+1) (jw s 0) [] M ⟨0,by omega,rfl⟩ h (by simp)
theorem G5.size{s:ByteArray}{t:aN}(h:G5 s t)(hs:s.size≤400):1≤t.text.size∧t.text.size≤400 :=
 ⟨h.1.pos (by rw[iw h.2];omega),by have:=h.1.sizeLe;omega⟩
theorem Ed.num{s:ByteArray}{f:bI}(h:Ed s f):1≤f.number∧f.number≤99:=by
 obtain⟨t,ht,hok,rfl⟩:=h
 unfold bD at hok
 by_cases h3:(t.kind==3)=true
 ·have hn:=ht.num (eq_of_beq h3)
  obtain⟨k,h1,h2,_,h4⟩:=Qb hn
  show 1≤lu t.text.toList∧lu t.text.toList≤99
  unfold lu
  rw[ByteArray.toList_eq,h4]
  simp;omega
 ·rw[if_neg h3] at hok;cases hok
theorem Ed.name{s:ByteArray}{f:bI}(h:Ed s f):∃ t,G5 s t∧f.name=t.text:=by
 obtain⟨t,ht,hok,rfl⟩:=h
 unfold bD at hok
 by_cases h3:(t.kind==3)=true
 ·rw[if_pos h3] at hok
  by_cases hn:cO (aj s t)=true
  ·exact⟨_,⟨ht.next,hn⟩,rfl⟩
  ·rw[if_neg hn] at hok;cases hok
 ·rw[if_neg h3] at hok;cases hok
theorem Ed.shape{s:ByteArray}{f:bI}(h:Ed s f):f.shape≤2:=by
 obtain⟨t,ht,hok,rfl⟩:=h
 exact EO _
theorem QU(v:ByteArray):EY v 0=v.toList:=by unfold EY;simp
theorem But.below{w W w':World}{cb B:Nat}(h:But cb W w')(hb:Below B w W)(hc:B≤cb)(hB:B≤w.heap.size):Below B w w' :=
 ⟨h.os.trans hb.os,h.tape.trans hb.tape,h.output.trans hb.output,Nat.le_trans hb.size h.size,fun k hk=>(h.block k (Nat.lt_of_lt_of_le hk (Nat.le_trans hB hb.size)) (by omega)).trans (hb.block k hk)⟩
def Pe(w:World)(eb:Nat)(lv:Value)(t:ByteArray):Prop:=Seg w eb 158 0 [lv,.string t]
theorem Pe.lt{w:World}{eb:Nat}{lv:Value}{t:ByteArray}(h:Pe w eb lv t):eb<w.heap.size:=Seg.lt h
theorem Pe.same{w w':World}{eb:Nat}{lv:Value}{t:ByteArray}(h:Pe w eb lv t)(hb:w'.heap[eb]? = w.heap[eb]?):Pe w' eb lv t:=Seg.same h hb
theorem Pe.put{w:World}{eb:Nat}{lv:Value}{t:ByteArray}(h:Pe w eb lv t)(u:ByteArray):Pe (w.setCell ⟨eb,1,none⟩ (.string u)) eb lv u:=Seg.set h 1 (.string u)
theorem Pe.rest{w:World}{eb:Nat}{lv:Value}{t:ByteArray}(h:Pe w eb lv t):w.cell? ⟨eb,1,none⟩=some (.string t):=Seg.cell h (j:=1) rfl
theorem Pe.items{w:World}{eb:Nat}{lv:Value}{t:ByteArray}(h:Pe w eb lv t):w.cell? ⟨eb,0,none⟩=some lv:=Seg.cell h (j:=0) rfl
theorem MC(p t:List UInt8):(dJ p t).isSome=Lib.hasPrefix t p:=by unfold dJ Lib.hasPrefix;cases p.isPrefixOf t<;>simp
theorem Vd(p t:List UInt8):(dJ p t).getD t=Lib.trimPrefix t p:=by unfold dJ Lib.trimPrefix Lib.hasPrefix;cases p.isPrefixOf t<;>simp
theorem Ee(t p:ByteArray)(w:World):
  Calls Tryz.prog 196 #[.string t,.string p] w fun e w'=>∃ t':ByteArray,e=.returned (.tuple #[.string t',.bool (dJ p.toList t.toList).isSome])∧w'=w∧t'.toList=(dJ p.toList t.toList).getD t.toList:=by
 refine(Tryz.y_strings_CutPrefix t p w).mono ?_
 rintro e w1 ⟨rfl,rfl⟩
 refine⟨⟨(Lib.trimPrefix t.data.toList p.data.toList).toArray⟩,?_,rfl,?_⟩
 ·rw[MC,ByteArray.toList_eq,ByteArray.toList_eq]
 ·rw[Vd,ByteArray.toList_eq,ByteArray.toList_eq,ByteArray.toList_eq]
theorem nX(c:Int)(w:World):
  Calls Tryz.prog 198 #[.int .u8 c] w fun e w'=>e=.returned (.bool (GN c))∧w'=w:=by
 unfold GN
 by_cases h1:32≤c
 ·by_cases h2:c≤126
  ·cases h3:(c==34)<;>cases h4:(c==92) <;>
   (go_enter func198,ntmps198
    go_wp2
    all_goals (go_ret;simp_all))
  ·have hd:decide (c≤126)=false:=by simpa using h2
   rw[hd]
   go_enter func198,ntmps198
   go_wp2
   go_ret
   exact⟨bM (by simp),rfl⟩
 ·have hd:decide (32≤c)=false:=by simpa using h1
  rw[hd]
  go_enter func198,ntmps198
  go_wp2
  go_ret
  exact⟨bM (by simp),rfl⟩
theorem take_any(w:World)(eb:Nat)(la:Option Addr)(ll lc:Nat)(t p:ByteArray)(h:Pe w eb (.slice la ll lc) t):
  Calls Tryz.prog 151 #[.pointer (some ⟨eb,0,none⟩),.string p] w fun e w'=>∃ t':ByteArray,e=.returned (.bool (dJ p.toList t.toList).isSome)∧But eb w w'∧Pe w' eb (.slice la ll lc) t'∧t'.toList=(dJ p.toList t.toList).getD t.toList:=by
 have c1:=h.rest
 have hf1:=Seg.frozen h 1
 have H:=hid h
 have HC:=hid (Ee t p w)
 clear h
 generalize (dJ p.toList t.toList).isSome=r at *
 generalize (dJ p.toList t.toList).getD t.toList=T at *
 go_enter func151,ntmps151
 go_wp2_with fail
 refine HC.out.mono ?_;rintro e w1 ⟨t',rfl,rfl,ht'⟩
 have HT:=hid ht'
 clear ht'
 go_wp2_with fail
 go_ret
 exact⟨t',rfl,(But.refl _ _).setCell _ _,H.out.put t',HT.out⟩
theorem next_any(w:World)(eb:Nat)(la:Option Addr)(ll lc:Nat)(t:ByteArray)(h:Pe w eb (.slice la ll lc) t):
  Calls Tryz.prog 199 #[.pointer (some ⟨eb,0,none⟩)] w fun e w'=>(t.toList=[]∧e=.returned (.tuple #[.int .u8 0,.bool false])∧w'=w)∨∃ (c:UInt8) (t':ByteArray),t.toList=c::t'.toList∧e=.returned (.tuple #[.int .u8 c.toNat,.bool true])∧But eb w w'∧Pe w' eb (.slice la ll lc) t':=by
 have c1:=h.rest
 have hf1:=Seg.frozen h 1
 have H:=hid h
 clear h
 by_cases h0:t.size=0
 ·have hl:t.toList=[]:=by rw[← List.length_eq_zero_iff,aF];exact h0
  have HL:=hid hl
  have hem:t.toList.isEmpty=true:=by rw[hl];rfl
  clear hl
  go_enter func199,ntmps199
  go_wp2_with fail
  go_ret2
  exact Or.inl ⟨HL.out,rfl,rfl⟩
 ·have hlt:0<t.size:=by omega
  have hem:t.toList.isEmpty=false:=by
   cases e:t.toList with
   | nil=>have:=aF t;rw[e] at this;simp at this;omega
   | cons a r=>rfl
  have Xt:=hid (show t.toList=t[0]::(t.extract 1 t.size).toList by
   have h1:=tail_cons t 0 hlt
   rw[QU] at h1
   rw[h1,ext_list]
   unfold EY
   rw[List.take_of_length_le (by rw[List.length_drop,aF];omega)])
  go_enter func199,ntmps199
  go_wp2_with fail
  go_ret2
  exact Or.inr ⟨t[0],t.extract 1 t.size,Xt.out,rfl,(But.refl _ _).setCell _ _,H.out.put _⟩
def hexL:List UInt8:=[48,49,50,51,52,53,54,55,56,57,97,98,99,100,101,102]
theorem QV(c:UInt8):Lib.indexByte hexL c=Eb (c.toNat:Int):=by
 have all:∀ a:Fin 256,Lib.indexByte hexL (UInt8.ofNat a.val)=Eb ((UInt8.ofNat a.val).toNat:Int):=by decide +kernel
 have:=all ⟨c.toNat,c.toNat_lt⟩
 simpa using this
theorem BZ(c:UInt8)(z:Int)(hz:z=(c.toNat:Int))(w:World):
  Calls Tryz.prog 235 #[.string ⟨#[48,49,50,51,52,53,54,55,56,57,97,98,99,100,101,102]⟩,.int .u8 z] w fun e w'=>e=.returned (.int .i64 (Eb (c.toNat:Int)))∧w'=w:=by
 refine(Tryz.y_strings_IndexByte _ z w).mono ?_
 rintro e w1 ⟨rfl,rfl⟩
 refine⟨?_,rfl⟩
 rw[← QV,hz]
 simp[hexL]
def xB(t:List UInt8):Option (Nat × List UInt8):=match t with | []=>none | c::r=>(hexV c).map fun h=>(h,r)
theorem Yt{c:UInt8}{h:Nat}(e:hexV c=some h):h≤15:=by
 have:=UU c
 rw[e] at this
 rcases Me (c.toNat:Int) with k | k
 ·simp only at this;omega
 ·simp only at this;omega
theorem Cb(w:World)(eb:Nat)(la:Option Addr)(ll lc:Nat)(t:ByteArray)(h:Pe w eb (.slice la ll lc) t):
  Calls Tryz.prog 197 #[.pointer (some ⟨eb,0,none⟩)] w fun e w'=>∃ (b:Nat) (ok:Bool) (t':ByteArray),e=.returned (.tuple #[.int .u8 b,.bool ok])∧b≤255∧But eb w w'∧Pe w' eb (.slice la ll lc) t'∧t'.size≤t.size∧(match ok with | true=>xB t.toList=some (b,t'.toList)∧b≤15 | false=>xB t.toList=none):=by
 have H:=hid h
 clear h
 go_enter func197,ntmps197
 go_wp2_with fail
 refine(next_any w eb la ll lc t H.out).mono ?_
 rintro e w1 (⟨hnil,rfl,rfl⟩ | ⟨c,t',htl,rfl,hb1,hp1⟩)
 ·have HN:=hid hnil
  clear hnil
  go_wp2_with fail
  refine(BZ 0 0 rfl _).mono ?_;rintro e w2 ⟨rfl,rfl⟩
  rw[show Eb (((0:UInt8).toNat:Nat):Int) = -1 by decide]
  go_wp2_with fail
  go_ret2
  exact⟨255,false,t,rfl,by omega,But.refl _ _,H.out,Nat.le_refl _,by rw[HN.out];rfl⟩
 ·have Xt:=hid htl
  have jJ:=hid hp1
  have hsz:t'.size≤t.size:=by rw[← aF,← aF,htl];simp
  clear htl hp1
  go_wp2_with fail
  refine(BZ c (c.toNat:Int) rfl _).mono ?_;rintro e w2 ⟨rfl,rfl⟩
  have hx:=UU c
  cases hv:hexV c with
  | none=>
   rw[hv] at hx
   simp only at hx
   rw[← hx]
   have HV:=hid hv
   clear hv hx
   go_wp2_with fail
   go_ret2
   exact⟨255,false,t',rfl,by omega,hb1,jJ.out,hsz,by rw[Xt.out];simp[xB,HV.out]⟩
  | some q=>
   have hq:=Yt hv
   rw[hv] at hx
   simp only at hx
   rw[← hx]
   have HV:=hid hv
   clear hv hx
   go_wp2_with fail
   go_ret2
   exact⟨q,true,t',rfl,by omega,hb1,jJ.out,hsz,by rw[Xt.out];simp[xB,HV.out],hq⟩
def oP(t:List UInt8):Option (UInt8 × List UInt8):=match t with
 | []=>none
 | c::r=>if c=92 then(xB r).bind fun x=>(xB x.2).bind fun y=>if iV (16*x.1+y.1).toUInt8 then none else some ((16*x.1+y.1).toUInt8,y.2)
  else if iV c then some (c,r) else none
def OB(w:World)(eb:Nat)(lv:Value)(t:ByteArray)(e:Ending)(w':World):Prop :=
 ∃ (bv:Value) (ok:Bool) (t':ByteArray),e=.returned (.tuple #[bv,.bool ok])∧But eb w w'∧Pe w' eb lv t'∧t'.size≤t.size∧(match ok with | true=>∃ c:UInt8,bv=.int .u8 c.toNat∧oP t.toList=some (c,t'.toList)∧t'.size<t.size | false=>oP t.toList=none)
theorem JA{a b:ByteArray}(h:a.toList=b.toList):a=b:=by rw[text_eq h,← text_eq (rfl:b.toList=b.toList)]
theorem jL{c:UInt8}{t t1:ByteArray}(h:(dJ [c] t.toList).isSome=true)(h1:t1.toList=(dJ [c] t.toList).getD t.toList):t.toList=c::t1.toList:=by
 cases e:dJ [c] t.toList with
 | none=>rw[e] at h;cases h
 | some r=>
  have:=EU e
  rw[e] at h1
  simp only[Option.getD_some] at h1
  rw[this,h1];rfl
theorem iG{p:List UInt8}{t t1:ByteArray}(h:(dJ p t.toList).isSome=false)(h1:t1.toList=(dJ p t.toList).getD t.toList):t1=t:=by
 rw[lD h] at h1;exact JA h1
theorem JB{c:UInt8}{t:List UInt8}(h:(dJ [c] t).isSome=false)(r:List UInt8):t≠c::r:=by
 intro e;subst e;simp[dJ,List.isPrefixOf] at h
theorem ahZ{a b:Nat}(ha:a≤15)(hb:b≤15):bits BinOp.or IntKind.u8 ((a:Int)*16) (b:Int)=(((16*a+b).toUInt8).toNat:Int):=by
 have all:∀ a b:Fin 16,bits BinOp.or IntKind.u8 ((a.val:Int)*16) (b.val:Int)=(((16*a.val+b.val).toUInt8).toNat:Int):=by decide +kernel
 exact all ⟨a,by omega⟩ ⟨b,by omega⟩
theorem abz:(ByteArray.mk #[92]).toList=[92]:=by rw[ByteArray.toList_eq]
theorem MF(w:World)(eb:Nat)(la:Option Addr)(ll lc:Nat)(t:ByteArray)(h:Pe w eb (.slice la ll lc) t):
  Calls Tryz.prog 152 #[.pointer (some ⟨eb,0,none⟩)] w (OB w eb (.slice la ll lc) t):=by
 unfold OB
 have H:=hid h
 clear h
 go_enter func152,ntmps152
 go_wp2_with fail
 refine(take_any w eb la ll lc t (ByteArray.mk #[92]) H.out).mono ?_;rintro e w1 ⟨t1,rfl,hb1,hp1,ht1⟩
 rw[abz] at ht1 ⊢
 have jJ:=hid hp1
 have HT1:=hid ht1
 clear hp1 ht1
 cases hr:(dJ [92] t.toList).isSome with
 | true=>
  have HR:=hid hr
  clear hr
  go_wp2_with fail
  refine(Cb w1 eb la ll lc t1 jJ.out).mono ?_;rintro e w2 ⟨b2,ok2,t2,rfl,am3,hb2,hp2,hs2,hm2⟩
  have HP2:=hid hp2
  have Ym:=hid hm2
  clear hp2 hm2
  go_wp2_with fail
  refine(Cb w2 eb la ll lc t2 HP2.out).mono ?_;rintro e w3 ⟨b3,ok3,t3,rfl,am4,hb3,hp3,hs3,IV⟩
  have iR:=hid hp3
  have NZ:=hid IV
  clear hp3 IV
  have uN:=hid (jL HR.out HT1.out)
  have hs1:t1.size<t.size:=by rw[← aF,← aF t,uN.out];simp
  have uz:=(hb1.trans hb2).trans hb3
  cases ok2 with
  | false=>
   go_wp2_with fail
   go_ret2
   exact⟨_,false,t3,rfl,uz,iR.out,by omega,by rw[uN.out];simp[oP,show xB t1.toList=none from Ym.out]⟩
  | true=>
   have hd2:xB t1.toList=some (b2,t2.toList)∧b2≤15:=Ym.out
   have HD2:=hid hd2.1
   have ah1:=hd2.2
   clear hd2
   cases ok3 with
   | false=>
    go_wp2_with fail
    go_ret2
    exact⟨_,false,t3,rfl,uz,iR.out,by omega,by rw[uN.out];simp[oP,HD2.out,show xB t2.toList=none from NZ.out]⟩
   | true=>
    have hd3:xB t2.toList=some (b3,t3.toList)∧b3≤15:=NZ.out
    have HD3:=hid hd3.1
    have aeB:=hd3.2
    clear hd3
    go_wp2_with fail
    rw[ahZ ah1 aeB]
    have HLP:=hid (show oP t.toList=if iV (16*b2+b3).toUInt8 then none else some ((16*b2+b3).toUInt8,t3.toList) by rw[uN.out];simp[oP,HD2.out,HD3.out])
    generalize (16*b2+b3).toUInt8=c at *
    refine(nX _ _).mono ?_;rintro e w4 ⟨rfl,rfl⟩
    rw[← BJ]
    cases hp:iV c with
    | true=>
     have QW:=hid hp
     clear hp
     go_wp2_with fail
     go_ret2
     exact⟨_,false,t3,rfl,uz,iR.out,by omega,by show oP t.toList=none;rw[HLP.out,QW.out];rfl⟩
    | false=>
     have QW:=hid hp
     clear hp
     go_wp2_with fail
     go_ret2
     exact⟨_,true,t3,rfl,uz,iR.out,by omega,c,rfl,by rw[HLP.out,QW.out];rfl,by omega⟩
 | false=>
  have HR:=hid hr
  clear hr
  go_wp2_with fail
  refine(next_any w1 eb la ll lc t1 jJ.out).mono ?_
  have hte:t1=t:=iG HR.out HT1.out
  subst hte
  rintro e w2 (⟨hnil,rfl,rfl⟩ | ⟨c,t2,htl,rfl,hb2,hp2⟩)
  ·have HN:=hid hnil
   clear hnil
   go_wp2_with fail
   go_ret2
   exact⟨_,false,t1,rfl,hb1,jJ.out,Nat.le_refl _,by show oP t1.toList=none;rw[HN.out];rfl⟩
  ·have Xt:=hid htl
   have HP2:=hid hp2
   have hs2:t2.size<t1.size:=by rw[← aF,← aF t1,htl];simp
   have HC:=hid (show c≠92 from fun e=>JB HR.out t2.toList (by rw[htl,e]))
   have HLP:=hid (show oP t1.toList=if iV c then some (c,t2.toList) else none by rw[htl];unfold oP;simp only;rw[if_neg HC.out])
   clear htl hp2
   go_wp2_with fail
   refine(nX _ _).mono ?_;rintro e w4 ⟨rfl,rfl⟩
   rw[← BJ]
   cases hp:iV c with
   | true=>
    have QW:=hid hp
    clear hp
    go_wp2_with fail
    go_ret2
    exact⟨_,true,t2,rfl,hb1.trans hb2,HP2.out,by omega,c,rfl,by rw[HLP.out,QW.out];rfl,by omega⟩
   | false=>
    have QW:=hid hp
    clear hp
    go_wp2_with fail
    go_ret2
    exact⟨_,false,t2,rfl,hb1.trans hb2,HP2.out,by omega,by show oP t1.toList=none;rw[HLP.out,QW.out];rfl⟩
def jA(spec:List UInt8→Got)(w:World)(eb:Nat)(lv:Value)(t:ByteArray)(e:Ending)(w':World):Prop :=
 ∃ (a:Option Addr) (c:Nat) (out:List UInt8) (t':ByteArray) (ok:Bool),e=.returned (.tuple #[.slice a out.length c,.bool ok])∧gZ w' w.heap.size (.slice a out.length c) out∧But eb w w'∧Pe w' eb lv t'∧t'.size≤t.size∧out.length≤2*(t.size-t'.size) ∧
  spec t.toList=(match ok with | true=>some (out,t'.toList) | false=>none)
theorem Pe.grew{w wx w':World}{eb:Nat}{lv:Value}{t:ByteArray}{lo:Nat}{v v':Value}{L:List UInt8}(h:Pe w eb lv t)(hb:Below w.heap.size w wx)(hB:gZ w lo v L)(hg:Grew wx w' v v'):Pe w' eb lv t :=
 h.same ((hg.g.block eb (Nat.lt_of_lt_of_le h.lt hb.size) (fun e=>dM hB h (by decide) e.symm rfl)).trans (hb.block eb h.lt))
theorem Ef{t:List UInt8}(h:∀ r,t≠34::r):dQ t=(oP t).bind fun x=>(dQ x.2).map fun z=>(x.1::z.1,z.2):=by
 match t,h with
 | [],_=>rw[GR];rfl
 | c::r,h=>
  have h34:c≠34:=fun e=>h r (by rw[e])
  by_cases h92:c=92
  ·subst h92
   match r with
   | []=>rw[rQ _ (by simp)];rfl
   | [a]=>
    rw[rQ _ (by simp)]
    cases hv:hexV a<;>simp[oP,xB,hv]
   | a::b::r'=>
    rw[GX]
    cases ha:hexV a with
    | none=>simp[oP,xB,ha]
    | some x=>
     cases hb:hexV b with
     | none=>simp[oP,xB,ha,hb]
     | some y=>
      simp only[oP,xB,ha,hb,↓reduceIte,Option.map_some,Option.bind_some]
      generalize (16*x+y).toUInt8=z
      cases iV z<;>simp
  ·cases hp:iV c with
   | true=>rw[BK _ hp];simp[oP,h92,hp]
   | false=>rw[GV _ hp h34 h92];simp[oP,h92,hp]
theorem JC(w:World)(eb:Nat)(la:Option Addr)(ll lc:Nat)(t:ByteArray)(h:Pe w eb (.slice la ll lc) t)(hs:t.size≤400):
  Calls Tryz.prog 103 #[.pointer (some ⟨eb,0,none⟩)] w (jA BG w eb (.slice la ll lc) t):=by
 unfold jA
 have H:=hid h
 clear h
 go_enter func103,ntmps103
 go_wp2_with fail
 refine(take_any w eb la ll lc t (ByteArray.mk #[34]) H.out).mono ?_;rintro e w1 ⟨t1,rfl,hb1,hp1,ht1⟩
 rw[UW] at ht1 ⊢
 have jJ:=hid hp1
 have HT1:=hid ht1
 clear hp1 ht1
 cases hr:(dJ [34] t.toList).isSome with
 | false=>
  have HR:=hid hr
  clear hr
  have hte:t1=t:=iG HR.out HT1.out
  subst hte
  go_wp2_with fail
  go_ret2
  exact⟨none,0,[],t1,false,rfl,World.ownsRow_nil _ _ _ _,hb1,jJ.out,Nat.le_refl _,by simp,by unfold BG;rw[lD HR.out];rfl⟩
 | true=>
  have HR:=hid hr
  clear hr
  have uN:=hid (jL HR.out HT1.out)
  have hs1:t1.size<t.size:=by rw[← aF,← aF t,uN.out];simp
  have HG:=hid (show BG t.toList=dQ t1.toList by unfold BG;rw[uN.out];rfl)
  have hz1:=hb1.size
  go_wp2_with fail
  go_loopg [4,5,6] (t1.size+1) (fun gk d4 b5 o6 wr=>∃ (out:List UInt8) (tr:ByteArray),tr.size<gk∧tr.size≤t1.size∧out.length+tr.size≤t1.size∧Hid (Pe wr eb (.slice la ll lc) tr)∧Hid (gZ wr w.heap.size d4 out)∧But eb w wr∧Hid (BG t.toList=(dQ tr.toList).map fun z=>(out++z.1,z.2)))
  case atStart=>exact⟨[],t1,by omega,Nat.le_refl _,by simp,hid jJ.out,hid (World.ownsRow_nil _ _ _ _),hb1,hid (by rw[HG.out];simp)⟩
  case round=>
   obtain⟨out,tr,hm,hle,hol,HP,HB,uz,HS⟩:=hrel
   obtain⟨oa,oc,hov⟩:∃ a c,u4=.slice a out.length c:=ay HB.out
   subst hov
   go_wp2_with fail
   refine(take_any _ eb la ll lc tr (ByteArray.mk #[34]) HP.out).mono ?_;rintro e w2 ⟨t2,rfl,hb2,hp2,ht2⟩
   rw[UW] at ht2 ⊢
   have HP2:=hid hp2
   have HT2:=hid ht2
   have HB2:=hid (HB.out.but (show Seg _ _ _ _ _ from HP.out) (by decide) hb2)
   have jk:=uz.trans hb2
   clear hp2 ht2
   cases hr2:(dJ [34] tr.toList).isSome with
   | true=>
    have JD:=hid (jL hr2 HT2.out)
    have hs2:t2.size<tr.size:=by rw[← aF,← aF tr,JD.out];simp
    clear hr2
    go_wp2_with fail
    go_ret2
    exact⟨oa,oc,out,t2,true,rfl,HB2.out,jk,HP2.out,by omega,by omega,by rw[HS.out,JD.out,GU];simp⟩
   | false=>
    have hte:t2=tr:=iG hr2 HT2.out
    subst hte
    have HST:=hid (Ef (JB hr2))
    clear hr2
    go_wp2_with fail
    refine(MF _ eb la ll lc t2 HP2.out).mono ?_;rintro e w3 ⟨bv,ok3,t3,rfl,hb3,hp3,hs3,IV⟩
    have iR:=hid hp3
    have NZ:=hid IV
    have HB3:=hid (HB2.out.but (show Seg _ _ _ _ _ from HP2.out) (by decide) hb3)
    have zC:=jk.trans hb3
    clear hp3 IV
    cases ok3 with
    | false=>
     go_wp2_with fail
     go_ret2
     exact⟨none,0,[],t3,false,rfl,World.ownsRow_nil _ _ _ _,zC,iR.out,by omega,by simp,by rw[HS.out,HST.out,show oP t2.toList=none from NZ.out];rfl⟩
    | true=>
     obtain⟨c,rfl,hlp,hlt⟩:∃ c:UInt8,bv=.int .u8 c.toNat∧oP t2.toList=some (c,t3.toList)∧t3.size<t2.size:=NZ.out
     have HLP:=hid hlp
     clear hlp NZ
     have hz3:=zC.size
     go_wp2_with (at_builtin;refine fB _ rfl _ _ rfl _ out w.heap.size rfl (HB3.out.same ((Below.refl _ _).alloc (Nat.le_refl _) _)) _ [c] _ rfl (sS _ _ _ rfl) (by simp;omega) (by simp;omega) ?_)
     intro a4 c4 w4 hb4 hg4
     have JE:=hid (iR.out.grew ((Below.refl _ _).alloc (Nat.le_refl _) _) HB3.out hg4)
     have oQ:=zC.grew ((Below.refl _ _).alloc (Nat.le_refl _) _) HB3.out hg4
     have HB4:=hid hb4
     clear hb4 hg4
     go_wp2_with fail
     go_roundg (gk-1)
     case rel=>exact⟨out++[c],t3,by omega,by omega,by rw[List.length_append,List.length_singleton];omega,hid JE.out,hid (by simpa using HB4.out),oQ,hid (by rw[HS.out,HST.out,HLP.out];simp[Option.map_map,Function.comp_def])⟩
     case measure=>omega
theorem G6(s cut:ByteArray)(w:World)(hcs:cut.size<4294967281)(hascii:∀ (j:Nat) b,cut.data.toList[j]? = some b→b.toNat<128):
  Calls Tryz.prog 193 #[.string s,.string cut] w fun e w'=>e=.returned (.string ⟨(Lib.trimLeftS s.data.toList cut.data.toList).toArray⟩)∧Below w.heap.size w w' :=
 Any.strings_TrimLeft_laid Tryz.z_lays161 (by kernel_rfl) s cut w hcs hascii
theorem uO{p:UInt8→Bool}(l:List UInt8):(l.dropWhile p).length=l.length-(l.takeWhile p).length:=by
 have:=congrArg List.length (List.takeWhile_append_dropWhile (p:=p) (l:=l))
 rw[List.length_append] at this;omega
theorem JF(w:World)(eb:Nat)(la:Option Addr)(ll lc:Nat)(t cut:ByteArray)(p:UInt8→Bool)(h:Pe w eb (.slice la ll lc) t)(hs:t.size≤400)(hcs:cut.size<4294967281)(hascii:∀ (j:Nat) b,cut.data.toList[j]? = some b→b.toNat<128)(hp:∀ c,cut.data.toList.contains c=p c):
  Calls Tryz.prog 147 #[.pointer (some ⟨eb,0,none⟩),.string cut] w fun e w'=>∃ r t':ByteArray,e=.returned (.string r)∧But eb w w'∧Pe w' eb (.slice la ll lc) t'∧r.toList=t.toList.takeWhile p∧t'.toList=t.toList.dropWhile p:=by
 have c1:=h.rest
 have hf1:=Seg.frozen h 1
 have hel:=h.lt
 have H:=hid h
 clear h
 obtain⟨k,hk⟩:∃ k,(t.toList.takeWhile p).length=k:=⟨_,rfl⟩
 have hkt:k≤t.size:=by rw[← hk,← aF];exact(List.takeWhile_sublist (p:=p)).length_le
 have HTW:=hid (show (t.extract 0 k).toList=t.toList.takeWhile p by rw[ext_list,← hk];simpa using(takeWhile_take (p:=p) t.toList).1)
 have HDW:=hid (show (t.extract k t.size).toList=t.toList.dropWhile p by rw[ext_list,← hk,(takeWhile_take (p:=p) t.toList).2,List.take_of_length_le (by rw[uO,aF];omega)])
 obtain⟨m,hm⟩:∃ m,t.size-k=m:=⟨_,rfl⟩
 have HTM:=hid (show ∀ w',Below w.heap.size w w'→Calls Tryz.prog 193 #[.string t,.string cut] w' (fun e w''=>∃ u:ByteArray,e=.returned (.string u)∧u.size=m∧Below w.heap.size w w'') from fun w' hw'=>(G6 t cut w' hcs hascii).mono (fun e w'' hh=>⟨_,hh.1,by
  have hpp:(cut.data.toList.contains ·)=p:=funext hp
  show (Lib.trimLeftS t.data.toList cut.data.toList).toArray.size=_
  unfold Lib.trimLeftS
  rw[List.size_toArray,hpp,← ByteArray.toList_eq,uO,aF,hk,hm],hw'.trans (hh.2.mono hw'.size)⟩))
 have HKP:=hid (show ∀ w',Below w.heap.size w w'→w'.cell? ⟨eb,1,none⟩=some (.string t) from fun w' hw'=>(World.cell?_of_block (w:=w) (hw'.block eb hel)).trans c1)
 have hx1:(t.size:Int)-(m:Int)=(k:Int):=by omega
 have hx3:(0:Int)≤(k:Int):=by omega
 have hx4:(k:Int)≤(t.size:Int):=by omega
 have hx5:k≤400:=by omega
 have hw1:IntKind.i64.wrap (k:Int)=(k:Int):=by rw[IntKind.wrap_i64];omega
 have hw2:IntKind.i64.wrap ((t.size:Int)-(m:Int))=(k:Int):=by rw[IntKind.wrap_i64];omega
 clear hk hp hascii hcs hm
 go_enter func147,ntmps147
 go_wp2_with fail
 go_region_held3 (fun w'=>w'.cell? ⟨eb,1,none⟩=some (.string t))
  (exact HKP.out _ (by repeat (first | with_reducible assumption | with_reducible exact Below.refl _ _ | with_reducible apply Below.drew)))
  (first | (go_at_call 193;refine(HTM.out _ (by repeat (first | with_reducible assumption | with_reducible exact Below.refl _ _ | with_reducible apply Below.drew))).mono ?_;rintro e w1 ⟨u,rfl,hu,hb1⟩;have hw3:IntKind.i64.wrap ((t.size:Int)-(u.size:Int))=(k:Int):=(by rw[hu];exact hw2)))
 have jJ:=hid (H.out.same (hb1.block eb hel))
 have f1:=jJ.out.rest
 have ff1:=Seg.frozen jJ.out 1
 have hex:(t.extract 0 k).size=k:=by rw[ByteArray.size_extract];omega
 generalize t.extract 0 k=r at HTW hex ⊢
 clear c1 hf1
 go_wp2_with fail
 go_ret
 exact⟨r,t.extract k t.size,rfl,(But.bG hb1).setCell _ _,jJ.out.put _,HTW.out,HDW.out⟩
def Yu:ByteArray:=⟨#[45,48,49,50,51,52,53,54,55,56,57]⟩
def OC:ByteArray:=⟨#[97,98,99,100,101,102,103,104,105,106,107,108,109,110,111,112,113,114,115,116,117,118,119,120,121,122,48,49,50,51,52,53,54,55,56,57]⟩
theorem Ve(c:UInt8):Yu.data.toList.contains c=ng c:=by
 have all:∀ a:Fin 256,Yu.data.toList.contains (UInt8.ofNat a.val)=ng (UInt8.ofNat a.val):=by decide +kernel
 have:=all ⟨c.toNat,c.toNat_lt⟩
 simpa using this
theorem QX(c:UInt8):OC.data.toList.contains c=gu c:=by
 have all:∀ a:Fin 256,OC.data.toList.contains (UInt8.ofNat a.val)=gu (UInt8.ofNat a.val):=by decide +kernel
 have:=all ⟨c.toNat,c.toNat_lt⟩
 simpa using this
theorem MH(w:World)(eb:Nat)(la:Option Addr)(ll lc:Nat)(t:ByteArray)(h:Pe w eb (.slice la ll lc) t)(hs:t.size≤400):
  Calls Tryz.prog 147 #[.pointer (some ⟨eb,0,none⟩),.string Yu] w fun e w'=>∃ r t':ByteArray,e=.returned (.string r)∧But eb w w'∧Pe w' eb (.slice la ll lc) t'∧r.toList=t.toList.takeWhile ng∧t'.toList=t.toList.dropWhile ng :=
 JF w eb la ll lc t Yu ng h hs (by decide) (ascii_of_all (by decide)) Ve
theorem JG(w:World)(eb:Nat)(la:Option Addr)(ll lc:Nat)(t:ByteArray)(h:Pe w eb (.slice la ll lc) t)(hs:t.size≤400):
  Calls Tryz.prog 147 #[.pointer (some ⟨eb,0,none⟩),.string OC] w fun e w'=>∃ r t':ByteArray,e=.returned (.string r)∧But eb w w'∧Pe w' eb (.slice la ll lc) t'∧r.toList=t.toList.takeWhile gu∧t'.toList=t.toList.dropWhile gu :=
 JF w eb la ll lc t OC gu h hs (by decide) (ascii_of_all (by decide)) QX
theorem JH(x:ByteArray):∀ (zs:List ByteArray) (i:Nat),Lib.idxFromS zs x i=match (zs.map ByteArray.toList).findIdx? (fun n=>n==x.toList) with | some j=>((i+j:Nat):Int) | none=>-1
 | [],i=>by simp[Lib.idxFromS]
 | z::zs,i=>by
  unfold Lib.idxFromS
  rw[List.map_cons,List.findIdx?_cons]
  by_cases h:z=x
  ·subst h;simp
  ·have h':(z.toList==x.toList)=false:=by
    cases e:(z.toList==x.toList) with
    | false=>rfl
    | true=>exact absurd (JA (by simpa using e)) h
   rw[h']
   have:=JH x zs (i+1)
   simp only[Bool.false_eq_true,if_false]
   rw[if_neg (by first | exact h | (intro e;exact h e.symm) | simpa using h),this]
   cases (zs.map ByteArray.toList).findIdx? (fun n=>n==x.toList) with
   | none=>rfl
   | some j=>simp only[Option.map_some];congr 1;omega
theorem Vf(w:World)(lo:Nat)(na:Option Addr)(nc:Nat)(names:List ByteArray)(r:ByteArray)(h:w.ownsRow lo 9 1 (.slice na names.length nc) names.length (names.map jd))(hnl:names.length≤400):
  Calls Tryz.prog 150 #[.slice na names.length nc,.string r] w fun e w'=>e=.returned (.int .i64 (Lib.idxFromS names r 0))∧w'=w:=by
 by_cases h0:0<names.length
 ·obtain⟨g,cap,hv,_,_⟩:=iJ h h0
  obtain⟨rfl,rfl⟩:na=some ⟨g,0,none⟩∧nc=cap:=by simpa using hv
  refine(Tryz.y_slices_Index_string g 0 names.length nc names r w (Nat.le_refl _) (by omega) (fun j hj=>?_)).mono (fun e w' hh=>⟨by rw[hh.1,List.take_length];rfl,hh.2⟩)
  have:=h.cellAt j (by omega)
  rw[List.getElem?_map,List.getElem?_eq_getElem hj] at this
  rw[Nat.zero_add,List.getD_eq_getElem?_getD,List.getElem?_eq_getElem hj]
  exact this
 ·have:names=[]:=List.eq_nil_of_length_eq_zero (by omega)
  subst this
  exact Tryz.y_slices_Index_string_empty na nc r w
theorem Cc(w:World)(eb lo:Nat)(la:Option Addr)(ll lc:Nat)(t:ByteArray)(nv:Value)(names:List ByteArray)(h:Pe w eb (.slice la ll lc) t)(hs:t.size≤400)(hn:w.ownsRow lo 9 1 nv names.length (names.map jd))(hnl:names.length≤400)(hne:∀ n∈names,1≤n.size):
  Calls Tryz.prog 102 #[.pointer (some ⟨eb,0,none⟩),nv] w (jA (Js gu (names.map ByteArray.toList)) w eb (.slice la ll lc) t):=by
 unfold jA
 obtain⟨na,nc,yx⟩:∃ a c,nv=.slice a names.length c:=ay hn
 subst yx
 have H:=hid h
 have HN:=hid hn
 have HNE:=hid hne
 clear h hn hne
 go_enter func102,ntmps102
 go_wp2_with fail
 refine(JG w eb la ll lc t H.out hs).mono ?_;rintro e w1 ⟨r,t1,rfl,hb1,hp1,hr1,ht1⟩
 have jJ:=hid hp1
 have HR1:=hid hr1
 have HT1:=hid ht1
 have Tv:=hid (aC HN.out (fun g hg=>hb1.block g (HN.out.lt g hg).2 (dM HN.out H.out (by decide) hg)))
 have hsz:r.size+t1.size=t.size:=by
  rw[← aF,← aF t1,← aF t,hr1,ht1,← List.length_append,List.takeWhile_append_dropWhile]
 have hz1:=hb1.size
 clear hp1 hr1 ht1
 go_wp2_with fail
 refine(Vf w1 lo na nc names r Tv.out hnl).mono ?_;rintro e w2 ⟨rfl,rfl⟩
 rw[JH]
 have HCH:=hid (show Js gu (names.map ByteArray.toList) t.toList=((names.map ByteArray.toList).findIdx? (fun n=>n==r.toList)).map fun i=>(fZ i,t1.toList) by unfold Js;rw[HR1.out,HT1.out])
 cases hf:(names.map ByteArray.toList).findIdx? (fun n=>n==r.toList) with
 | none=>
  have HF:=hid hf
  clear hf
  simp only
  go_wp2_with fail
  go_ret2
  exact⟨none,0,[],t1,false,rfl,World.ownsRow_nil _ _ _ _,hb1,jJ.out,by omega,by simp,by rw[HCH.out,HF.out];rfl⟩
 | some j=>
  have HF:=hid hf
  have hj:j<names.length:=by
   have:=(List.findIdx?_eq_some_iff_getElem.1 hf).1
   rw[List.length_map] at this;exact this
  have hrs:1≤r.size:=by
   obtain⟨h1,h2,_⟩:=List.findIdx?_eq_some_iff_getElem.1 hf
   rw[List.getElem_map] at h2
   have h3:(names[j]'hj).toList=r.toList:=by simpa using h2
   rw[← aF,← h3,aF]
   exact HNE.out _ (List.getElem_mem hj)
  clear hf
  simp only[Nat.zero_add]
  go_wp2_with fail
  refine(iL w2 w.heap.size (.slice none 0 0) [] j (World.ownsRow_nil _ _ _ _) (by omega) (by simp) hz1).mono ?_;rintro e w5 ⟨a5,c5,rfl,hb5,hg5⟩
  have aeC:Below w2.heap.size w2 w5:=hg5.below (fun k hk=>by cases hk) (Nat.le_refl _)
  rw[List.nil_append] at hb5 ⊢
  have E5:=hid hb5
  have hvl:(fZ j).length≤2:=rP 1 j (by have:(128:Nat) ^ (1+1)=16384:=(by decide);omega)
  clear hb5 hg5
  go_wp2_with fail
  go_ret2
  exact⟨a5,c5,fZ j,t1,true,rfl,E5.out,hb1.trans (But.bG aeC),jJ.out.same (aeC.block eb jJ.out.lt),by omega,by omega,by rw[HCH.out,HF.out];rfl⟩
theorem aaz(b:Nat)(h:b<18446744073709551616):18446744073709551615 ^^^ b=18446744073709551615-b:=by
 have h1:=BitVec.toNat_xor (BitVec.allOnes 64) (BitVec.ofNat 64 b)
 rw[BitVec.allOnes_xor,BitVec.toNat_not,BitVec.toNat_allOnes,BitVec.toNat_ofNat,Nat.mod_eq_of_lt (show b<2 ^ 64 by omega)] at h1
 exact h1.symm
theorem Yv{n:Int}(h:n<0)(h1:-9223372036854775808≤n):bits BinOp.xor IntKind.u64 IntKind.u64.max (IntKind.u64.wrap (IntKind.u64.wrap n*2))=(rM n:Int):=by
 obtain⟨b,hb⟩:∃ b:Nat,IntKind.u64.wrap (IntKind.u64.wrap n*2)=(b:Int)∧(b:Int)=2*n+18446744073709551616:=⟨(2*n+18446744073709551616).toNat,by rw[IntKind.wrap_u64,IntKind.wrap_u64];omega,by omega⟩
 rw[hb.1,show IntKind.u64.max=((18446744073709551615:Nat):Int) by decide,bits_xor_u64_nat _ _ (by omega) (by omega),aaz b (by omega)]
 unfold rM;rw[if_pos h];omega
def QY(l:List UInt8):Option Int:=match Lib.parseIntB 64 l with | .ok v=>some v | _=>none
theorem G7(s:ByteArray)(w:World)(hs:s.size≤400)(hE:Env w):
  Calls Tryz.prog 148 #[.string s,.int .i64 10,.int .i64 64] w fun e w'=>Below w.heap.size w w'∧((∃ v,QY s.toList=some v∧e=.returned (.tuple #[.int .i64 v,.nilIface]))∨(QY s.toList=none∧∃ (v:Int) (N:Nat) (T:TypeId),e=.returned (.tuple #[.int .i64 v,.iface T (.pointer (some ⟨N,0,none⟩))]))):=by
 obtain⟨te,pe,hsx⟩:=hE.v.sx
 obtain⟨te2,pe2,hrg⟩:=hE.v.rg
 unfold QY
 rw[ByteArray.toList_eq]
 cases h:Lib.parseIntB 64 s.data.toList with
 | ok v=>
  refine(Tryz.y_strconv_ParseInt_10_at64_ok s (by omega) v h w).mono ?_
  rintro e w1 ⟨rfl,hw1⟩
  refine⟨?_,Or.inl ⟨v,rfl,rfl⟩⟩
  rcases hw1 with rfl | ⟨t,rfl⟩
  ·exact Below.refl _ _
  ·exact Joins.below_bytesWorld _ _ _ _ (Nat.le_refl _)
 | range=>
  refine(Tryz.y_strconv_ParseInt_10_at64_range s (by omega) h _ w hrg (Or.inr ⟨te2,pe2,rfl⟩)).mono ?_
  rintro e w1 ⟨N,rfl,_,_,hb⟩
  exact⟨hb,Or.inr ⟨rfl,_,N,_,rfl⟩⟩
 | _=>
  refine(Tryz.y_strconv_ParseInt_10_at64_no s (by omega) ⟨fun v hh => (by rw [h] at hh; cases hh),fun hh => (by rw [h] at hh; cases hh)⟩ _ w hsx (Or.inr ⟨te,pe,rfl⟩)).mono ?_
  rintro e w1 ⟨N,rfl,_,_,hb⟩
  exact⟨hb,Or.inr ⟨rfl,_,N,_,rfl⟩⟩
theorem G8(w:World)(eb:Nat)(la:Option Addr)(ll lc:Nat)(t:ByteArray)(h:Pe w eb (.slice la ll lc) t)(hs:t.size≤400)(hE:Env w)(hO:Own eb):
  Calls Tryz.prog 101 #[.pointer (some ⟨eb,0,none⟩)] w (jA (QD ng) w eb (.slice la ll lc) t):=by
 unfold jA
 have H:=hid h
 have HE:=hid hE
 clear h hE
 go_enter func101,ntmps101
 go_wp2_with fail
 refine(MH w eb la ll lc t H.out hs).mono ?_;rintro e w1 ⟨r,t1,rfl,hb1,hp1,hr1,ht1⟩
 have jJ:=hid hp1
 have uG:=hid (show QD ng t.toList=(intOf r.toList).map fun n=>(fZ (rM n),t1.toList) by unfold QD;rw[hr1,ht1])
 have hsz:r.size+t1.size=t.size:=by
  rw[← aF,← aF t1,← aF t,hr1,ht1,← List.length_append,List.takeWhile_append_dropWhile]
 have EI:=hid (HE.out.but hb1 hO)
 clear hp1 hr1 ht1
 go_wp2_with fail
 refine(G7 r w1 (by omega) EI.out).mono ?_
 rintro e w2 ⟨hb2,⟨n,hok,rfl⟩ | ⟨hno,v,N,T,rfl⟩⟩
 ·have HOK:=hid hok
  have zT:=hb1.trans (But.bG hb2)
  have HP2:=hid (jJ.out.same (hb2.block eb jJ.out.lt))
  have HE2:=hid (EI.out.below hb2)
  clear hok
  have hz2:=zT.size
  have hin:In64 n:=UZ (t:=r.toList) (by
   have:=HOK.out
   unfold QY at this
   cases h:Lib.parseIntB 64 r.toList with
   | ok v=>rw[h] at this;simp only[Option.some.injEq] at this;rw[this]
   | range=>rw[h] at this;cases this
   | _=>rw[h] at this;cases this)
  obtain⟨hi1,hi2⟩:=hin
  go_wp2_with fail
  refine(Tryz.y_strconv_FormatInt_10 n hi1 hi2 _ HE2.out.t).mono ?_;rintro e w3 ⟨rfl,kk,os,hw3⟩
  have hbw3:Below w2.heap.size w2 w3:=by rw[hw3];exact below_grow _ _ _
  have iR:=hid (HP2.out.same (hbw3.block eb HP2.out.lt))
  have hb3:=zT.trans (But.bG hbw3)
  have hz3:=hb3.size
  clear hw3 hbw3
  have hfl:(ByteArray.mk (Lib.itoa n).toArray).toList=Lib.itoa n:=by rw[ByteArray.toList_eq]
  generalize ByteArray.mk (Lib.itoa n).toArray=fb at *
  have HIO:=hid (show intOf r.toList=if Lib.itoa n=r.toList then some n else none from by
   have:=HOK.out
   unfold QY at this
   unfold intOf
   cases h:Lib.parseIntB 64 r.toList with
   | ok v=>rw[h] at this;simp only[Option.some.injEq] at this;rw[this]
   | range=>rw[h] at this;cases this
   | _=>rw[h] at this;cases this)
  rw[← hfl] at HIO
  cases heq:(fb.toList==r.toList) with
  | false=>
   have HS:=hid (show intOf r.toList=none by rw[HIO.out,if_neg (by simpa using heq)])
   have hne:(fb.toList != r.toList)=true:=by simpa using heq
   clear hfl
   go_wp2_with fail
   go_ret2
   exact⟨none,0,[],t1,false,rfl,World.ownsRow_nil _ _ _ _,hb3,iR.out,by omega,by simp,by rw[uG.out,HS.out];rfl⟩
  | true=>
   have HS:=hid (show intOf r.toList=some n by rw[HIO.out,if_pos (by simpa using heq)])
   have hne:(fb.toList != r.toList)=false:=by simp at heq ⊢;exact heq
   have HSN:=hid (show QD ng t.toList=some (fZ (rM n),t1.toList) by rw[uG.out,HS.out];rfl)
   have hlw:=U9 (n:=n) hi1 hi2
   rw[LZ HS.out,aF] at hlw
   clear hfl
   by_cases hn:n<0
   ·go_wp2_with fail
    rw[Yv hn hi1]
    have abB:rM n<18446744073709551616:=by unfold rM;split<;>omega
    refine(iL _ w.heap.size _ [] (rM n) (World.ownsRow_nil _ _ _ _) abB (by simp) hz3).mono ?_;rintro e w4 ⟨a4,c4,rfl,hb4,hg4⟩
    have Vg:Below w3.heap.size w3 w4:=hg4.below (fun k hk=>by cases hk) (Nat.le_refl _)
    rw[List.nil_append] at hb4 ⊢
    have HB4:=hid hb4
    clear hb4 hg4
    generalize fZ (rM n)=out at *
    go_wp2_with fail
    go_ret2
    exact⟨a4,c4,out,t1,true,rfl,HB4.out,hb3.trans (But.bG Vg),iR.out.same (Vg.block eb iR.out.lt),by omega,by omega,HSN.out⟩
   ·go_wp2_with fail
    rw[show n*2=(rM n:Int) by unfold rM;rw[if_neg (by omega)];omega]
    have abB:rM n<18446744073709551616:=by unfold rM;split<;>omega
    refine(iL _ w.heap.size _ [] (rM n) (World.ownsRow_nil _ _ _ _) abB (by simp) hz3).mono ?_;rintro e w4 ⟨a4,c4,rfl,hb4,hg4⟩
    have Vg:Below w3.heap.size w3 w4:=hg4.below (fun k hk=>by cases hk) (Nat.le_refl _)
    rw[List.nil_append] at hb4 ⊢
    have HB4:=hid hb4
    clear hb4 hg4
    generalize fZ (rM n)=out at *
    go_wp2_with fail
    go_ret2
    exact⟨a4,c4,out,t1,true,rfl,HB4.out,hb3.trans (But.bG Vg),iR.out.same (Vg.block eb iR.out.lt),by omega,by omega,HSN.out⟩
 ·have Vh:=hid (show intOf r.toList=none from by
   unfold QY at hno;unfold intOf
   cases h:Lib.parseIntB 64 r.toList with
   | ok v=>rw[h] at hno;cases hno
   | range=>rfl
   | _=>rfl)
  clear hno
  go_wp2_with fail
  go_ret2
  exact⟨none,0,[],t1,false,rfl,World.ownsRow_nil _ _ _ _,hb1.trans (But.bG hb2),jJ.out.same (hb2.block eb jJ.out.lt),by omega,by simp,by rw[uG.out,Vh.out];rfl⟩
end Go.Proofs.YtolfcabodiphmaaGreatDoor
