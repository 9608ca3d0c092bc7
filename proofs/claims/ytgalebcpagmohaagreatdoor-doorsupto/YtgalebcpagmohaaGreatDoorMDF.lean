/- strconv.FormatUint at base 10. -/
import Derived.Test.YtgalebcpagmohaaGreatDoorMFrA
import Derived.Test.YtgalebcpagmohaaGreatDoorShelf5
import Derived.Lib.AppendIntMem
import Derived.Lib.Walk
import Derived.WalkKit
import Derived.Lib.ItoaNum
import Derived.Test.YtgalebcpagmohaaGreatDoorMPEncA
import Derived.Test.YtgalebcpagmohaaGreatDoorShelf4
set_option linter.unusedSimpArgs false
set_option linter.unusedVariables false
set_option maxHeartbeats 6400000
set_option maxRecDepth 100000
namespace Go.Proofs.YtgalebcpagmohaaGreatDoor
open Go.Proofs.Tryz
open Go.RowKit Go.Lib Go.Sort
theorem MQ (w:World) (k:Nat) (os:Array Obj):Below w.heap.size w (Sort.grow (w.drewN k) os) :=
 ⟨rfl,rfl,rfl,by simp[Sort.grow],fun g hg=>heap_grow_old w k os g hg⟩
theorem Bz (u:Nat) (hu64:u<18446744073709551616) (w:World) (htab:Lib.TabIs Tryz.prog w "internal/strconv.uint64pow10" .u64 Lib.pow10Tab) :
  Calls Tryz.prog 271 #[.int .u64 u,.int .i64 10] w fun e w'=>e=.returned (.string ⟨(Lib.decDigits u).toArray⟩)∧Below w.heap.size w w':=by
 by_cases hs:u<100
 ·have hw:IntKind.i64.wrap (u:Int)=u:=by rw[IntKind.wrap_i64];omega
  have hsI:decide ((u:Int)<100)=true:=by simp;omega
  go_enter func271,ntmps271
  go_wp2_with fail
  refine(Tryz.u_internal_strconv_small u hs _).mono ?_;rintro e w1 ⟨rfl,rfl⟩
  go_wp2_with fail
  go_ret
  exact⟨rfl,Below.refl _ _⟩
 ·have hu1:1≤u:=by omega
  have hsI:decide ((u:Int)<100)=false:=by simp;omega
  have hnd20:Lib.nDigits u≤20:=by have:=Lib.numDigits_eq u hu1 hu64;split at this<;>omega
  have hb3:Lib.nDigits u≤24:=by omega
  have hal:Tryz.prog.arrayLen 323 = 24:=by simp[Program.arrayLen,underlying323]
  have hsl:∀ W,(Instr.sliceAt 323 (.pointer (some ⟨w.heap.size,0,none⟩)) none (some (.int .i64 (Lib.nDigits u:Int))) none).run Tryz.prog W=.ok (.slice (some ⟨w.heap.size,0,none⟩) (Lib.nDigits u) 24) W:=fun W=>by
   rw[run_sliceAt_array_h W 323 ⟨w.heap.size,0,none⟩ (by simp[Program.arrayLen,Program.elem,underlying323]) .i64 (Lib.nDigits u:Int) (by omega) (by rw[hal];omega),hal]
   go_simp
  have hH0:=Lib.holds_zero0 w 323 (Lib.nDigits u) (by omega)
  have hfmt:=Tryz.u_internal_strconv_formatBase10 w.heap.size 0 24 u (Array.replicate (Lib.nDigits u) 0) (w.alloc (.cells Lib.zeros24 323)) hH0 (by rw[Array.size_replicate];exact Lib.lt_pow_nDigits u) hu64 (by rw[Array.size_replicate];omega)
  rw[Array.size_replicate] at hfmt
  have HH0:=hid hH0
  clear hH0 hal
  go_enter func271,ntmps271
  go_wp2_with fail
  refine(Tryz.u_internal_strconv_numDigits u hu1 hu64 _ (Lib.tabIs_alloc htab _)).mono ?_;rintro e w' ⟨rfl,rfl⟩
  go_wp2_with fail
  refine hfmt.mono ?_
  rintro e w' ⟨rfl,k,v',dk,rfl,hF⟩
  have hcv:(convert 97 9 (.slice (some ⟨w.heap.size,0,none⟩) (Lib.nDigits u) 24)).run Tryz.prog ((putRow (fun(b:UInt8)=>Value.int .u8 (b.toNat:Int)) (w.alloc (.cells Lib.zeros24 323)) w.heap.size 0 dk).drewN k)=.ok (.string ⟨(Lib.decDigits u).toArray⟩) ((putRow (fun(b:UInt8)=>Value.int .u8 (b.toNat:Int)) (w.alloc (.cells Lib.zeros24 323)) w.heap.size 0 dk).drewN k):=by
   have h:=run_convert_bytes_back (P:=Tryz.prog) ((putRow (fun(b:UInt8)=>Value.int .u8 (b.toNat:Int)) (w.alloc (.cells Lib.zeros24 323)) w.heap.size 0 dk).drewN k) 97 9 5 ⟨w.heap.size,0,none⟩ 24 (Lib.decDigits u) underlying97 underlying5 underlying9 (fun j hj=>by
    rw[Lib.row_is_numeral hF j hj,Lib.add_plain,World.cell?_drewN]
    exact cell?_putRow (fun(b:UInt8)=>Value.int .u8 (b.toNat:Int)) _ w.heap.size 0 _ dk HH0.out (by rw[hF.size,Array.size_replicate]) j (by rw[hF.size];rw[Lib.decDigits_length] at hj;exact hj))
   rw[Lib.decDigits_length] at h
   exact h
  go_wp2_with fail
  go_ret
  obtain⟨os,eo⟩:=Lib.fin_at w (.cells Lib.zeros24 323) dk k 0
  exact⟨rfl,by rw[eo];exact MQ w k os⟩
theorem EG (u:Nat) (hu64:u<18446744073709551616) (w:World) (htab:Lib.TabIs Tryz.prog w "internal/strconv.uint64pow10" .u64 Lib.pow10Tab) :
  Calls Tryz.prog 236 #[.int .u64 u,.int .i64 10] w fun e w'=>e=.returned (.string ⟨(Lib.decDigits u).toArray⟩)∧Below w.heap.size w w':=by
 go_enter func236,ntmps236
 go_wp2_with fail
 refine(Bz u hu64 w htab).mono ?_;rintro e w1 ⟨rfl,hb⟩
 go_wp2_with fail
 go_ret
 exact⟨rfl,hb⟩
def qU (topic cursor:List UInt8):Prop:=cursor=[]∨∃ u:Nat,u<1000000000∧cursor=topic++64::Lib.decDigits u
def oq (v:Int) (c:UInt8):Int:=10*v+c.toNat-48
theorem sK {k:Nat} (h:k<10):((UInt8.ofNat (48+k)).toNat:Int)=48+k:=by
 rw[UInt8.toNat_ofNat'];omega
theorem TB (u:Nat):(Lib.decDigits u).foldl oq 0=u:=by
 induction u using Nat.strongRecOn with
 | _ u ih=>
  rw[Lib.decDigits]
  by_cases h:u<10
  ·rw[dif_pos h]
   simp only[List.foldl_cons,List.foldl_nil,oq]
   rw[sK h];omega
  ·rw[dif_neg h,List.foldl_append,ih (u / 10) (by omega)]
   simp only[List.foldl_cons,List.foldl_nil,oq]
   rw[sK (by omega)];omega
theorem xE:∀ (k u:Nat),(Lib.decDigits u).length≤k→u<10 ^ k
 | 0,u,h=>by
  rw[Lib.decDigits] at h
  by_cases h1:u<10
  ·rw[dif_pos h1] at h;simp at h
  ·rw[dif_neg h1] at h;simp at h
 | k+1,u,h=>by
  rw[Lib.decDigits] at h
  by_cases h1:u<10
  ·have:0<10 ^ k:=Nat.pow_pos (by omega)
   rw[Nat.pow_succ];omega
  ·rw[dif_neg h1,List.length_append] at h
   have:=xE k (u / 10) (by simpa using h)
   rw[Nat.pow_succ];omega
theorem tV:∀ (k u:Nat),u<10 ^ (k+1)→(Lib.decDigits u).length≤k+1
 | 0,u,h=>by rw[Lib.decDigits,dif_pos (by omega)];simp
 | k+1,u,h=>by
  rw[Lib.decDigits]
  by_cases h1:u<10
  ·rw[dif_pos h1];simp
  ·rw[dif_neg h1,List.length_append]
   have:=tV k (u / 10) (by rw[Nat.pow_succ] at h;omega)
   simp;omega
theorem Qx (u:Nat):1≤(Lib.decDigits u).length:=by
 rw[Lib.decDigits]
 split<;>simp
theorem TF (u:Nat):∀ c∈Lib.decDigits u,48≤c.toNat∧c.toNat≤57:=by
 induction u using Nat.strongRecOn with
 | _ u ih=>
  intro c hc
  rw[Lib.decDigits] at hc
  by_cases h:u<10
  ·rw[dif_pos h] at hc
   simp only[List.mem_cons,List.not_mem_nil,or_false] at hc
   subst hc
   have:=sK h
   omega
  ·rw[dif_neg h,List.mem_append] at hc
   rcases hc with hc | hc
   ·exact ih (u / 10) (by omega) c hc
   ·simp only[List.mem_cons,List.not_mem_nil,or_false] at hc
    subst hc
    have:=sK (k:=u % 10) (by omega)
    omega
theorem TG {topic cursor:List UInt8} (h0:cursor≠[]):qU topic cursor↔(topic.length+1<cursor.length∧cursor.length≤topic.length+10∧cursor.take (topic.length+1)=topic++[64])∧(Lib.itoa ((cursor.drop (topic.length+1)).foldl oq 0)=cursor.drop (topic.length+1)∧0≤(cursor.drop (topic.length+1)).foldl oq 0):=by
 constructor
 ·rintro(h | ⟨u,hu,rfl⟩)
  ·exact absurd h h0
  ·have hl:=tV 8 u (by omega)
   have hp:=Qx u
   have e:topic++64::Lib.decDigits u=(topic++[64])++Lib.decDigits u:=by simp
   have hd:(topic++64::Lib.decDigits u).drop (topic.length+1)=Lib.decDigits u:=by rw[e,List.drop_left' (by simp)]
   refine⟨⟨by simp;omega,by simp;omega,by rw[e,List.take_left' (by simp)]⟩,?_⟩
   rw[hd,TB]
   refine⟨?_,by omega⟩
   unfold Lib.itoa
   rw[if_neg (by omega)];rfl
 ·rintro⟨⟨h1,h2,h3⟩,h4,h5⟩
  refine Or.inr ⟨((cursor.drop (topic.length+1)).foldl oq 0).toNat,?_,?_⟩
  ·unfold Lib.itoa at h4
   rw[if_neg (by omega)] at h4
   have hl:(Lib.decDigits ((cursor.drop (topic.length+1)).foldl oq 0).toNat).length≤9:=by rw[h4,List.length_drop];omega
   have:=xE 9 _ hl
   omega
  ·unfold Lib.itoa at h4
   rw[if_neg (by omega)] at h4
   rw[h4]
   have:=List.take_append_drop (topic.length+1) cursor
   rw[h3] at this
   rw[← this];simp
def MR (a:Nat) (l:List UInt8):Nat:=l.foldl (fun a c=>a*10+(c.toNat-48)) a
theorem Qy:∀ (l:List UInt8) (a:Nat),a≤MR a l
 | [],a=>Nat.le_refl _
 | c::r,a=>by
  show a≤MR (a*10+(c.toNat-48)) r
  have:=Qy r (a*10+(c.toNat-48))
  omega
theorem EH (M:Nat) (hM:M≤18446744073709551615):∀ (l:List UInt8) (a:Nat),(∀ c∈l,48≤c.toNat∧c.toNat≤57)→MR a l≤M→Lib.parseUintM M a l=.ok (MR a l)
 | [],a,_,_=>rfl
 | c::r,a,hd,hv=>by
  have h1:=hd c (by simp)
  have hv':MR (a*10+(c.toNat-48)) r≤M:=hv
  have h2:=Qy r (a*10+(c.toNat-48))
  rw[Lib.parseUintM,if_pos h1,if_neg (by omega),if_neg (by omega)]
  exact EH M hM r _ (fun c hc=>hd c (by simp[hc])) hv'
theorem MS (u:Nat):MR 0 (Lib.decDigits u)=u:=by
 induction u using Nat.strongRecOn with
 | _ u ih=>
  rw[Lib.decDigits]
  by_cases h:u<10
  ·rw[dif_pos h]
   simp only[MR,List.foldl_cons,List.foldl_nil]
   have:=sK h
   omega
  ·rw[dif_neg h]
   unfold MR at *
   rw[List.foldl_append,ih (u / 10) (by omega)]
   simp only[List.foldl_cons,List.foldl_nil]
   have:=sK (k:=u % 10) (by omega)
   omega
theorem TI (u:Nat) (hu:u<1000000000):Lib.parseUintB 64 (Lib.decDigits u)=.ok u:=by
 have hne:Lib.decDigits u≠[]:=fun e=>by have:=Qx u;rw[e] at this;simp at this
 unfold Lib.parseUintB
 rw[if_neg hne,EH _ (by decide) _ _ (TF u) (by rw[MS];omega),MS]
theorem Ji (topic r:List UInt8):Lib.trimPrefix (topic++64::r) (topic++[64])=r:=by
 unfold Lib.trimPrefix Lib.hasPrefix
 have e:topic++64::r=(topic++[64])++r:=by simp
 rw[e,if_pos (by rw[List.isPrefixOf_iff_prefix];exact List.prefix_append _ _),List.drop_left' rfl]
theorem Po {topic cursor:List UInt8} (h0:cursor≠[]):qU topic cursor↔∃ u,Lib.parseUintB 64 (Lib.trimPrefix cursor (topic++[64]))=.ok u∧(Lib.trimPrefix cursor (topic++[64])).length≤9∧cursor=topic++64::Lib.decDigits u:=by
 constructor
 ·rintro(h | ⟨u,hu,rfl⟩)
  ·exact absurd h h0
  ·refine⟨u,?_,?_,rfl⟩
   ·rw[Ji];exact TI u hu
   ·rw[Ji];exact tV 8 u (by omega)
 ·rintro⟨u,_,hl,rfl⟩
  rw[Ji] at hl
  have:=xE 9 u hl
  exact Or.inr ⟨u,by omega,rfl⟩
theorem WR {l:List UInt8} {u:Nat} (h:Lib.parseUintB 64 l=.ok u):u<18446744073709551616:=by
 unfold Lib.parseUintB at h
 split at h
 ·cases h
 ·have key:∀ (l:List UInt8) (a:Nat),a<18446744073709551616→Lib.parseUintM (2 ^ 64-1) a l=.ok u→u<18446744073709551616:=by
   intro l
   induction l with
   | nil=>intro a ha h;simp only[Lib.parseUintM,Lib.NumEnd.ok.injEq] at h;omega
   | cons c r ih=>
    intro a ha h
    rw[Lib.parseUintM] at h
    split at h
    ·split at h
     ·cases h
     ·split at h
      ·cases h
      ·exact ih _ (by omega) h
    ·cases h
  exact key l 0 (by omega) h
theorem Qz (t:ByteArray):(t++ByteArray.mk #[64]).toList=t.toList++[64]:=by rw[ByteArray.toList_eq,ByteArray.toList_eq];simp
theorem TJ (t:ByteArray) (u:Nat):(t++ByteArray.mk #[64]++ByteArray.mk (Lib.decDigits u).toArray).toList=t.toList++64::Lib.decDigits u:=by
 rw[ByteArray.toList_eq,ByteArray.toList_eq];simp
theorem Jj (t:ByteArray) (u:Nat) (hu:u<18446744073709551616) (w:World) (hE:Env w) (ht:t.size≤1000) :
  Calls Tryz.prog 181 #[.string t,.int .u64 u] w fun e w'=>e=.returned (.string (t++ByteArray.mk #[64]++ByteArray.mk (Lib.decDigits u).toArray))∧Below w.heap.size w w':=by
 have HE:=hid hE
 have hdl:(Lib.decDigits u).length≤20:=tV 19 u (by omega)
 clear hE
 go_enter func181,ntmps181
 go_wp2_with fail
 refine(EG u hu w HE.out.t).mono ?_;rintro e w1 ⟨rfl,hb⟩
 go_wp2_with fail
 go_ret
 exact⟨rfl,hb⟩
theorem Jk (w:World) (T:TypeId) (s:ByteArray):Below w.heap.size w (Lib.bytesWorld w T s):=Joins.below_bytesWorld _ _ _ _ (Nat.le_refl _)
theorem FK (s:ByteArray) (w:World) (hs:s.size≤100000000) (hE:Env w) :
  Calls Tryz.prog 180 #[.string s,.int .i64 10,.int .i64 64] w (fun e w'=>Below w.heap.size w w'∧((∃ u:Nat,Lib.parseUintB 64 s.toList=.ok u∧e=.returned (.tuple #[.int .u64 u,.nilIface]))∨((∀ u,Lib.parseUintB 64 s.toList≠.ok u)∧∃ (v:Nat) (N:Nat) (T:TypeId),v<18446744073709551616∧e=.returned (.tuple #[.int .u64 v,.iface T (.pointer (some ⟨N,0,none⟩))])))):=by
 have hd:s.data.toList=s.toList:=by rw[ByteArray.toList_eq]
 obtain⟨te,pe,hsx⟩:=hE.v.sx
 obtain⟨te2,pe2,hrg⟩:=hE.v.rg
 cases h:Lib.parseUintB 64 s.data.toList with
 | ok v=>
  refine(Tryz.u_strconv_ParseUint_10_at64_ok s (by omega) v h w).mono ?_
  rintro e w1 ⟨rfl,hw⟩
  exact⟨by rcases hw with rfl | rfl;exact Below.refl _ _;exact Jk _ _ _,Or.inl ⟨v,by rw[← hd];exact h,rfl⟩⟩
 | range=>
  refine(Tryz.u_strconv_ParseUint_10_at64_range s (by omega) h _ w hrg (Or.inr ⟨te2,pe2,rfl⟩)).mono ?_
  rintro e w1 ⟨N,rfl,_,_,hb⟩
  exact⟨hb,Or.inr ⟨fun u=>by rw[← hd,h];simp,18446744073709551615,N,_,by omega,rfl⟩⟩
 | _=>
  refine(Tryz.u_strconv_ParseUint_10_at64_no s (by omega) ⟨fun v hh => (by rw [h] at hh; cases hh),fun hh => (by rw [h] at hh; cases hh)⟩ _ w hsx (Or.inr ⟨te,pe,rfl⟩)).mono ?_
  rintro e w1 ⟨N,rfl,_,_,hb⟩
  exact⟨hb,Or.inr ⟨fun u=>by rw[← hd,h];simp,0,N,_,by omega,rfl⟩⟩
theorem EI (t cur:ByteArray) (w:World) (hE:Env w) (ht:t.size≤1000) (hc:cur.size≤100000000) :
  Calls Tryz.prog 120 #[.string t,.string cur] w fun e w'=>∃ (p:Nat) (ok:Bool),e=.returned (.tuple #[.int .u64 p,.bool ok])∧(ok=true↔qU t.toList cur.toList)∧p<18446744073709551616∧Below w.heap.size w w':=by
 have HE:=hid hE
 clear hE
 by_cases h0:cur.toList=[]
 ·have hcur:cur=⟨#[]⟩:=text_eq h0
  subst hcur
  have HC:=hid (show qU t.toList (ByteArray.mk #[]).toList from Or.inl h0)
  clear h0
  go_enter func120,ntmps120
  go_wp2_with fail
  go_ret2
  exact⟨0,true,rfl,⟨fun _=>HC.out,fun _=>rfl⟩,by omega,Below.refl _ _⟩
 ·have HP:=hid (Po (topic:=t.toList) h0)
  obtain⟨D,HD⟩:∃ D,Hid (Lib.trimPrefix cur.data.toList (t++ByteArray.mk #[64]).data.toList=D):=⟨_,hid rfl⟩
  have hDE:Lib.trimPrefix cur.toList (t.toList++[64])=D:=by rw[← HD.out,← Qz,ByteArray.toList_eq,ByteArray.toList_eq]
  have HDE:=hid hDE
  have hDl:D.length≤100000000:=by
   rw[← hDE]
   unfold Lib.trimPrefix
   split
   ·rw[List.length_drop,aB];omega
   ·rw[aB];omega
  have hDs:(ByteArray.mk D.toArray).size=D.length:=by show D.toArray.size=_;simp
  have hDt:(ByteArray.mk D.toArray).toList=D:=by rw[ByteArray.toList_eq]
  have HDS:=hid hDs
  have HDT:=hid hDt
  have hne:cur.toList.isEmpty=false:=by cases h:cur.toList with
   | nil=>exact absurd h h0
   | cons a r=>rfl
  clear h0
  clear hDE hDs hDt
  go_enter func120,ntmps120
  go_wp2_with fail
  refine(Tryz.u_strings_TrimPrefix cur (t++ByteArray.mk #[64]) w).mono ?_;rintro e w1 ⟨rfl,rfl⟩
  rw[HD.out]
  go_wp2_with fail
  refine(FK ⟨D.toArray⟩ w1 (by rw[HDS.out];omega) HE.out).mono ?_
  rintro e w2 ⟨hb2,⟨u,hok,rfl⟩ | ⟨hno,v,N,T,hv,rfl⟩⟩
  ·rw[HDT.out] at hok
   have hu:=WR hok
   have BX:=hid hok
   have HE2:=hid (HE.out.below hb2)
   have HIC:=hid (show qU t.toList cur.toList↔(D.length≤9∧cur.toList=t.toList++64::Lib.decDigits u) by
    rw[HP.out,HDE.out]
    constructor
    ·rintro⟨u',h1,h2,h3⟩
     rw[hok] at h1
     cases h1
     exact⟨h2,h3⟩
    ·rintro⟨h2,h3⟩
     exact⟨u,hok,h2,h3⟩)
   clear hok
   by_cases h9:D.length≤9
   ·have h9I:decide ((D.length:Int)≤9)=true:=by simp;omega
    have HCB:=hid (TJ t u)
    go_wp2_with fail
    refine(Jj t u hu w2 HE2.out ht).mono ?_;rintro e w3 ⟨rfl,hb3⟩
    go_wp2_with fail
    go_ret2
    refine⟨u,_,rfl,?_,hu,hb2.trans (hb3.mono hb2.size)⟩
    rw[HIC.out]
    simp only[HCB.out,beq_iff_eq]
    exact⟨fun h=>⟨h9,h⟩,fun h=>h.2⟩
   ·have h9I:decide ((D.length:Int)≤9)=false:=by simp;omega
    go_wp2_with fail
    go_ret2
    exact⟨u,false,rfl,⟨fun h=>(by cases h),fun h=>absurd (HIC.out.1 h).1 h9⟩,hu,hb2⟩
  ·have XL:=hid hno
   clear hno
   go_wp2_with fail
   go_ret2
   refine⟨v,false,rfl,⟨fun h=>(by cases h),fun h=>?_⟩,hv,hb2⟩
   obtain⟨u,h1,_⟩:=HP.out.1 h
   rw[HDE.out] at h1
   exact absurd h1 (by have:=XL.out u;rw[HDT.out] at this;exact this)
theorem YN (c:UInt8) (v:Int) (B:Int) (h0:0≤B) (h:-B≤v∧v≤B):-(10*B+300)≤oq v c∧oq v c≤10*B+300:=by
 unfold oq
 have:c.toNat<256:=c.toNat_lt
 omega
def Jl:Nat→Int
 | 0=>0
 | k+1=>10*Jl k+300
theorem Pq:∀ k,0≤Jl k
 | 0=>by decide
 | k+1=>by have:=Pq k;unfold Jl;omega
theorem WS {a b:Nat} (h:a≤b):Jl a≤Jl b:=by
 induction h with
 | refl=>exact Int.le_refl _
 | @step m _ ih=>show Jl a≤10*Jl m+300;have:=Pq m;omega
theorem YO:∀ (l:List UInt8),-(Jl l.length)≤l.foldl oq 0∧l.foldl oq 0≤Jl l.length:=by
 intro l
 suffices h:∀ (l r:List UInt8),-(Jl (r++l).length)≤l.foldl oq (r.foldl oq 0)∧l.foldl oq (r.foldl oq 0)≤Jl (r++l).length∨¬ (-(Jl r.length)≤r.foldl oq 0∧r.foldl oq 0≤Jl r.length) by
  rcases h l [] with h | h
  ·simpa using h
  ·exact absurd (by simp[Jl]) h
 intro l
 induction l with
 | nil=>
  intro r
  by_cases hr:-(Jl r.length)≤r.foldl oq 0∧r.foldl oq 0≤Jl r.length
  ·exact Or.inl (by simpa using hr)
  ·exact Or.inr hr
 | cons c l ih=>
  intro r
  by_cases hr:-(Jl r.length)≤r.foldl oq 0∧r.foldl oq 0≤Jl r.length
  ·rcases ih (r++[c]) with h | h
   ·rw[List.foldl_append] at h
    simp only[List.foldl_cons,List.foldl_nil,List.append_assoc,List.cons_append,List.nil_append] at h
    exact Or.inl h
   ·refine absurd ?_ h
    rw[List.foldl_append,List.length_append,List.length_singleton]
    simp only[List.foldl_cons,List.foldl_nil]
    exact YN c _ _ (Pq _) hr
  ·exact Or.inr hr
theorem bd9 {l:List UInt8} (h:l.length≤9):-1000000000000≤l.foldl oq 0∧l.foldl oq 0≤1000000000000:=by
 have h1:=YO l
 have h2:=WS h
 have h3:Jl 9≤1000000000000:=by decide
 omega
theorem take_snoc {l:List UInt8} {k:Nat} (h:k<l.length):l.take (k+1)=l.take k++[l[k]]:=by
 rw[List.take_add_one,List.getElem?_eq_getElem h];rfl
theorem Jm (t cur:ByteArray) (w:World) (hE:Env w) (ht:t.size≤100000000) (hc:cur.size≤100000000) :
  Calls Tryz.prog 50 #[.string t,.string cur] w (fun e w'=>∃ b:Bool,e=.returned (.bool b)∧(b=true↔qU t.toList cur.toList)∧Below w.heap.size w w'):=by
 have HE:=hid hE
 clear hE
 by_cases h0:cur.toList=[]
 ·have hcur:cur=⟨#[]⟩:=text_eq h0
  subst hcur
  have HC:=hid (show qU t.toList (ByteArray.mk #[]).toList from Or.inl h0)
  clear h0
  go_enter func50,ntmps50
  go_wp2_with fail
  go_ret
  exact⟨true,rfl,⟨fun _=>HC.out,fun _=>rfl⟩,Below.refl _ _⟩
 ·have HL:=hid (TG (topic:=t.toList) h0)
  have hne:cur.toList.isEmpty=false:=by
   cases h:cur.toList with
   | nil=>exact absurd h h0
   | cons a r=>rfl
  have hts:=aB t
  have hcs:=aB cur
  have ZE:=hid hts
  have ZF:=hid hcs
  clear h0 hts hcs
  by_cases h1:cur.size≤t.size+1
  ·have d1:decide ((cur.size:Int)≤(t.size:Int)+1)=true:=by simp;omega
   have HN:=hid (show ¬ qU t.toList cur.toList by
    intro hc
    have:=(HL.out.1 hc).1.1
    rw[ZE.out,ZF.out] at this
    omega)
   go_enter func50,ntmps50
   go_wp2_with fail
   go_ret
   exact⟨false,rfl,⟨fun h=>(by cases h),fun h=>absurd h HN.out⟩,Below.refl _ _⟩
  ·have d1:decide ((cur.size:Int)≤(t.size:Int)+1)=false:=by simp;omega
   by_cases h2:t.size+10<cur.size
   ·have d2:decide ((t.size:Int)+1+9<(cur.size:Int))=true:=by simp;omega
    have HN:=hid (show ¬ qU t.toList cur.toList by
     intro hc
     have:=(HL.out.1 hc).1.2.1
     rw[ZE.out,ZF.out] at this
     omega)
    go_enter func50,ntmps50
    go_wp2_with fail
    go_ret
    exact⟨false,rfl,⟨fun h=>(by cases h),fun h=>absurd h HN.out⟩,Below.refl _ _⟩
   ·have d2:decide ((t.size:Int)+1+9<(cur.size:Int))=false:=by simp;omega
    have hn1:(t.size:Int)+1≤(cur.size:Int):=by omega
    have HT1:=hid (show (cur.extract 0 (t.size+1)).toList=cur.toList.take (t.toList.length+1) by rw[ext_list,List.drop_zero,Nat.sub_zero,ZE.out])
    have HD1:=hid (show (cur.extract (t.size+1) cur.size).toList=cur.toList.drop (t.toList.length+1) by
     rw[ext_list,ZE.out,List.take_of_length_le (by rw[List.length_drop,ZF.out];omega)])
    have HA1:=hid (Qz t)
    cases hP:((cur.extract 0 (t.size+1)).toList==(t++ByteArray.mk #[64]).toList)
    ·have HN:=hid (show ¬ qU t.toList cur.toList by
      intro hc
      have:=(HL.out.1 hc).1.2.2
      rw[← HT1.out,← HA1.out] at this
      rw[this] at hP
      simp at hP)
     go_enter func50,ntmps50
     go_wp2_with fail
     go_ret
     exact⟨false,rfl,⟨fun h=>(by cases h),fun h=>absurd h HN.out⟩,Below.refl _ _⟩
    ·have HP:=hid (show cur.toList.take (t.toList.length+1)=t.toList++[64] by rw[← HT1.out,← HA1.out];simpa using hP)
     obtain⟨DL,HDL⟩:∃ DL,Hid (cur.toList.drop (t.toList.length+1)=DL):=⟨_,hid rfl⟩
     have hDl:DL.length+(t.size+1)=cur.size:=by rw[← HDL.out,List.length_drop,ZE.out,ZF.out];omega
     have HDl:=hid hDl
     have h9:DL.length≤9:=by omega
     clear hDl
     go_enter func50,ntmps50
     go_wp2_with fail
     go_loopg [6,7] DL.length (fun gk v i wr=>∃ (k:Nat) (z:Int),k+gk=DL.length∧i=.int .i64 ((t.size:Int)+1+k)∧v=.int .i64 z∧Hid (z=(DL.take k).foldl oq 0)∧wr=w)
     case atStart=>exact⟨0,0,by omega,by simp,rfl,hid (by simp),rfl⟩
     case round=>
      obtain⟨k,z,hk,rfl,rfl,HZ,rfl⟩:=hrel
      have hzb:-1000000000000≤z∧z≤1000000000000:=by rw[HZ.out];exact bd9 (by rw[List.length_take];omega)
      by_cases hlt:k<DL.length
      ·have hlI:(t.size:Int)+1+k<(cur.size:Int):=by have:=HDl.out;omega
       have hlN:t.size+1+k<cur.size:=by have:=HDl.out;omega
       have hcb:(cur[t.size+1+k]'hlN).toNat<256:=UInt8.toNat_lt _
       have HST:=hid (show 10*z+((cur[t.size+1+k]'hlN).toNat:Int)-48=(DL.take (k+1)).foldl oq 0 by
        rw[take_snoc hlt,List.foldl_append,← HZ.out]
        simp only[List.foldl_cons,List.foldl_nil]
        have e:DL[k]=cur[t.size+1+k]'hlN:=by
         have h1:DL[k]? = some (cur[t.size+1+k]'hlN):=by
          rw[← HDL.out,List.getElem?_drop,ZE.out]
          exact IW cur _ hlN
         rw[List.getElem?_eq_getElem hlt] at h1
         exact Option.some.inj h1
        rw[e];rfl)
       go_wp2_with fail
       go_roundg (gk-1)
       case rel=>exact⟨k+1,_,by omega,by go_num,rfl,hid HST.out,rfl⟩
       case measure=>omega
      ·have hlI:¬ (t.size:Int)+1+k<(cur.size:Int):=by have:=HDl.out;omega
       have hkk:k=DL.length:=by omega
       have HZF:=hid (show z=DL.foldl oq 0 by rw[HZ.out,hkk,List.take_of_length_le (Nat.le_refl _)])
       have HIE:=hid (show qU t.toList cur.toList↔(Lib.itoa z=DL∧0≤z) by
        rw[HL.out,HDL.out,← HZF.out]
        constructor
        ·rintro⟨_,h⟩;exact h
        ·intro h
         exact⟨⟨by rw[ZE.out,ZF.out];omega,by rw[ZE.out,ZF.out];omega,HP.out⟩,h⟩)
       have HDE:=hid (HD1.out.trans HDL.out)
       have hz1:-9223372036854775808≤z:=by omega
       have hz2:z≤9223372036854775807:=by omega
       obtain⟨sI,HSI,HCI⟩:∃ sI:ByteArray,Hid (sI.toList=Lib.itoa z)∧Hid (∀ W,Env W→Calls Tryz.prog 83 #[.int .i64 z] W (fun e w'=>e=.returned (.string sI)∧Below W.heap.size W w')) :=
        ⟨⟨(Lib.itoa z).toArray⟩,hid (by rw[ByteArray.toList_eq]),fun W hW=>(Tryz.x_strconv_Itoa z hz1 hz2 W hW.t).mono (by
         rintro e w1 ⟨rfl,kk,os,rfl⟩
         exact⟨rfl,below_grow W kk os⟩)⟩
       subst hkk
       clear HZ HZF
       cases hQ:(sI.toList==(cur.extract (t.size+1) cur.size).toList)
       all_goals
        have HQ:=hid hQ
        go_wp2_with fail
        clear d1 d2 h1 h2 hP hlI hne ht hc hz1 hz2 h9 hzb
        first | (go_region_with (go_at_call 83;refine(HCI.out wr.drew (HE.out.below (Below.refl _ _).drew)).mono ?_;rintro e w1 ⟨rfl,hb1⟩)) | fail
        all_goals
         have HB1:=hid (show Below wr.heap.size wr w1 from(Below.refl _ wr).drew.trans hb1)
         go_wp2_with fail
         go_ret
         refine⟨_,rfl,?_,HB1.out⟩
         rw[HIE.out]
         have hq:=HQ.out
         rw[HSI.out,HDE.out] at hq
         simp only[beq_iff_eq,beq_eq_false_iff_ne,ne_eq] at hq
         simp[hq]
end Go.Proofs.YtgalebcpagmohaaGreatDoor
