/- Package payloads: Write. -/
import Derived.Test.YtkpfplbmmglkkaaGreatDoorV03
import Derived.Test.YtkpfplbmmglkkaaGreatDoorV13
import Derived.Lib.AppendIntMem
import Derived.Lib.Walk
set_option linter.all false
set_option maxHeartbeats 8000000
set_option maxRecDepth 100000
namespace Go.Proofs.YtkpfplbmmglkkaaGreatDoor
open Go.Proofs.Tryz
variable {p:aS}{k q b lo lo' n c m ms mo:Nat}{w W0:World}{X:List PIV}{v:Value}{Ts:List pO}{t:pO}{x:PIV}{s:ByteArray}{W D R:Int}{a:Option Addr}
open Go.RowKit Go.Conc
def uE(p:aS)(k:Nat):Nat:=if k=0 then p.ah else if k=1 then p.ag else if k=2 then p.number else p.ai
def px(p:aS):Nat→List UInt8
 | 0=>[p.kind.toUInt8]
 | k+1=>px p k++eV (uE p k)
def bO(p:aS):List UInt8:=px p 4++p.data.toList
structure lH(p:aS):Prop where
 k:p.kind<256
 t:p.ah<18446744073709551616
 s:p.ag<18446744073709551616
 n:p.number<18446744073709551616
 po:p.ai<18446744073709551616
 d:p.data.size≤1000
theorem lH.at(h:lH p)(k:Nat):uE p k<18446744073709551616:=by
 unfold uE
 split
 ·exact h.t
 ·split
  ·exact h.s
  ·split
   ·exact h.n
   ·exact h.po
theorem vP(h:lH p):∀ k,(px p k).length≤1+10*k
 | 0=>by simp[px]
 | k+1=>by
  have:=vP h k;have:=oI (uE p k) (h.at k);simp only[px,List.length_append];omega
theorem sO(w:World){ops:Array Oper}{rest:List Oper}{o:Oper}{a:Act}{Q:Exit→Act→World→Prop}(JA:o.guard=none)(sl x:Operand)
  (ho:o.op=.call { callee:=.builtin .append,args:=#[sl,x],argTypes:=#[103,9] }) (v:Value) (L:List UInt8) (lo:Nat) (hs:a.eval sl=v) (hP:fG w lo v L) (s:ByteArray) (hx:a.eval x=.string s) (hl:L.length+s.size≤1000000000) (di:lo≤w.heap.size) (M:List UInt8) (hM:L++s.toList=M)
  (h:∀ a' c' w',fG w' lo (.slice a' M.length c') M→aQ (fun k=>v.ownBlock=some k) w w'→wpList Tryz.prog ops Q rest (a.put o.dst (.slice a' M.length c')) w'):wpList Tryz.prog ops Q (o::rest) a w:=by
 obtain⟨iI,rE,zj,uZ,zk⟩:=info_parts Tryz.infoByte;subst hM;have vQ:s.toList.length=s.size:=by rw[ByteArray.toList_eq];rfl
 refine Lib.wpList_append_own_string w JA sl x 103 9 ho lo 5 iI underlying103 underlying9 rE zj uZ zk v L.length (L.map bJ) hs hP s hx (by unfold maxLen;omega) (by omega) di ?_;intro v' w' mz xR _;rw[uf,← List.map_append,← vQ,← List.length_append] at mz;obtain⟨a',c',rfl⟩:=ax mz;exact h a' c' w' mz ⟨xR.os,xR.tape,xR.output,xR.size,fun k hk hf=>xR.block k hk (fun e=>hf e.symm)⟩
theorem Pd(w:World)(p:aS)(hp:lH p):
  aT 122 #[lQ p] w (fun e w'=>∃ a c,e=.returned (.slice a (bO p).length c)∧fG w' w.heap.size (.slice a (bO p).length c) (bO p)∧Below w.heap.size w w'):=by
 have HP:=U hp;have rh:aZ (w.alloc (.cells #[vB p.kind,vU p.ah,vU p.ag,vU p.number,vU p.ai,.string p.data] 125)) w.heap.size 125 [vB p.kind,vU p.ah,vU p.ag,vU p.number,vU p.ai,.string p.data]:=heap_alloc_new w _;have cj:Below w.heap.size w (w.alloc (.cells #[vB p.kind,vU p.ah,vU p.ag,vU p.number,vU p.ai,.string p.data] 125)):=(Below.refl _ _).alloc (Nat.le_refl _) _;obtain⟨w0,nF⟩:∃ w0,w.alloc (.cells #[vB p.kind,vU p.ah,vU p.ag,vU p.number,vU p.ai,.string p.data] 125)=w0:=⟨_,rfl⟩
 rw[nF] at rh cj;have mF:=rh.lt;have aA:Below w0.heap.size w0 (w0.alloc (.cells #[vB p.kind] 5)):=(Below.refl _ _).alloc (Nat.le_refl _) _;have hD1:=qP w0 p.kind.toUInt8 (p.kind:Int) (by rw[show p.kind.toUInt8.toNat=p.kind by simp[Nat.toUInt8,UInt8.toNat_ofNat'];have:=hp.k;omega]);have dD:=rh.below aA;have ju:(w0.alloc (.cells #[vB p.kind] 5)).heap.size=w0.heap.size+1:=by simp
 obtain⟨w1,ee⟩:∃ w1,w0.alloc (.cells #[vB p.kind] 5)=w1:=⟨_,rfl⟩
 rw[ee] at aA hD1 dD ju;have e0:=rh.ce 0 rfl;have e1:=dD.ce 1 rfl;have e2:=dD.ce 2 rfl;have e3:=dD.ce 3 rfl;have e4:=dD.ce 4 rfl;have aW:Below w1.heap.size w1 (w1.alloc (.cells #[vU p.ah,vU p.ag,vU p.number,vU p.ai] 52)):=(Below.refl _ _).alloc (Nat.le_refl _) _;have Kx:aZ (w1.alloc (.cells #[vU p.ah,vU p.ag,vU p.number,vU p.ai] 52)) w1.heap.size 52 [vU p.ah,vU p.ag,vU p.number,vU p.ai]:=heap_alloc_new w1 _;have cz:=dD.below aW;have Su:=hD1.same aW;obtain⟨w2,dX⟩:∃ w2,w1.alloc (.cells #[vU p.ah,vU p.ag,vU p.number,vU p.ai] 52)=w2:=⟨_,rfl⟩
 rw[dX] at aW Kx cz Su;have ja:Below w.heap.size w w2:=cj.trans ((aA.mono cj.size).trans (aW.mono (by omega)));have gX:=U cz;have Vd:=U Kx;have HD2:=U Su;have BY:=Kx.lt;have HZ1:=U ju;clear rh dD cz hD1 Su Kx ju hp cj aA aW
 go_enter func122,ntmps122
 go_wp2_with fail
 go_loopg [3,5,19] 4 (fun gk d x i wr=>∃ k:Nat,k+gk=4∧i=.int .i64 k∧Hid (fG wr w.heap.size d (px p k))∧Hid (∀ j,d.ownBlock=some j→j≠w.heap.size∧j≠w1.heap.size)∧Hid (aZ wr w.heap.size 125 [vB p.kind,vU p.ah,vU p.ag,vU p.number,vU p.ai,.string p.data])∧Hid (aZ wr w1.heap.size 52 [vU p.ah,vU p.ag,vU p.number,vU p.ai])∧Below w.heap.size w wr)
 case atStart=>exact⟨0,by omega,rfl,U (cm HD2.o (by omega)),U (fun j hj=>by simp[Value.ownBlock] at hj;have:=HZ1.o;omega),gX,Vd,ja⟩
 case round=>
  obtain⟨k,hk,rfl,HD,HF,HB,HNn,bi⟩:=hrel;have Pf:=bi.size;have hlen:=vP HP.o k;obtain⟨w3,iK⟩:∃ w3,w3=wr:=⟨_,rfl⟩
  subst iK;obtain⟨gk2,aaA⟩:∃ g,g=gk:=⟨_,rfl⟩
  subst aaA
  by_cases bC:k<4
  ·have JE:w3.cell? (aj w1.heap.size k)=some (vU (uE p k:Nat)):=by
    rw[HNn.o.cell];have:k=0∨k=1∨k=2∨k=3:=by omega
    rcases this with rfl | rfl | rfl | rfl<;>rfl
   obtain⟨N,HNk⟩:∃ N,Hid (uE p k=N):=⟨_,U rfl⟩
   rw[HNk.o] at JE;have hNl:N<18446744073709551616:=by rw[← HNk.o];exact HP.o.at k
   have ej:(k:Int)<4:=by omega
   go_wp2_with fail
   refine(fX w3 w.heap.size _ (px p k) N HD.o hNl (by omega) Pf).mono ?_;rintro e w4 ⟨a4,c4,rfl,jR,pI⟩;obtain⟨M,HM⟩:∃ M,Hid (px p k++eV N=M):=⟨_,U rfl⟩
   rw[HM.o] at jR pI;rw[HM.o];have jr:=aQ.mZ (F:=fun j=>(u3:Value).ownBlock=some j) pI (fun j hj=>hj);have rY:=U (HB.o.dW jr (fun e=>(HF.o _ e).1 rfl));have MW:=U (HNn.o.dW jr (fun e=>(HF.o _ e).2 rfl));have hl1:=HNn.o.lt;have Vc:=HB.o.lt
   have Sv:Hid (∀ j,(Value.slice a4 M.length c4).ownBlock=some j→j≠w.heap.size∧j≠w1.heap.size):=fun j hj=>by
    rcases pI.b j hj with e | e
    ·exact HF.o j e
    ·omega
   have xb:Below w.heap.size w w4:=bi.trans (pI.below (fun j hj=>(HD.o.lt j hj).1) Pf);have EQ:=U jR;clear jR pI jr JE
   go_wp2_with fail
   go_roundg (gk2-1)
   case rel=>exact⟨k+1,by omega,by go_num,U (by rw[px,HNk.o,HM.o];exact EQ.o),Sv,rY,MW,xb⟩
   case measure=>omega
  ·obtain rfl:k=4:=by omega
   have e5:=HB.o.ce 5 rfl;have hd:=HP.o.d
   go_wp2_with (at_builtin;refine sO _ rfl (.tmp 27) (.tmp 29) rfl _ (px p 4) w.heap.size rfl HD.o p.data rfl (by omega) Pf (bO p) rfl ?_)
   intro a4 c4 w4 jR jr;have xb:Below w.heap.size w w4:=bi.trans (jr.below Pf (fun j hj=>(HD.o.lt j hj).1));have rY:=U jR;clear jR jr
   go_wp2_with fail
   go_ret
   exact⟨a4,c4,rfl,rY.o,xb⟩
theorem jH(w:World)(ty t e:TypeId)(z:Value)(size bytes:Nat)(ht:Tryz.prog.underlying t=some (.slice e))(hi:(Tryz.prog.info? e).map (fun i=>(i.zero,i.size,i.bytes))=some (some z,size,bytes))
  (hzs:z.cells.size=size) (mI:0<size) (v:Value) (n:Nat) (xs:List Value) (lo:Nat) (hP:w.ownsRow lo e size v n xs) (ad:Addr) (m c:Nat) (news:List Value)
  (hl:news.length=m*size) (F2:∀ j u,news[j]? = some u→w.cell? (ad.add j)=some u) (h1:∀ u∈news,u.oneCell'=true) (hlen:n+m≤maxLen) (zl:(n+m)*bytes≤140737488355328) (di:lo≤w.heap.size) :
  ∃ a' c' w',(Builtin.append_ #[t,t] ty #[v,.slice (some ad) m c]).run Tryz.prog w=.ok (.slice a' (n+m) c') w'∧w'.ownsRow lo e size (.slice a' (n+m) c') (n+m) (xs++news)∧gd w w' v (.slice a' (n+m) c'):=by
 obtain⟨iI,rE,zj,uZ,zk⟩:=info_parts hi;obtain⟨v',w',hr,h2,h3,_,h5⟩:=run_append_own_at (P:=Tryz.prog) w lo t ty e iI z size bytes ht rE zj uZ zk hzs mI v n xs hP ad m c news hl F2 h1 hlen zl di;obtain⟨a',c',Mr⟩:=ax h2;subst Mr
 exact⟨a',c',w',hr,h2,h3,fun k hk=>by
  rcases h5 with h5 | h5
  ·exact Or.inl (h5 ▸ hk)
  ·rw[hk] at h5;cases h5;exact Or.inr (Nat.le_refl _)⟩
theorem Tryz.infoPay:(Tryz.prog.info? 125).map (fun i=>(i.zero,i.size,i.bytes))=some (some (.agg #[vB 0,vU 0,vU 0,vU 0,vU 0,.string ⟨#[]⟩]),6,56):=by kernel_rfl
open Go.Lib Go.Sort
theorem G7(w:World)(k:Nat)(os:Array Obj):Below w.heap.size w (Sort.grow (w.drewN k) os) :=
 ⟨rfl,rfl,rfl,by simp[Sort.grow],fun g hg=>heap_grow_old w k os g hg⟩
theorem yq(u:Nat)(Kb:u<18446744073709551616)(w:World)(Ee:Lib.TabIs Tryz.prog w "internal/strconv.uint64pow10" .u64 Lib.pow10Tab):
  aT 166 #[.int .u64 u,.int .i64 10] w fun e w'=>e=.returned (.string ⟨(Lib.decDigits u).toArray⟩)∧Below w.heap.size w w':=by
 by_cases hs:u<100
 ·have hw:IntKind.i64.wrap (u:Int)=u:=by rw[IntKind.wrap_i64];omega
  have hsI:decide ((u:Int)<100)=true:=by simp;omega
  go_enter func166,ntmps166
  go_wp2_with fail
  refine(mD u hs _).mono ?_;rintro e w1 ⟨rfl,rfl⟩
  go_wp2_with fail
  go_ret
  exact⟨rfl,Below.refl _ _⟩
 ·have hu1:1≤u:=by omega
  have hsI:decide ((u:Int)<100)=false:=by simp;omega
  have aoN:Lib.nDigits u≤20:=by have:=Lib.numDigits_eq u hu1 Kb;split at this<;>omega
  have bP:Lib.nDigits u≤24:=by omega
  have MQ:Tryz.prog.arrayLen 193=24:=by simp[Program.arrayLen,underlying193]
  have vQ:∀ W,(Instr.sliceAt 193 (aM w.heap.size) none (some (.int .i64 (Lib.nDigits u:Int))) none).run Tryz.prog W=.ok (.slice (some ⟨w.heap.size,0,none⟩) (Lib.nDigits u) 24) W:=fun W=>by
   rw[run_sliceAt_array_h W 193 ⟨w.heap.size,0,none⟩ (by simp[Program.arrayLen,Program.elem,underlying193]) .i64 (Lib.nDigits u:Int) (by omega) (by rw[MQ];omega),MQ]
   go_simp
  have hH0:=Lib.holds_zero0 w 193 (Lib.nDigits u) (by omega);have afh:=jw w.heap.size 0 24 u (Array.replicate (Lib.nDigits u) 0) (w.alloc (.cells Lib.zeros24 193)) hH0 (by rw[Array.size_replicate];exact Lib.lt_pow_nDigits u) Kb (by rw[Array.size_replicate];omega);rw[Array.size_replicate] at afh;have HH0:=U hH0;clear hH0 MQ
  go_enter func166,ntmps166
  go_wp2_with fail
  refine(kQ u hu1 Kb _ (Lib.tabIs_alloc Ee _)).mono ?_;rintro e w' ⟨rfl,rfl⟩
  go_wp2_with fail
  refine afh.mono ?_;rintro e w' ⟨rfl,k,v',dk,rfl,hF⟩
  have Cm:(convert 103 9 (.slice (some ⟨w.heap.size,0,none⟩) (Lib.nDigits u) 24)).run Tryz.prog ((putRow (fun(b:UInt8)=>Value.int .u8 (b.toNat:Int)) (w.alloc (.cells Lib.zeros24 193)) w.heap.size 0 dk).drewN k)=.ok (.string ⟨(Lib.decDigits u).toArray⟩) ((putRow (fun(b:UInt8)=>Value.int .u8 (b.toNat:Int)) (w.alloc (.cells Lib.zeros24 193)) w.heap.size 0 dk).drewN k):=by
   have h:=run_convert_bytes_back (P:=Tryz.prog) ((putRow (fun(b:UInt8)=>Value.int .u8 (b.toNat:Int)) (w.alloc (.cells Lib.zeros24 193)) w.heap.size 0 dk).drewN k) 103 9 5 ⟨w.heap.size,0,none⟩ 24 (Lib.decDigits u) underlying103 underlying5 underlying9 (fun j hj=>by
    rw[Lib.row_is_numeral hF j hj,Lib.add_plain,World.cell?_drewN]
    exact cell?_putRow (fun(b:UInt8)=>Value.int .u8 (b.toNat:Int)) _ w.heap.size 0 _ dk HH0.o (by rw[hF.size,Array.size_replicate]) j (by rw[hF.size];rw[Lib.decDigits_length] at hj;exact hj))
   rw[Lib.decDigits_length] at h;exact h
  go_wp2_with fail
  go_ret
  obtain⟨os,eo⟩:=Lib.fin_at w (.cells Lib.zeros24 193) dk k 0;exact⟨rfl,by rw[eo];exact G7 w k os⟩
theorem Ax(u:Nat)(Kb:u<18446744073709551616)(w:World)(Ee:Lib.TabIs Tryz.prog w "internal/strconv.uint64pow10" .u64 Lib.pow10Tab):
  aT 117 #[vU u,vI 10] w fun e w'=>e=.returned (.string ⟨(Lib.decDigits u).toArray⟩)∧Below w.heap.size w w':=by
 go_enter func117,ntmps117
 go_wp2_with fail
 refine(yq u Kb w Ee).mono ?_;rintro e w1 ⟨rfl,hb⟩
 go_wp2_with fail
 go_ret
 exact⟨rfl,hb⟩
theorem uF(h:k<10):((UInt8.ofNat (48+k)).toNat:Int)=48+k:=by
 rw[UInt8.toNat_ofNat'];omega
theorem sQ:∀ (k u:Nat),u<10 ^ (k+1)→(Lib.decDigits u).length≤k+1
 | 0,u,h=>by rw[Lib.decDigits,dif_pos (by omega)];simp
 | k+1,u,h=>by
  rw[Lib.decDigits]
  by_cases h1:u<10
  ·rw[dif_pos h1];simp
  ·rw[dif_neg h1,List.length_append]
   have:=sQ k (u / 10) (by rw[Nat.pow_succ] at h;omega);simp;omega
theorem Wi(u:Nat):1≤(Lib.decDigits u).length:=by
 rw[Lib.decDigits]
 split<;>simp
theorem Pg(u:Nat):∀ c∈Lib.decDigits u,48≤c.toNat∧c.toNat≤57:=by
 induction u using Nat.strongRecOn with
 | _ u ih=>
  intro c hc;rw[Lib.decDigits] at hc
  by_cases h:u<10
  ·rw[dif_pos h] at hc
   simp only[List.mem_cons,List.not_mem_nil,or_false] at hc;subst hc;have:=uF h;omega
  ·rw[dif_neg h,List.mem_append] at hc
   rcases hc with hc | hc
   ·exact ih (u / 10) (by omega) c hc
   ·simp only[List.mem_cons,List.not_mem_nil,or_false] at hc
    subst hc;have:=uF (k:=u % 10) (by omega);omega
def G8(a:Nat)(l:List UInt8):Nat:=l.foldl (fun a c=>a*10+(c.toNat-48)) a
theorem M4:∀ (l:List UInt8) (a:Nat),a≤G8 a l
 | [],a=>Nat.le_refl _
 | c::r,a=>by
  show a≤G8 (a*10+(c.toNat-48)) r;have:=M4 r (a*10+(c.toNat-48));omega
theorem Ay(M:Nat)(hM:M≤18446744073709551615):∀ (l:List UInt8) (a:Nat),(∀ c∈l,48≤c.toNat∧c.toNat≤57)→G8 a l≤M→Lib.parseUintM M a l=.ok (G8 a l)
 | [],a,_,_=>rfl
 | c::r,a,hd,hv=>by
  have h1:=hd c (by simp);have Mr:G8 (a*10+(c.toNat-48)) r≤M:=hv;have h2:=M4 r (a*10+(c.toNat-48));rw[Lib.parseUintM,if_pos h1,if_neg (by omega),if_neg (by omega)];exact Ay M hM r _ (fun c hc=>hd c (by simp[hc])) Mr
theorem G9(u:Nat):G8 0 (Lib.decDigits u)=u:=by
 induction u using Nat.strongRecOn with
 | _ u ih=>
  rw[Lib.decDigits]
  by_cases h:u<10
  ·rw[dif_pos h]
   simp only[G8,List.foldl_cons,List.foldl_nil];have:=uF h;omega
  ·rw[dif_neg h]
   unfold G8 at *;rw[List.foldl_append,ih (u / 10) (by omega)];simp only[List.foldl_cons,List.foldl_nil];have:=uF (k:=u % 10) (by omega);omega
theorem Ph(u:Nat)(hu:u<1000000000):Lib.parseUintB 64 (Lib.decDigits u)=.ok u:=by
 have bT:Lib.decDigits u≠[]:=fun e=>by have:=Wi u;rw[e] at this;simp at this
 unfold Lib.parseUintB;rw[if_neg bT,Ay _ (by decide) _ _ (Pg u) (by rw[G9];omega),G9]
theorem Wj(aG r:List UInt8):Lib.trimPrefix (aG++64::r) (aG++[64])=r:=by
 unfold Lib.trimPrefix Lib.hasPrefix;have e:aG++64::r=(aG++[64])++r:=by simp
 rw[e,if_pos (by rw[List.isPrefixOf_iff_prefix];exact List.prefix_append _ _),List.drop_left' rfl]
theorem Wk(t:ByteArray):(t++ByteArray.mk #[64]).toList=t.toList++[64]:=by rw[ByteArray.toList_eq,ByteArray.toList_eq];simp
theorem Di(t:ByteArray)(u:Nat):(t++ByteArray.mk #[64]++ByteArray.mk (Lib.decDigits u).toArray).toList=t.toList++64::Lib.decDigits u:=by
 rw[ByteArray.toList_eq,ByteArray.toList_eq];simp
theorem oL(t:ByteArray)(u:Nat)(hu:u<18446744073709551616)(w:World)(hE:mR w)(ht:t.size≤1000):
  aT 79 #[.string t,vU u] w fun e w'=>e=.returned (.string (t++ByteArray.mk #[64]++ByteArray.mk (Lib.decDigits u).toArray))∧Below w.heap.size w w':=by
 have HE:=U hE;have yU:(Lib.decDigits u).length≤20:=sQ 19 u (by omega);clear hE
 go_enter func79,ntmps79
 go_wp2_with fail
 refine(Ax u hu w HE.o.t).mono ?_;rintro e w1 ⟨rfl,hb⟩
 go_wp2_with fail
 go_ret
 exact⟨rfl,hb⟩
theorem ER(w:World)(T:TypeId)(s:ByteArray):Below w.heap.size w (Lib.bytesWorld w T s):=Joins.below_bytesWorld _ _ _ _ (Nat.le_refl _)
theorem Cn(s:ByteArray)(w:World)(hs:s.size≤100000000)(hE:mR w):
  aT 78 #[.string s,vI 10,vI 64] w (fun e w'=>Below w.heap.size w w'∧((∃ u:Nat,Lib.parseUintB 64 s.toList=.ok u∧e=.returned (.tuple #[vU u,.nilIface]))∨((∀ u,Lib.parseUintB 64 s.toList≠.ok u)∧∃ (v:Nat) (N:Nat) (T:TypeId),v<18446744073709551616∧e=.returned (.tuple #[vU v,.iface T (aM N)])))):=by
 have hd:s.data.toList=s.toList:=by rw[ByteArray.toList_eq]
 obtain⟨te,pe,ZT⟩:=hE.v.sx;obtain⟨te2,pe2,ZU⟩:=hE.v.rg
 cases h:Lib.parseUintB 64 s.data.toList with
 | ok v=>
  refine(jT s (by omega) v h w).mono ?_;rintro e w1 ⟨rfl,hw⟩;exact⟨by rcases hw with rfl | rfl;exact Below.refl _ _;exact ER _ _ _,Or.inl ⟨v,by rw[← hd];exact h,rfl⟩⟩
 | range=>
  refine(iX s (by omega) h _ w ZU (Or.inr ⟨te2,pe2,rfl⟩)).mono ?_;rintro e w1 ⟨N,rfl,_,_,hb⟩;exact⟨hb,Or.inr ⟨fun u=>by rw[← hd,h];simp,18446744073709551615,N,_,by omega,rfl⟩⟩
 | _=>
  refine(iL s (by omega) ⟨fun v hh => (by rw [h] at hh; cases hh),fun hh => (by rw [h] at hh; cases hh)⟩ _ w ZT (Or.inr ⟨te,pe,rfl⟩)).mono ?_;rintro e w1 ⟨N,rfl,_,_,hb⟩;exact⟨hb,Or.inr ⟨fun u=>by rw[← hd,h];simp,0,N,_,by omega,rfl⟩⟩
theorem yt(b:Nat)(xs:List Value)(n num:Int)(cb:Nat)(w:World)(hB:aZ w b 128 xs)(h0:xs[0]? = some (vI n))(hc:w.cell? (aj cb 0)=some (vI num)):
  aT 126 #[aJ b,aM cb] w (fun e w'=>e=.returned (.bool (n==num))∧Below w.heap.size w w'):=by
 unfold aJ;have d0:w.cell? (aj b 0)=some (vI n):=(hB.cell 0).trans h0;clear hB h0
 go_enter func126,ntmps126
 go_wp2_with fail
 go_region
 all_goals
  go_wp2_with fail
  go_ret
  exact⟨rfl,(Below.refl _ _).drew⟩
theorem jb(w:World)(b:Nat)(v0 v1 v2:Value)(h:aZ w b 134 [v0,v1,v2]):(loadVar 134 (aj b 0)).run Tryz.prog w=.ok (.agg #[v0,v1,v2]) w:=by
 have e0:=h.ce 0 rfl;have e1:=h.ce 1 rfl;have e2:=h.ce 2 rfl;simp[go_sem,e0,e1,e2]
def Az(w:World)(q:Nat):Nat:=match w.heap[q]? with | some (.chan _ buf _ _ _ _)=>buf.size | _=>0
theorem sR(p:aS):1≤(bO p).length:=by simp[bO,px]
theorem Dj{L:List aS}(h:sD w q L):Az w q=L.length:=by
 obtain⟨s,r,h⟩:=h;unfold Az;rw[h];simp
def akM(w0:World)(b:Nat)(T:TypeId)(i0 i1 i2 i3:Value)(bu:Int)(fN up:Bool)(tl:List Value)(L:List aS)(q m:Nat)(a:Act)(w:World):Prop:=∃ (v u4 u5 u6 u7 u8 u9 u10 u11 u12 u13 u14 u15 u16 u17 u18 u19 u20 u21 u22 u23 u24 u25 u26 u27 u28 u29 u30:Value) (vs:List Value) (D R:List aS),a = { tmps:=#[.pointer (some ⟨b,0,none⟩),undef,.slice none 0 0,v,u4,u5,u6,u7,u8,u9,u10,u11,u12,u13,u14,u15,u16,u17,u18,u19,u20,u21,u22,u23,u24,u25,u26,u27,u28,u29,u30],defers:=[] } ∧ D++R=L∧jY w b T i0 i1 i2 i3 bu fN up tl R q m∧B6 w w0.heap.size v vs (D.map (fun p=>cd eQ (bO p)))∧aQ (fun k=>k=q∨k=m) w0 w
theorem M5(w:World)(b:Nat)(T:TypeId)(i0 i1 i2 i3:Value)(bu:Int)(fN up:Bool)(tl:List Value)(L:List aS)(q m:Nat)(h:jY w b T i0 i1 i2 i3 bu fN up tl L q m)(hL:∀ p∈L,lH p∧(bO p).length≤120)(h60:L.length≤60):
  aT 85 #[aM b] w (fun e w'=>∃ v vs,e=.returned v∧jY w' b T i0 i1 i2 i3 bu fN up tl [] q m∧B6 w' w.heap.size v vs (L.map (fun p=>cd eQ (bO p)))∧aQ (fun k=>k=q∨k=m) w w'):=by
 refine oo func85 rfl ?_
 simp only[ntmps85,List.size_toArray,List.length_cons,List.length_nil,Nat.reduceAdd,Nat.reduceSub,Array.replicate_succ,
   Array.replicate_zero,List.push_toArray,List.append_toArray,List.nil_append,List.cons_append]
 have H:=U h;clear h;refine fq (fun K hK=>?_)
 go_wp2_with fail
 refine fq (fun K hK=>?_)
 go_wp2_with fail
 refine CH ?_;refine Q7 (akM w b T i0 i1 i2 i3 bu fN up tl L q m) (fun _ w=>Az w q) ⟨_,_,_,_,_,_,_,_,_,_,_,_,_,_,_,_,_,_,_,_,_,_,_,_,_,_,_,_,[],[],L,rfl,rfl,H.o,B6.nil _ _,aQ.refl _ _⟩ ?_;rintro a w1 ⟨v,u4,u5,u6,u7,u8,u9,u10,u11,u12,u13,u14,u15,u16,u17,u18,u19,u20,u21,u22,u23,u24,u25,u26,u27,u28,u29,u30,vs,D,R,rfl,hDR,hE,Wl,hC⟩;have d7:=hE.ap.ce 7 rfl;have HE:=U hE;obtain⟨Fs,HFs⟩:∃ Fs,Hid (D.map (fun p=>cd eQ (bO p))=Fs):=⟨_,U rfl⟩
 rw[HFs.o] at Wl;have hFl:Fs.length≤60:=by rw[← HFs.o,List.length_map];have:=congrArg List.length hDR;rw[List.length_append] at this;omega
 obtain⟨va,vc,rfl⟩:=ax Wl.own;have HL:=U Wl;have Wm:=U hDR;clear hE Wl hDR;refine CH ?_;refine fq (fun K hK=>?_)
 go_wp2_with fail
 refine yJ ?_;refine sC ?_;obtain⟨s,r,hq⟩:=HE.o.vi
 cases R with
 | nil=>
  refine Rb (c:=q) (cap:=60) (s:=s) (r:=r) (tm:=false) rfl rfl (by simp[go_sem,execOp,rcase,Act.eval];rfl) (by simpa using hq) ?_;refine pX (v:=vI (-1)) (w':=w1) rfl rfl (by simp[go_sem,goInt]) ?_;refine pX (v:=.bool false) (w':=w1) rfl rfl (by simp[go_sem]) ?_;refine yK ?_;refine nL ?_
  go_wp2_with fail
  go_ret
  have hD:D=L:=by have:=Wm.o;simpa using this
  exact⟨_,vs,rfl,HE.o,by rw[← hD,HFs.o];exact HL.o,hC⟩
 | cons p R=>
  have hp:=hL p (by rw[← Wm.o];simp);have hv0:(((p::R).map pv).toArray).getD 0 undef=lQ p:=by simp[pv,pc]
  have Sw:(((p::R).map pv).toArray).extract 1 (((p::R).map pv).toArray).size=(R.map pv).toArray:=by simp[List.take_of_length_le]
  refine Ra (c:=q) (cap:=60) (buf:=((p::R).map pv).toArray) (s:=s) (r:=r) (tm:=false) rfl rfl (by simp[go_sem,execOp,rcase,Act.eval];rfl) hq (by simp) ?_;rw[hv0,Sw];have jO:aQ (fun k=>k=q) w1 (w1.setChan q 60 (R.map pv).toArray false s (r+1) false):=(aQ.refl _ _).setChan _ _ _ _ _ _ _ (fun _=>rfl);have hQ2:sD (w1.setChan q 60 (R.map pv).toArray false s (r+1) false) q R:=⟨s,r+1,heap_setChan _ _ _ _ _ _ _ _ HE.o.vi.lt⟩
  have Wn:=HE.o.D9.dW jO (fun e=>HE.o.vi.nN HE.o.D9 e.symm);have cz:=HE.o.ap.dW jO (HE.o.ap.Rc HE.o.vi);obtain⟨w2,dX⟩:∃ w2,w1.setChan q 60 (R.map pv).toArray false s (r+1) false=w2:=⟨_,rfl⟩
  rw[dX] at jO hQ2 Wn cz;rw[dX];refine pX (v:=vI 0) (w':=w2) rfl rfl (by simp[go_sem,goInt]) ?_;refine pX (v:=.bool true) (w':=w2) rfl rfl (by simp[go_sem]) ?_;refine yK ?_;refine nL ?_;have gX:=U cz;have Ew:=U hQ2;have Kl:=U Wn;have HPp:=U hp;clear cz hQ2 Wn hv0 Sw hq hp dX;have bP:Below w2.heap.size w2 (w2.alloc (.cells #[vB p.kind,vU p.ah,vU p.ag,vU p.number,vU p.ai,.string p.data] 125)):=(Below.refl _ _).alloc (Nat.le_refl _) _;have hX3:aZ (w2.alloc (.cells #[vB p.kind,vU p.ah,vU p.ag,vU p.number,vU p.ai,.string p.data] 125)) w2.heap.size 125 [vB p.kind,vU p.ah,vU p.ag,vU p.number,vU p.ai,.string p.data]:=heap_alloc_new w2 _;have Dk:=Kl.o.dW (F:=fun _=>False) (aQ.aI bP) id;have hQ3:=Ew.o.dW (F:=fun _=>False) (aQ.aI bP) id;have gz:=gX.o.below bP
  go_wp2_with fail
  obtain⟨w3,iK⟩:∃ w3,w2.alloc (.cells #[vB p.kind,vU p.ah,vU p.ag,vU p.number,vU p.ai,.string p.data] 125)=w3:=⟨_,rfl⟩
  rw[iK] at bP hX3 Dk hQ3 gz;rw[iK];have d8:=gz.ce 8 rfl;obtain⟨e0,e1,e2,e3,e4,e5⟩:=hX3.c6;have akR:∀ ty,(Builtin.delete_ #[82,125] ty #[.map (some m),lQ p]).run Tryz.prog w3.drew=.ok (.tuple #[]) (mK w3.drew m):=fun ty=>JZ (w:=w3.drew) Dk ty
  have HX3:=U hX3;have HW3:=U Dk;have CL:=U hQ3;have lE:=U gz;have JB:=Kl.o.lt;have BD:=bP.size;clear hX3 Dk hQ3 gz iK
  go_region
  all_goals
   obtain⟨w4,tV⟩:∃ w4,mK w3.drew m=w4:=⟨_,rfl⟩
   rw[tV];have jr:aQ (fun k=>k=m) w3 w4:=by rw[← tV];exact((aQ.refl _ w3).drew).same (F3 _ m rfl)
   have HW4:Hid (cK w4 m R):=by rw[← tV];exact BW (w:=w3.drew) HW3.o
   have ZD:=U (CL.o.dW jr (CL.o.nN HW3.o));have rY:=U (lE.o.dW jr (lE.o.nN HW3.o));have hX4:=HX3.o.dW jr (by show ¬ w2.heap.size=m;omega);obtain⟨f0,f1,f2,f3,f4,f5⟩:=hX4.c6;have Yj:=jr.size;clear tV akR hX4 d8 e0 e1 e2 e3 e4 e5
   go_wp2_with fail
   refine(Pd w4 p HPp.o.1).mono ?_;rintro e w5 ⟨da,dc,rfl,hD5,iC⟩;have QT:=U hD5;clear hD5 f0 f1 f2 f3 f4 f5
   go_wp2_with fail
   refine(F6 w5 _ (bO p) QT.o.rd (by unfold maxLen;have:=HPp.o.2;omega)).mono ?_;rintro e w6 ⟨G2,hm6⟩;have bX:QB (bO p).length=true:=ox.2 ⟨sR p,HPp.o.2⟩;rw[bX] at hm6;simp only[cond_true] at hm6;obtain⟨fa,fc,rfl,hF6⟩:=hm6;obtain⟨FP,HFP⟩:∃ FP,Hid (cd eQ (bO p)=FP):=⟨_,U rfl⟩
   rw[HFP.o] at hF6;rw[HFP.o];have HF6:=U hF6;have YA:=iC.size;have hz6:=G2.size;have BY:=jO.size;have hzC:=hC.size;have hq0:=H.o.vi.lt;have Vj:=H.o.D9.lt;have asP:=H.o.ap.lt;have c16:aQ (fun k=>k=q∨k=m) w1 w6:=(jO.mono (fun i _ e=>Or.inl e)).same ((aQ.aI bP).same ((jr.mono (fun i _ e=>Or.inr e)).same ((aQ.aI iC).same (aQ.aI G2))));have HS:Hid (∀ k,w.heap.size≤k→k<w1.heap.size→w6.heap[k]? = w1.heap[k]?):=fun k h1 h2=>c16.block k h2 (fun e=>by rcases e with rfl | rfl<;>omega)
   have HL6:=U (HL.o.same HS.o);clear hF6 bX
   go_wp2_with (at_builtin;refine cJ _ rfl (.tmp 27) (.tmp 29) 106 103 _ 1 24 rfl underlying106 Tryz.infoBytes rfl (by decide) _ Fs.length vs w.heap.size rfl (HL6.o.own.alloc _) _ 1 1 [.slice fa FP.length fc] rfl rfl (Kg _ _ _) Of (Fs.length+1) rfl _ rfl (by unfold maxLen;omega) (by omega) (by simp;omega) ?_)
   intro a7 c7 w7 ho7 hg7;have MQ:Below w6.heap.size w6 (w6.alloc (.cells #[.slice fa FP.length fc] 103)):=(Below.refl _ _).alloc (Nat.le_refl _) _;have HL7:=U (HL.o.push (cm (HF6.o.same MQ) (by omega)) (fun k h1 h2=>(MQ.block k (by omega)).trans (HS.o k h1 h2)) hzC ho7 hg7);have c47:aQ (fun k=>w.heap.size≤k) w4 w7:=(aQ.aI iC).same ((aQ.aI G2).same ((aQ.aI MQ).same (aQ.mZ hg7 (fun k hk=>(HL6.o.own.lt k hk).1))));have HE7:=U (show jY w7 b T i0 i1 i2 i3 bu fN up tl R q m from⟨rY.o.dW c47 (by omega),ZD.o.dW c47 (by omega),HW4.o.dW c47 (by omega)⟩);have hC7:aQ (fun k=>k=q∨k=m) w w7:=(hC.same ((jO.mono (fun i _ e=>Or.inl e)).same ((aQ.aI bP).same (jr.mono (fun i _ e=>Or.inr e))))).trans c47 (fun i hi hh=>by omega);have HM:=U (show Az w7 q<Az w1 q by rw[Dj HE7.o.vi,Dj HE.o.vi];simp);clear ho7 hg7 MQ c47
   go_wp2_with fail
   (try simp only[Exit.inBlock,Exit.then])
   refine⟨⟨_,_,_,_,_,_,_,_,_,_,_,_,_,_,_,_,_,_,_,_,_,_,_,_,_,_,_,_,vs++[.slice fa FP.length fc],D++[p],R,rfl,by rw[← Wm.o];simp,HE7.o,?_,hC7⟩,HM.o⟩;rw[List.map_append,HFs.o,List.map_singleton,HFP.o];exact HL7.o
theorem Ha(w:World)(s b:Nat)(hs:w.cell? (aj s 0)=some (aM b)):
  aT 31 #[aM s] w (fun e w'=>e=.returned (aM b)∧w'=w):=by
 go_enter func31,ntmps31
 go_wp2_with fail
 go_ret
 exact⟨rfl,rfl⟩
theorem Hd(w:World)(s b:Nat)(hs:w.cell? (aj s 0)=some (aM b)):
  aT 24 #[aM s] w (fun e w'=>e=.returned (aM b)∧w'=w):=by
 go_enter func24,ntmps24
 go_wp2_with fail
 go_ret
 exact⟨rfl,rfl⟩
abbrev rI(Q:Int→World→Prop)(e:Ending)(w':World):Prop:=∃ z:Int,e=.returned (vI z)∧Q z w'
abbrev rU(Q:World→Prop)(e:Ending)(w':World):Prop:=e=.returned (.tuple #[])∧Q w'
abbrev rS(Q:Value→World→Prop)(e:Ending)(w':World):Prop:=∃ (a:Option Addr) (n c:Nat),e=.returned (.slice a n c)∧Q (.slice a n c) w'
abbrev rII(Q:Int→Int→World→Prop)(e:Ending)(w':World):Prop:=∃ n z:Int,e=.returned (.tuple #[vI n,vI z])∧Q n z w'
structure afl(w:World)(s b:Nat):Prop where
 cUp:∀ (c:Int) (Q:Int→World→Prop),aT 54 #[aM b,vI c] w (rI Q)→aT 33 #[aM s,vI c] w (rI Q)
 Sy:∀ (Q:World→Prop),aT 83 #[aM b] w (rU Q)→aT 56 #[aM s] w (rU Q)
 Sz:∀ (c:Int) (a:Option Addr) (n m:Nat) (Q:Int→World→Prop),aT 123 #[aM b,vI c,.slice a n m] w (rI Q)→aT 87 #[aM s,vI c,.slice a n m] w (rI Q)
 aaB:∀ (Q:Value→World→Prop),aT 85 #[aM b] w (rS Q)→aT 58 #[aM s] w (rS Q)
 sUp:∀ (c:Int) (Q:Int→World→Prop),aT 55 #[aM b,vI c] w (rI Q)→aT 34 #[aM s,vI c] w (rI Q)
 SA:∀ (Q:World→Prop),aT 84 #[aM b] w (rU Q)→aT 57 #[aM s] w (rU Q)
 AA:∀ (c:Int) (a:Option Addr) (n m:Nat) (Q:Int→World→Prop),aT 124 #[aM b,vI c,.slice a n m] w (rI Q)→aT 88 #[aM s,vI c,.slice a n m] w (rI Q)
 aaC:∀ (Q:Value→World→Prop),aT 85 #[aM b] w (rS Q)→aT 60 #[aM s] w (rS Q)
 sS:∀ (t u:ByteArray) (Q:Int→Int→World→Prop),aT 32 #[aM b,.string t,.string u] w (rII Q)→aT 19 #[aM s,.string t,.string u] w (rII Q)
 AB:∀ (t u:ByteArray) (Q:Int→World→Prop),aT 29 #[aM b,.string t,.string u] w (rI Q)→aT 16 #[aM s,.string t,.string u] w (rI Q)
 ES:∀ (t:ByteArray) (Q:Int→World→Prop),aT 42 #[aM b,.string t] w (rI Q)→aT 26 #[aM s,.string t] w (rI Q)
 AC:∀ (Q:World→Prop),aT 25 #[aM b] w (rU Q)→aT 9 #[aM s] w (rU Q)
theorem py(w:World)(s b:Nat)(hs:w.cell? (aj s 0)=some (aM b)):afl w s b:=by
 have HS:=U hs;clear hs;constructor
 all_goals
  intros
  rename_i hg;have HG:=U hg;clear hg
  first | go_enter func33,ntmps33 | go_enter func56,ntmps56 | go_enter func87,ntmps87 | go_enter func58,ntmps58 | go_enter func34,ntmps34 | go_enter func57,ntmps57 | go_enter func88,ntmps88 | go_enter func60,ntmps60 | go_enter func19,ntmps19 | go_enter func16,ntmps16 | go_enter func26,ntmps26 | go_enter func9,ntmps9
  go_wp2_with fail
  first | refine(Ha _ s b HS.o).mono ?_ | refine(Hd _ s b HS.o).mono ?_
  rintro e w1 ⟨rfl,rfl⟩
  go_wp2_with fail
  refine HG.o.mono ?_;intro e w2 hQ;have HQ:=U hQ
  first | obtain⟨z,rfl,hR⟩:=hQ | obtain⟨rfl,hR⟩:=hQ | obtain⟨a,n,c,rfl,hR⟩:=hQ | obtain⟨n,z,rfl,hR⟩:=hQ
  clear hR
  go_wp2_with fail
  first | go_ret | go_ret2 | go_end0
  exact HQ.o
def oM(k:Nat)(name:List UInt8)(p:PItem):Bool:=(p.kind==k)&&(p.name.text.toList==name)
def lB (X:List PIV) (k:Nat) (name:List UInt8) (z:Int):Prop := (z = -1 ∧ ∀ (j:Nat) (y:PIV),X[j]? = some y→oM k name y.it=false) ∨ ∃ (i:Nat) (x:PIV),z = i ∧ X[i]? = some x ∧ oM k name x.it=true ∧ ∀ (j:Nat) (y:PIV),j<i→X[j]? = some y→oM k name y.it=false
theorem lB.no {X:List PIV} {k:Nat} {name:List UInt8} (h:∀ (j:Nat) (y:PIV),X[j]? = some y→oM k name y.it=false):lB X k name (-1) := Or.inl ⟨rfl,h⟩
theorem lB.SC {X:List PIV} {k:Nat} {name:List UInt8} (i:Nat) (x:PIV) (a:X[i]? = some x) (b:oM k name x.it=true) (c:∀ (j:Nat) (y:PIV),j<i→X[j]? = some y→oM k name y.it=false):lB X k name i := Or.inr ⟨i,x,rfl,a,b,c⟩
theorem lB.ind {X:List PIV} {k:Nat} {name:List UInt8} {motive:∀ z,lB X k name z → Prop} (no:∀ h,motive (-1) (.no h)) (SC:∀ (i:Nat) x a b c,motive i (.SC i x a b c)):∀ {z} (h:lB X k name z),motive z h
  | _,.inl ⟨rfl,h⟩ => no h
  | _,.inr ⟨i,x,rfl,a,b,c⟩ => SC i x a b c
theorem vR(k kd:Nat)(nm name:ByteArray)(c2 c5 c6 c7 c8:Value)(fa na:Option Addr)(fl fc nl nc cb cc:Nat)(w:World)(hc:w.cell? (aj cb 0)=some (vI kd))(yR:cb<w.heap.size)(hd:w.cell? (aj cc 0)=some (.string name))(BE:cc<w.heap.size):
  aT 76 #[.agg #[vI k,.string nm,c2,.slice fa fl fc,.slice na nl nc,c5,c6,c7,c8],aM cb,aM cc] w fun e w'=>e=.returned (.bool ((k==kd)&&(nm.toList==name.toList)))∧Below w.heap.size w w':=by
 have cj:Below w.heap.size w (w.alloc (.cells #[vI k,.string nm,c2,.slice fa fl fc,.slice na nl nc,c5,c6,c7,c8] 117)):=(Below.refl _ _).alloc (Nat.le_refl _) _;have rh:aZ (w.alloc (.cells #[vI k,.string nm,c2,.slice fa fl fc,.slice na nl nc,c5,c6,c7,c8] 117)) w.heap.size 117 [vI k,.string nm,c2,.slice fa fl fc,.slice na nl nc,c5,c6,c7,c8]:=heap_alloc_new w _;have e1:=(cj.cell (p:=(aj cb 0)) yR).trans hc;have e2:=(cj.cell (p:=(aj cc 0)) BE).trans hd;obtain⟨w0,nF⟩:∃ w0,w.alloc (.cells #[vI k,.string nm,c2,.slice fa fl fc,.slice na nl nc,c5,c6,c7,c8] 117)=w0:=⟨_,rfl⟩
 rw[nF] at cj rh e1 e2;have p0:=rh.ce 0 rfl;have p1:=rh.ce 1 rfl;have hi:((k:Int)==(kd:Int))=(k==kd):=by rw[Bool.eq_iff_iff];simp;omega
 have HI:=U hi;clear hi rh hc hd;cases hk:((k:Int)==(kd:Int))
 all_goals
  have HK:=U (HI.o.symm.trans hk)
  go_enter func76,ntmps76
  go_wp2_with fail
  go_ret
  exact⟨bR (by rw[HK.o];simp),cj⟩
theorem AD(w:World)(lo:Nat)(lv:Value)(X:List PIV)(name:ByteArray)(kd cb cc:Nat)(h:PIts w lo lv X)(hn:Nms X)(hX:X.length≤400)(hc:w.cell? (aj cb 0)=some (vI kd))(yR:cb<w.heap.size)(hd:w.cell? (aj cc 0)=some (.string name))(BE:cc<w.heap.size):
  aT 75 #[lv,.func (Fn.func 76) #[] #[aM cb,aM cc]] w fun e w'=>∃ z:Int,e=.returned (vI z)∧lB X kd name.toList z∧Below w.heap.size w w':=by
 obtain⟨la,lc,nk⟩:∃ a c,lv=.slice a X.length c:=ax h.own
 subst nk;have H:=U h;have HN:=U hn;clear h hn
 go_enter func75,ntmps75
 go_wp2_with fail
 go_loopg [5,8] X.length (fun gk t i wr=>∃ k:Nat,k+gk=X.length∧i=.int .i64 k∧Hid (∀ j y,j<k→X[j]? = some y→oM kd name.toList y.it=false)∧Below w.heap.size w wr)
 case atStart=>exact⟨0,by omega,rfl,U (fun j y hj=>by omega),Below.refl _ _⟩
 case round=>
  obtain⟨k,hk,rfl,HA,bi⟩:=hrel
  by_cases bC:k<X.length
  ·obtain⟨x,hx⟩:∃ x,X[k]? = some x:=⟨X[k],List.getElem?_eq_getElem bC⟩
   obtain⟨g,cap,hv,vH,xT⟩:=fT H.o.own (by omega);obtain⟨rfl,rfl⟩:la=some (aj g 0)∧lc=cap:=by simpa using hv
   obtain⟨n,hn⟩:=(H.o.below bi).itemAt HN.o hx;have hs:=hn.seg;have HX:=U hx;clear hx hv hn;have c0:=hs.cell (j:=0) rfl;have c1:=hs.cell (j:=1) rfl;have c2:=hs.cell (j:=2) rfl;have c3:=hs.cell (j:=3) rfl;have c4:=hs.cell (j:=4) rfl;have c5:=hs.cell (j:=5) rfl;have c6:=hs.cell (j:=6) rfl;have c7:=hs.cell (j:=7) rfl;have c8:=hs.cell (j:=8) rfl;simp only[Nat.add_zero] at c0;have fZ:wr.cell? (aj cb 0)=some (vI kd):=by rw[bi.cell yR];exact hc
   have Z5:cb<wr.heap.size:=Nat.lt_of_lt_of_le yR bi.size;have hd':wr.cell? (aj cc 0)=some (.string name):=by rw[bi.cell BE];exact hd
   have akW:cc<wr.heap.size:=Nat.lt_of_lt_of_le BE bi.size;clear hs
   go_wp2_with fail
   refine(vR _ _ _ _ _ _ _ _ _ _ _ _ _ _ _ _ _ _ fZ Z5 hd' akW).mono ?_;rintro e w1 ⟨rfl,aA⟩;have aW:=bi.trans (aA.mono bi.size);clear c0 c1 c2 c3 c4 c5 c6 c7 c8 aA fZ hd';have HM:=U (show oM kd name.toList x.it=((x.it.kind==kd)&&(x.it.name.text.toList==name.toList)) from rfl)
   cases hm:((x.it.kind==kd)&&(x.it.name.text.toList==name.toList)) with
   | false=>
    go_wp2_with fail
    go_roundg (gk-1)
    case rel=>exact⟨k+1,by omega,by go_num,U (fun j y hj hy=>by
     rcases Nat.lt_or_ge j k with h | h
     ·exact HA.o j y h hy
     ·rw[show j=k from by omega,HX.o] at hy;simp at hy;subst hy;exact HM.o.trans hm),aW⟩
    case measure=>omega
   | true=>
    go_wp2_with fail
    go_ret
    exact⟨k,rfl,lB.SC k x HX.o (HM.o.trans hm) HA.o,aW⟩
  ·go_wp2_with fail
   go_ret
   exact⟨-1,rfl,lB.no (fun j y hy=>HA.o j y (by have:=at_lt hy;omega) hy),bi⟩
theorem qB(w:World)(o1 o2 o3:Obj):Below w.heap.size w (((w.alloc o1).alloc o2).alloc o3):=by
 have h1:Below w.heap.size w (w.alloc o1):=(Below.refl _ _).alloc (Nat.le_refl _) _;have h2:=h1.alloc h1.size o2;exact h2.alloc h2.size o3
theorem oN(w:World)(o1 o2 o3:Obj):(((w.alloc o1).alloc o2).alloc o3).heap.size=w.heap.size+3:=by simp
theorem Dl(w:World)(o1 o2 o3:Obj):(((w.alloc o1).alloc o2).alloc o3).heap[w.heap.size+1+1]? = some o3:=by
 have:=heap_alloc_new ((w.alloc o1).alloc o2) o3;simpa using this
theorem Dm(w:World)(o1 o2 o3:Obj):(((w.alloc o1).alloc o2).alloc o3).heap[w.heap.size+1]? = ((w.alloc o1).alloc o2).heap[w.heap.size+1]? :=
 ((Below.refl _ ((w.alloc o1).alloc o2)).alloc (Nat.le_refl _) o3).block _ (by simp)
theorem Pj(w:World)(o1 o2 o3:Obj):(((w.alloc o1).alloc o2).alloc o3).heap[w.heap.size]? = (w.alloc o1).heap[w.heap.size]? :=
 (((Below.refl _ ((w.alloc o1).alloc o2)).alloc (Nat.le_refl _) o3).block _ (by simp;omega)).trans (((Below.refl _ (w.alloc o1)).alloc (Nat.le_refl _) o2).block _ (by simp))
theorem aaD{T:TypeId}{xs:List Value}(h:w.heap[b]? = some (.cells xs.toArray T (0,0))):dU w b T 0 xs:=⟨xs.toArray,h,by simp⟩
theorem su{w0:World}{B:Nat}(d0 d1 d2 d3 d4 d5 d6 d7 d8:Value)(h:Below B w w0)(hB:B≤b):Below B w (((((((((w0.setCell (aj b 0) d0).setCell (aj b 1) d1).setCell (aj b 2) d2).setCell (aj b 3) d3).setCell (aj b 4) d4).setCell (aj b 5) d5).setCell (aj b 6) d6).setCell (aj b 7) d7).setCell (aj b 8) d8) :=
 (((((((((h.setCell (p:=(aj b 0)) hB d0).setCell (p:=(aj b 1)) hB d1).setCell (p:=(aj b 2)) hB d2).setCell (p:=(aj b 3)) hB d3).setCell (p:=(aj b 4)) hB d4).setCell (p:=(aj b 5)) hB d5).setCell (p:=(aj b 6)) hB d6).setCell (p:=(aj b 7)) hB d7).setCell (p:=(aj b 8)) hB d8)
def yV(x:PIV)(n:Ninth):Value:=.agg #[.int .i64 x.it.kind,.string x.it.name.text,.int .i64 x.it.name.at_,.slice n.fa x.it.fields.length n.fc,.slice n.na x.it.names.length n.nc,.string n.bb,.int .i64 n.ba,.string n.ab,.int .i64 n.aa]
def SD(X:List PIV)(kd:Nat)(name:ByteArray)(w:World)(e:Ending)(w':World):Prop:=∃ z:Int,lB X kd name.toList z∧Below w.heap.size w w'∧((z = -1∧e=.returned (.tuple #[.agg #[.int .i64 0,.string ⟨#[]⟩,.int .i64 0,.slice none 0 0,.slice none 0 0,.string ⟨#[]⟩,.int .i64 0,.string ⟨#[]⟩,.int .i64 0],.bool false]))∨∃ (i:Nat) (x:PIV) (n:Ninth),z=i∧X[i]? = some x∧x.it.base=[.string n.bb,.int .i64 n.ba]∧x.it.answer=[.string n.ab,.int .i64 n.aa]∧e=.returned (.tuple #[yV x n,.bool true]))
theorem Pk(w:World)(lo:Nat)(lv:Value)(X:List PIV)(kd:Nat)(name:ByteArray)(h:PIts w lo lv X)(hn:Nms X)(hX:X.length≤400):
  aT 50 #[lv,vI kd,.string name] w (SD X kd name w):=by
 obtain⟨la,lc,nk⟩:∃ a c,lv=.slice a X.length c:=ax h.own
 subst nk;have H:=U h;have HN:=U hn;clear h hn
 go_enter func50,ntmps50
 go_wp2_with fail
 have cj:Below w.heap.size w (((w.alloc (.cells #[vI kd] 111)).alloc (.cells #[.string name] 9)).alloc (.cells #[vI 0,.string ⟨#[]⟩,vI 0,.slice none 0 0,.slice none 0 0,.string ⟨#[]⟩,vI 0,.string ⟨#[]⟩,vI 0] 117)):=qB w _ _ _;have k1:(((w.alloc (.cells #[vI kd] 111)).alloc (.cells #[.string name] 9)).alloc (.cells #[vI 0,.string ⟨#[]⟩,vI 0,.slice none 0 0,.slice none 0 0,.string ⟨#[]⟩,vI 0,.string ⟨#[]⟩,vI 0] 117)).cell? (aj w.heap.size 0)=some (vI kd):=(show aZ _ w.heap.size 111 [vI kd] from(Pj w _ _ _).trans (heap_alloc_new w _)).cell 0;have k2:(((w.alloc (.cells #[vI kd] 111)).alloc (.cells #[.string name] 9)).alloc (.cells #[vI 0,.string ⟨#[]⟩,vI 0,.slice none 0 0,.slice none 0 0,.string ⟨#[]⟩,vI 0,.string ⟨#[]⟩,vI 0] 117)).cell? ⟨w.heap.size+1,0,none⟩=some (.string name):=(show aZ _ (w.heap.size+1) 9 [.string name] from(Dm w _ _ _).trans (by have:=heap_alloc_new (w.alloc (.cells #[vI kd] 111)) (.cells #[.string name] 9);simpa using this)).cell 0;have k3:w.heap.size<(((w.alloc (.cells #[vI kd] 111)).alloc (.cells #[.string name] 9)).alloc (.cells #[vI 0,.string ⟨#[]⟩,vI 0,.slice none 0 0,.slice none 0 0,.string ⟨#[]⟩,vI 0,.string ⟨#[]⟩,vI 0] 117)).heap.size:=by rw[oN];omega
 have k4:w.heap.size+1<(((w.alloc (.cells #[vI kd] 111)).alloc (.cells #[.string name] 9)).alloc (.cells #[vI 0,.string ⟨#[]⟩,vI 0,.slice none 0 0,.slice none 0 0,.string ⟨#[]⟩,vI 0,.string ⟨#[]⟩,vI 0] 117)).heap.size:=by rw[oN];omega
 refine(AD _ lo _ X name kd w.heap.size (w.heap.size+1) (H.o.below cj) HN.o hX k1 k3 k2 k4).mono ?_;rintro e w1 ⟨z,rfl,hF,ym⟩;clear k1 k2 k3 k4;have aA:=cj.trans (ym.mono cj.size)
 have fy:dU w1 (w.heap.size+1+1) 117 0 [vI 0,.string ⟨#[]⟩,vI 0,.slice none 0 0,.slice none 0 0,.string ⟨#[]⟩,vI 0,.string ⟨#[]⟩,vI 0]:=by
  refine aaD ((ym.block _ (by rw[oN];omega)).trans (Dl w _ _ _))
 have hrb:w.heap.size≤w.heap.size+1+1:=by omega
 generalize w.heap.size+1+1=rb at *;have r0:=fy.cell (j:=0) rfl;have r1:=fy.cell (j:=1) rfl;have r2:=fy.cell (j:=2) rfl;have r3:=fy.cell (j:=3) rfl;have r4:=fy.cell (j:=4) rfl;have r5:=fy.cell (j:=5) rfl;have r6:=fy.cell (j:=6) rfl;have r7:=fy.cell (j:=7) rfl;have r8:=fy.cell (j:=8) rfl;simp only[Nat.zero_add] at r0 r1 r2 r3 r4 r5 r6 r7 r8;have q0:=fy.aq 0;have q1:=fy.aq 1;have q2:=fy.aq 2;have q3:=fy.aq 3;have q4:=fy.aq 4;have q5:=fy.aq 5;have q6:=fy.aq 6;have q7:=fy.aq 7;have q8:=fy.aq 8;have MI:=U fy;have HF:=U hF;clear fy ym cj
 cases hF using lB.ind with
 | no nH=>
  clear nH
  go_wp2_with fail
  have oK:=oJ (vI 0) (.string ⟨#[]⟩) (vI 0) (.slice none 0 0) (.slice none 0 0) (.string ⟨#[]⟩) (vI 0) (.string ⟨#[]⟩) (vI 0) MI.o;have z0:=oK.cell (j:=0) rfl;have z1:=oK.cell (j:=1) rfl;have z2:=oK.cell (j:=2) rfl;have z3:=oK.cell (j:=3) rfl;have z4:=oK.cell (j:=4) rfl;have z5:=oK.cell (j:=5) rfl;have z6:=oK.cell (j:=6) rfl;have z7:=oK.cell (j:=7) rfl;have z8:=oK.cell (j:=8) rfl;simp only[Nat.zero_add] at z0 z1 z2 z3 z4 z5 z6 z7 z8;refine bodyPost_ret (v:=.tuple #[.agg #[vI 0,.string ⟨#[]⟩,vI 0,.slice none 0 0,.slice none 0 0,.string ⟨#[]⟩,vI 0,.string ⟨#[]⟩,vI 0],.bool false]) (by simp[results,Tryz.results50,go_sem,z0,z1,z2,z3,z4,z5,z6,z7,z8]) rfl ⟨-1,HF.o,su _ _ _ _ _ _ _ _ _ aA hrb,Or.inl ⟨rfl,rfl⟩⟩
 | SC k x hx hm mG=>
  have bC:k<X.length:=at_lt hx;obtain⟨g,cap,hv,vH,xT⟩:=fT H.o.own (by omega);obtain⟨rfl,rfl⟩:la=some (aj g 0)∧lc=cap:=by simpa using hv
  obtain⟨n,hn⟩:=(H.o.below aA).itemAt HN.o hx;have hs:=hn.seg;have HBA:=U hn.base;have HAN:=U hn.answer;have HX:=U hx;clear hx hv hn hm mG;have c0:=hs.cell (j:=0) rfl;have c1:=hs.cell (j:=1) rfl;have c2:=hs.cell (j:=2) rfl;have c3:=hs.cell (j:=3) rfl;have c4:=hs.cell (j:=4) rfl;have c5:=hs.cell (j:=5) rfl;have c6:=hs.cell (j:=6) rfl;have c7:=hs.cell (j:=7) rfl;have c8:=hs.cell (j:=8) rfl;simp only[Nat.add_zero] at c0;clear hs;have BL:¬ (k:Int)<0:=by omega
  go_wp2_with fail
  have oK:=oJ (vI x.it.kind) (.string x.it.name.text) (vI x.it.name.at_) (.slice n.fa x.it.fields.length n.fc) (.slice n.na x.it.names.length n.nc) (.string n.bb) (vI n.ba) (.string n.ab) (vI n.aa) MI.o;have z0:=oK.cell (j:=0) rfl;have z1:=oK.cell (j:=1) rfl;have z2:=oK.cell (j:=2) rfl;have z3:=oK.cell (j:=3) rfl;have z4:=oK.cell (j:=4) rfl;have z5:=oK.cell (j:=5) rfl;have z6:=oK.cell (j:=6) rfl;have z7:=oK.cell (j:=7) rfl;have z8:=oK.cell (j:=8) rfl;simp only[Nat.zero_add] at z0 z1 z2 z3 z4 z5 z6 z7 z8;refine bodyPost_ret (v:=.tuple #[yV x n,.bool true]) (by simp[results,Tryz.results50,go_sem,yV,z0,z1,z2,z3,z4,z5,z6,z7,z8]) rfl ⟨k,HF.o,su _ _ _ _ _ _ _ _ _ aA hrb,Or.inr ⟨k,x,n,rfl,HX.o,HBA.o,HAN.o,rfl⟩⟩
theorem lB.afm{name:List UInt8}{a b:Int}(h:lB X k name a)(h':lB X k name b):a=b:=by
 cases h using lB.ind with
 | no h1=>cases h' using lB.ind with
  | no _=>rfl
  | SC i x hx hm _=>have:=h1 i x hx;rw[hm] at this;cases this
 | SC i x hx hm hl=>cases h' using lB.ind with
  | no h1=>have:=h1 i x hx;rw[hm] at this;cases this
  | SC j y hy hn hk=>
   rcases Nat.lt_trichotomy i j with e | e | e
   ·have:=hk i x e hx;rw[hm] at this;cases this
   ·rw[e]
   ·have:=hl j y e hy;rw[hn] at this;cases this
def ET(n a b:Int):Bool:=decide (a≤n)&&decide (n≤b)
theorem qC(n a b:Int)(w:World):
  aT 68 #[vI n,vI a,vI b] w (fun e w'=>e=.returned (.bool (ET n a b))∧w'=w):=by
 cases h1:decide (a≤n)
 all_goals
  have HB:=U (show ET n a b=(decide (a≤n)&&decide (n≤b)) from rfl)
  go_enter func68,ntmps68
  go_wp2_with fail
  go_ret
  exact⟨bR (by rw[HB.o,h1];simp),rfl⟩
def iw(W D R:Int):Bool:=ET W 1 8&&ET D 4 50&&ET R 1 16
theorem qD(w:World)(b:Nat)(v0 v1 v2 v3 v4 v5 v6 v7 v8:Value)(h:aZ w b 84 [v0,v1,v2,v3,v4,v5,v6,v7,v8]):(loadVar 84 (aj b 0)).run Tryz.prog w=.ok (.agg #[v0,v1,v2,v3,v4,v5,v6,v7,v8]) w:=by
 have e0:=h.ce 0 rfl;have e1:=h.ce 1 rfl;have e2:=h.ce 2 rfl;have e3:=h.ce 3 rfl;have e4:=h.ce 4 rfl;have e5:=h.ce 5 rfl;have e6:=h.ce 6 rfl;have e7:=h.ce 7 rfl;have e8:=h.ce 8 rfl;simp[go_sem,e0,e1,e2,e3,e4,e5,e6,e7,e8]
def KS(s:ByteArray)(W D R:Int)(w:World)(e:Ending)(w':World):Prop:=Below w.heap.size w w' ∧
 ((e=.returned (.tuple #[.agg #[.slice none 0 0,.int .i64 0,.int .i64 0,.int .i64 0,.int .i64 0,.bool false,.bool false,.chan none,.map none],.int .i64 8])∧∃ E P,cC s E P∧E≠0) ∨
  (e=.returned (.tuple #[.agg #[.slice none 0 0,.int .i64 0,.int .i64 0,.int .i64 0,.int .i64 0,.bool false,.bool false,.chan none,.map none],.int .i64 9])∧cC s 0 0∧iw W D R=false) ∨
  (∃ (a:Option Addr) (n c q m:Nat) (X:List PIV),e=.returned (.tuple #[.agg #[.slice a n c,.int .i64 W,.int .i64 D,.int .i64 R,.int .i64 0,.bool false,.bool false,.chan (some q),.map (some m)],.int .i64 0])∧cC s 0 0∧iw W D R=true∧s.size≤400∧(parseP s).1=some (X.map (fun x=>x.it))∧X.length≤400∧PIts w' w.heap.size (.slice a n c) X∧w.heap.size≤q∧w.heap.size≤m∧sD w' q []∧cK w' m []))
theorem AE(s:ByteArray)(W D R:Int)(w:World)(hE:mR w)(hs:s.size≤maxLen):
  aT 43 #[.string s,.agg #[vI W,vI D,vI R]] w (KS s W D R w):=by
 obtain⟨w0,nF,cj,BO⟩:=cS w [vI W,vI D,vI R] 27;have aA:Below w0.heap.size w0 (w0.alloc (.cells #[.slice none 0 0,vI 0,vI 0,vI 0,vI 0,.bool false,.bool false,.chan none,.map none] 84)):=(Below.refl _ _).alloc (Nat.le_refl _) _;have YU:aZ (w0.alloc (.cells #[.slice none 0 0,vI 0,vI 0,vI 0,vI 0,.bool false,.bool false,.chan none,.map none] 84)) w0.heap.size 84 [.slice none 0 0,vI 0,vI 0,vI 0,vI 0,.bool false,.bool false,.chan none,.map none]:=heap_alloc_new w0 _;have hC1:=BO.below aA;obtain⟨w1,ee⟩:∃ w1,w0.alloc (.cells #[.slice none 0 0,vI 0,vI 0,vI 0,vI 0,.bool false,.bool false,.chan none,.map none] 84)=w1:=⟨_,rfl⟩
 rw[ee] at aA YU hC1;have mF:w.heap.size≤w0.heap.size:=cj.size;have ju:w0.heap.size≤w1.heap.size:=aA.size;have ja:Below w.heap.size w w1:=cj.trans (aA.mono mF);have hle:w.heap.size≤w0.heap.size:=mF;have HE:=U (hE.below ja);have QQ:=U YU;have xq:=U hC1;clear hE cj aA YU BO hC1
 go_enter func43,ntmps43
 go_wp2_with fail
 refine(read_any s w1 HE.o.v hs).mono ?_;rintro e w2 ⟨lv,a,n,c,E,P,rfl,rfl,aW,hA,hR⟩;have Co:=ja.trans (aW.mono ja.size);have mC:=QQ.o.below aW;have YV:=xq.o.below aW;have e0:=mC.ce 0 rfl;have g0:=mC.aq 0;have e1:=mC.ce 1 rfl;have g1:=mC.aq 1;have e2:=mC.ce 2 rfl;have g2:=mC.aq 2;have e3:=mC.ce 3 rfl;have g3:=mC.aq 3;have e4:=mC.ce 4 rfl;have g4:=mC.aq 4;have e5:=mC.ce 5 rfl;have g5:=mC.aq 5;have e6:=mC.ce 6 rfl;have g6:=mC.aq 6;have e7:=mC.ce 7 rfl;have g7:=mC.aq 7;have e8:=mC.ce 8 rfl;have g8:=mC.aq 8;have c0:=YV.ce 0 rfl;have c1:=YV.ce 1 rfl;have c2:=YV.ce 2 rfl;clear YV
 by_cases hE0:E=0
 ·subst hE0
  obtain⟨h4,rfl⟩:=hA.zero;obtain⟨X,hp,OW,hl,_⟩:=hR rfl;have HA:=U hA;have HP:=U hp;have HI:=U OW;clear hA hR hp OW
  go_wp2_with fail
  refine(qC W 1 8 w2).mono ?_;rintro e w3 ⟨rfl,rfl⟩;cases hW:ET W 1 8
  ·have HO:=U (show iw W D R=false by unfold iw;rw[hW];rfl)
   have HL:=U (qD _ _ _ _ _ _ _ _ _ _ _ (show aZ (((((((((w3.setCell (aj w0.heap.size 0) (.slice none 0 0)).setCell (aj w0.heap.size 1) (vI 0)).setCell (aj w0.heap.size 2) (vI 0)).setCell (aj w0.heap.size 3) (vI 0)).setCell (aj w0.heap.size 4) (vI 0)).setCell (aj w0.heap.size 5) (.bool false)).setCell (aj w0.heap.size 6) (.bool false)).setCell (aj w0.heap.size 7) (.chan none)).setCell (aj w0.heap.size 8) (.map none)) w0.heap.size 84 [.slice none 0 0,vI 0,vI 0,vI 0,vI 0,.bool false,.bool false,.chan none,.map none] from(((((((((mC.set 0 _).set 1 _).set 2 _).set 3 _).set 4 _).set 5 _).set 6 _).set 7 _).set 8 _)));have HB:=U (((((((((Co.setCell (p:=(aj w0.heap.size 0)) hle (.slice none 0 0)).setCell (p:=(aj w0.heap.size 1)) hle (vI 0)).setCell (p:=(aj w0.heap.size 2)) hle (vI 0)).setCell (p:=(aj w0.heap.size 3)) hle (vI 0)).setCell (p:=(aj w0.heap.size 4)) hle (vI 0)).setCell (p:=(aj w0.heap.size 5)) hle (.bool false)).setCell (p:=(aj w0.heap.size 6)) hle (.bool false)).setCell (p:=(aj w0.heap.size 7)) hle (.chan none)).setCell (p:=(aj w0.heap.size 8)) hle (.map none));clear mC
   go_wp2_with fail
   (try simp only[Exit.inBlock,Exit.then])
   refine⟨rfl,.tuple #[.agg #[.slice none 0 0,vI 0,vI 0,vI 0,vI 0,.bool false,.bool false,.chan none,.map none],vI 9],?_,HB.o,Or.inr (Or.inl ⟨rfl,HA.o,HO.o⟩)⟩;rw[results_cell_tmp rfl];have:=HL.o;simp[asAddr,this]
  ·go_wp2_with fail
   refine(qC D 4 50 w3).mono ?_;rintro e w4 ⟨rfl,rfl⟩;cases hD:ET D 4 50
   ·have HO:=U (show iw W D R=false by unfold iw;rw[hW,hD];rfl)
    have HL:=U (qD _ _ _ _ _ _ _ _ _ _ _ (show aZ (((((((((w4.setCell (aj w0.heap.size 0) (.slice none 0 0)).setCell (aj w0.heap.size 1) (vI 0)).setCell (aj w0.heap.size 2) (vI 0)).setCell (aj w0.heap.size 3) (vI 0)).setCell (aj w0.heap.size 4) (vI 0)).setCell (aj w0.heap.size 5) (.bool false)).setCell (aj w0.heap.size 6) (.bool false)).setCell (aj w0.heap.size 7) (.chan none)).setCell (aj w0.heap.size 8) (.map none)) w0.heap.size 84 [.slice none 0 0,vI 0,vI 0,vI 0,vI 0,.bool false,.bool false,.chan none,.map none] from(((((((((mC.set 0 _).set 1 _).set 2 _).set 3 _).set 4 _).set 5 _).set 6 _).set 7 _).set 8 _)));have HB:=U (((((((((Co.setCell (p:=(aj w0.heap.size 0)) hle (.slice none 0 0)).setCell (p:=(aj w0.heap.size 1)) hle (vI 0)).setCell (p:=(aj w0.heap.size 2)) hle (vI 0)).setCell (p:=(aj w0.heap.size 3)) hle (vI 0)).setCell (p:=(aj w0.heap.size 4)) hle (vI 0)).setCell (p:=(aj w0.heap.size 5)) hle (.bool false)).setCell (p:=(aj w0.heap.size 6)) hle (.bool false)).setCell (p:=(aj w0.heap.size 7)) hle (.chan none)).setCell (p:=(aj w0.heap.size 8)) hle (.map none));clear mC
    go_wp2_with fail
    (try simp only[Exit.inBlock,Exit.then])
    refine⟨rfl,.tuple #[.agg #[.slice none 0 0,vI 0,vI 0,vI 0,vI 0,.bool false,.bool false,.chan none,.map none],vI 9],?_,HB.o,Or.inr (Or.inl ⟨rfl,HA.o,HO.o⟩)⟩;rw[results_cell_tmp rfl];have:=HL.o;simp[asAddr,this]
   ·go_wp2_with fail
    refine(qC R 1 16 w4).mono ?_;rintro e w5 ⟨rfl,rfl⟩;cases hRr:ET R 1 16
    ·have HO:=U (show iw W D R=false by unfold iw;rw[hW,hD,hRr];rfl)
     have HL:=U (qD _ _ _ _ _ _ _ _ _ _ _ (show aZ (((((((((w5.setCell (aj w0.heap.size 0) (.slice none 0 0)).setCell (aj w0.heap.size 1) (vI 0)).setCell (aj w0.heap.size 2) (vI 0)).setCell (aj w0.heap.size 3) (vI 0)).setCell (aj w0.heap.size 4) (vI 0)).setCell (aj w0.heap.size 5) (.bool false)).setCell (aj w0.heap.size 6) (.bool false)).setCell (aj w0.heap.size 7) (.chan none)).setCell (aj w0.heap.size 8) (.map none)) w0.heap.size 84 [.slice none 0 0,vI 0,vI 0,vI 0,vI 0,.bool false,.bool false,.chan none,.map none] from(((((((((mC.set 0 _).set 1 _).set 2 _).set 3 _).set 4 _).set 5 _).set 6 _).set 7 _).set 8 _)));have HB:=U (((((((((Co.setCell (p:=(aj w0.heap.size 0)) hle (.slice none 0 0)).setCell (p:=(aj w0.heap.size 1)) hle (vI 0)).setCell (p:=(aj w0.heap.size 2)) hle (vI 0)).setCell (p:=(aj w0.heap.size 3)) hle (vI 0)).setCell (p:=(aj w0.heap.size 4)) hle (vI 0)).setCell (p:=(aj w0.heap.size 5)) hle (.bool false)).setCell (p:=(aj w0.heap.size 6)) hle (.bool false)).setCell (p:=(aj w0.heap.size 7)) hle (.chan none)).setCell (p:=(aj w0.heap.size 8)) hle (.map none));clear mC
     go_wp2_with fail
     (try simp only[Exit.inBlock,Exit.then])
     refine⟨rfl,.tuple #[.agg #[.slice none 0 0,vI 0,vI 0,vI 0,vI 0,.bool false,.bool false,.chan none,.map none],vI 9],?_,HB.o,Or.inr (Or.inl ⟨rfl,HA.o,HO.o⟩)⟩;rw[results_cell_tmp rfl];have:=HL.o;simp[asAddr,this]
    ·have HO:=U (show iw W D R=true by unfold iw;rw[hW,hD,hRr];rfl)
     have HR5:=U mC;have HM6:=U (show aZ (w5.alloc (.cells #[.slice a n c,vI W,vI D,vI R,vI 0,.bool false,.bool false,.chan none,.map none] 84)) w5.heap.size 84 [.slice a n c,vI W,vI D,vI R,vI 0,.bool false,.bool false,.chan none,.map none] from heap_alloc_new w5 _);have HB6:=U (show Below w5.heap.size w5 (w5.alloc (.cells #[.slice a n c,vI W,vI D,vI R,vI 0,.bool false,.bool false,.chan none,.map none] 84)) from(Below.refl _ _).alloc (Nat.le_refl _) _);clear mC
     go_wp2_with fail
     refine(qR (w5.alloc (.cells #[.slice a n c,vI W,vI D,vI R,vI 0,.bool false,.bool false,.chan none,.map none] 84)) w5.heap.size 84 _ _ _ _ 0 false false _ _ [] HM6.o).mono ?_;rintro e w7 ⟨rfl,q,m,hq,hm,BP,hQ7,hW7,hC7⟩;have asW:=HR5.o.lt;have akY:=HB6.o.size;have hzB:=Co.size;have Wo:Below w5.heap.size w5 w7:=(HB6.o).trans (hC7.below akY (fun i e=>by omega));have sU:=HR5.o.below Wo;have k0:=sU.ce 0 rfl;have l0:=sU.aq 0;have k1:=sU.ce 1 rfl;have l1:=sU.aq 1;have k2:=sU.ce 2 rfl;have l2:=sU.aq 2;have k3:=sU.ce 3 rfl;have l3:=sU.aq 3;have k4:=sU.ce 4 rfl;have l4:=sU.aq 4;have k5:=sU.ce 5 rfl;have l5:=sU.aq 5;have k6:=sU.ce 6 rfl;have l6:=sU.aq 6;have k7:=sU.ce 7 rfl;have l7:=sU.aq 7;have k8:=sU.ce 8 rfl;have l8:=sU.aq 8;have m0:=BP.ce 0 rfl;have m1:=BP.ce 1 rfl;have m2:=BP.ce 2 rfl;have m3:=BP.ce 3 rfl;have m4:=BP.ce 4 rfl;have m5:=BP.ce 5 rfl;have m6:=BP.ce 6 rfl;have m7:=BP.ce 7 rfl;have m8:=BP.ce 8 rfl;have hbC:Below w.heap.size w w7:=Co.trans (Wo.mono hzB);have HL:=U (qD _ _ _ _ _ _ _ _ _ _ _ (show aZ (((((((((w7.setCell (aj w0.heap.size 0) (.slice a n c)).setCell (aj w0.heap.size 1) (vI W)).setCell (aj w0.heap.size 2) (vI D)).setCell (aj w0.heap.size 3) (vI R)).setCell (aj w0.heap.size 4) (vI 0)).setCell (aj w0.heap.size 5) (.bool false)).setCell (aj w0.heap.size 6) (.bool false)).setCell (aj w0.heap.size 7) (.chan (some q))).setCell (aj w0.heap.size 8) (.map (some m))) w0.heap.size 84 [.slice a n c,vI W,vI D,vI R,vI 0,.bool false,.bool false,.chan (some q),.map (some m)] from(((((((((sU.set 0 _).set 1 _).set 2 _).set 3 _).set 4 _).set 5 _).set 6 _).set 7 _).set 8 _)));have HB:=U (((((((((hbC.setCell (p:=(aj w0.heap.size 0)) hle (.slice a n c)).setCell (p:=(aj w0.heap.size 1)) hle (vI W)).setCell (p:=(aj w0.heap.size 2)) hle (vI D)).setCell (p:=(aj w0.heap.size 3)) hle (vI R)).setCell (p:=(aj w0.heap.size 4)) hle (vI 0)).setCell (p:=(aj w0.heap.size 5)) hle (.bool false)).setCell (p:=(aj w0.heap.size 6)) hle (.bool false)).setCell (p:=(aj w0.heap.size 7)) hle (.chan (some q))).setCell (p:=(aj w0.heap.size 8)) hle (.map (some m)));have HBw:Hid (Below w5.heap.size w5 (((((((((w7.setCell (aj w0.heap.size 0) (.slice a n c)).setCell (aj w0.heap.size 1) (vI W)).setCell (aj w0.heap.size 2) (vI D)).setCell (aj w0.heap.size 3) (vI R)).setCell (aj w0.heap.size 4) (vI 0)).setCell (aj w0.heap.size 5) (.bool false)).setCell (aj w0.heap.size 6) (.bool false)).setCell (aj w0.heap.size 7) (.chan (some q))).setCell (aj w0.heap.size 8) (.map (some m)))∨True):=Or.inr trivial;have HCh:Hid (aQ (fun k=>k=w0.heap.size) w7 (((((((((w7.setCell (aj w0.heap.size 0) (.slice a n c)).setCell (aj w0.heap.size 1) (vI W)).setCell (aj w0.heap.size 2) (vI D)).setCell (aj w0.heap.size 3) (vI R)).setCell (aj w0.heap.size 4) (vI 0)).setCell (aj w0.heap.size 5) (.bool false)).setCell (aj w0.heap.size 6) (.bool false)).setCell (aj w0.heap.size 7) (.chan (some q))).setCell (aj w0.heap.size 8) (.map (some m)))):=U ((((((((((aQ.refl (fun k=>k=w0.heap.size) w7).setCell (aj w0.heap.size 0) _ (fun _=>rfl)).setCell (aj w0.heap.size 1) _ (fun _=>rfl)).setCell (aj w0.heap.size 2) _ (fun _=>rfl)).setCell (aj w0.heap.size 3) _ (fun _=>rfl)).setCell (aj w0.heap.size 4) _ (fun _=>rfl)).setCell (aj w0.heap.size 5) _ (fun _=>rfl)).setCell (aj w0.heap.size 6) _ (fun _=>rfl)).setCell (aj w0.heap.size 7) _ (fun _=>rfl)).setCell (aj w0.heap.size 8) _ (fun _=>rfl));have HQ7:=U hQ7;have HW7:=U hW7;have HI7:=U (HI.o.below Wo);clear sU BP hQ7 hW7 hC7 Wo
     go_wp2_with fail
     (try simp only[Exit.inBlock,Exit.then])
     refine⟨rfl,.tuple #[.agg #[.slice a n c,vI W,vI D,vI R,vI 0,.bool false,.bool false,.chan (some q),.map (some m)],vI 0],?_,HB.o,Or.inr (Or.inr ⟨a,n,c,q,m,X,rfl,HA.o,HO.o,h4,HP.o,hl,?_,by omega,by omega,HQ7.o.dW HCh.o (by omega),HW7.o.dW HCh.o (by omega)⟩)⟩
     ·rw[results_cell_tmp rfl]
      have:=HL.o;simp[asAddr,this]
     ·have uG:=HI7.o
      exact⟨cm (HCh.o.own uG.own (fun g hg e=>by have:=(uG.own.lt g hg).1;omega)) (by omega),fun x hx=>⟨cm (HCh.o.own (uG.nest x hx).f (fun g hg e=>by have:=((uG.nest x hx).f.lt g hg).1;omega)) (by omega),cm (HCh.o.own (uG.nest x hx).n (fun g hg e=>by have:=((uG.nest x hx).n.lt g hg).1;omega)) (by omega)⟩⟩
 ·have HA:=U (show ∃ E0 P0,cC s E0 P0∧E0≠0 from⟨E,P,hA,hE0⟩)
  obtain⟨KO,uA⟩:=hA.range;have hEB:(E != 0)=true:=by simpa using hE0
  clear hA hR;have HL:=U (qD _ _ _ _ _ _ _ _ _ _ _ (show aZ (((((((((w2.setCell (aj w0.heap.size 0) (.slice none 0 0)).setCell (aj w0.heap.size 1) (vI 0)).setCell (aj w0.heap.size 2) (vI 0)).setCell (aj w0.heap.size 3) (vI 0)).setCell (aj w0.heap.size 4) (vI 0)).setCell (aj w0.heap.size 5) (.bool false)).setCell (aj w0.heap.size 6) (.bool false)).setCell (aj w0.heap.size 7) (.chan none)).setCell (aj w0.heap.size 8) (.map none)) w0.heap.size 84 [.slice none 0 0,vI 0,vI 0,vI 0,vI 0,.bool false,.bool false,.chan none,.map none] from(((((((((mC.set 0 _).set 1 _).set 2 _).set 3 _).set 4 _).set 5 _).set 6 _).set 7 _).set 8 _)));have HB:=U (((((((((Co.setCell (p:=(aj w0.heap.size 0)) hle (.slice none 0 0)).setCell (p:=(aj w0.heap.size 1)) hle (vI 0)).setCell (p:=(aj w0.heap.size 2)) hle (vI 0)).setCell (p:=(aj w0.heap.size 3)) hle (vI 0)).setCell (p:=(aj w0.heap.size 4)) hle (vI 0)).setCell (p:=(aj w0.heap.size 5)) hle (.bool false)).setCell (p:=(aj w0.heap.size 6)) hle (.bool false)).setCell (p:=(aj w0.heap.size 7)) hle (.chan none)).setCell (p:=(aj w0.heap.size 8)) hle (.map none));clear mC
  go_wp2_with fail
  (try simp only[Exit.inBlock,Exit.then])
  refine⟨rfl,.tuple #[.agg #[.slice none 0 0,vI 0,vI 0,vI 0,vI 0,.bool false,.bool false,.chan none,.map none],vI 8],?_,HB.o,Or.inl ⟨rfl,HA.o⟩⟩;rw[results_cell_tmp rfl];have:=HL.o;simp[asAddr,this]
theorem oC.nil(w:World)(lo:Nat):oC w lo (.slice none 0 0) []:=⟨World.ownsRow_nil _ _ _ _,fun t ht=>by simp at ht,by simp,fun t ht=>by simp at ht,fun i j x y hx=>by simp at hx⟩
theorem oC.push{w':World}{v':Value}(h:oC w lo v Ts)(Gn:∀ k,k<w.heap.size→v.ownBlock≠some k→w'.heap[k]? = w.heap[k]?)(hk:t.dJ=.slice none 0 0)(Pm:t.kv=[])(iZ:w.heap.size≤t.ap)(hB:aZ w' t.ap 108 (nP t))(dP:rH w' lo 100 v' ((Ts++[t]).map (fun t=>t.ap))):oC w' lo v' (Ts++[t]):=by
 refine⟨dP,fun x hx=>?_,?_,fun x hx=>?_,fun i j x y hi hj U0 g hg=>?_⟩
 ·rcases List.mem_append.1 hx with hx | hx
  ·have hb:=h.ue x hx
   exact(Gn x.ap hb.lt (hb.bY h.row ajF)).trans hb
  ·simp at hx;subst hx;exact hB
 ·rw[List.map_append,List.nodup_append]
  refine⟨h.qc,by simp,fun a ha b hb=>?_⟩;simp at hb;subst hb;obtain⟨x,hx,rfl⟩:=List.mem_map.1 ha;have:=(h.ue x hx).lt;omega
 ·rcases List.mem_append.1 hx with hx | hx
  ·have M6:=h.dJ x hx
   exact⟨aH M6.1 (fun g hg=>Gn g (M6.1.lt g hg).2 (fun e=>JW h.row M6.1 ajG e hg rfl)),M6.2⟩
  ·simp at hx;subst hx
   rw[hk,Pm];exact⟨World.ownsRow_nil _ _ _ _,by simp,by simp⟩
 ·have hold:∀ {i:Nat} {x:pO},(Ts++[t])[i]? = some x→Ts[i]? = some x∨(i=Ts.length∧x=t):=fun {i x} hi=>by
   rcases Nat.lt_or_ge i Ts.length with h' | h'
   ·rw[List.getElem?_append_left h'] at hi;exact Or.inl hi
   ·rw[List.getElem?_append_right h'] at hi
    have:=at_lt hi;simp at this;have e:i=Ts.length:=by omega
    subst e;simp at hi;exact Or.inr ⟨rfl,hi.symm⟩
  rcases hold hi with hi | ⟨rfl,rfl⟩
  ·rcases hold hj with hj | ⟨rfl,rfl⟩
   ·exact h.xd i j x y hi hj U0 g hg
   ·rw[hk];simp[Value.ownBlock]
  ·rw[hk] at hg;simp[Value.ownBlock] at hg
structure gH(lo:Nat)(X:List PIV)(Ts:List pO):Prop where
 low:∀ t∈Ts,lo≤t.ap
 map:Ts.map (fun t=>(t.name,t.base))=(X.filter (fun x=>x.it.kind==2)).map (fun x=>(x.it.name.text,jA x.it.base))
 fj:∀ t∈Ts,t.count=0∧t.kv=[]∧t.bD=false
theorem gH.l9(h:gH lo X Ts)(hl:lo'≤lo):gH lo' X Ts:=⟨fun t ht=>Nat.le_trans hl (h.low t ht),h.map,h.fj⟩
theorem gH.skip(h:gH lo X Ts)(hx:(x.it.kind==2)=false):gH lo (X++[x]) Ts:=⟨h.low,by rw[List.filter_append,List.filter_cons_of_neg (by simp[hx])];simpa using h.map,h.fj⟩
theorem gH.add(h:gH lo X Ts)(di:lo≤t.ap)(hx:(x.it.kind==2)=true)(hn:t.name=x.it.name.text)(hb:t.base=jA x.it.base)(hf:t.count=0∧t.kv=[]∧t.bD=false):gH lo (X++[x]) (Ts++[t]) :=
 ⟨fun y hy=>by
  rcases List.mem_append.1 hy with hy | hy
  ·exact h.low y hy
  ·simp at hy;subst hy;exact di,by rw[List.filter_append,List.filter_cons_of_pos (by simpa using hx),List.map_append,List.map_append,h.map];simp[hn,hb],fun y hy=>by
  rcases List.mem_append.1 hy with hy | hy
  ·exact h.fj y hy
  ·simp at hy;subst hy;exact hf⟩
theorem gH.len(h:gH lo X Ts):Ts.length≤X.length:=by
 have:=congrArg List.length h.map;rw[List.length_map,List.length_map] at this;rw[this];exact List.length_filter_le _ _
theorem Tryz.infoTopP:(Tryz.prog.info? 100).map (fun i=>(i.zero,i.size,i.bytes))=some (some (.pointer none),1,8):=by kernel_rfl
theorem oO(w:World)(lo:Nat)(la:Option Addr)(ll lc:Nat)(X:List PIV)(h:PIts w lo (.slice la ll lc) X)(hn:Nms X)(hX:X.length≤400):
  aT 44 #[.slice la ll lc] w (fun e w'=>∃ (a:Option Addr) (n c:Nat) (Ts:List pO),e=.returned (.slice a n c)∧oC w' w.heap.size (.slice a n c) Ts∧gH w.heap.size X Ts∧Below w.heap.size w w'):=by
 have hll:ll=X.length:=by
  obtain⟨a,c,e⟩:=ax h.own;simpa using congrArg (fun v=>match v with | Value.slice _ n _=>n | _=>0) e
 subst hll;have H:=U h;have HN:=U hn;clear h hn
 go_enter func44,ntmps44
 go_wp2_with fail
 go_loopg [3,5,8] X.length (fun gk tv t i wr=>∃ (k:Nat) (Ts:List pO),k+gk=X.length∧i=.int .i64 k∧Hid (oC wr w.heap.size tv Ts)∧Hid (gH w.heap.size (X.take k) Ts)∧Below w.heap.size w wr)
 case atStart=>exact⟨0,[],by omega,rfl,U (oC.nil _ _),U ⟨fun t ht=>by simp at ht,by simp,fun t ht=>by simp at ht⟩,Below.refl _ _⟩
 case round=>
  obtain⟨k,Ts,hk,rfl,HT,HR,bi⟩:=hrel;obtain⟨ta,tc,rfl⟩:=HT.o.row.slice
  by_cases bC:k<X.length
  ·obtain⟨x,hx⟩:∃ x,X[k]? = some x:=⟨X[k],List.getElem?_eq_getElem bC⟩
   have ph:=U (show X.take (k+1)=X.take k++[x] by rw[List.take_add_one,hx];rfl);obtain⟨g,cap,hv,vH,xT⟩:=fT H.o.own (by omega);obtain⟨rfl,rfl⟩:la=some ⟨g,0,none⟩∧lc=cap:=by simpa using hv
   obtain⟨n,hn⟩:=(H.o.below bi).itemAt HN.o hx;have hs:=hn.seg;have HBA:=U hn.base;clear hx hv hn;have c0:=hs.cell (j:=0) rfl;have c1:=hs.cell (j:=1) rfl;have c2:=hs.cell (j:=2) rfl;have c3:=hs.cell (j:=3) rfl;have c4:=hs.cell (j:=4) rfl;have c5:=hs.cell (j:=5) rfl;have c6:=hs.cell (j:=6) rfl;have c7:=hs.cell (j:=7) rfl;have c8:=hs.cell (j:=8) rfl;simp only[Nat.add_zero] at c0;have ej:(k:Int)<(X.length:Int):=by omega
   have YW:((x.it.kind:Int)==2)=(x.it.kind==2):=by rw[Bool.eq_iff_iff];simp;omega
   have HKI:=U YW;clear hs YW;cases iD:((x.it.kind:Int)==2)
   ·have HKD:=U (HKI.o.symm.trans iD)
    go_wp2_with fail
    go_roundg (gk-1)
    case rel=>
     have aA:Below wr.heap.size wr (wr.alloc (.cells #[.int .i64 x.it.kind,.string x.it.name.text,.int .i64 x.it.name.at_,.slice n.fa x.it.fields.length n.fc,.slice n.na x.it.names.length n.nc,.string n.bb,.int .i64 n.ba,.string n.ab,.int .i64 n.aa] 117)):=(Below.refl _ _).alloc (Nat.le_refl _) _;exact⟨k+1,Ts,by omega,by go_num,U (HT.o.below aA),U (by rw[ph.o];exact HR.o.skip HKD.o),bi.trans (aA.mono bi.size)⟩
    case measure=>omega
   ·have HKD:=U (HKI.o.symm.trans iD)
    have hTl:Ts.length≤400:=by have:=HR.o.len;have:=List.length_take_le k X;omega
    have bP:Below wr.heap.size wr (((wr.alloc (.cells #[.int .i64 x.it.kind,.string x.it.name.text,.int .i64 x.it.name.at_,.slice n.fa x.it.fields.length n.fc,.slice n.na x.it.names.length n.nc,.string n.bb,.int .i64 n.ba,.string n.ab,.int .i64 n.aa] 117)).alloc (.cells #[.string x.it.name.text,.string n.bb,.int .u64 0,.slice none 0 0,.bool false] 108)).alloc (.cells #[.pointer (some ⟨wr.heap.size+1,0,none⟩)] 100)):=qB wr _ _ _;have ho3:World.ownsRow (((wr.alloc (.cells #[.int .i64 x.it.kind,.string x.it.name.text,.int .i64 x.it.name.at_,.slice n.fa x.it.fields.length n.fc,.slice n.na x.it.names.length n.nc,.string n.bb,.int .i64 n.ba,.string n.ab,.int .i64 n.aa] 117)).alloc (.cells #[.string x.it.name.text,.string n.bb,.int .u64 0,.slice none 0 0,.bool false] 108)).alloc (.cells #[.pointer (some ⟨wr.heap.size+1,0,none⟩)] 100)) w.heap.size 100 1 (.slice ta (Ts.map (fun t=>t.ap)).length tc) (Ts.map (fun t=>t.ap)).length ((Ts.map (fun t=>t.ap)).map aJ):=aH HT.o.row (fun g hg=>bP.block g (HT.o.row.lt g hg).2);have gz:aZ (((wr.alloc (.cells #[.int .i64 x.it.kind,.string x.it.name.text,.int .i64 x.it.name.at_,.slice n.fa x.it.fields.length n.fc,.slice n.na x.it.names.length n.nc,.string n.bb,.int .i64 n.ba,.string n.ab,.int .i64 n.aa] 117)).alloc (.cells #[.string x.it.name.text,.string n.bb,.int .u64 0,.slice none 0 0,.bool false] 108)).alloc (.cells #[.pointer (some ⟨wr.heap.size+1,0,none⟩)] 100)) (wr.heap.size+1) 108 [.string x.it.name.text,.string n.bb,.int .u64 0,.slice none 0 0,.bool false]:=(Dm wr _ _ _).trans (by have:=heap_alloc_new (wr.alloc (.cells #[.int .i64 x.it.kind,.string x.it.name.text,.int .i64 x.it.name.at_,.slice n.fa x.it.fields.length n.fc,.slice n.na x.it.names.length n.nc,.string n.bb,.int .i64 n.ba,.string n.ab,.int .i64 n.aa] 117)) (.cells #[.string x.it.name.text,.string n.bb,.int .u64 0,.slice none 0 0,.bool false] 108);simpa using this);have R6:aZ (((wr.alloc (.cells #[.int .i64 x.it.kind,.string x.it.name.text,.int .i64 x.it.name.at_,.slice n.fa x.it.fields.length n.fc,.slice n.na x.it.names.length n.nc,.string n.bb,.int .i64 n.ba,.string n.ab,.int .i64 n.aa] 117)).alloc (.cells #[.string x.it.name.text,.string n.bb,.int .u64 0,.slice none 0 0,.bool false] 108)).alloc (.cells #[.pointer (some ⟨wr.heap.size+1,0,none⟩)] 100)) (wr.heap.size+1+1) 100 [.pointer (some ⟨wr.heap.size+1,0,none⟩)]:=Dl wr _ _ _;have BD:=oN wr (.cells #[.int .i64 x.it.kind,.string x.it.name.text,.int .i64 x.it.name.at_,.slice n.fa x.it.fields.length n.fc,.slice n.na x.it.names.length n.nc,.string n.bb,.int .i64 n.ba,.string n.ab,.int .i64 n.aa] 117) (.cells #[.string x.it.name.text,.string n.bb,.int .u64 0,.slice none 0 0,.bool false] 108) (.cells #[.pointer (some ⟨wr.heap.size+1,0,none⟩)] 100);have hzw:=bi.size;obtain⟨N,Pc⟩:∃ N,Hid (Ts.length+1=N):=⟨_,U rfl⟩
    obtain⟨Y,HY⟩:∃ Y,Hid ((Ts.map (fun t=>t.ap)).map aJ++[.pointer (some ⟨wr.heap.size+1,0,none⟩)]=Y):=⟨_,U rfl⟩
    have QH:=U ho3;have lE:=U gz;have HN3:=U R6;have HZ3:=U BD;have Pn:(Ts.map (fun t=>t.ap)).length=Ts.length:=List.length_map ..;have HLM:=U Pn;clear ho3 gz R6 BD bP Pn
    go_wp2_with (at_builtin;refine cJ _ rfl (.tmp 15) (.tmp 24) 85 100 (.pointer none) 1 8 rfl underlying85 Tryz.infoTopP rfl (by decide) (.slice ta (Ts.map (fun t=>t.ap)).length tc) Ts.length ((Ts.map (fun t=>t.ap)).map aJ) w.heap.size (by simp[Act.eval]) (by have:=QH.o;rw[HLM.o] at this ⊢;exact this) ⟨wr.heap.size+1+1,0,none⟩ 1 1 [.pointer (some ⟨wr.heap.size+1,0,none⟩)] rfl rfl (fun j u hu=>by
     rw[dF _ _ rfl];have:=HN3.o.cell (0+j);rw[this]
     simpa using hu) (fun u hu=>by simp at hu;subst hu;rfl) N Pc.o Y HY.o (by unfold maxLen;omega) (by omega) (by have:=HZ3.o;omega) ?_)
    intro a1 c1 w1 qt ku;have KT:=U qt;have OV:=U ku;have bP:Below wr.heap.size wr (((wr.alloc (.cells #[.int .i64 x.it.kind,.string x.it.name.text,.int .i64 x.it.name.at_,.slice n.fa x.it.fields.length n.fc,.slice n.na x.it.names.length n.nc,.string n.bb,.int .i64 n.ba,.string n.ab,.int .i64 n.aa] 117)).alloc (.cells #[.string x.it.name.text,.string n.bb,.int .u64 0,.slice none 0 0,.bool false] 108)).alloc (.cells #[.pointer (some ⟨wr.heap.size+1,0,none⟩)] 100)):=qB wr _ _ _;have ak0:Below w.heap.size w w1:=bi.trans ((bP.mono hzw).trans (gd.below ku (fun k hk=>(HT.o.row.lt k (by simpa using hk)).1) (by have:=HZ3.o;omega)))
    have jP:=U (show oC w1 w.heap.size (.slice a1 N c1) (Ts++[⟨wr.heap.size+1,x.it.name.text,n.bb,0,.slice none 0 0,[],false⟩]) from by
     refine HT.o.push (fun k hk bT=>?_) rfl rfl (by show wr.heap.size≤wr.heap.size+1;omega) ?_ ?_
     ·exact(OV.o.g.block k (by have:=HZ3.o;omega) (fun e=>bT (by simpa using e.symm))).trans (bP.block k hk)
     ·exact(OV.o.g.block (wr.heap.size+1) (by have:=HZ3.o;omega) (fun e=>by
       have:=(HT.o.row.lt (wr.heap.size+1) (by simpa using e.symm)).2
       omega)).trans lE.o
     ·show World.ownsRow _ _ _ _ _ _ _
      have:=KT.o;rw[← HY.o,← Pc.o] at this;rw[← Pc.o]
      simpa[aJ] using this)
    clear qt ku
    go_wp2_with fail
    go_roundg (gk-1)
    case rel=>
     exact⟨k+1,_,by omega,by go_num,jP,U (by
      rw[ph.o]
      exact HR.o.add (by show w.heap.size≤wr.heap.size+1;omega) HKD.o rfl (by rw[HBA.o];rfl) ⟨rfl,rfl,rfl⟩),ak0⟩
    case measure=>omega
  ·have ej:¬ (k:Int)<(X.length:Int):=by omega
   have ph:=U (show X.take k=X from List.take_of_length_le (by omega))
   go_wp2_with fail
   go_ret
   exact⟨ta,_,tc,rfl,Ts,(by have h9:=HT.o;simp only[List.length_map] at h9;exact h9),by have:=HR.o;rw[ph.o] at this;exact this,bi⟩
def KU(s:ByteArray)(W D R:Int)(ah:Nat)(w:World)(e:Ending)(w':World):Prop:=Below w.heap.size w w' ∧
 ((e=.returned (.tuple #[.pointer none,.int .i64 8])∧∃ E P,cC s E P∧E≠0) ∨
  (e=.returned (.tuple #[.pointer none,.int .i64 9])∧cC s 0 0∧iw W D R=false) ∨
  (∃ (b:Nat) (a:Option Addr) (n c q m:Nat) (X:List PIV),e=.returned (.tuple #[.pointer (some ⟨b,0,none⟩),.int .i64 0])∧cC s 0 0∧iw W D R=true∧s.size≤400∧(parseP s).1=some (X.map (fun x=>x.it))∧X.length≤400∧PIts w' w.heap.size (.slice a n c) X∧w.heap.size≤b∧w.heap.size≤q∧w.heap.size≤m∧jY w' b 99 (.slice a n c) (.int .i64 W) (.int .i64 D) (.int .i64 R) 0 false false (aei ah 0 (.slice none 0 0) 0 (.slice none 0 0) 0 (.slice none 0 0) 0) [] q m))
theorem Cp(s:ByteArray)(W D R:Int)(ah:Nat)(w:World)(hE:mR w)(hs:s.size≤maxLen):
  aT 28 #[.string s,.agg #[vI W,vI D,vI R],vU ah] w (KU s W D R ah w):=by
 obtain⟨w0,nF,cj,BO⟩:=cS w [vI W,vI D,vI R] 27;have c0:=BO.ce 0 rfl;have c1:=BO.ce 1 rfl;have c2:=BO.ce 2 rfl;have HE:=U (hE.below cj);have mF:=cj.size;clear hE BO
 go_enter func28,ntmps28
 go_wp2_with fail
 refine(AE s W D R w0 HE.o hs).mono ?_;rintro e w1 ⟨aA,⟨rfl,hA⟩ | ⟨rfl,hA,hO⟩ | ⟨a,n,c,q,m,X,rfl,hA,hO,h4,hp,hl,hI,hq,hm,hQ,hW⟩⟩
 ·have HA:=U hA
  have HB:=U (show Below w.heap.size w (w1.alloc (.cells #[.slice none 0 0,vI 0,vI 0,vI 0,vI 0,.bool false,.bool false,.chan none,.map none] 84)) from(cj.trans (aA.mono mF)).alloc (by have:=aA.size;omega) _);clear hA
  go_wp2_with fail
  go_ret2
  exact⟨HB.o,Or.inl ⟨rfl,HA.o⟩⟩
 ·have HA:=U hA
  have HO:=U hO;have HB:=U (show Below w.heap.size w (w1.alloc (.cells #[.slice none 0 0,vI 0,vI 0,vI 0,vI 0,.bool false,.bool false,.chan none,.map none] 84)) from(cj.trans (aA.mono mF)).alloc (by have:=aA.size;omega) _);clear hA hO
  go_wp2_with fail
  go_ret2
  exact⟨HB.o,Or.inr (Or.inl ⟨rfl,HA.o,HO.o⟩)⟩
 ·have Wp:Below w1.heap.size w1 (w1.alloc (.cells #[.slice a n c,vI W,vI D,vI R,vI 0,.bool false,.bool false,.chan (some q),.map (some m)] 84)):=(Below.refl _ _).alloc (Nat.le_refl _) _
  have hbC:Below w1.heap.size w1 ((w1.alloc (.cells #[.slice a n c,vI W,vI D,vI R,vI 0,.bool false,.bool false,.chan (some q),.map (some m)] 84)).alloc (.cells #[.slice a n c,vI W,vI D,vI R,vI 0,.bool false,.bool false,.chan (some q),.map (some m),vU ah,vU 0,vU 0,vI 0,.slice none 0 0,vU 0,.slice none 0 0,vI 0,.slice none 0 0,vI 0] 99)):=Wp.alloc Wp.size _;have QU:aZ ((w1.alloc (.cells #[.slice a n c,vI W,vI D,vI R,vI 0,.bool false,.bool false,.chan (some q),.map (some m)] 84)).alloc (.cells #[.slice a n c,vI W,vI D,vI R,vI 0,.bool false,.bool false,.chan (some q),.map (some m),vU ah,vU 0,vU 0,vI 0,.slice none 0 0,vU 0,.slice none 0 0,vI 0,.slice none 0 0,vI 0] 99)) (w1.alloc (.cells #[.slice a n c,vI W,vI D,vI R,vI 0,.bool false,.bool false,.chan (some q),.map (some m)] 84)).heap.size 99 [.slice a n c,vI W,vI D,vI R,vI 0,.bool false,.bool false,.chan (some q),.map (some m),vU ah,vU 0,vU 0,vI 0,.slice none 0 0,vU 0,.slice none 0 0,vI 0,.slice none 0 0,vI 0]:=heap_alloc_new _ _;have ju:=aA.size;have hMz:(w1.alloc (.cells #[.slice a n c,vI W,vI D,vI R,vI 0,.bool false,.bool false,.chan (some q),.map (some m)] 84)).heap.size=w1.heap.size+1:=by simp
  rw[hMz] at QU;have afo:Below w.heap.size w ((w1.alloc (.cells #[.slice a n c,vI W,vI D,vI R,vI 0,.bool false,.bool false,.chan (some q),.map (some m)] 84)).alloc (.cells #[.slice a n c,vI W,vI D,vI R,vI 0,.bool false,.bool false,.chan (some q),.map (some m),vU ah,vU 0,vU 0,vI 0,.slice none 0 0,vU 0,.slice none 0 0,vI 0,.slice none 0 0,vI 0] 99)):=(cj.trans (aA.mono mF)).trans (hbC.mono (by omega));have HB:=U afo;have HBC:=U QU;have HQ:=U (hQ.dW (F:=fun _=>False) (aQ.aI hbC) id);have HW:=U (hW.dW (F:=fun _=>False) (aQ.aI hbC) id);have HI:=U (hI.below hbC);have HA:=U hA;have HO:=U hO;have HP:=U hp;clear hQ hW hI hA hO hp afo QU hbC Wp hMz
  go_wp2_with fail
  go_ret2
  refine⟨HB.o,Or.inr (Or.inr ⟨w1.heap.size+1,a,n,c,q,m,X,rfl,HA.o,HO.o,h4,HP.o,hl,?_,by omega,by omega,by omega,⟨HBC.o,HQ.o,HW.o⟩⟩)⟩;exact⟨cm HI.o.own mF,fun x hx=>⟨cm (HI.o.nest x hx).f mF,cm (HI.o.nest x hx).n mF⟩⟩
def sV(s:ByteArray)(W D R:Int)(w:World)(e:Ending)(w':World):Prop:=Below w.heap.size w w' ∧
 ((e=.returned (.tuple #[.pointer none,.int .i64 8])∧∃ E P,cC s E P∧E≠0) ∨
  (e=.returned (.tuple #[.pointer none,.int .i64 9])∧cC s 0 0∧iw W D R=false) ∨
  (∃ (b:Nat) (a:Option Addr) (n c q m:Nat) (X:List PIV) (au:Value) (ms mo:Nat) (Ts:List pO),e=.returned (.tuple #[.pointer (some ⟨b,0,none⟩),.int .i64 0])∧cC s 0 0∧iw W D R=true∧s.size≤400∧(parseP s).1=some (X.map (fun x=>x.it))∧X.length≤400∧PIts w' w.heap.size (.slice a n c) X∧w.heap.size≤b∧w.heap.size≤q∧w.heap.size≤m∧jY w' b 91 (.slice a n c) (.int .i64 W) (.int .i64 D) (.int .i64 R) 0 false false (ZH au ms mo) [] q m∧oC w' w.heap.size au Ts∧gH w.heap.size X Ts∧pJ w' ms∧pJ w' mo∧w.heap.size≤ms∧w.heap.size≤mo∧ms≠mo∧ms≠m∧mo≠m))
theorem vS(w:World)(o1 o2:Obj):Below w.heap.size w ((w.alloc o1).alloc o2):=by
 have h1:Below w.heap.size w (w.alloc o1):=(Below.refl _ _).alloc (Nat.le_refl _) _;exact h1.alloc h1.size o2
theorem M7(w:World)(o1 o2:Obj):((w.alloc o1).alloc o2).heap[w.heap.size]? = (w.alloc o1).heap[w.heap.size]? :=
 ((Below.refl _ (w.alloc o1)).alloc (Nat.le_refl _) o2).block _ (by simp)
theorem M8(w:World)(o1 o2:Obj):((w.alloc o1).alloc o2).heap[w.heap.size+1]? = some o2:=by
 have:=heap_alloc_new (w.alloc o1) o2;simpa using this
theorem Wq(w:World)(o1:Obj):w.heap.size<(w.alloc o1).drew.heap.size:=by
 show w.heap.size<(w.alloc o1).heap.size;simp
theorem Wr(w:World)(o1 o2:Obj):w.heap.size<((w.alloc o1).alloc o2).drew.heap.size:=by
 show w.heap.size<((w.alloc o1).alloc o2).heap.size;have:((w.alloc o1).alloc o2).heap.size=w.heap.size+2:=by simp
 omega
theorem Ws(w:World)(o1 o2:Obj):w.heap.size+1<((w.alloc o1).alloc o2).drew.heap.size:=by
 show w.heap.size+1<((w.alloc o1).alloc o2).heap.size;have:((w.alloc o1).alloc o2).heap.size=w.heap.size+2:=by simp
 omega
theorem Dn{lv:Value}(h:PIts w lo lv X)(hl:lo'≤lo):PIts w lo' lv X:=⟨cm h.own hl,fun x hx=>⟨cm (h.nest x hx).f hl,cm (h.nest x hx).n hl⟩⟩
theorem oC.l9(h:oC w lo v Ts)(hl:lo'≤lo):oC w lo' v Ts:=⟨cm h.row hl,h.ue,h.qc,fun t ht=>⟨cm (h.dJ t ht).1 hl,(h.dJ t ht).2⟩,h.xd⟩
theorem Wt(mP:W0.heap.size=b){ta:Option Addr}{tn tc:Nat}{X:List PIV}{Ts:List pO}
  (hq:sD W0 q []) (hw:cK W0 m []) (hI:PIts W0 lo (.slice a n c) X) (hT:oC W0 lo' (.slice ta tn tc) Ts) (BQ:gH lo' X Ts) (hms:pJ W0 ms) (hmo:pJ W0 mo) (di:w.heap.size≤lo) (afp:w.heap.size≤lo') (lq:w.heap.size≤q) (lm:w.heap.size≤m) (lms:w.heap.size≤ms) (lmo:w.heap.size≤mo) (n1:ms≠mo) (n2:ms≠m) (n3:mo≠m)
  (hA:cC s 0 0) (hO:iw W D R=true) (h4:s.size≤400) (hp:(parseP s).1=some (X.map (fun x=>x.it))) (hl:X.length≤400) (hb:Below w.heap.size w W0) :
  sV s W D R w (.returned (.tuple #[aM b,vI 0])) (W0.alloc (.cells #[.slice a n c,vI W,vI D,vI R,vI 0,.bool false,.bool false,.chan (some q),.map (some m),.slice ta tn tc,.map (some ms),.pointer none,vU 0,.slice none 0 0,vI 0,.map (some mo)] 91)):=by
 subst mP;have Co:Below W0.heap.size W0 (W0.alloc (.cells #[.slice a n c,vI W,vI D,vI R,vI 0,.bool false,.bool false,.chan (some q),.map (some m),.slice ta tn tc,.map (some ms),.pointer none,vU 0,.slice none 0 0,vI 0,.map (some mo)] 91)):=(Below.refl _ _).alloc (Nat.le_refl _) _;have EU:aZ (W0.alloc (.cells #[.slice a n c,vI W,vI D,vI R,vI 0,.bool false,.bool false,.chan (some q),.map (some m),.slice ta tn tc,.map (some ms),.pointer none,vU 0,.slice none 0 0,vI 0,.map (some mo)] 91)) W0.heap.size 91 [.slice a n c,vI W,vI D,vI R,vI 0,.bool false,.bool false,.chan (some q),.map (some m),.slice ta tn tc,.map (some ms),.pointer none,vU 0,.slice none 0 0,vI 0,.map (some mo)]:=heap_alloc_new W0 _;exact⟨hb.trans (Co.mono hb.size),Or.inr (Or.inr ⟨W0.heap.size,a,n,c,q,m,X,.slice ta tn tc,ms,mo,Ts,rfl,hA,hO,h4,hp,hl,Dn (hI.below Co) di,hb.size,lq,lm,⟨EU,hq.dW (F:=fun _=>False) (aQ.aI Co) id,hw.dW (F:=fun _=>False) (aQ.aI Co) id⟩,(hT.below Co).l9 afp,BQ.l9 afp,hms.dW (F:=fun _=>False) (aQ.aI Co) id,hmo.dW (F:=fun _=>False) (aQ.aI Co) id,lms,lmo,n1,n2,n3⟩)⟩
theorem afq{wM w2:World}{ta:Option Addr}{tn tc:Nat}
  (hq:sD wM q []) (hw:cK wM m []) (hI:PIts wM lo (.slice a n c) X) (hT:oC w2 wM.heap.size (.slice ta tn tc) Ts) (BQ:gH wM.heap.size X Ts) (di:w.heap.size≤lo) (lq:w.heap.size≤q) (lm:w.heap.size≤m)
  (hA:cC s 0 0) (hO:iw W D R=true) (h4:s.size≤400) (hp:(parseP s).1=some (X.map (fun x=>x.it))) (hl:X.length≤400) (hb:Below w.heap.size w wM) (aW:Below wM.heap.size wM w2) (hW0:Below w2.heap.size w2 W0) (mP:W0.heap.size=b) (hms:pJ W0 ms) (hmo:pJ W0 mo) (lms:wM.heap.size≤ms) (lmo:wM.heap.size≤mo) (n1:ms≠mo) :
  sV s W D R w (.returned (.tuple #[aM b,vI 0])) (W0.alloc (.cells #[.slice a n c,vI W,vI D,vI R,vI 0,.bool false,.bool false,.chan (some q),.map (some m),.slice ta tn tc,.map (some ms),.pointer none,vU 0,.slice none 0 0,vI 0,.map (some mo)] 91)):=by
 have hzM:=hb.size;have JB:=hw.lt;have ja:=aW.trans (hW0.mono aW.size);exact Wt mP (hq.dW (F:=fun _=>False) (aQ.aI ja) id) (hw.dW (F:=fun _=>False) (aQ.aI ja) id) (hI.below ja) (hT.below hW0) BQ hms hmo di (lo':=wM.heap.size) hzM lq lm (by omega) (by omega) n1 (by omega) (by omega) hA hO h4 hp hl (hb.trans (ja.mono hzM))
end Go.Proofs.YtkpfplbmmglkkaaGreatDoor
