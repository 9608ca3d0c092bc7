/- The parser of package schemas: step, mark, word; isWord, IsBuiltin. -/
import Derived.Test.YtolfcabodiphmaaGreatDoorV05
import Derived.Deep.QuietTactic
import Derived.BigQuiet
import Derived.Lib.SmallJoins
import Derived.Deep.RegionLaw
import Derived.Deep.AppendLies
set_option linter.unusedSimpArgs false
set_option linter.unusedVariables false
set_option maxHeartbeats 4000000
set_option maxRecDepth 100000
namespace Go.Proofs.YtolfcabodiphmaaGreatDoor
open Go.Proofs.Tryz
open Go.RowKit
structure But(pb:Nat)(w w':World):Prop where
 os:w'.os=w.os
 tape:w'.tape=w.tape
 output:w'.output=w.output
 size:w.heap.size≤w'.heap.size
 block:∀ k,k<w.heap.size→k≠pb→w'.heap[k]? = w.heap[k]?
theorem But.refl(pb:Nat)(w:World):But pb w w:=⟨rfl,rfl,rfl,Nat.le_refl _,fun _ _ _=>rfl⟩
theorem But.trans{pb:Nat}{a b c:World}(h:But pb a b)(k:But pb b c):But pb a c :=
 ⟨k.os.trans h.os,k.tape.trans h.tape,k.output.trans h.output,Nat.le_trans h.size k.size,fun i hi hp=>(k.block i (Nat.lt_of_lt_of_le hi h.size) hp).trans (h.block i hi hp)⟩
theorem But.bG{pb:Nat}{w w':World}(h:Below w.heap.size w w'):But pb w w':=⟨h.os,h.tape,h.output,h.size,fun k hk _=>h.block k hk⟩
theorem But.setCell{pb:Nat}{w w':World}(h:But pb w w')(q:Nat)(v:Value):But pb w (w'.setCell ⟨pb,q,none⟩ v) :=
 ⟨h.os,h.tape,h.output,by simpa[World.setCell] using h.size,fun k hk hp=>(Below.heap_setCell _ _ _ _ hp).trans (h.block k hk hp)⟩
theorem But.drew{pb:Nat}{w w':World}(h:But pb w w'):But pb w w'.drew:=⟨h.os,h.tape,h.output,h.size,h.block⟩
theorem Vars.but{pb:Nat}{w w':World}(h:Vars w)(hb:But pb w w')(h1:pb ≠ 3)(h2:pb ≠ 4):Vars w':=by
 obtain⟨te,pe,e1⟩:=h.sx
 obtain⟨tf,pf,e2⟩:=h.rg
 have l1:=h.X6
 have l2:=h.X7
 exact⟨⟨te,pe,(World.cell?_of_block (w:=w) (a:=⟨3,0,none⟩) (hb.block _ l1 (Ne.symm h1))).trans e1⟩,⟨tf,pf,(World.cell?_of_block (w:=w) (a:=⟨4,0,none⟩) (hb.block _ l2 (Ne.symm h2))).trans e2⟩,Nat.lt_of_lt_of_le l1 hb.size,Nat.lt_of_lt_of_le l2 hb.size⟩
def Gt(s:ByteArray)(t:aN):List Value:=[.string s,.int .i64 t.kind,.string t.text,.int .i64 t.at_]
structure Ps(w:World)(pb:Nat)(s:ByteArray)(t:aN):Prop where
 seg:Seg w pb 214 0 (Gt s t)
 vars:Vars w
 ne1:pb ≠ 3
 ne2:pb ≠ 4
 fit:t.at_+t.text.size≤s.size
 sz:s.size≤400
theorem Ps.below{w w':World}{pb:Nat}{s:ByteArray}{t:aN}(h:Ps w pb s t)(hb:Below w.heap.size w w'):Ps w' pb s t :=
 ⟨h.seg.same (hb.block pb h.seg.lt),h.vars.below hb,h.ne1,h.ne2,h.fit,h.sz⟩
def aj(s:ByteArray)(t:aN):aN:=jw s (t.at_+t.text.size)
def dW(b:Bool)(s:ByteArray)(t:aN):aN:=match b with | true=>aj s t | false=>t
theorem Bc(s:ByteArray)(k:Nat)(hk:k≤s.size):(jq s k).at_+(jq s k).text.size≤s.size:=by
 unfold jq
 split
 ·show k+0≤s.size;omega
 ·split
  ·simp[ByteArray.size_extract];omega
  ·have:=yj s s.size k hk
   have:=yh s s.size k
   simp[ByteArray.size_extract];omega
theorem Qd{s:ByteArray}{t:aN}(h:t.at_+t.text.size≤s.size):(aj s t).at_+(aj s t).text.size≤s.size :=
 Bc s _ (Gq s _ h)
theorem Jg(w:World)(pb:Nat)(s:ByteArray)(t:aN)(h:Ps w pb s t):
  Calls Tryz.prog 133 #[.pointer (some ⟨pb,0,none⟩)] w fun e w'=>e=.returned (.tuple #[])∧Ps w' pb s (aj s t)∧But pb w w':=by
 have c0:=h.seg.cell (j:=0) (v:=.string s) rfl
 have c1:=h.seg.cell (j:=1) (v:=.int .i64 t.kind) rfl
 have c2:=h.seg.cell (j:=2) (v:=.string t.text) rfl
 have c3:=h.seg.cell (j:=3) (v:=.int .i64 t.at_) rfl
 simp only[Nat.zero_add] at c0 c1 c2 c3
 have hfit:=h.fit
 have hsz:=h.sz
 have hwr:IntKind.i64.wrap ((t.at_:Int)+(t.text.size:Int))=(t.at_:Int)+(t.text.size:Int):=zk _ (by omega) (by omega)
 have hcast:(t.at_:Int)+(t.text.size:Int)=((t.at_+t.text.size:Nat):Int):=by omega
 have HC:=hid hcast
 have H:=hid h
 clear h hcast
 go_enter func133,ntmps133
 go_wp2_with fail
 go_region_with (go_at_call 180;rw[HC.out];refine(Uk s (t.at_+t.text.size) _ (H.out.vars.below (Below.refl _ _).drew) hsz hfit).mono ?_;rintro e w4 ⟨rfl,hb4⟩;have vT:=(H.out.below (Below.refl _ _).drew).below hb4;have y1:=vT.seg.cell (j:=1) (v:=.int .i64 t.kind) rfl;have y2:=vT.seg.cell (j:=2) (v:=.string t.text) rfl;have y3:=vT.seg.cell (j:=3) (v:=.int .i64 t.at_) rfl;have yf:∀ j,w4.frozen? ⟨pb,j,none⟩=false:=fun j=>vT.seg.frozen j;simp only[Nat.zero_add] at y1 y2 y3)
 all_goals
  go_wp2_with fail
  go_end0
  have hb5:Below w.heap.size w w4:=((Below.refl w.heap.size w).drew).trans hb4
  have uz:=(((But.bG (pb:=pb) hb5).setCell 1 (.int .i64 (jw s (t.at_+t.text.size)).kind)).setCell 2 (.string (jw s (t.at_+t.text.size)).text)).setCell 3 (.int .i64 (jw s (t.at_+t.text.size)).at_)
  have hseg:=((vT.seg.set 1 (.int .i64 (jw s (t.at_+t.text.size)).kind)).set 2 (.string (jw s (t.at_+t.text.size)).text)).set 3 (.int .i64 (jw s (t.at_+t.text.size)).at_)
  simp only[Nat.zero_add] at hseg
  exact⟨rfl,⟨hseg,H.out.vars.but uz H.out.ne1 H.out.ne2,H.out.ne1,H.out.ne2,Qd hfit,hsz⟩,uz⟩
theorem jV(w:World)(pb:Nat)(s:ByteArray)(t:aN)(k:Nat)(h:Ps w pb s t):
  Calls Tryz.prog 219 #[.pointer (some ⟨pb,0,none⟩),.int .i64 k] w fun e w'=>e=.returned (.bool (t.kind==k))∧Ps w' pb s (dW (t.kind==k) s t)∧But pb w w':=by
 have c1:=h.seg.cell (j:=1) (v:=.int .i64 t.kind) rfl
 simp only[Nat.zero_add] at c1
 have H:=hid h
 clear h
 cases hk:(t.kind==k) with
 | true=>
  have hne:((t.kind:Int) != (k:Int))=false:=by have:=eq_of_beq hk;simp;omega
  go_enter func219,ntmps219
  go_wp2_with fail
  refine(Jg _ pb s t H.out).mono ?_;rintro e w1 ⟨rfl,hp1,hb1⟩
  go_wp2_with fail
  go_ret
  exact⟨rfl,hp1,hb1⟩
 | false=>
  have hne:((t.kind:Int) != (k:Int))=true:=by have:=ne_of_beq_false hk;simp;omega
  go_enter func219,ntmps219
  go_wp2_with fail
  go_ret
  exact⟨rfl,H.out,But.refl _ _⟩
def aI(t:aN)(l:List UInt8):Bool:=(t.text.toList==l)&&(t.kind==2)
theorem eU(w:World)(pb:Nat)(s:ByteArray)(t:aN)(l:ByteArray)(h:Ps w pb s t):
  Calls Tryz.prog 181 #[.pointer (some ⟨pb,0,none⟩),.string l] w fun e w'=>e=.returned (.bool (aI t l.toList))∧Ps w' pb s (dW (aI t l.toList) s t)∧But pb w w':=by
 have c2:=h.seg.cell (j:=2) (v:=.string t.text) rfl
 simp only[Nat.zero_add] at c2
 have H:=hid h
 clear h
 generalize hI:aI t l.toList=b
 have HI:=hid hI
 clear hI
 cases hw:(t.text.toList==l.toList) with
 | false=>
  have HW:=hid (show b=false by rw[← HI.out];simp only[aI,hw];rfl)
  go_enter func181,ntmps181
  go_wp2_with fail
  go_ret
  exact⟨bM HW.out.symm,by rw[HW.out];exact H.out,But.refl _ _⟩
 | true=>
  have HW:=hid (show b=(t.kind==2) by rw[← HI.out];simp only[aI,hw];rfl)
  go_enter func181,ntmps181
  go_wp2_with fail
  refine(jV _ pb s t 2 H.out).mono ?_;rintro e w1 ⟨rfl,hp1,hb1⟩
  rw[← HW.out] at hp1 ⊢
  go_wp2_with fail
  go_ret
  exact⟨rfl,hp1,hb1⟩
theorem Seg.Qe{w:World}{b:Nat}{T:TypeId}{p:Nat}{xs:List Value}(h:Seg w b T p xs)(q:Nat)(v:Value)(hq:q<p∨p+xs.length≤q):Seg (w.setCell ⟨b,q,none⟩ v) b T p xs:=by
 obtain⟨cur,hb,hs,ht⟩:=h
 refine⟨cur.setIfInBounds q v,heap_setCell_same w b q cur T v hb,by simpa using hs,?_⟩
 rw[Array.toList_setIfInBounds,List.drop_set]
 by_cases hqp:q<p
 ·rw[if_pos hqp,ht]
 ·rw[if_neg hqp,List.take_set,ht,List.set_eq_of_length_le (by omega)]
theorem Tryz.infoInt:(Tryz.prog.info? 3).map (fun i=>(i.zero,i.size,i.bytes))=some (some (.int .i64 0),1,8):=by kernel_rfl
theorem yu(w:World)(arr:Array Value)(t:TypeId)(j:Nat)(u:Value)(h:arr.toList[j]? = some u):(w.alloc (.cells arr t)).cell? ((⟨w.heap.size,0,none⟩:Addr).add j)=some u:=by
 have:(w.alloc (.cells arr t)).heap[w.heap.size]? = some (.cells arr t (0,0)):=heap_alloc_new w _
 have e:(⟨w.heap.size,0,none⟩:Addr).add j=⟨w.heap.size,0+j,none⟩:=Addr.add_lit _ _ _
 rw[e]
 simp only[World.cell?,this]
 simpa using h
theorem dY(w:World)(H:Nat)(hH:w.heap.size=H)(arr:Array Value)(t:TypeId)(j:Nat)(u:Value)(h:arr.toList[j]? = some u):(w.alloc (.cells arr t)).cell? ((⟨H,0,none⟩:Addr).add j)=some u:=by
 subst hH;exact yu w arr t j u h
theorem Bd{w4:World}{a:Addr}{v:Value}(h:w4.cell? a=some v)(hb:a.block<w4.heap.size):∀ ob,(w4.alloc ob).cell? a=some v:=fun ob=>
 (((Below.refl w4.heap.size w4).alloc (Nat.le_refl _) ob).cell hb).trans h
theorem oz(s:ByteArray)(w:World):
  Calls Tryz.prog 99 #[.string s] w fun e w'=>e=.returned (.bool (kL s.toList))∧w'=w:=by
 generalize hB:kL s.toList=b
 have HB:=hid hB
 clear hB
 cases h1:(s.toList==[105,110,116])
 ·cases h2:(s.toList==[98,111,111,108])
  ·go_enter func99,ntmps99
   go_wp2
   go_ret
   exact⟨bM (by rw[← HB.out];simp[kL,h1,h2]),rfl⟩
  ·go_enter func99,ntmps99
   go_wp2
   go_ret
   exact⟨bM (by rw[← HB.out];simp[kL,h2]),rfl⟩
 ·go_enter func99,ntmps99
  go_wp2
  go_ret
  exact⟨bM (by rw[← HB.out];simp[kL,h1]),rfl⟩
theorem Un(l:List UInt8):wQ l=((l==dP)||(l==mY)||(l==je)||(l==qE)||(l==zO)||(l==uJ)||kL l):=by
 unfold wQ words kL dP mY je qE zO uJ
 simp only[List.any_cons,List.any_nil,Bool.or_false]
 rw[BEq.comm (a:=[109,101,115,115,97,103,101]),BEq.comm (a:=[101,110,117,109]),BEq.comm (a:=[115,116,114,101,97,109]),BEq.comm (a:=[99,97,108,108]),BEq.comm (a:=[111,112,116]),BEq.comm (a:=[108,105,115,116]),BEq.comm (a:=[105,110,116]),BEq.comm (a:=[98,111,111,108]),BEq.comm (a:=[116,101,120,116])]
 simp only[Bool.or_assoc]
theorem Bf(s:ByteArray)(w:World):
  Calls Tryz.prog 220 #[.string s] w fun e w'=>e=.returned (.bool (wQ s.toList))∧w'=w:=by
 have hW:=Un s.toList
 generalize hB:wQ s.toList=b at *
 have HW:=hid hW
 clear hW hB
 simp only[dP,mY,je,qE,zO,uJ] at HW
 cases h1:(s.toList==[109,101,115,115,97,103,101])
 case' false=>
  cases h2:(s.toList==[101,110,117,109])
  case' false=>
   cases h3:(s.toList==[115,116,114,101,97,109])
   case' false=>
    cases h4:(s.toList==[99,97,108,108])
    case' false=>
     cases h5:(s.toList==[111,112,116])
     case' false=>
      cases h6:(s.toList==[108,105,115,116])
      case false=>
       go_enter func220,ntmps220
       go_wp2_with fail
       refine(oz _ _).mono ?_;rintro e w1 ⟨rfl,rfl⟩
       go_wp2_with fail
       go_ret
       exact⟨bM (by rw[HW.out,h1,h2,h3,h4,h5,h6];rfl),rfl⟩
 all_goals
  go_enter func220,ntmps220
  go_wp2_with fail
  go_ret
  exact⟨bM (by rw[HW.out];simp[*]),rfl⟩
structure Wrote(w w':World)(pb nb no n:Nat):Prop where
 os:w'.os=w.os
 tape:w'.tape=w.tape
 output:w'.output=w.output
 size:w.heap.size≤w'.heap.size
 block:∀ k,k<w.heap.size→k≠pb→k≠nb→w'.heap[k]? = w.heap[k]?
 seg:∀ T p xs,(p+xs.length≤no∨no+n≤p)→Seg w nb T p xs→Seg w' nb T p xs
 len:∀ T cur,w.heap[nb]? = some (.cells cur T (0,0))→∃ cur',w'.heap[nb]? = some (.cells cur' T (0,0))∧cur'.size=cur.size
theorem Wrote.jy{w w':World}{pb nb no n:Nat}(h:But pb w w')(hl:nb<w.heap.size)(hne:nb≠pb):Wrote w w' pb nb no n :=
 ⟨h.os,h.tape,h.output,h.size,fun k hk hp _=>h.block k hk hp,fun _ _ _ _ hs=>hs.same (h.block nb hl hne),fun _ cur hc=>⟨cur,by rw[h.block nb hl hne];exact hc,rfl⟩⟩
theorem Wrote.setCell{w w':World}{pb nb no n:Nat}(h:Wrote w w' pb nb no n)(j:Nat)(hj:j<n)(v:Value):Wrote w (w'.setCell ⟨nb,no+j,none⟩ v) pb nb no n :=
 ⟨h.os,h.tape,h.output,by simpa[World.setCell] using h.size,fun k hk hp hn=>(Below.heap_setCell _ _ _ _ hn).trans (h.block k hk hp hn),fun T p xs hp hs=>(h.seg T p xs hp hs).Qe _ _ (by omega),fun T cur hc=>by
  obtain⟨c',h1,h2⟩:=h.len T cur hc
  exact⟨_,heap_setCell_same w' nb (no+j) c' T v h1,by simpa using h2⟩⟩
theorem Wrote.drew{w w':World}{pb nb no n:Nat}(h:Wrote w w' pb nb no n):Wrote w w'.drew pb nb no n:=⟨h.os,h.tape,h.output,h.size,h.block,h.seg,h.len⟩
theorem Wrote.but{w w' w'':World}{pb nb no n:Nat}(h:Wrote w w' pb nb no n)(hb:But pb w' w'')(hl:nb<w.heap.size)(hne:nb≠pb):Wrote w w'' pb nb no n :=
 ⟨hb.os.trans h.os,hb.tape.trans h.tape,hb.output.trans h.output,Nat.le_trans h.size hb.size,fun k hk hp hn=>(hb.block k (Nat.lt_of_lt_of_le hk h.size) hp).trans (h.block k hk hp hn),
  fun T p xs hp hs=>(h.seg T p xs hp hs).same (hb.block nb (Nat.lt_of_lt_of_le hl h.size) hne),fun T cur hc=>by
  obtain⟨c',h1,h2⟩:=h.len T cur hc
  exact⟨c',by rw[hb.block nb (Nat.lt_of_lt_of_le hl h.size) hne];exact h1,h2⟩⟩
theorem Ps.store{w:World}{pb:Nat}{s:ByteArray}{t:aN}(h:Ps w pb s t){nb:Nat}(hne:nb≠pb)(h1:nb ≠ 3)(h2:nb ≠ 4)(q:Nat)(v:Value):Ps (w.setCell ⟨nb,q,none⟩ v) pb s t :=
 ⟨h.seg.same (Below.heap_setCell _ _ _ _ (Ne.symm hne)),h.vars.but ((But.refl nb w).setCell q v) h1 h2,h.ne1,h.ne2,h.fit,h.sz⟩
theorem Ps.drew{w:World}{pb:Nat}{s:ByteArray}{t:aN}(h:Ps w pb s t):Ps w.drew pb s t:=h.below (Below.refl _ _).drew
def cO(t:aN):Bool:=!(wQ t.text.toList)&&(t.kind==2)
def aB(t:aN):List Value:=[.string t.text,.int .i64 t.at_]
theorem name_any(w:World)(pb:Nat)(s:ByteArray)(t:aN)(nb no:Nat)(T:TypeId)(d0 d1:Value)(h:Ps w pb s t)(hn:Seg w nb T no [d0,d1])(hne:nb≠pb)(h1:nb ≠ 3)(h2:nb ≠ 4):
  Calls Tryz.prog 182 #[.pointer (some ⟨pb,0,none⟩),.pointer (some ⟨nb,no,none⟩)] w fun e w'=>e=.returned (.bool (cO t))∧Ps w' pb s (dW (cO t) s t)∧Seg w' nb T no (aB t)∧Wrote w w' pb nb no 2:=by
 have c2:=h.seg.cell (j:=2) (v:=.string t.text) rfl
 have c3:=h.seg.cell (j:=3) (v:=.int .i64 t.at_) rfl
 have e0:=hn.cell (j:=0) (v:=d0) rfl
 have e1:=hn.cell (j:=1) (v:=d1) rfl
 have ef:∀ j,w.frozen? ⟨nb,j,none⟩=false:=fun j=>hn.frozen j
 simp only[Nat.zero_add,Nat.add_zero] at c2 c3 e0
 have q1:(nb=pb)=False:=by simp;omega
 have q2:(pb=nb)=False:=by simp;omega
 have H:=hid h
 have HN:=hid hn
 clear h hn
 generalize hO:cO t=b
 have HO:=hid hO
 clear hO
 go_enter func182,ntmps182
 go_wp2_with fail
 go_region
 all_goals
  go_wp2_with fail
  have hs2:=(HN.out.set 0 (.string t.text)).set 1 (.int .i64 t.at_)
  have hp2:=(H.out.store hne h1 h2 (no+0) (.string t.text)).store hne h1 h2 (no+1) (.int .i64 t.at_)
  have hw2:=(((Wrote.jy (no:=no) (n:=2) (But.refl pb w) HN.out.lt hne).setCell 0 (by omega) (.string t.text)).setCell 1 (by omega) (.int .i64 t.at_)).drew
  simp only[Nat.add_zero] at hs2 hp2 hw2
  have HS2:=hid (show Seg ((w.setCell ⟨nb,no,none⟩ (.string t.text)).setCell ⟨nb,no+1,none⟩ (.int .i64 t.at_)).drew nb T no (aB t) from hs2)
  have HP2:=hid hp2.drew
  have HW2:=hid hw2
  clear hs2 hp2 hw2
  refine(Bf _ _).mono ?_;rintro e w1 ⟨rfl,rfl⟩
  cases hwd:wQ t.text.toList
  case' true=>
   have HB:=hid (show b=false by rw[← HO.out];simp[cO,hwd])
   go_wp2_with fail
   go_ret
   exact⟨bM HB.out.symm,by rw[HB.out];exact HP2.out,HS2.out,HW2.out⟩
  case' false=>
   have HB:=hid (show b=(t.kind==2) by rw[← HO.out];simp[cO,hwd])
   go_wp2_with fail
   refine(jV _ pb s t 2 HP2.out).mono ?_;rintro e w3 ⟨rfl,hp3,hb3⟩
   rw[← HB.out] at hp3 ⊢
   go_wp2_with fail
   go_ret
   exact⟨rfl,hp3,HS2.out.same (hb3.block nb (Nat.lt_of_lt_of_le HN.out.lt HW2.out.size) hne),HW2.out.but hb3 HN.out.lt hne⟩
def eH(t:aN):Bool:=(!(wQ t.text.toList)||kL t.text.toList)&&(t.kind==2)
theorem wU(w:World)(pb:Nat)(s:ByteArray)(t:aN)(nb no:Nat)(T:TypeId)(d0 d1:Value)(h:Ps w pb s t)(hn:Seg w nb T no [d0,d1])(hne:nb≠pb)(h1:nb ≠ 3)(h2:nb ≠ 4):
  Calls Tryz.prog 186 #[.pointer (some ⟨pb,0,none⟩),.pointer (some ⟨nb,no,none⟩)] w fun e w'=>e=.returned (.bool (eH t))∧Ps w' pb s (dW (eH t) s t)∧Seg w' nb T no (aB t)∧Wrote w w' pb nb no 2:=by
 have c2:=h.seg.cell (j:=2) (v:=.string t.text) rfl
 have c3:=h.seg.cell (j:=3) (v:=.int .i64 t.at_) rfl
 have e0:=hn.cell (j:=0) (v:=d0) rfl
 have e1:=hn.cell (j:=1) (v:=d1) rfl
 have ef:∀ j,w.frozen? ⟨nb,j,none⟩=false:=fun j=>hn.frozen j
 simp only[Nat.zero_add,Nat.add_zero] at c2 c3 e0
 have q1:(nb=pb)=False:=by simp;omega
 have q2:(pb=nb)=False:=by simp;omega
 have H:=hid h
 have HN:=hid hn
 clear h hn
 generalize hO:eH t=b
 have HO:=hid hO
 clear hO
 go_enter func186,ntmps186
 go_wp2_with fail
 go_region
 all_goals
  go_wp2_with fail
  have hs2:=(HN.out.set 0 (.string t.text)).set 1 (.int .i64 t.at_)
  have hp2:=(H.out.store hne h1 h2 (no+0) (.string t.text)).store hne h1 h2 (no+1) (.int .i64 t.at_)
  have hw2:=(((Wrote.jy (no:=no) (n:=2) (But.refl pb w) HN.out.lt hne).setCell 0 (by omega) (.string t.text)).setCell 1 (by omega) (.int .i64 t.at_)).drew
  simp only[Nat.add_zero] at hs2 hp2 hw2
  have HS2:=hid (show Seg ((w.setCell ⟨nb,no,none⟩ (.string t.text)).setCell ⟨nb,no+1,none⟩ (.int .i64 t.at_)).drew nb T no (aB t) from hs2)
  have HP2:=hid hp2.drew
  have HW2:=hid hw2
  clear hs2 hp2 hw2
  refine(Bf _ _).mono ?_;rintro e w1 ⟨rfl,rfl⟩
  cases hwd:wQ t.text.toList
  case' true=>
   go_wp2_with fail
   refine(oz _ _).mono ?_;rintro e w2 ⟨rfl,rfl⟩
   cases hbt:kL t.text.toList
   case' false=>
    have HB:=hid (show b=false by rw[← HO.out];simp[eH,hwd,hbt])
    go_wp2_with fail
    go_ret
    exact⟨bM HB.out.symm,by rw[HB.out];exact HP2.out,HS2.out,HW2.out⟩
   case' true=>
    have HB:=hid (show b=(t.kind==2) by rw[← HO.out];simp[eH,hbt])
    go_wp2_with fail
    refine(jV _ pb s t 2 HP2.out).mono ?_;rintro e w3 ⟨rfl,hp3,hb3⟩
    rw[← HB.out] at hp3 ⊢
    go_wp2_with fail
    go_ret
    exact⟨rfl,hp3,HS2.out.same (hb3.block nb (Nat.lt_of_lt_of_le HN.out.lt HW2.out.size) hne),HW2.out.but hb3 HN.out.lt hne⟩
  case' false=>
   have HB:=hid (show b=(t.kind==2) by rw[← HO.out];simp[eH,hwd])
   go_wp2_with fail
   refine(jV _ pb s t 2 HP2.out).mono ?_;rintro e w3 ⟨rfl,hp3,hb3⟩
   rw[← HB.out] at hp3 ⊢
   go_wp2_with fail
   go_ret
   exact⟨rfl,hp3,HS2.out.same (hb3.block nb (Nat.lt_of_lt_of_le HN.out.lt HW2.out.size) hne),HW2.out.but hb3 HN.out.lt hne⟩
theorem Qg:∀ k,k<100→(zN k).head? ≠ some 43∧(zN k).head? ≠ some 45:=by decide
theorem Gu(run:ByteArray)(w:World)(hv:Vars w)(hs:run.size≤400):
  Calls Tryz.prog 242 #[.string run] w fun e w'=>∃ (n:Int) (b:Bool),e=.returned (.tuple #[.int .i64 n,.bool b])∧(mW run.toList=true→n=lu run.toList)∧Below w.heap.size w w':=by
 rcases hA:Lib.atoiAll run.data.toList with v | _ | _
 ·have h0:0<run.size:=by
   rcases Nat.eq_zero_or_pos run.size with h | h
   ·have:run.data.toList=[]:=List.eq_nil_of_length_eq_zero h
    rw[this] at hA;simp[Lib.atoiAll] at hA
   ·exact h
  by_cases hc:(run[0]'h0).toNat≠43∧(run[0]'h0).toNat≠45
  ·refine(pV run w hv h0 hs hc).mono ?_
   rintro e w1 ⟨n,rfl,hn,hb⟩
   exact⟨n,_,rfl,hn,hb⟩
  ·have HN:=hid (show mW run.toList=false by
    cases hn:mW run.toList with
    | false=>rfl
    | true=>
     obtain⟨k,h1,h2,h3⟩:=mX hn
     obtain⟨r,hr⟩:=Jd run h0
     have hd:=Qg k (by omega)
     rw[← h3,hr] at hd
     simp at hd
     exfalso;apply hc
     exact⟨fun e=>hd.1 (UInt8.toNat_inj.1 (by simpa using e)),fun e=>hd.2 (UInt8.toNat_inj.1 (by simpa using e))⟩)
   clear hc
   go_enter func242,ntmps242
   go_wp2_with fail
   refine(Tryz.strconv_Atoi_ok run (by omega) v hA _).mono ?_;rintro e w1 ⟨rfl,hw1⟩
   have hb1:Below w.heap.size w w1:=by
    rcases hw1 with rfl | ⟨bt,rfl⟩
    ·exact Below.refl _ _
    ·exact Joins.below_bytesWorld _ _ _ _ (Nat.le_refl _)
   clear hw1 hA
   go_wp2_with fail
   all_goals
    go_ret2
    exact⟨_,_,rfl,fun hh=>(by rw[HN.out] at hh;cases hh),hb1⟩
 ·have HN:=hid (Ae (l:=run.toList) (fun v hh=>by rw[ByteArray.toList_eq,hA] at hh;cases hh))
  obtain⟨te,pe,hsx⟩:=hv.sx
  go_enter func242,ntmps242
  go_wp2_with fail
  refine(Tryz.strconv_Atoi_no run (by omega) ⟨fun v hh => (by rw [hA] at hh; cases hh),fun hh => (by rw [hA] at hh; cases hh)⟩ _ _ hsx (Or.inr ⟨te,pe,rfl⟩)).mono ?_;rintro e w1 ⟨N,rfl,_,_,hb1⟩
  clear hA
  go_wp2_with fail
  go_ret2
  exact⟨_,_,rfl,fun hh=>(by rw[HN.out] at hh;cases hh),hb1⟩
 ·have HN:=hid (Ae (l:=run.toList) (fun v hh=>by rw[ByteArray.toList_eq,hA] at hh;cases hh))
  obtain⟨te,pe,hrg⟩:=hv.rg
  go_enter func242,ntmps242
  go_wp2_with fail
  refine(Tryz.strconv_Atoi_range run (by omega) hA _ _ hrg (Or.inr ⟨te,pe,rfl⟩)).mono ?_;rintro e w1 ⟨N,rfl,_,_,hb1⟩
  clear hA
  go_wp2_with fail
  go_ret2
  exact⟨_,_,rfl,fun hh=>(by rw[HN.out] at hh;cases hh),hb1⟩
theorem LJ(w:World)(pb:Nat)(s:ByteArray)(t:aN)(nb no:Nat)(T:TypeId)(d0 d1:Value)(h:Ps w pb s t)(hn:Seg w nb T no [d0,d1])(hne:nb≠pb)(h1:nb ≠ 3)(h2:nb ≠ 4):
  Calls Tryz.prog 221 #[.pointer (some ⟨pb,0,none⟩),.pointer (some ⟨nb,no,none⟩)] w fun e w'=>∃ n:Int,e=.returned (.bool (t.kind==3))∧(mW t.text.toList=true→n=lu t.text.toList)∧Ps w' pb s (dW (t.kind==3) s t)∧Seg w' nb T no [.int .i64 n,.int .i64 t.at_]∧Wrote w w' pb nb no 2:=by
 have c2:=h.seg.cell (j:=2) (v:=.string t.text) rfl
 simp only[Nat.zero_add] at c2
 have hts:t.text.size≤400:=by have:=h.fit;have:=h.sz;omega
 have q1:(nb=pb)=False:=by simp;omega
 have q2:(pb=nb)=False:=by simp;omega
 have H:=hid h
 have HN:=hid hn
 clear h hn
 go_enter func221,ntmps221
 go_wp2_with fail
 refine(Gu _ _ H.out.vars hts).mono ?_;rintro e w1 ⟨n,bb,rfl,hnum,hb1⟩
 have hp1:=H.out.below hb1
 have hs1:=HN.out.same (hb1.block nb HN.out.lt)
 have c3:=hp1.seg.cell (j:=3) (v:=.int .i64 t.at_) rfl
 have e0:=hs1.cell (j:=0) (v:=d0) rfl
 have e1:=hs1.cell (j:=1) (v:=d1) rfl
 have ef:∀ j,w1.frozen? ⟨nb,j,none⟩=false:=fun j=>hs1.frozen j
 simp only[Nat.zero_add,Nat.add_zero] at c3 e0
 have Je:=hid hnum
 have jJ:=hid hp1
 have Le:=hid hs1
 clear hnum hp1 hs1 c2
 go_wp2_with fail
 have hs2:=(Le.out.set 0 (.int .i64 n)).set 1 (.int .i64 t.at_)
 have hp2:=(jJ.out.store hne h1 h2 (no+0) (.int .i64 n)).store hne h1 h2 (no+1) (.int .i64 t.at_)
 have hw2:=(((Wrote.jy (no:=no) (n:=2) (But.bG (pb:=pb) hb1) HN.out.lt hne).setCell 0 (by omega) (.int .i64 n)).setCell 1 (by omega) (.int .i64 t.at_))
 simp only[Nat.add_zero] at hs2 hp2 hw2
 have HS2:=hid (show Seg ((w1.setCell ⟨nb,no,none⟩ (.int .i64 n)).setCell ⟨nb,no+1,none⟩ (.int .i64 t.at_)) nb T no [.int .i64 n,.int .i64 t.at_] from hs2)
 have HP2:=hid hp2
 have HW2:=hid hw2
 clear hs2 hp2 hw2
 refine(jV _ pb s t 3 HP2.out).mono ?_;rintro e w3 ⟨rfl,hp3,hb3⟩
 go_wp2_with fail
 go_ret
 exact⟨n,rfl,Je.out,hp3,HS2.out.same (hb3.block nb (Nat.lt_of_lt_of_le HN.out.lt HW2.out.size) hne),HW2.out.but hb3 HN.out.lt hne⟩
def rE(t:aN):Nat:=if aI t zO=true then 1 else if aI t uJ=true then 2 else 0
def dZ(t:aN):Bool:=aI t zO||aI t uJ
theorem Qh(w:World)(pb:Nat)(s:ByteArray)(t:aN)(nb no:Nat)(T:TypeId)(d0:Value)(h:Ps w pb s t)(hn:Seg w nb T no [d0])(hne:nb≠pb)(h1:nb ≠ 3)(h2:nb ≠ 4):
  Calls Tryz.prog 222 #[.pointer (some ⟨pb,0,none⟩),.pointer (some ⟨nb,no,none⟩)] w fun e w'=>e=.returned (.bool true)∧Ps w' pb s (dW (dZ t) s t)∧Seg w' nb T no [.int .i64 (rE t:Nat)]∧Wrote w w' pb nb no 1:=by
 have H:=hid h
 have HN:=hid hn
 clear h hn
 generalize hA:dW (dZ t) s t=A
 generalize hS:rE t=S
 have HA:=hid hA
 have HS:=hid hS
 clear hA hS
 have fin:∀ (w3:World) (k:Nat),Ps w3 pb s A→But pb w w3→k=S→Ps (w3.setCell ⟨nb,no,none⟩ (.int .i64 (k:Nat))) pb s A∧Seg (w3.setCell ⟨nb,no,none⟩ (.int .i64 (k:Nat))) nb T no [.int .i64 (S:Nat)]∧Wrote w (w3.setCell ⟨nb,no,none⟩ (.int .i64 (k:Nat))) pb nb no 1:=by
  intro w3 k hp hb hk
  subst hk
  have hs:=(HN.out.same (hb.block nb HN.out.lt hne)).set 0 (.int .i64 (k:Nat))
  have hw:=(Wrote.jy (no:=no) (n:=1) hb HN.out.lt hne).setCell 0 (by omega) (.int .i64 (k:Nat))
  simp only[Nat.add_zero] at hs hw
  exact⟨hp.store hne h1 h2 no _,hs,hw⟩
 have FIN:=hid fin
 clear fin
 have cf:∀ w3,But pb w w3→w3.cell? ⟨nb,no,none⟩=some d0∧∀ j,w3.frozen? ⟨nb,j,none⟩=false:=by
  intro w3 hb
  have hs:=HN.out.same (hb.block nb HN.out.lt hne)
  have e0:=hs.cell (j:=0) (v:=d0) rfl
  exact⟨by simpa using e0,fun j=>hs.frozen j⟩
 have CF:=hid cf
 clear cf
 go_enter func222,ntmps222
 go_wp2_with fail
 refine(eU _ pb s t _ H.out).mono ?_;rintro e w1 ⟨rfl,hp1,hb1⟩
 cases ho:aI t [111,112,116]
 case' true=>
  have ho':aI t (ByteArray.mk #[111,112,116]).toList=true:=by rw[ByteArray.toList_eq];exact ho
  rw[ho'] at hp1 ⊢
  obtain⟨e0,ef⟩:=CF.out w1 hb1
  have F:=hid (FIN.out w1 1 (by rw[← HA.out];simp only[dZ,zO,ho,Bool.true_or];exact hp1) hb1 (by rw[← HS.out];simp[rE,zO,ho]))
  clear hp1
  go_wp2_with fail
  go_ret
  exact⟨rfl,F.out.1,F.out.2.1,F.out.2.2⟩
 case' false=>
  have ho':aI t (ByteArray.mk #[111,112,116]).toList=false:=by rw[ByteArray.toList_eq];exact ho
  rw[ho'] at hp1 ⊢
  go_wp2_with fail
  refine(eU _ pb s t _ hp1).mono ?_;rintro e w2 ⟨rfl,hp2,hb2⟩
  have Gv:=hb1.trans hb2
  obtain⟨e0,ef⟩:=CF.out w2 Gv
  cases hl:aI t [108,105,115,116]
  case' true=>
   have hl':aI t (ByteArray.mk #[108,105,115,116]).toList=true:=by rw[ByteArray.toList_eq];exact hl
   rw[hl'] at hp2 ⊢
   have F:=hid (FIN.out w2 2 (by rw[← HA.out];simp only[dZ,zO,uJ,ho,hl,Bool.or_true];exact hp2) Gv (by rw[← HS.out];simp[rE,zO,uJ,ho,hl]))
   clear hp1 hp2
   go_wp2_with fail
   go_ret
   exact⟨rfl,F.out.1,F.out.2.1,F.out.2.2⟩
  case' false=>
   have hl':aI t (ByteArray.mk #[108,105,115,116]).toList=false:=by rw[ByteArray.toList_eq];exact hl
   rw[hl'] at hp2 ⊢
   have F:=hid (FIN.out w2 0 (by rw[← HA.out];simp only[dZ,zO,uJ,ho,hl,Bool.or_self];exact hp2) Gv (by rw[← HS.out];simp[rE,zO,uJ,ho,hl]))
   clear hp1 hp2
   go_wp2_with fail
   go_ret
   exact⟨rfl,F.out.1,F.out.2.1,F.out.2.2⟩
theorem iJ{w:World}{lo:Nat}{e:TypeId}{size n:Nat}{v:Value}{xs:List Value}(h:w.ownsRow lo e size v n xs)(hn:0<n):∃ g cap,v=.slice (some ⟨g,0,none⟩) n cap∧lo≤g∧g<w.heap.size:=h.form hn
theorem Af{w:World}{lo:Nat}{e:TypeId}{size n g cap:Nat}{xs:List Value}(h:w.ownsRow lo e size (.slice (some ⟨g,0,none⟩) n cap) n xs):Seg w g e 0 xs:=by
 rcases h.2 with⟨h',_⟩ | ⟨g',cap',cur,h',_,hg,hn,_,hcs,htake⟩
 ·simp at h'
 ·simp only[Value.slice.injEq,Option.some.injEq,Addr.mk.injEq,and_true,true_and] at h'
  obtain⟨rfl,rfl⟩:=h'
  refine⟨cur,hg,by rw[h.1,hcs];simp;exact Nat.mul_le_mul_right _ hn,?_⟩
  rw[h.1];simpa using htake
theorem Seg.part{w:World}{b:Nat}{T:TypeId}{o:Nat}{xs:List Value}(h:Seg w b T o xs)(p n:Nat)(ys:List Value)(hy:(xs.drop p).take n=ys)(hn:ys.length=n)(h0:0<n):Seg w b T (o+p) ys:=by
 obtain⟨cur,hb,hs,ht⟩:=h
 have hl:n≤xs.length-p:=by
  rw[← hn,← hy,List.length_take,List.length_drop];omega
 refine⟨cur,hb,by omega,?_⟩
 rw[hn,← hy,← ht,List.drop_take,List.drop_drop,List.take_take,Nat.min_eq_left (by omega)]
theorem Wrote.wide{w w':World}{pb nb no n fo m:Nat}(h:Wrote w w' pb nb no n)(h1:fo≤no)(h2:no+n≤fo+m):Wrote w w' pb nb fo m :=
 ⟨h.os,h.tape,h.output,h.size,h.block,fun T p xs hp hs=>h.seg T p xs (by omega) hs,h.len⟩
theorem Wrote.trans{a b c:World}{pb nb no n:Nat}(h:Wrote a b pb nb no n)(k:Wrote b c pb nb no n):Wrote a c pb nb no n :=
 ⟨k.os.trans h.os,k.tape.trans h.tape,k.output.trans h.output,Nat.le_trans h.size k.size,fun i hi hp hn=>(k.block i (Nat.lt_of_lt_of_le hi h.size) hp hn).trans (h.block i hi hp hn),fun T p xs hp hs=>k.seg T p xs hp (h.seg T p xs hp hs),fun T cur hc=>by
  obtain⟨c',h1,h2⟩:=h.len T cur hc
  obtain⟨c'',h3,h4⟩:=k.len T c' h1
  exact⟨c'',h3,by omega⟩⟩
theorem Seg.join{w:World}{b:Nat}{T:TypeId}{o:Nat}{xs ys:List Value}(h:Seg w b T o xs)(k:Seg w b T (o+xs.length) ys):Seg w b T o (xs++ys):=by
 obtain⟨cur,hb,hs,ht⟩:=h
 obtain⟨cur',hb',hs',ht'⟩:=k
 rw[hb] at hb'
 simp only[Option.some.injEq,Obj.cells.injEq,and_true,and_self] at hb'
 subst hb'
 refine⟨cur,hb,by rw[List.length_append];omega,?_⟩
 rw[List.length_append,List.take_add,ht,List.drop_drop,ht']
def bD(s:ByteArray)(t0:aN):Bool × aN :=
 if (t0.kind==3)=true then
  if cO (aj s t0)=true then
   if eH (dW (dZ (aj s (aj s t0))) s (aj s (aj s t0)))=true then(true,aj s (dW (dZ (aj s (aj s t0))) s (aj s (aj s t0))))
   else(false,dW (dZ (aj s (aj s t0))) s (aj s (aj s t0)))
  else(false,aj s t0)
 else(false,t0)
structure bI where
 number:Int
 numberAt:Nat
 name:ByteArray
 nameAt:Nat
 shape:Nat
 base:ByteArray
 dG:Nat
def dI(f:bI):List Value:=[.int .i64 f.number,.int .i64 f.numberAt,.string f.name,.int .i64 f.nameAt,.int .i64 f.shape,.string f.base,.int .i64 f.dG]
def iM(s:ByteArray)(t0:aN)(n:Int):bI :=
 ⟨n,t0.at_,(aj s t0).text,(aj s t0).at_,rE (aj s (aj s t0)),(dW (dZ (aj s (aj s t0))) s (aj s (aj s t0))).text,(dW (dZ (aj s (aj s t0))) s (aj s (aj s t0))).at_⟩
theorem Qi(w:World)(pb:Nat)(s:ByteArray)(t:aN)(fb:Nat)(T:TypeId)(d0 d1 d2 d3 d4 d5 d6:Value)(h:Ps w pb s t)(hn:Seg w fb T 0 [d0,d1,d2,d3,d4,d5,d6])(hne:fb≠pb)(h1:fb ≠ 3)(h2:fb ≠ 4):
  Calls Tryz.prog 184 #[.pointer (some ⟨pb,0,none⟩),.pointer (some ⟨fb,0,none⟩)] w fun e w'=>e=.returned (.bool (bD s t).1)∧Ps w' pb s (bD s t).2∧Wrote w w' pb fb 0 7∧((bD s t).1=true→∃ n:Int,(mW t.text.toList=true→n=lu t.text.toList)∧Seg w' fb T 0 (dI (iM s t n))):=by
 have a0:=hn.part 0 2 [d0,d1] rfl rfl (by omega)
 have a1:=hn.part 2 2 [d2,d3] rfl rfl (by omega)
 have a2:=hn.part 4 1 [d4] rfl rfl (by omega)
 have a3:=hn.part 5 2 [d5,d6] rfl rfl (by omega)
 simp only[Nat.zero_add] at a0 a1 a2 a3
 generalize hF:bD s t=F
 have HF:=hid hF
 have H:=hid h
 have A0:=hid a0
 have A1:=hid a1
 have A2:=hid a2
 have A3:=hid a3
 clear h hn hF a0 a1 a2 a3
 go_enter func184,ntmps184
 go_wp2_with fail
 refine(LJ _ pb s t fb 0 T d0 d1 H.out A0.out hne h1 h2).mono ?_;rintro e w1 ⟨n,rfl,hnum,hp1,hs1,hw1⟩
 have Je:=hid hnum
 have W1:=hid (hw1.wide (fo:=0) (m:=7) (by omega) (by omega))
 have B1:=hid (hw1.seg _ _ _ (Or.inr (by simp)) A1.out)
 have B2:=hid (hw1.seg _ _ _ (Or.inr (by simp)) A2.out)
 have B3:=hid (hw1.seg _ _ _ (Or.inr (by simp)) A3.out)
 have S1:=hid hs1
 have P1:=hid hp1
 clear hnum hw1 hs1 hp1 A0 A1 A2 A3
 cases hk:(t.kind==3)
 case' false=>
  have HX:=hid (show F=(false,t) by rw[← HF.out];simp[bD,hk])
  rw[hk] at P1
  go_wp2_with fail
  go_ret
  exact⟨by rw[HX.out];rfl,by rw[HX.out];exact P1.out,W1.out,fun hh=>by rw[HX.out] at hh;cases hh⟩
 case' true=>
  rw[hk] at P1
  go_wp2_with fail
  refine(name_any _ pb s (aj s t) fb 2 T d2 d3 P1.out B1.out hne h1 h2).mono ?_;rintro e w2 ⟨rfl,hp2,hs2,hw2⟩
  have W2:=hid (W1.out.trans (hw2.wide (fo:=0) (m:=7) (by omega) (by omega)))
  have C0:=hid (hw2.seg _ _ _ (Or.inl (by simp)) S1.out)
  have C2:=hid (hw2.seg _ _ _ (Or.inr (by simp)) B2.out)
  have C3:=hid (hw2.seg _ _ _ (Or.inr (by simp)) B3.out)
  have S2:=hid hs2
  have P2:=hid hp2
  clear hp2 hs2 hw2 B1 B2 B3 S1 P1 W1
  cases hno:cO (aj s t)
  case' false=>
   have HX:=hid (show F=(false,aj s t) by rw[← HF.out];simp[bD,hk,hno])
   rw[hno] at P2
   go_wp2_with fail
   go_ret
   exact⟨by rw[HX.out];rfl,by rw[HX.out];exact P2.out,W2.out,fun hh=>by rw[HX.out] at hh;cases hh⟩
  case' true=>
   rw[hno] at P2
   go_wp2_with fail
   refine(Qh _ pb s (aj s (aj s t)) fb 4 T d4 P2.out C2.out hne h1 h2).mono ?_;rintro e w3 ⟨rfl,hp3,hs3,hw3⟩
   have W3:=hid (W2.out.trans (hw3.wide (fo:=0) (m:=7) (by omega) (by omega)))
   have D0:=hid (hw3.seg _ _ _ (Or.inl (by simp)) C0.out)
   have D1:=hid (hw3.seg _ _ _ (Or.inl (by simp[aB])) S2.out)
   have D3:=hid (hw3.seg _ _ _ (Or.inr (by simp)) C3.out)
   have S3:=hid hs3
   have P3:=hid hp3
   clear hp3 hs3 hw3 C0 C2 C3 S2 P2 W2
   go_wp2_with fail
   refine(wU _ pb s (dW (dZ (aj s (aj s t))) s (aj s (aj s t))) fb 5 T d5 d6 P3.out D3.out hne h1 h2).mono ?_;rintro e w4 ⟨rfl,vT,hs4,hw4⟩
   have W4:=hid (W3.out.trans (hw4.wide (fo:=0) (m:=7) (by omega) (by omega)))
   have E0:=hid (hw4.seg _ _ _ (Or.inl (by simp)) D0.out)
   have E1:=hid (hw4.seg _ _ _ (Or.inl (by simp[aB])) D1.out)
   have E2:=hid (hw4.seg _ _ _ (Or.inl (by simp)) S3.out)
   have P4:=hid vT
   have S4:=hid hs4
   clear vT hs4 hw4 D0 D1 D3 S3 P3 W3
   cases Qj:eH (dW (dZ (aj s (aj s t))) s (aj s (aj s t)))
   case' false=>
    have HX:=hid (show F=(false,dW (dZ (aj s (aj s t))) s (aj s (aj s t))) by rw[← HF.out];simp[bD,hk,hno,Qj])
    rw[Qj] at P4
    go_wp2_with fail
    go_ret
    exact⟨by rw[HX.out];rfl,by rw[HX.out];exact P4.out,W4.out,fun hh=>by rw[HX.out] at hh;cases hh⟩
   case' true=>
    have HX:=hid (show F=(true,aj s (dW (dZ (aj s (aj s t))) s (aj s (aj s t)))) by rw[← HF.out];simp[bD,hk,hno,Qj])
    rw[Qj] at P4
    go_wp2_with fail
    go_ret
    exact⟨by rw[HX.out];rfl,by rw[HX.out];exact P4.out,W4.out,fun _=>⟨n,Je.out,((E0.out.join E1.out).join E2.out).join S4.out⟩⟩
def Tk(s:ByteArray)(t:aN):Prop:=∃ i,i≤s.size∧t=jw s i
theorem X8(s:ByteArray)(i:Nat):i≤uy s i:=by
 unfold uy
 have:∀ f i,i≤gJ s f i:=by
  intro f
  induction f with
  | zero=>intro i;exact Nat.le_refl _
  | succ f ih=>
   intro i;unfold gJ;split
   ·exact Nat.le_trans (Nat.le_succ i) (ih (i+1))
   ·exact Nat.le_refl _
 exact this _ _
theorem Tk.fit{s:ByteArray}{t:aN}(h:Tk s t):t.at_+t.text.size≤s.size:=by
 obtain⟨i,hi,rfl⟩:=h
 exact Bc s _ (Gq s i hi)
theorem Tk.next{s:ByteArray}{t:aN}(h:Tk s t):Tk s (aj s t):=⟨_,h.fit,rfl⟩
theorem Tk.after{s:ByteArray}{t:aN}(h:Tk s t)(b:Bool):Tk s (dW b s t):=by
 cases b
 ·exact h
 ·exact h.next
theorem Qk(s:ByteArray)(k:Nat):(jq s k).at_=k:=by
 unfold jq;split
 ·rfl
 ·split<;>rfl
theorem fV(s:ByteArray)(t:aN):t.at_+t.text.size≤(aj s t).at_:=by
 unfold aj jw;rw[Qk];exact X8 s _
theorem after_at(s:ByteArray)(t:aN)(b:Bool):t.at_≤(dW b s t).at_:=by
 cases b
 ·exact Nat.le_refl _
 ·have:=fV s t;show t.at_≤(aj s t).at_;omega
theorem Jh(c:Int):lC c=4∨lC c=5∨lC c=1:=by
 unfold lC;split
 ·simp
 ·split<;>simp
theorem Tk.num{s:ByteArray}{t:aN}(h:Tk s t)(hk:t.kind=3):mW t.text.toList=true:=by
 obtain⟨i,hi,rfl⟩:=h
 unfold jw jq at *
 split at hk
 ·simp at hk
 ·split at hk
  ·rename_i h1 h2
   rcases Jh (B s (uy s i)) with h | h | h<;>(simp only at hk;omega)
  ·rename_i h1 h2
   rw[if_neg h1,if_neg h2]
   simp only[runK] at hk ⊢
   split at hk
   ·omega
   ·split at hk
    ·assumption
    ·omega
theorem Tk.pos{s:ByteArray}{t:aN}(h:Tk s t)(hk:t.kind≠0):1≤t.text.size:=by
 obtain⟨i,hi,rfl⟩:=h
 have hb:=Gq s i hi
 unfold jw jq at *
 split at hk
 ·simp at hk
 ·rename_i h1
  rw[if_neg h1]
  split
  ·simp[ByteArray.size_extract];omega
  ·rename_i h2
   have h3:=yh s s.size (uy s i)
   have h4:=yj s s.size (uy s i) hb
   simp[ByteArray.size_extract];omega
theorem sZ{s:ByteArray}{t:aN}(h:Tk s t):Tk s (bD s t).2:=by
 unfold bD
 split
 ·split
  ·split
   ·exact((h.next.next).after _).next
   ·exact(h.next.next).after _
  ·exact h.next
 ·exact h
theorem Ql{s:ByteArray}{t:aN}(h:Tk s t)(hf:(bD s t).1=true):t.at_<(bD s t).2.at_∧t.kind=3:=by
 unfold bD at *
 split at hf
 ·rename_i hk
  have hk3:t.kind=3:=eq_of_beq hk
  have hp:=h.pos (by omega)
  split at hf
  ·split at hf
   ·rename_i h1 h2
    rw[if_pos hk,if_pos h1,if_pos h2]
    refine⟨?_,hk3⟩
    have a1:=fV s t
    have a2:=fV s (aj s t)
    have a3:=after_at s (aj s (aj s t)) (dZ (aj s (aj s t)))
    have a4:=fV s (dW (dZ (aj s (aj s t))) s (aj s (aj s t)))
    simp only
    omega
   ·simp at hf
  ·simp at hf
 ·simp at hf
def dO(s:ByteArray):Nat→aN→List bI→Bool × aN × List bI
 | 0,t,L=>(false,t,L)
 | f+1,t,L=>
  if (bD s t).1=true then
   if ((bD s t).2.kind==5)=true then(true,aj s (bD s t).2,L++[iM s t (lu t.text.toList)])
   else dO s f (bD s t).2 (L++[iM s t (lu t.text.toList)])
  else(false,(bD s t).2,L)
def gK(s:ByteArray)(t:aN):Bool × aN × List bI:=if (t.kind==4)=true then dO s (s.size+1) (aj s t) [] else(false,t,[])
theorem Tryz.infoPField:(Tryz.prog.info? 242).map (fun i=>(i.zero,i.size,i.bytes))=some (some (.agg #[.int .i64 0,.int .i64 0,.string ⟨#[]⟩,.int .i64 0,.int .i64 0,.string ⟨#[]⟩,.int .i64 0]),7,72):=by kernel_rfl
theorem Ps.Gw{w w':World}{pb B:Nat}{s:ByteArray}{t:aN}(h:Ps w pb s t)(hb:Below B w w')(h0:pb<B)(h1:3 < B)(h2:4 < B):Ps w' pb s t:=by
 obtain⟨te,pe,e1⟩:=h.vars.sx
 obtain⟨tf,pf,e2⟩:=h.vars.rg
 exact⟨h.seg.same (hb.block pb h0),⟨⟨te,pe,by rw[hb.cell h1];exact e1⟩,⟨tf,pf,by rw[hb.cell h2];exact e2⟩,Nat.lt_of_lt_of_le h.vars.X6 hb.size,Nat.lt_of_lt_of_le h.vars.X7 hb.size⟩,h.ne1,h.ne2,h.fit,h.sz⟩
theorem Wrote.tq{w w' w'':World}{pb nb no n:Nat}(h:Wrote w w' pb nb no n)(hb:Below w.heap.size w' w'')(hl:nb<w.heap.size):Wrote w w'' pb nb no n :=
 ⟨hb.os.trans h.os,hb.tape.trans h.tape,hb.output.trans h.output,Nat.le_trans h.size hb.size,fun k hk hp hn=>(hb.block k hk).trans (h.block k hk hp hn),fun T p xs hp hs=>(h.seg T p xs hp hs).same (hb.block nb hl),fun T cur hc=>by
  obtain⟨c',h1,h2⟩:=h.len T cur hc
  exact⟨c',by rw[hb.block nb hl];exact h1,h2⟩⟩
theorem Wrote.box{w w' w'':World}{pb nb no n fb fo m:Nat}(h:Wrote w w' pb nb no n)(k:Wrote w' w'' pb fb fo m)(hf:w.heap.size≤fb)(hl:nb<w.heap.size)(hne:nb≠pb):Wrote w w'' pb nb no n :=
 have hsame:w''.heap[nb]? = w'.heap[nb]?:=k.block nb (Nat.lt_of_lt_of_le hl h.size) hne (by omega)
 ⟨k.os.trans h.os,k.tape.trans h.tape,k.output.trans h.output,Nat.le_trans h.size k.size,fun i hi hp hn=>(k.block i (Nat.lt_of_lt_of_le hi h.size) hp (by omega)).trans (h.block i hi hp hn),fun T p xs hp hs=>(h.seg T p xs hp hs).same hsame,fun T cur hc=>by
  obtain⟨c',h1,h2⟩:=h.len T cur hc
  exact⟨c',by rw[hsame];exact h1,h2⟩⟩
theorem LK(w:World)(pb:Nat)(s:ByteArray)(t:aN)(ib io:Nat)(T:TypeId)(h:Ps w pb s t)(ht:Tk s t)(hl:Seg w ib T io [.slice none 0 0])(hne:ib≠pb)(h1:ib ≠ 3)(h2:ib ≠ 4):
  Calls Tryz.prog 183 #[.pointer (some ⟨pb,0,none⟩),.pointer (some ⟨ib,io,none⟩),.func (Fn.func 184) #[.pointer (some ⟨pb,0,none⟩)] #[]] w fun e w'=>∃ v,e=.returned (.bool (gK s t).1)∧Ps w' pb s (gK s t).2.1∧Seg w' ib T io [v]∧w'.ownsRow w.heap.size 242 7 v (gK s t).2.2.length ((gK s t).2.2.flatMap dI)∧((gK s t).2.2=[]→v=.slice none 0 0)∧Wrote w w' pb ib io 1:=by
 obtain⟨iF,hiF,hF0,hF1,hF2⟩:=info_parts Tryz.infoPField
 have hpl:=h.seg.lt
 have hil:=hl.lt
 have hv1:=h.vars.X6
 have hv2:=h.vars.X7
 have hsz:=h.sz
 generalize hR:gK s t=R
 have HR:=hid hR
 have H:=hid h
 have HT:=hid ht
 have HL:=hid hl
 clear h ht hl hR
 go_enter func183,ntmps183
 go_wp2_with fail
 refine(jV _ pb s t 4 H.out).mono ?_;rintro e w1 ⟨rfl,hp1,hb1⟩
 cases hk:(t.kind==4)
 case' false=>
  have HX:=hid (show R=(false,t,[]) by rw[← HR.out];simp[gK,hk])
  rw[hk] at hp1
  go_wp2_with fail
  go_ret
  exact⟨.slice none 0 0,by rw[HX.out];rfl,by rw[HX.out];exact hp1,HL.out.same (hb1.block ib hil hne),by rw[HX.out];exact World.ownsRow_nil _ _ _ _,fun _=>rfl,Wrote.jy hb1 hil hne⟩
 case' true=>
  have HX:=hid (show dO s (s.size+1) (aj s t) []=R by rw[← HR.out];simp[gK,hk])
  rw[hk] at hp1
  have jJ:=hid hp1
  have HW1:=hid (Wrote.jy (no:=io) (n:=1) hb1 hil hne)
  have Oj:=hid (HL.out.same (hb1.block ib hil hne))
  clear hp1 hb1
  go_wp2_with fail
  go_loopg [7] (s.size+1) (fun gk one wr=>∃ t1 L v,s.size<t1.at_+gk∧L.length≤t1.at_∧Hid (dO s gk t1 L=R)∧Hid (Ps wr pb s t1)∧Hid (Tk s t1)∧Hid (Seg wr ib T io [v])∧Hid (wr.ownsRow w.heap.size 242 7 v L.length (L.flatMap dI))∧Hid (L=[]→v=.slice none 0 0)∧Hid (Wrote w wr pb ib io 1))
  case atStart=>exact⟨aj s t,[],.slice none 0 0,by omega,by simp,HX,jJ,hid HT.out.next,Oj,hid (World.ownsRow_nil _ _ _ _),hid (fun _=>rfl),HW1⟩
  case round=>
   obtain⟨t1,L,v,hgk,hLl,EN,HP,pz,HLC,HOW,HNL,HWR⟩:=hrel
   obtain⟨va,vc,hvv⟩:∃ a c,v=.slice a L.length c:=ay HOW.out
   subst hvv
   have hfit:=pz.out.fit
   obtain⟨gk',rfl⟩:∃ gk',gk=gk'+1:=⟨gk-1,by omega⟩
   have hws:=HWR.out.size
   go_wp2_with fail
   have hbox:Seg (wr.alloc (.cells #[.int .i64 0,.int .i64 0,.string ⟨#[]⟩,.int .i64 0,.int .i64 0,.string ⟨#[]⟩,.int .i64 0] 242)) wr.heap.size 242 0 [.int .i64 0,.int .i64 0,.string ⟨#[]⟩,.int .i64 0,.int .i64 0,.string ⟨#[]⟩,.int .i64 0]:=⟨_,heap_alloc_new wr _,by simp,by simp⟩
   have hb0:Below wr.heap.size wr (wr.alloc (.cells #[.int .i64 0,.int .i64 0,.string ⟨#[]⟩,.int .i64 0,.int .i64 0,.string ⟨#[]⟩,.int .i64 0] 242)):=(Below.refl _ _).alloc (Nat.le_refl _) _
   refine(Qi _ pb s t1 wr.heap.size 242 _ _ _ _ _ _ _ (HP.out.below hb0) hbox (by omega) (by omega) (by omega)).mono ?_;rintro e w2 ⟨rfl,hp2,hw2,hfd⟩
   have hfl:wr.heap.size<w2.heap.size:=Nat.lt_of_lt_of_le (by simp) hw2.size
   have Uo:w2.heap[ib]? = wr.heap[ib]?:=(hw2.block ib (by simp;omega) hne (by omega)).trans (hb0.block ib (by omega))
   have Ur:=HLC.out.same Uo
   have Us:=aC (w':=w2) HOW.out (fun g hg=>by
    have hlt:=HOW.out.lt g hg
    exact(hw2.block g (by simp;omega) (by omega) (by omega)).trans (hb0.block g hlt.2))
   have hwr2:Wrote w w2 pb ib io 1:=(HWR.out.tq (hb0.mono hws) hil).box hw2 hws hil hne
   have HP2:=hid hp2
   have LM:=hid Ur
   have LP:=hid Us
   have Ut:=hid hwr2
   have Qm:=hid hfd
   clear hp2 hw2 hfd Uo Ur Us hwr2 hbox hb0 HP HLC HOW HWR
   cases hf:(bD s t1).1
   case' false=>
    have HY:=hid (show R=(false,(bD s t1).2,L) by rw[← EN.out];simp[dO,hf])
    go_wp2_with fail
    go_ret
    exact⟨_,by rw[HY.out];rfl,by rw[HY.out];exact HP2.out,LM.out,by rw[HY.out];exact LP.out,by rw[HY.out];exact HNL.out,Ut.out⟩
   case' true=>
    obtain⟨n,hn,hseg⟩:=Qm.out hf
    have hat:=Ql pz.out hf
    rw[hn (pz.out.num hat.2)] at hseg
    have e0:=hseg.cell (j:=0) (v:=.int .i64 (iM s t1 (lu t1.text.toList)).number) rfl
    have e1:=hseg.cell (j:=1) (v:=.int .i64 (iM s t1 (lu t1.text.toList)).numberAt) rfl
    have e2:=hseg.cell (j:=2) (v:=.string (iM s t1 (lu t1.text.toList)).name) rfl
    have e3:=hseg.cell (j:=3) (v:=.int .i64 (iM s t1 (lu t1.text.toList)).nameAt) rfl
    have e4:=hseg.cell (j:=4) (v:=.int .i64 (iM s t1 (lu t1.text.toList)).shape) rfl
    have e5:=hseg.cell (j:=5) (v:=.string (iM s t1 (lu t1.text.toList)).base) rfl
    have e6:=hseg.cell (j:=6) (v:=.int .i64 (iM s t1 (lu t1.text.toList)).dG) rfl
    have c0:=LM.out.cell (j:=0) (v:=.slice va L.length vc) rfl
    simp only[Nat.zero_add,Nat.add_zero] at e0 e1 e2 e3 e4 e5 e6 c0
    have c0a:=Bd c0 (show ib<w2.heap.size by omega)
    have HAT:=hid hat
    have X9:=hid (show dO s (gk'+1) t1 L=R from EN.out)
    generalize hfv:iM s t1 (lu t1.text.toList)=fv at *
    have HFW:=hid hfv
    clear hn hseg hfv EN Qm
    go_wp2_with fail
    go_region_law (refine step_append_lies _ rfl (.tmp 17) (.tmp 19) 113 rfl w.heap.size 242 iF _ 7 72 underlying113 hiF hF0 hF1 hF2 rfl (by decide) _ _ _ (by simp[Act.eval]) (LP.out.alloc _) ⟨w2.heap.size,0,none⟩ 1 1 (dI fv) (by simp[Act.eval]) rfl (yu w2 #[.int .i64 fv.number,.int .i64 fv.numberAt,.string fv.name,.int .i64 fv.nameAt,.int .i64 fv.shape,.string fv.base,.int .i64 fv.dG] _) (by simp[dI,Value.oneCell']) (by omega) (by unfold maxLen;omega) (by omega) (by simp;omega) _ rfl ?_;intro g cp w3 hown' hgrow hgat ahH;have hb3:Below w.heap.size w2 w3:=((Below.refl w.heap.size w2).alloc (by omega) _).drew.grown hgrow (by show w.heap.size≤(w2.alloc _).heap.size;simp;omega) (fun k hk=>(LP.out.lt k hk).1);have Gx:=LM.out.same (hb3.block ib hil);have c03:=Gx.cell (j:=0) (v:=.slice va L.length vc) rfl;have cf3:∀ j,w3.frozen? ⟨ib,j,none⟩=false:=fun j=>Gx.frozen j;simp only[Nat.add_zero] at c03;have abd:=hid Gx;have HB3:=hid hb3;have Ya:=hid hown';clear Gx hb3 hown' hgrow hgat)
    all_goals
     go_wp2_with fail
     have vT:=(HP2.out.Gw HB3.out hpl hv1 hv2).store hne h1 h2 io (.slice (some ⟨g,0,none⟩) (L.length+1) cp)
     have Tq:=ownsRow_setCell_below (a:=⟨ib,io,none⟩) Ya.out hil (.slice (some ⟨g,0,none⟩) (L.length+1) cp)
     have hs4:=abd.out.set 0 (.slice (some ⟨g,0,none⟩) (L.length+1) cp)
     have hw4:=(Ut.out.tq HB3.out hil).setCell 0 (by omega) (.slice (some ⟨g,0,none⟩) (L.length+1) cp)
     simp only[Nat.add_zero] at hs4 hw4
     have ahI:=hw4.size
     refine(jV _ pb s (bD s t1).2 5 vT).mono ?_;rintro e w5 ⟨rfl,Bg,hb5⟩
     have Ad:=hid Bg
     have Qn:=hid (hs4.same (hb5.block ib (by omega) hne))
     have HW5:=hid (hw4.but hb5 hil hne)
     have HO5:=hid (show w5.ownsRow w.heap.size 242 7 (.slice (some ⟨g,0,none⟩) (L.length+1) cp) (L++[fv]).length ((L++[fv]).flatMap dI) by
      have:=aC (w':=w5) Tq (fun gg hgg=>hb5.block gg (Tq.lt gg hgg).2 (by have:=(Tq.lt gg hgg).1;omega))
      simpa using this)
     clear vT Tq hs4 hw4 Bg hb5 e0 e1 e2 e3 e4 e5 e6 c0 c0a c03 cf3
     cases hk5:((bD s t1).2.kind==5)
     case' true=>
      have HZ:=hid (show R=(true,aj s (bD s t1).2,L++[fv]) by rw[← X9.out];simp only[dO,hf,hk5,if_true,HFW.out])
      rw[hk5] at Ad
      go_wp2_with fail
      go_ret
      exact⟨_,by rw[HZ.out];rfl,by rw[HZ.out];exact Ad.out,Qn.out,by rw[HZ.out];exact HO5.out,fun hh=>(by rw[HZ.out] at hh;simp at hh),HW5.out⟩
     case' false=>
      have HZ:=hid (show dO s gk' (bD s t1).2 (L++[fv])=R by rw[← X9.out];simp only[dO,hf,hk5,if_true,HFW.out];rw[if_neg (by decide)])
      rw[hk5] at Ad
      have X0:=HAT.out.1
      have HT2:=hid (sZ pz.out)
      go_wp2_with fail
      go_roundg gk'
      case rel=>exact⟨(bD s t1).2,L++[fv],_,by omega,by simp;omega,HZ,Ad,HT2,Qn,HO5,hid (fun hh=>by simp at hh),HW5⟩
      case measure=>omega
end Go.Proofs.YtolfcabodiphmaaGreatDoor
