/- The parser of package schemas: step, mark, word; isWord, IsBuiltin. -/
import Derived.Test.YtkpfplbmmglkkaaGreatDoorV05
set_option linter.all false
set_option maxHeartbeats 2000000
set_option maxRecDepth 100000
namespace Go.Proofs.YtkpfplbmmglkkaaGreatDoor
open Go.Proofs.Tryz
variable {pb:Nat}{w w':World}{s:ByteArray}{t:PTok}
open Go.RowKit
structure But(pb:Nat)(w w':World):Prop where
 os:w'.os=w.os
 tape:w'.tape=w.tape
 output:w'.output=w.output
 size:w.heap.size≤w'.heap.size
 block:∀ k,k<w.heap.size→k≠pb→w'.heap[k]? = w.heap[k]?
theorem But.refl(pb:Nat)(w:World):But pb w w:=⟨rfl,rfl,rfl,Nat.le_refl _,fun _ _ _=>rfl⟩
theorem But.trans{a b c:World}(h:But pb a b)(k:But pb b c):But pb a c :=
 ⟨k.os.trans h.os,k.tape.trans h.tape,k.output.trans h.output,Nat.le_trans h.size k.size,fun i hi hp=>(k.block i (Nat.lt_of_lt_of_le hi h.size) hp).trans (h.block i hi hp)⟩
theorem But.ofBelow(h:Below w.heap.size w w'):But pb w w':=⟨h.os,h.tape,h.output,h.size,fun k hk _=>h.block k hk⟩
theorem But.setCell(h:But pb w w')(q:Nat)(v:Value):But pb w (w'.setCell (aj pb q) v) :=
 ⟨h.os,h.tape,h.output,by simpa[World.setCell] using h.size,fun k hk hp=>(Below.heap_setCell _ _ _ _ hp).trans (h.block k hk hp)⟩
theorem Vars.but(h:Vars w)(hb:But pb w w')(h1:pb≠1)(h2:pb≠2):Vars w':=by
 obtain⟨te,pe,e1⟩:=h.sx;obtain⟨tf,pf,e2⟩:=h.rg;have l1:=h.lt1;have l2:=h.lt2;exact⟨⟨te,pe,(World.cell?_of_block (w:=w) (a:=⟨1,0,none⟩) (hb.block _ l1 (Ne.symm h1))).trans e1⟩,⟨tf,pf,(World.cell?_of_block (w:=w) (a:=⟨2,0,none⟩) (hb.block _ l2 (Ne.symm h2))).trans e2⟩,Nat.lt_of_lt_of_le l1 hb.size,Nat.lt_of_lt_of_le l2 hb.size⟩
def Ej(s:ByteArray)(t:PTok):List Value:=[.string s,.int .i64 t.kind,.string t.text,.int .i64 t.at_]
structure Ps(w:World)(pb:Nat)(s:ByteArray)(t:PTok):Prop where
 seg:dU w pb 223 0 (Ej s t)
 vE:Vars w
 ne1:pb≠1
 ne2:pb≠2
 fit:t.at_+t.text.size≤s.size
 sz:s.size≤400
theorem Ps.below(h:Ps w pb s t)(hb:Below w.heap.size w w'):Ps w' pb s t :=
 ⟨h.seg.same (hb.block pb h.seg.lt),h.vE.below hb,h.ne1,h.ne2,h.fit,h.sz⟩
def nextP(s:ByteArray)(t:PTok):PTok:=scanP s (t.at_+t.text.size)
def afterT(b:Bool)(s:ByteArray)(t:PTok):PTok:=match b with | true=>nextP s t | false=>t
theorem zT(s:ByteArray)(k:Nat)(hk:k≤s.size):(scanAt s k).at_+(scanAt s k).text.size≤s.size:=by
 unfold scanAt
 split
 ·show k+0≤s.size;omega
 ·split
  ·simp[ByteArray.size_extract];omega
  ·have:=vC s s.size k hk
   have:=vA s s.size k;simp[ByteArray.size_extract];omega
theorem Oq(h:t.at_+t.text.size≤s.size):(nextP s t).at_+(nextP s t).text.size≤s.size :=
 zT s _ (Ei s _ h)
theorem Gi(w:World)(pb:Nat)(s:ByteArray)(t:PTok)(h:Ps w pb s t):
  aT 134 #[aM pb] w fun e w'=>e=.returned (.tuple #[])∧Ps w' pb s (nextP s t)∧But pb w w':=by
 have c0:=h.seg.cell (j:=0) (v:=.string s) rfl;have c1:=h.seg.cell (j:=1) (v:=vI t.kind) rfl;have c2:=h.seg.cell (j:=2) (v:=.string t.text) rfl;have c3:=h.seg.cell (j:=3) (v:=vI t.at_) rfl;simp only[Nat.zero_add] at c0 c1 c2 c3;have Ot:=h.fit;have mI:=h.sz;have BG:IntKind.i64.wrap ((t.at_:Int)+(t.text.size:Int))=(t.at_:Int)+(t.text.size:Int):=xh _ (by omega) (by omega);have Yx:(t.at_:Int)+(t.text.size:Int)=((t.at_+t.text.size:Nat):Int):=by omega
 have HC:=U Yx;have H:=U h;clear h Yx
 go_enter func134,ntmps134
 go_wp2_with fail
 go_region_with (go_at_call 177;rw[HC.o];refine(Rs s (t.at_+t.text.size) _ (H.o.vE.below (Below.refl _ _).drew) mI Ot).mono ?_;rintro e w4 ⟨rfl,iA⟩;have tL:=(H.o.below (Below.refl _ _).drew).below iA;have y1:=tL.seg.cell (j:=1) (v:=vI t.kind) rfl;have y2:=tL.seg.cell (j:=2) (v:=.string t.text) rfl;have y3:=tL.seg.cell (j:=3) (v:=vI t.at_) rfl;have yf:∀ j,w4.frozen? (aj pb j)=false:=fun j=>tL.seg.aq j;simp only[Nat.zero_add] at y1 y2 y3)
 all_goals
  go_wp2_with fail
  go_end0
  have iC:Below w.heap.size w w4:=((Below.refl w.heap.size w).drew).trans iA;have rK:=(((But.ofBelow (pb:=pb) iC).setCell 1 (.int .i64 (scanP s (t.at_+t.text.size)).kind)).setCell 2 (.string (scanP s (t.at_+t.text.size)).text)).setCell 3 (.int .i64 (scanP s (t.at_+t.text.size)).at_);have rL:=((tL.seg.set 1 (.int .i64 (scanP s (t.at_+t.text.size)).kind)).set 2 (.string (scanP s (t.at_+t.text.size)).text)).set 3 (.int .i64 (scanP s (t.at_+t.text.size)).at_);simp only[Nat.zero_add] at rL;exact⟨rfl,⟨rL,H.o.vE.but rK H.o.ne1 H.o.ne2,H.o.ne1,H.o.ne2,Oq Ot,mI⟩,rK⟩
theorem jz(w:World)(pb:Nat)(s:ByteArray)(t:PTok)(k:Nat)(h:Ps w pb s t):
  aT 217 #[aM pb,vI k] w fun e w'=>e=.returned (.bool (t.kind==k))∧Ps w' pb s (afterT (t.kind==k) s t)∧But pb w w':=by
 have c1:=h.seg.cell (j:=1) (v:=vI t.kind) rfl;simp only[Nat.zero_add] at c1;have H:=U h;clear h
 cases hk:(t.kind==k) with
 | true=>
  have bT:((t.kind:Int) != (k:Int))=false:=by have:=eq_of_beq hk;simp;omega
  go_enter func217,ntmps217
  go_wp2_with fail
  refine(Gi _ pb s t H.o).mono ?_;rintro e w1 ⟨rfl,fe,aA⟩
  go_wp2_with fail
  go_ret
  exact⟨rfl,fe,aA⟩
 | false=>
  have bT:((t.kind:Int) != (k:Int))=true:=by have:=ne_of_beq_false hk;simp;omega
  go_enter func217,ntmps217
  go_wp2_with fail
  go_ret
  exact⟨rfl,H.o,But.refl _ _⟩
def isWordT(t:PTok)(l:List UInt8):Bool:=(t.text.toList==l)&&(t.kind==2)
theorem nT(w:World)(pb:Nat)(s:ByteArray)(t:PTok)(l:ByteArray)(h:Ps w pb s t):
  aT 178 #[aM pb,.string l] w fun e w'=>e=.returned (.bool (isWordT t l.toList))∧Ps w' pb s (afterT (isWordT t l.toList) s t)∧But pb w w':=by
 have c2:=h.seg.cell (j:=2) (v:=.string t.text) rfl;simp only[Nat.zero_add] at c2;have H:=U h;clear h;generalize hI:isWordT t l.toList=b;have HI:=U hI;clear hI
 cases hw:(t.text.toList==l.toList) with
 | false=>
  have HW:=U (show b=false by rw[← HI.o];simp only[isWordT,hw];rfl)
  go_enter func178,ntmps178
  go_wp2_with fail
  go_ret
  exact⟨bR HW.o.symm,by rw[HW.o];exact H.o,But.refl _ _⟩
 | true=>
  have HW:=U (show b=(t.kind==2) by rw[← HI.o];simp only[isWordT,hw];rfl)
  go_enter func178,ntmps178
  go_wp2_with fail
  refine(jz _ pb s t 2 H.o).mono ?_;rintro e w1 ⟨rfl,fe,aA⟩;rw[← HW.o] at fe ⊢
  go_wp2_with fail
  go_ret
  exact⟨rfl,fe,aA⟩
theorem dU.Ou{b:Nat}{T:TypeId}{p:Nat}{xs:List Value}(h:dU w b T p xs)(q:Nat)(v:Value)(hq:q<p∨p+xs.length≤q):dU (w.setCell (aj b q) v) b T p xs:=by
 obtain⟨cur,hb,hs,ht⟩:=h;refine⟨cur.setIfInBounds q v,heap_setCell_same w b q cur T v hb,by simpa using hs,?_⟩;rw[Array.toList_setIfInBounds,List.drop_set]
 by_cases hqp:q<p
 ·rw[if_pos hqp,ht]
 ·rw[if_neg hqp,List.take_set,ht,List.set_eq_of_length_le (by omega)]
theorem Tryz.infoStr:(Tryz.prog.info? 9).map (fun i=>(i.zero,i.size,i.bytes))=some (some (.string ⟨#[]⟩),1,16):=by kernel_rfl
theorem Tryz.infoInt:(Tryz.prog.info? 3).map (fun i=>(i.zero,i.size,i.bytes))=some (some (vI 0),1,8):=by kernel_rfl
theorem vF(w:World)(arr:Array Value)(t:TypeId)(j:Nat)(u:Value)(h:arr.toList[j]? = some u):(w.alloc (.cells arr t)).cell? (((aj w.heap.size 0):Addr).add j)=some u:=by
 have:(w.alloc (.cells arr t)).heap[w.heap.size]? = some (.cells arr t (0,0)):=heap_alloc_new w _;have e:((aj w.heap.size 0):Addr).add j=⟨w.heap.size,0+j,none⟩:=Addr.add_lit _ _ _;rw[e];simp only[World.cell?,this];simpa using h
theorem dK(w:World)(H:Nat)(hH:w.heap.size=H)(arr:Array Value)(t:TypeId)(j:Nat)(u:Value)(h:arr.toList[j]? = some u):(w.alloc (.cells arr t)).cell? (((aj H 0):Addr).add j)=some u:=by
 subst hH;exact vF w arr t j u h
theorem zU{w4:World}{a:Addr}{v:Value}(h:w4.cell? a=some v)(hb:a.block<w4.heap.size):∀ ob,(w4.alloc ob).cell? a=some v:=fun ob=>
 (((Below.refl w4.heap.size w4).alloc (Nat.le_refl _) ob).cell hb).trans h
end Go.Proofs.YtkpfplbmmglkkaaGreatDoor
