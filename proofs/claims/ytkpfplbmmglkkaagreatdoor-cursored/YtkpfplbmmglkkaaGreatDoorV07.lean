/- The parser of package schemas: isWord, IsBuiltin, name, base, number, shape. -/
import Derived.Test.YtkpfplbmmglkkaaGreatDoorV06
set_option linter.all false
set_option maxHeartbeats 16000000
set_option maxRecDepth 100000
namespace Go.Proofs.YtkpfplbmmglkkaaGreatDoor
open Go.Proofs.Tryz
variable {w w' vb:World}{pb nb no n lo size b o fo m B lo' hi Gj:Nat}{s:ByteArray}{t:PTok}{e T:TypeId}{xs:List Value}{l:List UInt8}{lv:Value}
open Go.RowKit
theorem nj(s:ByteArray)(w:World):
  aT 98 #[.string s] w fun e w'=>e=.returned (.bool (kx s.toList))∧w'=w:=by
 generalize hB:kx s.toList=b;have HB:=U hB;clear hB;cases h1:(s.toList==[105,110,116])
 ·cases h2:(s.toList==[98,111,111,108])
  ·go_enter func98,ntmps98
   go_wp2
   go_ret
   exact⟨bR (by rw[← HB.o];simp[kx,h1,h2]),rfl⟩
  ·go_enter func98,ntmps98
   go_wp2
   go_ret
   exact⟨bR (by rw[← HB.o];simp[kx,h2]),rfl⟩
 ·go_enter func98,ntmps98
  go_wp2
  go_ret
  exact⟨bR (by rw[← HB.o];simp[kx,h1]),rfl⟩
theorem Rv(l:List UInt8):uj l=((l==eA)||(l==mM)||(l==gu)||(l==mg)||(l==yg)||(l==r9)||kx l):=by
 unfold uj Yu kx eA mM gu mg yg r9;simp only[List.any_cons,List.any_nil,Bool.or_false];rw[BEq.comm (a:=[109,101,115,115,97,103,101]),BEq.comm (a:=[101,110,117,109]),BEq.comm (a:=[115,116,114,101,97,109]),BEq.comm (a:=[99,97,108,108]),BEq.comm (a:=[111,112,116]),BEq.comm (a:=[108,105,115,116]),BEq.comm (a:=[105,110,116]),BEq.comm (a:=[98,111,111,108]),BEq.comm (a:=[116,101,120,116])];simp only[Bool.or_assoc]
theorem zV(s:ByteArray)(w:World):
  aT 218 #[.string s] w fun e w'=>e=.returned (.bool (uj s.toList))∧w'=w:=by
 have hW:=Rv s.toList;generalize hB:uj s.toList=b at *;have HW:=U hW;clear hW hB;simp only[eA,mM,gu,mg,yg,r9] at HW;cases h1:(s.toList==[109,101,115,115,97,103,101])
 case' false=>
  cases h2:(s.toList==[101,110,117,109])
  case' false=>
   cases h3:(s.toList==[115,116,114,101,97,109])
   case' false=>
    cases h4:(s.toList==[99,97,108,108])
    case' false=>
     cases h5:(s.toList==[111,112,116])
     case' false=>
      cases h6:(s.toList==[108,105,115,116])
      case false=>
       go_enter func218,ntmps218
       go_wp2_with fail
       refine(nj _ _).mono ?_;rintro e w1 ⟨rfl,rfl⟩
       go_wp2_with fail
       go_ret
       exact⟨bR (by rw[HW.o,h1,h2,h3,h4,h5,h6];rfl),rfl⟩
 all_goals
  go_enter func218,ntmps218
  go_wp2_with fail
  go_ret
  exact⟨bR (by rw[HW.o];simp[*]),rfl⟩
structure cq(w w':World)(pb nb no n:Nat):Prop where
 os:w'.os=w.os
 tape:w'.tape=w.tape
 output:w'.output=w.output
 size:w.heap.size≤w'.heap.size
 block:∀ k,k<w.heap.size→k≠pb→k≠nb→w'.heap[k]? = w.heap[k]?
 seg:∀ T p xs,(p+xs.length≤no∨no+n≤p)→dU w nb T p xs→dU w' nb T p xs
 len:∀ T cur,w.heap[nb]? = some (.cells cur T (0,0))→∃ sG,w'.heap[nb]? = some (.cells sG T (0,0))∧sG.size=cur.size
theorem cq.kg(h:But pb w w')(hl:nb<w.heap.size)(bT:nb≠pb):cq w w' pb nb no n :=
 ⟨h.os,h.tape,h.output,h.size,fun k hk hp _=>h.block k hk hp,fun _ _ _ _ hs=>hs.same (h.block nb hl bT),fun _ cur hc=>⟨cur,by rw[h.block nb hl bT];exact hc,rfl⟩⟩
theorem cq.setCell(h:cq w w' pb nb no n)(j:Nat)(hj:j<n)(v:Value):cq w (w'.setCell ⟨nb,no+j,none⟩ v) pb nb no n :=
 ⟨h.os,h.tape,h.output,by simpa[World.setCell] using h.size,fun k hk hp hn=>(Below.heap_setCell _ _ _ _ hn).trans (h.block k hk hp hn),fun T p xs hp hs=>(h.seg T p xs hp hs).Ou _ _ (by omega),fun T cur hc=>by
  obtain⟨c',h1,h2⟩:=h.len T cur hc
  exact⟨_,heap_setCell_same w' nb (no+j) c' T v h1,by simpa using h2⟩⟩
theorem cq.drew(h:cq w w' pb nb no n):cq w w'.drew pb nb no n:=⟨h.os,h.tape,h.output,h.size,h.block,h.seg,h.len⟩
theorem cq.but(h:cq w w' pb nb no n)(hb:But pb w' vb)(hl:nb<w.heap.size)(bT:nb≠pb):cq w vb pb nb no n :=
 ⟨hb.os.trans h.os,hb.tape.trans h.tape,hb.output.trans h.output,Nat.le_trans h.size hb.size,fun k hk hp hn=>(hb.block k (Nat.lt_of_lt_of_le hk h.size) hp).trans (h.block k hk hp hn),
  fun T p xs hp hs=>(h.seg T p xs hp hs).same (hb.block nb (Nat.lt_of_lt_of_le hl h.size) bT),fun T cur hc=>by
  obtain⟨c',h1,h2⟩:=h.len T cur hc
  exact⟨c',by rw[hb.block nb (Nat.lt_of_lt_of_le hl h.size) bT];exact h1,h2⟩⟩
theorem Ps.store(h:Ps w pb s t){nb:Nat}(bT:nb≠pb)(h1:nb≠1)(h2:nb≠2)(q:Nat)(v:Value):Ps (w.setCell (aj nb q) v) pb s t :=
 ⟨h.seg.same (Below.heap_setCell _ _ _ _ (Ne.symm bT)),h.vE.but ((But.refl nb w).setCell q v) h1 h2,h.ne1,h.ne2,h.fit,h.sz⟩
theorem Ps.drew(h:Ps w pb s t):Ps w.drew pb s t:=h.below (Below.refl _ _).drew
def nameOk(t:PTok):Bool:=!(uj t.text.toList)&&(t.kind==2)
def nameCells(t:PTok):List Value:=[.string t.text,.int .i64 t.at_]
theorem zW(w:World)(pb:Nat)(s:ByteArray)(t:PTok)(nb no:Nat)(T:TypeId)(d0 d1:Value)(h:Ps w pb s t)(hn:dU w nb T no [d0,d1])(bT:nb≠pb)(h1:nb≠1)(h2:nb≠2):
  aT 179 #[aM pb,.pointer (some (aj nb no))] w fun e w'=>e=.returned (.bool (nameOk t))∧Ps w' pb s (afterT (nameOk t) s t)∧dU w' nb T no (nameCells t)∧cq w w' pb nb no 2:=by
 have c2:=h.seg.cell (j:=2) (v:=.string t.text) rfl;have c3:=h.seg.cell (j:=3) (v:=vI t.at_) rfl;have e0:=hn.cell (j:=0) (v:=d0) rfl;have e1:=hn.cell (j:=1) (v:=d1) rfl;have ef:∀ j,w.frozen? (aj nb j)=false:=fun j=>hn.aq j
 simp only[Nat.zero_add,Nat.add_zero] at c2 c3 e0;have q1:(nb=pb)=False:=by simp;omega
 have q2:(pb=nb)=False:=by simp;omega
 have H:=U h;have HN:=U hn;clear h hn;generalize hO:nameOk t=b;have HO:=U hO;clear hO
 go_enter func179,ntmps179
 go_wp2_with fail
 go_region
 all_goals
  go_wp2_with fail
  have il:=(HN.o.set 0 (.string t.text)).set 1 (vI t.at_);have fI:=(H.o.store bT h1 h2 (no+0) (.string t.text)).store bT h1 h2 (no+1) (vI t.at_);have dX:=(((cq.kg (no:=no) (n:=2) (But.refl pb w) HN.o.lt bT).setCell 0 (by omega) (.string t.text)).setCell 1 (by omega) (vI t.at_)).drew;simp only[Nat.add_zero] at il fI dX;have oG:=U (show dU ((w.setCell (aj nb no) (.string t.text)).setCell ⟨nb,no+1,none⟩ (vI t.at_)).drew nb T no (nameCells t) from il);have jn:=U fI.drew;have Kl:=U dX;clear il fI dX;refine(zV _ _).mono ?_;rintro e w1 ⟨rfl,rfl⟩;cases hwd:uj t.text.toList
  case' true=>
   have HB:=U (show b=false by rw[← HO.o];simp[nameOk,hwd])
   go_wp2_with fail
   go_ret
   exact⟨bR HB.o.symm,by rw[HB.o];exact jn.o,oG.o,Kl.o⟩
  case' false=>
   have HB:=U (show b=(t.kind==2) by rw[← HO.o];simp[nameOk,hwd])
   go_wp2_with fail
   refine(jz _ pb s t 2 jn.o).mono ?_;rintro e w3 ⟨rfl,mN,bP⟩;rw[← HB.o] at mN ⊢
   go_wp2_with fail
   go_ret
   exact⟨rfl,mN,oG.o.same (bP.block nb (Nat.lt_of_lt_of_le HN.o.lt Kl.o.size) bT),Kl.o.but bP HN.o.lt bT⟩
def baseOk(t:PTok):Bool:=(!(uj t.text.toList)||kx t.text.toList)&&(t.kind==2)
theorem um(w:World)(pb:Nat)(s:ByteArray)(t:PTok)(nb no:Nat)(T:TypeId)(d0 d1:Value)(h:Ps w pb s t)(hn:dU w nb T no [d0,d1])(bT:nb≠pb)(h1:nb≠1)(h2:nb≠2):
  aT 183 #[aM pb,.pointer (some (aj nb no))] w fun e w'=>e=.returned (.bool (baseOk t))∧Ps w' pb s (afterT (baseOk t) s t)∧dU w' nb T no (nameCells t)∧cq w w' pb nb no 2:=by
 have c2:=h.seg.cell (j:=2) (v:=.string t.text) rfl;have c3:=h.seg.cell (j:=3) (v:=vI t.at_) rfl;have e0:=hn.cell (j:=0) (v:=d0) rfl;have e1:=hn.cell (j:=1) (v:=d1) rfl;have ef:∀ j,w.frozen? (aj nb j)=false:=fun j=>hn.aq j
 simp only[Nat.zero_add,Nat.add_zero] at c2 c3 e0;have q1:(nb=pb)=False:=by simp;omega
 have q2:(pb=nb)=False:=by simp;omega
 have H:=U h;have HN:=U hn;clear h hn;generalize hO:baseOk t=b;have HO:=U hO;clear hO
 go_enter func183,ntmps183
 go_wp2_with fail
 go_region
 all_goals
  go_wp2_with fail
  have il:=(HN.o.set 0 (.string t.text)).set 1 (vI t.at_);have fI:=(H.o.store bT h1 h2 (no+0) (.string t.text)).store bT h1 h2 (no+1) (vI t.at_);have dX:=(((cq.kg (no:=no) (n:=2) (But.refl pb w) HN.o.lt bT).setCell 0 (by omega) (.string t.text)).setCell 1 (by omega) (vI t.at_)).drew;simp only[Nat.add_zero] at il fI dX;have oG:=U (show dU ((w.setCell (aj nb no) (.string t.text)).setCell ⟨nb,no+1,none⟩ (vI t.at_)).drew nb T no (nameCells t) from il);have jn:=U fI.drew;have Kl:=U dX;clear il fI dX;refine(zV _ _).mono ?_;rintro e w1 ⟨rfl,rfl⟩;cases hwd:uj t.text.toList
  case' true=>
   go_wp2_with fail
   refine(nj _ _).mono ?_;rintro e w2 ⟨rfl,rfl⟩;cases Gk:kx t.text.toList
   case' false=>
    have HB:=U (show b=false by rw[← HO.o];simp[baseOk,hwd,Gk])
    go_wp2_with fail
    go_ret
    exact⟨bR HB.o.symm,by rw[HB.o];exact jn.o,oG.o,Kl.o⟩
   case' true=>
    have HB:=U (show b=(t.kind==2) by rw[← HO.o];simp[baseOk,Gk])
    go_wp2_with fail
    refine(jz _ pb s t 2 jn.o).mono ?_;rintro e w3 ⟨rfl,mN,bP⟩;rw[← HB.o] at mN ⊢
    go_wp2_with fail
    go_ret
    exact⟨rfl,mN,oG.o.same (bP.block nb (Nat.lt_of_lt_of_le HN.o.lt Kl.o.size) bT),Kl.o.but bP HN.o.lt bT⟩
  case' false=>
   have HB:=U (show b=(t.kind==2) by rw[← HO.o];simp[baseOk,hwd])
   go_wp2_with fail
   refine(jz _ pb s t 2 jn.o).mono ?_;rintro e w3 ⟨rfl,mN,bP⟩;rw[← HB.o] at mN ⊢
   go_wp2_with fail
   go_ret
   exact⟨rfl,mN,oG.o.same (bP.block nb (Nat.lt_of_lt_of_le HN.o.lt Kl.o.size) bT),Kl.o.but bP HN.o.lt bT⟩
theorem Ov:∀ k,k<100→(ye k).head? ≠ some 43∧(ye k).head? ≠ some 45:=by decide
theorem Ek(run:ByteArray)(w:World)(hv:Vars w)(hs:run.size≤400):
  aT 248 #[.string run] w fun e w'=>∃ (n:Int) (b:Bool),e=.returned (.tuple #[vI n,.bool b])∧(me run.toList=true→n=kU run.toList)∧Below w.heap.size w w':=by
 rcases hA:Lib.atoiAll run.data.toList with v | _ | _
 ·have h0:0<run.size:=by
   rcases Nat.eq_zero_or_pos run.size with h | h
   ·have:run.data.toList=[]:=List.eq_nil_of_length_eq_zero h
    rw[this] at hA;simp[Lib.atoiAll] at hA
   ·exact h
  by_cases hc:(run[0]'h0).toNat≠43∧(run[0]'h0).toNat≠45
  ·refine(oF run w hv h0 hs hc).mono ?_
   rintro e w1 ⟨n,rfl,hn,hb⟩;exact⟨n,_,rfl,hn,hb⟩
  ·have HN:=U (show me run.toList=false by
    cases hn:me run.toList with
    | false=>rfl
    | true=>
     obtain⟨k,h1,h2,h3⟩:=mf hn;obtain⟨r,hr⟩:=Gg run h0;have hd:=Ov k (by omega);rw[← h3,hr] at hd;simp at hd;exfalso;apply hc
     exact⟨fun e=>hd.1 (UInt8.toNat_inj.1 (by simpa using e)),fun e=>hd.2 (UInt8.toNat_inj.1 (by simpa using e))⟩)
   clear hc
   go_enter func248,ntmps248
   go_wp2_with fail
   refine(lY run (by omega) v hA _).mono ?_;rintro e w1 ⟨rfl,ee⟩
   have aA:Below w.heap.size w w1:=by
    rcases ee with rfl | ⟨bt,rfl⟩
    ·exact Below.refl _ _
    ·exact Joins.below_bytesWorld _ _ _ _ (Nat.le_refl _)
   clear ee hA
   go_wp2_with fail
   all_goals
    go_ret2
    exact⟨_,_,rfl,fun hh=>(by rw[HN.o] at hh;cases hh),aA⟩
 ·have HN:=U (yO (l:=run.toList) (fun v hh=>by rw[ByteArray.toList_eq,hA] at hh;cases hh))
  obtain⟨te,pe,ZT⟩:=hv.sx
  go_enter func248,ntmps248
  go_wp2_with fail
  refine(jx run (by omega) ⟨fun v hh => (by rw [hA] at hh; cases hh),fun hh => (by rw [hA] at hh; cases hh)⟩ _ _ ZT (Or.inr ⟨te,pe,rfl⟩)).mono ?_;rintro e w1 ⟨N,rfl,_,_,aA⟩;clear hA
  go_wp2_with fail
  go_ret2
  exact⟨_,_,rfl,fun hh=>(by rw[HN.o] at hh;cases hh),aA⟩
 ·have HN:=U (yO (l:=run.toList) (fun v hh=>by rw[ByteArray.toList_eq,hA] at hh;cases hh))
  obtain⟨te,pe,ZU⟩:=hv.rg
  go_enter func248,ntmps248
  go_wp2_with fail
  refine(jZ run (by omega) hA _ _ ZU (Or.inr ⟨te,pe,rfl⟩)).mono ?_;rintro e w1 ⟨N,rfl,_,_,aA⟩;clear hA
  go_wp2_with fail
  go_ret2
  exact⟨_,_,rfl,fun hh=>(by rw[HN.o] at hh;cases hh),aA⟩
theorem Km(w:World)(pb:Nat)(s:ByteArray)(t:PTok)(nb no:Nat)(T:TypeId)(d0 d1:Value)(h:Ps w pb s t)(hn:dU w nb T no [d0,d1])(bT:nb≠pb)(h1:nb≠1)(h2:nb≠2):
  aT 219 #[aM pb,.pointer (some (aj nb no))] w fun e w'=>∃ n:Int,e=.returned (.bool (t.kind==3))∧(me t.text.toList=true→n=kU t.text.toList)∧Ps w' pb s (afterT (t.kind==3) s t)∧dU w' nb T no [vI n,vI t.at_]∧cq w w' pb nb no 2:=by
 have c2:=h.seg.cell (j:=2) (v:=.string t.text) rfl;simp only[Nat.zero_add] at c2;have QG:t.text.size≤400:=by have:=h.fit;have:=h.sz;omega
 have q1:(nb=pb)=False:=by simp;omega
 have q2:(pb=nb)=False:=by simp;omega
 have H:=U h;have HN:=U hn;clear h hn
 go_enter func219,ntmps219
 go_wp2_with fail
 refine(Ek _ _ H.o.vE QG).mono ?_;rintro e w1 ⟨n,bb,rfl,B9,aA⟩;have fe:=H.o.below aA;have gY:=HN.o.same (aA.block nb HN.o.lt);have c3:=fe.seg.cell (j:=3) (v:=vI t.at_) rfl;have e0:=gY.cell (j:=0) (v:=d0) rfl;have e1:=gY.cell (j:=1) (v:=d1) rfl;have ef:∀ j,w1.frozen? (aj nb j)=false:=fun j=>gY.aq j
 simp only[Nat.zero_add,Nat.add_zero] at c3 e0;have Kj:=U B9;have jP:=U fe;have El:=U gY;clear B9 fe gY c2
 go_wp2_with fail
 have il:=(El.o.set 0 (vI n)).set 1 (vI t.at_);have fI:=(jP.o.store bT h1 h2 (no+0) (vI n)).store bT h1 h2 (no+1) (vI t.at_);have dX:=(((cq.kg (no:=no) (n:=2) (But.ofBelow (pb:=pb) aA) HN.o.lt bT).setCell 0 (by omega) (vI n)).setCell 1 (by omega) (vI t.at_))
 simp only[Nat.add_zero] at il fI dX;have oG:=U (show dU ((w1.setCell (aj nb no) (vI n)).setCell ⟨nb,no+1,none⟩ (vI t.at_)) nb T no [vI n,vI t.at_] from il);have jn:=U fI;have Kl:=U dX;clear il fI dX;refine(jz _ pb s t 3 jn.o).mono ?_;rintro e w3 ⟨rfl,mN,bP⟩
 go_wp2_with fail
 go_ret
 exact⟨n,rfl,Kj.o,mN,oG.o.same (bP.block nb (Nat.lt_of_lt_of_le HN.o.lt Kl.o.size) bT),Kl.o.but bP HN.o.lt bT⟩
def shapeP(t:PTok):Nat:=if isWordT t yg=true then 1 else if isWordT t r9=true then 2 else 0
def shapeOk(t:PTok):Bool:=isWordT t yg||isWordT t r9
theorem Ow(w:World)(pb:Nat)(s:ByteArray)(t:PTok)(nb no:Nat)(T:TypeId)(d0:Value)(h:Ps w pb s t)(hn:dU w nb T no [d0])(bT:nb≠pb)(h1:nb≠1)(h2:nb≠2):
  aT 220 #[aM pb,.pointer (some (aj nb no))] w fun e w'=>e=.returned (.bool true)∧Ps w' pb s (afterT (shapeOk t) s t)∧dU w' nb T no [vI (shapeP t:Nat)]∧cq w w' pb nb no 1:=by
 have H:=U h;have HN:=U hn;clear h hn;generalize hA:afterT (shapeOk t) s t=A;generalize hS:shapeP t=S;have HA:=U hA;have HS:=U hS;clear hA hS
 have bD:∀ (w3:World) (k:Nat),Ps w3 pb s A→But pb w w3→k=S→Ps (w3.setCell (aj nb no) (vI (k:Nat))) pb s A∧dU (w3.setCell (aj nb no) (vI (k:Nat))) nb T no [vI (S:Nat)]∧cq w (w3.setCell (aj nb no) (vI (k:Nat))) pb nb no 1:=by
  intro w3 k hp hb hk;subst hk;have hs:=(HN.o.same (hb.block nb HN.o.lt bT)).set 0 (vI (k:Nat));have hw:=(cq.kg (no:=no) (n:=1) hb HN.o.lt bT).setCell 0 (by omega) (vI (k:Nat));simp only[Nat.add_zero] at hs hw;exact⟨hp.store bT h1 h2 no _,hs,hw⟩
 have FIN:=U bD;clear bD
 have cf:∀ w3,But pb w w3→w3.cell? (aj nb no)=some d0∧∀ j,w3.frozen? (aj nb j)=false:=by
  intro w3 hb;have hs:=HN.o.same (hb.block nb HN.o.lt bT);have e0:=hs.cell (j:=0) (v:=d0) rfl;exact⟨by simpa using e0,fun j=>hs.aq j⟩
 have CF:=U cf;clear cf
 go_enter func220,ntmps220
 go_wp2_with fail
 refine(nT _ pb s t _ H.o).mono ?_;rintro e w1 ⟨rfl,fe,aA⟩;cases ho:isWordT t [111,112,116]
 case' true=>
  have mz:isWordT t (ByteArray.mk #[111,112,116]).toList=true:=by rw[ByteArray.toList_eq];exact ho
  rw[mz] at fe ⊢;obtain⟨e0,ef⟩:=CF.o w1 aA;have F:=U (FIN.o w1 1 (by rw[← HA.o];simp only[shapeOk,yg,ho,Bool.true_or];exact fe) aA (by rw[← HS.o];simp[shapeP,yg,ho]));clear fe
  go_wp2_with fail
  go_ret
  exact⟨rfl,F.o.1,F.o.2.1,F.o.2.2⟩
 case' false=>
  have mz:isWordT t (ByteArray.mk #[111,112,116]).toList=false:=by rw[ByteArray.toList_eq];exact ho
  rw[mz] at fe ⊢
  go_wp2_with fail
  refine(nT _ pb s t _ fe).mono ?_;rintro e w2 ⟨rfl,fI,aW⟩;have sH:=aA.trans aW;obtain⟨e0,ef⟩:=CF.o w2 sH;cases hl:isWordT t [108,105,115,116]
  case' true=>
   have hl':isWordT t (ByteArray.mk #[108,105,115,116]).toList=true:=by rw[ByteArray.toList_eq];exact hl
   rw[hl'] at fI ⊢;have F:=U (FIN.o w2 2 (by rw[← HA.o];simp only[shapeOk,yg,r9,ho,hl,Bool.or_true];exact fI) sH (by rw[← HS.o];simp[shapeP,yg,r9,ho,hl]));clear fe fI
   go_wp2_with fail
   go_ret
   exact⟨rfl,F.o.1,F.o.2.1,F.o.2.2⟩
  case' false=>
   have hl':isWordT t (ByteArray.mk #[108,105,115,116]).toList=false:=by rw[ByteArray.toList_eq];exact hl
   rw[hl'] at fI ⊢;have F:=U (FIN.o w2 0 (by rw[← HA.o];simp only[shapeOk,yg,r9,ho,hl,Bool.or_self];exact fI) sH (by rw[← HS.o];simp[shapeP,yg,r9,ho,hl]));clear fe fI
   go_wp2_with fail
   go_ret
   exact⟨rfl,F.o.1,F.o.2.1,F.o.2.2⟩
theorem fT{v:Value}(h:w.ownsRow lo e size v n xs)(hn:0<n):∃ g cap,v=.slice (some (aj g 0)) n cap∧lo≤g∧g<w.heap.size:=h.form hn
theorem yP{g cap:Nat}(h:w.ownsRow lo e size (.slice (some (aj g 0)) n cap) n xs):dU w g e 0 xs:=by
 rcases h.2 with⟨h',_⟩ | ⟨g',ZW,cur,h',_,hg,hn,_,BF,Rw⟩
 ·simp at h'
 ·simp only[Value.slice.injEq,Option.some.injEq,Addr.mk.injEq,and_true,true_and] at h'
  obtain⟨rfl,rfl⟩:=h';refine⟨cur,hg,by rw[h.1,BF];simp;exact Nat.mul_le_mul_right _ hn,?_⟩;rw[h.1];simpa using Rw
theorem dU.part(h:dU w b T o xs)(p n:Nat)(ys:List Value)(hy:(xs.drop p).take n=ys)(hn:ys.length=n)(h0:0<n):dU w b T (o+p) ys:=by
 obtain⟨cur,hb,hs,ht⟩:=h
 have hl:n≤xs.length-p:=by
  rw[← hn,← hy,List.length_take,List.length_drop];omega
 refine⟨cur,hb,by omega,?_⟩;rw[hn,← hy,← ht,List.drop_take,List.drop_drop,List.take_take,Nat.min_eq_left (by omega)]
theorem cq.Ca(h:cq w w' pb nb no n)(h1:fo≤no)(h2:no+n≤fo+m):cq w w' pb nb fo m :=
 ⟨h.os,h.tape,h.output,h.size,h.block,fun T p xs hp hs=>h.seg T p xs (by omega) hs,h.len⟩
theorem cq.trans{a b c:World}(h:cq a b pb nb no n)(k:cq b c pb nb no n):cq a c pb nb no n :=
 ⟨k.os.trans h.os,k.tape.trans h.tape,k.output.trans h.output,Nat.le_trans h.size k.size,fun i hi hp hn=>(k.block i (Nat.lt_of_lt_of_le hi h.size) hp hn).trans (h.block i hi hp hn),fun T p xs hp hs=>k.seg T p xs hp (h.seg T p xs hp hs),fun T cur hc=>by
  obtain⟨c',h1,h2⟩:=h.len T cur hc;obtain⟨c'',h3,h4⟩:=k.len T c' h1
  exact⟨c'',h3,by omega⟩⟩
theorem dU.mh{ys:List Value}(h:dU w b T o xs)(k:dU w b T (o+xs.length) ys):dU w b T o (xs++ys):=by
 obtain⟨cur,hb,hs,ht⟩:=h;obtain⟨sG,JG,Rx,Gl⟩:=k;rw[hb] at JG;simp only[Option.some.injEq,Obj.cells.injEq,and_true,and_self] at JG;subst JG;refine⟨cur,hb,by rw[List.length_append];omega,?_⟩;rw[List.length_append,List.take_add,ht,List.drop_drop,Gl]
def fieldT(s:ByteArray)(t0:PTok):Bool × PTok :=
 if (t0.kind==3)=true then
  if nameOk (nextP s t0)=true then
   if baseOk (afterT (shapeOk (nextP s (nextP s t0))) s (nextP s (nextP s t0)))=true then(true,nextP s (afterT (shapeOk (nextP s (nextP s t0))) s (nextP s (nextP s t0))))
   else(false,afterT (shapeOk (nextP s (nextP s t0))) s (nextP s (nextP s t0)))
  else(false,nextP s t0)
 else(false,t0)
structure PField where
 number:Int
 numberAt:Nat
 name:ByteArray
 nameAt:Nat
 shape:Nat
 base:ByteArray
 baseAt:Nat
def pfCells(f:PField):List Value:=[.int .i64 f.number,.int .i64 f.numberAt,.string f.name,.int .i64 f.nameAt,.int .i64 f.shape,.string f.base,.int .i64 f.baseAt]
def fieldV(s:ByteArray)(t0:PTok)(n:Int):PField :=
 ⟨n,t0.at_,(nextP s t0).text,(nextP s t0).at_,shapeP (nextP s (nextP s t0)),(afterT (shapeOk (nextP s (nextP s t0))) s (nextP s (nextP s t0))).text,(afterT (shapeOk (nextP s (nextP s t0))) s (nextP s (nextP s t0))).at_⟩
theorem Ox(w:World)(pb:Nat)(s:ByteArray)(t:PTok)(fb:Nat)(T:TypeId)(d0 d1 d2 d3 d4 d5 d6:Value)(h:Ps w pb s t)(hn:dU w fb T 0 [d0,d1,d2,d3,d4,d5,d6])(bT:fb≠pb)(h1:fb≠1)(h2:fb≠2):
  aT 181 #[aM pb,aM fb] w fun e w'=>e=.returned (.bool (fieldT s t).1)∧Ps w' pb s (fieldT s t).2∧cq w w' pb fb 0 7∧((fieldT s t).1=true→∃ n:Int,(me t.text.toList=true→n=kU t.text.toList)∧dU w' fb T 0 (pfCells (fieldV s t n))):=by
 have a0:=hn.part 0 2 [d0,d1] rfl rfl (by omega);have a1:=hn.part 2 2 [d2,d3] rfl rfl (by omega);have a2:=hn.part 4 1 [d4] rfl rfl (by omega);have a3:=hn.part 5 2 [d5,d6] rfl rfl (by omega);simp only[Nat.zero_add] at a0 a1 a2 a3;generalize hF:fieldT s t=F;have HF:=U hF;have H:=U h;have A0:=U a0;have A1:=U a1;have A2:=U a2;have A3:=U a3;clear h hn hF a0 a1 a2 a3
 go_enter func181,ntmps181
 go_wp2_with fail
 refine(Km _ pb s t fb 0 T d0 d1 H.o A0.o bT h1 h2).mono ?_;rintro e w1 ⟨n,rfl,B9,fe,gY,ee⟩;have Kj:=U B9;have W1:=U (ee.Ca (fo:=0) (m:=7) (by omega) (by omega));have B1:=U (ee.seg _ _ _ (Or.inr (by simp)) A1.o);have B2:=U (ee.seg _ _ _ (Or.inr (by simp)) A2.o);have B3:=U (ee.seg _ _ _ (Or.inr (by simp)) A3.o);have S1:=U gY;have P1:=U fe;clear B9 ee gY fe A0 A1 A2 A3;cases hk:(t.kind==3)
 case' false=>
  have HX:=U (show F=(false,t) by rw[← HF.o];simp[fieldT,hk]);rw[hk] at P1
  go_wp2_with fail
  go_ret
  exact⟨by rw[HX.o];rfl,by rw[HX.o];exact P1.o,W1.o,fun hh=>by rw[HX.o] at hh;cases hh⟩
 case' true=>
  rw[hk] at P1
  go_wp2_with fail
  refine(zW _ pb s (nextP s t) fb 2 T d2 d3 P1.o B1.o bT h1 h2).mono ?_;rintro e w2 ⟨rfl,fI,il,dX⟩;have W2:=U (W1.o.trans (dX.Ca (fo:=0) (m:=7) (by omega) (by omega)));have C0:=U (dX.seg _ _ _ (Or.inl (by simp)) S1.o);have C2:=U (dX.seg _ _ _ (Or.inr (by simp)) B2.o);have C3:=U (dX.seg _ _ _ (Or.inr (by simp)) B3.o);have S2:=U il;have P2:=U fI;clear fI il dX B1 B2 B3 S1 P1 W1;cases nH:nameOk (nextP s t)
  case' false=>
   have HX:=U (show F=(false,nextP s t) by rw[← HF.o];simp[fieldT,hk,nH]);rw[nH] at P2
   go_wp2_with fail
   go_ret
   exact⟨by rw[HX.o];rfl,by rw[HX.o];exact P2.o,W2.o,fun hh=>by rw[HX.o] at hh;cases hh⟩
  case' true=>
   rw[nH] at P2
   go_wp2_with fail
   refine(Ow _ pb s (nextP s (nextP s t)) fb 4 T d4 P2.o C2.o bT h1 h2).mono ?_;rintro e w3 ⟨rfl,mN,Cb,iK⟩;have W3:=U (W2.o.trans (iK.Ca (fo:=0) (m:=7) (by omega) (by omega)));have D0:=U (iK.seg _ _ _ (Or.inl (by simp)) C0.o);have D1:=U (iK.seg _ _ _ (Or.inl (by simp[nameCells])) S2.o);have D3:=U (iK.seg _ _ _ (Or.inr (by simp)) C3.o);have S3:=U Cb;have P3:=U mN;clear mN Cb iK C0 C2 C3 S2 P2 W2
   go_wp2_with fail
   refine(um _ pb s (afterT (shapeOk (nextP s (nextP s t))) s (nextP s (nextP s t))) fb 5 T d5 d6 P3.o D3.o bT h1 h2).mono ?_;rintro e w4 ⟨rfl,tL,BH,tV⟩;have W4:=U (W3.o.trans (tV.Ca (fo:=0) (m:=7) (by omega) (by omega)));have E0:=U (tV.seg _ _ _ (Or.inl (by simp)) D0.o);have E1:=U (tV.seg _ _ _ (Or.inl (by simp[nameCells])) D1.o);have E2:=U (tV.seg _ _ _ (Or.inl (by simp)) S3.o);have P4:=U tL;have S4:=U BH;clear tL BH tV D0 D1 D3 S3 P3 W3;cases Ry:baseOk (afterT (shapeOk (nextP s (nextP s t))) s (nextP s (nextP s t)))
   case' false=>
    have HX:=U (show F=(false,afterT (shapeOk (nextP s (nextP s t))) s (nextP s (nextP s t))) by rw[← HF.o];simp[fieldT,hk,nH,Ry]);rw[Ry] at P4
    go_wp2_with fail
    go_ret
    exact⟨by rw[HX.o];rfl,by rw[HX.o];exact P4.o,W4.o,fun hh=>by rw[HX.o] at hh;cases hh⟩
   case' true=>
    have HX:=U (show F=(true,nextP s (afterT (shapeOk (nextP s (nextP s t))) s (nextP s (nextP s t)))) by rw[← HF.o];simp[fieldT,hk,nH,Ry]);rw[Ry] at P4
    go_wp2_with fail
    go_ret
    exact⟨by rw[HX.o];rfl,by rw[HX.o];exact P4.o,W4.o,fun _=>⟨n,Kj.o,((E0.o.mh E1.o).mh E2.o).mh S4.o⟩⟩
def Tk(s:ByteArray)(t:PTok):Prop:=∃ i,i≤s.size∧t=scanP s i
theorem VH(s:ByteArray)(i:Nat):i≤bEnd s i:=by
 unfold bEnd
 have:∀ f i,i≤fx s f i:=by
  intro f
  induction f with
  | zero=>intro i;exact Nat.le_refl _
  | succ f ih=>
   intro i;unfold fx;split
   ·exact Nat.le_trans (Nat.le_succ i) (ih (i+1))
   ·exact Nat.le_refl _
 exact this _ _
theorem Tk.fit(h:Tk s t):t.at_+t.text.size≤s.size:=by
 obtain⟨i,hi,rfl⟩:=h;exact zT s _ (Ei s i hi)
theorem Tk.next(h:Tk s t):Tk s (nextP s t):=⟨_,h.fit,rfl⟩
theorem Tk.after(h:Tk s t)(b:Bool):Tk s (afterT b s t):=by
 cases b
 ·exact h
 ·exact h.next
theorem Oy(s:ByteArray)(k:Nat):(scanAt s k).at_=k:=by
 unfold scanAt;split
 ·rfl
 ·split<;>rfl
theorem next_at(s:ByteArray)(t:PTok):t.at_+t.text.size≤(nextP s t).at_:=by
 unfold nextP scanP;rw[Oy];exact VH s _
theorem after_at(s:ByteArray)(t:PTok)(b:Bool):t.at_≤(afterT b s t).at_:=by
 cases b
 ·exact Nat.le_refl _
 ·have:=next_at s t;show t.at_≤(nextP s t).at_;omega
theorem Gm(c:Int):markK c=4∨markK c=5∨markK c=1:=by
 unfold markK;split
 ·simp
 ·split<;>simp
theorem Tk.num(h:Tk s t)(hk:t.kind=3):me t.text.toList=true:=by
 obtain⟨i,hi,rfl⟩:=h;unfold scanP scanAt at *
 split at hk
 ·simp at hk
 ·split at hk
  ·rename_i h1 h2
   rcases Gm (B s (bEnd s i)) with h | h | h<;>(simp only at hk;omega)
  ·rename_i h1 h2
   rw[if_neg h1,if_neg h2];simp only[runK] at hk ⊢
   split at hk
   ·omega
   ·split at hk
    ·assumption
    ·omega
theorem Tk.pos(h:Tk s t)(hk:t.kind≠0):1≤t.text.size:=by
 obtain⟨i,hi,rfl⟩:=h;have hb:=Ei s i hi;unfold scanP scanAt at *
 split at hk
 ·simp at hk
 ·rename_i h1
  rw[if_neg h1]
  split
  ·simp[ByteArray.size_extract];omega
  ·rename_i h2
   have h3:=vA s s.size (bEnd s i);have h4:=vC s s.size (bEnd s i) hb;simp[ByteArray.size_extract];omega
theorem fieldT_tk(h:Tk s t):Tk s (fieldT s t).2:=by
 unfold fieldT
 split
 ·split
  ·split
   ·exact((h.next.next).after _).next
   ·exact(h.next.next).after _
  ·exact h.next
 ·exact h
theorem Oz(h:Tk s t)(hf:(fieldT s t).1=true):t.at_<(fieldT s t).2.at_∧t.kind=3:=by
 unfold fieldT at *
 split at hf
 ·rename_i hk
  have hk3:t.kind=3:=eq_of_beq hk;have hp:=h.pos (by omega)
  split at hf
  ·split at hf
   ·rename_i h1 h2
    rw[if_pos hk,if_pos h1,if_pos h2];refine⟨?_,hk3⟩;have a1:=next_at s t;have a2:=next_at s (nextP s t);have a3:=after_at s (nextP s (nextP s t)) (shapeOk (nextP s (nextP s t)));have a4:=next_at s (afterT (shapeOk (nextP s (nextP s t))) s (nextP s (nextP s t)));simp only;omega
   ·simp at hf
  ·simp at hf
 ·simp at hf
def fieldsT(s:ByteArray):Nat→PTok→List PField→Bool × PTok × List PField
 | 0,t,L=>(false,t,L)
 | f+1,t,L=>
  if (fieldT s t).1=true then
   if ((fieldT s t).2.kind==5)=true then(true,nextP s (fieldT s t).2,L++[fieldV s t (kU t.text.toList)])
   else fieldsT s f (fieldT s t).2 (L++[fieldV s t (kU t.text.toList)])
  else(false,(fieldT s t).2,L)
def blockF(s:ByteArray)(t:PTok):Bool × PTok × List PField:=if (t.kind==4)=true then fieldsT s (s.size+1) (nextP s t) [] else(false,t,[])
theorem Tryz.infoPField:(Tryz.prog.info? 246).map (fun i=>(i.zero,i.size,i.bytes))=some (some (.agg #[vI 0,vI 0,.string ⟨#[]⟩,vI 0,vI 0,.string ⟨#[]⟩,vI 0]),7,72):=by kernel_rfl
theorem Ps.Em(h:Ps w pb s t)(hb:Below B w w')(h0:pb<B)(h1:1<B)(h2:2<B):Ps w' pb s t:=by
 obtain⟨te,pe,e1⟩:=h.vE.sx;obtain⟨tf,pf,e2⟩:=h.vE.rg;exact⟨h.seg.same (hb.block pb h0),⟨⟨te,pe,by rw[hb.cell h1];exact e1⟩,⟨tf,pf,by rw[hb.cell h2];exact e2⟩,Nat.lt_of_lt_of_le h.vE.lt1 hb.size,Nat.lt_of_lt_of_le h.vE.lt2 hb.size⟩,h.ne1,h.ne2,h.fit,h.sz⟩
theorem cq.qW(h:cq w w' pb nb no n)(hb:Below w.heap.size w' vb)(hl:nb<w.heap.size):cq w vb pb nb no n :=
 ⟨hb.os.trans h.os,hb.tape.trans h.tape,hb.output.trans h.output,Nat.le_trans h.size hb.size,fun k hk hp hn=>(hb.block k hk).trans (h.block k hk hp hn),fun T p xs hp hs=>(h.seg T p xs hp hs).same (hb.block nb hl),fun T cur hc=>by
  obtain⟨c',h1,h2⟩:=h.len T cur hc
  exact⟨c',by rw[hb.block nb hl];exact h1,h2⟩⟩
theorem cq.box{fb:Nat}(h:cq w w' pb nb no n)(k:cq w' vb pb fb fo m)(hf:w.heap.size≤fb)(hl:nb<w.heap.size)(bT:nb≠pb):cq w vb pb nb no n :=
 have Gn:vb.heap[nb]? = w'.heap[nb]?:=k.block nb (Nat.lt_of_lt_of_le hl h.size) bT (by omega)
 ⟨k.os.trans h.os,k.tape.trans h.tape,k.output.trans h.output,Nat.le_trans h.size k.size,fun i hi hp hn=>(k.block i (Nat.lt_of_lt_of_le hi h.size) hp (by omega)).trans (h.block i hi hp hn),fun T p xs hp hs=>(h.seg T p xs hp hs).same Gn,fun T cur hc=>by
  obtain⟨c',h1,h2⟩:=h.len T cur hc
  exact⟨c',by rw[Gn];exact h1,h2⟩⟩
theorem Kn(w:World)(pb:Nat)(s:ByteArray)(t:PTok)(ib io:Nat)(T:TypeId)(h:Ps w pb s t)(ht:Tk s t)(hl:dU w ib T io [.slice none 0 0])(bT:ib≠pb)(h1:ib≠1)(h2:ib≠2):
  aT 180 #[aM pb,.pointer (some (aj ib io)),.func (Fn.func 181) #[aM pb] #[]] w fun e w'=>∃ v,e=.returned (.bool (blockF s t).1)∧Ps w' pb s (blockF s t).2.1∧dU w' ib T io [v]∧w'.ownsRow w.heap.size 246 7 v (blockF s t).2.2.length ((blockF s t).2.2.flatMap pfCells)∧((blockF s t).2.2=[]→v=.slice none 0 0)∧cq w w' pb ib io 1:=by
 obtain⟨iF,hiF,Yy,VI,hF2⟩:=info_parts Tryz.infoPField;have En:=h.seg.lt;have jQ:=hl.lt;have Ko:=h.vE.lt1;have sB:=h.vE.lt2;have mI:=h.sz;generalize hR:blockF s t=R;have HR:=U hR;have H:=U h;have HT:=U ht;have HL:=U hl;clear h ht hl hR
 go_enter func180,ntmps180
 go_wp2_with fail
 refine(jz _ pb s t 4 H.o).mono ?_;rintro e w1 ⟨rfl,fe,aA⟩;cases hk:(t.kind==4)
 case' false=>
  have HX:=U (show R=(false,t,[]) by rw[← HR.o];simp[blockF,hk]);rw[hk] at fe
  go_wp2_with fail
  go_ret
  exact⟨.slice none 0 0,by rw[HX.o];rfl,by rw[HX.o];exact fe,HL.o.same (aA.block ib jQ bT),by rw[HX.o];exact World.ownsRow_nil _ _ _ _,fun _=>rfl,cq.kg aA jQ bT⟩
 case' true=>
  have HX:=U (show fieldsT s (s.size+1) (nextP s t) []=R by rw[← HR.o];simp[blockF,hk]);rw[hk] at fe;have jP:=U fe;have Yz:=U (cq.kg (no:=io) (n:=1) aA jQ bT);have Kp:=U (HL.o.same (aA.block ib jQ bT));clear fe aA
  go_wp2_with fail
  go_loopg [7] (s.size+1) (fun gk one wr=>∃ t1 L v,s.size<t1.at_+gk∧L.length≤t1.at_∧Hid (fieldsT s gk t1 L=R)∧Hid (Ps wr pb s t1)∧Hid (Tk s t1)∧Hid (dU wr ib T io [v])∧Hid (wr.ownsRow w.heap.size 246 7 v L.length (L.flatMap pfCells))∧Hid (L=[]→v=.slice none 0 0)∧Hid (cq w wr pb ib io 1))
  case atStart=>exact⟨nextP s t,[],.slice none 0 0,by omega,by simp,HX,jP,U HT.o.next,Kp,U (World.ownsRow_nil _ _ _ _),U (fun _=>rfl),Yz⟩
  case round=>
   obtain⟨t1,L,v,OA,hLl,CS,HP,ph,HLC,VJ,HNL,ZX⟩:=hrel;obtain⟨va,vc,pu⟩:∃ a c,v=.slice a L.length c:=ax VJ.o
   subst pu;have Ot:=ph.o.fit;obtain⟨JH,rfl⟩:∃ JH,gk=JH+1:=⟨gk-1,by omega⟩
   have VK:=ZX.o.size
   go_wp2_with fail
   have Eo:dU (wr.alloc (.cells #[vI 0,vI 0,.string ⟨#[]⟩,vI 0,vI 0,.string ⟨#[]⟩,vI 0] 246)) wr.heap.size 246 0 [vI 0,vI 0,.string ⟨#[]⟩,vI 0,vI 0,.string ⟨#[]⟩,vI 0]:=⟨_,heap_alloc_new wr _,by simp,by simp⟩
   have cj:Below wr.heap.size wr (wr.alloc (.cells #[vI 0,vI 0,.string ⟨#[]⟩,vI 0,vI 0,.string ⟨#[]⟩,vI 0] 246)):=(Below.refl _ _).alloc (Nat.le_refl _) _;refine(Ox _ pb s t1 wr.heap.size 246 _ _ _ _ _ _ _ (HP.o.below cj) Eo (by omega) (by omega) (by omega)).mono ?_;rintro e w2 ⟨rfl,fI,dX,hfd⟩;have tM:wr.heap.size<w2.heap.size:=Nat.lt_of_lt_of_le (by simp) dX.size;have Rz:w2.heap[ib]? = wr.heap[ib]?:=(dX.block ib (by simp;omega) bT (by omega)).trans (cj.block ib (by omega));have RA:=HLC.o.same Rz
   have RB:=aH (w':=w2) VJ.o (fun g hg=>by
    have bC:=VJ.o.lt g hg
    exact(dX.block g (by simp;omega) (by omega) (by omega)).trans (cj.block g bC.2))
   have RC:cq w w2 pb ib io 1:=(ZX.o.qW (cj.mono VK) jQ).box dX VK jQ bT;have jn:=U fI;have Kq:=U RA;have Kr:=U RB;have RD:=U RC;have OB:=U hfd;clear fI dX hfd Rz RA RB RC Eo cj HP HLC VJ ZX;cases hf:(fieldT s t1).1
   case' false=>
    have HY:=U (show R=(false,(fieldT s t1).2,L) by rw[← CS.o];simp[fieldsT,hf])
    go_wp2_with fail
    go_ret
    exact⟨_,by rw[HY.o];rfl,by rw[HY.o];exact jn.o,Kq.o,by rw[HY.o];exact Kr.o,by rw[HY.o];exact HNL.o,RD.o⟩
   case' true=>
    obtain⟨n,hn,rL⟩:=OB.o hf;have BI:=Oz ph.o hf;rw[hn (ph.o.num BI.2)] at rL;have e0:=rL.cell (j:=0) (v:=.int .i64 (fieldV s t1 (kU t1.text.toList)).number) rfl;have e1:=rL.cell (j:=1) (v:=.int .i64 (fieldV s t1 (kU t1.text.toList)).numberAt) rfl;have e2:=rL.cell (j:=2) (v:=.string (fieldV s t1 (kU t1.text.toList)).name) rfl;have e3:=rL.cell (j:=3) (v:=.int .i64 (fieldV s t1 (kU t1.text.toList)).nameAt) rfl;have e4:=rL.cell (j:=4) (v:=.int .i64 (fieldV s t1 (kU t1.text.toList)).shape) rfl;have e5:=rL.cell (j:=5) (v:=.string (fieldV s t1 (kU t1.text.toList)).base) rfl;have e6:=rL.cell (j:=6) (v:=.int .i64 (fieldV s t1 (kU t1.text.toList)).baseAt) rfl;have c0:=Kq.o.cell (j:=0) (v:=.slice va L.length vc) rfl;simp only[Nat.zero_add,Nat.add_zero] at e0 e1 e2 e3 e4 e5 e6 c0;have c0a:=zU c0 (show ib<w2.heap.size by omega);have ZY:=U BI;have Ks:=U (show fieldsT s (JH+1) t1 L=R from CS.o);generalize qo:fieldV s t1 (kU t1.text.toList)=fv at *;have HFW:=U qo;clear hn rL qo CS OB
    go_wp2_with fail
    go_region_law (refine step_append_lies _ rfl (.tmp 17) (.tmp 19) 114 rfl w.heap.size 246 iF _ 7 72 underlying114 hiF Yy VI hF2 rfl (by decide) _ _ _ (by simp[Act.eval]) (Kr.o.alloc _) (aj w2.heap.size 0) 1 1 (pfCells fv) (by simp[Act.eval]) rfl (vF w2 #[vI fv.number,vI fv.numberAt,.string fv.name,vI fv.nameAt,vI fv.shape,.string fv.base,vI fv.baseAt] _) (by simp[pfCells,Value.oneCell']) (by omega) (by unfold maxLen;omega) (by omega) (by simp;omega) _ rfl ?_;intro g cp w3 Gp Gq ZZ ajN;have bP:Below w.heap.size w2 w3:=((Below.refl w.heap.size w2).alloc (by omega) _).drew.grown Gq (by show w.heap.size≤(w2.alloc _).heap.size;simp;omega) (fun k hk=>(Kr.o.lt k hk).1);have Ep:=Kq.o.same (bP.block ib jQ);have c03:=Ep.cell (j:=0) (v:=.slice va L.length vc) rfl;have cf3:∀ j,w3.frozen? (aj ib j)=false:=fun j=>Ep.aq j;simp only[Nat.add_zero] at c03;have Z0:=U Ep;have lE:=U bP;have QH:=U Gp;clear Ep bP Gp Gq ZZ)
    all_goals
     go_wp2_with fail
     have tL:=(jn.o.Em lE.o En Ko sB).store bT h1 h2 io (.slice (some (aj g 0)) (L.length+1) cp);have QI:=ownsRow_setCell_below (a:=(aj ib io)) QH.o jQ (.slice (some (aj g 0)) (L.length+1) cp);have BH:=Z0.o.set 0 (.slice (some (aj g 0)) (L.length+1) cp);have tV:=(RD.o.qW lE.o jQ).setCell 0 (by omega) (.slice (some (aj g 0)) (L.length+1) cp);simp only[Nat.add_zero] at BH tV;have Z1:=tV.size;refine(jz _ pb s (fieldT s t1).2 5 tL).mono ?_;rintro e w5 ⟨rfl,RE,iC⟩;have yQ:=U RE;have JI:=U (BH.same (iC.block ib (Nat.lt_of_lt_of_le jQ Z1) bT));have HW5:=U (tV.but iC jQ bT)
     have HO5:=U (show w5.ownsRow w.heap.size 246 7 (.slice (some (aj g 0)) (L.length+1) cp) (L++[fv]).length ((L++[fv]).flatMap pfCells) by
      have:=aH (w':=w5) QI (fun gg RF=>iC.block gg (QI.lt gg RF).2 (by have:=(QI.lt gg RF).1;omega))
      simpa using this)
     clear tL QI BH tV RE iC e0 e1 e2 e3 e4 e5 e6 c0 c0a c03 cf3;cases QJ:((fieldT s t1).2.kind==5)
     case' true=>
      have HZ:=U (show R=(true,nextP s (fieldT s t1).2,L++[fv]) by rw[← Ks.o];simp only[fieldsT,hf,QJ,if_true,HFW.o]);rw[QJ] at yQ
      go_wp2_with fail
      go_ret
      exact⟨_,by rw[HZ.o];rfl,by rw[HZ.o];exact yQ.o,JI.o,by rw[HZ.o];exact HO5.o,fun hh=>(by rw[HZ.o] at hh;simp at hh),HW5.o⟩
     case' false=>
      have HZ:=U (show fieldsT s JH (fieldT s t1).2 (L++[fv])=R by rw[← Ks.o];simp only[fieldsT,hf,QJ,if_true,HFW.o];rw[if_neg (by decide)]);rw[QJ] at yQ;have RG:=ZY.o.1;have jo:=U (fieldT_tk ph.o)
      go_wp2_with fail
      go_roundg JH
      case rel=>exact⟨(fieldT s t1).2,L++[fv],_,by omega,by simp;omega,HZ,yQ,jo,JI,HO5,U (fun hh=>by simp at hh),HW5⟩
      case measure=>omega
theorem Tryz.infoPName:(Tryz.prog.info? 113).map (fun i=>(i.zero,i.size,i.bytes))=some (some (.agg #[.string ⟨#[]⟩,vI 0]),2,24):=by kernel_rfl
def namesT(s:ByteArray):Nat→PTok→List PTok→Bool × PTok × List PTok
 | 0,t,L=>(false,t,L)
 | f+1,t,L=>
  if nameOk t=true then
   if ((nextP s t).kind==5)=true then(true,nextP s (nextP s t),L++[t])
   else namesT s f (nextP s t) (L++[t])
  else(false,t,L)
def blockN(s:ByteArray)(t:PTok):Bool × PTok × List PTok:=if (t.kind==4)=true then namesT s (s.size+1) (nextP s t) [] else(false,t,[])
theorem Kt(w:World)(pb:Nat)(s:ByteArray)(t:PTok)(ib io:Nat)(T:TypeId)(h:Ps w pb s t)(ht:Tk s t)(hl:dU w ib T io [.slice none 0 0])(bT:ib≠pb)(h1:ib≠1)(h2:ib≠2):
  aT 182 #[aM pb,.pointer (some (aj ib io)),.func (Fn.func 179) #[aM pb] #[]] w fun e w'=>∃ v,e=.returned (.bool (blockN s t).1)∧Ps w' pb s (blockN s t).2.1∧dU w' ib T io [v]∧w'.ownsRow w.heap.size 113 2 v (blockN s t).2.2.length ((blockN s t).2.2.flatMap nameCells)∧((blockN s t).2.2=[]→v=.slice none 0 0)∧cq w w' pb ib io 1:=by
 obtain⟨iF,hiF,Yy,VI,hF2⟩:=info_parts Tryz.infoPName;have En:=h.seg.lt;have jQ:=hl.lt;have Ko:=h.vE.lt1;have sB:=h.vE.lt2;have mI:=h.sz;generalize hR:blockN s t=R;have HR:=U hR;have H:=U h;have HT:=U ht;have HL:=U hl;clear h ht hl hR
 go_enter func182,ntmps182
 go_wp2_with fail
 refine(jz _ pb s t 4 H.o).mono ?_;rintro e w1 ⟨rfl,fe,aA⟩;cases hk:(t.kind==4)
 case' false=>
  have HX:=U (show R=(false,t,[]) by rw[← HR.o];simp[blockN,hk]);rw[hk] at fe
  go_wp2_with fail
  go_ret
  exact⟨.slice none 0 0,by rw[HX.o];rfl,by rw[HX.o];exact fe,HL.o.same (aA.block ib jQ bT),by rw[HX.o];exact World.ownsRow_nil _ _ _ _,fun _=>rfl,cq.kg aA jQ bT⟩
 case' true=>
  have HX:=U (show namesT s (s.size+1) (nextP s t) []=R by rw[← HR.o];simp[blockN,hk]);rw[hk] at fe;have jP:=U fe;have Yz:=U (cq.kg (no:=io) (n:=1) aA jQ bT);have Kp:=U (HL.o.same (aA.block ib jQ bT));clear fe aA
  go_wp2_with fail
  go_loopg [7] (s.size+1) (fun gk one wr=>∃ t1 L v,s.size<t1.at_+gk∧L.length≤t1.at_∧Hid (namesT s gk t1 L=R)∧Hid (Ps wr pb s t1)∧Hid (Tk s t1)∧Hid (dU wr ib T io [v])∧Hid (wr.ownsRow w.heap.size 113 2 v L.length (L.flatMap nameCells))∧Hid (L=[]→v=.slice none 0 0)∧Hid (cq w wr pb ib io 1))
  case atStart=>exact⟨nextP s t,[],.slice none 0 0,by omega,by simp,HX,jP,U HT.o.next,Kp,U (World.ownsRow_nil _ _ _ _),U (fun _=>rfl),Yz⟩
  case round=>
   obtain⟨t1,L,v,OA,hLl,CS,HP,ph,HLC,VJ,HNL,ZX⟩:=hrel;obtain⟨va,vc,pu⟩:∃ a c,v=.slice a L.length c:=ax VJ.o
   subst pu;have Ot:=ph.o.fit;obtain⟨JH,rfl⟩:∃ JH,gk=JH+1:=⟨gk-1,by omega⟩
   have VK:=ZX.o.size
   go_wp2_with fail
   have Eo:dU (wr.alloc (.cells #[.string ⟨#[]⟩,vI 0] 113)) wr.heap.size 113 0 [.string ⟨#[]⟩,vI 0]:=⟨_,heap_alloc_new wr _,by simp,by simp⟩
   have cj:Below wr.heap.size wr (wr.alloc (.cells #[.string ⟨#[]⟩,vI 0] 113)):=(Below.refl _ _).alloc (Nat.le_refl _) _;refine(zW _ pb s t1 wr.heap.size 0 113 _ _ (HP.o.below cj) Eo (by omega) (by omega) (by omega)).mono ?_;rintro e w2 ⟨rfl,fI,hfd,dX⟩;have tM:wr.heap.size<w2.heap.size:=Nat.lt_of_lt_of_le (by simp) dX.size;have Rz:w2.heap[ib]? = wr.heap[ib]?:=(dX.block ib (by simp;omega) bT (by omega)).trans (cj.block ib (by omega));have RA:=HLC.o.same Rz
   have RB:=aH (w':=w2) VJ.o (fun g hg=>by
    have bC:=VJ.o.lt g hg
    exact(dX.block g (by simp;omega) (by omega) (by omega)).trans (cj.block g bC.2))
   have RC:cq w w2 pb ib io 1:=(ZX.o.qW (cj.mono VK) jQ).box dX VK jQ bT;have jn:=U fI;have Kq:=U RA;have Kr:=U RB;have RD:=U RC;have OB:=U hfd;clear fI dX hfd Rz RA RB RC Eo cj HP HLC VJ ZX;cases hf:nameOk t1
   case' false=>
    have HY:=U (show R=(false,t1,L) by rw[← CS.o];simp[namesT,hf])
    go_wp2_with fail
    go_ret
    exact⟨_,by rw[HY.o];rfl,by rw[HY.o];rw[hf] at jn;exact jn.o,Kq.o,by rw[HY.o];exact Kr.o,by rw[HY.o];exact HNL.o,RD.o⟩
   case' true=>
    have BI:t1.kind=2:=by simp only[nameOk,Bool.and_eq_true] at hf;exact eq_of_beq hf.2
    have e0:=OB.o.cell (j:=0) (v:=.string t1.text) rfl;have e1:=OB.o.cell (j:=1) (v:=vI t1.at_) rfl;rw[hf] at jn;have c0:=Kq.o.cell (j:=0) (v:=.slice va L.length vc) rfl;simp only[Nat.zero_add,Nat.add_zero] at e0 e1 c0;have c0a:=zU c0 (show ib<w2.heap.size by omega);have ZY:=U BI;have Ks:=U (show namesT s (JH+1) t1 L=R from CS.o);clear CS OB
    go_wp2_with fail
    go_region_law (refine step_append_lies _ rfl (.tmp 17) (.tmp 19) 115 rfl w.heap.size 113 iF _ 2 24 underlying115 hiF Yy VI hF2 rfl (by decide) _ _ _ (by simp[Act.eval]) (Kr.o.alloc _) (aj w2.heap.size 0) 1 1 (nameCells t1) (by simp[Act.eval]) rfl (vF w2 #[.string t1.text,vI t1.at_] _) (by simp[nameCells,Value.oneCell']) (by omega) (by unfold maxLen;omega) (by omega) (by simp;omega) _ rfl ?_;intro g cp w3 Gp Gq ZZ ajN;have bP:Below w.heap.size w2 w3:=((Below.refl w.heap.size w2).alloc (by omega) _).drew.grown Gq (by show w.heap.size≤(w2.alloc _).heap.size;simp;omega) (fun k hk=>(Kr.o.lt k hk).1);have Ep:=Kq.o.same (bP.block ib jQ);have c03:=Ep.cell (j:=0) (v:=.slice va L.length vc) rfl;have cf3:∀ j,w3.frozen? (aj ib j)=false:=fun j=>Ep.aq j;simp only[Nat.add_zero] at c03;have Z0:=U Ep;have lE:=U bP;have QH:=U Gp;clear Ep bP Gp Gq ZZ)
    all_goals
     go_wp2_with fail
     have tL:=(jn.o.Em lE.o En Ko sB).store bT h1 h2 io (.slice (some (aj g 0)) (L.length+1) cp);have QI:=ownsRow_setCell_below (a:=(aj ib io)) QH.o jQ (.slice (some (aj g 0)) (L.length+1) cp);have BH:=Z0.o.set 0 (.slice (some (aj g 0)) (L.length+1) cp);have tV:=(RD.o.qW lE.o jQ).setCell 0 (by omega) (.slice (some (aj g 0)) (L.length+1) cp);simp only[Nat.add_zero] at BH tV;have Z1:=tV.size;refine(jz _ pb s (nextP s t1) 5 tL).mono ?_;rintro e w5 ⟨rfl,RE,iC⟩;have yQ:=U RE;have JI:=U (BH.same (iC.block ib (Nat.lt_of_lt_of_le jQ Z1) bT));have HW5:=U (tV.but iC jQ bT)
     have HO5:=U (show w5.ownsRow w.heap.size 113 2 (.slice (some (aj g 0)) (L.length+1) cp) (L++[t1]).length ((L++[t1]).flatMap nameCells) by
      have:=aH (w':=w5) QI (fun gg RF=>iC.block gg (QI.lt gg RF).2 (by have:=(QI.lt gg RF).1;omega))
      simpa using this)
     clear tL QI BH tV RE iC e0 e1 c0 c0a c03 cf3;cases QJ:((nextP s t1).kind==5)
     case' true=>
      have HZ:=U (show R=(true,nextP s (nextP s t1),L++[t1]) by rw[← Ks.o];simp only[namesT,hf,QJ,if_true]);rw[QJ] at yQ
      go_wp2_with fail
      go_ret
      exact⟨_,by rw[HZ.o];rfl,by rw[HZ.o];exact yQ.o,JI.o,by rw[HZ.o];exact HO5.o,fun hh=>(by rw[HZ.o] at hh;simp at hh),HW5.o⟩
     case' false=>
      have HZ:=U (show namesT s JH (nextP s t1) (L++[t1])=R by rw[← Ks.o];simp only[namesT,hf,QJ,if_true];rw[if_neg (by decide)]);rw[QJ] at yQ;have RG:t1.at_<(nextP s t1).at_:=by have:=next_at s t1;have:=ph.o.pos (by have:=ZY.o;omega);omega
      have jo:=U ph.o.next
      go_wp2_with fail
      go_roundg JH
      case rel=>exact⟨(nextP s t1),L++[t1],_,by omega,by simp;omega,HZ,yQ,jo,JI,HO5,U (fun hh=>by simp at hh),HW5⟩
      case measure=>omega
structure PItem where
 kind:Nat
 name:PTok
 fields:List PField
 names:List PTok
 base:List Value
 answer:List Value
structure PIV where
 it:PItem
 vf:Value
 vn:Value
def zeroName:List Value:=[.string ⟨#[]⟩,.int .i64 0]
def pivCells(x:PIV):List Value:=[.int .i64 x.it.kind]++nameCells x.it.name++[x.vf]++[x.vn]++x.it.base++x.it.answer
def uo:List Value:=[.int .i64 0,.string ⟨#[]⟩,.int .i64 0,.slice none 0 0,.slice none 0 0,.string ⟨#[]⟩,.int .i64 0,.string ⟨#[]⟩,.int .i64 0]
structure PNest(w:World)(lo:Nat)(x:PIV):Prop where
 f:w.ownsRow lo 246 7 x.vf x.it.fields.length (x.it.fields.flatMap pfCells)
 n:w.ownsRow lo 113 2 x.vn x.it.names.length (x.it.names.flatMap nameCells)
def itemT(s:ByteArray)(t:PTok):Bool × PTok × PItem :=
 if isWordT t eA=true then
  (if nameOk (nextP s t)=true then((blockF s (nextP s (nextP s t))).1,(blockF s (nextP s (nextP s t))).2.1,⟨0,nextP s t,(blockF s (nextP s (nextP s t))).2.2,[],zeroName,zeroName⟩) else(false,nextP s t,⟨0,t,[],[],zeroName,zeroName⟩))
 else if isWordT t mM=true then
  (if nameOk (nextP s t)=true then((blockN s (nextP s (nextP s t))).1,(blockN s (nextP s (nextP s t))).2.1,⟨1,nextP s t,[],(blockN s (nextP s (nextP s t))).2.2,zeroName,zeroName⟩) else(false,nextP s t,⟨1,t,[],[],zeroName,zeroName⟩))
 else if isWordT t gu=true then
  (if nameOk (nextP s t)=true then(baseOk (nextP s (nextP s t)),afterT (baseOk (nextP s (nextP s t))) s (nextP s (nextP s t)),⟨2,nextP s t,[],[],nameCells (nextP s (nextP s t)),zeroName⟩) else(false,nextP s t,⟨2,t,[],[],zeroName,zeroName⟩))
 else if isWordT t mg=true then
  (if nameOk (nextP s t)=true then
   (if baseOk (nextP s (nextP s t))=true then(baseOk (nextP s (nextP s (nextP s t))),afterT (baseOk (nextP s (nextP s (nextP s t)))) s (nextP s (nextP s (nextP s t))),⟨3,nextP s t,[],[],nameCells (nextP s (nextP s t)),nameCells (nextP s (nextP s (nextP s t)))⟩)
    else(false,nextP s (nextP s t),⟨3,t,[],[],zeroName,zeroName⟩))
   else(false,nextP s t,⟨3,t,[],[],zeroName,zeroName⟩))
 else(false,t,⟨0,t,[],[],zeroName,zeroName⟩)
def Gr(w:World)(pb:Nat)(s:ByteArray)(t:PTok)(ib:Nat)(e:Ending)(w':World):Prop :=
 e=.returned (.bool (itemT s t).1)∧Ps w' pb s (itemT s t).2.1∧cq w w' pb ib 0 9∧((itemT s t).1=true→∃ x:PIV,x.it=(itemT s t).2.2∧dU w' ib 117 0 (pivCells x)∧PNest w' w.heap.size x)
theorem RH(w:World)(pb:Nat)(s:ByteArray)(t:PTok)(ib:Nat)(h:Ps w pb s t)(ht:Tk s t)(hn:dU w ib 117 0 uo)(bT:ib≠pb)(h1:ib≠1)(h2:ib≠2):
  aT 135 #[aM pb,aM ib] w (Gr w pb s t ib):=by
 have jQ:=hn.lt;have H:=U h;have HT:=U ht;have HN:=U hn;clear h ht hn;generalize hI:itemT s t=R;have HI:=U hI;unfold Gr;rw[hI];clear hI
 go_enter func135,ntmps135
 go_wp2_with fail
 refine(nT _ pb s t _ H.o).mono ?_;rintro e w0 ⟨rfl,Z2,cj⟩;obtain⟨b,e0⟩:∃ b,isWordT t [109,101,115,115,97,103,101]=b:=⟨_,rfl⟩
 rw[show isWordT t (ByteArray.mk #[109,101,115,115,97,103,101]).toList=b by rw[ByteArray.toList_eq];exact e0] at Z2 ⊢;cases b
 case' true=>
  have vj:=cj;have HPK:=U Z2;obtain⟨kd,iD⟩:∃ z:Int,z=0:=⟨_,rfl⟩
  clear Z2
 case' false=>
  go_wp2_with fail
  refine(nT _ pb s t _ Z2).mono ?_;rintro e w1 ⟨rfl,fe,aA⟩;obtain⟨b,e1⟩:∃ b,isWordT t [101,110,117,109]=b:=⟨_,rfl⟩
  rw[show isWordT t (ByteArray.mk #[101,110,117,109]).toList=b by rw[ByteArray.toList_eq];exact e1] at fe ⊢;cases b
  case' true=>
   have vj:=cj.trans aA;have HPK:=U fe;obtain⟨kd,iD⟩:∃ z:Int,z=1:=⟨_,rfl⟩
   clear fe
  case' false=>
   go_wp2_with fail
   refine(nT _ pb s t _ fe).mono ?_;rintro e w2 ⟨rfl,fI,aW⟩;obtain⟨b,e2⟩:∃ b,isWordT t [115,116,114,101,97,109]=b:=⟨_,rfl⟩
   rw[show isWordT t (ByteArray.mk #[115,116,114,101,97,109]).toList=b by rw[ByteArray.toList_eq];exact e2] at fI ⊢;cases b
   case' true=>
    have vj:=(cj.trans aA).trans aW;have HPK:=U fI;obtain⟨kd,iD⟩:∃ z:Int,z=2:=⟨_,rfl⟩
    clear fI
   case' false=>
    go_wp2_with fail
    refine(nT _ pb s t _ fI).mono ?_;rintro e w3 ⟨rfl,mN,bP⟩;obtain⟨b,e3⟩:∃ b,isWordT t [99,97,108,108]=b:=⟨_,rfl⟩
    rw[show isWordT t (ByteArray.mk #[99,97,108,108]).toList=b by rw[ByteArray.toList_eq];exact e3] at mN ⊢;cases b
    case' true=>
     have vj:=((cj.trans aA).trans aW).trans bP;have HPK:=U mN;obtain⟨kd,iD⟩:∃ z:Int,z=3:=⟨_,rfl⟩
     clear mN
    case' false=>
     have HX:=U (show R.1=false∧R.2.1=t by rw[← HI.o];simp[itemT,eA,mM,gu,mg, *]);have vj:=((cj.trans aA).trans aW).trans bP
     go_wp2_with fail
     go_ret
     exact⟨by rw[HX.o.1];rfl,by rw[HX.o.2];exact mN,cq.kg vj jQ bT,fun hh=>(by rw[HX.o.1] at hh;cases hh)⟩
 all_goals
  have hsk:=HN.o.same (vj.block ib jQ bT);have e0:=hsk.cell (j:=0) (v:=vI 0) rfl;have ef:=fun j=>hsk.aq j
  simp only[Nat.zero_add] at e0;have Z3:=U hsk;have QK:=U vj;clear hsk vj
  go_wp2_with fail
  have CT:=Z3.o.set 0 (vI kd);simp only[Nat.zero_add] at CT;have a0:=CT.part 0 1 [vI kd] rfl rfl (by omega);have a1:=CT.part 1 2 zeroName rfl rfl (by omega);have a3:=CT.part 3 1 [.slice none 0 0] rfl rfl (by omega);have a4:=CT.part 4 1 [.slice none 0 0] rfl rfl (by omega);have a5:=CT.part 5 2 zeroName rfl rfl (by omega);have a7:=CT.part 7 2 zeroName rfl rfl (by omega);simp only[Nat.zero_add] at a0 a1 a3 a4 a5 a7;have A0:=U a0;have A1:=U a1;have A3:=U a3;have A4:=U a4;have A5:=U a5;have A7:=U a7;have P0:=U (HPK.o.store (nb:=ib) bT h1 h2 0 (vI kd));have W0:=U ((cq.kg (no:=0) (n:=9) QK.o jQ bT).setCell 0 (by omega) (vI kd));have mF:=W0.o.size;clear CT a0 a1 a3 a4 a5 a7 e0 ef;have ir:=U HT.o.next;subst iD;refine(zW _ pb s (nextP s t) ib 1 _ _ _ P0.o A1.o bT h1 h2).mono ?_;rintro e w5 ⟨rfl,RE,U7,Gt⟩;have W5:=U (W0.o.trans (Gt.Ca (fo:=0) (m:=9) (by omega) (by omega)));have B0:=U (Gt.seg _ _ _ (Or.inl (by simp)) A0.o);have B3:=U (Gt.seg _ _ _ (Or.inr (by simp)) A3.o);have B4:=U (Gt.seg _ _ _ (Or.inr (by simp)) A4.o);have B5:=U (Gt.seg _ _ _ (Or.inr (by simp)) A5.o);have B7:=U (Gt.seg _ _ _ (Or.inr (by simp)) A7.o);have S5:=U U7;have P5:=U RE;have YA:=W5.o.size;clear RE U7 Gt A0 A1 A3 A4 A5 A7 P0 W0;cases nH:nameOk (nextP s t)
  case' false=>
   have HX:=U (show R.1=false∧R.2.1=nextP s t by rw[← HI.o];simp[itemT,eA,mM,gu,mg, *]);rw[nH] at P5
   go_wp2_with fail
   go_ret
   exact⟨by rw[HX.o.1];rfl,by rw[HX.o.2];exact P5.o,W5.o,fun hh=>(by rw[HX.o.1] at hh;cases hh)⟩
  case' true=>
   rw[nH] at P5
   go_wp2_with fail
   first
    | (
      refine(Kn _ pb s (nextP s (nextP s t)) ib 3 _ P5.o ir.o.next B3.o bT h1 h2).mono ?_;rintro e w6 ⟨v,rfl,MJ,CU,ho6,_,qX⟩;have HX:=U (show R=((blockF s (nextP s (nextP s t))).1,(blockF s (nextP s (nextP s t))).2.1,⟨0,nextP s t,(blockF s (nextP s (nextP s t))).2.2,[],zeroName,zeroName⟩) by rw[← HI.o];simp[itemT,eA,mM,gu,mg, *]);have W6:=U (W5.o.trans (qX.Ca (fo:=0) (m:=9) (by omega) (by omega)));have C0:=U (qX.seg _ _ _ (Or.inl (by simp)) B0.o);have C1:=U (qX.seg _ _ _ (Or.inl (by simp[nameCells])) S5.o);have C4:=U (qX.seg _ _ _ (Or.inr (by simp)) B4.o);have C5:=U (qX.seg _ _ _ (Or.inr (by simp)) B5.o);have C7:=U (qX.seg _ _ _ (Or.inr (by simp)) B7.o);have S6:=U CU;have O6:=U (cm ho6 YA);have P6:=U MJ;clear MJ CU ho6 qX;generalize blockF s (nextP s (nextP s t))=BB at *
      go_wp2_with fail
      go_ret
      exact⟨by rw[HX.o];rfl,by rw[HX.o];exact P6.o,W6.o,fun _=>⟨⟨⟨0,nextP s t,BB.2.2,[],zeroName,zeroName⟩,v,.slice none 0 0⟩,by rw[HX.o],(((((C0.o.mh C1.o).mh S6.o).mh C4.o).mh C5.o).mh C7.o),⟨O6.o,World.ownsRow_nil _ _ _ _⟩⟩⟩)
    | (
      refine(Kt _ pb s (nextP s (nextP s t)) ib 4 _ P5.o ir.o.next B4.o bT h1 h2).mono ?_;rintro e w6 ⟨v,rfl,MJ,CU,ho6,_,qX⟩;have HX:=U (show R=((blockN s (nextP s (nextP s t))).1,(blockN s (nextP s (nextP s t))).2.1,⟨1,nextP s t,[],(blockN s (nextP s (nextP s t))).2.2,zeroName,zeroName⟩) by rw[← HI.o];simp[itemT,eA,mM,gu,mg, *]);have W6:=U (W5.o.trans (qX.Ca (fo:=0) (m:=9) (by omega) (by omega)));have C0:=U (qX.seg _ _ _ (Or.inl (by simp)) B0.o);have C1:=U (qX.seg _ _ _ (Or.inl (by simp[nameCells])) S5.o);have C3:=U (qX.seg _ _ _ (Or.inl (by simp)) B3.o);have C5:=U (qX.seg _ _ _ (Or.inr (by simp)) B5.o);have C7:=U (qX.seg _ _ _ (Or.inr (by simp)) B7.o);have S6:=U CU;have O6:=U (cm ho6 YA);have P6:=U MJ;clear MJ CU ho6 qX;generalize blockN s (nextP s (nextP s t))=BB at *
      go_wp2_with fail
      go_ret
      exact⟨by rw[HX.o];rfl,by rw[HX.o];exact P6.o,W6.o,fun _=>⟨⟨⟨1,nextP s t,[],BB.2.2,zeroName,zeroName⟩,.slice none 0 0,v⟩,by rw[HX.o],(((((C0.o.mh C1.o).mh C3.o).mh S6.o).mh C5.o).mh C7.o),⟨World.ownsRow_nil _ _ _ _,O6.o⟩⟩⟩)
    | (
      refine(um _ pb s (nextP s (nextP s t)) ib 5 _ _ _ P5.o B5.o bT h1 h2).mono ?_;rintro e w6 ⟨rfl,MJ,CU,qX⟩;have HX:=U (show R=(baseOk (nextP s (nextP s t)),afterT (baseOk (nextP s (nextP s t))) s (nextP s (nextP s t)),⟨2,nextP s t,[],[],nameCells (nextP s (nextP s t)),zeroName⟩) by rw[← HI.o];simp[itemT,eA,mM,gu,mg, *]);have W6:=U (W5.o.trans (qX.Ca (fo:=0) (m:=9) (by omega) (by omega)));have C0:=U (qX.seg _ _ _ (Or.inl (by simp)) B0.o);have C1:=U (qX.seg _ _ _ (Or.inl (by simp[nameCells])) S5.o);have C3:=U (qX.seg _ _ _ (Or.inl (by simp)) B3.o);have C4:=U (qX.seg _ _ _ (Or.inl (by simp)) B4.o);have C7:=U (qX.seg _ _ _ (Or.inr (by simp)) B7.o);have S6:=U CU;have P6:=U MJ;clear MJ CU qX
      go_wp2_with fail
      go_ret
      exact⟨by rw[HX.o];rfl,by rw[HX.o];exact P6.o,W6.o,fun _=>⟨⟨⟨2,nextP s t,[],[],nameCells (nextP s (nextP s t)),zeroName⟩,.slice none 0 0,.slice none 0 0⟩,by rw[HX.o],(((((C0.o.mh C1.o).mh C3.o).mh C4.o).mh S6.o).mh C7.o),⟨World.ownsRow_nil _ _ _ _,World.ownsRow_nil _ _ _ _⟩⟩⟩)
    | (
      refine(um _ pb s (nextP s (nextP s t)) ib 5 _ _ _ P5.o B5.o bT h1 h2).mono ?_;rintro e w6 ⟨rfl,MJ,CU,qX⟩;have W6:=U (W5.o.trans (qX.Ca (fo:=0) (m:=9) (by omega) (by omega)));have C0:=U (qX.seg _ _ _ (Or.inl (by simp)) B0.o);have C1:=U (qX.seg _ _ _ (Or.inl (by simp[nameCells])) S5.o);have C3:=U (qX.seg _ _ _ (Or.inl (by simp)) B3.o);have C4:=U (qX.seg _ _ _ (Or.inl (by simp)) B4.o);have C7:=U (qX.seg _ _ _ (Or.inr (by simp)) B7.o);have S6:=U CU;have P6:=U MJ;clear MJ CU qX B0 B3 B4 B5 B7 S5 P5;cases Ry:baseOk (nextP s (nextP s t))
      case' false=>
       have HX:=U (show R.1=false∧R.2.1=nextP s (nextP s t) by rw[← HI.o];simp[itemT,eA,mM,gu,mg, *]);rw[Ry] at P6
       go_wp2_with fail
       go_ret
       exact⟨by rw[HX.o.1];rfl,by rw[HX.o.2];exact P6.o,W6.o,fun hh=>(by rw[HX.o.1] at hh;cases hh)⟩
      case' true=>
       rw[Ry] at P6;have HX:=U (show R=(baseOk (nextP s (nextP s (nextP s t))),afterT (baseOk (nextP s (nextP s (nextP s t)))) s (nextP s (nextP s (nextP s t))),⟨3,nextP s t,[],[],nameCells (nextP s (nextP s t)),nameCells (nextP s (nextP s (nextP s t)))⟩) by rw[← HI.o];simp[itemT,eA,mM,gu,mg, *])
       go_wp2_with fail
       refine(um _ pb s (nextP s (nextP s (nextP s t))) ib 7 _ _ _ P6.o C7.o bT h1 h2).mono ?_;rintro e w7 ⟨rfl,hp7,hs7,VL⟩;have W7:=U (W6.o.trans (VL.Ca (fo:=0) (m:=9) (by omega) (by omega)));have D0:=U (VL.seg _ _ _ (Or.inl (by simp)) C0.o);have D1:=U (VL.seg _ _ _ (Or.inl (by simp[nameCells])) C1.o);have D3:=U (VL.seg _ _ _ (Or.inl (by simp)) C3.o);have D4:=U (VL.seg _ _ _ (Or.inl (by simp)) C4.o);have D5:=U (VL.seg _ _ _ (Or.inl (by simp[nameCells])) S6.o);have S7:=U hs7;have P7:=U hp7;clear hp7 hs7 VL
       go_wp2_with fail
       go_ret
       exact⟨by rw[HX.o];rfl,by rw[HX.o];exact P7.o,W7.o,fun _=>⟨⟨⟨3,nextP s t,[],[],nameCells (nextP s (nextP s t)),nameCells (nextP s (nextP s (nextP s t)))⟩,.slice none 0 0,.slice none 0 0⟩,by rw[HX.o],(((((D0.o.mh D1.o).mh D3.o).mh D4.o).mh D5.o).mh S7.o),⟨World.ownsRow_nil _ _ _ _,World.ownsRow_nil _ _ _ _⟩⟩⟩)
theorem OC{s:ByteArray}{t:PTok}:t.at_≤(fieldT s t).2.at_:=by
 unfold fieldT;have a1:=next_at s t;have a2:=next_at s (nextP s t);have a3:=after_at s (nextP s (nextP s t)) (shapeOk (nextP s (nextP s t)));have a4:=next_at s (afterT (shapeOk (nextP s (nextP s t))) s (nextP s (nextP s t)))
 split
 ·split
  ·split<;>(simp only;omega)
  ·simp only;omega
 ·exact Nat.le_refl _
theorem fieldsT_tk:∀ (f:Nat) (t:PTok) (L:List PField),Tk s t→Tk s (fieldsT s f t L).2.1∧t.at_≤(fieldsT s f t L).2.1.at_
 | 0,t,L,h=>⟨h,Nat.le_refl _⟩
 | f+1,t,L,h=>by
  have h1:=fieldT_tk h;have h2:=@OC s t;unfold fieldsT
  split
  ·split
   ·have:=next_at s (fieldT s t).2
    exact⟨h1.next,by simp only;omega⟩
   ·have:=fieldsT_tk f (fieldT s t).2 (L++[fieldV s t (kU t.text.toList)]) h1
    exact⟨this.1,by omega⟩
  ·exact⟨h1,h2⟩
theorem OD(h:Tk s t):Tk s (blockF s t).2.1∧t.at_≤(blockF s t).2.1.at_:=by
 unfold blockF
 split
 ·have:=fieldsT_tk (s.size+1) (nextP s t) [] h.next
  have a:=next_at s t;exact⟨this.1,by omega⟩
 ·exact⟨h,Nat.le_refl _⟩
theorem namesT_tk:∀ (f:Nat) (t:PTok) (L:List PTok),Tk s t→Tk s (namesT s f t L).2.1∧t.at_≤(namesT s f t L).2.1.at_
 | 0,t,L,h=>⟨h,Nat.le_refl _⟩
 | f+1,t,L,h=>by
  have h2:=next_at s t;unfold namesT
  split
  ·split
   ·have:=next_at s (nextP s t)
    exact⟨h.next.next,by simp only;omega⟩
   ·have:=namesT_tk f (nextP s t) (L++[t]) h.next
    exact⟨this.1,by omega⟩
  ·exact⟨h,Nat.le_refl _⟩
theorem OE(h:Tk s t):Tk s (blockN s t).2.1∧t.at_≤(blockN s t).2.1.at_:=by
 unfold blockN
 split
 ·have:=namesT_tk (s.size+1) (nextP s t) [] h.next
  have a:=next_at s t;exact⟨this.1,by omega⟩
 ·exact⟨h,Nat.le_refl _⟩
theorem uq(h:Tk s t)(hw:isWordT t l=true):t.at_<(nextP s t).at_:=by
 simp only[isWordT,Bool.and_eq_true] at hw;have hk:t.kind=2:=eq_of_beq hw.2;have:=h.pos (by omega);have:=next_at s t;omega
theorem itemT_tk(h:Tk s t):Tk s (itemT s t).2.1∧((itemT s t).1=true→t.at_<(itemT s t).2.1.at_):=by
 have n2:=next_at s (nextP s t);have n3:=next_at s (nextP s (nextP s t));have bf:=OD h.next.next;have bn:=OE h.next.next;unfold itemT
 split
 ·rename_i hw
  have:=uq h hw
  split
  ·exact⟨bf.1,fun _=>by simp only;omega⟩
  ·exact⟨h.next,fun hh=>by simp at hh⟩
 ·split
  ·rename_i hw
   have:=uq h hw
   split
   ·exact⟨bn.1,fun _=>by simp only;omega⟩
   ·exact⟨h.next,fun hh=>by simp at hh⟩
  ·split
   ·rename_i hw
    have:=uq h hw
    split
    ·have a:=after_at s (nextP s (nextP s t)) (baseOk (nextP s (nextP s t)))
     exact⟨h.next.next.after _,fun _=>by simp only;omega⟩
    ·exact⟨h.next,fun hh=>by simp at hh⟩
   ·split
    ·rename_i hw
     have:=uq h hw
     split
     ·split
      ·have a:=after_at s (nextP s (nextP s (nextP s t))) (baseOk (nextP s (nextP s (nextP s t))))
       exact⟨h.next.next.next.after _,fun _=>by simp only;omega⟩
      ·exact⟨h.next.next,fun hh=>by simp at hh⟩
     ·exact⟨h.next,fun hh=>by simp at hh⟩
    ·exact⟨h,fun hh=>by simp at hh⟩
def itemsT(s:ByteArray):Nat→PTok→List PItem→Option (List PItem) × PTok
 | 0,t,_=>(none,t)
 | f+1,t,L=>
  if (t.kind==0)=true then(some L,t)
  else if (itemT s t).1=true then itemsT s f (itemT s t).2.1 (L++[(itemT s t).2.2])
  else(none,(itemT s t).2.1)
def parseP(s:ByteArray):Option (List PItem) × PTok:=itemsT s (s.size+1) (scanP s 0) []
structure PIts(w:World)(lo:Nat)(lv:Value)(X:List PIV):Prop where
 own:w.ownsRow lo 117 9 lv X.length (X.flatMap pivCells)
 nest:∀ x∈X,PNest w lo x
theorem PIts.below{X:List PIV}(h:PIts w lo lv X)(hb:Below w.heap.size w w'):PIts w' lo lv X:=by
 have k:∀ {e:TypeId} {size n:Nat} {v:Value} {xs:List Value},w.ownsRow lo e size v n xs→w'.ownsRow lo e size v n xs:=fun ho=>aH ho (fun g hg=>hb.block g (ho.lt g hg).2)
 exact⟨k h.own,fun x hx=>⟨k (h.nest x hx).f,k (h.nest x hx).n⟩⟩
theorem PIts.push{w4 w5:World}{lv':Value}{X:List PIV}{x:PIV}{ob:Obj}(h:PIts w4 lo lv X)(hx:PNest w4 lo x)
  (ho:w5.ownsRow lo 117 9 lv' (X.length+1) (X.flatMap pivCells++pivCells x)) (hg:(w4.alloc ob).grownBy w5 lv.ownBlock):PIts w5 lo lv' (X++[x]):=by
 have k:∀ {e:TypeId} {size n:Nat} {v:Value} {xs:List Value},e≠117→w4.ownsRow lo e size v n xs→w5.ownsRow lo e size v n xs:=fun he mz=>aH mz (fun g xR=>by
  have bC:=(mz.lt g xR).2;have bT:some g≠lv.ownBlock:=fun hh=>JW mz h.own he xR hh.symm rfl
  rw[hg.block g (by simp;omega) bT]
  exact Below.heap_alloc w4 ob g bC)
 refine⟨by simpa using ho,fun y hy=>?_⟩
 rcases List.mem_append.1 hy with hy | hy
 ·exact⟨k (by decide) (h.nest y hy).f,k (by decide) (h.nest y hy).n⟩
 ·simp at hy;subst hy;exact⟨k (by decide) hx.f,k (by decide) hx.n⟩
theorem PNest.down{x:PIV}(h:PNest w lo x)(hl:lo'≤lo):PNest w lo' x:=⟨cm h.f hl,cm h.n hl⟩
def VM(t:ByteArray):uk:=⟨t,zR,0,[],[],[],[],[]⟩
def aeG(l:List UInt8):Bool:=l==eA||l==mM||l==gu||l==mg
def aeH(L:List uk)(at_:Nat)(t:Tok):Option (List uk × Nat) :=
 if t.bad=true then none
 else if at_=0 then(if aeG t.text.toList=true then some (L++[VM t.text],1) else none)
 else match L.getLast? with
  | none=>none
  | some it=>if (Eg it at_ t).2=9 then none else some (L.dropLast++[(Eg it at_ t).1],(Eg it at_ t).2)
def goP(n:Nat):List Tok→List uk→Nat→Option (List uk) × Int
 | [],L,a=>if a=0 then(some L,-1) else(none,(n:Int))
 | t::r,L,a=>match aeH L a t with | none=>(none,(t.at_:Int)) | some p=>goP n r p.1 p.2
def tl(s:ByteArray)(t:PTok):List Tok:=if t.kind=0 then [] else⟨t.text,t.at_,t.kind==1⟩::ZR s (t.at_+t.text.size)
def G(s:ByteArray)(t:PTok)(L:List uk)(a:Nat):Option (List uk) × Int:=goP s.size (tl s t) L a
theorem MK{b:ByteArray}(h:b.toList=l):b=⟨l.toArray⟩:=by
 rw[ByteArray.toList_eq] at h;subst h;rfl
def jA(l:List Value):ByteArray:=match l with | .string b::_=>b | _=>zR
def cellAt(l:List Value):Nat:=match l with | [_,.int _ n]=>n.toNat | _=>0
theorem Tryz.infoPItem:(Tryz.prog.info? 117).map (fun i=>(i.zero,i.size,i.bytes))=some (some (.agg #[vI 0,.string ⟨#[]⟩,vI 0,.slice none 0 0,.slice none 0 0,.string ⟨#[]⟩,vI 0,.string ⟨#[]⟩,vI 0]),9,128):=by kernel_rfl
def IsNm(l:List Value):Prop:=∃ (b:ByteArray) (a:Nat),l=[.string b,.int .i64 a]
theorem ek:IsNm zeroName:=⟨⟨#[]⟩,0,rfl⟩
theorem zX(t:PTok):IsNm (nameCells t):=⟨t.text,t.at_,rfl⟩
theorem itemT_nm(s:ByteArray)(t:PTok):IsNm (itemT s t).2.2.base∧IsNm (itemT s t).2.2.answer:=by
 unfold itemT
 split
 ·split<;>exact⟨ek,ek⟩
 ·split
  ·split<;>exact⟨ek,ek⟩
  ·split
   ·split
    ·exact⟨zX _,ek⟩
    ·exact⟨ek,ek⟩
   ·split
    ·split
     ·split
      ·exact⟨zX _,zX _⟩
      ·exact⟨ek,ek⟩
     ·exact⟨ek,ek⟩
    ·exact⟨ek,ek⟩
theorem PIts.ajP{wr w2 w3:World}{ib:Nat}{X:List PIV}(h:PIts wr lo lv X)(hb:Below wr.heap.size wr w2)(hw:cq w2 w3 pb ib no n)(hp:pb<lo)(hi:ib=wr.heap.size):PIts w3 lo lv X:=by
 have k:∀ {e:TypeId} {size n:Nat} {v:Value} {xs:List Value},wr.ownsRow lo e size v n xs→w3.ownsRow lo e size v n xs:=fun ho=>aH ho (fun g hg=>by
  have hl:=ho.lt g hg
  exact(hw.block g (Nat.lt_of_lt_of_le hl.2 hb.size) (by omega) (by omega)).trans (hb.block g hl.2))
 exact⟨k h.own,fun x hx=>⟨k (h.nest x hx).f,k (h.nest x hx).n⟩⟩
theorem cq.VN(h:cq w w' pb nb no n)(h1:B≤pb)(h2:B≤nb)(h3:B≤w.heap.size):Below B w w' :=
 ⟨h.os,h.tape,h.output,h.size,fun k hk=>h.block k (by omega) (by omega) (by omega)⟩
theorem Er{x:PIV}(h:IsNm x.it.base∧IsNm x.it.answer):(pivCells x).length=9:=by
 obtain⟨⟨b,a,hb⟩,⟨c,d,hc⟩⟩:=h;simp[pivCells,hb,hc,nameCells]
theorem OF(s:ByteArray)(w:World)(hv:Vars w)(hs:s.size≤400):
  aT 93 #[.string s] w fun e w'=>∃ lv,∃ P:Int,e=.returned (.tuple #[lv,vI P])∧Below w.heap.size w w' ∧
   (((parseP s).1=none∧lv=.slice none 0 0∧P=((parseP s).2.at_:Int))∨∃ X:List PIV,(parseP s).1=some (X.map (fun x=>x.it))∧P = -1∧PIts w' (w.heap.size+1) lv X∧X.length≤400):=by
 obtain⟨iT,hiT,hT0,mA,vk⟩:=info_parts Tryz.infoPItem;have Ko:=hv.lt1;have sB:=hv.lt2;have HV:=U hv;generalize hR:parseP s=R;have HR:=U hR;clear hR hv
 go_enter func93,ntmps93
 go_wp2_with fail
 have cj:Below w.heap.size w (w.alloc (.cells #[.string s,vI 0,.string ⟨#[]⟩,vI 0] 223)):=(Below.refl _ _).alloc (Nat.le_refl _) _
 have YB:Ps (w.alloc (.cells #[.string s,vI 0,.string ⟨#[]⟩,vI 0] 223)) w.heap.size s ⟨0,⟨#[]⟩,0⟩ :=
  ⟨⟨_,heap_alloc_new w _,by simp[Ej],by simp[Ej]⟩,HV.o.below cj,by omega,by omega,by show 0+0≤s.size;omega,hs⟩
 refine(Gi _ w.heap.size s ⟨0,⟨#[]⟩,0⟩ YB).mono ?_;rintro e w1 ⟨rfl,fe,aA⟩;have aeI:Ps w1 w.heap.size s (scanP s 0):=fe;have ML:Below w.heap.size w w1:=cj.trans ⟨aA.os,aA.tape,aA.output,aA.size,fun k hk=>aA.block k (by simp;omega) (by omega)⟩;have ju:w.heap.size<w1.heap.size:=Nat.lt_of_lt_of_le (by simp) aA.size;have jP:=U aeI;clear fe aeI YB cj aA
 go_wp2_with fail
 go_loopg [5,6] (s.size+1) (fun gk l it wr=>∃ t X,s.size<t.at_+gk∧X.length≤t.at_∧Hid (itemsT s gk t (X.map (fun x=>x.it))=R)∧Hid (Ps wr w.heap.size s t)∧Hid (Tk s t)∧Hid (PIts wr (w.heap.size+1) l X)∧Below w.heap.size w wr∧w.heap.size<wr.heap.size)
 case atStart=>exact⟨scanP s 0,[],by omega,by simp,U HR.o,jP,U ⟨0,by omega,rfl⟩,U ⟨World.ownsRow_nil _ _ _ _,fun x hx=>(by simp at hx)⟩,ML,ju⟩
 case round=>
  obtain⟨t,X,OA,hXl,HF,HP,ph,HIT,bi,hz⟩:=hrel;have Ot:=ph.o.fit;obtain⟨JH,rfl⟩:∃ JH,gk=JH+1:=⟨gk-1,by omega⟩
  have c1:=HP.o.seg.cell (j:=1) (v:=vI t.kind) rfl;simp only[Nat.zero_add] at c1
  by_cases hk:t.kind=0
  ·have HE:=U (show R=(some (X.map (fun x=>x.it)),t) by rw[← HF.o];simp[itemsT,hk])
   have bT:((t.kind:Int) != 0)=false:=by simp;omega
   go_wp2_with fail
   go_ret2
   exact⟨u5,-1,rfl,bi,Or.inr ⟨X,by rw[HE.o],rfl,HIT.o,by omega⟩⟩
  ·have bT:((t.kind:Int) != 0)=true:=by simp;omega
   obtain⟨la,lc,nk⟩:∃ a c,u5=.slice a X.length c:=ax HIT.o.own
   subst nk
   go_wp2_with fail
   have Eo:dU (wr.alloc (.cells #[vI 0,.string ⟨#[]⟩,vI 0,.slice none 0 0,.slice none 0 0,.string ⟨#[]⟩,vI 0,.string ⟨#[]⟩,vI 0] 117)) wr.heap.size 117 0 uo:=⟨_,heap_alloc_new wr _,by simp[uo],by simp[uo]⟩
   have aW:Below wr.heap.size wr (wr.alloc (.cells #[vI 0,.string ⟨#[]⟩,vI 0,.slice none 0 0,.slice none 0 0,.string ⟨#[]⟩,vI 0,.string ⟨#[]⟩,vI 0] 117)):=(Below.refl _ _).alloc (Nat.le_refl _) _;refine(RH _ w.heap.size s t wr.heap.size (HP.o.below aW) ph.o Eo (by omega) (by omega) (by omega)).mono ?_;rintro e w3 ⟨rfl,mN,iK,hx3⟩;have BD:wr.heap.size<w3.heap.size:=Nat.lt_of_lt_of_le (by simp) iK.size;have aeJ:=HIT.o.ajP aW iK (show w.heap.size<w.heap.size+1 by omega) rfl;have F7:Below w.heap.size w w3:=(bi.trans (aW.mono (by omega))).trans (iK.VN (Nat.le_refl _) (by omega) (by simp;omega));have c3:=mN.seg.cell (j:=3) (v:=.int .i64 (itemT s t).2.1.at_) rfl;simp only[Nat.zero_add] at c3;have nI:=U mN;have HI3:=U aeJ;have HX3:=U hx3;have HTI:=U (itemT_tk ph.o);clear mN aeJ hx3 iK Eo c1;cases bX:(itemT s t).1
   case' false=>
    have HE:=U (show R=(none,(itemT s t).2.1) by rw[← HF.o];simp[itemsT,hk,bX])
    go_wp2_with fail
    go_quiet (fail)
    go_wp2_with fail
    go_ret2
    exact⟨.slice none 0 0,_,rfl,below_drewN F7 _,Or.inl ⟨by rw[HE.o],rfl,by rw[HE.o]⟩⟩
   case' true=>
    obtain⟨x,YC,RI,Z4⟩:=HX3.o bX;have BJ:=itemT_nm s t;rw[← YC] at BJ;have BI:=HTI.o.2 bX;have HE:=U (show itemsT s JH (itemT s t).2.1 ((X++[x]).map (fun x=>x.it))=R by rw[← HF.o];simp[itemsT,hk,bX,YC]);obtain⟨fa,fc,MM⟩:∃ a c,x.vf=.slice a x.it.fields.length c:=ax Z4.f
    obtain⟨na,nc,RJ⟩:∃ a c,x.vn=.slice a x.it.names.length c:=ax Z4.n
    have hlen:=Er BJ;obtain⟨⟨bb,ba,D2⟩,⟨ab,aa,Es⟩⟩:=BJ
    have qp:pivCells x=[vI x.it.kind,.string x.it.name.text,vI x.it.name.at_,.slice fa x.it.fields.length fc,.slice na x.it.names.length nc,.string bb,vI ba,.string ab,vI aa]:=by
     simp[pivCells,D2,Es,MM,RJ,nameCells]
    have zY:=RI;rw[qp] at zY;have e0:=zY.cell (j:=0) rfl;have e1:=zY.cell (j:=1) rfl;have e2:=zY.cell (j:=2) rfl;have e3:=zY.cell (j:=3) rfl;have e4:=zY.cell (j:=4) rfl;have e5:=zY.cell (j:=5) rfl;have e6:=zY.cell (j:=6) rfl;have e7:=zY.cell (j:=7) rfl;have e8:=zY.cell (j:=8) rfl;simp only[Nat.zero_add] at e0 e1 e2 e3 e4 e5 e6 e7 e8;have HXN:=U (Z4.down (show w.heap.size+1≤_ by simp;omega));have HC:=U qp;have VO:=U hlen;have pU:=U HTI.o.1;clear YC RI zY Z4 MM RJ D2 Es qp hlen HX3 HTI HF c3
    go_wp2_with (at_builtin;refine wpList_append_lies _ rfl _ _ 80 rfl (w.heap.size+1) 117 iT _ 9 128 underlying80 hiT hT0 mA vk rfl (by decide) _ _ _ rfl (HI3.o.own.alloc _) (aj w3.heap.size 0) 1 1 (pivCells x) rfl VO.o (by rw[HC.o];exact dK w3 _ rfl #[vI x.it.kind,.string x.it.name.text,vI x.it.name.at_,.slice fa x.it.fields.length fc,.slice na x.it.names.length nc,.string bb,vI ba,.string ab,vI aa] _) (by rw[HC.o];simp[Value.oneCell']) (by omega) (by unfold maxLen;omega) (by omega) (by simp;omega) _ rfl ?_)
    intro g5 U8 w5 ki de _ _;have iC:Below (w.heap.size+1) w3 w5:=((Below.refl _ w3).alloc (by omega) _).grown de (by simp;omega) (fun k hk=>(HI3.o.own.lt k hk).1);have HI5:=U (HI3.o.push HXN.o ki de);have yQ:=U (nI.o.Em iC (by omega) (by omega) (by omega));have RL:=F7.trans (iC.mono (Nat.le_succ _));have YA:=iC.size;clear ki de iC e0 e1 e2 e3 e4 e5 e6 e7 e8
    go_wp2_with fail
    go_roundg JH
    case rel=>exact⟨(itemT s t).2.1,X++[x],by omega,by simp;omega,HE,yQ,pU,HI5,RL,by omega⟩
    case measure=>omega
structure OG(s:ByteArray)(lo hi:Nat)(f:PField):Prop where
 n:lo≤f.numberAt∧f.numberAt<hi
 m:lo≤f.nameAt∧f.nameAt<hi
 b:lo≤f.baseAt∧f.baseAt<hi
 ms:f.name.size≤s.size
 bs:f.base.size≤s.size
 sh:f.shape≤2
theorem OH(t:PTok):shapeP t≤2:=by unfold shapeP;split<;>(try split)<;>omega
theorem OG.mono{f:PField}(h:OG s lo hi f)(h1:lo'≤lo)(h2:hi≤Gj):OG s lo' Gj f :=
 ⟨⟨by have:=h.n;omega,by have:=h.n;omega⟩,⟨by have:=h.m;omega,by have:=h.m;omega⟩,⟨by have:=h.b;omega,by have:=h.b;omega⟩,h.ms,h.bs,h.sh⟩
theorem Tk.lz(h:Tk s t):t.text.size≤s.size:=by have:=h.fit;omega
theorem fJ(h:nameOk t=true):t.kind=2:=by
 simp only[nameOk,Bool.and_eq_true] at h;exact eq_of_beq h.2
theorem mO(h:baseOk t=true):t.kind=2:=by
 simp only[baseOk,Bool.and_eq_true] at h;exact eq_of_beq h.2
theorem Tk.step(h:Tk s t)(h0:t.kind≠0):t.at_<(nextP s t).at_:=by
 have:=h.pos h0;have:=next_at s t;omega
theorem OI(h:Tk s t)(bX:(fieldT s t).1=true)(n:Int):OG s t.at_ (fieldT s t).2.at_ (fieldV s t n)∧t.at_<(fieldT s t).2.at_:=by
 unfold fieldT at bX ⊢
 by_cases hk:(t.kind==3)=true
 ·rw[if_pos hk] at bX ⊢
  have hk3:t.kind=3:=eq_of_beq hk
  by_cases hn:nameOk (nextP s t)=true
  ·rw[if_pos hn] at bX ⊢
   have s1:=h.step (by omega);have s2:=h.next.step (by rw[fJ hn];omega)
   by_cases hb:baseOk (afterT (shapeOk (nextP s (nextP s t))) s (nextP s (nextP s t)))=true
   ·rw[if_pos hb]
    have hu:=h.next.next.after (shapeOk (nextP s (nextP s t)));have s3:=after_at s (nextP s (nextP s t)) (shapeOk (nextP s (nextP s t)));have s4:=hu.step (by rw[mO hb];omega);refine⟨⟨?_,?_,?_,h.next.lz,hu.lz,OH _⟩,?_⟩<;>simp only[fieldV]<;>omega
   ·rw[if_neg hb] at bX;cases bX
  ·rw[if_neg hn] at bX;cases bX
 ·rw[if_neg hk] at bX;cases bX
theorem zZ:∀ (f:Nat) (t:PTok) (L:List PField),Tk s t→(fieldsT s f t L).1=true →
  (∀ x∈(fieldsT s f t L).2.2,x∈L∨OG s t.at_ (fieldsT s f t L).2.1.at_ x)∧(fieldsT s f t L).2.2.length+t.at_≤L.length+(fieldsT s f t L).2.1.at_∧Tk s (fieldsT s f t L).2.1
 | 0,t,L,h,bX=>by simp[fieldsT] at bX
 | f+1,t,L,h,bX=>by
  unfold fieldsT at bX ⊢
  by_cases h1:(fieldT s t).1=true
  ·rw[if_pos h1] at bX ⊢
   have hi:=OI h h1 (kU t.text.toList);have ht:=fieldT_tk h
   by_cases h5:((fieldT s t).2.kind==5)=true
   ·rw[if_pos h5]
    have h5':(fieldT s t).2.kind=5:=eq_of_beq h5;have s1:=ht.step (by omega);refine⟨fun x hx=>?_,?_,ht.next⟩
    ·rcases List.mem_append.1 hx with hx | hx
     ·exact Or.inl hx
     ·rw[List.mem_singleton.1 hx];exact Or.inr (hi.1.mono (Nat.le_refl _) (by show _≤(nextP s (fieldT s t).2).at_;omega))
    ·show (L++[fieldV s t (kU t.text.toList)]).length+t.at_≤L.length+(nextP s (fieldT s t).2).at_
     rw[List.length_append,List.length_singleton];have:=hi.2;omega
   ·rw[if_neg h5] at bX ⊢
    have ih:=zZ f (fieldT s t).2 _ ht bX;have Ki:=(fieldsT_tk f (fieldT s t).2 (L++[fieldV s t (kU t.text.toList)]) ht).2;refine⟨fun x hx=>?_,?_,ih.2.2⟩
    ·rcases ih.1 x hx with hx | hx
     ·rcases List.mem_append.1 hx with hx | hx
      ·exact Or.inl hx
      ·rw[List.mem_singleton.1 hx];exact Or.inr (hi.1.mono (Nat.le_refl _) Ki)
     ·exact Or.inr (hx.mono (by have:=hi.2;omega) (Nat.le_refl _))
    ·have:=ih.2.1;rw[List.length_append,List.length_singleton] at this;have:=hi.2;omega
  ·rw[if_neg h1] at bX;cases bX
structure YD(s:ByteArray)(lo hi:Nat)(t:PTok):Prop where
 a:lo≤t.at_∧t.at_<hi
 s:t.text.size≤s.size
theorem YD.mono{f:PTok}(h:YD s lo hi f)(h1:lo'≤lo)(h2:hi≤Gj):YD s lo' Gj f :=
 ⟨⟨by have:=h.a;omega,by have:=h.a;omega⟩,h.s⟩
theorem CV:∀ (f:Nat) (t:PTok) (L:List PTok),Tk s t→(namesT s f t L).1=true →
  (∀ x∈(namesT s f t L).2.2,x∈L∨YD s t.at_ (namesT s f t L).2.1.at_ x)∧(namesT s f t L).2.2.length+t.at_≤L.length+(namesT s f t L).2.1.at_∧Tk s (namesT s f t L).2.1
 | 0,t,L,h,bX=>by simp[namesT] at bX
 | f+1,t,L,h,bX=>by
  unfold namesT at bX ⊢
  by_cases h1:nameOk t=true
  ·rw[if_pos h1] at bX ⊢
   have s0:=h.step (by rw[fJ h1];omega);have ht:=h.next
   by_cases h5:((nextP s t).kind==5)=true
   ·rw[if_pos h5]
    have h5':(nextP s t).kind=5:=eq_of_beq h5;have s1:=ht.step (by omega);refine⟨fun x hx=>?_,?_,ht.next⟩
    ·rcases List.mem_append.1 hx with hx | hx
     ·exact Or.inl hx
     ·rw[List.mem_singleton.1 hx];exact Or.inr ⟨⟨Nat.le_refl _,by show _<(nextP s (nextP s t)).at_;omega⟩,h.lz⟩
    ·show (L++[t]).length+t.at_≤L.length+(nextP s (nextP s t)).at_
     rw[List.length_append,List.length_singleton];omega
   ·rw[if_neg h5] at bX ⊢
    have ih:=CV f (nextP s t) _ ht bX;have Ki:=(namesT_tk f (nextP s t) (L++[t]) ht).2;refine⟨fun x hx=>?_,?_,ih.2.2⟩
    ·rcases ih.1 x hx with hx | hx
     ·rcases List.mem_append.1 hx with hx | hx
      ·exact Or.inl hx
      ·rw[List.mem_singleton.1 hx];exact Or.inr ⟨⟨Nat.le_refl _,by omega⟩,h.lz⟩
     ·exact Or.inr (hx.mono (by omega) (Nat.le_refl _))
    ·have:=ih.2.1;rw[List.length_append,List.length_singleton] at this;omega
  ·rw[if_neg h1] at bX;cases bX
structure U9(s:ByteArray)(lo hi:Nat)(p:PItem):Prop where
 nm:YD s lo hi p.name
 f:∀ f∈p.fields,OG s lo hi f
 n:∀ t∈p.names,YD s lo hi t
 b:2≤p.kind→∃ t,p.base=nameCells t∧YD s lo hi t
 a:p.kind=3→∃ t,p.answer=nameCells t∧YD s lo hi t
 fl:p.fields.length+lo≤hi
 nl:p.names.length+lo≤hi
 k:p.kind≤3
 fn:2≤p.kind→p.fields=[]
theorem U9.mono{p:PItem}(h:U9 s lo hi p)(h1:lo'≤lo)(h2:hi≤Gj):U9 s lo' Gj p :=
 ⟨h.nm.mono h1 h2,fun f hf=>(h.f f hf).mono h1 h2,fun t ht=>(h.n t ht).mono h1 h2,fun hk=>by obtain⟨t,e,ht⟩:=h.b hk;exact⟨t,e,ht.mono h1 h2⟩,fun hk=>by obtain⟨t,e,ht⟩:=h.a hk;exact⟨t,e,ht.mono h1 h2⟩,by have:=h.fl;omega,by have:=h.nl;omega,h.k,h.fn⟩
theorem lJ(h:isWordT t l=true):t.kind=2:=by
 simp only[isWordT,Bool.and_eq_true] at h;exact eq_of_beq h.2
theorem RM(h:Tk s t)(bX:(itemT s t).1=true):U9 s t.at_ (itemT s t).2.1.at_ (itemT s t).2.2:=by
 have n1:=h.next;have n2:=h.next.next;have n3:=h.next.next.next;unfold itemT at bX ⊢
 by_cases e0:isWordT t eA=true
 ·rw[if_pos e0] at bX ⊢
  have s1:=h.step (by rw[lJ e0];omega)
  by_cases hn:nameOk (nextP s t)=true
  ·rw[if_pos hn] at bX ⊢
   have s2:=n1.step (by rw[fJ hn];omega);unfold blockF at bX ⊢
   by_cases h4:((nextP s (nextP s t)).kind==4)=true
   ·rw[if_pos h4] at bX ⊢
    have hk4:(nextP s (nextP s t)).kind=4:=eq_of_beq h4;have s3:=n2.step (by omega);obtain⟨i1,i2,_⟩:=zZ _ _ _ n3 bX;have Ki:=(fieldsT_tk (s.size+1) _ [] n3).2;refine⟨⟨⟨by dsimp only;omega,by dsimp only;omega⟩,n1.lz⟩,fun f hf=>?_,fun t ht=>by simp at ht,fun hk=>by simp at hk,fun hk=>by simp at hk,?_,by simp;omega,by simp,fun hk=>by simp at hk⟩
    ·rcases i1 f hf with hf | hf
     ·simp at hf
     ·exact hf.mono (by omega) (Nat.le_refl _)
    ·simp only[List.length_nil] at i2;dsimp only;omega
   ·rw[if_neg h4] at bX;cases bX
  ·rw[if_neg hn] at bX;cases bX
 ·rw[if_neg e0] at bX ⊢
  by_cases e1:isWordT t mM=true
  ·rw[if_pos e1] at bX ⊢
   have s1:=h.step (by rw[lJ e1];omega)
   by_cases hn:nameOk (nextP s t)=true
   ·rw[if_pos hn] at bX ⊢
    have s2:=n1.step (by rw[fJ hn];omega);unfold blockN at bX ⊢
    by_cases h4:((nextP s (nextP s t)).kind==4)=true
    ·rw[if_pos h4] at bX ⊢
     have hk4:(nextP s (nextP s t)).kind=4:=eq_of_beq h4;have s3:=n2.step (by omega);obtain⟨i1,i2,_⟩:=CV _ _ _ n3 bX;have Ki:=(namesT_tk (s.size+1) _ [] n3).2;refine⟨⟨⟨by dsimp only;omega,by dsimp only;omega⟩,n1.lz⟩,fun f hf=>by simp at hf,fun f hf=>?_,fun hk=>by simp at hk,fun hk=>by simp at hk,by simp;omega,?_,by simp,fun hk=>by simp at hk⟩
     ·rcases i1 f hf with hf | hf
      ·simp at hf
      ·exact hf.mono (by omega) (Nat.le_refl _)
     ·simp only[List.length_nil] at i2;dsimp only;omega
    ·rw[if_neg h4] at bX;cases bX
   ·rw[if_neg hn] at bX;cases bX
  ·rw[if_neg e1] at bX ⊢
   by_cases e2:isWordT t gu=true
   ·rw[if_pos e2] at bX ⊢
    have s1:=h.step (by rw[lJ e2];omega)
    by_cases hn:nameOk (nextP s t)=true
    ·rw[if_pos hn] at bX ⊢
     have s2:=n1.step (by rw[fJ hn];omega);simp only at bX ⊢;rw[bX];have s3:=n2.step (by rw[mO bX];omega);simp only[afterT];exact⟨⟨⟨by dsimp only;omega,by dsimp only;omega⟩,n1.lz⟩,fun f hf=>by simp at hf,fun f hf=>by simp at hf,fun _=>⟨_,rfl,⟨by omega,by omega⟩,n2.lz⟩,fun hk=>by simp at hk,by simp;omega,by simp;omega,by simp,fun _=>rfl⟩
    ·rw[if_neg hn] at bX;cases bX
   ·rw[if_neg e2] at bX ⊢
    by_cases e3:isWordT t mg=true
    ·rw[if_pos e3] at bX ⊢
     have s1:=h.step (by rw[lJ e3];omega)
     by_cases hn:nameOk (nextP s t)=true
     ·rw[if_pos hn] at bX ⊢
      have s2:=n1.step (by rw[fJ hn];omega)
      by_cases hb:baseOk (nextP s (nextP s t))=true
      ·rw[if_pos hb] at bX ⊢
       have s3:=n2.step (by rw[mO hb];omega);simp only at bX ⊢;rw[bX];have s4:=n3.step (by rw[mO bX];omega);simp only[afterT];exact⟨⟨⟨by dsimp only;omega,by dsimp only;omega⟩,n1.lz⟩,fun f hf=>by simp at hf,fun f hf=>by simp at hf,fun _=>⟨_,rfl,⟨by omega,by omega⟩,n2.lz⟩,fun _=>⟨_,rfl,⟨by omega,by omega⟩,n3.lz⟩,by simp;omega,by simp;omega,by simp,fun _=>rfl⟩
      ·rw[if_neg hb] at bX;cases bX
     ·rw[if_neg hn] at bX;cases bX
    ·rw[if_neg e3] at bX;cases bX
def MN(s:ByteArray)(p q:PItem):Prop:=∃ c,(∃ lo,U9 s lo c p)∧(∃ hi,U9 s c hi q)
theorem CW:∀ (f:Nat) (t:PTok) (L M:List PItem),Tk s t→(itemsT s f t L).1=some M→(∀ p∈L,∃ lo,U9 s lo t.at_ p)→L.Pairwise (MN s)→L.length≤t.at_→(∀ p∈L,IsNm p.base∧IsNm p.answer) →
  (∀ p∈M,∃ lo,U9 s lo s.size p)∧M.Pairwise (MN s)∧M.length≤s.size∧(∀ p∈M,IsNm p.base∧IsNm p.answer)
 | 0,t,L,M,h,hM,_,_,_,_=>by simp[itemsT] at hM
 | f+1,t,L,M,h,hM,Ku,hpw,hlen,BJ=>by
  have Ot:=h.fit;unfold itemsT at hM
  by_cases h0:(t.kind==0)=true
  ·rw[if_pos h0] at hM
   simp only[Option.some.injEq] at hM;subst hM;refine⟨fun p hp=>?_,hpw,by omega,BJ⟩;obtain⟨lo,hi⟩:=Ku p hp;exact⟨lo,hi.mono (Nat.le_refl _) (by omega)⟩
  ·rw[if_neg h0] at hM
   by_cases h1:(itemT s t).1=true
   ·rw[if_pos h1] at hM
    have ht:=itemT_tk h;have BI:=ht.2 h1;have hit:=RM h h1;refine CW f (itemT s t).2.1 _ M ht.1 hM (fun p hp=>?_) ?_ ?_ ?_
    ·rcases List.mem_append.1 hp with hp | hp
     ·obtain⟨lo,hi⟩:=Ku p hp
      exact⟨lo,hi.mono (Nat.le_refl _) (by omega)⟩
     ·rw[List.mem_singleton.1 hp];exact⟨_,hit⟩
    ·rw[List.pairwise_append]
     refine⟨hpw,by simp,fun p hp q hq=>?_⟩;rw[List.mem_singleton.1 hq];exact⟨t.at_,Ku p hp,_,hit⟩
    ·rw[List.length_append,List.length_singleton];omega
    ·intro p hp
     rcases List.mem_append.1 hp with hp | hp
     ·exact BJ p hp
     ·rw[List.mem_singleton.1 hp];exact itemT_nm s t
   ·rw[if_neg h1] at hM;cases hM
theorem vG{M:List PItem}(h:(parseP s).1=some M):(∀ p∈M,∃ lo,U9 s lo s.size p)∧M.Pairwise (MN s)∧M.length≤s.size∧(∀ p∈M,IsNm p.base∧IsNm p.answer) :=
 CW (s.size+1) (scanP s 0) [] M ⟨0,by omega,rfl⟩ h (by simp) (by simp) (by simp) (by simp)
end Go.Proofs.YtkpfplbmmglkkaaGreatDoor
