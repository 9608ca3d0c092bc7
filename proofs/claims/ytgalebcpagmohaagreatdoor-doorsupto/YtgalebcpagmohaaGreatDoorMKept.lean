/- The items that package courierref builds: what they hold, how they lie in memory, and what one token does to the last of them (no walk). -/
import Derived.Test.YtgalebcpagmohaaGreatDoorMLeaf
import Derived.Deep.AppendLies
import Derived.Deep.QuietTactic
import Derived.BigQuiet
import Derived.Lib.SmallJoins
namespace Go.Proofs.YtgalebcpagmohaaGreatDoor
open Go.RowKit
def Seg (w:World) (b:Nat) (T:TypeId) (o:Nat) (xs:List Value):Prop :=
 ∃ cur,w.heap[b]? = some (.cells cur T (0,0))∧o+xs.length≤cur.size∧(cur.toList.drop o).take xs.length=xs
theorem Seg.cell {w:World} {b:Nat} {T:TypeId} {o:Nat} {xs:List Value} (h:Seg w b T o xs) {j:Nat} {v:Value} (hj:xs[j]? = some v):w.cell? ⟨b,o+j,none⟩=some v:=by
 obtain⟨cur,hb,hs,ht⟩:=h
 have hlt:j<xs.length:=by
  rcases Nat.lt_or_ge j xs.length with h | h
  ·exact h
  ·rw[List.getElem?_eq_none h] at hj;cases hj
 simp only[World.cell?,hb]
 rw[← hj]
 conv=>rhs;rw[← ht,List.getElem?_take,if_pos hlt]
 simp
theorem Seg.frozen {w:World} {b:Nat} {T:TypeId} {o:Nat} {xs:List Value} (h:Seg w b T o xs) (j:Nat):w.frozen? ⟨b,j,none⟩=false:=by
 obtain⟨cur,hb,_⟩:=h
 simp[World.frozen?,hb]
theorem Seg.lt {w:World} {b:Nat} {T:TypeId} {o:Nat} {xs:List Value} (h:Seg w b T o xs):b<w.heap.size:=by
 obtain⟨cur,hb,_⟩:=h
 rcases Nat.lt_or_ge b w.heap.size with hlt | hge
 ·exact hlt
 ·rw[Array.getElem?_eq_none hge] at hb;cases hb
theorem Seg.same {w w':World} {b:Nat} {T:TypeId} {o:Nat} {xs:List Value} (h:Seg w b T o xs) (e:w'.heap[b]? = w.heap[b]?):Seg w' b T o xs:=by
 obtain⟨cur,hb,hr⟩:=h
 exact⟨cur,by rw[e,hb],hr⟩
theorem Seg.set {w:World} {b:Nat} {T:TypeId} {o:Nat} {xs:List Value} (h:Seg w b T o xs) (j:Nat) (v:Value):Seg (w.setCell ⟨b,o+j,none⟩ v) b T o (xs.set j v):=by
 obtain⟨cur,hb,hs,ht⟩:=h
 refine⟨cur.setIfInBounds (o+j) v,heap_setCell_same w b (o+j) cur T v hb,by simpa using hs,?_⟩
 rw[Array.toList_setIfInBounds,List.length_set]
 by_cases hj:j<xs.length
 ·rw[List.drop_set,if_neg (by omega),List.take_set,ht,show o+j-o=j from by omega]
 ·rw[List.drop_set,if_neg (by omega),List.take_set,ht,List.set_eq_of_length_le (by omega),List.set_eq_of_length_le (by omega)]
structure aZ where
 number:Int
 name:ByteArray
 kind:ByteArray
 base:ByteArray
 numberAt:Nat
 nameAt:Nat
 bV:Nat
def aP (f:aZ):List Value:=[.int .i64 f.number,.string f.name,.string f.kind,.string f.base,.int .i64 f.numberAt,.int .i64 f.nameAt,.int .i64 f.bV]
structure bI where
 kind:ByteArray
 name:ByteArray
 nameAt:Nat
 fields:List aZ
 names:List ByteArray
 aQ:List Nat
 bases:List ByteArray
 aV:List Nat
structure IV where
 it:bI
 vf:Value
 vn:Value
 jA:Value
 vb:Value
 jB:Value
def bJ (x:IV):List Value:=[.string x.it.kind,.string x.it.name,.int .i64 x.it.nameAt,x.vf,x.vn,x.jA,x.vb,x.jB]
def aY (s:ByteArray):Value:=.string s
def eX (n:Nat):Value:=.int .i64 n
structure fO (w:World) (lo:Nat) (x:IV):Prop where
 f:w.ownsRow lo 95 7 x.vf x.it.fields.length (x.it.fields.flatMap aP)
 n:w.ownsRow lo 9 1 x.vn x.it.names.length (x.it.names.map aY)
 na:w.ownsRow lo 3 1 x.jA x.it.aQ.length (x.it.aQ.map eX)
 b:w.ownsRow lo 9 1 x.vb x.it.bases.length (x.it.bases.map aY)
 ba:w.ownsRow lo 3 1 x.jB x.it.aV.length (x.it.aV.map eX)
 zf:x.it.fields=[]→x.vf=.slice none 0 0
 zn:x.it.names=[]→x.vn=.slice none 0 0
 yj:x.it.aQ=[]→x.jA=.slice none 0 0
 zb:x.it.bases=[]→x.vb=.slice none 0 0
 yu:x.it.aV=[]→x.jB=.slice none 0 0
theorem own_base {w:World} {lo lo':Nat} {e:TypeId} {size n:Nat} {v:Value} {xs:List Value} (h:w.ownsRow lo e size v n xs) (hl:lo'≤lo):w.ownsRow lo' e size v n xs:=by
 obtain⟨h1,h2⟩:=h
 refine⟨h1,?_⟩
 rcases h2 with h2 | ⟨g,cap,cur,hv,hg,r⟩
 ·exact Or.inl h2
 ·exact Or.inr ⟨g,cap,cur,hv,by omega,r⟩
theorem gK {w:World} {lo b o:Nat} {T e:TypeId} {size n:Nat} {v:Value} {xs ys:List Value} (h:w.ownsRow lo e size v n xs) (h':Seg w b T o ys) (he:e≠T) {g:Nat} (hg:v.ownBlock=some g):g≠b:=by
 intro hh;subst hh
 obtain⟨c,hc⟩:=jZ h hg
 obtain⟨c',hc',_⟩:=h'
 rw[hc] at hc';simp at hc';exact he hc'.2
theorem fO.same {w w':World} {lo:Nat} {x:IV} (h:fO w lo x) (hs:∀ g,g<w.heap.size→w'.heap[g]? = w.heap[g]?):fO w' lo x :=
 have k:∀ {e:TypeId} {size n:Nat} {v:Value} {xs:List Value},w.ownsRow lo e size v n xs→w'.ownsRow lo e size v n xs:=fun ho=>au ho (fun g hg=>hs g (ho.lt g hg).2)
 {f:=k h.f,n:=k h.n,na:=k h.na,b:=k h.b,ba:=k h.ba,zf:=h.zf,zn:=h.zn,yj:=h.yj,zb:=h.zb,yu:=h.yu }
def je:ByteArray:=⟨#[]⟩
def jQ (l:List UInt8):Int:=(Lib.atoi l).getD 0
def setLast (f:aZ→aZ) (l:List aZ):List aZ:=match l.getLast? with | some a=>l.dropLast++[f a] | none=>[]
def jH (t:ByteArray) (l:List UInt8):Bool:=t.toList==l
def aX:List UInt8:=[109,101,115,115,97,103,101]
def kR:List UInt8:=[101,110,117,109]
def dV:List UInt8:=[115,116,114,101,97,109]
def iE:List UInt8:=[99,97,108,108]
def kZ:List UInt8:=[111,112,116]
def iY:List UInt8:=[108,105,115,116]
def Ah:List UInt8:=[123]
def qj:List UInt8:=[125]
def ay (it:bI) (at_:Nat) (t:Tok):bI × Nat :=
 match at_ with
 | 1=>if nO t.text.toList then({ it with name:=t.text,nameAt:=t.at_ },if dQ it.kind.toList then 2 else 8) else(it,9)
 | 2=>if jH t.text Ah then(it,if jH it.kind aX then 3 else 7) else(it,9)
 | 3=>if jv t.text.toList then({ it with fields:=it.fields++[⟨jQ t.text.toList,je,je,je,t.at_,0,0⟩] },4)
     else if it.fields≠[]∧jH t.text qj=true then(it,0) else(it,9)
 | 4=>if nO t.text.toList then({ it with fields:=setLast (fun f=>{ f with name:=t.text,nameAt:=t.at_ }) it.fields },5) else(it,9)
 | 5=>if jH t.text kZ||jH t.text iY then({ it with fields:=setLast (fun f=>{ f with kind:=t.text }) it.fields },6)
     else if rM t.text.toList then({ it with fields:=setLast (fun f=>{ f with base:=t.text,bV:=t.at_ }) it.fields },3) else(it,9)
 | 6=>if rM t.text.toList then({ it with fields:=setLast (fun f=>{ f with base:=t.text,bV:=t.at_ }) it.fields },3) else(it,9)
 | 7=>if it.names≠[]∧jH t.text qj=true then(it,0)
     else if nO t.text.toList then({ it with names:=it.names++[t.text],aQ:=it.aQ++[t.at_] },7) else(it,9)
 | 8=>if rM t.text.toList then({ it with bases:=it.bases++[t.text],aV:=it.aV++[t.at_] },if jH it.kind iE&&it.bases.isEmpty then 8 else 0) else(it,9)
 | _=>(it,9)
def Fit (it:bI) (at_:Nat):Prop :=
 1≤at_∧at_≤8∧it.fields.length≤400∧it.names.length≤400∧it.aQ.length≤400∧it.bases.length≤400∧it.aV.length≤400 ∧
 (at_=4∨at_=5∨at_=6→it.fields≠[])∧(at_=7→it.bases=[]∧it.aV=[])∧(at_=8→it.names=[]∧it.aQ=[])
structure Kept (w w':World) (lo b o:Nat):Prop where
 os:w'.os=w.os
 tape:w'.tape=w.tape
 output:w'.output=w.output
 size:w.heap.size≤w'.heap.size
 block:∀ k,k<lo→k≠b→w'.heap[k]? = w.heap[k]?
 seg:∀ T p xs,(p+xs.length≤o∨o+8≤p)→Seg w b T p xs→Seg w' b T p xs
 len:∀ T cur,w.heap[b]? = some (.cells cur T (0,0))→∃ cur',w'.heap[b]? = some (.cells cur' T (0,0))∧cur'.size=cur.size
def sQ (w:World) (lo b o:Nat) (it:bI) (at_:Nat) (t:Tok) (e:Ending) (w':World):Prop :=
 ∃ x':IV,e=.returned (.int .i64 ((ay it at_ t).2:Nat))∧x'.it=(ay it at_ t).1∧Seg w' b 88 o (bJ x')∧fO w' lo x'∧Kept w w' lo b o∧((ay it at_ t).2=9→Below w.heap.size w w')
theorem Kept.below {w w':World} {lo b o:Nat} (h:Below w.heap.size w w') (hlo:lo≤w.heap.size) (hb:b<w.heap.size):Kept w w' lo b o :=
 ⟨h.os,h.tape,h.output,h.size,fun k hk _=>h.block k (by omega),fun _ _ _ _ hs=>hs.same (h.block b hb),fun _ cur hc=>⟨cur,by rw[h.block b hb];exact hc,rfl⟩⟩
theorem Seg.F6 {w:World} {b:Nat} {T:TypeId} {p:Nat} {xs:List Value} (h:Seg w b T p xs) (q:Nat) (v:Value) (hq:q<p∨p+xs.length≤q):Seg (w.setCell ⟨b,q,none⟩ v) b T p xs:=by
 obtain⟨cur,hb,hs,ht⟩:=h
 refine⟨cur.setIfInBounds q v,heap_setCell_same w b q cur T v hb,by simpa using hs,?_⟩
 rw[Array.toList_setIfInBounds,List.drop_set]
 by_cases hqp:q<p
 ·rw[if_pos hqp,ht]
 ·rw[if_neg hqp,List.take_set,ht,List.set_eq_of_length_le (by omega)]
theorem Kept.setCell {w w':World} {lo b o:Nat} (h:Kept w w' lo b o) (j:Nat) (hj:j<8) (v:Value):Kept w (w'.setCell ⟨b,o+j,none⟩ v) lo b o :=
 ⟨h.os,h.tape,h.output,by simpa[World.setCell] using h.size,fun k hk hkb=>(Below.heap_setCell _ _ _ _ hkb).trans (h.block k hk hkb),fun T p xs hp hs=>(h.seg T p xs hp hs).F6 _ _ (by omega),fun T cur hc=>by
  obtain⟨c',h1,h2⟩:=h.len T cur hc
  exact⟨_,heap_setCell_same w' b (o+j) c' T v h1,by simpa using h2⟩⟩
theorem Kept.grown {w w1 w2:World} {lo b o:Nat} {row:Option Nat} (h:Kept w w1 lo b o) (hg:w1.grownBy w2 row) (hr:∀ k,row=some k→lo≤k) (hb:b<lo) (hlo:lo≤w1.heap.size):Kept w w2 lo b o :=
 ⟨hg.os.trans h.os,hg.tape.trans h.tape,hg.output.trans h.output,Nat.le_trans h.size hg.size,
  fun k hk hkb=>(hg.block k (by omega) (fun e=>by have:=hr k e.symm;omega)).trans (h.block k hk hkb),
  fun T p xs hp hs=>(h.seg T p xs hp hs).same (hg.block b (by omega) (fun e=>by have:=hr b e.symm;omega)),fun T cur hc=>by
  obtain⟨c',h1,h2⟩:=h.len T cur hc
  exact⟨c',by rw[hg.block b (by omega) (fun e=>by have:=hr b e.symm;omega)];exact h1,h2⟩⟩
theorem Kept.alloc {w w1:World} {lo b o:Nat} (h:Kept w w1 lo b o) (hb:b<lo) (hlo:lo≤w1.heap.size) (ob:Obj):Kept w (w1.alloc ob) lo b o :=
 h.grown (World.grownBy_alloc w1 ob none) (fun _ e=>by cases e) hb hlo
theorem Kept.drew {w w1:World} {lo b o:Nat} (h:Kept w w1 lo b o):Kept w w1.drew lo b o:=⟨h.os,h.tape,h.output,h.size,h.block,h.seg,h.len⟩
theorem fO.o9 {w:World} {lo b o:Nat} {x:IV} {ys:List Value} (h:fO w lo x) (hs:Seg w b 88 o ys) (q:Nat) (v:Value):fO (w.setCell ⟨b,q,none⟩ v) lo x :=
 have k:∀ {e:TypeId} {size n:Nat} {v':Value} {xs:List Value},e ≠ 88 → w.ownsRow lo e size v' n xs→(w.setCell ⟨b,q,none⟩ v).ownsRow lo e size v' n xs :=
  fun he ho=>au ho (fun g hg=>Below.heap_setCell _ _ _ _ (gK ho hs he hg))
 {f:=k (by decide) h.f,n:=k (by decide) h.n,na:=k (by decide) h.na,b:=k (by decide) h.b,ba:=k (by decide) h.ba,zf:=h.zf,zn:=h.zn,yj:=h.yj,zb:=h.zb,yu:=h.yu }
theorem Ko {w w3:World} {lo b o:Nat} {x:IV} {c0 c1 c2:Value} {T:TypeId} (hn:fO w lo x) (hs:Seg w b 88 o (bJ x)) (hb:Below (w.alloc (.cells #[c0,c1,c2] T)).heap.size (w.alloc (.cells #[c0,c1,c2] T)) w3) :
  Below w.heap.size w w3∧fO w3 lo x∧Seg w3 b 88 o (bJ x)∧w3.cell? ⟨w.heap.size,0,none⟩=some c0∧w3.cell? ⟨w.heap.size,1,none⟩=some c1∧w.heap.size<w3.heap.size:=by
 have h1:Below w.heap.size w (w.alloc (.cells #[c0,c1,c2] T)):=(Below.refl _ _).alloc (Nat.le_refl _) _
 have h2:Below w.heap.size w w3:=h1.trans (hb.mono (by simp))
 have hs1:w.heap.size<(w.alloc (.cells #[c0,c1,c2] T)).heap.size:=by simp
 refine⟨h2,hn.same h2.block,hs.same (h2.block b hs.lt),?_,?_,Nat.lt_of_lt_of_le hs1 hb.size⟩
 ·rw[hb.cell hs1];simp
 ·rw[hb.cell hs1];simp
theorem Tryz.infoField:(Tryz.prog.info? 95).map (fun i=>(i.zero,i.size,i.bytes))=some (some (.agg #[.int .i64 0,.string ⟨#[]⟩,.string ⟨#[]⟩,.string ⟨#[]⟩,.int .i64 0,.int .i64 0,.int .i64 0]),7,80):=by kernel_rfl
theorem Tryz.infoStr:(Tryz.prog.info? 9).map (fun i=>(i.zero,i.size,i.bytes))=some (some (.string ⟨#[]⟩),1,16):=by kernel_rfl
theorem Tryz.infoInt:(Tryz.prog.info? 3).map (fun i=>(i.zero,i.size,i.bytes))=some (some (.int .i64 0),1,8):=by kernel_rfl
theorem pV (w:World) (arr:Array Value) (t:TypeId) (j:Nat) (u:Value) (h:arr.toList[j]? = some u):(w.alloc (.cells arr t)).cell? ((⟨w.heap.size,0,none⟩:Addr).add j)=some u:=by
 have:(w.alloc (.cells arr t)).heap[w.heap.size]? = some (.cells arr t (0,0)):=heap_alloc_new w _
 have e:(⟨w.heap.size,0,none⟩:Addr).add j=⟨w.heap.size,0+j,none⟩:=Addr.add_lit _ _ _
 rw[e]
 simp only[World.cell?,this]
 simpa using h
theorem dh (w:World) (H:Nat) (hH:w.heap.size=H) (arr:Array Value) (t:TypeId) (j:Nat) (u:Value) (h:arr.toList[j]? = some u):(w.alloc (.cells arr t)).cell? ((⟨H,0,none⟩:Addr).add j)=some u:=by
 subst hH;exact pV w arr t j u h
theorem acf {w3 w4:World} {lo b o p:Nat} {x:IV} {c0 c1:Value} (hn:fO w3 lo x) (hs:Seg w3 b 88 o (bJ x)) (hb:Below w3.heap.size w3 w4) (hp:p<w3.heap.size)
  (d0:w3.cell? ⟨p,0,none⟩=some c0) (d1:w3.cell? ⟨p,1,none⟩=some c1) :
  fO w4 lo x∧Seg w4 b 88 o (bJ x)∧w4.cell? ⟨p,0,none⟩=some c0∧w4.cell? ⟨p,1,none⟩=some c1∧p<w4.heap.size :=
 ⟨hn.same hb.block,hs.same (hb.block b hs.lt),by rw[hb.cell hp];exact d0,by rw[hb.cell hp];exact d1,Nat.lt_of_lt_of_le hp hb.size⟩
theorem lN {w4:World} {a:Addr} {v:Value} (h:w4.cell? a=some v) (hb:a.block<w4.heap.size):∀ ob,(w4.alloc ob).cell? a=some v:=fun ob=>
 (((Below.refl w4.heap.size w4).alloc (Nat.le_refl _) ob).cell hb).trans h
theorem uI {w4 w5:World} {ob:Obj} {row:Option Nat} (hg:((w4.alloc ob).drew).grownBy w5 row) {k:Nat} (hk:k<w4.heap.size) (hne:some k≠row):w5.heap[k]? = w4.heap[k]? :=
 (hg.block k (by show k<(w4.alloc ob).heap.size;simp;omega) hne).trans (Below.heap_alloc w4 ob k hk)
theorem rP {w4 w5:World} {ob:Obj} {v:Value} {lo b o:Nat} {T e:TypeId} {size n:Nat} {xs ys:List Value} (hs:Seg w4 b T o xs) (ho:w4.ownsRow lo e size v n ys) (hg:((w4.alloc ob).drew).grownBy w5 v.ownBlock) (hb:b<lo):Seg w5 b T o xs :=
 hs.same (uI hg hs.lt (fun he=>by have:=(ho.lt b he.symm).1;omega))
theorem fK {w4 w5:World} {ob:Obj} {v v2:Value} {lo:Nat} {e e2:TypeId} {size size2 n n2:Nat} {xs xs2:List Value} (ho:w4.ownsRow lo e size v n xs) (ho2:w4.ownsRow lo e2 size2 v2 n2 xs2) (he:e2≠e) (hg:((w4.alloc ob).drew).grownBy w5 v.ownBlock):w5.ownsRow lo e2 size2 v2 n2 xs2 :=
 au ho2 (fun g hg2=>uI hg (ho2.lt g hg2).2 (fun hh=>own_ne ho2 ho he hg2 hh.symm rfl))
theorem vO {w5:World} {lo:Nat} {e2:TypeId} {size2 n2:Nat} {v2:Value} {w4:World} {xs2:List Value} (ho2:w4.ownsRow lo e2 size2 v2 n2 xs2) (hz:v2=.slice none 0 0):w5.ownsRow lo e2 size2 v2 n2 xs2 :=
 au ho2 (fun g hg2=>by rw[hz] at hg2;cases hg2)
theorem ql {w w4 w5:World} {ob:Obj} {v:Value} {lo b o:Nat} {e:TypeId} {size n:Nat} {ys:List Value} (h:Kept w w4 lo b o) (ho:w4.ownsRow lo e size v n ys) (hg:((w4.alloc ob).drew).grownBy w5 v.ownBlock) (hb:b<lo) (hlo:lo≤w4.heap.size):Kept w w5 lo b o :=
 ((h.alloc hb hlo ob).drew).grown hg (fun k hk=>(ho.lt k hk).1) hb (by show lo≤(w4.alloc ob).heap.size;simp;omega)
theorem Kq {w4 w5:World} {ob:Obj} {row:Option Nat} (hg:((w4.alloc ob).drew).grownBy w5 row):w4.heap.size≤w5.heap.size:=by
 have:=hg.size
 have h2:((w4.alloc ob).drew).heap.size=w4.heap.size+1:=by show (w4.alloc ob).heap.size=_;simp
 omega
theorem fO.Rn {w4 w5:World} {ob:Obj} {lo:Nat} {it:bI} {vf vn jA vb jB v':Value} {f:aZ} (h:fO w4 lo ⟨it,vf,vn,jA,vb,jB⟩)
  (ho:w5.ownsRow lo 95 7 v' (it.fields.length+1) (it.fields.flatMap aP++aP f)) (hg:((w4.alloc ob).drew).grownBy w5 vf.ownBlock) :
  fO w5 lo ⟨{ it with fields:=it.fields++[f] },v',vn,jA,vb,jB⟩ :=
 {f:=by simpa using ho,n:=fK h.f h.n (by decide) hg,na:=fK h.f h.na (by decide) hg,b:=fK h.f h.b (by decide) hg,ba:=fK h.f h.ba (by decide) hg,
  zf:=fun hh=>by simp at hh,zn:=h.zn,yj:=h.yj,zb:=h.zb,yu:=h.yu }
theorem yw (l:List aZ):(l.flatMap aP).length=l.length*7:=by
 induction l with
 | nil=>rfl
 | cons a r ih=>rw[List.flatMap_cons,List.length_append,ih];simp[aP];omega
theorem gy (f:aZ→aZ) (l:List aZ) (a:aZ):setLast f (l++[a])=l++[f a]:=by simp[setLast]
structure F7 (w:World) (lo:Nat) (g cp nf:Nat) (xs:List Value) (it:bI) (vn jA vb jB:Value):Prop where
 f:w.ownsRow lo 95 7 (.slice (some ⟨g,0,none⟩) nf cp) nf xs
 n:w.ownsRow lo 9 1 vn it.names.length (it.names.map aY)
 na:w.ownsRow lo 3 1 jA it.aQ.length (it.aQ.map eX)
 b:w.ownsRow lo 9 1 vb it.bases.length (it.bases.map aY)
 ba:w.ownsRow lo 3 1 jB it.aV.length (it.aV.map eX)
 zn:it.names=[]→vn=.slice none 0 0
 yj:it.aQ=[]→jA=.slice none 0 0
 zb:it.bases=[]→vb=.slice none 0 0
 yu:it.aV=[]→jB=.slice none 0 0
theorem F7.store {w:World} {lo g cp nf:Nat} {xs:List Value} {it:bI} {vn jA vb jB:Value} (h:F7 w lo g cp nf xs it vn jA vb jB) (q:Nat) (v:Value):F7 (w.setCell ⟨g,q,none⟩ v) lo g cp nf (xs.set q v) it vn jA vb jB :=
 have k:∀ {e:TypeId} {size n:Nat} {v':Value} {ys:List Value},e ≠ 95 → w.ownsRow lo e size v' n ys→(w.setCell ⟨g,q,none⟩ v).ownsRow lo e size v' n ys :=
  fun he ho=>au ho (fun g' hg=>Below.heap_setCell _ _ _ _ (own_ne ho h.f he hg rfl))
 {f:=(h.f.stored q v).1,n:=k (by decide) h.n,na:=k (by decide) h.na,b:=k (by decide) h.b,ba:=k (by decide) h.ba,zn:=h.zn,yj:=h.yj,zb:=h.zb,yu:=h.yu }
theorem iZ (l:List aZ) (ys:List Value) (j:Nat) (v:Value):(l.flatMap aP++ys).set (l.length*7+j) v=l.flatMap aP++ys.set j v:=by
 rw[List.set_append,if_neg (by rw[yw];omega),yw,show l.length*7+j-l.length*7=j from by omega]
theorem lZ {w:World} {lo:Nat} {x:IV} {g cp n:Nat} {l:List aZ} {a:aZ} (h:fO w lo x) (hf:x.it.fields=l++[a]) (hn:n=x.it.fields.length) (hv:x.vf=.slice (some ⟨g,0,none⟩) n cp) (j:Nat) (v:Value) (hj:(aP a)[j]? = some v):w.cell? ⟨g,l.length*7+j,none⟩=some v:=by
 have hlt:j<7:=by
  rcases Nat.lt_or_ge j 7 with h | h
  ·exact h
  ·rw[List.getElem?_eq_none (by simpa[aP] using h)] at hj;cases hj
 have ho:=h.f
 rw[hv,← hn] at ho
 have hl:n=l.length+1:=by rw[hn,hf];simp
 rw[ho.cellAt _ (by omega),hf,List.flatMap_append,List.flatMap_cons,List.flatMap_nil,List.append_nil,List.getElem?_append_right (by rw[yw];omega),yw,show l.length*7+j-l.length*7=j from by omega]
 exact hj
theorem fO.toX {w:World} {lo g cp n:Nat} {it:bI} {vn jA vb jB:Value} {l:List aZ} {a:aZ} (h:fO w lo ⟨it,.slice (some ⟨g,0,none⟩) n cp,vn,jA,vb,jB⟩) (hf:it.fields=l++[a]) (hn:n=l.length+1) :
  F7 w lo g cp n (l.flatMap aP++aP a) it vn jA vb jB:=by
 have ho:=h.f
 simp only[hf] at ho
 refine⟨?_,h.n,h.na,h.b,h.ba,h.zn,h.yj,h.zb,h.yu⟩
 subst hn
 simpa using ho
theorem F7.CW {w:World} {lo g cp n:Nat} {it:bI} {vn jA vb jB:Value} {l:List aZ} {a:aZ} {xs:List Value} (h:F7 w lo g cp n xs it vn jA vb jB) (hx:xs=l.flatMap aP++aP a) (hn:n=l.length+1) :
  fO w lo ⟨{ it with fields:=l++[a] },.slice (some ⟨g,0,none⟩) n cp,vn,jA,vb,jB⟩:=by
 subst hx hn
 exact { f:=by simpa using h.f,n:=h.n,na:=h.na,b:=h.b,ba:=h.ba,zf:=fun hh=>by simp at hh,zn:=h.zn,yj:=h.yj,zb:=h.zb,yu:=h.yu }
theorem Kept.qL {w w':World} {lo b o:Nat} (h:Kept w w' lo b o) {g:Nat} (hg:lo≤g) (hb:b<lo) (q:Nat) (v:Value):Kept w (w'.setCell ⟨g,q,none⟩ v) lo b o :=
 ⟨h.os,h.tape,h.output,by simpa[World.setCell] using h.size,fun k hk hkb=>(Below.heap_setCell _ _ _ _ (by show k≠g;omega)).trans (h.block k hk hkb),fun T p xs hp hs=>(h.seg T p xs hp hs).same (Below.heap_setCell _ _ _ _ (by show b≠g;omega)),fun T cur hc=>by
  obtain⟨c',h1,h2⟩:=h.len T cur hc
  exact⟨c',by rw[Below.heap_setCell _ _ _ _ (by show b≠g;omega)];exact h1,h2⟩⟩
theorem Seg.uJ {w:World} {b o:Nat} {T:TypeId} {xs:List Value} (h:Seg w b T o xs) {g:Nat} (hg:b≠g) (q:Nat) (v:Value):Seg (w.setCell ⟨g,q,none⟩ v) b T o xs:=h.same (Below.heap_setCell _ _ _ _ hg)
theorem fO.drew {w:World} {lo:Nat} {x:IV} (h:fO w lo x):fO w.drew lo x:=h.same (fun _ _=>rfl)
theorem CX {w4 w5:World} {ob:Obj} {row:Option Nat} (hg:((w4.alloc ob).drew).grownBy w5 row) {a:Addr} {v:Value} (h:w4.cell? a=some v) (hk:a.block<w4.heap.size) (hne:some a.block≠row):w5.cell? a=some v :=
 (World.cell?_of_block (w:=w4) (uI hg hk hne)).trans h
theorem fO.UJ {w4 w5:World} {ob:Obj} {lo:Nat} {it:bI} {vf vn jA vb jB v':Value} {t:ByteArray} (h:fO w4 lo ⟨it,vf,vn,jA,vb,jB⟩) (hz:it.bases=[])
  (ho:w5.ownsRow lo 9 1 v' (it.names.length+1) (it.names.map aY++[aY t])) (hg:((w4.alloc ob).drew).grownBy w5 vn.ownBlock) :
  fO w5 lo ⟨{ it with names:=it.names++[t] },vf,v',jA,vb,jB⟩ :=
 {n:=by simpa using ho,f:=fK h.n h.f (by decide) hg,na:=fK h.n h.na (by decide) hg,b:=vO h.b (h.zb hz),ba:=fK h.n h.ba (by decide) hg,
  zn:=fun hh=>by simp at hh,zf:=h.zf,yj:=h.yj,zb:=h.zb,yu:=h.yu }
theorem fO.NV {w4 w5:World} {ob:Obj} {lo:Nat} {it:bI} {vf vn jA vb jB v':Value} {t:Nat} (h:fO w4 lo ⟨it,vf,vn,jA,vb,jB⟩) (hz:it.aV=[])
  (ho:w5.ownsRow lo 3 1 v' (it.aQ.length+1) (it.aQ.map eX++[eX t])) (hg:((w4.alloc ob).drew).grownBy w5 jA.ownBlock) :
  fO w5 lo ⟨{ it with aQ:=it.aQ++[t] },vf,vn,v',vb,jB⟩ :=
 {na:=by simpa using ho,f:=fK h.na h.f (by decide) hg,n:=fK h.na h.n (by decide) hg,b:=fK h.na h.b (by decide) hg,ba:=vO h.ba (h.yu hz),
  yj:=fun hh=>by simp at hh,zf:=h.zf,zn:=h.zn,zb:=h.zb,yu:=h.yu }
theorem fO.UK {w4 w5:World} {ob:Obj} {lo:Nat} {it:bI} {vf vn jA vb jB v':Value} {t:ByteArray} (h:fO w4 lo ⟨it,vf,vn,jA,vb,jB⟩) (hz:it.names=[])
  (ho:w5.ownsRow lo 9 1 v' (it.bases.length+1) (it.bases.map aY++[aY t])) (hg:((w4.alloc ob).drew).grownBy w5 vb.ownBlock) :
  fO w5 lo ⟨{ it with bases:=it.bases++[t] },vf,vn,jA,v',jB⟩ :=
 {b:=by simpa using ho,f:=fK h.b h.f (by decide) hg,na:=fK h.b h.na (by decide) hg,n:=vO h.n (h.zn hz),ba:=fK h.b h.ba (by decide) hg,
  zb:=fun hh=>by simp at hh,zf:=h.zf,yj:=h.yj,zn:=h.zn,yu:=h.yu }
theorem fO.NW {w4 w5:World} {ob:Obj} {lo:Nat} {it:bI} {vf vn jA vb jB v':Value} {t:Nat} (h:fO w4 lo ⟨it,vf,vn,jA,vb,jB⟩) (hz:it.aQ=[])
  (ho:w5.ownsRow lo 3 1 v' (it.aV.length+1) (it.aV.map eX++[eX t])) (hg:((w4.alloc ob).drew).grownBy w5 jB.ownBlock) :
  fO w5 lo ⟨{ it with aV:=it.aV++[t] },vf,vn,jA,vb,v'⟩ :=
 {ba:=by simpa using ho,f:=fK h.ba h.f (by decide) hg,n:=fK h.ba h.n (by decide) hg,b:=fK h.ba h.b (by decide) hg,na:=vO h.na (h.yj hz),
  yu:=fun hh=>by simp at hh,zf:=h.zf,zn:=h.zn,yj:=h.yj,zb:=h.zb }
end Go.Proofs.YtgalebcpagmohaaGreatDoor
