/- find, isType, within of package courierref: over items as they lie in memory. -/
import Derived.Test.YtgalebcpagmohaaGreatDoorMKept
set_option maxHeartbeats 1000000
set_option maxRecDepth 100000
namespace Go.Proofs.YtgalebcpagmohaaGreatDoor
open Go.Proofs.Tryz
open Go.RowKit
structure Its (w:World) (lo:Nat) (lv:Value) (X:List IV):Prop where
 own:w.ownsRow lo 88 8 lv X.length (X.flatMap bJ)
 nest:∀ x∈X,fO w lo x
theorem Its.same {w w':World} {lo:Nat} {lv:Value} {X:List IV} (h:Its w lo lv X) (hb:Below w.heap.size w w'):Its w' lo lv X :=
 ⟨au h.own (fun g hg=>hb.block g (h.own.lt g hg).2),fun x hx=>(h.nest x hx).same hb.block⟩
theorem lS (l:List IV):(l.flatMap bJ).length=l.length*8:=by
 induction l with
 | nil=>rfl
 | cons a r ih=>rw[List.flatMap_cons,List.length_append,ih];simp[bJ];omega
theorem F9 (l:List IV) (k:Nat) (x:IV) (h:l[k]? = some x):((l.flatMap bJ).drop (k*8)).take 8=bJ x:=by
 induction l generalizing k with
 | nil=>simp at h
 | cons a r ih=>
  rw[List.flatMap_cons]
  cases k with
  | zero=>simp at h;subst h;simp[bJ]
  | succ k=>
   simp at h
   rw[List.drop_append,List.drop_eq_nil_of_le (by simp[bJ];omega),List.nil_append,show (k+1)*8-(bJ a).length=k*8 from by simp[bJ];omega]
   exact ih k h
theorem dM {w:World} {lo:Nat} {e:TypeId} {size n:Nat} {v:Value} {xs:List Value} (h:w.ownsRow lo e size v n xs) (hn:0<n):∃ g cap,v=.slice (some ⟨g,0,none⟩) n cap∧lo≤g∧g<w.heap.size:=h.form hn
theorem qM {w:World} {lo:Nat} {e:TypeId} {size n g cap:Nat} {xs:List Value} (h:w.ownsRow lo e size (.slice (some ⟨g,0,none⟩) n cap) n xs):Seg w g e 0 xs:=by
 rcases h.2 with⟨h',_⟩ | ⟨g',cap',cur,h',_,hg,hn,_,hcs,htake⟩
 ·simp at h'
 ·simp only[Value.slice.injEq,Option.some.injEq,Addr.mk.injEq,and_true,true_and] at h'
  obtain⟨rfl,rfl⟩:=h'
  refine⟨cur,hg,by rw[h.1,hcs];simp;exact Nat.mul_le_mul_right _ hn,?_⟩
  rw[h.1];simpa using htake
theorem Seg.part {w:World} {b:Nat} {T:TypeId} {o:Nat} {xs:List Value} (h:Seg w b T o xs) (p n:Nat) (ys:List Value) (hy:(xs.drop p).take n=ys) (hn:ys.length=n) (h0:0<n):Seg w b T (o+p) ys:=by
 obtain⟨cur,hb,hs,ht⟩:=h
 have hl:n≤xs.length-p:=by
  rw[← hn,← hy,List.length_take,List.length_drop];omega
 refine⟨cur,hb,by omega,?_⟩
 rw[hn,← hy,← ht,List.drop_take,List.drop_drop,List.take_take,Nat.min_eq_left (by omega)]
theorem Its.seg {w:World} {lo:Nat} {g cap:Nat} {X:List IV} (h:Its w lo (.slice (some ⟨g,0,none⟩) X.length cap) X) {k:Nat} {x:IV} (hk:X[k]? = some x):Seg w g 88 (k*8) (bJ x):=by
 have:=(qM h.own).part (k*8) 8 (bJ x) (F9 X k x hk) rfl (by omega)
 simpa using this
def kE (name:List UInt8) (it:bI):Bool:=dQ it.kind.toList&&it.name.toList==name
def jm (L:List IV) (name:List UInt8):Int:=match L.findIdx? (fun x=>kE name x.it) with | some i=>i | none=>-1
theorem Rw {L:List IV} {name:List UInt8} {k:Nat} {x:IV} (hk:L[k]? = some x) (hm:kE name x.it=true) (hall:∀ j y,j<k→L[j]? = some y→kE name y.it=false):jm L name=k:=by
 have hlt:k<L.length:=by
  rcases Nat.lt_or_ge k L.length with h | h
  ·exact h
  ·rw[List.getElem?_eq_none h] at hk;cases hk
 have e:L[k]=x:=by rw[List.getElem?_eq_getElem hlt] at hk;simpa using hk
 unfold jm
 have:L.findIdx? (fun x=>kE name x.it)=some k:=by
  rw[List.findIdx?_eq_some_iff_getElem]
  refine⟨hlt,by rw[e];exact hm,fun j hj=>?_⟩
  have:=hall j L[j] hj (List.getElem?_eq_getElem (by omega))
  simp[this]
 rw[this]
theorem N7 {L:List IV} {name:List UInt8} (hall:∀ j y,j<L.length→L[j]? = some y→kE name y.it=false):jm L name = -1:=by
 unfold jm
 have:L.findIdx? (fun x=>kE name x.it)=none:=by
  rw[List.findIdx?_eq_none_iff]
  intro x hx
  obtain⟨j,hj,rfl⟩:=List.getElem_of_mem hx
  exact hall j _ hj (List.getElem?_eq_getElem hj)
 rw[this]
theorem Df (w:World) (lo:Nat) (lv:Value) (X:List IV) (name:ByteArray) (h:Its w lo lv X) (hX:X.length≤400) :
  Calls Tryz.prog 63 #[lv,.string name] w fun e w'=>e=.returned (.int .i64 (jm X name.toList))∧Below w.heap.size w w':=by
 obtain⟨la,lc,hlv⟩:∃ a c,lv=.slice a X.length c:=ak h.own
 subst hlv
 have H:=hid h
 clear h
 go_enter func63,ntmps63
 go_wp2_with fail
 go_loopg [5,6] X.length (fun gk i t wr=>∃ k:Nat,k+gk=X.length∧i=.int .i64 k∧Hid (∀ j y,j<k→X[j]? = some y→kE name.toList y.it=false)∧Below w.heap.size w wr)
 case atStart=>exact⟨0,by omega,rfl,hid (fun j y hj=>by omega),Below.refl _ _⟩
 case round=>
  obtain⟨k,hk,rfl,HA,hbel⟩:=hrel
  by_cases hlt:k<X.length
  ·obtain⟨x,hx⟩:∃ x,X[k]? = some x:=⟨X[k],List.getElem?_eq_getElem hlt⟩
   obtain⟨g,cap,hv,hgl,hgs⟩:=dM H.out.own (by omega)
   obtain⟨rfl,rfl⟩:la=some ⟨g,0,none⟩∧lc=cap:=by simpa using hv
   have hs:=(H.out.same hbel).seg hx
   have HX:=hid hx
   clear hx hv
   obtain⟨it,vf,vn,jA,vb,jB⟩:=x
   have c0:wr.cell? ⟨g,k*8,none⟩=some (.string it.kind):=hs.cell (j:=0) rfl
   have c1:wr.cell? ⟨g,k*8+1,none⟩=some (.string it.name):=hs.cell (j:=1) rfl
   have c2:wr.cell? ⟨g,k*8+2,none⟩=some (.int .i64 it.nameAt):=hs.cell (j:=2) rfl
   have c3:wr.cell? ⟨g,k*8+3,none⟩=some vf:=hs.cell (j:=3) rfl
   have c4:wr.cell? ⟨g,k*8+4,none⟩=some vn:=hs.cell (j:=4) rfl
   have c5:wr.cell? ⟨g,k*8+5,none⟩=some jA:=hs.cell (j:=5) rfl
   have c6:wr.cell? ⟨g,k*8+6,none⟩=some vb:=hs.cell (j:=6) rfl
   have c7:wr.cell? ⟨g,k*8+7,none⟩=some jB:=hs.cell (j:=7) rfl
   have HS:=hid hs
   clear hs
   go_wp2_with fail
   refine(zy _ _ _ _ _ _ _ _ _).mono ?_;rintro e w1 ⟨rfl,hb1⟩
   have hb2:=hbel.trans (hb1.mono hbel.size)
   have c1':w1.cell? ⟨g,k*8+1,none⟩=some (.string it.name):=by rw[hb1.cell HS.out.lt];exact c1
   clear c0 c1 c2 c3 c4 c5 c6 c7 hb1
   cases hty:dQ it.kind.toList with
   | false=>
    go_wp2_with fail
    go_roundg (gk-1)
    case rel=>exact⟨k+1,by omega,by go_num,hid (fun j y hj hy=>by
     rcases Nat.lt_or_ge j k with h | h
     ·exact HA.out j y h hy
     ·rw[show j=k from by omega,HX.out] at hy;simp at hy;subst hy;simp[kE,hty]),hb2⟩
    case measure=>omega
   | true=>
    cases hnm:(it.name.toList==name.toList) with
    | false=>
     go_wp2_with fail
     go_roundg (gk-1)
     case rel=>exact⟨k+1,by omega,by go_num,hid (fun j y hj hy=>by
      rcases Nat.lt_or_ge j k with h | h
      ·exact HA.out j y h hy
      ·rw[show j=k from by omega,HX.out] at hy;simp at hy;subst hy;simp only[kE,hty,hnm];rfl),hb2⟩
     case measure=>omega
    | true=>
     have HF:=hid (Rw HX.out (by simp only[kE,hty,hnm];rfl) HA.out)
     go_wp2_with fail
     go_ret
     exact⟨o8 HF.out.symm,hb2⟩
  ·go_wp2_with fail
   go_ret
   exact⟨o8 (N7 (fun j y hj=>HA.out j y (by omega))).symm,hbel⟩
def jS (L:List IV) (base:List UInt8):Bool:=jl base||decide (0≤jm L base)
theorem xg (w:World) (lo:Nat) (lv:Value) (X:List IV) (base:ByteArray) (h:Its w lo lv X) (hX:X.length≤400) :
  Calls Tryz.prog 25 #[lv,.string base] w fun e w'=>e=.returned (.bool (jS X base.toList))∧Below w.heap.size w w':=by
 unfold jS jl
 have H:=hid h
 clear h
 cases h1:(base.toList==[105,110,116])
 ·cases h2:(base.toList==[98,111,111,108])
  ·cases h3:(base.toList==[116,101,120,116])
   ·go_enter func25,ntmps25
    go_wp2_with fail
    refine(Df _ _ _ _ _ H.out hX).mono ?_;rintro e w1 ⟨rfl,hb1⟩
    go_wp2_with fail
    go_ret
    exact⟨aG (by simp),hb1⟩
   ·go_enter func25,ntmps25
    go_wp2_with fail
    go_ret
    exact⟨aG (by simp),Below.refl _ _⟩
  ·go_enter func25,ntmps25
   go_wp2_with fail
   go_ret
   exact⟨aG (by simp),Below.refl _ _⟩
 ·go_enter func25,ntmps25
  go_wp2_with fail
  go_ret
  exact⟨aG (by simp),Below.refl _ _⟩
theorem N8 (w:World) (lo:Nat) (lv:Value) (X:List ByteArray) (name:ByteArray) (h:w.ownsRow lo 9 1 lv X.length (X.map aY)) (hX:X.length≤100000) :
  Calls Tryz.prog 64 #[lv,.string name] w fun e w'=>e=.returned (.bool (X.any (fun s=>s.toList==name.toList)))∧w'=w:=by
 obtain⟨la,lc,hlv⟩:∃ a c,lv=.slice a X.length c:=ak h
 subst hlv
 have H:=hid h
 clear h
 go_enter func64,ntmps64
 go_wp2_with fail
 go_loopg [5] X.length (fun gk i wr=>∃ k:Nat,k+gk=X.length∧i=.int .i64 k∧Hid (∀ j y,j<k→X[j]? = some y→(y.toList==name.toList)=false)∧wr=w)
 case atStart=>exact⟨0,by omega,rfl,hid (fun j y hj=>by omega),rfl⟩
 case round=>
  obtain⟨k,hk,rfl,HA,rfl⟩:=hrel
  by_cases hlt:k<X.length
  ·obtain⟨x,hx⟩:∃ x,X[k]? = some x:=⟨X[k],List.getElem?_eq_getElem hlt⟩
   obtain⟨g,cap,hv,hgl,hgs⟩:=dM H.out (by omega)
   obtain⟨rfl,rfl⟩:la=some ⟨g,0,none⟩∧lc=cap:=by simpa using hv
   have c0:wr.cell? ⟨g,k,none⟩=some (.string x):=by
    rw[H.out.cellAt k (by omega),List.getElem?_map,hx];rfl
   have HX:=hid hx
   clear hx hv
   cases hnm:(x.toList==name.toList) with
   | false=>
    go_wp2_with fail
    go_roundg (gk-1)
    case rel=>exact⟨k+1,by omega,by go_num,hid (fun j y hj hy=>by
     rcases Nat.lt_or_ge j k with h | h
     ·exact HA.out j y h hy
     ·rw[show j=k from by omega,HX.out] at hy;simp at hy;subst hy;exact hnm),rfl⟩
    case measure=>omega
   | true=>
    have HR:=hid (show X.any (fun s=>s.toList==name.toList)=true from List.any_eq_true.2 ⟨x,List.mem_of_getElem? HX.out,hnm⟩)
    go_wp2_with fail
    go_ret
    exact⟨aG HR.out.symm,rfl⟩
  ·have HR:=hid (show X.any (fun s=>s.toList==name.toList)=false from List.any_eq_false.2 (fun y hy=>by
    obtain⟨j,hj,rfl⟩:=List.getElem_of_mem hy
    simp[HA.out j _ (by omega) (List.getElem?_eq_getElem hj)]))
   go_wp2_with fail
   go_ret
   exact⟨aG HR.out.symm,rfl⟩
def fG (t:ByteArray):bI:=⟨t,je,0,[],[],[],[],[]⟩
def Bj:Value:=.slice none 0 0
def rU (t:ByteArray):IV:=⟨fG t,Bj,Bj,Bj,Bj,Bj⟩
def Dh (l:List UInt8):Bool:=l==aX||l==kR||l==dV||l==iE
def nP (L:List bI) (at_:Nat) (t:Tok):Option (List bI × Nat) :=
 if t.bad=true then none
 else if at_=0 then(if Dh t.text.toList=true then some (L++[fG t.text],1) else none)
 else match L.getLast? with
  | none=>none
  | some it=>if (ay it at_ t).2=9 then none else some (L.dropLast++[(ay it at_ t).1],(ay it at_ t).2)
def pW (n:Nat):List Tok→List bI→Nat→Option (List bI) × Int
 | [],L,a=>if a=0 then(some L,-1) else(none,(n:Int))
 | t::r,L,a=>match nP L a t with | none=>(none,(t.at_:Int)) | some p=>pW n r p.1 p.2
structure yD (it:bI) (k:Nat):Prop where
 na:it.aQ.length=it.names.length
 ba:it.aV.length=it.bases.length
 n:it.names.length≤k
 b:it.bases.length≤k
 f:it.fields.length≤k
structure Di (it:bI) (at_:Nat):Prop where
 lo:1≤at_
 hi:at_≤8
 none:at_=1∨at_=2→it.fields=[]∧it.names=[]∧it.aQ=[]∧it.bases=[]∧it.aV=[]
 fld:at_=4∨at_=5∨at_=6→it.fields≠[]
 mem:at_=7→it.bases=[]∧it.aV=[]
 last:at_=8→it.names=[]∧it.aQ=[]
theorem yD.mono {it:bI} {k k':Nat} (h:yD it k) (hk:k≤k'):yD it k':=⟨h.na,h.ba,Nat.le_trans h.n hk,Nat.le_trans h.b hk,Nat.le_trans h.f hk⟩
theorem fH (f:aZ→aZ) (l:List aZ) (h:l≠[]):(setLast f l).length=l.length:=by
 obtain⟨a,b,rfl⟩:∃ a b,l=a++[b]:=⟨l.dropLast,l.getLast h,(List.dropLast_concat_getLast h).symm⟩
 rw[gy];simp
theorem Dj (f:aZ→aZ) (l:List aZ) (h:l≠[]):setLast f l≠[]:=by
 intro e;have:=fH f l h;rw[e] at this;exact h (List.eq_nil_of_length_eq_zero this.symm)
theorem ZX {it:bI} {at_ k:Nat} (h:yD it k) (hl:Di it at_) (hk:k≤400):Fit it at_ :=
 ⟨hl.lo,hl.hi,Nat.le_trans h.f hk,Nat.le_trans h.n hk,by have:=h.na;have:=h.n;omega,Nat.le_trans h.b hk,by have:=h.ba;have:=h.b;omega,hl.fld,hl.mem,hl.last⟩
theorem step_ok {it:bI} {at_ k:Nat} {t:Tok} (h:yD it k) (hl:Di it at_) :
  yD (ay it at_ t).1 (k+1)∧(ay it at_ t).1.fields.length≤it.fields.length+1∧((ay it at_ t).2=9∨(ay it at_ t).2=0∨Di (ay it at_ t).1 (ay it at_ t).2):=by
 have hm:=h.mono (Nat.le_succ k)
 have h1:=hl.lo
 have h2:=hl.hi
 have hb:=h.na
 have hc:=h.ba
 have hd:=h.n
 have he:=h.b
 have hf:=h.f
 rcases(show at_=1∨at_=2∨at_=3∨at_=4∨at_=5∨at_=6∨at_=7∨at_=8 by omega) with rfl | rfl | rfl | rfl | rfl | rfl | rfl | rfl
 all_goals simp only[ay]
 ·have:=hl.none (Or.inl rfl)
  split
  ·refine⟨⟨hm.na,hm.ba,hm.n,hm.b,hm.f⟩,by simp,Or.inr (Or.inr ?_)⟩
   split
   ·exact⟨by omega,by omega,fun _=>this,fun h=>by omega,fun h=>by omega,fun h=>by omega⟩
   ·exact⟨by omega,by omega,fun h=>by omega,fun h=>by omega,fun h=>by omega,fun _=>⟨this.2.1,this.2.2.1⟩⟩
  ·exact⟨hm,by simp,Or.inl rfl⟩
 ·have:=hl.none (Or.inr rfl)
  split
  ·refine⟨hm,by simp,Or.inr (Or.inr ?_)⟩
   split
   ·exact⟨by omega,by omega,fun h=>by omega,fun h=>by omega,fun h=>by omega,fun h=>by omega⟩
   ·exact⟨by omega,by omega,fun h=>by omega,fun h=>by omega,fun _=>⟨this.2.2.2.1,this.2.2.2.2⟩,fun h=>by omega⟩
  ·exact⟨hm,by simp,Or.inl rfl⟩
 ·split
  ·exact⟨⟨hm.na,hm.ba,hm.n,hm.b,by simp;omega⟩,by simp,Or.inr (Or.inr ⟨by simp,by simp,fun h=>by simp at h,fun _=>by simp,fun h=>by simp at h,fun h=>by simp at h⟩)⟩
  ·split
   ·exact⟨hm,by simp,Or.inr (Or.inl rfl)⟩
   ·exact⟨hm,by simp,Or.inl rfl⟩
 ·have hne:=hl.fld (by omega)
  split
  ·exact⟨⟨hm.na,hm.ba,hm.n,hm.b,by rw[fH _ _ hne];omega⟩,by simp only;rw[fH _ _ hne];omega,Or.inr (Or.inr ⟨by simp,by simp,fun h=>by simp at h,fun _=>Dj _ _ hne,fun h=>by simp at h,fun h=>by simp at h⟩)⟩
  ·exact⟨hm,by simp,Or.inl rfl⟩
 ·have hne:=hl.fld (by omega)
  split
  ·exact⟨⟨hm.na,hm.ba,hm.n,hm.b,by rw[fH _ _ hne];omega⟩,by simp only;rw[fH _ _ hne];omega,Or.inr (Or.inr ⟨by simp,by simp,fun h=>by simp at h,fun _=>Dj _ _ hne,fun h=>by simp at h,fun h=>by simp at h⟩)⟩
  ·split
   ·exact⟨⟨hm.na,hm.ba,hm.n,hm.b,by rw[fH _ _ hne];omega⟩,by simp only;rw[fH _ _ hne];omega,Or.inr (Or.inr ⟨by simp,by simp,fun h=>by simp at h,fun h=>by simp at h,fun h=>by simp at h,fun h=>by simp at h⟩)⟩
   ·exact⟨hm,by simp,Or.inl rfl⟩
 ·have hne:=hl.fld (by omega)
  split
  ·exact⟨⟨hm.na,hm.ba,hm.n,hm.b,by rw[fH _ _ hne];omega⟩,by simp only;rw[fH _ _ hne];omega,Or.inr (Or.inr ⟨by simp,by simp,fun h=>by simp at h,fun h=>by simp at h,fun h=>by simp at h,fun h=>by simp at h⟩)⟩
  ·exact⟨hm,by simp,Or.inl rfl⟩
 ·have hb7:=hl.mem rfl
  split
  ·exact⟨hm,by simp,Or.inr (Or.inl rfl)⟩
  ·split
   ·exact⟨⟨by simp;omega,hm.ba,by simp;omega,hm.b,hm.f⟩,by simp,Or.inr (Or.inr ⟨by simp,by simp,fun h=>by simp at h,fun h=>by simp at h,fun _=>hb7,fun h=>by simp at h⟩)⟩
   ·exact⟨hm,by simp,Or.inl rfl⟩
 ·have hb8:=hl.last rfl
  split
  ·refine⟨⟨hm.na,by simp;omega,hm.n,by simp;omega,hm.f⟩,by simp,?_⟩
   split
   ·exact Or.inr (Or.inr ⟨by simp,by simp,fun h=>by simp at h,fun h=>by simp at h,fun h=>by simp at h,fun _=>hb8⟩)
   ·exact Or.inr (Or.inl rfl)
  ·exact⟨hm,by simp,Or.inl rfl⟩
def sU (x:IV):List Value:=[x.vf,x.vn,x.jA,x.vb,x.jB]
structure Old (w:World) (W0 hi:Nat) (x:IV):Prop where
 nest:fO w W0 x
 lt:∀ v∈sU x,∀ g,v.ownBlock=some g→g<hi
structure Mem (w:World) (W0 lo:Nat) (lv:Value) (Y last:List IV):Prop where
 own:w.ownsRow W0 88 8 lv (Y++last).length ((Y++last).flatMap bJ)
 old:∀ y∈Y,Old w W0 lo y
 cur:∀ x∈last,fO w lo x
 lb:∀ g,lv.ownBlock=some g→g<lo
 w0:W0≤lo
 sz:lo≤w.heap.size
structure P8 (w:World) (W0 hi:Nat) (tv:Value) (T:List Tok):Prop where
 own:w.ownsRow W0 84 3 tv T.length (T.flatMap fD)
 lt:∀ g,tv.ownBlock=some g→g<hi
theorem fO.keep {w w':World} {W0:Nat} {x:IV} (h:fO w W0 x) (hs:∀ e size n v xs,v∈sU x→w.ownsRow W0 e size v n xs→e ≠ 88 → w'.ownsRow W0 e size v n xs):fO w' W0 x :=
 {f:=hs _ _ _ _ _ (by simp[sU]) h.f (by decide),n:=hs _ _ _ _ _ (by simp[sU]) h.n (by decide),na:=hs _ _ _ _ _ (by simp[sU]) h.na (by decide),b:=hs _ _ _ _ _ (by simp[sU]) h.b (by decide),ba:=hs _ _ _ _ _ (by simp[sU]) h.ba (by decide),
  zf:=h.zf,zn:=h.zn,yj:=h.yj,zb:=h.zb,yu:=h.yu }
theorem Mem.below {w w':World} {W0 lo:Nat} {lv:Value} {Y last:List IV} (h:Mem w W0 lo lv Y last) (hb:Below w.heap.size w w'):Mem w' W0 lo lv Y last :=
 ⟨au h.own (fun g hg=>hb.block g (h.own.lt g hg).2),fun y hy=>⟨(h.old y hy).nest.same hb.block,(h.old y hy).lt⟩,fun x hx=>(h.cur x hx).same hb.block,h.lb,h.w0,Nat.le_trans h.sz hb.size⟩
theorem P8.below {w w':World} {W0 hi:Nat} {tv:Value} {T:List Tok} (h:P8 w W0 hi tv T) (hb:Below w.heap.size w w'):P8 w' W0 hi tv T :=
 ⟨au h.own (fun g hg=>hb.block g (h.own.lt g hg).2),h.lt⟩
theorem fO.lts {w:World} {lo:Nat} {x:IV} (h:fO w lo x):∀ v∈sU x,∀ g,v.ownBlock=some g→g<w.heap.size:=by
 intro v hv g hg
 simp only[sU,List.mem_cons,List.not_mem_nil,or_false] at hv
 rcases hv with rfl | rfl | rfl | rfl | rfl
 ·exact(h.f.lt g hg).2
 ·exact(h.n.lt g hg).2
 ·exact(h.na.lt g hg).2
 ·exact(h.b.lt g hg).2
 ·exact(h.ba.lt g hg).2
theorem fO.down {w:World} {lo lo':Nat} {x:IV} (h:fO w lo x) (hl:lo'≤lo):fO w lo' x :=
 {f:=own_base h.f hl,n:=own_base h.n hl,na:=own_base h.na hl,b:=own_base h.b hl,ba:=own_base h.ba hl,zf:=h.zf,zn:=h.zn,yj:=h.yj,zb:=h.zb,yu:=h.yu }
theorem Mem.close {w:World} {W0 lo:Nat} {lv:Value} {Y:List IV} {x:IV} (h:Mem w W0 lo lv Y [x]):Mem w W0 w.heap.size lv (Y++[x]) []:=by
 have h0:W0≤w.heap.size:=Nat.le_trans h.w0 h.sz
 refine⟨by rw[List.append_nil];exact h.own,?_,fun y hy=>by simp at hy,fun g hg=>(h.own.lt g hg).2,h0,Nat.le_refl _⟩
 intro y hy
 rcases List.mem_append.1 hy with hy | hy
 ·exact⟨(h.old y hy).nest,fun v hv g hg=>Nat.lt_of_lt_of_le ((h.old y hy).lt v hv g hg) h.sz⟩
 ·simp at hy;subst hy
  exact⟨(h.cur y (by simp)).down h.w0,(h.cur y (by simp)).lts⟩
theorem Mem.its {w:World} {W0 lo:Nat} {lv:Value} {Y:List IV} (h:Mem w W0 lo lv Y []):Its w W0 lv Y :=
 ⟨by have:=h.own;rw[List.append_nil] at this;exact this,fun y hy=>(h.old y hy).nest⟩
theorem N9 (w:World) (lo:Nat) (t:ByteArray):fO w lo (rU t) :=
 {f:=World.ownsRow_nil _ _ _ _,n:=World.ownsRow_nil _ _ _ _,na:=World.ownsRow_nil _ _ _ _,b:=World.ownsRow_nil _ _ _ _,ba:=World.ownsRow_nil _ _ _ _,
  zf:=fun _=>rfl,zn:=fun _=>rfl,yj:=fun _=>rfl,zb:=fun _=>rfl,yu:=fun _=>rfl }
theorem Mem.push {w4 w5:World} {W0 lo:Nat} {lv lv':Value} {Y:List IV} {t:ByteArray} {ob:Obj} (h:Mem w4 W0 lo lv Y [])
  (ho:w5.ownsRow W0 88 8 lv' (Y.length+1) (Y.flatMap bJ++bJ (rU t))) (hg:(w4.alloc ob).grownBy w5 lv.ownBlock):Mem w5 W0 w5.heap.size lv' Y [rU t]:=by
 have hsz:w4.heap.size≤w5.heap.size:=by have:=hg.size;simp at this;omega
 refine⟨by simpa using ho,?_,?_,fun g hg'=>(ho.lt g hg').2,by have:=h.w0;have:=h.sz;omega,Nat.le_refl _⟩
 ·intro y hy
  refine⟨(h.old y hy).nest.keep ?_,fun v hv g hg'=>by have:=(h.old y hy).lt v hv g hg';have:=h.sz;omega⟩
  intro e size n v xs hv ho' he
  refine au ho' (fun g hg'=>?_)
  have hlt:=(ho'.lt g hg').2
  have hne:some g≠lv.ownBlock:=fun hh=>by
   have hown:=h.own
   exact own_ne ho' hown he hg' hh.symm rfl
  rw[hg.block g (by simp;omega) hne]
  exact Below.heap_alloc w4 ob g hlt
 ·intro x hx
  simp at hx;subst hx
  exact N9 _ _ _
theorem P8.push {w4 w5:World} {W0 hi lo:Nat} {lv tv:Value} {Y:List IV} {T:List Tok} {ob:Obj} (h:P8 w4 W0 hi tv T) (hm:Mem w4 W0 lo lv Y []) (hg:(w4.alloc ob).grownBy w5 lv.ownBlock):P8 w5 W0 hi tv T:=by
 refine⟨au h.own (fun g hg'=>?_),h.lt⟩
 have hlt:=(h.own.lt g hg').2
 have hne:some g≠lv.ownBlock:=fun hh=>own_ne h.own hm.own (by decide) hg' hh.symm rfl
 rw[hg.block g (by simp;omega) hne]
 exact Below.heap_alloc w4 ob g hlt
theorem P8.step {w w':World} {W0 hi lo b o:Nat} {tv:Value} {T:List Tok} {xs:List Value} (h:P8 w W0 hi tv T) (hs:Seg w b 88 o xs) (hk:Kept w w' lo b o) (hl:hi≤lo):P8 w' W0 hi tv T :=
 ⟨au h.own (fun g hg=>hk.block g (by have:=h.lt g hg;omega) (gK h.own hs (by decide) hg)),h.lt⟩
theorem Mem.step {w w':World} {W0 lo b c:Nat} {Y:List IV} {x x':IV} (h:Mem w W0 lo (.slice (some ⟨b,0,none⟩) (Y.length+1) c) Y [x])
  (hs:Seg w' b 88 (Y.length*8) (bJ x')) (hn:fO w' lo x') (hk:Kept w w' lo b (Y.length*8)):Mem w' W0 lo (.slice (some ⟨b,0,none⟩) (Y.length+1) c) Y [x']:=by
 have hbl:=h.lb b rfl
 refine⟨?_,?_,fun y hy=>by simp at hy;subst hy;exact hn,h.lb,h.w0,Nat.le_trans h.sz hk.size⟩
 ·obtain⟨h1,h2⟩:=h.own
  refine⟨by rw[lS],Or.inr ?_⟩
  rcases h2 with⟨h2,_⟩ | ⟨g,cap,cur,hv,hg,hh,hn1,hn2,hcs,htk⟩
  ·simp at h2
  ·simp only[Value.slice.injEq,Option.some.injEq,Addr.mk.injEq,and_true] at hv
   obtain⟨rfl,hvn,rfl⟩:=hv
   obtain⟨cur',hc',hsz⟩:=hk.len _ _ hh
   have hlen:(Y++[x]).length=Y.length+1:=by simp
   have hlen':(Y++[x']).length=Y.length+1:=by simp
   rw[hlen] at htk hn1
   refine⟨b,c,cur',by rw[hlen'],hg,hc',by rw[hlen'];exact hn1,hn2,by rw[hsz];exact hcs,?_⟩
   have hY:Seg w b 88 0 (Y.flatMap bJ):=by
    refine⟨cur,hh,by rw[lS,hcs];omega,?_⟩
    rw[lS,List.drop_zero]
    have:=congrArg (List.take (Y.length*8)) htk
    rw[List.take_take,Nat.min_eq_left (by omega),List.flatMap_append,List.take_append_of_le_length (by rw[lS];exact Nat.le_refl _)] at this
    rw[this,List.take_of_length_le (by rw[lS];exact Nat.le_refl _)]
   obtain⟨cu,ZY,_,ht1⟩:=hk.seg _ 0 _ (Or.inl (by rw[lS];omega)) hY
   rw[hc'] at ZY
   simp only[Option.some.injEq,Obj.cells.injEq,and_true,and_self] at ZY
   subst ZY
   obtain⟨cu,ZY,_,ht2⟩:=hs
   rw[hc'] at ZY
   simp only[Option.some.injEq,Obj.cells.injEq,and_true,and_self] at ZY
   subst ZY
   rw[lS,List.drop_zero] at ht1
   rw[hlen',Nat.add_mul,Nat.one_mul,List.take_add,ht1,List.flatMap_append,List.flatMap_cons,List.flatMap_nil,List.append_nil]
   congr 1
 ·intro y hy
  refine⟨(h.old y hy).nest.keep ?_,(h.old y hy).lt⟩
  intro e size n v xs hv ho' he
  refine au ho' (fun g hg'=>hk.block g ((h.old y hy).lt v hv g hg') ?_)
  exact own_ne ho' h.own he hg' rfl
theorem Mem.seg {w:World} {W0 lo b c:Nat} {Y:List IV} {x:IV} (h:Mem w W0 lo (.slice (some ⟨b,0,none⟩) (Y.length+1) c) Y [x]):Seg w b 88 (Y.length*8) (bJ x):=by
 have ho:=h.own
 have e:(Y++[x]).length=Y.length+1:=by simp
 have ho2:w.ownsRow W0 88 8 (.slice (some ⟨b,0,none⟩) (Y++[x]).length c) (Y++[x]).length ((Y++[x]).flatMap bJ):=by rw[e];rw[e] at ho;exact ho
 have:=(qM ho2).part (Y.length*8) 8 (bJ x) (F9 _ _ _ (by simp)) rfl (by omega)
 simpa using this
end Go.Proofs.YtgalebcpagmohaaGreatDoor
