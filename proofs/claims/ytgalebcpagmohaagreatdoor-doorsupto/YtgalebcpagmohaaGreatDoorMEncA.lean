/- Values as texts and as bytes: the document's own way, over lists of bytes (no walk). -/
import Derived.Test.YtgalebcpagmohaaGreatDoorMCheck
import Derived.Lib.ParseIntB
import Derived.Lib.ItoaNum
import Derived.Test.YtgalebcpagmohaaGreatDoorMPRead
import Derived.Test.YtgalebcpagmohaaGreatDoorShelf2
set_option maxHeartbeats 1000000
set_option maxRecDepth 100000
namespace Go.Proofs.YtgalebcpagmohaaGreatDoor
open Go.Proofs.Tryz
def bUK:Nat → Nat → List UInt8
  | 0,n => [n.toUInt8]
  | k + 1,n => if n < 128 then [n.toUInt8] else (n % 128 + 128).toUInt8 :: bUK k (n / 128)
theorem bUK_eq:∀ (k m n:Nat),n ≤ k → n ≤ m → bUK k n = bUK m n
  | 0,0,_,_,_ => rfl
  | 0,_ + 1,n,h,_ => by simp [bUK,show n < 128 by omega]
  | _ + 1,0,n,_,h => by simp [bUK,show n < 128 by omega]
  | k + 1,m + 1,n,h,h' => by
    unfold bUK
    split
    · rfl
    · rw [bUK_eq k m (n / 128) (by omega) (by omega)]
def bU (n:Nat):List UInt8 := bUK n n
theorem qR {n:Nat} (h:n < 128):bU n = [n.toUInt8] := by cases n <;> simp [bU,bUK,h]
theorem BO {n:Nat} (h:¬ n < 128):bU n = (n % 128 + 128).toUInt8 :: bU (n / 128) := by
  obtain ⟨k,rfl⟩:∃ k,n = k + 1 := ⟨n - 1,by omega⟩
  unfold bU
  rw [bUK,if_neg h,bUK_eq k ((k + 1) / 128) _ (by omega) (by omega)]
def aO (b:List UInt8):List UInt8:=bU b.length++b
def kQ (n:Int):Nat:=if n<0 then(-2*n-1).toNat else(2*n).toNat
def kV (c:UInt8):Bool:=c==45||(decide (48≤c)&&decide (c≤57))
def gu (c:UInt8):Bool:=(decide (97≤c)&&decide (c≤122))||(decide (48≤c)&&decide (c≤57))
def bF (c:UInt8):Bool:=gu c||c==45
def jE (c:UInt8):Bool:=decide (32≤c)&&decide (c≤126)&&c != 34&&c != 92
def hexV (c:UInt8):Option Nat:=if decide (48≤c)&&decide (c≤57) then some (c.toNat-48) else if decide (97≤c)&&decide (c≤102) then some (c.toNat-87) else none
abbrev Got:=Option (List UInt8 × List UInt8)
def aK (p t:List UInt8):Option (List UInt8):=if p.isPrefixOf t then some (t.drop p.length) else none
def intOf (run:List UInt8):Option Int:=match Lib.parseIntB 64 run with
 | .ok v=>if Lib.itoa v=run then some v else none
 | _=>none
def uw (ci:UInt8→Bool) (t:List UInt8):Got:=(intOf (t.takeWhile ci)).map fun n=>(bU (kQ n),t.dropWhile ci)
def oQ (cn:UInt8→Bool) (names:List (List UInt8)) (t:List UInt8):Got:=(names.findIdx? (fun n=>n==t.takeWhile cn)).map fun i=>(bU i,t.dropWhile cn)
def iH:Nat→List UInt8→Got
 | 0,_=>none
 | _+1,[]=>none
 | n+1,c::r=>
  if c=34 then some ([],r)
  else if c=92 then match r with
   | a::b::r'=>match hexV a,hexV b with
    | some h,some l=>if jE (16*h+l).toUInt8 then none else(iH n r').map fun x=>((16*h+l).toUInt8::x.1,x.2)
    | _,_=>none
   | _=>none
  else if jE c then(iH n r).map fun x=>(c::x.1,x.2) else none
def uV (t:List UInt8):Got:=(aK [34] t).bind fun r=>iH (r.length+1) r
structure FD where
 number:Nat
 name:List UInt8
 shape:Nat
 base:List UInt8
abbrev TD := List (List UInt8) ⊕ List FD
def iW (val:List UInt8→Got):Nat→Bool→List UInt8→Got
 | k,first,t=>match aK [93] t with
  | some r=>some ([],r)
  | none=>match k with
   | 0=>none
   | k+1=>(if first then some t else aK [44] t).bind fun t1=>(val t1).bind fun v=>(iW val k false v.2).map fun o=>(aO v.1++o.1,o.2)
def acS (val:List UInt8→Got) (t:List UInt8):Got:=(aK [91] t).bind (iW val 16 true)
def fieldsGo (val lst:List UInt8→List UInt8→Got):List FD→Bool→List UInt8→Got
 | [],_,t=>(aK [125] t).map fun r=>([],r)
 | f::fs,first,t=>match aK ((if first then [] else [44])++f.name++[58]) t with
  | none=>if f.shape=1 then fieldsGo val lst fs first t else none
  | some t1=>(if f.shape=2 then lst f.base t1 else val f.base t1).bind fun v=>(fieldsGo val lst fs false v.2).map fun o=>(bU f.number++aO v.1++o.1,o.2)
def msgP (val lst:List UInt8→List UInt8→Got) (fs:List FD) (t:List UInt8):Got:=(aK [123] t).bind (fieldsGo val lst fs true)
def IQ:List UInt8:=[105,110,116]
def DY:List UInt8:=[98,111,111,108]
def wText:List UInt8:=[116,101,120,116]
def nX:List (List UInt8):=[[102,97,108,115,101],[116,114,117,101]]
def kW (ci cn:UInt8→Bool) (ty:List UInt8→Option TD) (msg:List FD→List UInt8→Got) (base t:List UInt8):Got :=
 if base=IQ then uw ci t else if base=DY then oQ cn nX t else if base=wText then uV t
 else match ty base with
  | none=>none
  | some (.inl ns)=>oQ cn ns t
  | some (.inr fs)=>msg fs t
def sD (ci cn:UInt8→Bool) (ty:List UInt8→Option TD):Nat→(List UInt8→List UInt8→Got) × (List UInt8→List UInt8→Got)
 | 0=>(kW ci cn ty (fun _ _=>none),fun _ _=>none)
 | n+1=>(kW ci cn ty (msgP (sD ci cn ty n).1 (sD ci cn ty n).2),fun b t=>acS ((sD ci cn ty n).1 b) t)
/-! the two ways to take a run of signs come to the same -/
def Ends (r:List UInt8):Prop:=∀ c l,r=c::l→bF c=false
theorem takeWhile_eq {p q:UInt8→Bool} (hpq:∀ c,p c=true→q c=true):∀ t:List UInt8,(∀ c l,t.dropWhile p=c::l→q c=false)→t.takeWhile q=t.takeWhile p∧t.dropWhile q=t.dropWhile p
 | [],_=>by simp
 | c::r,h=>by
  cases hp:p c with
  | true=>
   have hq:=hpq c hp
   have:=takeWhile_eq hpq r (fun d l e=>h d l (by rw[List.dropWhile_cons,hp];exact e))
   rw[List.takeWhile_cons,List.takeWhile_cons,List.dropWhile_cons,List.dropWhile_cons,hp,hq]
   simp[this.1,this.2]
  | false=>
   have hq:q c=false:=h c r (by rw[List.dropWhile_cons,hp];rfl)
   rw[List.takeWhile_cons,List.takeWhile_cons,List.dropWhile_cons,List.dropWhile_cons,hp,hq]
   simp
theorem qZ {p q:UInt8→Bool} (hpq:∀ c,p c=true→q c=true):∀ t:List UInt8,(∀ c∈t.takeWhile q,p c=true)→t.takeWhile p=t.takeWhile q∧t.dropWhile p=t.dropWhile q
 | [],_=>by simp
 | c::r,h=>by
  cases hq:q c with
  | true=>
   have hp:p c=true:=h c (by rw[List.takeWhile_cons,hq];simp)
   have:=qZ hpq r (fun d hd=>h d (by rw[List.takeWhile_cons,hq];simp[hd]))
   rw[List.takeWhile_cons,List.takeWhile_cons,List.dropWhile_cons,List.dropWhile_cons,hp,hq]
   simp[this.1,this.2]
  | false=>
   have hp:p c=false:=by
    cases hp:p c with
    | false=>rfl
    | true=>rw[hpq c hp] at hq;cases hq
   rw[List.takeWhile_cons,List.takeWhile_cons,List.dropWhile_cons,List.dropWhile_cons,hp,hq]
   simp
theorem KY (c:UInt8) (h:kV c=true):bF c=true:=by
 simp only[kV,bF,gu,Bool.or_eq_true] at h ⊢
 rcases h with h | h
 ·exact Or.inr h
 ·exact Or.inl (Or.inr h)
theorem Gy (c:UInt8) (h:gu c=true):bF c=true:=by simp[bF,h]
theorem Qk (d:Nat) (h:d<10):kV (UInt8.ofNat (48+d))=true:=by
 have:∀ d:Fin 10,kV (UInt8.ofNat (48+d.val))=true:=by decide
 exact this ⟨d,h⟩
theorem Ql (u:Nat):∀ c∈Lib.decDigits u,kV c=true:=by
 induction u using Nat.strongRecOn with
 | _ u ih=>
  intro c hc
  rw[Lib.decDigits] at hc
  by_cases h:u<10
  ·rw[dif_pos h] at hc
   rw[List.mem_singleton.1 hc];exact Qk u h
  ·rw[dif_neg h] at hc
   rcases List.mem_append.1 hc with hc | hc
   ·exact ih (u / 10) (by omega) c hc
   ·rw[List.mem_singleton.1 hc];exact Qk _ (by omega)
theorem VI (n:Int):∀ c∈Lib.itoa n,kV c=true:=by
 intro c hc
 unfold Lib.itoa at hc
 split at hc
 ·rcases List.mem_cons.1 hc with rfl | hc
  ·decide
  ·exact Ql _ c hc
 ·exact Ql _ c hc
theorem qx {run:List UInt8} {n:Int} (h:intOf run=some n):Lib.itoa n=run:=by
 unfold intOf at h
 split at h
 ·split at h
  ·rename_i e;cases h;exact e
  ·cases h
 ·cases h
theorem OM {t:List UInt8} {x:List UInt8 × List UInt8} (h:uw bF t=some x):uw kV t=some x:=by
 unfold uw at h ⊢
 obtain⟨n,hn,rfl⟩:=Option.map_eq_some_iff.1 h
 obtain⟨e1,e2⟩:=qZ KY t (fun c hc=>by rw[← qx hn] at hc;exact VI n c hc)
 rw[e1,e2,hn];rfl
theorem KZ {t v r:List UInt8} (h:uw kV t=some (v,r)) (hr:Ends r):uw bF t=some (v,r):=by
 unfold uw at h ⊢
 obtain⟨n,hn,e⟩:=Option.map_eq_some_iff.1 h
 simp only[Prod.mk.injEq] at e
 obtain⟨rfl,rfl⟩:=e
 obtain⟨e1,e2⟩:=takeWhile_eq KY t hr
 rw[e1,e2,hn];rfl
theorem DZ {ns:List (List UInt8)} (hns:∀ n∈ns,∀ c∈n,gu c=true) {t:List UInt8} {x:List UInt8 × List UInt8} (h:oQ bF ns t=some x):oQ gu ns t=some x:=by
 unfold oQ at h ⊢
 obtain⟨i,hi,rfl⟩:=Option.map_eq_some_iff.1 h
 have hm:=hi
 rw[List.findIdx?_eq_some_iff_getElem] at hm
 obtain⟨hlt,he,_⟩:=hm
 obtain⟨e1,e2⟩:=qZ Gy t (fun c hc=>by rw[← eq_of_beq he] at hc;exact hns _ (List.getElem_mem hlt) c hc)
 rw[e1,e2,hi];rfl
theorem AQ {ns:List (List UInt8)} {t v r:List UInt8} (h:oQ gu ns t=some (v,r)) (hr:Ends r):oQ bF ns t=some (v,r):=by
 unfold oQ at h ⊢
 obtain⟨i,hi,e⟩:=Option.map_eq_some_iff.1 h
 simp only[Prod.mk.injEq] at e
 obtain⟨rfl,rfl⟩:=e
 obtain⟨e1,e2⟩:=takeWhile_eq Gy t hr
 rw[e1,e2,hi];rfl
def vY (ty:List UInt8→Option TD):Prop:=∀ b ns,ty b=some (.inl ns)→∀ n∈ns,∀ c∈n,gu c=true
theorem D6 {ty:List UInt8→Option TD} (hn:vY ty) {msg msg':List FD→List UInt8→Got} (hm:∀ fs t x,msg' fs t=some x→msg fs t=some x) {b t:List UInt8} {x:List UInt8 × List UInt8} (h:kW bF bF ty msg' b t=some x):kW kV gu ty msg b t=some x:=by
 unfold kW at h ⊢
 split at h
 ·rw[if_pos ‹_›];exact OM h
 ·rw[if_neg ‹_›]
  split at h
  ·rw[if_pos ‹_›];exact DZ (by decide) h
  ·rw[if_neg ‹_›]
   split at h
   ·rw[if_pos ‹_›];exact h
   ·rw[if_neg ‹_›]
    cases e:ty b with
    | none=>rw[e] at h;cases h
    | some d=>
     rw[e] at h
     cases d with
     | inl ns =>exact DZ (hn b ns e) h
     | inr fs =>exact hm fs t x h
theorem AU {ty:List UInt8→Option TD} {msg msg':List FD→List UInt8→Got} (hm:∀ fs t x,msg fs t=some x→msg' fs t=some x) {b t v r:List UInt8} (h:kW kV gu ty msg b t=some (v,r)) (hr:Ends r):kW bF bF ty msg' b t=some (v,r):=by
 unfold kW at h ⊢
 split at h
 ·rw[if_pos ‹_›];exact KZ h hr
 ·rw[if_neg ‹_›]
  split at h
  ·rw[if_pos ‹_›];exact AQ h hr
  ·rw[if_neg ‹_›]
   split at h
   ·rw[if_pos ‹_›];exact h
   ·rw[if_neg ‹_›]
    cases e:ty b with
    | none=>rw[e] at h;cases h
    | some d=>
     rw[e] at h
     cases d with
     | inl ns =>exact AQ h hr
     | inr fs =>exact hm fs t _ h
theorem vZ {p t r:List UInt8} (h:aK p t=some r):t=p++r:=by
 unfold aK at h
 split at h
 ·rename_i hp
  cases h
  obtain⟨s,rfl⟩:=List.isPrefixOf_iff_prefix.1 hp
  simp
 ·cases h
theorem yN {c:UInt8} {p t r:List UInt8} (hc:bF c=false) (h:aK (c::p) t=some r):Ends t:=by
 have:=vZ h
 intro d l e
 rw[this] at e
 simp only[List.cons_append,List.cons.injEq] at e
 rw[← e.1];exact hc
theorem La {val:List UInt8→Got} {k:Nat} {t:List UInt8} {x:List UInt8 × List UInt8} (h:iW val k false t=some x):Ends t:=by
 unfold iW at h
 cases e:aK [93] t with
 | some r=>exact yN (by decide) e
 | none=>
  rw[e] at h
  cases k with
  | zero=>cases h
  | succ k=>
   obtain⟨t1,h1,_⟩:=Option.bind_eq_some_iff.1 h
   exact yN (by decide) h1
theorem Lc {val val':List UInt8→Got} (hv:∀ t x,val' t=some x→val t=some x):∀ (k:Nat) (f:Bool) (t:List UInt8) (x:List UInt8 × List UInt8),iW val' k f t=some x→iW val k f t=some x:=by
 intro k
 induction k with
 | zero=>
  intro f t x h
  unfold iW at h ⊢
  cases e:aK [93] t with
  | some r=>rw[e] at h;exact h
  | none=>rw[e] at h;cases h
 | succ k ih=>
  intro f t x h
  unfold iW at h ⊢
  cases e:aK [93] t with
  | some r=>rw[e] at h;exact h
  | none=>
   rw[e] at h
   obtain⟨t1,h1,h⟩:=Option.bind_eq_some_iff.1 h
   obtain⟨v,h2,h⟩:=Option.bind_eq_some_iff.1 h
   obtain⟨o,h3,rfl⟩:=Option.map_eq_some_iff.1 h
   exact Option.bind_eq_some_iff.2 ⟨t1,h1,Option.bind_eq_some_iff.2 ⟨v,hv _ _ h2,Option.map_eq_some_iff.2 ⟨o,ih _ _ _ h3,rfl⟩⟩⟩
theorem Fz {val val':List UInt8→Got} (hv:∀ t v r,val t=some (v,r)→Ends r→val' t=some (v,r)):∀ (k:Nat) (f:Bool) (t:List UInt8) (x:List UInt8 × List UInt8),iW val k f t=some x→iW val' k f t=some x:=by
 intro k
 induction k with
 | zero=>
  intro f t x h
  unfold iW at h ⊢
  cases e:aK [93] t with
  | some r=>rw[e] at h;exact h
  | none=>rw[e] at h;cases h
 | succ k ih=>
  intro f t x h
  unfold iW at h ⊢
  cases e:aK [93] t with
  | some r=>rw[e] at h;exact h
  | none=>
   rw[e] at h
   obtain⟨t1,h1,h⟩:=Option.bind_eq_some_iff.1 h
   obtain⟨⟨v,r⟩,h2,h⟩:=Option.bind_eq_some_iff.1 h
   obtain⟨o,h3,rfl⟩:=Option.map_eq_some_iff.1 h
   exact Option.bind_eq_some_iff.2 ⟨t1,h1,Option.bind_eq_some_iff.2 ⟨(v,r),hv _ _ _ h2 (La h3),Option.map_eq_some_iff.2 ⟨o,ih _ _ _ h3,rfl⟩⟩⟩
theorem wR {val lst:List UInt8→List UInt8→Got}:∀ (fs:List FD) (t:List UInt8) (x:List UInt8 × List UInt8),fieldsGo val lst fs false t=some x→Ends t
 | [],t,x,h=>by
  unfold fieldsGo at h
  obtain⟨r,h1,_⟩:=Option.map_eq_some_iff.1 h
  exact yN (by decide) h1
 | f::fs,t,x,h=>by
  unfold fieldsGo at h
  cases e:aK ((if false=true then [] else [44])++f.name++[58]) t with
  | some t1=>exact yN (by decide) e
  | none=>
   rw[e] at h
   by_cases hs:f.shape=1
   ·simp only[if_pos hs] at h
    exact wR fs t x h
   ·simp only[if_neg hs] at h
    cases h
theorem ru {val lst val' lst':List UInt8→List UInt8→Got} (hv:∀ b t x,val' b t=some x→val b t=some x) (hl:∀ b t x,lst' b t=some x→lst b t=some x):∀ (fs:List FD) (f:Bool) (t:List UInt8) (x:List UInt8 × List UInt8),fieldsGo val' lst' fs f t=some x→fieldsGo val lst fs f t=some x
 | [],f,t,x,h=>h
 | g::fs,f,t,x,h=>by
  unfold fieldsGo at h ⊢
  cases e:aK ((if f=true then [] else [44])++g.name++[58]) t with
  | some t1=>
   rw[e] at h
   obtain⟨v,h2,h⟩:=Option.bind_eq_some_iff.1 h
   obtain⟨o,h3,rfl⟩:=Option.map_eq_some_iff.1 h
   refine Option.bind_eq_some_iff.2 ⟨v,?_,Option.map_eq_some_iff.2 ⟨o,ru hv hl fs _ _ _ h3,rfl⟩⟩
   split at h2
   ·rw[if_pos ‹_›];exact hl _ _ _ h2
   ·rw[if_neg ‹_›];exact hv _ _ _ h2
  | none=>
   rw[e] at h
   by_cases hs:g.shape=1
   ·simp only[if_pos hs] at h ⊢
    exact ru hv hl fs f t x h
   ·simp only[if_neg hs] at h
    cases h
theorem oU {val lst val' lst':List UInt8→List UInt8→Got} (hv:∀ b t v r,val b t=some (v,r)→Ends r→val' b t=some (v,r)) (hl:∀ b t x,lst b t=some x→lst' b t=some x):∀ (fs:List FD) (f:Bool) (t:List UInt8) (x:List UInt8 × List UInt8),fieldsGo val lst fs f t=some x→fieldsGo val' lst' fs f t=some x
 | [],f,t,x,h=>h
 | g::fs,f,t,x,h=>by
  unfold fieldsGo at h ⊢
  cases e:aK ((if f=true then [] else [44])++g.name++[58]) t with
  | some t1=>
   rw[e] at h
   obtain⟨⟨v,r⟩,h2,h⟩:=Option.bind_eq_some_iff.1 h
   obtain⟨o,h3,rfl⟩:=Option.map_eq_some_iff.1 h
   refine Option.bind_eq_some_iff.2 ⟨(v,r),?_,Option.map_eq_some_iff.2 ⟨o,oU hv hl fs _ _ _ h3,rfl⟩⟩
   split at h2
   ·rw[if_pos ‹_›];exact hl _ _ _ h2
   ·rw[if_neg ‹_›];exact hv _ _ _ _ h2 (wR fs _ _ h3)
  | none=>
   rw[e] at h
   by_cases hs:g.shape=1
   ·simp only[if_pos hs] at h ⊢
    exact oU hv hl fs f t x h
   ·simp only[if_neg hs] at h
    cases h
theorem D7 {ty:List UInt8→Option TD} (hn:vY ty):∀ n,(∀ b t x,(sD bF bF ty n).1 b t=some x→(sD kV gu ty n).1 b t=some x)∧(∀ b t x,(sD bF bF ty n).2 b t=some x→(sD kV gu ty n).2 b t=some x)
 | 0=>⟨fun b t x h=>by unfold sD at h ⊢;exact D6 hn (msg':=fun _ _=>none) (fun _ _ _ h=>h) h,fun b t x h=>by unfold sD at h;cases h⟩
 | n+1=>by
  obtain⟨i1,i2⟩:=D7 hn n
  refine⟨fun b t x h=>D6 hn (fun fs t x h=>?_) h,fun b t x h=>?_⟩
  ·obtain⟨r,h1,h2⟩:=Option.bind_eq_some_iff.1 h
   exact Option.bind_eq_some_iff.2 ⟨r,h1,ru i1 i2 fs true r x h2⟩
  ·obtain⟨r,h1,h2⟩:=Option.bind_eq_some_iff.1 h
   exact Option.bind_eq_some_iff.2 ⟨r,h1,Lc (i1 b) 16 true r x h2⟩
theorem AV {ty:List UInt8→Option TD}:∀ n,(∀ b t v r,(sD kV gu ty n).1 b t=some (v,r)→Ends r→(sD bF bF ty n).1 b t=some (v,r))∧(∀ b t x,(sD kV gu ty n).2 b t=some x→(sD bF bF ty n).2 b t=some x)
 | 0=>⟨fun b t v r h hr=>by unfold sD at h ⊢;exact AU (msg:=fun _ _=>none) (fun _ _ _ h=>h) h hr,fun b t x h=>by unfold sD at h;cases h⟩
 | n+1=>by
  obtain⟨i1,i2⟩:=AV (ty:=ty) n
  refine⟨fun b t v r h hr=>AU (fun fs t x h=>?_) h hr,fun b t x h=>?_⟩
  ·obtain⟨r,h1,h2⟩:=Option.bind_eq_some_iff.1 h
   exact Option.bind_eq_some_iff.2 ⟨r,h1,oU i1 i2 fs true r x h2⟩
  ·obtain⟨r,h1,h2⟩:=Option.bind_eq_some_iff.1 h
   exact Option.bind_eq_some_iff.2 ⟨r,h1,Fz (i1 b) 16 true r x h2⟩
theorem VJ {ty:List UInt8→Option TD} (hn:vY ty) (n:Nat) (b t v:List UInt8):(sD kV gu ty n).1 b t=some (v,[])↔(sD bF bF ty n).1 b t=some (v,[]) :=
 ⟨fun h=>(AV n).1 b t v [] h (fun c l e=>by cases e),fun h=>(D7 hn n).1 b t _ h⟩
open Go.RowKit
theorem iJ:∀ (k n:Nat),n<128 ^ (k+1)→(bU n).length≤k+1
 | 0,n,h=>by rw[qR (by simpa using h)];simp
 | k+1,n,h=>by
  by_cases h':n<128
  ·rw[qR h'];simp
  ·rw[BO h',List.length_cons]
   have:=iJ k (n / 128) (by rw[Nat.pow_succ] at h;omega)
   omega
theorem lT (n:Nat) (h:n<18446744073709551616):(bU n).length≤10:=by
 have e:(128:Nat) ^ (9+1)=1180591620717411303424:=by decide
 exact iJ 9 n (by rw[e];omega)
theorem Ld (n:Nat):1≤(bU n).length:=by
 by_cases h:n<128
 ·rw[qR h];simp
 ·rw[BO h];simp
theorem Gz {m:Nat} (h:m<256):(m.toUInt8.toNat:Int)=(m:Int):=by
 have:m.toUInt8.toNat=m:=by simp[Nat.toUInt8,UInt8.toNat_ofNat',Nat.mod_eq_of_lt h]
 rw[this]
theorem acT (g:Nat):bits BinOp.or IntKind.u8 ((g:Int) % 256) 128=(((g % 128+128).toUInt8).toNat:Int):=by
 rw[Gz (by omega)]
 have all:∀ a:Fin 256,bits BinOp.or IntKind.u8 ((a.val:Nat):Int) 128=((a.val % 128+128:Nat):Int):=by decide +kernel
 have:=all ⟨g % 256,by omega⟩
 rw[show ((g:Int) % 256)=((g % 256:Nat):Int) by omega,this]
 show (((g % 256) % 128+128:Nat):Int)=((g % 128+128:Nat):Int)
 omega
theorem jL (w:World) (lo:Nat) (v:Value) (L:List UInt8) (n:Nat) (h:gB w lo v L) (hn:n<18446744073709551616) (hl:L.length≤10000000000) (hlo:lo≤w.heap.size) :
  Calls Tryz.prog 165 #[v,.int .u64 n] w fun e w'=>∃ a c,e=.returned (.slice a (L++bU n).length c)∧gB w' lo (.slice a (L++bU n).length c) (L++bU n)∧Grew w w' v (.slice a (L++bU n).length c):=by
 obtain⟨la,lc,hlv⟩:∃ a c,v=.slice a L.length c:=ak h
 subst hlv
 have H:=hid h
 clear h
 go_enter func165,ntmps165
 go_wp2_with fail
 go_loopg [0,1] n (fun gk dv nv wr=>∃ M:List UInt8,nv=.int .u64 gk∧gk≤n∧Hid (L++bU n=M++bU gk)∧M.length≤L.length+10∧Hid (gB wr lo dv M)∧Hid (Grew w wr (.slice la L.length lc) dv))
 case atStart=>exact⟨L,rfl,Nat.le_refl _,hid rfl,by omega,hid H.out,hid (Grew.refl _ _)⟩
 case round=>
  obtain⟨M,rfl,hgk,HE,hM,HB,HG⟩:=hrel
  obtain⟨na,nc,uy⟩:∃ a c,u0=.slice a M.length c:=ak HB.out
  subst uy
  have hsz:=HG.out.g.size
  have hML:M.length+1≤L.length+10:=by
   have h1:=congrArg List.length HE.out
   have h2:=lT n hn
   have h3:=Ld gk
   simp only[List.length_append] at h1
   omega
  by_cases hge:128≤gk
  ·have hge':(128:Int)≤(gk:Int):=by omega
   have hz1:=acT gk
   have OO:=BO (n:=gk) (by omega)
   generalize (gk % 128+128).toUInt8=c at hz1 OO
   have HV:=hid OO
   clear OO
   go_wp2_with (at_builtin;refine dG _ rfl _ _ rfl _ M lo rfl (HB.out.same ((Below.refl _ _).alloc (Nat.le_refl _) _)) _ [c] _ rfl (mP _ _ _ (by first | rfl | exact hz1)) (by simp;omega) (by simp;omega) ?_)
   intro a1 c1 w1 hb1 hg1
   have ET:=hid (HG.out.trans ((Grew.call ((Below.refl _ _).alloc (Nat.le_refl _) _)).trans hg1))
   have HB1:=hid hb1
   clear hb1 hg1
   go_wp2_with fail
   go_roundg (gk / 128)
   case rel=>exact⟨M++[c],by go_num,by omega,hid (by rw[HE.out,HV.out];simp),by rw[List.length_append,List.length_singleton];omega,hid (by simpa using HB1.out),hid (by simpa using ET.out)⟩
   case measure=>omega
  ·have hge':¬ (128:Int)≤(gk:Int):=by omega
   have hz1:(gk:Int)=(gk.toUInt8.toNat:Int):=(Gz (by omega)).symm
   have OO:=qR (n:=gk) (by omega)
   generalize gk.toUInt8=c at hz1 OO
   have HV:=hid OO
   clear OO
   go_wp2_with (at_builtin;refine dG _ rfl _ _ rfl _ M lo rfl (HB.out.same ((Below.refl _ _).alloc (Nat.le_refl _) _)) _ [c] _ rfl (mP _ _ _ (by omega)) (by simp;omega) (by simp;omega) ?_)
   intro a1 c1 w1 hb1 hg1
   have ET:=hid (HG.out.trans ((Grew.call ((Below.refl _ _).alloc (Nat.le_refl _) _)).trans hg1))
   have HB1:=hid hb1
   clear hb1 hg1
   have HR:=hid (show M++[c]=L++bU n by rw[HE.out,HV.out])
   go_wp2_with fail
   go_ret
   exact⟨a1,c1,by rw[← HR.out];simp,by rw[← HR.out];simpa using HB1.out,by rw[← HR.out];simpa using ET.out⟩
theorem dP (w:World) (lo:Nat) (v:Value) (L:List UInt8) (n:Nat) (h:gB w lo v L) (hn:n<18446744073709551616) (hl:L.length≤10000000000) (hlo:lo≤w.heap.size) :
  Calls Tryz.prog 176 #[v,.int .u64 n] w fun e w'=>∃ a c,e=.returned (.slice a (L++bU n).length c)∧gB w' lo (.slice a (L++bU n).length c) (L++bU n)∧Grew w w' v (.slice a (L++bU n).length c):=by
 obtain⟨la,lc,hlv⟩:∃ a c,v=.slice a L.length c:=ak h
 subst hlv
 have H:=hid h
 clear h
 go_enter func176,ntmps176
 go_wp2_with fail
 go_loopg [0,1] n (fun gk dv nv wr=>∃ M:List UInt8,nv=.int .u64 gk∧gk≤n∧Hid (L++bU n=M++bU gk)∧M.length≤L.length+10∧Hid (gB wr lo dv M)∧Hid (Grew w wr (.slice la L.length lc) dv))
 case atStart=>exact⟨L,rfl,Nat.le_refl _,hid rfl,by omega,hid H.out,hid (Grew.refl _ _)⟩
 case round=>
  obtain⟨M,rfl,hgk,HE,hM,HB,HG⟩:=hrel
  obtain⟨na,nc,uy⟩:∃ a c,u0=.slice a M.length c:=ak HB.out
  subst uy
  have hsz:=HG.out.g.size
  have hML:M.length+1≤L.length+10:=by
   have h1:=congrArg List.length HE.out
   have h2:=lT n hn
   have h3:=Ld gk
   simp only[List.length_append] at h1
   omega
  by_cases hge:128≤gk
  ·have hge':(128:Int)≤(gk:Int):=by omega
   have hz1:(((gk % 128+128).toUInt8).toNat:Int)=(gk:Int) % 128+128:=by rw[Gz (by omega)];omega
   have OO:=BO (n:=gk) (by omega)
   generalize (gk % 128+128).toUInt8=c at hz1 OO
   have HV:=hid OO
   have HZ:=hid hz1
   clear OO hz1
   go_wp2_with (at_builtin;refine dG _ rfl _ _ rfl _ M lo rfl (HB.out.same ((Below.refl _ _).alloc (Nat.le_refl _) _)) _ [c] _ rfl (mP _ _ _ (by have:=HZ.out;omega)) (by simp;omega) (by simp;omega) ?_)
   intro a1 c1 w1 hb1 hg1
   have ET:=hid (HG.out.trans ((Grew.call ((Below.refl _ _).alloc (Nat.le_refl _) _)).trans hg1))
   have HB1:=hid hb1
   clear hb1 hg1
   go_wp2_with fail
   go_roundg (gk / 128)
   case rel=>exact⟨M++[c],by go_num,by omega,hid (by rw[HE.out,HV.out];simp),by rw[List.length_append,List.length_singleton];omega,hid (by simpa using HB1.out),hid (by simpa using ET.out)⟩
   case measure=>omega
  ·have hge':¬ (128:Int)≤(gk:Int):=by omega
   have hz1:(gk:Int)=(gk.toUInt8.toNat:Int):=(Gz (by omega)).symm
   have OO:=qR (n:=gk) (by omega)
   generalize gk.toUInt8=c at hz1 OO
   have HV:=hid OO
   clear OO
   go_wp2_with (at_builtin;refine dG _ rfl _ _ rfl _ M lo rfl (HB.out.same ((Below.refl _ _).alloc (Nat.le_refl _) _)) _ [c] _ rfl (mP _ _ _ (by omega)) (by simp;omega) (by simp;omega) ?_)
   intro a1 c1 w1 hb1 hg1
   have ET:=hid (HG.out.trans ((Grew.call ((Below.refl _ _).alloc (Nat.le_refl _) _)).trans hg1))
   have HB1:=hid hb1
   clear hb1 hg1
   have HR:=hid (show M++[c]=L++bU n by rw[HE.out,HV.out])
   go_wp2_with fail
   go_ret
   exact⟨a1,c1,by rw[← HR.out];simp,by rw[← HR.out];simpa using HB1.out,by rw[← HR.out];simpa using ET.out⟩
def wo (w:World) (lo:Nat) (v:Value) (L B:List UInt8) (e:Ending) (w':World):Prop:=∃ a c,e=.returned (.slice a (L++aO B).length c)∧gB w' lo (.slice a (L++aO B).length c) (L++aO B)∧Grew w w' v (.slice a (L++aO B).length c)
theorem dK (w:World) (lo lo2:Nat) (v v2:Value) (L B:List UInt8) (h:gB w lo v L) (h2:gB w lo2 v2 B) (hne:EX v v2) (hl:L.length≤1000000000) (hl2:B.length≤1000000000) (hlo:lo≤w.heap.size) :
  Calls Tryz.prog 166 #[v,v2] w (wo w lo v L B):=by
 unfold wo
 obtain⟨la,lc,hlv⟩:∃ a c,v=.slice a L.length c:=ak h
 subst hlv
 obtain⟨ba,bc,hbv⟩:∃ a c,v2=.slice a B.length c:=ak h2
 subst hbv
 have H:=hid h
 have H2:=hid h2
 have HN:=hid hne
 clear h h2 hne
 go_enter func166,ntmps166
 go_wp2_with fail
 refine(dP _ lo _ L B.length H.out (by omega) (by omega) hlo).mono ?_;rintro e w1 ⟨a1,c1,rfl,hb1,hg1⟩
 have hz:=hg1.g.size
 have afs:=lT B.length (by omega)
 have HB2:=hid (show gB w1 lo2 (.slice ba B.length bc) B from au H2.out (fun g hg=>hg1.g.block g (H2.out.lt g hg).2 (fun e=>HN.out g e.symm hg)))
 have HB1:=hid hb1
 have ET:=hid hg1
 have hl3:(L++bU B.length).length≤L.length+10:=by rw[List.length_append];omega
 have HT:=hid (show (L++bU B.length)++B=L++aO B by unfold aO;rw[List.append_assoc])
 clear hb1 hg1
 generalize L++bU B.length=M at *
 go_wp2_with (at_builtin;refine dG _ rfl _ _ rfl _ M lo rfl HB1.out _ B _ rfl HB2.out (by omega) (by omega) ?_)
 intro a3 c3 w3 hb3 hg3
 have HB3:=hid hb3
 have HG3:=hid (ET.out.trans hg3)
 clear hb3 hg3
 go_wp2_with fail
 go_ret
 exact⟨a3,c3,by rw[← HT.out];simp,by rw[← HT.out];simpa using HB3.out,by rw[← HT.out];simpa using HG3.out⟩
theorem nD (w:World) (lo lo2:Nat) (v v2:Value) (L B:List UInt8) (h:gB w lo v L) (h2:gB w lo2 v2 B) (hne:EX v v2) (hl:L.length≤1000000000) (hl2:B.length≤1000000000) (hlo:lo≤w.heap.size) :
  Calls Tryz.prog 269 #[v,v2] w (wo w lo v L B):=by
 unfold wo
 obtain⟨la,lc,hlv⟩:∃ a c,v=.slice a L.length c:=ak h
 subst hlv
 obtain⟨ba,bc,hbv⟩:∃ a c,v2=.slice a B.length c:=ak h2
 subst hbv
 have H:=hid h
 have H2:=hid h2
 have HN:=hid hne
 clear h h2 hne
 go_enter func269,ntmps269
 go_wp2_with fail
 refine(jL _ lo _ L B.length H.out (by omega) (by omega) hlo).mono ?_;rintro e w1 ⟨a1,c1,rfl,hb1,hg1⟩
 have hz:=hg1.g.size
 have afs:=lT B.length (by omega)
 have HB2:=hid (show gB w1 lo2 (.slice ba B.length bc) B from au H2.out (fun g hg=>hg1.g.block g (H2.out.lt g hg).2 (fun e=>HN.out g e.symm hg)))
 have HB1:=hid hb1
 have ET:=hid hg1
 have hl3:(L++bU B.length).length≤L.length+10:=by rw[List.length_append];omega
 have HT:=hid (show (L++bU B.length)++B=L++aO B by unfold aO;rw[List.append_assoc])
 clear hb1 hg1
 generalize L++bU B.length=M at *
 go_wp2_with (at_builtin;refine dG _ rfl _ _ rfl _ M lo rfl HB1.out _ B _ rfl HB2.out (by omega) (by omega) ?_)
 intro a3 c3 w3 hb3 hg3
 have HB3:=hid hb3
 have HG3:=hid (ET.out.trans hg3)
 clear hb3 hg3
 go_wp2_with fail
 go_ret
 exact⟨a3,c3,by rw[← HT.out];simp,by rw[← HT.out];simpa using HB3.out,by rw[← HT.out];simpa using HG3.out⟩
structure Cu (w:World) (cb:Nat) (lv:Value) (s:ByteArray) (i:Nat) (ok:Bool) (d:Int):Prop where
 seg:Seg w cb 189 0 [lv,.string s,.int .i64 i,.bool ok,.int .i64 d]
 le:i≤s.size
def aC (s:ByteArray) (i:Nat):List UInt8:=s.toList.drop i
theorem ext_list (s:ByteArray) (i j:Nat):(s.extract i j).toList=(s.toList.drop i).take (j-i):=by
 rw[Lib.extract_toList,ByteArray.toList_eq]
theorem aB (s:ByteArray):s.toList.length=s.size:=by rw[ByteArray.toList_eq];exact Array.length_toList
def upTo (b:Bool) (i n:Nat):Nat:=match b with | true=>i+n | false=>i
theorem Yy {s t:ByteArray} {i:Nat}:(aK t.toList (aC s i)).isSome=((s.extract i (i+t.size)).toList==t.toList):=by
 rw[ext_list,show i+t.size-i=t.size by omega]
 unfold aK aC
 by_cases h:t.toList.isPrefixOf (s.toList.drop i)=true
 ·rw[if_pos h]
  obtain⟨r,hr⟩:=List.isPrefixOf_iff_prefix.1 h
  rw[← hr,← aB t,List.take_left]
  simp
 ·rw[if_neg h]
  symm
  simp only[Option.isSome_none,beq_eq_false_iff_ne,ne_eq]
  intro e
  apply h
  rw[List.isPrefixOf_iff_prefix,← e]
  exact List.take_prefix _ _
theorem VK {s t:ByteArray} {i:Nat} (hf:¬ t.size≤s.size-i):(aK t.toList (aC s i)).isSome=false:=by
 unfold aK aC
 rw[if_neg]
 ·rfl
 ·intro h
  have:=(List.isPrefixOf_iff_prefix.1 h).length_le
  rw[aB,List.length_drop,aB] at this
  omega
theorem Cu.put {w:World} {cb:Nat} {lv:Value} {s:ByteArray} {i:Nat} {ok:Bool} {d:Int} (h:Cu w cb lv s i ok d) (k:Nat) (hk:k≤s.size):Cu (w.setCell ⟨cb,2,none⟩ (.int .i64 k)) cb lv s k ok d:=⟨h.seg.set 2 _,hk⟩
theorem But.drewN {pb:Nat} (w:World) (n:Nat):But pb w (w.drewN n):=But.dJ (below_drewN (Below.refl _ _) n)
theorem Cu.same {w w':World} {cb:Nat} {lv:Value} {s:ByteArray} {i:Nat} {ok:Bool} {d:Int} (h:Cu w cb lv s i ok d) (hb:w'.heap[cb]? = w.heap[cb]?):Cu w' cb lv s i ok d:=⟨h.seg.same hb,h.le⟩
theorem Cu.drew {w:World} {cb:Nat} {lv:Value} {s:ByteArray} {i:Nat} {ok:Bool} {d:Int} (h:Cu w cb lv s i ok d) (n:Nat):Cu (w.drewN n) cb lv s i ok d:=h.same ((below_drewN (Below.refl _ _) n).block cb h.seg.lt)
theorem yO (w:World) (cb:Nat) (la:Option Addr) (ll lc:Nat) (s t:ByteArray) (i:Nat) (ok:Bool) (d:Int) (h:Cu w cb (.slice la ll lc) s i ok d) (hs:s.size≤400) (ht:t.size≤1000) :
  Calls Tryz.prog 233 #[.pointer (some ⟨cb,0,none⟩),.string t] w fun e w'=>e=.returned (.bool (aK t.toList (aC s i)).isSome)∧But cb w w'∧Cu w' cb (.slice la ll lc) s (upTo (aK t.toList (aC s i)).isSome i t.size) ok d:=by
 have hle:=h.le
 have c0:=h.seg.cell (j:=0) rfl
 have c1:=h.seg.cell (j:=1) rfl
 have c2:=h.seg.cell (j:=2) rfl
 have c3:=h.seg.cell (j:=3) rfl
 have c4:=h.seg.cell (j:=4) rfl
 have hfz:=h.seg.frozen 2
 simp only[Nat.zero_add] at c0 c1 c2 c3 c4
 have H:=hid h
 clear h
 by_cases hfit:t.size≤s.size-i
 ·have acU:(t.size:Int)≤(s.size:Int)-(i:Int):=by omega
  have XV:=Yy (s:=s) (t:=t) (i:=i)
  cases heq:((s.extract i (i+t.size)).toList==t.toList) with
  | true=>
   rw[heq] at XV
   rw[XV]
   go_enter func233,ntmps233
   go_wp2_with fail
   go_quiet (fail)
   go_wp2_with fail
   go_ret
   exact⟨rfl,(But.drewN w _).setCell _ _,by simpa[upTo] using(H.out.drew _).put (i+t.size) (by omega)⟩
  | false=>
   rw[heq] at XV
   rw[XV]
   go_enter func233,ntmps233
   go_wp2_with fail
   go_quiet (fail)
   go_wp2_with fail
   go_ret
   exact⟨rfl,But.drewN w _,H.out.drew _⟩
 ·have acU:¬ (t.size:Int)≤(s.size:Int)-(i:Int):=by omega
  have hd:decide ((t.size:Int)≤(s.size:Int)-(i:Int))=false:=by simp;omega
  rw[VK hfit]
  go_enter func233,ntmps233
  go_wp2_with fail
  go_quiet (fail)
  go_wp2_with fail
  go_ret
  exact⟨rfl,But.drewN w _,H.out.drew _⟩
theorem Cu.ji {w:World} {cb:Nat} {lv:Value} {s:ByteArray} {i:Nat} {ok:Bool} {d:Int} (h:Cu w cb lv s i ok d) (b:Bool):Cu (w.setCell ⟨cb,3,none⟩ (.bool b)) cb lv s i b d:=⟨h.seg.set 3 _,h.le⟩
theorem Cu.jU {w:World} {cb:Nat} {lv:Value} {s:ByteArray} {i:Nat} {ok:Bool} {d:Int} (h:Cu w cb lv s i ok d) (z:Int):Cu (w.setCell ⟨cb,4,none⟩ (.int .i64 z)) cb lv s i ok z:=⟨h.seg.set 4 _,h.le⟩
theorem iK (w:World) (cb:Nat) (la:Option Addr) (ll lc:Nat) (s t:ByteArray) (i:Nat) (ok:Bool) (d:Int) (h:Cu w cb (.slice la ll lc) s i ok d) (hs:s.size≤400) (ht:t.size≤1000) :
  Calls Tryz.prog 230 #[.pointer (some ⟨cb,0,none⟩),.string t] w fun e w'=>(∃ v,e=.returned v)∧But cb w w'∧Cu w' cb (.slice la ll lc) s (upTo (aK t.toList (aC s i)).isSome i t.size) (ok&&(aK t.toList (aC s i)).isSome) d:=by
 have H:=hid h
 clear h
 go_enter func230,ntmps230
 go_wp2_with fail
 refine(yO w cb la ll lc s t i ok d H.out hs ht).mono ?_;rintro e w1 ⟨rfl,hb1,hc1⟩
 generalize hr:(aK t.toList (aC s i)).isSome=r at *
 have HR:=hid hr
 clear hr
 have c3:=hc1.seg.cell (j:=3) rfl
 have hfz:=hc1.seg.frozen 3
 simp only[Nat.zero_add] at c3
 have HC:=hid hc1
 have HB:=hid hb1
 clear hc1 hb1
 cases ok with
 | true=>
  go_wp2_with fail
  go_end0
  exact⟨⟨_,rfl⟩,HB.out.setCell _ _,by rw[HR.out];exact HC.out.ji r⟩
 | false=>
  go_wp2_with fail
  go_end0
  exact⟨⟨_,rfl⟩,HB.out.setCell _ _,by rw[HR.out];exact HC.out.ji false⟩
def dZ (s:ByteArray) (i:Nat):Nat:=i+((aC s i).takeWhile bF).length
theorem tail_cons (s:ByteArray) (k:Nat) (h:k<s.size):aC s k=s[k]'h::aC s (k+1):=by
 unfold aC
 have hl:k<s.toList.length:=by rw[aB];exact h
 rw[List.drop_eq_getElem_cons hl]
 congr 1
 obtain⟨l⟩:=s
 simp[ByteArray.toList_eq,ByteArray.getElem_eq_getElem_data]
theorem tail_nil (s:ByteArray) (k:Nat) (h:s.size≤k):aC s k=[]:=by unfold aC;exact List.drop_eq_nil_of_le (by rw[aB];exact h)
theorem Le (c:UInt8):bF c=(jP (c.toNat:Int)||((c.toNat:Int)==45)):=by
 have all:∀ a:Fin 256,bF (UInt8.ofNat a.val)=(jP ((UInt8.ofNat a.val).toNat:Int)||(((UInt8.ofNat a.val).toNat:Int)==45)):=by decide +kernel
 have:=all ⟨c.toNat,c.toNat_lt⟩
 simpa using this
theorem OQ {s:ByteArray} {k:Nat} (h:k<s.size) (hw:bF (s[k]'h)=true):dZ s k=dZ s (k+1):=by
 unfold dZ
 rw[tail_cons s k h,List.takeWhile_cons,hw];simp;omega
theorem D8 {s:ByteArray} {k:Nat} (h:∀ h:k<s.size,bF (s[k]'h)=false):dZ s k=k:=by
 unfold dZ
 by_cases hk:k<s.size
 ·rw[tail_cons s k hk,List.takeWhile_cons,h hk];simp
 ·rw[tail_nil s k (by omega)];simp
theorem Lh {s:ByteArray} {k:Nat} (h:k≤s.size):dZ s k≤s.size:=by
 unfold dZ
 have:=(List.takeWhile_prefix bF (l:=aC s k)).length_le
 have h2:(aC s k).length=s.size-k:=by unfold aC;rw[List.length_drop,aB]
 omega
theorem Lj (s:ByteArray) (k:Nat):k≤dZ s k:=by unfold dZ;omega
theorem takeWhile_take {p:UInt8→Bool}:∀ l:List UInt8,l.take (l.takeWhile p).length=l.takeWhile p∧l.drop (l.takeWhile p).length=l.dropWhile p
 | []=>by simp
 | c::r=>by
  rw[List.takeWhile_cons,List.dropWhile_cons]
  cases p c with
  | true=>have:=takeWhile_take (p:=p) r;simp[this.1,this.2]
  | false=>simp
theorem run_text (s:ByteArray) (i:Nat):(s.extract i (dZ s i)).toList=(aC s i).takeWhile bF:=by
 rw[ext_list]
 unfold dZ
 rw[Nat.add_sub_cancel_left]
 exact(takeWhile_take _).1
theorem Ll (s:ByteArray) (i:Nat):aC s (dZ s i)=(aC s i).dropWhile bF:=by
 unfold dZ
 rw[← (takeWhile_take (p:=bF) (aC s i)).2]
 unfold aC
 rw[List.drop_drop]
theorem run_any (w:World) (cb:Nat) (la:Option Addr) (ll lc:Nat) (s:ByteArray) (i:Nat) (ok:Bool) (d:Int) (h:Cu w cb (.slice la ll lc) s i ok d) (hs:s.size≤400) :
  Calls Tryz.prog 173 #[.pointer (some ⟨cb,0,none⟩)] w fun e w'=>e=.returned (.string (s.extract i (dZ s i)))∧But cb w w'∧Cu w' cb (.slice la ll lc) s (dZ s i) ok d:=by
 have hle:=h.le
 have c2:=h.seg.cell (j:=2) rfl
 simp only[Nat.zero_add] at c2
 have H:=hid h
 clear h
 go_enter func173,ntmps173
 go_wp2_with fail
 go_loopg [4] (s.size-i) (fun gk x5 wr=>∃ k:Nat,i≤k∧k+gk=s.size∧Hid (dZ s i=dZ s k)∧Hid (Cu wr cb (.slice la ll lc) s k ok d)∧But cb w wr)
 case atStart=>exact⟨i,Nat.le_refl _,by omega,hid rfl,hid H.out,But.refl _ _⟩
 case round=>
  obtain⟨k,hik,hk,HR,HC,jI⟩:=hrel
  have e1:=HC.out.seg.cell (j:=1) rfl
  have e2:=HC.out.seg.cell (j:=2) rfl
  have ef:=HC.out.seg.frozen 2
  simp only[Nat.zero_add] at e1 e2
  by_cases hlt:k<s.size
  ·have oM:(k:Int)<(s.size:Int):=by omega
   have h0I:(0:Int)≤(k:Int):=by omega
   cases hw:bF (s[k]'hlt) with
   | true=>
    have HS:=hid (HR.out.trans (OQ hlt hw))
    rw[Le] at hw
    cases hrb:jP ((s[k]'hlt).toNat:Int) with
    | true=>
     clear hw
     go_wp2_with fail
     go_quiet (fail)
     go_wp2_with fail
     go_quiet (exact(lX _ _).mono (fun _ _ h=>⟨h.1,_,h.2⟩))
     go_wp2_with fail
     go_quiet (fail)
     go_wp2_with fail
     go_roundg (gk-1)
     case rel=>exact⟨k+1,by omega,by omega,hid HS.out,hid (by simpa using(HC.out.drew _).put (k+1) (by omega)),(jI.trans (But.drewN _ _)).setCell _ _⟩
     case measure=>omega
    | false=>
     rw[hrb] at hw
     have h45:((s[k]'hlt).toNat:Int)=45:=by simpa using hw
     have acV:(((s[k]'hlt).toNat:Int)==45)=true:=by rw[h45];rfl
     clear hw
     go_wp2_with fail
     go_quiet (fail)
     go_wp2_with fail
     go_quiet (exact(lX _ _).mono (fun _ _ h=>⟨h.1,_,h.2⟩))
     go_wp2_with fail
     go_quiet (fail)
     go_wp2_with fail
     go_roundg (gk-1)
     case rel=>exact⟨k+1,by omega,by omega,hid HS.out,hid (by simpa using(HC.out.drew _).put (k+1) (by omega)),(jI.trans (But.drewN _ _)).setCell _ _⟩
     case measure=>omega
   | false=>
    have HS:=hid (HR.out.trans (D8 (fun _=>hw)))
    rw[Le,Bool.or_eq_false_iff] at hw
    have hrb:=hw.1
    have h45:=hw.2
    clear hw
    go_wp2_with fail
    go_quiet (fail)
    go_wp2_with fail
    go_quiet (exact(lX _ _).mono (fun _ _ h=>⟨h.1,_,h.2⟩))
    go_wp2_with fail
    go_quiet (fail)
    go_wp2_with fail
    go_quiet (fail)
    go_wp2_with fail
    go_ret
    exact⟨by rw[HS.out];rfl,by repeat (first | exact jI | refine But.trans ?_ (But.drewN _ _)),by rw[HS.out];repeat (first | exact HC.out | apply Cu.drew)⟩
  ·have HS:=hid (HR.out.trans (D8 (fun h=>absurd h hlt)))
   go_wp2_with fail
   go_quiet (fail)
   go_wp2_with fail
   go_quiet (fail)
   go_wp2_with fail
   go_ret
   exact⟨by rw[HS.out];rfl,by repeat (first | exact jI | refine But.trans ?_ (But.drewN _ _)),by rw[HS.out];repeat (first | exact HC.out | apply Cu.drew)⟩
def rC (c:Int):Bool:=decide (32≤c)&&decide (c≤126) && !(c==34) && !(c==92)
def oJ (c:Int):Int:=if 48≤c∧c≤57 then c-48 else if 97≤c∧c≤102 then c-87 else -1
theorem uX (c:UInt8):jE c=rC (c.toNat:Int):=by
 have all:∀ a:Fin 256,jE (UInt8.ofNat a.val)=rC ((UInt8.ofNat a.val).toNat:Int):=by decide +kernel
 have:=all ⟨c.toNat,c.toNat_lt⟩
 simpa using this
theorem IU (c:UInt8):(match hexV c with | some h=>(h:Int) | none=>-1)=oJ (c.toNat:Int):=by
 have all:∀ a:Fin 256,(match hexV (UInt8.ofNat a.val) with | some h=>(h:Int) | none=>-1)=oJ ((UInt8.ofNat a.val).toNat:Int):=by decide +kernel
 have:=all ⟨c.toNat,c.toNat_lt⟩
 simpa using this
theorem xA (c:Int):oJ c = -1∨(0≤oJ c∧oJ c≤15):=by unfold oJ;split<;>(try split)<;>omega
theorem sF (c:Int) (w:World) :
  Calls Tryz.prog 231 #[.int .u8 c] w fun e w'=>e=.returned (.bool (rC c))∧w'=w:=by
 unfold rC
 by_cases h1:32≤c
 ·by_cases h2:c≤126
  ·cases h3:(c==34)<;>cases h4:(c==92) <;>
   (go_enter func231,ntmps231
    go_wp2
    all_goals (go_ret;simp_all))
  ·have hd:decide (c≤126)=false:=by simpa using h2
   rw[hd]
   go_enter func231,ntmps231
   go_wp2
   go_ret
   exact⟨aG (by simp),rfl⟩
 ·have hd:decide (32≤c)=false:=by simpa using h1
  rw[hd]
  go_enter func231,ntmps231
  go_wp2
  go_ret
  exact⟨aG (by simp),rfl⟩
theorem GH (c:Int) (hc:0≤c) (hc2:c≤255) (w:World) :
  Calls Tryz.prog 232 #[.int .u8 c] w fun e w'=>e=.returned (.int .i64 (oJ c))∧w'=w:=by
 by_cases h1:48≤c
 ·by_cases h2:c≤57
  ·have e:oJ c=c-48:=by unfold oJ;rw[if_pos ⟨h1,h2⟩]
   rw[e]
   go_enter func232,ntmps232
   go_wp2
   go_ret
   exact⟨rfl,rfl⟩
  ·by_cases h3:97≤c
   ·by_cases h4:c≤102
    ·have e:oJ c=c-87:=by unfold oJ;rw[if_neg (by omega),if_pos ⟨h3,h4⟩]
     rw[e]
     go_enter func232,ntmps232
     go_wp2
     go_ret
     exact⟨o8 (by omega),rfl⟩
    ·have e:oJ c = -1:=by unfold oJ;rw[if_neg (by omega),if_neg (by omega)]
     rw[e]
     go_enter func232,ntmps232
     go_wp2
     all_goals (go_ret;simp_all)
   ·have e:oJ c = -1:=by unfold oJ;rw[if_neg (by omega),if_neg (by omega)]
    rw[e]
    go_enter func232,ntmps232
    go_wp2
    all_goals (go_ret;simp_all)
 ·have e:oJ c = -1:=by unfold oJ;rw[if_neg (by omega),if_neg (by omega)]
  rw[e]
  go_enter func232,ntmps232
  go_wp2
  all_goals (go_ret;simp_all)
theorem pJ:∀ (m:Nat) (t:List UInt8) (f:Nat),t.length≤m→t.length+1≤f→iH f t=iH (t.length+1) t
 | m,[],f,_,hf=>by
  obtain⟨g,rfl⟩:∃ g,f=g+1:=⟨f-1,by simp at hf;omega⟩
  simp[iH]
 | 0,c::r,f,hm,hf=>by simp at hm
 | m+1,c::r,f,hm,hf=>by
  rw[List.length_cons] at hm hf ⊢
  obtain⟨g,rfl⟩:∃ g,f=g+1:=⟨f-1,by omega⟩
  unfold iH
  rw[pJ m r g (by omega) (by omega)]
  split
  ·rfl
  ·split
   ·match r with
    | []=>rfl
    | [a]=>rfl
    | a::b::r'=>
     simp only[List.length_cons] at hm hf ⊢
     rw[pJ m r' g (by omega) (by omega),pJ m r' (r'.length+1+1+1) (by omega) (by omega)]
   ·rfl
def dF (t:List UInt8):Got:=iH (t.length+1) t
theorem yP:dF []=none:=by simp[dF,iH]
theorem yQ (r:List UInt8):dF (34::r)=some ([],r):=by simp[dF,iH]
theorem uY {c:UInt8} (r:List UInt8) (h:jE c=true):dF (c::r)=(dF r).map fun x=>(c::x.1,x.2):=by
 have Ui:c≠34:=by intro e;subst e;exact absurd h (by decide)
 have D9:c≠92:=by intro e;subst e;exact absurd h (by decide)
 unfold dF
 rw[List.length_cons]
 conv=>lhs;unfold iH
 rw[if_neg Ui,if_neg D9,if_pos h]
theorem yR {c:UInt8} (r:List UInt8) (h:jE c=false) (Ui:c≠34) (D9:c≠92):dF (c::r)=none:=by
 unfold dF
 rw[List.length_cons]
 unfold iH
 rw[if_neg Ui,if_neg D9];simp[h]
theorem qy (r:List UInt8) (h:r.length<2):dF (92::r)=none:=by
 unfold dF
 match r,h with
 | [],_=>simp[iH]
 | [a],_=>simp[iH]
theorem yS (a b:UInt8) (r:List UInt8):dF (92::a::b::r)=match hexV a,hexV b with
  | some h,some l=>if jE (16*h+l).toUInt8 then none else(dF r).map fun x=>((16*h+l).toUInt8::x.1,x.2)
  | _,_=>none:=by
 unfold dF
 rw[List.length_cons]
 conv=>lhs;unfold iH
 rw[if_neg (by decide),if_pos rfl]
 simp only[List.length_cons]
 rw[pJ r.length r (r.length+1+1+1) (Nat.le_refl _) (by omega)]
 all_goals (cases hexV a<;>cases hexV b<;>rfl)
theorem Lm (t:List UInt8):uV t=(aK [34] t).bind dF:=rfl
end Go.Proofs.YtgalebcpagmohaaGreatDoor
