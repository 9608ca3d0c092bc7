/- Values as texts and as bytes: the document's own way, over lists of bytes (no walk). -/
import Derived.Test.YtdgcamlmjmnpeaaGreatDoorMCheck
import Derived.Lib.ParseIntB
import Derived.Lib.ItoaNum
import Derived.Test.YtdgcamlmjmnpeaaGreatDoorMPRead
import Derived.Test.YtdgcamlmjmnpeaaGreatDoorShelf2
namespace Go.Proofs.YtdgcamlmjmnpeaaGreatDoor
def vintK:Nat → Nat → List UInt8
  | 0,n => [n.toUInt8]
  | k + 1,n => if n < 128 then [n.toUInt8] else (n % 128 + 128).toUInt8 :: vintK k (n / 128)
theorem vintK_eq:∀ (k m n:Nat),n ≤ k → n ≤ m → vintK k n = vintK m n
  | 0,0,_,_,_ => rfl
  | 0,_ + 1,n,h,_ => by simp [vintK,show n < 128 by omega]
  | _ + 1,0,n,_,h => by simp [vintK,show n < 128 by omega]
  | k + 1,m + 1,n,h,h' => by
    unfold vintK
    split
    · rfl
    · rw [vintK_eq k m (n / 128) (by omega) (by omega)]
def vint (n:Nat):List UInt8 := vintK n n
theorem vint_lt {n:Nat} (h:n < 128):vint n = [n.toUInt8] := by cases n <;> simp [vint,vintK,h]
theorem vint_ge {n:Nat} (h:¬ n < 128):vint n = (n % 128 + 128).toUInt8 :: vint (n / 128) := by
  obtain ⟨k,rfl⟩:∃ k,n = k + 1 := ⟨n - 1,by omega⟩
  unfold vint
  rw [vintK,if_neg h,vintK_eq k ((k + 1) / 128) _ (by omega) (by omega)]
def vsized (b:List UInt8):List UInt8:=vint b.length ++ b
def zigN (n:Int):Nat:=if n < 0 then (-2 * n - 1).toNat else (2 * n).toNat
def intC (c:UInt8):Bool:=c == 45 || (decide (48 ≤ c) && decide (c ≤ 57))
def nameC (c:UInt8):Bool:=(decide (97 ≤ c) && decide (c ≤ 122)) || (decide (48 ≤ c) && decide (c ≤ 57))
def wideC (c:UInt8):Bool:=nameC c || c == 45
def plainC (c:UInt8):Bool:=decide (32 ≤ c) && decide (c ≤ 126) && c != 34 && c != 92
def hexV (c:UInt8):Option Nat:=if decide (48 ≤ c) && decide (c ≤ 57) then some (c.toNat - 48) else if decide (97 ≤ c) && decide (c ≤ 102) then some (c.toNat - 87) else none
abbrev Got:=Option (List UInt8 × List UInt8)
def eatP (p t:List UInt8):Option (List UInt8):=if p.isPrefixOf t then some (t.drop p.length) else none
def intOf (run:List UInt8):Option Int:=match Lib.parseIntB 64 run with
 | .ok v=>if Lib.itoa v = run then some v else none
 | _=>none
def intP (ci:UInt8 → Bool) (t:List UInt8):Got:=(intOf (t.takeWhile ci)).map fun n=>(vint (zigN n),t.dropWhile ci)
def choP (cn:UInt8 → Bool) (names:List (List UInt8)) (t:List UInt8):Got:=(names.findIdx? (fun n=>n == t.takeWhile cn)).map fun i=>(vint i,t.dropWhile cn)
def lettersP:Nat → List UInt8 → Got
 | 0,_=>none
 | _ + 1,[]=>none
 | n + 1,c :: r =>
  if c = 34 then some ([],r)
  else if c = 92 then match r with
   | a :: b :: r'=>match hexV a,hexV b with
    | some h,some l=>if plainC (16 * h + l).toUInt8 then none else (lettersP n r').map fun x=>((16 * h + l).toUInt8 :: x.1,x.2)
    | _,_=>none
   | _=>none
  else if plainC c then (lettersP n r).map fun x=>(c :: x.1,x.2) else none
def textP (t:List UInt8):Got:=(eatP [34] t).bind fun r=>lettersP (r.length + 1) r
structure FD where
 number:Nat
 name:List UInt8
 shape:Nat
 base:List UInt8
abbrev TD := List (List UInt8) ⊕ List FD
def listGo (val:List UInt8 → Got):Nat → Bool → List UInt8 → Got
 | k,first,t=>match eatP [93] t with
  | some r=>some ([],r)
  | none=>match k with
   | 0=>none
   | k + 1=>(if first then some t else eatP [44] t).bind fun t1=>(val t1).bind fun v=>(listGo val k false v.2).map fun o=>(vsized v.1 ++ o.1,o.2)
def listP (val:List UInt8 → Got) (t:List UInt8):Got:=(eatP [91] t).bind (listGo val 16 true)
def fieldsGo (val lst:List UInt8 → List UInt8 → Got):List FD → Bool → List UInt8 → Got
 | [],_,t=>(eatP [125] t).map fun r=>([],r)
 | f :: fs,first,t=>match eatP ((if first then [] else [44]) ++ f.name ++ [58]) t with
  | none=>if f.shape = 1 then fieldsGo val lst fs first t else none
  | some t1=>(if f.shape = 2 then lst f.base t1 else val f.base t1).bind fun v=>(fieldsGo val lst fs false v.2).map fun o=>(vint f.number ++ vsized v.1 ++ o.1,o.2)
def msgP (val lst:List UInt8 → List UInt8 → Got) (fs:List FD) (t:List UInt8):Got:=(eatP [123] t).bind (fieldsGo val lst fs true)
def wInt:List UInt8:=[105,110,116]
def wBool:List UInt8:=[98,111,111,108]
def wText:List UInt8:=[116,101,120,116]
def boolNames:List (List UInt8):=[[102,97,108,115,101],[116,114,117,101]]
def valP (ci cn:UInt8 → Bool) (ty:List UInt8 → Option TD) (msg:List FD → List UInt8 → Got) (base t:List UInt8):Got :=
 if base = wInt then intP ci t else if base = wBool then choP cn boolNames t else if base = wText then textP t
 else match ty base with
  | none=>none
  | some (.inl ns)=>choP cn ns t
  | some (.inr fs)=>msg fs t
def encE (ci cn:UInt8 → Bool) (ty:List UInt8 → Option TD):Nat → (List UInt8 → List UInt8 → Got) × (List UInt8 → List UInt8 → Got)
 | 0=>(valP ci cn ty (fun _ _=>none),fun _ _=>none)
 | n + 1=>(valP ci cn ty (msgP (encE ci cn ty n).1 (encE ci cn ty n).2),fun b t=>listP ((encE ci cn ty n).1 b) t)
/-! the two ways to take a run of signs come to the same -/
def Ends (r:List UInt8):Prop:=∀ c l,r = c :: l → wideC c = false
theorem takeWhile_eq {p q:UInt8 → Bool} (hpq:∀ c,p c = true → q c = true):∀ t:List UInt8,(∀ c l,t.dropWhile p = c :: l → q c = false) → t.takeWhile q = t.takeWhile p ∧ t.dropWhile q = t.dropWhile p
 | [],_=>by simp
 | c :: r,h=>by
  cases hp:p c with
  | true =>
   have hq:=hpq c hp
   have:=takeWhile_eq hpq r (fun d l e=>h d l (by rw [List.dropWhile_cons,hp];exact e))
   rw [List.takeWhile_cons,List.takeWhile_cons,List.dropWhile_cons,List.dropWhile_cons,hp,hq]
   simp [this.1,this.2]
  | false =>
   have hq:q c = false:=h c r (by rw [List.dropWhile_cons,hp];rfl)
   rw [List.takeWhile_cons,List.takeWhile_cons,List.dropWhile_cons,List.dropWhile_cons,hp,hq]
   simp
theorem takeWhile_sub {p q:UInt8 → Bool} (hpq:∀ c,p c = true → q c = true):∀ t:List UInt8,(∀ c ∈ t.takeWhile q,p c = true) → t.takeWhile p = t.takeWhile q ∧ t.dropWhile p = t.dropWhile q
 | [],_=>by simp
 | c :: r,h=>by
  cases hq:q c with
  | true =>
   have hp:p c = true:=h c (by rw [List.takeWhile_cons,hq];simp)
   have:=takeWhile_sub hpq r (fun d hd=>h d (by rw [List.takeWhile_cons,hq];simp [hd]))
   rw [List.takeWhile_cons,List.takeWhile_cons,List.dropWhile_cons,List.dropWhile_cons,hp,hq]
   simp [this.1,this.2]
  | false =>
   have hp:p c = false:=by
    cases hp:p c with
    | false=>rfl
    | true=>rw [hpq c hp] at hq;cases hq
   rw [List.takeWhile_cons,List.takeWhile_cons,List.dropWhile_cons,List.dropWhile_cons,hp,hq]
   simp
theorem int_wide (c:UInt8) (h:intC c = true):wideC c = true:=by
 simp only [intC,wideC,nameC,Bool.or_eq_true] at h ⊢
 rcases h with h | h
 ·exact Or.inr h
 ·exact Or.inl (Or.inr h)
theorem name_wide (c:UInt8) (h:nameC c = true):wideC c = true:=by simp [wideC,h]
theorem dig_int (d:Nat) (h:d < 10):intC (UInt8.ofNat (48 + d)) = true:=by
 have:∀ d:Fin 10,intC (UInt8.ofNat (48 + d.val)) = true:=by decide
 exact this ⟨d,h⟩
theorem dec_int (u:Nat):∀ c ∈ Lib.decDigits u,intC c = true:=by
 induction u using Nat.strongRecOn with
 | _ u ih =>
  intro c hc
  rw [Lib.decDigits] at hc
  by_cases h:u < 10
  ·rw [dif_pos h] at hc
   rw [List.mem_singleton.1 hc];exact dig_int u h
  ·rw [dif_neg h] at hc
   rcases List.mem_append.1 hc with hc | hc
   ·exact ih (u / 10) (by omega) c hc
   ·rw [List.mem_singleton.1 hc];exact dig_int _ (by omega)
theorem itoa_int (n:Int):∀ c ∈ Lib.itoa n,intC c = true:=by
 intro c hc
 unfold Lib.itoa at hc
 split at hc
 ·rcases List.mem_cons.1 hc with rfl | hc
  ·decide
  ·exact dec_int _ c hc
 ·exact dec_int _ c hc
theorem intOf_some {run:List UInt8} {n:Int} (h:intOf run = some n):Lib.itoa n = run:=by
 unfold intOf at h
 split at h
 ·split at h
  ·rename_i e;cases h;exact e
  ·cases h
 ·cases h
theorem intP_loose {t:List UInt8} {x:List UInt8 × List UInt8} (h:intP wideC t = some x):intP intC t = some x:=by
 unfold intP at h ⊢
 obtain ⟨n,hn,rfl⟩:=Option.map_eq_some_iff.1 h
 obtain ⟨e1,e2⟩:=takeWhile_sub int_wide t (fun c hc=>by rw [← intOf_some hn] at hc;exact itoa_int n c hc)
 rw [e1,e2,hn];rfl
theorem intP_strict {t v r:List UInt8} (h:intP intC t = some (v,r)) (hr:Ends r):intP wideC t = some (v,r):=by
 unfold intP at h ⊢
 obtain ⟨n,hn,e⟩:=Option.map_eq_some_iff.1 h
 simp only [Prod.mk.injEq] at e
 obtain ⟨rfl,rfl⟩:=e
 obtain ⟨e1,e2⟩:=takeWhile_eq int_wide t hr
 rw [e1,e2,hn];rfl
theorem choP_loose {ns:List (List UInt8)} (hns:∀ n ∈ ns,∀ c ∈ n,nameC c = true) {t:List UInt8} {x:List UInt8 × List UInt8} (h:choP wideC ns t = some x):choP nameC ns t = some x:=by
 unfold choP at h ⊢
 obtain ⟨i,hi,rfl⟩:=Option.map_eq_some_iff.1 h
 have hm:=hi
 rw [List.findIdx?_eq_some_iff_getElem] at hm
 obtain ⟨hlt,he,_⟩:=hm
 obtain ⟨e1,e2⟩:=takeWhile_sub name_wide t (fun c hc=>by rw [← eq_of_beq he] at hc;exact hns _ (List.getElem_mem hlt) c hc)
 rw [e1,e2,hi];rfl
theorem choP_strict {ns:List (List UInt8)} {t v r:List UInt8} (h:choP nameC ns t = some (v,r)) (hr:Ends r):choP wideC ns t = some (v,r):=by
 unfold choP at h ⊢
 obtain ⟨i,hi,e⟩:=Option.map_eq_some_iff.1 h
 simp only [Prod.mk.injEq] at e
 obtain ⟨rfl,rfl⟩:=e
 obtain ⟨e1,e2⟩:=takeWhile_eq name_wide t hr
 rw [e1,e2,hi];rfl
def NamesOk (ty:List UInt8 → Option TD):Prop:=∀ b ns,ty b = some (.inl ns) → ∀ n ∈ ns,∀ c ∈ n,nameC c = true
theorem valP_loose {ty:List UInt8 → Option TD} (hn:NamesOk ty) {msg msg':List FD → List UInt8 → Got} (hm:∀ fs t x,msg' fs t = some x → msg fs t = some x) {b t:List UInt8} {x:List UInt8 × List UInt8} (h:valP wideC wideC ty msg' b t = some x):valP intC nameC ty msg b t = some x:=by
 unfold valP at h ⊢
 split at h
 ·rw [if_pos ‹_›];exact intP_loose h
 ·rw [if_neg ‹_›]
  split at h
  ·rw [if_pos ‹_›];exact choP_loose (by decide) h
  ·rw [if_neg ‹_›]
   split at h
   ·rw [if_pos ‹_›];exact h
   ·rw [if_neg ‹_›]
    cases e:ty b with
    | none=>rw [e] at h;cases h
    | some d =>
     rw [e] at h
     cases d with
     | inl ns =>exact choP_loose (hn b ns e) h
     | inr fs =>exact hm fs t x h
theorem valP_strict {ty:List UInt8 → Option TD} {msg msg':List FD → List UInt8 → Got} (hm:∀ fs t x,msg fs t = some x → msg' fs t = some x) {b t v r:List UInt8} (h:valP intC nameC ty msg b t = some (v,r)) (hr:Ends r):valP wideC wideC ty msg' b t = some (v,r):=by
 unfold valP at h ⊢
 split at h
 ·rw [if_pos ‹_›];exact intP_strict h hr
 ·rw [if_neg ‹_›]
  split at h
  ·rw [if_pos ‹_›];exact choP_strict h hr
  ·rw [if_neg ‹_›]
   split at h
   ·rw [if_pos ‹_›];exact h
   ·rw [if_neg ‹_›]
    cases e:ty b with
    | none=>rw [e] at h;cases h
    | some d =>
     rw [e] at h
     cases d with
     | inl ns =>exact choP_strict h hr
     | inr fs =>exact hm fs t _ h
theorem eatP_some {p t r:List UInt8} (h:eatP p t = some r):t = p ++ r:=by
 unfold eatP at h
 split at h
 ·rename_i hp
  cases h
  obtain ⟨s,rfl⟩:=List.isPrefixOf_iff_prefix.1 hp
  simp
 ·cases h
theorem eat_ends {c:UInt8} {p t r:List UInt8} (hc:wideC c = false) (h:eatP (c :: p) t = some r):Ends t:=by
 have:=eatP_some h
 intro d l e
 rw [this] at e
 simp only [List.cons_append,List.cons.injEq] at e
 rw [← e.1];exact hc
theorem listGo_ends {val:List UInt8 → Got} {k:Nat} {t:List UInt8} {x:List UInt8 × List UInt8} (h:listGo val k false t = some x):Ends t:=by
 unfold listGo at h
 cases e:eatP [93] t with
 | some r=>exact eat_ends (by decide) e
 | none =>
  rw [e] at h
  cases k with
  | zero=>cases h
  | succ k =>
   obtain ⟨t1,h1,_⟩:=Option.bind_eq_some_iff.1 h
   exact eat_ends (by decide) h1
theorem listGo_mono {val val':List UInt8 → Got} (hv:∀ t x,val' t = some x → val t = some x):∀ (k:Nat) (f:Bool) (t:List UInt8) (x:List UInt8 × List UInt8),listGo val' k f t = some x → listGo val k f t = some x:=by
 intro k
 induction k with
 | zero =>
  intro f t x h
  unfold listGo at h ⊢
  cases e:eatP [93] t with
  | some r=>rw [e] at h;exact h
  | none=>rw [e] at h;cases h
 | succ k ih =>
  intro f t x h
  unfold listGo at h ⊢
  cases e:eatP [93] t with
  | some r=>rw [e] at h;exact h
  | none =>
   rw [e] at h
   obtain ⟨t1,h1,h⟩:=Option.bind_eq_some_iff.1 h
   obtain ⟨v,h2,h⟩:=Option.bind_eq_some_iff.1 h
   obtain ⟨o,h3,rfl⟩:=Option.map_eq_some_iff.1 h
   exact Option.bind_eq_some_iff.2 ⟨t1,h1,Option.bind_eq_some_iff.2 ⟨v,hv _ _ h2,Option.map_eq_some_iff.2 ⟨o,ih _ _ _ h3,rfl⟩⟩⟩
theorem listGo_strict {val val':List UInt8 → Got} (hv:∀ t v r,val t = some (v,r) → Ends r → val' t = some (v,r)):∀ (k:Nat) (f:Bool) (t:List UInt8) (x:List UInt8 × List UInt8),listGo val k f t = some x → listGo val' k f t = some x:=by
 intro k
 induction k with
 | zero =>
  intro f t x h
  unfold listGo at h ⊢
  cases e:eatP [93] t with
  | some r=>rw [e] at h;exact h
  | none=>rw [e] at h;cases h
 | succ k ih =>
  intro f t x h
  unfold listGo at h ⊢
  cases e:eatP [93] t with
  | some r=>rw [e] at h;exact h
  | none =>
   rw [e] at h
   obtain ⟨t1,h1,h⟩:=Option.bind_eq_some_iff.1 h
   obtain ⟨⟨v,r⟩,h2,h⟩:=Option.bind_eq_some_iff.1 h
   obtain ⟨o,h3,rfl⟩:=Option.map_eq_some_iff.1 h
   exact Option.bind_eq_some_iff.2 ⟨t1,h1,Option.bind_eq_some_iff.2 ⟨(v,r),hv _ _ _ h2 (listGo_ends h3),Option.map_eq_some_iff.2 ⟨o,ih _ _ _ h3,rfl⟩⟩⟩
theorem fieldsGo_ends {val lst:List UInt8 → List UInt8 → Got}:∀ (fs:List FD) (t:List UInt8) (x:List UInt8 × List UInt8),fieldsGo val lst fs false t = some x → Ends t
 | [],t,x,h=>by
  unfold fieldsGo at h
  obtain ⟨r,h1,_⟩:=Option.map_eq_some_iff.1 h
  exact eat_ends (by decide) h1
 | f :: fs,t,x,h=>by
  unfold fieldsGo at h
  cases e:eatP ((if false = true then [] else [44]) ++ f.name ++ [58]) t with
  | some t1=>exact eat_ends (by decide) e
  | none =>
   rw [e] at h
   by_cases hs:f.shape = 1
   ·simp only [if_pos hs] at h
    exact fieldsGo_ends fs t x h
   ·simp only [if_neg hs] at h
    cases h
theorem fieldsGo_mono {val lst val' lst':List UInt8 → List UInt8 → Got} (hv:∀ b t x,val' b t = some x → val b t = some x) (hl:∀ b t x,lst' b t = some x → lst b t = some x):∀ (fs:List FD) (f:Bool) (t:List UInt8) (x:List UInt8 × List UInt8),fieldsGo val' lst' fs f t = some x → fieldsGo val lst fs f t = some x
 | [],f,t,x,h=>h
 | g :: fs,f,t,x,h=>by
  unfold fieldsGo at h ⊢
  cases e:eatP ((if f = true then [] else [44]) ++ g.name ++ [58]) t with
  | some t1 =>
   rw [e] at h
   obtain ⟨v,h2,h⟩:=Option.bind_eq_some_iff.1 h
   obtain ⟨o,h3,rfl⟩:=Option.map_eq_some_iff.1 h
   refine Option.bind_eq_some_iff.2 ⟨v,?_,Option.map_eq_some_iff.2 ⟨o,fieldsGo_mono hv hl fs _ _ _ h3,rfl⟩⟩
   split at h2
   ·rw [if_pos ‹_›];exact hl _ _ _ h2
   ·rw [if_neg ‹_›];exact hv _ _ _ h2
  | none =>
   rw [e] at h
   by_cases hs:g.shape = 1
   ·simp only [if_pos hs] at h ⊢
    exact fieldsGo_mono hv hl fs f t x h
   ·simp only [if_neg hs] at h
    cases h
theorem fieldsGo_strict {val lst val' lst':List UInt8 → List UInt8 → Got} (hv:∀ b t v r,val b t = some (v,r) → Ends r → val' b t = some (v,r)) (hl:∀ b t x,lst b t = some x → lst' b t = some x):∀ (fs:List FD) (f:Bool) (t:List UInt8) (x:List UInt8 × List UInt8),fieldsGo val lst fs f t = some x → fieldsGo val' lst' fs f t = some x
 | [],f,t,x,h=>h
 | g :: fs,f,t,x,h=>by
  unfold fieldsGo at h ⊢
  cases e:eatP ((if f = true then [] else [44]) ++ g.name ++ [58]) t with
  | some t1 =>
   rw [e] at h
   obtain ⟨⟨v,r⟩,h2,h⟩:=Option.bind_eq_some_iff.1 h
   obtain ⟨o,h3,rfl⟩:=Option.map_eq_some_iff.1 h
   refine Option.bind_eq_some_iff.2 ⟨(v,r),?_,Option.map_eq_some_iff.2 ⟨o,fieldsGo_strict hv hl fs _ _ _ h3,rfl⟩⟩
   split at h2
   ·rw [if_pos ‹_›];exact hl _ _ _ h2
   ·rw [if_neg ‹_›];exact hv _ _ _ _ h2 (fieldsGo_ends fs _ _ h3)
  | none =>
   rw [e] at h
   by_cases hs:g.shape = 1
   ·simp only [if_pos hs] at h ⊢
    exact fieldsGo_strict hv hl fs f t x h
   ·simp only [if_neg hs] at h
    cases h
theorem encE_loose {ty:List UInt8 → Option TD} (hn:NamesOk ty):∀ n,(∀ b t x,(encE wideC wideC ty n).1 b t = some x → (encE intC nameC ty n).1 b t = some x) ∧ (∀ b t x,(encE wideC wideC ty n).2 b t = some x → (encE intC nameC ty n).2 b t = some x)
 | 0=>⟨fun b t x h=>by unfold encE at h ⊢;exact valP_loose hn (msg':=fun _ _=>none) (fun _ _ _ h=>h) h,fun b t x h=>by unfold encE at h;cases h⟩
 | n + 1=>by
  obtain ⟨i1,i2⟩:=encE_loose hn n
  refine ⟨fun b t x h=>valP_loose hn (fun fs t x h=>?_) h,fun b t x h=>?_⟩
  ·obtain ⟨r,h1,h2⟩:=Option.bind_eq_some_iff.1 h
   exact Option.bind_eq_some_iff.2 ⟨r,h1,fieldsGo_mono i1 i2 fs true r x h2⟩
  ·obtain ⟨r,h1,h2⟩:=Option.bind_eq_some_iff.1 h
   exact Option.bind_eq_some_iff.2 ⟨r,h1,listGo_mono (i1 b) 16 true r x h2⟩
theorem encE_strict {ty:List UInt8 → Option TD}:∀ n,(∀ b t v r,(encE intC nameC ty n).1 b t = some (v,r) → Ends r → (encE wideC wideC ty n).1 b t = some (v,r)) ∧ (∀ b t x,(encE intC nameC ty n).2 b t = some x → (encE wideC wideC ty n).2 b t = some x)
 | 0=>⟨fun b t v r h hr=>by unfold encE at h ⊢;exact valP_strict (msg:=fun _ _=>none) (fun _ _ _ h=>h) h hr,fun b t x h=>by unfold encE at h;cases h⟩
 | n + 1=>by
  obtain ⟨i1,i2⟩:=encE_strict (ty:=ty) n
  refine ⟨fun b t v r h hr=>valP_strict (fun fs t x h=>?_) h hr,fun b t x h=>?_⟩
  ·obtain ⟨r,h1,h2⟩:=Option.bind_eq_some_iff.1 h
   exact Option.bind_eq_some_iff.2 ⟨r,h1,fieldsGo_strict i1 i2 fs true r x h2⟩
  ·obtain ⟨r,h1,h2⟩:=Option.bind_eq_some_iff.1 h
   exact Option.bind_eq_some_iff.2 ⟨r,h1,listGo_strict (i1 b) 16 true r x h2⟩
theorem enc_same {ty:List UInt8 → Option TD} (hn:NamesOk ty) (n:Nat) (b t v:List UInt8):(encE intC nameC ty n).1 b t = some (v,[]) ↔ (encE wideC wideC ty n).1 b t = some (v,[]) :=
 ⟨fun h=>(encE_strict n).1 b t v [] h (fun c l e=>by cases e),fun h=>(encE_loose hn n).1 b t _ h⟩
end Go.Proofs.YtdgcamlmjmnpeaaGreatDoor
namespace Go.Proofs.YtdgcamlmjmnpeaaGreatDoor
open Go.RowKit
theorem vint_len:∀ (k n:Nat),n < 128 ^ (k + 1) → (vint n).length ≤ k + 1
 | 0,n,h=>by rw [vint_lt (by simpa using h)];simp
 | k + 1,n,h=>by
  by_cases h':n < 128
  ·rw [vint_lt h'];simp
  ·rw [vint_ge h',List.length_cons]
   have:=vint_len k (n / 128) (by rw [Nat.pow_succ] at h;omega)
   omega
theorem vint_len10 (n:Nat) (h:n < 18446744073709551616):(vint n).length ≤ 10:=by
 have e:(128:Nat) ^ (9 + 1) = 1180591620717411303424:=by decide
 exact vint_len 9 n (by rw [e];omega)
theorem vint_pos (n:Nat):1 ≤ (vint n).length:=by
 by_cases h:n < 128
 ·rw [vint_lt h];simp
 ·rw [vint_ge h];simp
theorem u8_lt {m:Nat} (h:m < 256):(m.toUInt8.toNat:Int) = (m:Int):=by
 have:m.toUInt8.toNat = m:=by simp [Nat.toUInt8,UInt8.toNat_ofNat',Nat.mod_eq_of_lt h]
 rw [this]
theorem or128 (g:Nat):bits BinOp.or IntKind.u8 ((g:Int) % 256) 128 = (((g % 128 + 128).toUInt8).toNat:Int):=by
 rw [u8_lt (by omega)]
 have all:∀ a:Fin 256,bits BinOp.or IntKind.u8 ((a.val:Nat):Int) 128 = ((a.val % 128 + 128:Nat):Int):=by decide +kernel
 have:=all ⟨g % 256,by omega⟩
 rw [show ((g:Int) % 256) = ((g % 256:Nat):Int) by omega,this]
 show (((g % 256) % 128 + 128:Nat):Int) = ((g % 128 + 128:Nat):Int)
 omega
set_option maxRecDepth 100000 in
set_option maxHeartbeats 1000000 in
theorem numAppend_any (w:World) (lo:Nat) (v:Value) (L:List UInt8) (n:Nat) (h:Bys w lo v L) (hn:n < 18446744073709551616) (hl:L.length ≤ 10000000000) (hlo:lo ≤ w.heap.size) :
  Calls Tryz.prog 87 #[v,.int .u64 n] w fun e w'=>∃ a c,e = .returned (.slice a (L ++ vint n).length c) ∧ Bys w' lo (.slice a (L ++ vint n).length c) (L ++ vint n) ∧ Grew w w' v (.slice a (L ++ vint n).length c):=by
 obtain ⟨la,lc,hlv⟩:∃ a c,v = .slice a L.length c:=own_slice h
 subst hlv
 have H:=hid h
 clear h
 go_enter Tryz.func87,Tryz.ntmps87
 go_wp2_with fail
 go_loopg [0,1] n (fun gk dv nv wr=>∃ M:List UInt8,nv = .int .u64 gk ∧ gk ≤ n ∧ Hid (L ++ vint n = M ++ vint gk) ∧ M.length ≤ L.length + 10 ∧ Hid (Bys wr lo dv M) ∧ Hid (Grew w wr (.slice la L.length lc) dv))
 case atStart=>exact ⟨L,rfl,Nat.le_refl _,hid rfl,by omega,hid H.out,hid (Grew.refl _ _)⟩
 case round =>
  obtain ⟨M,rfl,hgk,HE,hM,HB,HG⟩:=hrel
  obtain ⟨na,nc,hnv⟩:∃ a c,u0 = .slice a M.length c:=own_slice HB.out
  subst hnv
  have hsz:=HG.out.g.size
  have hML:M.length + 1 ≤ L.length + 10:=by
   have h1:=congrArg List.length HE.out
   have h2:=vint_len10 n hn
   have h3:=vint_pos gk
   simp only [List.length_append] at h1
   omega
  by_cases hge:128 ≤ gk
  ·have hge':(128:Int) ≤ (gk:Int):=by omega
   have hz1:=or128 gk
   have HV0:=vint_ge (n:=gk) (by omega)
   generalize (gk % 128 + 128).toUInt8 = c at hz1 HV0
   have HV:=hid HV0
   clear HV0
   go_wp2_with (at_builtin;refine wpList_append_by _ rfl _ _ rfl _ M lo rfl (HB.out.same ((Below.refl _ _).alloc (Nat.le_refl _) _)) _ [c] _ rfl (bys_one _ _ _ (by first | rfl | exact hz1)) (by simp;omega) (by simp;omega) ?_)
   intro a1 c1 w1 hb1 hg1
   have HG1:=hid (HG.out.trans ((Grew.call ((Below.refl _ _).alloc (Nat.le_refl _) _)).trans hg1))
   have HB1:=hid hb1
   clear hb1 hg1
   go_wp2_with fail
   go_roundg (gk / 128)
   case rel=>exact ⟨M ++ [c],by go_num,by omega,hid (by rw [HE.out,HV.out];simp),by rw [List.length_append,List.length_singleton];omega,hid (by simpa using HB1.out),hid (by simpa using HG1.out)⟩
   case measure=>omega
  ·have hge':¬ (128:Int) ≤ (gk:Int):=by omega
   have hz1:(gk:Int) = (gk.toUInt8.toNat:Int):=(u8_lt (by omega)).symm
   have HV0:=vint_lt (n:=gk) (by omega)
   generalize gk.toUInt8 = c at hz1 HV0
   have HV:=hid HV0
   clear HV0
   go_wp2_with (at_builtin;refine wpList_append_by _ rfl _ _ rfl _ M lo rfl (HB.out.same ((Below.refl _ _).alloc (Nat.le_refl _) _)) _ [c] _ rfl (bys_one _ _ _ (by omega)) (by simp;omega) (by simp;omega) ?_)
   intro a1 c1 w1 hb1 hg1
   have HG1:=hid (HG.out.trans ((Grew.call ((Below.refl _ _).alloc (Nat.le_refl _) _)).trans hg1))
   have HB1:=hid hb1
   clear hb1 hg1
   have HR:=hid (show M ++ [c] = L ++ vint n by rw [HE.out,HV.out])
   go_wp2_with fail
   go_ret
   exact ⟨a1,c1,by rw [← HR.out];simp,by rw [← HR.out];simpa using HB1.out,by rw [← HR.out];simpa using HG1.out⟩
def SizedPost (w:World) (lo:Nat) (v:Value) (L B:List UInt8) (e:Ending) (w':World):Prop:=∃ a c,e = .returned (.slice a (L ++ vsized B).length c) ∧ Bys w' lo (.slice a (L ++ vsized B).length c) (L ++ vsized B) ∧ Grew w w' v (.slice a (L ++ vsized B).length c)
set_option maxRecDepth 100000 in
set_option maxHeartbeats 1000000 in
theorem appendCounted_any (w:World) (lo lo2:Nat) (v v2:Value) (L B:List UInt8) (h:Bys w lo v L) (h2:Bys w lo2 v2 B) (hne:Apt v v2) (hl:L.length ≤ 1000000000) (hl2:B.length ≤ 1000000000) (hlo:lo ≤ w.heap.size) :
  Calls Tryz.prog 92 #[v,v2] w (SizedPost w lo v L B):=by
 unfold SizedPost
 obtain ⟨la,lc,hlv⟩:∃ a c,v = .slice a L.length c:=own_slice h
 subst hlv
 obtain ⟨ba,bc,hbv⟩:∃ a c,v2 = .slice a B.length c:=own_slice h2
 subst hbv
 have H:=hid h
 have H2:=hid h2
 have HN:=hid hne
 clear h h2 hne
 go_enter Tryz.func92,Tryz.ntmps92
 go_wp2_with fail
 refine (numAppend_any _ lo _ L B.length H.out (by omega) (by omega) hlo).mono ?_;rintro e w1 ⟨a1,c1,rfl,hb1,hg1⟩
 have hz:=hg1.g.size
 have hv10:=vint_len10 B.length (by omega)
 have HB2:=hid (show Bys w1 lo2 (.slice ba B.length bc) B from own_same H2.out (fun g hg=>hg1.g.block g (H2.out.lt g hg).2 (fun e=>HN.out g e.symm hg)))
 have HB1:=hid hb1
 have HG1:=hid hg1
 have hl3:(L ++ vint B.length).length ≤ L.length + 10:=by rw [List.length_append];omega
 have HT:=hid (show (L ++ vint B.length) ++ B = L ++ vsized B by unfold vsized;rw [List.append_assoc])
 clear hb1 hg1
 generalize L ++ vint B.length = M at *
 go_wp2_with (at_builtin;refine wpList_append_by _ rfl _ _ rfl _ M lo rfl HB1.out _ B _ rfl HB2.out (by omega) (by omega) ?_)
 intro a3 c3 w3 hb3 hg3
 have HB3:=hid hb3
 have HG3:=hid (HG1.out.trans hg3)
 clear hb3 hg3
 go_wp2_with fail
 go_ret
 exact ⟨a3,c3,by rw [← HT.out];simp,by rw [← HT.out];simpa using HB3.out,by rw [← HT.out];simpa using HG3.out⟩
end Go.Proofs.YtdgcamlmjmnpeaaGreatDoor
namespace Go.Proofs.YtdgcamlmjmnpeaaGreatDoor
open Go.RowKit
def tailB (s:ByteArray) (i:Nat):List UInt8:=s.toList.drop i
theorem ext_list (s:ByteArray) (i j:Nat):(s.extract i j).toList = (s.toList.drop i).take (j - i):=by
 rw [Lib.extract_toList,ByteArray.toList_eq]
theorem size_list (s:ByteArray):s.toList.length = s.size:=by rw [ByteArray.toList_eq];exact Array.length_toList
theorem But.drewN {pb:Nat} (w:World) (n:Nat):But pb w (w.drewN n):=But.ofBelow (below_drewN (Below.refl _ _) n)
theorem tail_cons (s:ByteArray) (k:Nat) (h:k < s.size):tailB s k = s[k]'h :: tailB s (k + 1):=by
 unfold tailB
 have hl:k < s.toList.length:=by rw [size_list];exact h
 rw [List.drop_eq_getElem_cons hl]
 congr 1
 obtain ⟨l⟩:=s
 simp [ByteArray.toList_eq,ByteArray.getElem_eq_getElem_data]
theorem takeWhile_take {p:UInt8 → Bool}:∀ l:List UInt8,l.take (l.takeWhile p).length = l.takeWhile p ∧ l.drop (l.takeWhile p).length = l.dropWhile p
 | []=>by simp
 | c :: r=>by
  rw [List.takeWhile_cons,List.dropWhile_cons]
  cases p c with
  | true=>have:=takeWhile_take (p:=p) r;simp [this.1,this.2]
  | false=>simp
end Go.Proofs.YtdgcamlmjmnpeaaGreatDoor
namespace Go.Proofs.YtdgcamlmjmnpeaaGreatDoor
open Go.RowKit
def plainI (c:Int):Bool:=decide (32 ≤ c) && decide (c ≤ 126) && !(c == 34) && !(c == 92)
def hexI (c:Int):Int:=if 48 ≤ c ∧ c ≤ 57 then c - 48 else if 97 ≤ c ∧ c ≤ 102 then c - 87 else -1
theorem plain_eq (c:UInt8):plainC c = plainI (c.toNat:Int):=by
 have all:∀ a:Fin 256,plainC (UInt8.ofNat a.val) = plainI ((UInt8.ofNat a.val).toNat:Int):=by decide +kernel
 have:=all ⟨c.toNat,c.toNat_lt⟩
 simpa using this
theorem hex_eq (c:UInt8):(match hexV c with | some h=>(h:Int) | none=>-1) = hexI (c.toNat:Int):=by
 have all:∀ a:Fin 256,(match hexV (UInt8.ofNat a.val) with | some h=>(h:Int) | none=>-1) = hexI ((UInt8.ofNat a.val).toNat:Int):=by decide +kernel
 have:=all ⟨c.toNat,c.toNat_lt⟩
 simpa using this
theorem hexI_range (c:Int):hexI c = -1 ∨ (0 ≤ hexI c ∧ hexI c ≤ 15):=by unfold hexI;split <;> (try split) <;> omega
theorem letters_fuel:∀ (m:Nat) (t:List UInt8) (f:Nat),t.length ≤ m → t.length + 1 ≤ f → lettersP f t = lettersP (t.length + 1) t
 | m,[],f,_,hf=>by
  obtain ⟨g,rfl⟩:∃ g,f = g + 1:=⟨f - 1,by simp at hf;omega⟩
  simp [lettersP]
 | 0,c :: r,f,hm,hf=>by simp at hm
 | m + 1,c :: r,f,hm,hf=>by
  rw [List.length_cons] at hm hf ⊢
  obtain ⟨g,rfl⟩:∃ g,f = g + 1:=⟨f - 1,by omega⟩
  unfold lettersP
  rw [letters_fuel m r g (by omega) (by omega)]
  split
  ·rfl
  ·split
   ·match r with
    | []=>rfl
    | [a]=>rfl
    | a :: b :: r' =>
     simp only [List.length_cons] at hm hf ⊢
     rw [letters_fuel m r' g (by omega) (by omega),letters_fuel m r' (r'.length + 1 + 1 + 1) (by omega) (by omega)]
   ·rfl
def lettersG (t:List UInt8):Got:=lettersP (t.length + 1) t
theorem lettersG_nil:lettersG [] = none:=by simp [lettersG,lettersP]
theorem lettersG_end (r:List UInt8):lettersG (34 :: r) = some ([],r):=by simp [lettersG,lettersP]
theorem lettersG_plain {c:UInt8} (r:List UInt8) (h:plainC c = true):lettersG (c :: r) = (lettersG r).map fun x=>(c :: x.1,x.2):=by
 have h34:c ≠ 34:=by intro e;subst e;exact absurd h (by decide)
 have h92:c ≠ 92:=by intro e;subst e;exact absurd h (by decide)
 unfold lettersG
 rw [List.length_cons]
 conv=>lhs;unfold lettersP
 rw [if_neg h34,if_neg h92,if_pos h]
theorem lettersG_bad {c:UInt8} (r:List UInt8) (h:plainC c = false) (h34:c ≠ 34) (h92:c ≠ 92):lettersG (c :: r) = none:=by
 unfold lettersG
 rw [List.length_cons]
 unfold lettersP
 rw [if_neg h34,if_neg h92];simp [h]
theorem lettersG_short (r:List UInt8) (h:r.length < 2):lettersG (92 :: r) = none:=by
 unfold lettersG
 match r,h with
 | [],_=>simp [lettersP]
 | [a],_=>simp [lettersP]
theorem lettersG_hex (a b:UInt8) (r:List UInt8):lettersG (92 :: a :: b :: r) = match hexV a,hexV b with
  | some h,some l=>if plainC (16 * h + l).toUInt8 then none else (lettersG r).map fun x=>((16 * h + l).toUInt8 :: x.1,x.2)
  | _,_=>none:=by
 unfold lettersG
 rw [List.length_cons]
 conv=>lhs;unfold lettersP
 rw [if_neg (by decide),if_pos rfl]
 simp only [List.length_cons]
 rw [letters_fuel r.length r (r.length + 1 + 1 + 1) (Nat.le_refl _) (by omega)]
 all_goals (cases hexV a <;> cases hexV b <;> rfl)
end Go.Proofs.YtdgcamlmjmnpeaaGreatDoor
