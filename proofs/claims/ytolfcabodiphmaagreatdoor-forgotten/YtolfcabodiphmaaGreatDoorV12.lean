/- What is read within the bounds is what is read at all and is then a value's text (no walk). -/
import Derived.Test.YtolfcabodiphmaaGreatDoorV09
import Derived.Test.YtolfcabodiphmaaGreatDoorV11
set_option linter.unusedSimpArgs false
set_option linter.unusedVariables false
set_option maxHeartbeats 1000000
set_option maxRecDepth 100000
namespace Go.Proofs.YtolfcabodiphmaaGreatDoor
open Go.Proofs.Tryz
structure QZ(ty:List UInt8→Option TD):Prop where
 e:∀ b ns,ty b=some (.inl ns)→∀ n∈ns,n≠[]∧∀ c∈n,gu c=true
 f:∀ b fs,ty b=some (.inr fs)→∀ f∈fs,f.name≠[]∧∀ c∈f.name,gu c=true
 d:∀ b fs,ty b=some (.inr fs)→fs.Pairwise fun f g=>f.name≠g.name
theorem JI{m:Nat}(h:m<18446744073709551616):In64 (rU m):=by unfold rU In64;split<;>omega
def Opens(t:List UInt8):Prop:=∃ c r,t=c::r∧c≠93
theorem Q5(u:Nat):∃ c r,Lib.decDigits u=c::r:=by
 obtain⟨d,r,e,_⟩:=UY u
 exact⟨_,r,e⟩
theorem MI(v:Int):Opens (Lib.itoa v):=by
 have hall:=UE v
 have:∃ c r,Lib.itoa v=c::r:=by
  unfold Lib.itoa
  split
  ·exact⟨_,_,rfl⟩
  ·exact Q5 _
 obtain⟨c,r,e⟩:=this
 refine⟨c,r,e,fun h=>?_⟩
 have:=hall c (by rw[e];simp)
 rw[h] at this
 exact absurd this (by decide)
theorem Ce{n:List UInt8}(h0:n≠[])(h:∀ c∈n,gu c=true):Opens n:=by
 obtain⟨c,r,rfl⟩:=List.exists_cons_of_ne_nil h0
 refine⟨c,r,rfl,fun e=>?_⟩
 have:=h c (by simp)
 rw[e] at this
 exact absurd this (by decide)
theorem Yw:∀ n∈oM,n≠[]∧∀ c∈n,gu c=true:=by decide
theorem JJ{ns:List (List UInt8)}{d s:List UInt8}(h:yG ns d=some s):s∈ns:=by
 obtain⟨i,_,h⟩:=Option.bind_eq_some_iff.1 h
 exact List.mem_of_getElem? h
theorem MJ{ty:List UInt8→Option TD}(hT:QZ ty){msg:List FD→List UInt8→rV}(hm:∀ fs d s,msg fs d=some s→∃ r,s=123::r){b d s:List UInt8}(h:uF ty msg b d=some s):Opens s:=by
 unfold uF at h
 split at h
 ·obtain⟨m,_,rfl⟩:=Option.map_eq_some_iff.1 h
  exact MI _
 ·split at h
  ·have:=Yw s (JJ h)
   exact Ce this.1 this.2
  ·split at h
   ·simp only[Option.some.injEq] at h
    subst h
    exact⟨34,_,rfl,by decide⟩
   ·cases e:ty b with
    | none=>rw[e] at h;cases h
    | some t=>
     rw[e] at h
     cases t with
     | inl ns =>
      have:=hT.e b ns e s (JJ h)
      exact Ce this.1 this.2
     | inr fs =>
      obtain⟨r,rfl⟩:=hm fs d s h
      exact⟨123,r,rfl,by decide⟩
theorem Ci(val:List UInt8→rV)(k:Nat)(first:Bool)(d:List UInt8):zy val k first d=if d=[] then some [93] else match k with
  | 0=>none
  | k+1=>(takeC d).bind fun x=>(val x.1).bind fun s=>(zy val k false x.2).map fun o=>Jy first++s++o:=by rw[zy.eq_def];rfl
theorem vF(f last:Nat)(d:List UInt8):kD f last d=if d=[] then some [] else match f with
  | 0=>none
  | f+1=>(dR d).bind fun x=>(takeC x.2).bind fun y=>if last<x.1∧x.1≤99 then(kD f x.1 y.2).map fun o=>(x.1,y.1)::o else none:=by rw[kD.eq_def];rfl
open Go.RowKit
def Ah(f:bI):FD:=⟨f.number.toNat,f.name.toList,f.shape,f.base.toList⟩
def tyP(X:List aO)(base:List UInt8):Option TD:=match X[(bZ X base).toNat]? with
 | none=>none
 | some x=>if bZ X base<0 then none else if x.it.kind=0 then some (.inr (x.it.fields.map Ah)) else some (.inl (x.it.names.map fun t=>t.text.toList))
abbrev jP(X:List aO)(n:Nat):=UD ng gu (tyP X) n
structure OD(X:List aO):Prop where
 nms:LV X
 len:X.length≤400
 n:∀ x∈X,∀ f∈x.it.fields,0≤f.number∧f.number≤99
 s:∀ x∈X,∀ f∈x.it.fields,1≤f.name.size∧f.name.size≤400
 fl:∀ x∈X,x.it.fields.length≤400
 nl:∀ x∈X,x.it.names.length≤400
 nn:∀ x∈X,∀ t∈x.it.names,1≤t.text.size∧t.text.size≤400
def Q7(X:List aO)(n:Nat):Prop:=∀ (w:World) (eb lo:Nat) (la:Option Addr) (ll lc:Nat) (t base:ByteArray),dK w lo (.slice la ll lc) X→Pe w eb (.slice la ll lc) t→Env w→Own eb→t.size≤400 →
 Calls Tryz.prog 78 #[.pointer (some ⟨eb,0,none⟩),.string base,.int .i64 ((7:Int)-n)] w (jA ((jP X n).1 base.toList) w eb (.slice la ll lc) t)
def Q8(X:List aO)(n:Nat):Prop:=∀ (w:World) (eb lo:Nat) (la:Option Addr) (ll lc:Nat) (t base:ByteArray),dK w lo (.slice la ll lc) X→Pe w eb (.slice la ll lc) t→Env w→Own eb→t.size≤400 →
 Calls Tryz.prog 200 #[.pointer (some ⟨eb,0,none⟩),.string base,.int .i64 ((7:Int)-n)] w (jA ((jP X n).2 base.toList) w eb (.slice la ll lc) t)
theorem dK.but{w w':World}{lo eb:Nat}{lv:Value}{X:List aO}{t:ByteArray}{lv2:Value}(h:dK w lo lv X)(hc:Pe w eb lv2 t)(hb:But eb w w'):dK w' lo lv X:=by
 have own:∀ {e:TypeId} {size n:Nat} {v:Value} {ys:List Value},e ≠ 158 → w.ownsRow lo e size v n ys→w'.ownsRow lo e size v n ys:=fun he h1=>aC h1 (fun g hg=>hb.block g (h1.lt g hg).2 (dM h1 hc he hg))
 refine⟨own (by decide) h.own,fun x hx=>?_⟩
 have hx':=h.nest x hx
 exact { hx' with f:=own (by decide) hx'.f,n:=own (by decide) hx'.n }
def Vj(G:Got)(val:List UInt8→Got)(T:List UInt8)(m:Nat)(out:List UInt8):Prop:=m≤16∧G=(uY val (16-m) (decide (m=0)) T).map fun x=>(out++x.1,x.2)
theorem Vj.shut{G:Got}{val:List UInt8→Got}{T r:List UInt8}{m:Nat}{out:List UInt8}(h:Vj G val T m out)(he:dJ [93] T=some r):G=some (out,r):=by
 rw[h.2,tK,he];simp
theorem Vj.full{G:Got}{val:List UInt8→Got}{T:List UInt8}{out:List UInt8}(h:Vj G val T 16 out)(he:dJ [93] T=none):G=none:=by
 rw[h.2,tK,he];rfl
theorem Vj.Yx{G:Got}{val:List UInt8→Got}{T:List UInt8}{m:Nat}{out:List UInt8}(h:Vj G val T m out)(he:dJ [93] T=none)(hm:m≠0)(hc:dJ [44] T=none):G=none:=by
 rw[h.2,tK,he]
 cases 16-m with
 | zero=>rfl
 | succ q=>simp[hm,hc]
theorem Vj.value{G:Got}{val:List UInt8→Got}{T T1:List UInt8}{m:Nat}{out:List UInt8}(h:Vj G val T m out)(he:dJ [93] T=none)(hm:m<16)(h1:(m=0∧T1=T)∨(m≠0∧dJ [44] T=some T1)):
  (val T1=none→G=none)∧(∀ v T2,val T1=some (v,T2)→Vj G val T2 (m+1) (out++gU v)):=by
 have h':=h.2
 rw[tK,he] at h'
 obtain⟨q,hq⟩:∃ q,16-m=q+1:=⟨15-m,by omega⟩
 rw[hq] at h'
 have ht:(if decide (m=0)=true then some T else dJ [44] T)=some T1:=by
  rcases h1 with⟨e1,e2⟩ | ⟨e1,e2⟩
  ·simp[e1,e2]
  ·simp[e1,e2]
 simp only[ht,Option.bind_some] at h'
 refine⟨fun hv=>by rw[h',hv];rfl,fun v T2 hv=>⟨by omega,?_⟩⟩
 rw[h',hv,show 16-(m+1)=q by omega,show decide (m+1=0)=false by simp]
 simp only[Option.bind_some,Option.map_map]
 congr 1
 funext x
 simp
def Xu:Bool→ByteArray
 | true=>⟨#[]⟩
 | false=>⟨#[44]⟩
theorem JK(b:Bool):(Xu b).toList=if b then [] else [44]:=by
 cases b
 ·simp only[Xu];rw[ByteArray.toList_eq];rfl
 ·simp only[Xu];rw[ByteArray.toList_eq];rfl
def IK(G:Got)(val lst:List UInt8→List UInt8→Got)(fs:List FD)(T:List UInt8)(j:Nat)(first:Bool)(out:List UInt8):Prop:=G=(fieldsGo val lst (fs.drop j) first T).map fun x=>(out++x.1,x.2)
theorem IK.shut{G:Got}{val lst:List UInt8→List UInt8→Got}{fs:List FD}{T:List UInt8}{j:Nat}{first:Bool}{out:List UInt8}(h:IK G val lst fs T j first out)(hj:fs.length≤j):G=(dJ [125] T).map fun r=>(out,r):=by
 unfold IK at h
 rw[h,List.drop_eq_nil_of_le hj]
 unfold fieldsGo
 cases dJ [125] T<;>simp
theorem IK.skip{G:Got}{val lst:List UInt8→List UInt8→Got}{fs:List FD}{T:List UInt8}{j:Nat}{first:Bool}{out:List UInt8}{f:FD}(h:IK G val lst fs T j first out)(hf:fs[j]? = some f)(he:dJ ((if first then [] else [44])++f.name++[58]) T=none)(hs:f.shape=1):IK G val lst fs T (j+1) first out:=by
 unfold IK at h ⊢
 have hlt:=lQ hf
 rw[h,List.drop_eq_getElem_cons hlt]
 have e:fs[j]=f:=by rw[List.getElem?_eq_getElem hlt] at hf;simpa using hf
 rw[e]
 conv=>lhs;unfold fieldsGo
 rw[he];simp only[if_pos hs]
theorem IK.lack{G:Got}{val lst:List UInt8→List UInt8→Got}{fs:List FD}{T:List UInt8}{j:Nat}{first:Bool}{out:List UInt8}{f:FD}(h:IK G val lst fs T j first out)(hf:fs[j]? = some f)(he:dJ ((if first then [] else [44])++f.name++[58]) T=none)(hs:f.shape≠1):G=none:=by
 unfold IK at h
 have hlt:=lQ hf
 rw[h,List.drop_eq_getElem_cons hlt]
 have e:fs[j]=f:=by rw[List.getElem?_eq_getElem hlt] at hf;simpa using hf
 rw[e]
 unfold fieldsGo
 rw[he];simp only[if_neg hs];rfl
theorem IK.value{G:Got}{val lst:List UInt8→List UInt8→Got}{fs:List FD}{T T1:List UInt8}{j:Nat}{first:Bool}{out:List UInt8}{f:FD}(h:IK G val lst fs T j first out)(hf:fs[j]? = some f)(he:dJ ((if first then [] else [44])++f.name++[58]) T=some T1):
  ((if f.shape=2 then lst f.base T1 else val f.base T1)=none→G=none)∧(∀ v T2,(if f.shape=2 then lst f.base T1 else val f.base T1)=some (v,T2)→IK G val lst fs T2 (j+1) false ((out++fZ f.number)++gU v)):=by
 unfold IK at h ⊢
 have hlt:=lQ hf
 rw[List.drop_eq_getElem_cons hlt] at h
 have e:fs[j]=f:=by rw[List.getElem?_eq_getElem hlt] at hf;simpa using hf
 rw[e] at h
 unfold fieldsGo at h
 rw[he] at h
 refine⟨fun hv=>by rw[h];simp only[hv];rfl,fun v T2 hv=>?_⟩
 rw[h]
 simp only[hv,Option.bind_some,Option.map_map]
 congr 1
 funext x
 simp
theorem jA.back{spec:List UInt8→Got}{w wf:World}{eb:Nat}{lv:Value}{t:ByteArray}{e:Ending}{w':World}(h:jA spec wf eb lv t e w')(hb:Below w.heap.size w wf):jA spec w eb lv t e w':=by
 obtain⟨a,c,out,t',ok,h1,h2,h3,h4,h5,h6,h7⟩:=h
 exact⟨a,c,out,t',ok,h1,own_base h2 hb.size,(But.bG hb).trans h3,h4,h5,h6,h7⟩
theorem jA.turn{spec spec':List UInt8→Got}{w:World}{eb:Nat}{lv:Value}{t:ByteArray}{e:Ending}{w':World}(h:jA spec w eb lv t e w')(hk:spec' t.toList=spec t.toList):jA spec' w eb lv t e w':=by
 obtain⟨a,c,out,t',ok,h1,h2,h3,h4,h5,h6,h7⟩:=h
 exact⟨a,c,out,t',ok,h1,h2,h3,h4,h5,h6,hk.trans h7⟩
theorem MK{X:List aO}{n:Nat}(hV:Q7 X n)(hL:Q8 X n)(w:World)(eb lo:Nat)(la:Option Addr)(ll lc:Nat)(t:ByteArray)(f:bI)(d:Int)(hd:d=(7:Int)-n)(hI:dK w lo (.slice la ll lc) X)(h:Pe w eb (.slice la ll lc) t)(hE:Env w)(hO:Own eb)(hs:t.size≤400):
  Calls Tryz.prog 153 #[.pointer (some ⟨eb,0,none⟩),.agg #[.int .i64 f.number,.int .i64 f.numberAt,.string f.name,.int .i64 f.nameAt,.int .i64 f.shape,.string f.base,.int .i64 f.dG],.int .i64 d] w (jA (if f.shape=2 then(jP X n).2 f.base.toList else(jP X n).1 f.base.toList) w eb (.slice la ll lc) t):=by
 subst hd
 by_cases h2:f.shape=2
 ·have h2B:((f.shape:Int)==2)=true:=by simp;omega
  rw[if_pos h2]
  have HC:=hid (fun w' (hb:Below w.heap.size w w')=>hL w' eb lo la ll lc t f.base (hI.below hb) (h.same (hb.block eb h.lt)) (hE.below hb) hO hs)
  clear hI h hE hV hL
  go_enter func153,ntmps153
  go_wp2_with fail
  refine(HC.out _ ((Below.refl _ _).alloc (Nat.le_refl _) _)).mono ?_;intro e w1 h1
  have HP:=hid (h1.back ((Below.refl _ _).alloc (Nat.le_refl _) _))
  obtain⟨a,c,out,t',ok,rfl,_⟩:=h1
  go_wp2_with fail
  go_ret2
  exact HP.out
 ·have h2B:((f.shape:Int)==2)=false:=by simp;omega
  rw[if_neg h2]
  have HC:=hid (fun w' (hb:Below w.heap.size w w')=>hV w' eb lo la ll lc t f.base (hI.below hb) (h.same (hb.block eb h.lt)) (hE.below hb) hO hs)
  clear hI h hE hV hL
  go_enter func153,ntmps153
  go_wp2_with fail
  refine(HC.out _ ((Below.refl _ _).alloc (Nat.le_refl _) _)).mono ?_;intro e w1 h1
  have HP:=hid (h1.back ((Below.refl _ _).alloc (Nat.le_refl _) _))
  obtain⟨a,c,out,t',ok,rfl,_⟩:=h1
  go_wp2_with fail
  go_ret2
  exact HP.out
theorem xC{w w0:World}{b:Nat}(d0 d1 d2 d3 d4 d5 d6 d7 d8:Value)(h:Below b w w0):Below b w (((((((((w0.setCell ⟨b,0,none⟩ d0).setCell ⟨b,1,none⟩ d1).setCell ⟨b,2,none⟩ d2).setCell ⟨b,3,none⟩ d3).setCell ⟨b,4,none⟩ d4).setCell ⟨b,5,none⟩ d5).setCell ⟨b,6,none⟩ d6).setCell ⟨b,7,none⟩ d7).setCell ⟨b,8,none⟩ d8) :=
 (((((((((h.setCell (p:=⟨b,0,none⟩) (Nat.le_refl _) d0).setCell (p:=⟨b,1,none⟩) (Nat.le_refl _) d1).setCell (p:=⟨b,2,none⟩) (Nat.le_refl _) d2).setCell (p:=⟨b,3,none⟩) (Nat.le_refl _) d3).setCell (p:=⟨b,4,none⟩) (Nat.le_refl _) d4).setCell (p:=⟨b,5,none⟩) (Nat.le_refl _) d5).setCell (p:=⟨b,6,none⟩) (Nat.le_refl _) d6).setCell (p:=⟨b,7,none⟩) (Nat.le_refl _) d7).setCell (p:=⟨b,8,none⟩) (Nat.le_refl _) d8)
theorem ql{w0:World}{b:Nat}{T:TypeId}{x0 x1 x2 x3 x4 x5 x6 x7 x8:Value}(d0 d1 d2 d3 d4 d5 d6 d7 d8:Value)(h:Seg w0 b T 0 [x0,x1,x2,x3,x4,x5,x6,x7,x8]):Seg (((((((((w0.setCell ⟨b,0,none⟩ d0).setCell ⟨b,1,none⟩ d1).setCell ⟨b,2,none⟩ d2).setCell ⟨b,3,none⟩ d3).setCell ⟨b,4,none⟩ d4).setCell ⟨b,5,none⟩ d5).setCell ⟨b,6,none⟩ d6).setCell ⟨b,7,none⟩ d7).setCell ⟨b,8,none⟩ d8) b T 0 [d0,d1,d2,d3,d4,d5,d6,d7,d8]:=by
 have k:=(Seg.set (Seg.set (Seg.set (Seg.set (Seg.set (Seg.set (Seg.set (Seg.set (Seg.set h 0 d0) 1 d1) 2 d2) 3 d3) 4 d4) 5 d5) 6 d6) 7 d7) 8 d8)
 simp only[Nat.zero_add] at k
 exact k
theorem JL{X:List aO}{name:List UInt8}(h:0≤bZ X name):∃ (k:Nat) (x:aO),bZ X name=(k:Int)∧X[k]? = some x∧(x.it.kind=0∨x.it.kind=1):=by
 unfold bZ at h ⊢
 cases e:X.findIdx? (fun x=>jg name x.it) with
 | none=>rw[e] at h;simp at h
 | some k=>
  obtain⟨hlt,hm,_⟩:=List.findIdx?_eq_some_iff_getElem.1 e
  refine⟨k,X[k],rfl,List.getElem?_eq_getElem hlt,?_⟩
  simp only[jg,gB,Bool.and_eq_true,Bool.or_eq_true,beq_iff_eq] at hm
  exact hm.1
def JM(w:World)(X:List aO)(name:ByteArray)(e:Ending)(w':World):Prop :=
 Below w.heap.size w w'∧((bZ X name.toList<0∧e=.returned (.tuple #[.agg #[.int .i64 0,.string ⟨#[]⟩,.int .i64 0,.slice none 0 0,.slice none 0 0,.string ⟨#[]⟩,.int .i64 0,.string ⟨#[]⟩,.int .i64 0],.bool false])) ∨
  ∃ (k:Nat) (x:aO) (n:zn),bZ X name.toList=(k:Int)∧X[k]? = some x∧(x.it.kind=0∨x.it.kind=1)∧x.vf=.slice n.fa x.it.fields.length n.fc∧x.vn=.slice n.na x.it.names.length n.nc ∧
   e=.returned (.tuple #[.agg #[.int .i64 x.it.kind,.string x.it.name.text,.int .i64 x.it.name.at_,.slice n.fa x.it.fields.length n.fc,.slice n.na x.it.names.length n.nc,.string n.bb,.int .i64 n.ba,.string n.ab,.int .i64 n.aa],.bool true]))
theorem rX(w:World)(lo:Nat)(lv:Value)(X:List aO)(name:ByteArray)(h:dK w lo lv X)(hn:LV X)(hX:X.length≤400):
  Calls Tryz.prog 104 #[lv,.string name] w (JM w X name):=by
 obtain⟨la,lc,hlv⟩:∃ a c,lv=.slice a X.length c:=ay h.own
 subst hlv
 unfold JM
 have H:=hid h
 have HN:=hid hn
 clear h hn
 go_enter func104,ntmps104
 go_wp2_with fail
 have hb0:Below w.heap.size w (w.alloc (.cells #[.int .i64 0,.string ⟨#[]⟩,.int .i64 0,.slice none 0 0,.slice none 0 0,.string ⟨#[]⟩,.int .i64 0,.string ⟨#[]⟩,.int .i64 0] 116)):=(Below.refl _ _).alloc (Nat.le_refl _) _
 refine(pX _ lo _ X name (H.out.below hb0) HN.out hX).mono ?_;rintro e w1 ⟨rfl,hb1'⟩
 have hb1:=hb0.trans (hb1'.mono hb0.size)
 have hsg:Seg w1 w.heap.size 116 0 [.int .i64 0,.string ⟨#[]⟩,.int .i64 0,.slice none 0 0,.slice none 0 0,.string ⟨#[]⟩,.int .i64 0,.string ⟨#[]⟩,.int .i64 0]:=(oN w _ _).same (hb1'.block _ (by simp))
 have r0:=hsg.cell (j:=0) rfl
 have r1:=hsg.cell (j:=1) rfl
 have r2:=hsg.cell (j:=2) rfl
 have r3:=hsg.cell (j:=3) rfl
 have r4:=hsg.cell (j:=4) rfl
 have r5:=hsg.cell (j:=5) rfl
 have r6:=hsg.cell (j:=6) rfl
 have r7:=hsg.cell (j:=7) rfl
 have r8:=hsg.cell (j:=8) rfl
 simp only[Nat.zero_add] at r0 r1 r2 r3 r4 r5 r6 r7 r8
 have hlt1:=hsg.lt
 have q0:=hsg.frozen 0
 have q1:=hsg.frozen 1
 have q2:=hsg.frozen 2
 have q3:=hsg.frozen 3
 have q4:=hsg.frozen 4
 have q5:=hsg.frozen 5
 have q6:=hsg.frozen 6
 have q7:=hsg.frozen 7
 have q8:=hsg.frozen 8
 have Ld:=hid hsg
 clear hsg hb1'
 by_cases hneg:bZ X name.toList<0
 ·have ah4:=hid hneg
  go_wp2_with fail
  have hse:=ql (.int .i64 0) (.string ⟨#[]⟩) (.int .i64 0) (.slice none 0 0) (.slice none 0 0) (.string ⟨#[]⟩) (.int .i64 0) (.string ⟨#[]⟩) (.int .i64 0) Ld.out
  have z0:=hse.cell (j:=0) rfl
  have z1:=hse.cell (j:=1) rfl
  have z2:=hse.cell (j:=2) rfl
  have z3:=hse.cell (j:=3) rfl
  have z4:=hse.cell (j:=4) rfl
  have z5:=hse.cell (j:=5) rfl
  have z6:=hse.cell (j:=6) rfl
  have z7:=hse.cell (j:=7) rfl
  have z8:=hse.cell (j:=8) rfl
  simp only[Nat.zero_add] at z0 z1 z2 z3 z4 z5 z6 z7 z8
  refine bodyPost_ret (v:=.tuple #[.agg #[.int .i64 0,.string ⟨#[]⟩,.int .i64 0,.slice none 0 0,.slice none 0 0,.string ⟨#[]⟩,.int .i64 0,.string ⟨#[]⟩,.int .i64 0],.bool false]) (by simp[results,Tryz.results104,go_sem,z0,z1,z2,z3,z4,z5,z6,z7,z8]) rfl ⟨xC _ _ _ _ _ _ _ _ _ hb1,Or.inl ⟨ah4.out,rfl⟩⟩
 ·obtain⟨k,x,hk,hx,hkd⟩:=JL (X:=X) (name:=name.toList) (by omega)
  have HK:=hid hk
  rw[hk] at hneg ⊢
  have hlt:k<X.length:=lQ hx
  obtain⟨g,cap,hv,hgl,hgs⟩:=iJ H.out.own (by omega)
  obtain⟨rfl,rfl⟩:la=some ⟨g,0,none⟩∧lc=cap:=by simpa using hv
  obtain⟨n,hn⟩:=(H.out.below hb1).rG HN.out hx
  have hs:=hn.seg
  have HX:=hid hx
  have HVF:=hid hn.vf
  have HVN:=hid hn.vn
  have HKD:=hid hkd
  clear hx hv hn hk hkd
  have c0:=hs.cell (j:=0) rfl
  have c1:=hs.cell (j:=1) rfl
  have c2:=hs.cell (j:=2) rfl
  have c3:=hs.cell (j:=3) rfl
  have c4:=hs.cell (j:=4) rfl
  have c5:=hs.cell (j:=5) rfl
  have c6:=hs.cell (j:=6) rfl
  have c7:=hs.cell (j:=7) rfl
  have c8:=hs.cell (j:=8) rfl
  simp only[Nat.add_zero] at c0
  clear hs
  have hk0:¬ (k:Int)<0:=by omega
  clear hneg
  go_wp2_with fail
  have hse:=ql (.int .i64 x.it.kind) (.string x.it.name.text) (.int .i64 x.it.name.at_) (.slice n.fa x.it.fields.length n.fc) (.slice n.na x.it.names.length n.nc) (.string n.bb) (.int .i64 n.ba) (.string n.ab) (.int .i64 n.aa) Ld.out
  have z0:=hse.cell (j:=0) rfl
  have z1:=hse.cell (j:=1) rfl
  have z2:=hse.cell (j:=2) rfl
  have z3:=hse.cell (j:=3) rfl
  have z4:=hse.cell (j:=4) rfl
  have z5:=hse.cell (j:=5) rfl
  have z6:=hse.cell (j:=6) rfl
  have z7:=hse.cell (j:=7) rfl
  have z8:=hse.cell (j:=8) rfl
  simp only[Nat.zero_add] at z0 z1 z2 z3 z4 z5 z6 z7 z8
  refine bodyPost_ret (v:=.tuple #[.agg #[.int .i64 x.it.kind,.string x.it.name.text,.int .i64 x.it.name.at_,.slice n.fa x.it.fields.length n.fc,.slice n.na x.it.names.length n.nc,.string n.bb,.int .i64 n.ba,.string n.ab,.int .i64 n.aa],.bool true]) (by simp[results,Tryz.results104,go_sem,z0,z1,z2,z3,z4,z5,z6,z7,z8]) rfl ⟨xC _ _ _ _ _ _ _ _ _ hb1,Or.inr ⟨k,x,n,HK.out,HX.out,HKD.out,HVF.out,HVN.out,rfl⟩⟩
def OE(w:World)(L:List aN)(e:Ending)(w':World):Prop:=∃ (a:Option Addr) (c:Nat),e=.returned (.slice a L.length c)∧w'.ownsRow w.heap.size 9 1 (.slice a L.length c) L.length (L.map fun t=>jd t.text)∧Below w.heap.size w w'
theorem zD(w:World)(lo:Nat)(c0 c1 c2:Value)(fa na:Option Addr)(fl fc nc:Nat)(c5 c6 c7 c8:Value)(L:List aN)(h:w.ownsRow lo 112 2 (.slice na L.length nc) L.length (L.flatMap aB))(hl:L.length≤400):
  Calls Tryz.prog 105 #[.agg #[c0,c1,c2,.slice fa fl fc,.slice na L.length nc,c5,c6,c7,c8]] w (OE w L):=by
 unfold OE
 have H:=hid h
 clear h
 go_enter func105,ntmps105
 go_wp2_with fail
 have hb0:Below w.heap.size w (w.alloc (.cells #[c0,c1,c2,.slice fa fl fc,.slice na L.length nc,c5,c6,c7,c8] 116)):=(Below.refl _ _).alloc (Nat.le_refl _) _
 go_loopg [3,5,9] L.length (fun gk nv f i wr=>∃ k:Nat,k+gk=L.length∧i=.int .i64 k∧Hid (wr.ownsRow w.heap.size 9 1 nv k ((L.take k).map fun t=>jd t.text))∧Below w.heap.size w wr)
 case atStart=>exact⟨0,by omega,rfl,hid (World.ownsRow_nil _ _ _ _),hb0⟩
 case round=>
  obtain⟨k,hk,rfl,HO,hbel⟩:=hrel
  have hsz:=hbel.size
  by_cases hlt:k<L.length
  ·obtain⟨f,hf⟩:∃ f,L[k]? = some f:=⟨L[k],List.getElem?_eq_getElem hlt⟩
   obtain⟨ta,tc,yx⟩:∃ a c,u3=.slice a k c:=ay HO.out
   subst yx
   obtain⟨g,cap,hv,hgl,hgs,hs⟩:=yB (aC H.out (fun g hg=>hbel.block g (H.out.lt g hg).2)) hf
   obtain⟨rfl,rfl⟩:na=some ⟨g,0,none⟩∧nc=cap:=by simpa using hv
   have HF:=hid (show (L.take (k+1)).map (fun t=>jd t.text)=(L.take k).map (fun t=>jd t.text)++[jd f.text] by rw[List.take_add_one,hf];simp)
   have e0:wr.cell? ⟨g,k*2,none⟩=some (.string f.text):=hs.cell (j:=0) rfl
   have e1:wr.cell? ⟨g,k*2+1,none⟩=some (.int .i64 f.at_):=hs.cell (j:=1) rfl
   clear hs hv hf
   go_wp2_with (at_builtin;refine eG _ rfl _ _ 32 9 (.string ⟨#[]⟩) 1 16 rfl underlying32 rfl rfl (by omega) _ k _ w.heap.size rfl ((HO.out.alloc _).alloc _) ⟨_,0,none⟩ 1 1 [jd f.text] rfl rfl (dY _ _ (by simp) #[.string f.text] _) (by simp[jd,Value.oneCell']) _ rfl _ rfl (by unfold maxLen;omega) (by omega) (by simp;omega) ?_)
   intro g5 cp5 w5 hown5 dL
   have hb5:Below w.heap.size w w5:=((hbel.alloc hsz _).alloc (by simp;omega) _).trans (dL.below (fun q hq=>(HO.out.lt q hq).1) (by simp;omega))
   clear dL
   go_wp2_with fail
   go_roundg (gk-1)
   case rel=>exact⟨k+1,by omega,by go_num,hid (by rw[HF.out];simpa using hown5),hb5⟩
   case measure=>omega
  ·have HE:=hid (show L.take k=L from List.take_of_length_le (by omega))
   go_wp2_with fail
   go_ret
   have ho:=HO.out
   rw[HE.out] at ho
   obtain⟨ta,tc,yx⟩:∃ a c,u3=.slice a k c:=ay HO.out
   have hkl:k=L.length:=by omega
   subst hkl
   subst yx
   exact⟨ta,tc,rfl,ho,hbel⟩
end Go.Proofs.YtolfcabodiphmaaGreatDoor
