/- Package schemas: isType, findType. -/
import Derived.Test.YtkpfplbmmglkkaaGreatDoorV07
import Derived.Maps.OwnOps
import Derived.Maps.Views
set_option linter.all false
set_option maxHeartbeats 2000000
set_option maxRecDepth 100000
namespace Go.Proofs.YtkpfplbmmglkkaaGreatDoor
open Go.Proofs.Tryz
variable {L X:List PIV}{name:List UInt8}{k lo g cap size n m whole j i:Nat}{x:PIV}{w w0 w1 w':World}{v u:Value}{fs:List PField}{e:TypeId}{xs ys:List Value}{b b0:List Bool}{t:PTok}{ts:List PTok}{f:PField}
open Go.RowKit
def pTypeB(k:Nat):Bool:=(k==0)||(k==1)
theorem xj(k:Nat)(c1 c2 c3 c4 c5 c6 c7 c8:Value)(w:World):
  aT 143 #[.agg #[vI k,c1,c2,c3,c4,c5,c6,c7,c8]] w fun e w'=>e=.returned (.bool (pTypeB k))∧Below w.heap.size w w':=by
 generalize hB:pTypeB k=b;have HB:=U hB;clear hB
 have hi:((k:Int)==1)=(k==1):=by
  rw[Bool.eq_iff_iff];simp;omega
 have HI:=U hi;clear hi;cases h0:((k:Int)==0)
 ·have hk:(k==0)=false:=by simp at h0 ⊢;omega
  have HK:=U hk;clear hk
  go_enter func143,ntmps143
  go_wp2
  go_ret
  exact⟨bR (by rw[← HB.o,pTypeB,HK.o,← HI.o];simp),(Below.refl _ _).alloc (Nat.le_refl _) _⟩
 ·have hk:(k==0)=true:=by simp at h0 ⊢;omega
  have HK:=U hk;clear hk
  go_enter func143,ntmps143
  go_wp2
  go_ret
  exact⟨bR (by rw[← HB.o,pTypeB,HK.o];rfl),(Below.refl _ _).alloc (Nat.le_refl _) _⟩
def pMatchB(name:List UInt8)(p:PItem):Bool:=pTypeB p.kind&&(p.name.text.toList==name)
def pFindI(X:List PIV)(name:List UInt8):Int:=match X.findIdx? (fun x=>pMatchB name x.it) with | some i=>i | none=>-1
theorem Kv(hk:L[k]? = some x)(hm:pMatchB name x.it=true)(mG:∀ j y,j<k→L[j]? = some y→pMatchB name y.it=false):pFindI L name=k:=by
 have bC:k<L.length:=by
  rcases Nat.lt_or_ge k L.length with h | h
  ·exact h
  ·rw[List.getElem?_eq_none h] at hk;cases hk
 have e:L[k]=x:=by rw[List.getElem?_eq_getElem bC] at hk;simpa using hk
 unfold pFindI
 have:L.findIdx? (fun x=>pMatchB name x.it)=some k:=by
  rw[List.findIdx?_eq_some_iff_getElem];refine⟨bC,by rw[e];exact hm,fun j hj=>?_⟩;have:=mG j L[j] hj (List.getElem?_eq_getElem (by omega));simp[this]
 rw[this]
theorem Gu(mG:∀ j y,j<L.length→L[j]? = some y→pMatchB name y.it=false):pFindI L name = -1:=by
 unfold pFindI
 have:L.findIdx? (fun x=>pMatchB name x.it)=none:=by
  rw[List.findIdx?_eq_none_iff];intro x hx;obtain⟨j,hj,rfl⟩:=List.getElem_of_mem hx;exact mG j _ hj (List.getElem?_eq_getElem hj)
 rw[this]
theorem yj(k:Nat)(nm name:ByteArray)(c2 c5 c6 c7 c8:Value)(fa na:Option Addr)(fl fc nl nc cb:Nat)(w:World)(hc:w.cell? (aj cb 0)=some (.string name))(yR:cb<w.heap.size):
  aT 142 #[.agg #[vI k,.string nm,c2,.slice fa fl fc,.slice na nl nc,c5,c6,c7,c8],aM cb] w fun e w'=>e=.returned (.bool (pTypeB k&&(nm.toList==name.toList)))∧Below w.heap.size w w':=by
 go_enter func142,ntmps142
 go_wp2_with fail
 refine(xj _ _ _ _ _ _ _ _ _ _).mono ?_;rintro e w1 ⟨rfl,aA⟩;have cj:Below w.heap.size w (w.alloc (.cells #[vI k,.string nm,c2,.slice fa fl fc,.slice na nl nc,c5,c6,c7,c8] 117)):=(Below.refl _ _).alloc (Nat.le_refl _) _;have bi:=cj.trans (aA.mono (by simp));have d0:w1.cell? (aj cb 0)=some (.string name):=by rw[bi.cell yR];exact hc
 have d1:w1.cell? (aj w.heap.size 1)=some (.string nm):=by rw[aA.cell (by simp)];simp
 cases hty:pTypeB k
 all_goals
  go_wp2_with fail
  go_ret
  exact⟨bR (by simp[hty]),bi⟩
def Nms(X:List PIV):Prop:=∀ x∈X,IsNm x.it.base∧IsNm x.it.answer
theorem Kw(l:List PIV)(hn:Nms l)(k:Nat)(x:PIV)(h:l[k]? = some x):((l.flatMap pivCells).drop (k*9)).take 9=pivCells x:=by
 induction l generalizing k with
 | nil=>simp at h
 | cons a r ih=>
  have hl:=Er (hn a (by simp));rw[List.flatMap_cons]
  cases k with
  | zero=>
   simp at h;subst h;rw[Nat.zero_mul,List.drop_zero,List.take_append,List.take_of_length_le (by omega),hl];simp
  | succ k=>
   simp at h;rw[List.drop_append,List.drop_eq_nil_of_le (by omega),List.nil_append,show (k+1)*9-(pivCells a).length=k*9 from by omega];exact ih (fun y hy=>hn y (by simp[hy])) k h
theorem at_lt{α:Type}{l:List α}{x:α}(h:l[k]? = some x):k<l.length:=by
 rcases Nat.lt_or_ge k l.length with h' | h'
 ·exact h'
 ·rw[List.getElem?_eq_none h'] at h;cases h
structure Ninth where
 fa:Option Addr
 fc:Nat
 na:Option Addr
 nc:Nat
 bb:ByteArray
 ba:Nat
 ab:ByteArray
 aa:Nat
structure PItemAt(w:World)(lo:Nat)(x:PIV)(g k:Nat)(n:Ninth):Prop where
 vf:x.vf=.slice n.fa x.it.fields.length n.fc
 vn:x.vn=.slice n.na x.it.names.length n.nc
 base:x.it.base=[.string n.bb,.int .i64 n.ba]
 answer:x.it.answer=[.string n.ab,.int .i64 n.aa]
 seg:dU w g 117 (k*9) [.int .i64 x.it.kind,.string x.it.name.text,.int .i64 x.it.name.at_,.slice n.fa x.it.fields.length n.fc,.slice n.na x.it.names.length n.nc,.string n.bb,.int .i64 n.ba,.string n.ab,.int .i64 n.aa]
theorem PIts.itemAt(h:PIts w lo (.slice (some (aj g 0)) X.length cap) X)(hn:Nms X){k:Nat}{x:PIV}(hk:X[k]? = some x):∃ n,PItemAt w lo x g k n:=by
 have hm:=List.mem_of_getElem? hk;have BJ:=hn x hm;obtain⟨fa,fc,MM⟩:∃ a c,x.vf=.slice a x.it.fields.length c:=ax (h.nest x hm).f
 obtain⟨na,nc,RJ⟩:∃ a c,x.vn=.slice a x.it.names.length c:=ax (h.nest x hm).n
 have hlen:=Er BJ;obtain⟨⟨bb,ba,D2⟩,⟨ab,aa,Es⟩⟩:=BJ;refine⟨⟨fa,fc,na,nc,bb,ba,ab,aa⟩,MM,RJ,D2,Es,?_⟩
 have qp:pivCells x=[vI x.it.kind,.string x.it.name.text,vI x.it.name.at_,.slice fa x.it.fields.length fc,.slice na x.it.names.length nc,.string bb,vI ba,.string ab,vI aa]:=by
  simp[pivCells,D2,Es,MM,RJ,nameCells]
 have:=(yP h.own).part (k*9) 9 (pivCells x) (Kw X hn k x hk) hlen (by omega);rw[qp] at this;simpa using this
theorem Cc(w:World)(lo:Nat)(lv:Value)(X:List PIV)(name:ByteArray)(cb:Nat)(h:PIts w lo lv X)(hn:Nms X)(hX:X.length≤400)(hc:w.cell? (aj cb 0)=some (.string name))(yR:cb<w.heap.size):
  aT 75 #[lv,.func (Fn.func 142) #[] #[aM cb]] w fun e w'=>e=.returned (vI (pFindI X name.toList))∧Below w.heap.size w w':=by
 obtain⟨la,lc,nk⟩:∃ a c,lv=.slice a X.length c:=ax h.own
 subst nk;have H:=U h;have HN:=U hn;clear h hn
 go_enter func75,ntmps75
 go_wp2_with fail
 go_loopg [5,8] X.length (fun gk t i wr=>∃ k:Nat,k+gk=X.length∧i=.int .i64 k∧Hid (∀ j y,j<k→X[j]? = some y→pMatchB name.toList y.it=false)∧Below w.heap.size w wr)
 case atStart=>exact⟨0,by omega,rfl,U (fun j y hj=>by omega),Below.refl _ _⟩
 case round=>
  obtain⟨k,hk,rfl,HA,bi⟩:=hrel
  by_cases bC:k<X.length
  ·obtain⟨x,hx⟩:∃ x,X[k]? = some x:=⟨X[k],List.getElem?_eq_getElem bC⟩
   obtain⟨g,cap,hv,vH,xT⟩:=fT H.o.own (by omega);obtain⟨rfl,rfl⟩:la=some (aj g 0)∧lc=cap:=by simpa using hv
   obtain⟨n,hn⟩:=(H.o.below bi).itemAt HN.o hx;have hs:=hn.seg;have HX:=U hx;clear hx hv hn;have c0:=hs.cell (j:=0) rfl;have c1:=hs.cell (j:=1) rfl;have c2:=hs.cell (j:=2) rfl;have c3:=hs.cell (j:=3) rfl;have c4:=hs.cell (j:=4) rfl;have c5:=hs.cell (j:=5) rfl;have c6:=hs.cell (j:=6) rfl;have c7:=hs.cell (j:=7) rfl;have c8:=hs.cell (j:=8) rfl;simp only[Nat.add_zero] at c0;have fZ:wr.cell? (aj cb 0)=some (.string name):=by rw[bi.cell yR];exact hc
   have Z5:cb<wr.heap.size:=Nat.lt_of_lt_of_le yR bi.size;clear hs
   go_wp2_with fail
   refine(yj _ _ _ _ _ _ _ _ _ _ _ _ _ _ _ _ fZ Z5).mono ?_;rintro e w1 ⟨rfl,aA⟩;have aW:=bi.trans (aA.mono bi.size);clear c0 c1 c2 c3 c4 c5 c6 c7 c8 aA fZ;have HM:=U (show pMatchB name.toList x.it=(pTypeB x.it.kind&&(x.it.name.text.toList==name.toList)) from rfl)
   cases hm:(pTypeB x.it.kind&&(x.it.name.text.toList==name.toList)) with
   | false=>
    go_wp2_with fail
    go_roundg (gk-1)
    case rel=>exact⟨k+1,by omega,by go_num,U (fun j y hj hy=>by
     rcases Nat.lt_or_ge j k with h | h
     ·exact HA.o j y h hy
     ·rw[show j=k from by omega,HX.o] at hy;simp at hy;subst hy;exact HM.o.trans hm),aW⟩
    case measure=>omega
   | true=>
    have HF:=U (Kv HX.o (HM.o.trans hm) HA.o)
    go_wp2_with fail
    go_ret
    exact⟨mH HF.o.symm,aW⟩
  ·go_wp2_with fail
   go_ret
   exact⟨mH (Gu (fun j y hj=>HA.o j y (by omega))).symm,bi⟩
theorem findType_any(w:World)(lo:Nat)(lv:Value)(X:List PIV)(name:ByteArray)(h:PIts w lo lv X)(hn:Nms X)(hX:X.length≤400):
  aT 99 #[lv,.string name] w fun e w'=>e=.returned (vI (pFindI X name.toList))∧Below w.heap.size w w':=by
 obtain⟨la,lc,nk⟩:∃ a c,lv=.slice a X.length c:=ax h.own
 subst nk;have H:=U h;clear h
 go_enter func99,ntmps99
 go_wp2_with fail
 have cj:Below w.heap.size w (w.alloc (.cells #[.string name] 9)):=(Below.refl _ _).alloc (Nat.le_refl _) _;refine(Cc _ lo _ X name w.heap.size (H.o.below cj) hn hX (by simp) (by simp)).mono ?_;rintro e w1 ⟨rfl,aA⟩;have aW:=cj.trans (aA.mono cj.size)
 go_wp2_with fail
 go_ret
 exact⟨mH rfl,aW⟩
def fname(f:PField):PTok:=⟨2,f.name,f.nameAt⟩
def fbase(f:PField):PTok:=⟨2,f.base,f.baseAt⟩
theorem OJ(l:List PField)(k:Nat)(x:PField)(h:l[k]? = some x):((l.flatMap pfCells).drop (k*7)).take 7=pfCells x:=by
 induction l generalizing k with
 | nil=>simp at h
 | cons a r ih=>
  rw[List.flatMap_cons]
  cases k with
  | zero=>simp at h;subst h;simp[pfCells]
  | succ k=>
   simp at h;rw[List.drop_append,List.drop_eq_nil_of_le (by simp[pfCells];omega),List.nil_append,show (k+1)*7-(pfCells a).length=k*7 from by simp[pfCells];omega];exact ih k h
theorem pfield_seg(h:w.ownsRow lo 246 7 v fs.length (fs.flatMap pfCells)){j:Nat}{f:PField}(hj:fs[j]? = some f):∃ g c,v=.slice (some (aj g 0)) fs.length c∧lo≤g∧g<w.heap.size∧dU w g 246 (j*7) (pfCells f):=by
 have bC:=at_lt hj;obtain⟨g,c,hv,hg,hs⟩:=h.form (by omega);rw[hv] at h;have:=(yP h).part (j*7) 7 (pfCells f) (OJ _ j f hj) rfl (by omega);exact⟨g,c,hv,hg,hs,by simpa using this⟩
theorem gF{wr w2:World}{o:Obj}{B:Nat}(bi:Below B w wr)(hB:B≤wr.heap.size)(iY:wr.ownsRow lo e size v n xs)(di:B≤lo)(hg:(wr.alloc o).grownBy w2 v.ownBlock):Below B w w2 :=
 (bi.alloc hB o).grown hg (by simp;omega) (fun k hk=>by have:=(iY.lt k hk).1;omega)
theorem Aa(w:World)(lo:Nat)(v:Value)(fs:List PField)(h:w.ownsRow lo 246 7 v fs.length (fs.flatMap pfCells))(hl:fs.length≤400):
  aT 138 #[v] w fun e w'=>∃ nv,e=.returned nv∧w'.ownsRow w.heap.size 113 2 nv (fs.map fname).length ((fs.map fname).flatMap nameCells)∧Below w.heap.size w w':=by
 obtain⟨iN,hiN,FO,vp,Kx⟩:=info_parts Tryz.infoPName;obtain⟨la,lc,nk⟩:∃ a c,v=.slice a fs.length c:=ax h
 subst nk;have H:=U h;clear h
 go_enter func138,ntmps138
 go_wp2_with fail
 go_loopg [3,5,8] fs.length (fun gk nv f i wr=>∃ k:Nat,k+gk=fs.length∧i=.int .i64 k∧Hid (wr.ownsRow w.heap.size 113 2 nv k (((fs.take k).map fname).flatMap nameCells))∧Below w.heap.size w wr)
 case atStart=>exact⟨0,by omega,rfl,U (World.ownsRow_nil _ _ _ _),Below.refl _ _⟩
 case round=>
  obtain⟨k,hk,rfl,HO,bi⟩:=hrel;have mI:=bi.size
  by_cases bC:k<fs.length
  ·obtain⟨f,hf⟩:∃ f,fs[k]? = some f:=⟨fs[k],List.getElem?_eq_getElem bC⟩
   obtain⟨na,nc,mB⟩:∃ a c,u3=.slice a k c:=ax HO.o
   subst mB;obtain⟨g,cap,hv,vH,xT,hs⟩:=pfield_seg (aH H.o (fun g hg=>bi.block g (H.o.lt g hg).2)) hf;obtain⟨rfl,rfl⟩:la=some (aj g 0)∧lc=cap:=by simpa using hv
   have HF:=U (show (fs.take (k+1)).map fname=(fs.take k).map fname++[fname f] by rw[List.take_add_one,hf];simp);have c0:wr.cell? ⟨g,k*7,none⟩=some (vI f.number):=hs.cell (j:=0) rfl;have c1:wr.cell? ⟨g,k*7+1,none⟩=some (vI f.numberAt):=hs.cell (j:=1) rfl;have c2:wr.cell? ⟨g,k*7+2,none⟩=some (.string f.name):=hs.cell (j:=2) rfl;have c3:wr.cell? ⟨g,k*7+3,none⟩=some (vI f.nameAt):=hs.cell (j:=3) rfl;have c4:wr.cell? ⟨g,k*7+4,none⟩=some (vI f.shape):=hs.cell (j:=4) rfl;have c5:wr.cell? ⟨g,k*7+5,none⟩=some (.string f.base):=hs.cell (j:=5) rfl;have c6:wr.cell? ⟨g,k*7+6,none⟩=some (vI f.baseAt):=hs.cell (j:=6) rfl;clear hs hv hf
   go_wp2_with (at_builtin;refine wpList_append_lies _ rfl _ _ 115 rfl w.heap.size 113 iN _ 2 24 underlying115 hiN FO vp Kx rfl (by decide) _ _ _ rfl ((HO.o.alloc _).alloc _) (aj _ 0) 1 1 (nameCells (fname f)) rfl rfl (dK _ _ (by simp) #[.string f.name,vI f.nameAt] _) (by simp[nameCells,Value.oneCell']) (by omega) (by unfold maxLen;omega) (by omega) (by simp;omega) _ rfl ?_)
   intro g5 U8 w5 ki de _ _;have iC:=gF (bi.alloc bi.size _) (by simp;omega) (HO.o.alloc _) (Nat.le_refl _) de;clear de
   go_wp2_with fail
   go_roundg (gk-1)
   case rel=>exact⟨k+1,by omega,by go_num,U (by rw[HF.o,List.flatMap_append];simpa using ki),iC⟩
   case measure=>omega
  ·have HE:=U (show fs.take k=fs from List.take_of_length_le (by omega))
   go_wp2_with fail
   go_ret
   exact⟨_,rfl,by have:=HO.o;rw[HE.o] at this;rw[show (fs.map fname).length=k by simp;omega];exact this,bi⟩
def jB(p:PItem)(n:Ninth):List PTok:=if p.kind=2 then [⟨2,n.bb,n.ba⟩] else if p.kind=3 then [⟨2,n.bb,n.ba⟩,⟨2,n.ab,n.aa⟩] else p.fields.map fbase
theorem OK(w:World)(lo:Nat)(p:PItem)(n:Ninth)(h:w.ownsRow lo 246 7 (.slice n.fa p.fields.length n.fc) p.fields.length (p.fields.flatMap pfCells))(hl:p.fields.length≤400):
  aT 184 #[.agg #[vI p.kind,.string p.name.text,vI p.name.at_,.slice n.fa p.fields.length n.fc,.slice n.na p.names.length n.nc,.string n.bb,vI n.ba,.string n.ab,vI n.aa]] w fun e w'=>∃ nv,e=.returned nv∧w'.ownsRow w.heap.size 113 2 nv (jB p n).length ((jB p n).flatMap nameCells)∧Below w.heap.size w w':=by
 obtain⟨iN,hiN,FO,vp,Kx⟩:=info_parts Tryz.infoPName;have H:=U h;clear h
 by_cases h2:p.kind=2
 ·have Va:((p.kind:Int)==2)=true:=by simp;omega
  have HP:=U (show jB p n=[⟨2,n.bb,n.ba⟩] by simp[jB,h2])
  go_enter func184,ntmps184
  go_wp2_with fail
  go_ret
  refine⟨_,rfl,?_,((Below.refl _ _).alloc (Nat.le_refl _) _).alloc (by simp) _⟩;rw[HP.o];have:=World.ownsRow_lit (base:=w.heap.size) (e:=113) (size:=2) (w.alloc (.cells #[vI 2,.string p.name.text,vI p.name.at_,.slice n.fa p.fields.length n.fc,.slice n.na p.names.length n.nc,.string n.bb,vI n.ba,.string n.ab,vI n.aa] 117)) #[.string n.bb,vI n.ba] 1 (by simp) (by unfold maxLen;omega) rfl;simpa[nameCells] using this
 ·by_cases h3:p.kind=3
  ·have Va:((p.kind:Int)==2)=false:=by simp;omega
   have hk3:((p.kind:Int)==3)=true:=by simp;omega
   have HP:=U (show jB p n=[⟨2,n.bb,n.ba⟩,⟨2,n.ab,n.aa⟩] by simp[jB,h3])
   go_enter func184,ntmps184
   go_wp2_with fail
   go_ret
   refine⟨_,rfl,?_,((Below.refl _ _).alloc (Nat.le_refl _) _).alloc (by simp) _⟩;rw[HP.o];have:=World.ownsRow_lit (base:=w.heap.size) (e:=113) (size:=2) (w.alloc (.cells #[vI 3,.string p.name.text,vI p.name.at_,.slice n.fa p.fields.length n.fc,.slice n.na p.names.length n.nc,.string n.bb,vI n.ba,.string n.ab,vI n.aa] 117)) #[.string n.bb,vI n.ba,.string n.ab,vI n.aa] 2 (by simp) (by unfold maxLen;omega) rfl;simpa[nameCells] using this
  ·have Va:((p.kind:Int)==2)=false:=by simp;omega
   have hk3:((p.kind:Int)==3)=false:=by simp;omega
   have HP:=U (show jB p n=p.fields.map fbase by simp[jB,h2,h3]);generalize JJ:p.fields=fs at *;clear JJ;obtain⟨YE,YF,Z6,inc,Z7,Z8,Z9,iaa⟩:=n;dsimp only at *
   go_enter func184,ntmps184
   go_wp2_with fail
   have cj:Below w.heap.size w (w.alloc (.cells #[vI p.kind,.string p.name.text,vI p.name.at_,.slice YE fs.length YF,.slice Z6 p.names.length inc,.string Z7,vI Z8,.string Z9,vI iaa] 117)):=(Below.refl _ _).alloc (Nat.le_refl _) _
   go_loopg [3,5,23] fs.length (fun gk nv f i wr=>∃ k:Nat,k+gk=fs.length∧i=.int .i64 k∧Hid (wr.ownsRow w.heap.size 113 2 nv k (((fs.take k).map fbase).flatMap nameCells))∧Below w.heap.size w wr)
   case atStart=>exact⟨0,by omega,rfl,U (World.ownsRow_nil _ _ _ _),cj⟩
   case round=>
    obtain⟨k,hk,rfl,HO,bi⟩:=hrel;have mI:=bi.size
    by_cases bC:k<fs.length
    ·obtain⟨f,hf⟩:∃ f,fs[k]? = some f:=⟨fs[k],List.getElem?_eq_getElem bC⟩
     obtain⟨na,nc,mB⟩:∃ a c,u3=.slice a k c:=ax HO.o
     subst mB;obtain⟨g,cap,hv,vH,xT,hs⟩:=pfield_seg (aH H.o (fun g hg=>bi.block g (H.o.lt g hg).2)) hf;obtain⟨rfl,rfl⟩:YE=some (aj g 0)∧YF=cap:=by simpa using hv
     have HF:=U (show (fs.take (k+1)).map fbase=(fs.take k).map fbase++[fbase f] by rw[List.take_add_one,hf];simp);have c0:wr.cell? ⟨g,k*7,none⟩=some (vI f.number):=hs.cell (j:=0) rfl;have c1:wr.cell? ⟨g,k*7+1,none⟩=some (vI f.numberAt):=hs.cell (j:=1) rfl;have c2:wr.cell? ⟨g,k*7+2,none⟩=some (.string f.name):=hs.cell (j:=2) rfl;have c3:wr.cell? ⟨g,k*7+3,none⟩=some (vI f.nameAt):=hs.cell (j:=3) rfl;have c4:wr.cell? ⟨g,k*7+4,none⟩=some (vI f.shape):=hs.cell (j:=4) rfl;have c5:wr.cell? ⟨g,k*7+5,none⟩=some (.string f.base):=hs.cell (j:=5) rfl;have c6:wr.cell? ⟨g,k*7+6,none⟩=some (vI f.baseAt):=hs.cell (j:=6) rfl;clear hs hv hf
     go_wp2_with (at_builtin;refine wpList_append_lies _ rfl _ _ 115 rfl w.heap.size 113 iN _ 2 24 underlying115 hiN FO vp Kx rfl (by decide) _ _ _ rfl ((HO.o.alloc _).alloc _) (aj _ 0) 1 1 (nameCells (fbase f)) rfl rfl (dK _ _ (by simp) #[.string f.base,vI f.baseAt] _) (by simp[nameCells,Value.oneCell']) (by omega) (by unfold maxLen;omega) (by omega) (by simp;omega) _ rfl ?_)
     intro g5 U8 w5 ki de _ _;have iC:=gF (bi.alloc bi.size _) (by simp;omega) (HO.o.alloc _) (Nat.le_refl _) de;clear de
     go_wp2_with fail
     go_roundg (gk-1)
     case rel=>exact⟨k+1,by omega,by go_num,U (by rw[HF.o,List.flatMap_append];simpa using ki),iC⟩
     case measure=>omega
    ·have HE:=U (show fs.take k=fs from List.take_of_length_le (by omega))
     go_wp2_with fail
     go_ret
     exact⟨_,rfl,by have:=HO.o;rw[HE.o] at this;rw[HP.o,show (fs.map fbase).length=k by simp;omega];exact this,bi⟩
def tyNames(X:List PIV):List PTok:=(X.filter (fun x=>pTypeB x.it.kind)).map (fun x=>x.it.name)
def otNames(X:List PIV):List PTok:=(X.filter (fun x=>!pTypeB x.it.kind)).map (fun x=>x.it.name)
theorem ur(X:List PIV)(x:PIV):tyNames (X++[x])=tyNames X++if pTypeB x.it.kind then [x.it.name] else []:=by
 unfold tyNames;rw[List.filter_append];cases h:pTypeB x.it.kind<;>simp[h]
theorem uu(X:List PIV)(x:PIV):otNames (X++[x])=otNames X++if pTypeB x.it.kind then [] else [x.it.name]:=by
 unfold otNames;rw[List.filter_append];cases h:pTypeB x.it.kind<;>simp[h]
theorem xm(X:List PIV):(tyNames X).length≤X.length:=by unfold tyNames;rw[List.length_map];exact List.length_filter_le _ _
theorem xp(X:List PIV):(otNames X).length≤X.length:=by unfold otNames;rw[List.length_map];exact List.length_filter_le _ _
def Apt(u v:Value):Prop:=∀ b,u.ownBlock=some b→v.ownBlock=some b→False
theorem Gv{H:Nat}{cp:Nat}(h:Apt u v)(hv:w.ownsRow lo e size v m ys)(hle:w.heap.size≤H)(hg:u.ownBlock=some g∨g=H):Apt (.slice (some (aj g 0)) n cp) v:=by
 intro b h1 h2;have hb:g=b:=by simpa[Value.ownBlock] using h1
 subst hb
 rcases hg with hg | hg
 ·exact h _ hg h2
 ·have:=(hv.lt _ h2).2;omega
theorem CX(h:Apt u v)(hv:w.ownsRow lo e size v m ys)(hb:Below w.heap.size w w0)(hg:w0.grownBy w1 u.ownBlock):w1.ownsRow lo e size v m ys :=
 aH hv (fun k hk=>by
  have hl:=(hv.lt k hk).2;rw[hg.block k (Nat.lt_of_lt_of_le hl hb.size) (fun hh=>h k hh.symm hk)]
  exact hb.block k hl)
theorem Apt.symm(h:Apt u v):Apt v u:=fun b h1 h2=>h b h2 h1
theorem Cd(w:World)(lo:Nat)(lv:Value)(X:List PIV)(h:PIts w lo lv X)(hn:Nms X)(hX:X.length≤400):
  aT 137 #[lv] w fun e w'=>∃ t o,e=.returned (.tuple #[t,o])∧w'.ownsRow w.heap.size 113 2 t (tyNames X).length ((tyNames X).flatMap nameCells)∧w'.ownsRow w.heap.size 113 2 o (otNames X).length ((otNames X).flatMap nameCells)∧Below w.heap.size w w':=by
 obtain⟨iN,hiN,FO,vp,Kx⟩:=info_parts Tryz.infoPName;obtain⟨la,lc,nk⟩:∃ a c,lv=.slice a X.length c:=ax h.own
 subst nk;have H:=U h;have HN:=U hn;clear h hn
 go_enter func137,ntmps137
 go_wp2_with fail
 go_loopg [2,3,5,8] X.length (fun gk t o b i wr=>∃ k:Nat,k+gk=X.length∧i=.int .i64 k∧Hid (wr.ownsRow w.heap.size 113 2 t (tyNames (X.take k)).length ((tyNames (X.take k)).flatMap nameCells))∧Hid (wr.ownsRow w.heap.size 113 2 o (otNames (X.take k)).length ((otNames (X.take k)).flatMap nameCells))∧Hid (Apt t o)∧Below w.heap.size w wr)
 case atStart=>exact⟨0,by omega,rfl,U (World.ownsRow_nil _ _ _ _),U (World.ownsRow_nil _ _ _ _),U (fun b h1 _=>by simp[Value.ownBlock] at h1),Below.refl _ _⟩
 case round=>
  obtain⟨k,hk,rfl,HT,HR,HA,bi⟩:=hrel;have mI:=bi.size
  by_cases bC:k<X.length
  ·obtain⟨x,hx⟩:∃ x,X[k]? = some x:=⟨X[k],List.getElem?_eq_getElem bC⟩
   obtain⟨g,cap,hv,vH,xT⟩:=fT H.o.own (by omega);obtain⟨rfl,rfl⟩:la=some (aj g 0)∧lc=cap:=by simpa using hv
   obtain⟨n,hn⟩:=(H.o.below bi).itemAt HN.o hx;have hs:=hn.seg;have HK:=U (show X.take (k+1)=X.take k++[x] by rw[List.take_add_one,hx];rfl);have hl1:=xm (X.take k);have MO:=xp (X.take k);rw[List.length_take] at hl1 MO;clear hx hv hn;obtain⟨ta,tc,RN⟩:∃ a c,u2=.slice a (tyNames (X.take k)).length c:=ax HT.o
   obtain⟨oa,oc,MP⟩:∃ a c,u3=.slice a (otNames (X.take k)).length c:=ax HR.o
   subst RN MP;have c0:=hs.cell (j:=0) rfl;have c1:=hs.cell (j:=1) rfl;have c2:=hs.cell (j:=2) rfl;have c3:=hs.cell (j:=3) rfl;have c4:=hs.cell (j:=4) rfl;have c5:=hs.cell (j:=5) rfl;have c6:=hs.cell (j:=6) rfl;have c7:=hs.cell (j:=7) rfl;have c8:=hs.cell (j:=8) rfl;simp only[Nat.add_zero] at c0;clear hs
   go_wp2_with fail
   refine(xj _ _ _ _ _ _ _ _ _ _).mono ?_;rintro e w2 ⟨rfl,Ky⟩;have aA:Below wr.heap.size wr (wr.alloc (.cells #[vI x.it.kind,.string x.it.name.text,vI x.it.name.at_,.slice n.fa x.it.fields.length n.fc,.slice n.na x.it.names.length n.nc,.string n.bb,vI n.ba,.string n.ab,vI n.aa] 117)):=(Below.refl _ _).alloc (Nat.le_refl _) _;have d1:w2.cell? (aj wr.heap.size 1)=some (.string x.it.name.text):=by rw[Ky.cell (by simp)];simp
   have d2:w2.cell? (aj wr.heap.size 2)=some (vI x.it.name.at_):=by rw[Ky.cell (by simp)];simp
   have sI:=aA.trans (Ky.mono aA.size);have aW:=bi.trans (sI.mono mI);have BY:=sI.size;have jo:=U (aH (w':=w2) HT.o (fun g hg=>sI.block g (HT.o.lt g hg).2));have FQ:=U (aH (w':=w2) HR.o (fun g hg=>sI.block g (HR.o.lt g hg).2));clear c0 c1 c2 c3 c4 c5 c6 c7 c8 Ky aA HT HR
   cases hty:pTypeB x.it.kind with
   | true=>
    have CY:=U (show tyNames (X.take (k+1))=tyNames (X.take k)++[x.it.name] by rw[HK.o,ur,hty];rfl);have pd:=U (show otNames (X.take (k+1))=otNames (X.take k) by rw[HK.o,uu,hty];simp)
    go_wp2_with (at_builtin;refine wpList_append_lies _ rfl _ _ 115 rfl w.heap.size 113 iN _ 2 24 underlying115 hiN FO vp Kx rfl (by decide) _ _ _ rfl (jo.o.alloc _) (aj _ 0) 1 1 (nameCells x.it.name) rfl rfl (dK _ _ (by simp) #[.string x.it.name.text,vI x.it.name.at_] _) (by simp[nameCells,Value.oneCell']) (by omega) (by unfold maxLen;omega) (by omega) (by simp;omega) _ rfl ?_)
    intro g5 U8 w5 ki de Gw _;have iC:=gF aW (by omega) jo.o (Nat.le_refl _) de;have aab:=CX HA.o FQ.o ((Below.refl _ _).alloc (Nat.le_refl _) _) de;have hap:=Gv (n:=(tyNames (X.take k)).length+1) (cp:=U8) HA.o FQ.o (by omega) Gw;clear de Gw
    go_wp2_with fail
    go_roundg (gk-1)
    case rel=>exact⟨k+1,by omega,by go_num,U (by rw[CY.o,List.flatMap_append];simpa using ki),U (by rw[pd.o];exact aab),U hap,iC⟩
    case measure=>omega
   | false=>
    have CY:=U (show tyNames (X.take (k+1))=tyNames (X.take k) by rw[HK.o,ur,hty];simp);have pd:=U (show otNames (X.take (k+1))=otNames (X.take k)++[x.it.name] by rw[HK.o,uu,hty];rfl)
    go_wp2_with (at_builtin;refine wpList_append_lies _ rfl _ _ 115 rfl w.heap.size 113 iN _ 2 24 underlying115 hiN FO vp Kx rfl (by decide) _ _ _ rfl (FQ.o.alloc _) (aj _ 0) 1 1 (nameCells x.it.name) rfl rfl (dK _ _ (by simp) #[.string x.it.name.text,vI x.it.name.at_] _) (by simp[nameCells,Value.oneCell']) (by omega) (by unfold maxLen;omega) (by omega) (by simp;omega) _ rfl ?_)
    intro g5 U8 w5 ki de Gw _;have iC:=gF aW (by omega) FQ.o (Nat.le_refl _) de;have aab:=CX HA.o.symm jo.o ((Below.refl _ _).alloc (Nat.le_refl _) _) de;have hap:=Gv (n:=(otNames (X.take k)).length+1) (cp:=U8) HA.o.symm jo.o (by omega) Gw;clear de Gw
    go_wp2_with fail
    go_roundg (gk-1)
    case rel=>exact⟨k+1,by omega,by go_num,U (by rw[CY.o];exact aab),U (by rw[pd.o,List.flatMap_append];simpa using ki),U hap.symm,iC⟩
    case measure=>omega
  ·have HE:=U (show X.take k=X from List.take_of_length_le (by omega))
   go_wp2_with fail
   go_ret2
   exact⟨_,_,rfl,by have:=HT.o;rw[HE.o] at this;exact this,by have:=HR.o;rw[HE.o] at this;exact this,bi⟩
def cU(w:World)(lo:Nat)(v:Value)(L:List Nat):Prop:=w.ownsRow lo 3 1 v L.length (L.map kI)
theorem cU.drewN{L:List Nat}(h:cU w lo v L)(n:Nat):cU (w.drewN n) lo v L :=
 aH h (fun g hg=>(below_drewN (Below.refl w.heap.size w) n).block g (h.lt g hg).2)
theorem cU.same{L:List Nat}(h:cU w lo v L)(hb:Below w.heap.size w w'):cU w' lo v L :=
 aH h (fun g hg=>hb.block g (h.lt g hg).2)
def popt(b:Bool)(a:Nat):List Nat:=if b then [a] else []
def YG(fs:List PField)(k:Nat):Bool:=match fs[k]?,fs[k-1]? with | some f,some g=>decide (f.number≤g.number) | _,_=>false
def Et(fs:List PField)(k:Nat):List Nat:=match fs[k]? with | some f=>popt (YG fs k) f.numberAt | none=>[]
def sunkP(fs:List PField):Nat→List Nat
 | 0=>[]
 | k+1=>sunkP fs k++Et fs (k+1)
theorem vJ(fs:List PField):∀ k,(sunkP fs k).length≤k
 | 0=>by simp[sunkP]
 | k+1=>by
  have:=vJ fs k
  have h2:(Et fs (k+1)).length≤1:=by
   unfold Et popt;split
   ·split<;>simp
   ·simp
  simp[sunkP];omega
theorem yl(w:World)(lo:Nat)(v:Value)(fs:List PField)(h:w.ownsRow lo 246 7 v fs.length (fs.flatMap pfCells))(hl:fs.length≤400):
  aT 139 #[v] w fun e w'=>∃ nv,e=.returned nv∧cU w' w.heap.size nv (sunkP fs (fs.length-1))∧Below w.heap.size w w':=by
 obtain⟨iI,rE,zj,uZ,zk⟩:=info_parts Tryz.infoInt;obtain⟨la,lc,nk⟩:∃ a c,v=.slice a fs.length c:=ax h
 subst nk;have H:=U h;clear h
 go_enter func139,ntmps139
 go_wp2_with fail
 go_loopg [3,4] fs.length (fun gk nv i wr=>∃ k:Nat,(1≤k∧(k≤fs.length∨k=1))∧k+gk=fs.length+1∧i=.int .i64 k∧Hid (cU wr w.heap.size nv (sunkP fs (k-1)))∧Below w.heap.size w wr)
 case atStart=>exact⟨1,by omega,by omega,rfl,U (World.ownsRow_nil _ _ _ _),Below.refl _ _⟩
 case round=>
  obtain⟨k,⟨RO,hk9⟩,hk,rfl,HO,bi⟩:=hrel;have mI:=bi.size;have En:=vJ fs (k-1)
  by_cases bC:k<fs.length
  ·obtain⟨f,hf⟩:∃ f,fs[k]? = some f:=⟨fs[k],List.getElem?_eq_getElem bC⟩
   obtain⟨f0,QE⟩:∃ f,fs[k-1]? = some f:=⟨fs[k-1],List.getElem?_eq_getElem (by omega)⟩
   obtain⟨na,nc,mB⟩:∃ a c,u3=.slice a (sunkP fs (k-1)).length c:=ax HO.o
   subst mB;obtain⟨g,cap,hv,vH,xT,hs⟩:=pfield_seg (aH H.o (fun g hg=>bi.block g (H.o.lt g hg).2)) hf;obtain⟨rfl,rfl⟩:la=some (aj g 0)∧lc=cap:=by simpa using hv
   obtain⟨g',ZW,Mr,_,_,Rx⟩:=pfield_seg (aH H.o (fun g hg=>bi.block g (H.o.lt g hg).2)) QE;obtain⟨rfl,rfl⟩:g=g'∧lc=ZW:=by simpa using Mr
   have c0:wr.cell? ⟨g,k*7,none⟩=some (vI f.number):=hs.cell (j:=0) rfl;have c1:wr.cell? ⟨g,k*7+1,none⟩=some (vI f.numberAt):=hs.cell (j:=1) rfl;have d0:wr.cell? ⟨g,(k-1)*7,none⟩=some (vI f0.number):=Rx.cell (j:=0) rfl
   have HE:=U (show sunkP fs k=sunkP fs (k-1)++popt (decide (f.number≤f0.number)) f.numberAt by
    obtain⟨q,rfl⟩:∃ q,k=q+1:=⟨k-1,by omega⟩
    simp only[Nat.add_sub_cancel] at QE ⊢
    simp[sunkP,Et,YG,hf,QE])
   obtain⟨q,hq⟩:∃ q,k-1=q:=⟨_,rfl⟩
   rw[hq] at HO HE d0 En ⊢;have J0:(k:Int)-1=(q:Int):=by omega
   have hq2:(0:Int)≤(q:Int):=by omega
   have hq3:(q:Int)<(fs.length:Int):=by omega
   have HQ:=U hq;clear hs Rx hv Mr hf QE hq
   cases hle:decide (f.number≤f0.number) with
   | false=>
    rw[hle] at HE;have arU:¬ f.number≤f0.number:=by simpa using hle
    go_wp2_with fail
    go_quiet (fail)
    go_wp2_with fail
    go_roundg (gk-1)
    case rel=>exact⟨k+1,by omega,by omega,by go_num,U (by have:=HO.o;rw[show k+1-1=k by omega,HE.o];simpa[popt] using this.drewN _),below_drewN bi _⟩
    case measure=>omega
   | true=>
    rw[hle] at HE
    go_wp2_with fail
    go_quiet (fail)
    go_wp2_with (at_builtin;refine wpList_append_lies _ rfl _ _ 178 rfl w.heap.size 3 iI _ 1 8 underlying178 rE zj uZ zk rfl (by decide) _ _ _ rfl ((HO.o.drewN _).alloc _) (aj _ 0) 1 1 [kI f.numberAt] rfl rfl (dK _ _ (by simp) #[vI f.numberAt] _) (by simp[kI,Value.oneCell']) (by omega) (by unfold maxLen;omega) (by omega) (by simp;omega) _ rfl ?_)
    intro g5 U8 w5 ki de _ _;have iC:=gF (below_drewN bi _) (by simp;omega) (HO.o.drewN _) (Nat.le_refl _) de;clear de
    go_wp2_with fail
    go_roundg (gk-1)
    case rel=>exact⟨k+1,by omega,by omega,by go_num,U (by show World.ownsRow _ _ _ _ _ _ _;rw[show k+1-1=k by omega,HE.o];simpa[popt] using ki),iC⟩
    case measure=>omega
  ·have HE:=U (show k-1=fs.length-1 by omega)
   go_wp2_with fail
   go_ret
   exact⟨_,rfl,by have:=HO.o;rw[HE.o] at this;exact this,bi⟩
theorem OL(l:List PTok)(k:Nat)(x:PTok)(h:l[k]? = some x):((l.flatMap nameCells).drop (k*2)).take 2=nameCells x:=by
 induction l generalizing k with
 | nil=>simp at h
 | cons a r ih=>
  rw[List.flatMap_cons]
  cases k with
  | zero=>simp at h;subst h;simp[nameCells]
  | succ k=>
   simp at h;rw[List.drop_append,List.drop_eq_nil_of_le (by simp[nameCells];omega),List.nil_append,show (k+1)*2-(nameCells a).length=k*2 from by simp[nameCells];omega];exact ih k h
theorem pname_seg{fs:List PTok}(h:w.ownsRow lo 113 2 v fs.length (fs.flatMap nameCells)){j:Nat}{f:PTok}(hj:fs[j]? = some f):∃ g c,v=.slice (some (aj g 0)) fs.length c∧lo≤g∧g<w.heap.size∧dU w g 113 (j*2) (nameCells f):=by
 have bC:=at_lt hj;obtain⟨g,c,hv,hg,hs⟩:=h.form (by omega);rw[hv] at h;have:=(yP h).part (j*2) 2 (nameCells f) (OL _ j f hj) rfl (by omega);exact⟨g,c,hv,hg,hs,by simpa using this⟩
def hasB(X:List PIV)(name:ByteArray):Bool:=kx name.toList||decide (0≤pFindI X name.toList)
def unkB(X:List PIV)(t:PTok):Bool:=!hasB X t.text
theorem hasBase_any(w:World)(lo:Nat)(lv:Value)(X:List PIV)(name:ByteArray)(h:PIts w lo lv X)(hn:Nms X)(hX:X.length≤400):
  aT 70 #[lv,.string name] w fun e w'=>e=.returned (.bool (hasB X name))∧Below w.heap.size w w':=by
 obtain⟨la,lc,nk⟩:∃ a c,lv=.slice a X.length c:=ax h.own
 subst nk;have H:=U h;clear h;have HB:=U (show hasB X name=(kx name.toList||decide (0≤pFindI X name.toList)) from rfl);generalize hasB X name=r at *
 go_enter func70,ntmps70
 go_wp2_with fail
 refine(nj _ _).mono ?_;rintro e w2 ⟨rfl,rfl⟩
 cases hbi:kx name.toList with
 | true=>
  go_wp2_with fail
  go_ret
  exact⟨bR (by rw[HB.o,hbi];rfl),Below.refl _ _⟩
 | false=>
  go_wp2_with fail
  refine(findType_any _ lo _ X name H.o hn hX).mono ?_;rintro e w3 ⟨rfl,bP⟩;generalize pFindI X name.toList=fi at *
  go_wp2_with fail
  go_ret
  exact⟨bR (by rw[HB.o,hbi];simp),bP⟩
def unkP(X:List PIV)(ts:List PTok):List Nat:=ts.flatMap (fun t=>popt (unkB X t) t.at_)
theorem Gx(b:Bool)(a:Nat):(popt b a).length≤1:=by unfold popt;split<;>simp
theorem Gy(X:List PIV)(ts:List PTok):(unkP X ts).length≤ts.length:=by
 induction ts with
 | nil=>simp[unkP]
 | cons a r ih=>unfold unkP at *;have:=Gx (unkB X a) a.at_;rw[List.flatMap_cons,List.length_append,List.length_cons];omega
theorem OM(X:List PIV)(ts:List PTok)(t:PTok):unkP X (ts++[t])=unkP X ts++popt (unkB X t) t.at_:=by simp[unkP]
theorem vK(w:World)(lo:Nat)(lv:Value)(X:List PIV)(p:PItem)(n:Ninth)(h:PIts w lo lv X)(hn:Nms X)(hX:X.length≤400)(hf:w.ownsRow lo 246 7 (.slice n.fa p.fields.length n.fc) p.fields.length (p.fields.flatMap pfCells))(hl:p.fields.length≤400):
  aT 140 #[lv,.agg #[vI p.kind,.string p.name.text,vI p.name.at_,.slice n.fa p.fields.length n.fc,.slice n.na p.names.length n.nc,.string n.bb,vI n.ba,.string n.ab,vI n.aa]] w fun e w'=>∃ nv,e=.returned nv∧cU w' w.heap.size nv (unkP X (jB p n))∧Below w.heap.size w w':=by
 obtain⟨iI,rE,zj,uZ,zk⟩:=info_parts Tryz.infoInt;obtain⟨la,lc,nk⟩:∃ a c,lv=.slice a X.length c:=ax h.own
 subst nk;have H:=U h;have HN:=U hn;have HF:=U hf;clear h hn hf
 go_enter func140,ntmps140
 go_wp2_with fail
 refine(OK _ lo p n (HF.o.alloc _) hl).mono ?_;rintro e w1 ⟨bv,rfl,Ry,aA⟩;have cj:Below w.heap.size w (w.alloc (.cells #[vI p.kind,.string p.name.text,vI p.name.at_,.slice n.fa p.fields.length n.fc,.slice n.na p.names.length n.nc,.string n.bb,vI n.ba,.string n.ab,vI n.aa] 117)):=(Below.refl _ _).alloc (Nat.le_refl _) _;have aad:=cj.trans (aA.mono cj.size);have ju:=aad.size
 have hBl:(jB p n).length≤400:=by
  unfold jB;split
  ·simp
  ·split<;>simp<;>omega
 generalize hB:jB p n=B at *;obtain⟨ba,bc,hbv⟩:∃ a c,bv=.slice a B.length c:=ax Ry
 subst hbv;have HB:=U Ry;have HI1:=U (H.o.below aad);have VP:=U hB;clear Ry aA cj hB
 go_wp2_with fail
 go_loopg [5,7,11] B.length (fun gk nv b i wr=>∃ k:Nat,k+gk=B.length∧i=.int .i64 k∧Hid (cU wr w1.heap.size nv (unkP X (B.take k)))∧Below w1.heap.size w1 wr)
 case atStart=>exact⟨0,by omega,rfl,U (World.ownsRow_nil _ _ _ _),Below.refl _ _⟩
 case round=>
  obtain⟨k,hk,rfl,HO,bi⟩:=hrel;have mI:=bi.size;have En:=Gy X (B.take k);rw[List.length_take] at En
  by_cases bC:k<B.length
  ·obtain⟨f,hf⟩:∃ f,B[k]? = some f:=⟨B[k],List.getElem?_eq_getElem bC⟩
   have HE:=U (show unkP X (B.take (k+1))=unkP X (B.take k)++popt (unkB X f) f.at_ by rw[List.take_add_one,hf];exact OM X _ f);obtain⟨na,nc,mB⟩:∃ a c,u5=.slice a (unkP X (B.take k)).length c:=ax HO.o
   subst mB;obtain⟨g,cap,hv,vH,xT,hs⟩:=pname_seg (aH HB.o (fun g hg=>bi.block g (HB.o.lt g hg).2)) hf;obtain⟨rfl,rfl⟩:ba=some (aj g 0)∧bc=cap:=by simpa using hv
   have c0:wr.cell? ⟨g,k*2,none⟩=some (.string f.text):=hs.cell (j:=0) rfl;have c1:wr.cell? ⟨g,k*2+1,none⟩=some (vI f.at_):=hs.cell (j:=1) rfl;have CZ:Below wr.heap.size wr (wr.alloc (.cells #[.string f.text,vI f.at_] 113)):=(Below.refl _ _).alloc (Nat.le_refl _) _;clear hs hv hf
   go_wp2_with fail
   refine(hasBase_any _ lo _ X f.text (HI1.o.below (bi.trans (CZ.mono mI))) HN.o hX).mono ?_;rintro e w3 ⟨rfl,bP⟩;have Kz:Below wr.heap.size wr w3:=CZ.trans (bP.mono CZ.size);have BD:=Kz.size;have aeL:=bi.trans (Kz.mono mI);have QH:=U (HO.o.same Kz);have d1:w3.cell? (aj wr.heap.size 1)=some (vI f.at_):=by rw[bP.cell (by simp)];simp
   cases JK:hasB X f.text with
   | true=>
    have HU:=U (show unkB X f=false by simp[unkB,JK])
    go_wp2_with fail
    go_roundg (gk-1)
    case rel=>exact⟨k+1,by omega,by go_num,U (by have:=QH.o;rw[HE.o,HU.o];simpa[popt] using this),aeL⟩
    case measure=>omega
   | false=>
    have HU:=U (show unkB X f=true by simp[unkB,JK])
    go_wp2_with (at_builtin;refine wpList_append_lies _ rfl _ _ 178 rfl w1.heap.size 3 iI _ 1 8 underlying178 rE zj uZ zk rfl (by decide) _ _ _ rfl (QH.o.alloc _) (aj _ 0) 1 1 [kI f.at_] rfl rfl (dK _ _ (by simp) #[vI f.at_] _) (by simp[kI,Value.oneCell']) (by omega) (by unfold maxLen;omega) (by omega) (by simp;omega) _ rfl ?_)
    intro g5 U8 w5 ki de _ _;have iC:=gF aeL (by omega) QH.o (Nat.le_refl _) de;clear de
    go_wp2_with fail
    go_roundg (gk-1)
    case rel=>exact⟨k+1,by omega,by go_num,U (by show World.ownsRow _ _ _ _ _ _ _;rw[HE.o,HU.o];simpa[popt] using ki),iC⟩
    case measure=>omega
  ·have HE:=U (show B.take k=B from List.take_of_length_le (by omega))
   go_wp2_with fail
   go_ret
   exact⟨_,rfl,by have:=HO.o;rw[HE.o] at this;rw[VP.o];exact cm this ju,aad.trans (bi.mono ju)⟩
open Go.Maps
theorem Ab{H:Type}{P:Program}{k:TypeId}{R:Value→Option (DataW H × List MemPlace)}{b:Nat}{D:DataW H}
  (h:w.ownsRow lo e size v n xs) (hm:w.ownsMap P k R b m D):some b≠v.ownBlock:=by
 obtain⟨es,clock,hb,_⟩:=hm
 rcases h.2 with⟨h',_⟩ | ⟨g',ZW,cur,h',_,hg,_⟩
 ·subst h';simp[Value.ownBlock]
 ·subst h'
  intro hh;have:b=g':=by simpa[Value.ownBlock] using hh
  subst this;rw[hb] at hg;cases hg
def Ac(ts:List PTok)(k:Nat):List Nat:=match ts[k]? with | some t=>popt ((ts.take k).any (fun g=>g.text.toList==t.text.toList)) t.at_ | none=>[]
def kj(ts:List PTok)(k:Nat):List Nat:=(List.range k).flatMap (Ac ts)
def repP(gs:List (List PTok)):List Nat:=gs.flatMap (fun ts=>kj ts ts.length)
theorem Ad(ts:List PTok)(k:Nat):kj ts (k+1)=kj ts k++Ac ts k:=by unfold kj;rw[List.range_succ,List.flatMap_append];simp
theorem vL(ts:List PTok):∀ k,(kj ts k).length≤k
 | 0=>by simp[kj]
 | k+1=>by
  have:=vL ts k
  have h2:(Ac ts k).length≤1:=by
   unfold Ac;split
   ·exact Gx _ _
   ·simp
  rw[Ad,List.length_append];omega
def sJ(ts:List PTok)(l:List UInt8):Nat:=(ts.filter (fun t=>t.text.toList==l)).length
theorem VQ(ts:List PTok)(l:List UInt8):sJ ts l≤ts.length:=List.length_filter_le _ _
theorem C6(ts:List PTok)(t:PTok)(l:List UInt8):sJ (ts++[t]) l=sJ ts l+if t.text.toList==l then 1 else 0:=by
 unfold sJ;rw[List.filter_append];cases h:(t.text.toList==l)<;>simp[h]
theorem RP(ts:List PTok)(l:List UInt8):ts.any (fun g=>g.text.toList==l)=decide (0<sJ ts l):=by
 rw[Bool.eq_iff_iff];simp[sJ,List.length_pos_iff_exists_mem]
theorem Tryz.mapLaw:Keyed Tryz.prog 9:=string_keyed underlying9
theorem Tryz.zeroInt(w:World):(zeroValue 3).run Tryz.prog w=.ok (vI 0) w:=by kernel_rfl
def lA(w:World)(b n:Nat)(ts:List PTok):Prop:=∃ D:DataW Unit,w.ownsMap Tryz.prog 9 (plainElem Tryz.prog 3) b n D∧IsMap D∧∀ l:List UInt8,D.atKey (.string l) (.lit (.int .i64 0))=.lit (.int .i64 (sJ ts l))
structure KA(w:World)(lo:Nat)(gv:Value)(Gs:List (Value × List PTok)):Prop where
 own:w.ownsRow lo 115 1 gv Gs.length (Gs.map (fun p=>p.1))
 ue:∀ p∈Gs,w.ownsRow lo 113 2 p.1 p.2.length (p.2.flatMap nameCells)
 len:∀ p∈Gs,p.2.length≤400
 txt:∀ p∈Gs,∀ t∈p.2,t.text.size≤400
theorem VR(h:t.text.size≤400):keyOf Tryz.prog 9 (.string t.text)=some (.string t.text.toList):=by
 rw[ByteArray.toList_eq];exact Go.WideMaps.keyOf_string_mk underlying9 (by unfold maxLen;omega)
theorem lA.start(w:World):lA (w.alloc (.map #[] 0)) w.heap.size 0 [] :=
 ⟨.map [],World.ownsMap_made _ _ _ _,isMap_empty,fun l=>by simp[sJ,DataW.atKey]⟩
theorem lA.put{b:Nat}{D:DataW Unit}{c:Int}(hm:w.ownsMap Tryz.prog 9 (plainElem Tryz.prog 3) b n (D.put (.string t.text.toList) (.lit (.int .i64 c))))(hD:IsMap D)
  (BI:∀ l:List UInt8,D.atKey (.string l) (.lit (.int .i64 0))=.lit (.int .i64 (sJ ts l))) (hc:c=(sJ ts t.text.toList:Int)+1):lA w b n (ts++[t]):=by
 refine⟨_,hm,hD.put _ _,fun l=>?_⟩;rw[C6]
 by_cases he:l=t.text.toList
 ·subst he
  rw[atKey_put_same hD (show WideAt.IsKeyLit (.string _) from trivial),hc];simp
 ·rw[atKey_put_other (by simpa using he),BI l]
  have:(t.text.toList==l)=false:=by simpa using fun hh=>he hh.symm
  rw[this];simp
theorem lA.grown{b e:Nat}(h:lA w b n ts)(hv:w.ownsRow lo e size v m xs)(hb:Below w.heap.size w w0)(hg:w0.grownBy w1 v.ownBlock):lA w1 b n ts:=by
 obtain⟨D,hm,hD,BI⟩:=h;have bT:=Ab hv hm;have bC:=hm.lt;obtain⟨es,clock,vj,F,hs,hDD⟩:=hm;exact⟨D,⟨es,clock,((hg.block b (Nat.lt_of_lt_of_le bC hb.size) bT).trans (hb.block b bC)).trans vj,F,hs,hDD⟩,hD,BI⟩
theorem ON(gs:List (List PTok))(ts:List PTok):repP (gs++[ts])=repP gs++kj ts ts.length:=by simp[repP]
theorem Ae(gs:List (List PTok))(h:∀ ts∈gs,ts.length≤400):(repP gs).length≤gs.length*400:=by
 induction gs with
 | nil=>simp[repP]
 | cons a r ih=>
  have h1:=ih (fun ts QG=>h ts (by simp[QG]));have h2:=vL a a.length;have h3:=h a (by simp);have e:repP (a::r)=kj a a.length++repP r:=by simp[repP]
  rw[e,List.length_append,List.length_cons];omega
theorem Gz{a:Addr}(hb:Below w.heap.size w w')(h:w.cell? a=some v)(bC:a.block<w.heap.size):w'.cell? a=some v:=(hb.cell bC).trans h
theorem RQ{Gs:List (Value × List PTok)}(h:w.ownsRow lo 115 1 (.slice (some (aj g 0)) Gs.length cap) Gs.length (Gs.map (fun p=>p.1))){q:Nat}{p:Value × List PTok}(hq:Gs[q]? = some p):w.cell? (aj g q)=some p.1:=by
 have:=at_lt hq;rw[h.cellAt q (by omega),List.getElem?_map,hq];rfl
theorem qq(w:World)(lo:Nat)(gv:Value)(Gs:List (Value × List PTok))(h:KA w lo gv Gs)(hl:Gs.length≤2):
  aT 136 #[gv] w fun e w'=>∃ nv,e=.returned nv∧cU w' w.heap.size nv (repP (Gs.map (fun p=>p.2)))∧Below w.heap.size w w':=by
 have wY:=@run_makeMap Tryz.prog;obtain⟨iI,rE,zj,uZ,zk⟩:=info_parts Tryz.infoInt;obtain⟨la,lc,nk⟩:∃ a c,gv=.slice a Gs.length c:=ax h.own
 subst nk;have H:=U h;clear h
 go_enter func136,ntmps136
 go_wp2_with fail
 go_loopg [3,5,6,8,11] Gs.length (fun gk nv x5 x6 x8 i wr=>∃ q:Nat,q+gk=Gs.length∧i=.int .i64 q∧Hid (cU wr w.heap.size nv (repP ((Gs.take q).map (fun p=>p.2))))∧Below w.heap.size w wr)
 case atStart=>exact⟨0,by omega,rfl,U (World.ownsRow_nil _ _ _ _),Below.refl _ _⟩
 case round=>
  obtain⟨q,hq,rfl,HO,bi⟩:=hrel;have mI:=bi.size
  by_cases bC:q<Gs.length
  ·obtain⟨p,hp⟩:∃ p,Gs[q]? = some p:=⟨Gs[q],List.getElem?_eq_getElem bC⟩
   obtain⟨g,cap,hv,vH,xT⟩:=fT H.o.own (by omega);obtain⟨rfl,rfl⟩:la=some (aj g 0)∧lc=cap:=by simpa using hv
   have c0:=Gz bi (RQ H.o.own hp) xT;have HG:=U (H.o.ue p (List.mem_of_getElem? hp));have QG:=H.o.len p (List.mem_of_getElem? hp);have HTX:=U (H.o.txt p (List.mem_of_getElem? hp));have HE:=U (show (Gs.take (q+1)).map (fun p=>p.2)=(Gs.take q).map (fun p=>p.2)++[p.2] by rw[List.take_add_one,hp];simp)
   have MQ:(repP ((Gs.take q).map (fun p=>p.2))).length≤800:=by
    have:=Ae ((Gs.take q).map (fun p=>p.2)) (fun ts QG=>by
     obtain⟨r,hr,rfl⟩:=List.mem_map.1 QG
     exact H.o.len r (List.mem_of_mem_take hr))
    rw[List.length_map,List.length_take] at this;omega
   obtain⟨pv,ts⟩:=p;dsimp only at *;generalize hA:repP ((Gs.take q).map (fun p=>p.2))=A at *;have HA:=U hA;clear hA hv hp;obtain⟨na,nc,mB⟩:∃ a c,u3=.slice a A.length c:=ax HO.o
   obtain⟨pa,pc,VS⟩:∃ a c,pv=.slice a ts.length c:=ax HG.o
   subst mB VS;obtain⟨w0,nF⟩:∃ w0,w0=wr:=⟨_,rfl⟩
   obtain⟨ajX,ku⟩:∃ g,g=gk:=⟨_,rfl⟩
   subst nF ku
   go_wp2_with fail
   go_loopg [3,8,18] ts.length (fun g2 nv b i w2=>∃ k:Nat,k+g2=ts.length∧i=.int .i64 k∧Hid (cU w2 w.heap.size nv (A++kj ts k))∧Hid (lA w2 w0.heap.size k (ts.take k))∧Below w.heap.size w w2)
   case atStart=>exact⟨0,by omega,rfl,U (by have:=HO.o.alloc (.map #[] 0);simpa[kj,cU] using this),U (lA.start w0),bi.alloc mI _⟩
   case round=>
    obtain⟨k,hk,rfl,HP,HC,KB⟩:=hrel;have ajY:=KB.size;have hrl:=vL ts k;have aom:(A++kj ts k).length≤1200:=by rw[List.length_append];omega
    have QK:=U (show A++kj ts (k+1)=(A++kj ts k)++Ac ts k by rw[Ad];simp);have OO:=U (show k=ts.length→A++kj ts k=A++kj ts ts.length from fun e=>by rw[e]);generalize A++kj ts k=L at *;obtain⟨na2,nc2,mB⟩:∃ a c,u3=.slice a L.length c:=ax HP.o
    subst mB
    by_cases GA:k<ts.length
    ·obtain⟨t,ht⟩:∃ t,ts[k]? = some t:=⟨ts[k],List.getElem?_eq_getElem GA⟩
     obtain⟨tg,ajZ,RN,sK,ar0,hs⟩:=pname_seg (aH HG.o (fun g hg=>KB.block g (HG.o.lt g hg).2)) ht;obtain⟨rfl,rfl⟩:pa=some (aj tg 0)∧pc=ajZ:=by simpa using RN
     have e0:wr.cell? ⟨tg,k*2,none⟩=some (.string t.text):=hs.cell (j:=0) rfl;have e1:wr.cell? ⟨tg,k*2+1,none⟩=some (vI t.at_):=hs.cell (j:=1) rfl;have Ce:=VR (HTX.o t (List.mem_of_getElem? ht));have HK:=U (show ts.take (k+1)=ts.take k++[t] by rw[List.take_add_one,ht];rfl)
     have HR:=U (show Ac ts k=popt (decide (0<sJ (ts.take k) t.text.toList)) t.at_ by
      unfold Ac;rw[ht];simp only[RP])
     have aj0:=VQ (ts.take k) t.text.toList;rw[List.length_take] at aj0;obtain⟨D,iY,hD,BI⟩:=HC.o;have HHD:=U hD;have ZY:=U BI;have MR:=iY.alloc (.cells #[.string t.text,vI t.at_] 113);have HHO:=U iY;clear hs RN ht hD BI iY;have QL:=U (HP.o.alloc (.cells #[.string t.text,vI t.at_] 113))
     go_wp2_with (first
      | (at_lookup;refine wpList_lookup_own_int _ rfl _ _ 280 rfl 9 3 .i64 Tryz.mapLaw underlying280 underlying3 (Tryz.zeroInt _) w0.heap.size k _ rfl MR _ _ rfl Ce ?_;intro c hc hwc;rw[ZY.o] at hc;obtain rfl:((sJ (ts.take k) t.text.toList:Nat):Int)=c:=(by simpa using hc);clear hc hwc)
      | (at_mapUpdate;refine wpList_mapUpdate_own _ rfl _ _ _ 280 rfl 9 3 Tryz.mapLaw underlying280 _ w0.heap.size k _ rfl MR (by unfold maxLen;omega) _ _ _ rfl rfl Ce _ [] (plainElem_int underlying3 (WalkArith.wf_i64 (by omega))) ?_)
      | fail)
     intro w1 qt vM;have RR:=HHO.o.lt;have kJ:=U (show Below w.heap.size w w1 from(KB.alloc ajY _).grown vM (by simp;omega) (fun j hj=>by cases hj;exact mI));have ju:wr.heap.size+1≤w1.heap.size:=by have:=vM.size;simpa using this
     have d0:w1.cell? (aj wr.heap.size 0)=some (.string t.text):=by
      rw[World.cell?_of_block (vM.block wr.heap.size (by simp) (by simp;omega))];simp
     have d1:w1.cell? (aj wr.heap.size 1)=some (vI t.at_):=by
      rw[World.cell?_of_block (vM.block wr.heap.size (by simp) (by simp;omega))];simp
     have jP:=U (show cU w1 w.heap.size (.slice na2 L.length nc2) L from aH QL.o (fun g hg=>vM.block g (QL.o.lt g hg).2 (fun hh=>Ab QL.o MR (by rw[hg];exact hh.symm))));have xq:=U (show lA w1 w0.heap.size (k+1) (ts.take (k+1)) by rw[HK.o];exact lA.put qt HHD.o ZY.o rfl);have HCN:=U (show sJ (ts.take (k+1)) t.text.toList=sJ (ts.take k) t.text.toList+1 by rw[HK.o,C6];simp);obtain⟨D1,wX,hD1,aeN⟩:=xq.o;have aeO:=U aeN;clear qt vM aeN hD1 ZY HHD HHO MR QL e0 e1 RR;have aeP:=U (QK.o.trans (by rw[HR.o]));generalize hcn:sJ (ts.take k) t.text.toList=cn at *
     cases VT:decide (0<cn) with
     | false=>
      have aeQ:¬ (1:Int)<(cn:Int)+1:=by simp at VT;omega
      have HL:=U (show A++kj ts (k+1)=L by rw[aeP.o,VT];simp[popt])
      go_wp2_with (first
       | (at_lookup;refine wpList_lookup_own_int _ rfl _ _ 280 rfl 9 3 .i64 Tryz.mapLaw underlying280 underlying3 (Tryz.zeroInt _) w0.heap.size (k+1) _ rfl wX _ _ rfl Ce ?_;intro c hc hwc;rw[aeO.o,HCN.o] at hc;obtain rfl:((cn:Nat):Int)+1=c:=(by simpa using hc);clear hc hwc)
       | fail)
      go_roundg (gk-1)
      case rel=>exact⟨k+1,by omega,by go_num,U (by rw[HL.o];exact jP.o),xq,kJ.o⟩
      case measure=>omega
     | true=>
      have aeQ:(1:Int)<(cn:Int)+1:=by simp at VT;omega
      have HL:=U (show A++kj ts (k+1)=L++[t.at_] by rw[aeP.o,VT];simp[popt])
      go_wp2_with (first
       | (at_lookup;refine wpList_lookup_own_int _ rfl _ _ 280 rfl 9 3 .i64 Tryz.mapLaw underlying280 underlying3 (Tryz.zeroInt _) w0.heap.size (k+1) _ rfl wX _ _ rfl Ce ?_;intro c hc hwc;rw[aeO.o,HCN.o] at hc;obtain rfl:((cn:Nat):Int)+1=c:=(by simpa using hc);clear hc hwc)
       | (at_builtin;refine wpList_append_lies _ rfl _ _ 178 rfl w.heap.size 3 iI _ 1 8 underlying178 rE zj uZ zk rfl (by decide) _ _ _ rfl (jP.o.alloc _) (aj _ 0) 1 1 [kI t.at_] rfl rfl (dK _ _ (by simp) #[vI t.at_] _) (by simp[kI,Value.oneCell']) (by omega) (by unfold maxLen;omega) (by omega) (by simp;omega) _ rfl ?_)
       | fail)
      intro g5 U8 w5 ki de _ _;have iC:=gF kJ.o (by omega) jP.o (Nat.le_refl _) de;have OP:=U (show lA w5 w0.heap.size (k+1) (ts.take (k+1)) from xq.o.grown jP.o ((Below.refl _ _).alloc (Nat.le_refl _) _) de);clear de
      go_wp2_with fail
      go_roundg (gk-1)
      case rel=>exact⟨k+1,by omega,by go_num,U (by show World.ownsRow _ _ _ _ _ _ _;rw[HL.o];simpa using ki),OP,iC⟩
      case measure=>omega
    ·have HL:=U (show repP ((Gs.take (q+1)).map (fun p=>p.2))=L by rw[HE.o,ON,HA.o,OO.o (by omega)])
     go_wp2_with fail
     go_roundg (ajX-1)
     case rel=>exact⟨q+1,by omega,by go_num,U (by rw[HL.o];exact HP.o),KB⟩
     case measure=>omega
  ·have HL:=U (show Gs.take q=Gs from List.take_of_length_le (by omega))
   go_wp2_with fail
   go_ret
   exact⟨_,rfl,by have:=HO.o;rw[HL.o] at this;exact this,bi⟩
def Edge(X:List PIV)(i j:Nat):Prop:=∃ x f,X[i]? = some x∧f∈x.it.fields∧f.shape=0∧pFindI X f.base.toList=(j:Int)
def WayL {α:Type} (E:α → α → Prop):Nat → α → α → Prop
  | 0,i,j => E i j
  | n + 1,i,k => ∃ j,E i j ∧ WayL E n j k
theorem WayL.ind {α:Type} {E:α → α → Prop} {P:α → α → Prop} (one:∀ i j,E i j → P i j) (more:∀ i j k n,E i j → WayL E n j k → P j k → P i k):∀ (n:Nat) (i k:α),WayL E n i k → P i k
  | 0,i,k,h => one i k h
  | n + 1,i,k,⟨j,e,h⟩ => more i j k n e h (WayL.ind one more n j k h)
def Way (X:List PIV) (i k:Nat):Prop := ∃ n,WayL (Edge X) n i k
theorem Way.one {X:List PIV} {i j:Nat} (e:Edge X i j):Way X i j := ⟨0,e⟩
theorem Way.more {X:List PIV} {i j k:Nat} (e:Edge X i j) (h:Way X j k):Way X i k := h.elim fun n hn => ⟨n + 1,j,e,hn⟩
theorem Way.ind {X:List PIV} {motive:∀ i k,Way X i k → Prop} (one:∀ {i j} (e:Edge X i j),motive i j (.one e)) (more:∀ {i j k} (e:Edge X i j) (h:Way X j k),motive j k h → motive i k (.more e h)):∀ {i k} (h:Way X i k),motive i k h :=
  fun {i k} ⟨n,h⟩ => WayL.ind (P := fun i k => ∀ h,motive i k h) (fun _ _ e _ => one e) (fun _ _ _ n e h ih _ => more e ⟨n,h⟩ (ih _)) n i k h _
def Af(X:List PIV)(fs:List PField)(j k:Nat):Prop:=∃ f∈fs.take j,f.shape=0∧pFindI X f.base.toList=(k:Int)
def vN(b:List Bool)(j:Nat):Bool:=(b[j]?).getD false
structure jC(X:List PIV)(whole:Nat)(b0 b:List Bool)(E:Nat→Prop):Prop where
 mono:∀ j,vN b0 j=true→vN b j=true
 new:∀ j,vN b j=true→vN b0 j=false→j≠whole∧∀ k,Edge X j k→vN b k=true
 done:∀ k,E k→vN b k=true
def RS(X:List PIV)(whole i:Nat)(b0:List Bool)(r:Bool)(b:List Bool):Prop:=match r with | true=>Way X i whole | false=>jC X whole b0 b (Edge X i)
theorem jC.start(X:List PIV)(whole:Nat)(b:List Bool)(fs:List PField):jC X whole b b (Af X fs 0) :=
 ⟨fun _ h=>h,fun j h h'=>by(rw[h] at h';cases h'),fun k ⟨f,hf,_⟩=>by simp at hf⟩
theorem jC.skip(h:jC X whole b0 b (Af X fs j))(hf:fs[j]? = some f)(hs:f.shape≠0∨pFindI X f.base.toList<0∨∃ k:Nat,pFindI X f.base.toList=(k:Int)∧vN b k=true):jC X whole b0 b (Af X fs (j+1)):=by
 refine⟨h.mono,h.new,fun k hk=>?_⟩;obtain⟨f',hm,h0,he⟩:=hk;rw[List.take_add_one,hf] at hm;simp only[Option.toList_some,List.mem_append,List.mem_singleton] at hm
 rcases hm with hm | rfl
 ·exact h.done k ⟨f',hm,h0,he⟩
 ·rcases hs with hs | hs | ⟨q,hq,hb⟩
  ·exact absurd h0 hs
  ·omega
  ·rw[show k=q from by omega];exact hb
theorem Eu(hk:k<b.length)(j:Nat):vN (b.set k true) j=(if j=k then true else vN b j):=by
 unfold vN;rw[List.getElem?_set]
 by_cases h:k=j
 ·subst h;simp[hk]
 ·rw[if_neg h,if_neg (fun e=>h e.symm)]
theorem jC.aj2{b2:List Bool}(h:jC X whole b0 b (Af X fs j))(hf:fs[j]? = some f)(he:pFindI X f.base.toList=(k:Int))(hw:k≠whole)(hk:k<b.length)(h2:jC X whole (b.set k true) b2 (Edge X k)):jC X whole b0 b2 (Af X fs (j+1)):=by
 have pY:∀ q,vN b q=true→vN b2 q=true:=fun q hq=>h2.mono q (by rw[Eu hk];split<;>simp_all)
 have Va:vN b2 k=true:=h2.mono k (by rw[Eu hk];simp);refine⟨fun q hq=>pY q (h.mono q hq),fun q hq hq0=>?_,fun q hq=>?_⟩
 ·by_cases hqk:q=k
  ·subst hqk;exact⟨hw,h2.done⟩
  ·cases VB:vN b q with
   | true=>have:=h.new q VB hq0;exact⟨this.1,fun r hr=>pY r (this.2 r hr)⟩
   | false=>exact h2.new q hq (by rw[Eu hk,if_neg hqk];exact VB)
 ·obtain⟨f',hm,h0,he'⟩:=hq
  rw[List.take_add_one,hf] at hm;simp only[Option.toList_some,List.mem_append,List.mem_singleton] at hm
  rcases hm with hm | rfl
  ·exact pY q (h.done q ⟨f',hm,h0,he'⟩)
  ·rw[show q=k from by omega];exact Va
theorem jC.all(hx:X[i]? = some x)(hj:x.it.fields.length≤j)(h:jC X whole b0 b (Af X x.it.fields j)):jC X whole b0 b (Edge X i):=by
 refine⟨h.mono,h.new,fun k ⟨y,f,hy,hm,h0,he⟩=>h.done k ⟨f,?_,h0,he⟩⟩;rw[hx] at hy;cases hy;rw[List.take_of_length_le hj];exact hm
def mi(b:List Bool):Nat:=b.count false
theorem Ag:∀ (b:List Bool) (k:Nat),b[k]? = some false→mi (b.set k true)<mi b
 | [],k,h=>by simp at h
 | a::r,0,h=>by simp at h;subst h;simp[mi]
 | a::r,k+1,h=>by
  have:=Ag r k (by simpa using h);unfold mi at *;rw[List.set_cons_succ,List.count_cons,List.count_cons];omega
theorem xu:∀ (b b':List Bool),b.length=b'.length→(∀ j,vN b j=true→vN b' j=true)→mi b'≤mi b
 | [],b',hl,_=>by
  have:b'=[]:=by cases b' with | nil=>rfl | cons a r=>simp at hl
  subst this;exact Nat.le_refl _
 | a::r,[],hl,_=>by simp at hl
 | a::r,a'::r',hl,h=>by
  have:=xu r r' (by simpa using hl) (fun j hj=>by have:=h (j+1);unfold vN at this hj ⊢;simpa using this (by simpa using hj));have h0:=h 0;unfold mi at *;rw[List.count_cons,List.count_cons];cases a<;>cases a'<;>simp_all[vN]<;>omega
theorem jC.aeR{E:Nat→Prop}(h:jC X whole (List.replicate n false) b E){i:Nat}(hi:∀ k,Edge X i k→vN b k=true):¬ Way X i whole:=by
 have h0:∀ j,vN (List.replicate n false) j=false:=fun j=>by
  unfold vN;rw[List.getElem?_replicate];split<;>rfl
 intro hw
 have mG:∀ (a c:Nat),Way X a c→c=whole→(∀ k,Edge X a k→vN b k=true)→False:=by
  intro a c hw
  induction hw using Way.ind with
  | one e=>intro hc hk;subst hc;exact(h.new _ (hk _ e) (h0 _)).1 rfl
  | more e _ ih=>intro hc hk;exact ih hc (h.new _ (hk _ e) (h0 _)).2
 exact mG i whole hw rfl hi
theorem RS.way{r:Bool}(h:RS X whole i (List.replicate n false) r b):r=true↔Way X i whole:=by
 cases r with
 | true=>exact⟨fun _=>h,fun _=>rfl⟩
 | false=>exact⟨fun e=>(by cases e),fun hw=>absurd hw (jC.aeR h h.done)⟩
theorem VU{X:List ByteArray}(h:w.ownsRow lo 9 1 v X.length (X.map ie))(hp:0<X.length):∃ g c,v=.slice (some (aj g 0)) X.length c∧g<w.heap.size∧∀ k s,X[k]? = some s→w.cell? (aj g k)=some (.string s):=by
 obtain⟨g,c,hv,_,hg⟩:=h.form hp;subst hv;refine⟨g,c,rfl,hg,fun k s hk=>?_⟩
 have bC:k<X.length:=by
  rcases Nat.lt_or_ge k X.length with h | h
  ·exact h
  ·rw[List.getElem?_eq_none h] at hk;cases hk
 rw[h.cellAt k (by omega),List.getElem?_map,hk];rfl
theorem VV{X:List Nat}(h:w.ownsRow lo 3 1 v X.length (X.map kI))(hp:0<X.length):∃ g c,v=.slice (some (aj g 0)) X.length c∧g<w.heap.size∧∀ (k s:Nat),X[k]? = some s→w.cell? (aj g k)=some (vI s):=by
 obtain⟨g,c,hv,_,hg⟩:=h.form hp;subst hv;refine⟨g,c,rfl,hg,fun k s hk=>?_⟩
 have bC:k<X.length:=by
  rcases Nat.lt_or_ge k X.length with h | h
  ·exact h
  ·rw[List.getElem?_eq_none h] at hk;cases hk
 rw[h.cellAt k (by omega),List.getElem?_map,hk];rfl
def oH(p:PItem):List PTok:=if p.kind=2 then [⟨2,jA p.base,cellAt p.base⟩] else if p.kind=3 then [⟨2,jA p.base,cellAt p.base⟩,⟨2,jA p.answer,cellAt p.answer⟩] else p.fields.map fbase
def PFI(X:List PIV)(i:Nat)(x:PIV)(a:Nat):Prop:=a∈repP [x.it.fields.map fname]∨a∈repP [x.it.names]∨a∈sunkP x.it.fields (x.it.fields.length-1)∨a∈unkP X (oH x.it)∨(x.it.kind=0∧Way X i i∧a=x.it.name.at_)
def PF(X:List PIV)(a:Nat):Prop:=a∈repP [tyNames X,otNames X]∨∃ i x,X[i]? = some x∧PFI X i x a
structure YH(s:ByteArray)(X:List PIV):Prop where
 it:∀ x∈X,∃ lo,U9 s lo s.size x.it
 ahead:(X.map (fun x=>x.it)).Pairwise (MN s)
def cC(s:ByteArray)(E P:Int):Prop :=
 (400<s.size∧E=1∧P=0) ∨
 (s.size≤400∧(((parseP s).1=none∧E=2∧P=((parseP s).2.at_:Int)) ∨
  ∃ X:List PIV,(parseP s).1=some (X.map (fun x=>x.it)) ∧
   ((∃ m:Nat,PF X m∧(∀ a,PF X a→m≤a)∧E=3∧P=(m:Int))∨((∀ a,¬ PF X a)∧E=0∧P=0))))
theorem GB{s:ByteArray}(h:(parseP s).1=some (X.map (fun x=>x.it))):YH s X:=by
 obtain⟨h1,h2,_⟩:=vG h;exact⟨fun x hx=>h1 x.it (List.mem_map.2 ⟨x,hx,rfl⟩),h2⟩
theorem VW(hj:j<b.length):(b.map Value.bool)[j]? = some (.bool (vN b j)):=by
 rw[List.getElem?_map,List.getElem?_eq_getElem hj];simp[vN,List.getElem?_eq_getElem hj]
theorem OQ(hj:j<b.length)(h:vN b j=false):b[j]? = some false:=by
 rw[List.getElem?_eq_getElem hj];unfold vN at h;rw[List.getElem?_eq_getElem hj] at h;simpa using h
theorem RT(b:List Bool)(j:Nat):(b.map Value.bool).set j (.bool true)=(b.set j true).map Value.bool:=by rw[List.map_set]
theorem VX{n:List UInt8}(h:¬ pFindI X n<0):∃ j:Nat,pFindI X n=(j:Int)∧j<X.length:=by
 unfold pFindI at *
 cases hf:X.findIdx? (fun x=>pMatchB n x.it) with
 | none=>rw[hf] at h;simp at h
 | some j=>
  rw[List.findIdx?_eq_some_iff_getElem] at hf;exact⟨j,rfl,hf.1⟩
theorem KC(n:Nat):∀ (w0 w:World) (lo:Nat) (lv:Value) (X:List PIV) (i whole bg:Nat) (KD:List Bool),PIts w0 lo lv X→Nms X→X.length≤400→(∀ x∈X,x.it.fields.length≤400)→Below w0.heap.size w0 w→w0.heap.size≤bg→dU w bg 4 0 (KD.map Value.bool)→KD.length=X.length→i<X.length→whole<X.length→mi KD=n →
  aT 141 #[lv,vI i,vI whole,.slice (some (aj bg 0)) X.length X.length] w fun e w'=>∃ b MS,e=.returned (.bool b)∧Below bg w w'∧dU w' bg 4 0 (MS.map Value.bool)∧MS.length=X.length∧RS X whole i KD b MS:=by
 induction n using Nat.strongRecOn with
 | ind n ih=>
 intro w0 w lo lv X i whole bg KD h hn hX tM cj QM hs zA hi hw Vb;obtain⟨x,hx⟩:∃ x,X[i]? = some x:=⟨X[i],List.getElem?_eq_getElem hi⟩
 obtain⟨la,lc,nk⟩:∃ a c,lv=.slice a X.length c:=ax h.own
 subst nk;obtain⟨g,cap,hv,vH,xT⟩:=fT h.own (by omega);obtain⟨rfl,rfl⟩:la=some (aj g 0)∧lc=cap:=by simpa using hv
 obtain⟨m,hm⟩:=(h.below cj).itemAt hn hx;have dP:=(h.nest x (List.mem_of_getElem? hx)).f;have KE:=tM x (List.mem_of_getElem? hx);have mP:=hs.lt;rw[hm.vf] at dP;have rL:=hm.seg;obtain⟨fa,fc,na,nc,bb,ba,ab,aa⟩:=m;dsimp only at dP rL;have c3:=rL.cell (j:=3) rfl;have IH:=U ih;have H:=U h;have HN:=U hn;have HX:=U hx;have GC:=U dP;have OR:=U tM;have HS:=U hs;have ii:=U cj;clear ih h hn hx dP tM hs hm rL hv cj;generalize JJ:x.it.fields=fs at *;have CS:=U JJ;clear JJ
 go_enter func141,ntmps141
 go_wp2_with fail
 go_loopg [10,11,18] fs.length (fun gk fb nx jj wr=>∃ (k:Nat) (b1:List Bool),k+gk=fs.length∧jj=.int .i64 k∧Hid (dU wr bg 4 0 (b1.map Value.bool))∧b1.length=X.length∧Hid (jC X whole KD b1 (Af X fs k))∧Below bg w wr∧mi b1≤n)
 case atStart=>exact⟨0,KD,by omega,rfl,U HS.o,zA,U (jC.start _ _ _ _),Below.refl _ _,by omega⟩
 case round=>
  obtain⟨k,b1,hk,rfl,El,KF,HP,bi,hfn⟩:=hrel;have mI:=bi.size;have aj3:bg<wr.heap.size:=El.o.lt;have sI:Below w0.heap.size w0 wr:=ii.o.trans (bi.mono QM)
  by_cases bC:k<fs.length
  ·obtain⟨f,hf⟩:∃ f,fs[k]? = some f:=⟨fs[k],List.getElem?_eq_getElem bC⟩
   obtain⟨gf,aj4,MM,ar3,ar4,OS⟩:=pfield_seg (aH GC.o (fun q hq=>sI.block q (GC.o.lt q hq).2)) hf;obtain⟨rfl,rfl⟩:fa=some (aj gf 0)∧fc=aj4:=by simpa using MM
   have e0:wr.cell? ⟨gf,k*7,none⟩=some (vI f.number):=OS.cell (j:=0) rfl;have e1:wr.cell? ⟨gf,k*7+1,none⟩=some (vI f.numberAt):=OS.cell (j:=1) rfl;have e2:wr.cell? ⟨gf,k*7+2,none⟩=some (.string f.name):=OS.cell (j:=2) rfl;have e3:wr.cell? ⟨gf,k*7+3,none⟩=some (vI f.nameAt):=OS.cell (j:=3) rfl;have e4:wr.cell? ⟨gf,k*7+4,none⟩=some (vI f.shape):=OS.cell (j:=4) rfl;have e5:wr.cell? ⟨gf,k*7+5,none⟩=some (.string f.base):=OS.cell (j:=5) rfl;have e6:wr.cell? ⟨gf,k*7+6,none⟩=some (vI f.baseAt):=OS.cell (j:=6) rfl;have CZ:Below wr.heap.size wr (wr.alloc (.cells #[vI f.number,vI f.numberAt,.string f.name,vI f.nameAt,vI f.shape,.string f.base,vI f.baseAt] 246)):=(Below.refl _ _).alloc (Nat.le_refl _) _;have HF:=U hf;clear OS MM hf
   go_wp2_with fail
   refine(findType_any _ lo _ X f.base (H.o.below (sI.trans (CZ.mono sI.size))) HN.o hX).mono ?_;rintro e w1 ⟨rfl,aA⟩;have Kz:Below wr.heap.size wr w1:=CZ.trans (aA.mono CZ.size);have ju:=Kz.size;have VY:Below bg w w1:=bi.trans (Kz.mono (by omega));have OT:=U (El.o.same (Kz.block bg aj3));have d4:w1.cell? (aj wr.heap.size 4)=some (vI f.shape):=by rw[aA.cell (by simp)];simp
   by_cases GD:f.shape=0
   ·have aj5:((f.shape:Int)==0)=true:=by simp[GD]
    by_cases rJ:pFindI X f.base.toList<0
    ·have Z3:=U (HP.o.skip HF.o (Or.inr (Or.inl rJ)))
     generalize pFindI X f.base.toList=fi at *
     go_wp2_with fail
     go_roundg (gk-1)
     case rel=>exact⟨k+1,b1,by omega,by go_num,U OT.o,KF,U Z3.o,VY,hfn⟩
     case measure=>omega
    ·obtain⟨nx,hnx,aj6⟩:=VX rJ
     have HNX:=U hnx;rw[hnx] at rJ ⊢;have b0:=OT.o.cell (j:=nx) (VW (by omega));simp only[Nat.zero_add] at b0;have QF:=OT.o.aq nx
     cases QN:vN b1 nx with
     | true=>
      rw[QN] at b0;have Z3:=U (HP.o.skip HF.o (Or.inr (Or.inr ⟨nx,hnx,QN⟩)));clear hnx
      go_wp2_with fail
      go_roundg (gk-1)
      case rel=>exact⟨k+1,b1,by omega,by go_num,U OT.o,KF,U Z3.o,VY,hfn⟩
      case measure=>omega
     | false=>
      rw[QN] at b0;have aag:=OQ (by omega) QN;have ar5:=Ag b1 nx aag;have jD:=OT.o.set nx (.bool true);simp only[Nat.zero_add] at jD;rw[RT] at jD;have BK:=U jD;have aah:Below bg w (w1.setCell (aj bg nx) (.bool true)):=VY.setCell (Nat.le_refl _) _;have HED:=U (show Edge X i nx from⟨x,f,HX.o,by rw[CS.o];exact List.mem_of_getElem? HF.o,GD,hnx⟩);clear hnx jD
      by_cases hwh:nx=whole
      ·subst hwh
       go_wp2_with fail
       go_ret
       exact⟨true,b1.set nx true,rfl,aah,BK.o,by simp[KF],.one HED.o⟩
      ·have ar6:((nx:Int)==(whole:Int))=false:=by simp;omega
       have HWH:=U hwh;clear hwh
       go_wp2_with fail
       refine(IH.o (mi (b1.set nx true)) (by omega) w0 _ lo _ X nx whole bg (b1.set nx true) H.o HN.o hX OR.o (ii.o.trans (aah.mono QM)) QM BK.o (by simp[KF]) aj6 hw rfl).mono ?_;rintro e w2 ⟨r,RU,rfl,aW,il,MO,fI⟩;have KB:=aah.trans aW;have oG:=U il;have jn:=U fI;clear il fI
       cases r with
       | true=>
        go_wp2_with fail
        go_ret
        exact⟨true,RU,rfl,KB,oG.o,MO,.more HED.o jn.o⟩
       | false=>
        have YI:=xu (b1.set nx true) RU (by simp[KF,MO]) jn.o.mono;have HDP:=U (HP.o.aj2 HF.o HNX.o HWH.o (by omega) jn.o)
        go_wp2_with fail
        go_roundg (gk-1)
        case rel=>exact⟨k+1,RU,by omega,by go_num,U oG.o,MO,U HDP.o,KB,by omega⟩
        case measure=>omega
   ·have aj5:((f.shape:Int)==0)=false:=by simp[GD]
    have Z3:=U (HP.o.skip HF.o (Or.inl GD));generalize pFindI X f.base.toList=fi at *
    go_wp2_with fail
    go_roundg (gk-1)
    case rel=>exact⟨k+1,b1,by omega,by go_num,U OT.o,KF,U Z3.o,VY,hfn⟩
    case measure=>omega
  ·have HE:=U (jC.all HX.o (j:=k) (by rw[CS.o];omega) (by rw[CS.o];exact HP.o))
   go_wp2_with fail
   go_ret
   exact⟨false,b1,rfl,bi,El.o,KF,HE.o⟩
end Go.Proofs.YtkpfplbmmglkkaaGreatDoor
