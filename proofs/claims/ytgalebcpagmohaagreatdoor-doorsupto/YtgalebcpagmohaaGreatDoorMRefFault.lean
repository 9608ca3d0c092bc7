/- holds of package courierref: does a message hold itself. -/
import Derived.Test.YtgalebcpagmohaaGreatDoorMRead
set_option maxHeartbeats 4000000
set_option maxRecDepth 100000
namespace Go.Proofs.YtgalebcpagmohaaGreatDoor
open Go.Proofs.Tryz
open Go.RowKit
theorem KJ (l:List aZ) (k:Nat) (x:aZ) (h:l[k]? = some x):((l.flatMap aP).drop (k*7)).take 7=aP x:=by
 induction l generalizing k with
 | nil=>simp at h
 | cons a r ih=>
  rw[List.flatMap_cons]
  cases k with
  | zero=>simp at h;subst h;simp[aP]
  | succ k=>
   simp at h
   rw[List.drop_append,List.drop_eq_nil_of_le (by simp[aP];omega),List.nil_append,show (k+1)*7-(aP a).length=k*7 from by simp[aP];omega]
   exact ih k h
theorem fO.seg {w:World} {lo:Nat} {x:IV} (h:fO w lo x) {j:Nat} {f:aZ} (hj:x.it.fields[j]? = some f):∃ g c,x.vf=.slice (some ⟨g,0,none⟩) x.it.fields.length c∧lo≤g∧g<w.heap.size∧Seg w g 95 (j*7) (aP f):=by
 have hlt:j<x.it.fields.length:=by
  rcases Nat.lt_or_ge j x.it.fields.length with h | h
  ·exact h
  ·rw[List.getElem?_eq_none h] at hj;cases hj
 obtain⟨g,c,hv,hg,hs⟩:=h.f.form (by omega)
 have ho:=h.f
 rw[hv] at ho
 have:=(qM ho).part (j*7) 7 (aP f) (KJ _ j f hj) rfl (by omega)
 exact⟨g,c,hv,hg,hs,by simpa using this⟩
def inB (M:List ByteArray) (b:ByteArray):Bool:=M.any (fun s=>s.toList==b.toList)
def gU (name:ByteArray):List aZ→List ByteArray→Option (List ByteArray)
 | [],M=>some M
 | f::r,M=>
  if f.kind.toList.isEmpty=false then gU name r M
  else if (f.base.toList==name.toList)=true then none
  else if inB M f.base=true then gU name r M else gU name r (M++[f.base])
def uO (X:List IV) (i:Int):List aZ:=match X[i.toNat]? with | some x=>x.it.fields | none=>[]
def kU (X:List IV) (name:ByteArray):Nat→List ByteArray→Nat→Bool
 | 0,_,_=>false
 | f+1,M,a=>
  match M[a]? with
  | none=>false
  | some m=>
   if jm X m.toList<0 then kU X name f M (a+1)
   else match gU name (uO X (jm X m.toList)) M with
    | none=>true
    | some M'=>kU X name f M' (a+1)
def univ (X:List IV) (name:ByteArray):List (List UInt8):=name.toList::(X.flatMap fun x=>x.it.fields.map fun f=>f.base.toList)
def Good (U:List (List UInt8)) (M:List ByteArray):Prop:=(M.map ByteArray.toList).Nodup∧∀ m∈M,m.toList∈U
theorem Gq {α:Type} [DecidableEq α]:∀ (l U:List α),l.Nodup→(∀ x∈l,x∈U)→l.length≤U.length
 | [],_,_,_=>by simp
 | a::r,U,hn,hs=>by
  have hn':=List.nodup_cons.1 hn
  have ha:a∈U:=hs a (by simp)
  have h1:=Gq r (U.erase a) hn'.2 (fun x hx=>by
   have:x≠a:=fun e=>hn'.1 (e ▸ hx)
   exact(List.mem_erase_of_ne this).2 (hs x (by simp[hx])))
  rw[List.length_erase_of_mem ha] at h1
  have:0<U.length:=List.length_pos_of_mem ha
  simp;omega
theorem Good.len {U:List (List UInt8)} {M:List ByteArray} (h:Good U M):M.length≤U.length:=by
 have:=Gq (M.map ByteArray.toList) U h.1 (fun x hx=>by
  obtain⟨m,hm,rfl⟩:=List.mem_map.1 hx;exact h.2 m hm)
 simpa using this
theorem Good.push {U:List (List UInt8)} {M:List ByteArray} {b:ByteArray} (h:Good U M) (hb:b.toList∈U) (hn:inB M b=false):Good U (M++[b]):=by
 refine⟨?_,?_⟩
 ·rw[List.map_append,List.nodup_append]
  refine⟨h.1,by simp,?_⟩
  intro x hx y hy
  simp at hy;subst hy
  intro e;subst e
  obtain⟨m,hm,he⟩:=List.mem_map.1 hx
  have:=List.any_eq_false.1 hn m hm
  simp[he] at this
 ·intro m hm
  rcases List.mem_append.1 hm with hm | hm
  ·exact h.2 m hm
  ·simp at hm;subst hm;exact hb
theorem DC {X:List IV} {name:ByteArray} {i:Nat} {x:IV} {j:Nat} {f:aZ} (hi:X[i]? = some x) (hj:x.it.fields[j]? = some f):f.base.toList∈univ X name:=by
 refine List.mem_cons_of_mem _ (List.mem_flatMap.2 ⟨x,List.mem_of_getElem? hi,List.mem_map.2 ⟨f,List.mem_of_getElem? hj,rfl⟩⟩)
theorem DF {X:List IV} {n:List UInt8} (h:0≤jm X n):∃ i:Nat,∃ x,jm X n=i∧X[i]? = some x:=by
 unfold jm at *
 cases hf:X.findIdx? (fun x=>kE n x.it) with
 | none=>rw[hf] at h;simp at h
 | some i=>
  rw[List.findIdx?_eq_some_iff_getElem] at hf
  exact⟨i,X[i]'hf.1,rfl,List.getElem?_eq_getElem hf.1⟩
theorem Ox {w wr w2:World} {lo:Nat} {e:TypeId} {size n:Nat} {v:Value} {xs:List Value} {o:Obj} {B:Nat} (hbel:Below B w wr) (hB:B≤wr.heap.size) (hown:wr.ownsRow lo e size v n xs) (hlo:B≤lo) (hg:(wr.alloc o).grownBy w2 v.ownBlock):Below B w w2 :=
 (hbel.alloc hB o).grown hg (by simp;omega) (fun k hk=>by have:=(hown.lt k hk).1;omega)
theorem AA {X:List IV} (name:ByteArray) {x:IV} (hx:x∈X):x.it.fields.length<(univ X name).length:=by
 unfold univ
 rw[List.length_cons]
 have:x.it.fields.length≤(X.flatMap fun x=>x.it.fields.map fun f=>f.base.toList).length:=by
  induction X with
  | nil=>simp at hx
  | cons a r ih=>
   rw[List.flatMap_cons,List.length_append]
   rcases List.mem_cons.1 hx with h | h
   ·subst h;simp
   ·have:=ih h;omega
 omega
theorem Sm (w:World) (lo:Nat) (lv:Value) (X:List IV) (name:ByteArray) (h:Its w lo lv X) (hX:X.length≤400) (hU:(univ X name).length≤1000) :
  Calls Tryz.prog 23 #[lv,.string name] w fun e w'=>e=.returned (.bool (kU X name (univ X name).length [name] 0))∧Below w.heap.size w w':=by
 obtain⟨la,lc,hlv⟩:∃ a c,lv=.slice a X.length c:=ak h.own
 subst hlv
 have H:=hid h
 obtain⟨iS,hiS,hS0,hS1,hS2⟩:=info_parts Tryz.infoStr
 clear h
 generalize hR:kU X name (univ X name).length [name] 0=R
 generalize hN:(univ X name).length=N at *
 have HR:=hid hR
 have HN:=hid hN
 clear hR hN
 go_enter func23,ntmps23
 go_wp2_with fail
 go_loopg [5,6,7,8,9,10] N (fun gk m a i k f wd wr=>∃ M at_,at_+gk=N∧a=.int .i64 (at_:Nat)∧wr.ownsRow w.heap.size 9 1 m M.length (M.map aY)∧Hid (kU X name gk M at_=R)∧Hid (Good (univ X name) M)∧Below w.heap.size w wr)
 case atStart=>
  refine⟨[name],0,by omega,rfl,?_,hid HR.out,hid ⟨by simp,by simp[univ]⟩,(Below.refl _ _).alloc (Nat.le_refl _) _⟩
  exact World.ownsRow_lit w #[.string name] 1 (Nat.le_refl _) (by unfold maxLen;omega) rfl
 case round=>
  obtain⟨M,at_,hat,rfl,hown,HO,HGd,hbel⟩:=hrel
  have ZM:M.length≤N:=by rw[← HN.out];exact HGd.out.len
  obtain⟨ma,mc,hmv⟩:∃ a c,u5=.slice a M.length c:=ak hown
  subst hmv
  by_cases hlt:at_<M.length
  ·obtain⟨m,hm⟩:∃ m,M[at_]? = some m:=⟨M[at_],List.getElem?_eq_getElem hlt⟩
   obtain⟨g,cap,hv,hgl,hgs⟩:=dM hown (by omega)
   obtain⟨rfl,rfl⟩:ma=some ⟨g,0,none⟩∧mc=cap:=by simpa using hv
   have c0:wr.cell? ⟨g,at_,none⟩=some (.string m):=by
    rw[hown.cellAt at_ (by omega),List.getElem?_map,hm];rfl
   obtain⟨gk',rfl⟩:∃ gk',gk=gk'+1:=⟨gk-1,by omega⟩
   have KL:=hid (by have:=HO.out;unfold kU at this;rw[hm] at this;simpa only[] using this)
   have aad:=hid hown
   clear hv hm HO hown
   go_wp2_with fail
   refine(Df _ _ _ _ _ (H.out.same hbel) hX).mono ?_;rintro e w1 ⟨rfl,hb1⟩
   have hb2:=hbel.trans (hb1.mono hbel.size)
   have hown1:=au (w':=w1) aad.out (fun gg hg=>hb1.block gg (aad.out.lt gg hg).2)
   clear aad c0 hbel
   by_cases hneg:jm X m.toList<0
   ·have Zm:=hid (by have:=KL.out;rw[if_pos hneg] at this;exact this)
    generalize jm X m.toList=fi at *
    go_wp2_with fail
    go_roundg gk'
    case rel=>exact⟨M,at_+1,by omega,by go_num,hown1,Zm,HGd,hb2⟩
    case measure=>omega
   ·have Zm:=hid (by have:=KL.out;rw[if_neg hneg] at this;exact this)
    obtain⟨fi,x,hfi,hx⟩:=DF (show 0≤jm X m.toList by omega)
    have HFA:=hid (show uO X (jm X m.toList)=x.it.fields by rw[hfi];simp[uO,hx])
    rw[hfi] at hneg
    rw[hfi]
    have hfx:fi<X.length:=by
     rcases Nat.lt_or_ge fi X.length with h | h
     ·exact h
     ·rw[List.getElem?_eq_none h] at hx;cases hx
    obtain⟨lg,aae,Vf,ae4,acE⟩:=dM H.out.own (by omega)
    obtain⟨rfl,rfl⟩:la=some ⟨lg,0,none⟩∧lc=aae:=by simpa using Vf
    have HX:=hid hx
    clear hx hfi Vf hneg
    obtain⟨va,vc,hvf⟩:∃ a c,x.vf=.slice a x.it.fields.length c:=ak (H.out.nest x (List.mem_of_getElem? HX.out)).f
    obtain⟨it,vf,vn,jA,vb,jB⟩:=x
    simp only at hvf
    subst hvf
    have NT:=hid (by have:=Zm.out;rw[HFA.out] at this;exact this)
    clear Zm KL HFA
    go_wp2_with fail
    go_loopg [5,8,9,10] it.fields.length (fun g2 m k f wd wr=>∃ j M',j+g2=it.fields.length∧k=.int .i64 (j:Nat)∧wr.ownsRow w.heap.size 9 1 m M'.length (M'.map aY)∧Hid (gU name it.fields M=gU name (it.fields.drop j) M')∧Hid (Good (univ X name) M')∧Below w.heap.size w wr)
    case atStart=>exact⟨0,M,by omega,rfl,hown1,hid rfl,HGd,hb2⟩
    case round=>
     obtain⟨j,M',hj,rfl,hown2,HI,Vg,iQ⟩:=hrel
     have aiS:M'.length≤N:=by rw[← HN.out];exact Vg.out.len
     obtain⟨ma2,mc2,hmv⟩:∃ a c,u5=.slice a M'.length c:=ak hown2
     subst hmv
     have hits:=H.out.same iQ
     have hs:=hits.seg HX.out
     have c3:wr.cell? ⟨lg,fi*8+3,none⟩=some (.slice va it.fields.length vc):=hs.cell (j:=3) rfl
     have hfl:it.fields.length≤1000:=by
      have h1:=AA name (List.mem_of_getElem? HX.out)
      rw[HN.out] at h1
      have h2:it.fields.length<N:=h1
      omega
     clear hown1 ZM hb1 hb2
     by_cases hjl:j<it.fields.length
     ·obtain⟨f,hf⟩:∃ f,it.fields[j]? = some f:=⟨it.fields[j],List.getElem?_eq_getElem hjl⟩
      have HD:=hid (show it.fields.drop j=f::it.fields.drop (j+1) by
       rw[List.drop_eq_getElem_cons hjl];rw[List.getElem?_eq_getElem hjl] at hf;simp at hf;rw[hf])
      obtain⟨fg,fc,hfv,ae5,ae6,hfs⟩:=(hits.nest _ (List.mem_of_getElem? HX.out)).seg hf
      obtain⟨rfl,rfl⟩:va=some ⟨fg,0,none⟩∧vc=fc:=by simpa using hfv
      have HUM:=hid (DC (name:=name) HX.out hf)
      clear hfv hf hits hs
      obtain⟨zI,fname,AB,jc,Qg,Bq,XF⟩:=f
      have e0:wr.cell? ⟨fg,j*7,none⟩=some (.int .i64 zI):=hfs.cell (j:=0) rfl
      have e1:wr.cell? ⟨fg,j*7+1,none⟩=some (.string fname):=hfs.cell (j:=1) rfl
      have e2:wr.cell? ⟨fg,j*7+2,none⟩=some (.string AB):=hfs.cell (j:=2) rfl
      have e3:wr.cell? ⟨fg,j*7+3,none⟩=some (.string jc):=hfs.cell (j:=3) rfl
      have e4:wr.cell? ⟨fg,j*7+4,none⟩=some (.int .i64 Qg):=hfs.cell (j:=4) rfl
      have e5:wr.cell? ⟨fg,j*7+5,none⟩=some (.int .i64 Bq):=hfs.cell (j:=5) rfl
      have e6:wr.cell? ⟨fg,j*7+6,none⟩=some (.int .i64 XF):=hfs.cell (j:=6) rfl
      have Yl:=hid hown2
      clear hfs hown2
      cases hkd:AB.toList.isEmpty with
      | false=>
       have HI2:=hid (show gU name it.fields M=gU name (it.fields.drop (j+1)) M' by rw[HI.out,HD.out];simp only[gU,hkd,if_true])
       go_wp2_with fail
       go_roundg (gk-1)
       case rel=>exact⟨j+1,M',by omega,by go_num,Yl.out.alloc _,HI2,Vg,iQ.alloc iQ.size _⟩
       case measure=>omega
      | true=>
       cases hbn:(jc.toList==name.toList) with
       | true=>
        have HRt:=hid (show true=R by
         have:=NT.out;rw[HI.out,HD.out] at this;simpa only[gU,hkd,hbn,if_true,if_false,Bool.true_eq_false] using this)
        go_wp2_with fail
        go_ret
        exact⟨aG HRt.out,iQ.alloc iQ.size _⟩
       | false=>
        go_wp2_with fail
        refine(N8 _ w.heap.size _ M' jc (Yl.out.alloc _) (by omega)).mono ?_;rintro e w3 ⟨rfl,rfl⟩
        cases hib:M'.any (fun s=>s.toList==jc.toList) with
        | true=>
         have HI2:=hid (show gU name it.fields M=gU name (it.fields.drop (j+1)) M' by rw[HI.out,HD.out];simp only[gU,hkd,hbn,inB,hib,if_true,if_false,Bool.true_eq_false,Bool.false_eq_true])
         go_wp2_with fail
         go_roundg (gk-1)
         case rel=>exact⟨j+1,M',by omega,by go_num,Yl.out.alloc _,HI2,Vg,iQ.alloc iQ.size _⟩
         case measure=>omega
        | false=>
         have HI2:=hid (show gU name it.fields M=gU name (it.fields.drop (j+1)) (M'++[jc]) by rw[HI.out,HD.out];simp only[gU,hkd,hbn,inB,hib,if_false,Bool.true_eq_false,Bool.false_eq_true])
         have ae8:=hid (Vg.out.push HUM.out hib)
         go_wp2_with (at_builtin;refine wpList_append_lies _ rfl _ _ 31 rfl w.heap.size 9 iS _ 1 16 underlying31 hiS hS0 hS1 hS2 rfl (by decide) _ _ _ rfl ((Yl.out.alloc _).alloc _) ⟨_,0,none⟩ 1 1 [aY jc] rfl rfl (dh _ _ (by simp) #[.string jc] _) (by simp[aY,Value.oneCell']) (by omega) (by unfold maxLen;omega) (by omega) (by have:=iQ.size;simp;omega) _ rfl ?_)
         intro g5 cp5 w5 hown5 dw _ _
         have hb5:=Ox (iQ.alloc iQ.size _) (by have:=iQ.size;simp;omega) (Yl.out.alloc _) (Nat.le_refl _) dw
         clear dw
         go_wp2_with fail
         go_roundg (gk-1)
         case rel=>exact⟨j+1,M'++[jc],by omega,by go_num,by simpa using hown5,HI2,ae8,hb5⟩
         case measure=>omega
     ·have HO4:=hid (show kU X name gk' M' (at_+1)=R by
       have:=NT.out;rw[HI.out,List.drop_eq_nil_of_le (by omega)] at this;simpa only[gU] using this)
      have Yl:=hid hown2
      clear hits hs hown2
      go_wp2_with fail
      go_roundg gk'
      case rel=>exact⟨M',at_+1,by omega,by go_num,Yl.out,HO4,Vg,iQ⟩
      case measure=>omega
  ·have HRf:=hid (show false=R by
    have:=HO.out
    cases gk with
    | zero=>simpa only[kU] using this
    | succ gk=>unfold kU at this;rw[List.getElem?_eq_none (by omega)] at this;simpa only[] using this)
   go_wp2_with fail
   go_ret
   exact⟨aG HRf.out,hbel⟩
def cZ (l:List Nat):Int:=l.foldl (fun p (a:Nat)=>kS p a) (-1)
theorem qO (l:List Nat) (a:Nat):cZ (l++[a])=kS (cZ l) a:=by simp[cZ]
theorem II (p:Int) (a:Nat):kS (kS p a) a=kS p a:=by
 unfold kS
 by_cases h:p<0∨0≤(a:Int)∧(a:Int)<p
 ·rw[if_pos h];simp
 ·rw[if_neg h,if_neg h]
def uq (X:List IV) (k:Nat) (it:bI):Bool:=(X.take k).any (fun y=>(y.it.name.toList==it.name.toList)&&(dQ it.kind.toList==dQ y.it.kind.toList))
def holdsB (X:List IV) (name:ByteArray):Bool:=kU X name (univ X name).length [name] 0
def jX (b:Bool) (a:Nat):List Nat:=if b then [a] else []
def uP (fs:List aZ) (k:Nat):Bool:=match fs[k]?,fs[k-1]? with | some f,some g=>decide (0<k)&&decide (f.number≤g.number) | _,_=>false
def ug (fs:List aZ) (k j:Nat):Bool:=match fs[k]? with | some f=>(fs.take j).any (fun g=>g.name.toList==f.name.toList) | none=>false
def jT (X:List IV) (fs:List aZ) (k:Nat):List Nat :=
 match fs[k]? with
 | some f=>jX (uP fs k) f.numberAt++jX (ug fs k k) f.nameAt++jX (!jS X f.base.toList) f.bV
 | none=>[]
def uQ (ns:List ByteArray) (k j:Nat):Bool:=match ns[k]? with | some n=>(ns.take j).any (fun g=>g.toList==n.toList) | none=>false
def qw (ns:List ByteArray) (ps:List Nat) (k:Nat):List Nat:=match ps[k]? with | some p=>jX (uQ ns k k) p | none=>[]
def qY (X:List IV) (bs:List ByteArray) (ps:List Nat) (k:Nat):List Nat:=match bs[k]?,ps[k]? with | some b,some p=>jX (!jS X b.toList) p | _,_=>[]
def oP (X:List IV) (i:Nat) (it:bI):List Nat:=jX (uq X i it) it.nameAt++jX ((it.kind.toList==[109,101,115,115,97,103,101])&&holdsB X it.name) it.nameAt
def fP (X:List IV) (i:Nat) (it:bI):List Nat :=
 oP X i it++(List.range it.fields.length).flatMap (jT X it.fields)++(List.range it.names.length).flatMap (qw it.names it.aQ)++(List.range it.bases.length).flatMap (qY X it.bases it.aV)
theorem xw (n:Nat) (f:Nat→List Nat):(List.range (n+1)).flatMap f=(List.range n).flatMap f++f n:=by
 rw[List.range_succ,List.flatMap_append];simp
theorem Sr (X:List IV) (it:bI):uq X 0 it=false:=by simp[uq]
theorem Sz {X:List IV} {k:Nat} {y:IV} (it:bI) (h:X[k]? = some y):uq X (k+1) it=(uq X k it||((y.it.name.toList==it.name.toList)&&(dQ it.kind.toList==dQ y.it.kind.toList))):=by
 unfold uq
 rw[List.take_add_one,h];simp
theorem Oy {fs:List aZ} {k j:Nat} {f g:aZ} (hk:fs[k]? = some f) (hj:fs[j]? = some g):ug fs k (j+1)=(ug fs k j||(g.name.toList==f.name.toList)):=by
 unfold ug;rw[hk];simp only
 rw[List.take_add_one,hj];simp
theorem Oz {fs:List ByteArray} {k j:Nat} {f g:ByteArray} (hk:fs[k]? = some f) (hj:fs[j]? = some g):uQ fs k (j+1)=(uQ fs k j||(g.toList==f.toList)):=by
 unfold uQ;rw[hk];simp only
 rw[List.take_add_one,hj];simp
theorem Gt (l:List Nat) (b c:Bool) (a:Nat):cZ (l++jX (b||c) a)=if c then kS (cZ (l++jX b a)) a else cZ (l++jX b a):=by
 cases b<;>cases c<;>simp[jX,qO,II]
theorem vW (l:List Nat) (c:Bool) (a:Nat):cZ (l++jX c a)=if c then kS (cZ l) a else cZ l:=by
 cases c<;>simp[jX,qO]
theorem SA (fs:List aZ):uP fs 0=false:=by unfold uP;split<;>simp
theorem SB {fs:List aZ} {q:Nat} {f g:aZ} (h:fs[q+1]? = some f) (h2:fs[q]? = some g):uP fs (q+1)=decide (f.number≤g.number):=by
 unfold uP;rw[h,show q+1-1=q from by omega,h2];simp
theorem Qh {w:World} {lo:Nat} {v:Value} {X:List ByteArray} (h:w.ownsRow lo 9 1 v X.length (X.map aY)) (hp:0<X.length):∃ g c,v=.slice (some ⟨g,0,none⟩) X.length c∧g<w.heap.size∧∀ k s,X[k]? = some s→w.cell? ⟨g,k,none⟩=some (.string s):=by
 obtain⟨g,c,hv,_,hg⟩:=h.form hp
 subst hv
 refine⟨g,c,rfl,hg,fun k s hk=>?_⟩
 have hlt:k<X.length:=by
  rcases Nat.lt_or_ge k X.length with h | h
  ·exact h
  ·rw[List.getElem?_eq_none h] at hk;cases hk
 rw[h.cellAt k (by omega),List.getElem?_map,hk];rfl
theorem IJ {w:World} {lo:Nat} {v:Value} {X:List Nat} (h:w.ownsRow lo 3 1 v X.length (X.map eX)) (hp:0<X.length):∃ g c,v=.slice (some ⟨g,0,none⟩) X.length c∧g<w.heap.size∧∀ (k s:Nat),X[k]? = some s→w.cell? ⟨g,k,none⟩=some (.int .i64 s):=by
 obtain⟨g,c,hv,_,hg⟩:=h.form hp
 subst hv
 refine⟨g,c,rfl,hg,fun k s hk=>?_⟩
 have hlt:k<X.length:=by
  rcases Nat.lt_or_ge k X.length with h | h
  ·exact h
  ·rw[List.getElem?_eq_none h] at hk;cases hk
 rw[h.cellAt k (by omega),List.getElem?_map,hk];rfl
theorem OA {w w':World} {a:Addr} {v:Value} (hb:Below w.heap.size w w') (h:w.cell? a=some v) (hlt:a.block<w.heap.size):w'.cell? a=some v:=(hb.cell hlt).trans h
end Go.Proofs.YtgalebcpagmohaaGreatDoor
