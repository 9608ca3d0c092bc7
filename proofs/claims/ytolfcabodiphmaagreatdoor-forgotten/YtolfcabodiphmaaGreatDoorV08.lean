/- Values as texts and as bytes: the document's own way, over lists of bytes (no walk). -/
import Derived.Test.YtolfcabodiphmaaGreatDoorV07
import Derived.Lib.ParseIntB
import Derived.Lib.ItoaNum
import Derived.Laws.OwnMore
import Derived.Maps.AppendAt
import Derived.Deep.OwnRows
set_option linter.unusedSimpArgs false
set_option linter.unusedVariables false
set_option maxHeartbeats 8000000
set_option maxRecDepth 100000
namespace Go.Proofs.YtolfcabodiphmaaGreatDoor
open Go.Proofs.Tryz
def fZK:Nat → Nat → List UInt8
  | 0,n => [n.toUInt8]
  | k + 1,n => if n < 128 then [n.toUInt8] else (n % 128 + 128).toUInt8 :: fZK k (n / 128)
theorem fZK_eq:∀ (k m n:Nat),n ≤ k → n ≤ m → fZK k n = fZK m n
  | 0,0,_,_,_ => rfl
  | 0,_ + 1,n,h,_ => by simp [fZK,show n < 128 by omega]
  | _ + 1,0,n,_,h => by simp [fZK,show n < 128 by omega]
  | k + 1,m + 1,n,h,h' => by
    unfold fZK
    split
    · rfl
    · rw [fZK_eq k m (n / 128) (by omega) (by omega)]
def fZ (n:Nat):List UInt8 := fZK n n
theorem nU {n:Nat} (h:n < 128):fZ n = [n.toUInt8] := by cases n <;> simp [fZ,fZK,h]
theorem tH {n:Nat} (h:¬ n < 128):fZ n = (n % 128 + 128).toUInt8 :: fZ (n / 128) := by
  obtain ⟨k,rfl⟩:∃ k,n = k + 1 := ⟨n - 1,by omega⟩
  unfold fZ
  rw [fZK,if_neg h,fZK_eq k ((k + 1) / 128) _ (by omega) (by omega)]
def gU(b:List UInt8):List UInt8:=fZ b.length++b
def rM(n:Int):Nat:=if n<0 then(-2*n-1).toNat else(2*n).toNat
def ng(c:UInt8):Bool:=c==45||(decide (48≤c)&&decide (c≤57))
def gu(c:UInt8):Bool:=(decide (97≤c)&&decide (c≤122))||(decide (48≤c)&&decide (c≤57))
def iV(c:UInt8):Bool:=decide (32≤c)&&decide (c≤126)&&c != 34&&c != 92
def hexV(c:UInt8):Option Nat:=if decide (48≤c)&&decide (c≤57) then some (c.toNat-48) else if decide (97≤c)&&decide (c≤102) then some (c.toNat-87) else none
abbrev Got:=Option (List UInt8 × List UInt8)
def dJ(p t:List UInt8):Option (List UInt8):=if p.isPrefixOf t then some (t.drop p.length) else none
def intOf(run:List UInt8):Option Int:=match Lib.parseIntB 64 run with
 | .ok v=>if Lib.itoa v=run then some v else none
 | _=>none
def QD(ci:UInt8→Bool)(t:List UInt8):Got:=(intOf (t.takeWhile ci)).map fun n=>(fZ (rM n),t.dropWhile ci)
def Js(cn:UInt8→Bool)(names:List (List UInt8))(t:List UInt8):Got:=(names.findIdx? (fun n=>n==t.takeWhile cn)).map fun i=>(fZ i,t.dropWhile cn)
def fG:Nat→List UInt8→Got
 | 0,_=>none
 | _+1,[]=>none
 | n+1,c::r=>
  if c=34 then some ([],r)
  else if c=92 then match r with
   | a::b::r'=>match hexV a,hexV b with
    | some h,some l=>if iV (16*h+l).toUInt8 then none else(fG n r').map fun x=>((16*h+l).toUInt8::x.1,x.2)
    | _,_=>none
   | _=>none
  else if iV c then(fG n r).map fun x=>(c::x.1,x.2) else none
def BG(t:List UInt8):Got:=(dJ [34] t).bind fun r=>fG (r.length+1) r
structure FD where
 number:Nat
 name:List UInt8
 shape:Nat
 base:List UInt8
abbrev TD := List (List UInt8) ⊕ List FD
def uY(val:List UInt8→Got):Nat→Bool→List UInt8→Got
 | k,first,t=>match dJ [93] t with
  | some r=>some ([],r)
  | none=>match k with
   | 0=>none
   | k+1=>(if first then some t else dJ [44] t).bind fun t1=>(val t1).bind fun v=>(uY val k false v.2).map fun o=>(gU v.1++o.1,o.2)
def aef(val:List UInt8→Got)(t:List UInt8):Got:=(dJ [91] t).bind (uY val 16 true)
def fieldsGo(val lst:List UInt8→List UInt8→Got):List FD→Bool→List UInt8→Got
 | [],_,t=>(dJ [125] t).map fun r=>([],r)
 | f::fs,first,t=>match dJ ((if first then [] else [44])++f.name++[58]) t with
  | none=>if f.shape=1 then fieldsGo val lst fs first t else none
  | some t1=>(if f.shape=2 then lst f.base t1 else val f.base t1).bind fun v=>(fieldsGo val lst fs false v.2).map fun o=>(fZ f.number++gU v.1++o.1,o.2)
def msgP(val lst:List UInt8→List UInt8→Got)(fs:List FD)(t:List UInt8):Got:=(dJ [123] t).bind (fieldsGo val lst fs true)
def D9:List UInt8:=[105,110,116]
def zx:List UInt8:=[98,111,111,108]
def wText:List UInt8:=[116,101,120,116]
def oM:List (List UInt8):=[[102,97,108,115,101],[116,114,117,101]]
def xu(ci cn:UInt8→Bool)(ty:List UInt8→Option TD)(msg:List FD→List UInt8→Got)(base t:List UInt8):Got :=
 if base=D9 then QD ci t else if base=zx then Js cn oM t else if base=wText then BG t
 else match ty base with
  | none=>none
  | some (.inl ns)=>Js cn ns t
  | some (.inr fs)=>msg fs t
def UD(ci cn:UInt8→Bool)(ty:List UInt8→Option TD):Nat→(List UInt8→List UInt8→Got) × (List UInt8→List UInt8→Got)
 | 0=>(xu ci cn ty (fun _ _=>none),fun _ _=>none)
 | n+1=>(xu ci cn ty (msgP (UD ci cn ty n).1 (UD ci cn ty n).2),fun b t=>aef ((UD ci cn ty n).1 b) t)
/-! the two ways to take a run of signs come to the same -/
theorem Ox(d:Nat)(h:d<10):ng (UInt8.ofNat (48+d))=true:=by
 have:∀ d:Fin 10,ng (UInt8.ofNat (48+d.val))=true:=by decide
 exact this ⟨d,h⟩
theorem Oy(u:Nat):∀ c∈Lib.decDigits u,ng c=true:=by
 induction u using Nat.strongRecOn with
 | _ u ih=>
  intro c hc
  rw[Lib.decDigits] at hc
  by_cases h:u<10
  ·rw[dif_pos h] at hc
   rw[List.mem_singleton.1 hc];exact Ox u h
  ·rw[dif_neg h] at hc
   rcases List.mem_append.1 hc with hc | hc
   ·exact ih (u / 10) (by omega) c hc
   ·rw[List.mem_singleton.1 hc];exact Ox _ (by omega)
theorem UE(n:Int):∀ c∈Lib.itoa n,ng c=true:=by
 intro c hc
 unfold Lib.itoa at hc
 split at hc
 ·rcases List.mem_cons.1 hc with rfl | hc
  ·decide
  ·exact Oy _ c hc
 ·exact Oy _ c hc
theorem LZ{run:List UInt8}{n:Int}(h:intOf run=some n):Lib.itoa n=run:=by
 unfold intOf at h
 split at h
 ·split at h
  ·rename_i e;cases h;exact e
  ·cases h
 ·cases h
theorem EU{p t r:List UInt8}(h:dJ p t=some r):t=p++r:=by
 unfold dJ at h
 split at h
 ·rename_i hp
  cases h
  obtain⟨s,rfl⟩:=List.isPrefixOf_iff_prefix.1 hp
  simp
 ·cases h
open Go.RowKit
theorem Yi{b:List Bool}{j:Nat}(hj:j<b.length):(b.map Value.bool)[j]? = some (.bool (yE b j)):=by
 rw[List.getElem?_map,List.getElem?_eq_getElem hj]
 simp[yE,List.getElem?_eq_getElem hj]
theorem QE{b:List Bool}{j:Nat}(hj:j<b.length)(h:yE b j=false):b[j]? = some false:=by
 rw[List.getElem?_eq_getElem hj]
 unfold yE at h
 rw[List.getElem?_eq_getElem hj] at h
 simpa using h
theorem UF(b:List Bool)(j:Nat):(b.map Value.bool).set j (.bool true)=(b.set j true).map Value.bool:=by rw[List.map_set]
theorem Yj{X:List aO}{n:List UInt8}(h:¬ bZ X n<0):∃ j:Nat,bZ X n=(j:Int)∧j<X.length:=by
 unfold bZ at *
 cases hf:X.findIdx? (fun x=>jg n x.it) with
 | none=>rw[hf] at h;simp at h
 | some j=>
  rw[List.findIdx?_eq_some_iff_getElem] at hf
  exact⟨j,rfl,hf.1⟩
theorem L6(n:Nat):∀ (w0 w:World) (lo:Nat) (lv:Value) (X:List aO) (i whole bg:Nat) (been:List Bool),dK w0 lo lv X→LV X→X.length≤400→(∀ x∈X,x.it.fields.length≤400)→Below w0.heap.size w0 w→w0.heap.size≤bg→Seg w bg 4 0 (been.map Value.bool)→been.length=X.length→i<X.length→whole<X.length→mZ been=n →
  Calls Tryz.prog 140 #[lv,.int .i64 i,.int .i64 whole,.slice (some ⟨bg,0,none⟩) X.length X.length] w fun e w'=>∃ b Oz,e=.returned (.bool b)∧Below bg w w'∧Seg w' bg 4 0 (Oz.map Value.bool)∧Oz.length=X.length∧UC X whole i been b Oz:=by
 induction n using Nat.strongRecOn with
 | ind n ih=>
 intro w0 w lo lv X i whole bg been h hn hX hfl hb0 hbg hs hbl hi hw hfa
 obtain⟨x,hx⟩:∃ x,X[i]? = some x:=⟨X[i],List.getElem?_eq_getElem hi⟩
 obtain⟨la,lc,hlv⟩:∃ a c,lv=.slice a X.length c:=ay h.own
 subst hlv
 obtain⟨g,cap,hv,hgl,hgs⟩:=iJ h.own (by omega)
 obtain⟨rfl,rfl⟩:la=some ⟨g,0,none⟩∧lc=cap:=by simpa using hv
 obtain⟨m,hm⟩:=(h.below hb0).rG hn hx
 have hrow:=(h.nest x (List.mem_of_getElem? hx)).f
 have hl4:=hfl x (List.mem_of_getElem? hx)
 have hbz:=hs.lt
 rw[hm.vf] at hrow
 have hseg:=hm.seg
 obtain⟨fa,fc,na,nc,bb,ba,ab,aa⟩:=m
 dsimp only at hrow hseg
 have c3:=hseg.cell (j:=3) rfl
 have IH:=hid ih
 have H:=hid h
 have HN:=hid hn
 have HX:=hid hx
 have I9:=hid hrow
 have QF:=hid hfl
 have HS:=hid hs
 have HB0:=hid hb0
 clear ih h hn hx hrow hfl hs hm hseg hv hb0
 generalize hfs:x.it.fields=fs at *
 have EN:=hid hfs
 clear hfs
 go_enter func140,ntmps140
 go_wp2_with fail
 go_loopg [10,11,18] fs.length (fun gk fb nx jj wr=>∃ (k:Nat) (b1:List Bool),k+gk=fs.length∧jj=.int .i64 k∧Hid (Seg wr bg 4 0 (b1.map Value.bool))∧b1.length=X.length∧Hid (jZ X whole been b1 (BD X fs k))∧Below bg w wr∧mZ b1≤n)
 case atStart=>exact⟨0,been,by omega,rfl,hid HS.out,hbl,hid (jZ.start _ _ _ _),Below.refl _ _,by omega⟩
 case round=>
  obtain⟨k,b1,hk,rfl,Le,L8,HP,hbel,hfn⟩:=hrel
  have hsz:=hbel.size
  have ahN:bg<wr.heap.size:=Le.out.lt
  have hbw:Below w0.heap.size w0 wr:=HB0.out.trans (hbel.mono hbg)
  by_cases hlt:k<fs.length
  ·obtain⟨f,hf⟩:∃ f,fs[k]? = some f:=⟨fs[k],List.getElem?_eq_getElem hlt⟩
   obtain⟨gf,ahO,hvf,amN,amO,hsf⟩:=jG (aC I9.out (fun q hq=>hbw.block q (I9.out.lt q hq).2)) hf
   obtain⟨rfl,rfl⟩:fa=some ⟨gf,0,none⟩∧fc=ahO:=by simpa using hvf
   have e0:wr.cell? ⟨gf,k*7,none⟩=some (.int .i64 f.number):=hsf.cell (j:=0) rfl
   have e1:wr.cell? ⟨gf,k*7+1,none⟩=some (.int .i64 f.numberAt):=hsf.cell (j:=1) rfl
   have e2:wr.cell? ⟨gf,k*7+2,none⟩=some (.string f.name):=hsf.cell (j:=2) rfl
   have e3:wr.cell? ⟨gf,k*7+3,none⟩=some (.int .i64 f.nameAt):=hsf.cell (j:=3) rfl
   have e4:wr.cell? ⟨gf,k*7+4,none⟩=some (.int .i64 f.shape):=hsf.cell (j:=4) rfl
   have e5:wr.cell? ⟨gf,k*7+5,none⟩=some (.string f.base):=hsf.cell (j:=5) rfl
   have e6:wr.cell? ⟨gf,k*7+6,none⟩=some (.int .i64 f.dG):=hsf.cell (j:=6) rfl
   have hbx:Below wr.heap.size wr (wr.alloc (.cells #[.int .i64 f.number,.int .i64 f.numberAt,.string f.name,.int .i64 f.nameAt,.int .i64 f.shape,.string f.base,.int .i64 f.dG] 242)):=(Below.refl _ _).alloc (Nat.le_refl _) _
   have HF:=hid hf
   clear hsf hvf hf
   go_wp2_with fail
   refine(pX _ lo _ X f.base (H.out.below (hbw.trans (hbx.mono hbw.size))) HN.out hX).mono ?_;rintro e w1 ⟨rfl,hb1⟩
   have LX:Below wr.heap.size wr w1:=hbx.trans (hb1.mono hbx.size)
   have hz1:=LX.size
   have Yk:Below bg w w1:=hbel.trans (LX.mono (by omega))
   have QG:=hid (Le.out.same (LX.block bg ahN))
   have d4:w1.cell? ⟨wr.heap.size,4,none⟩=some (.int .i64 f.shape):=by rw[hb1.cell (by simp)];simp
   by_cases hsh:f.shape=0
   ·have hsh':((f.shape:Int)==0)=true:=by simp[hsh]
    by_cases hneg:bZ X f.base.toList<0
    ·have Qo:=hid (HP.out.skip HF.out (Or.inr (Or.inl hneg)))
     generalize bZ X f.base.toList=fi at *
     go_wp2_with fail
     go_roundg (gk-1)
     case rel=>exact⟨k+1,b1,by omega,by go_num,hid QG.out,L8,hid Qo.out,Yk,hfn⟩
     case measure=>omega
    ·obtain⟨nx,hnx,ahP⟩:=Yj hneg
     have HNX:=hid hnx
     rw[hnx] at hneg ⊢
     have b0:=QG.out.cell (j:=nx) (Yi (by omega))
     simp only[Nat.zero_add] at b0
     have hfz:=QG.out.frozen nx
     cases hbn:yE b1 nx with
     | true=>
      rw[hbn] at b0
      have Qo:=hid (HP.out.skip HF.out (Or.inr (Or.inr ⟨nx,hnx,hbn⟩)))
      clear hnx
      go_wp2_with fail
      go_roundg (gk-1)
      case rel=>exact⟨k+1,b1,by omega,by go_num,hid QG.out,L8,hid Qo.out,Yk,hfn⟩
      case measure=>omega
     | false=>
      rw[hbn] at b0
      have hfalse:=QE (by omega) hbn
      have amP:=BF b1 nx hfalse
      have hst:=QG.out.set nx (.bool true)
      simp only[Nat.zero_add] at hst
      rw[UF] at hst
      have HST:=hid hst
      have abn:Below bg w (w1.setCell ⟨bg,nx,none⟩ (.bool true)):=Yk.setCell (Nat.le_refl _) _
      have HED:=hid (show Edge X i nx from⟨x,f,HX.out,by rw[EN.out];exact List.mem_of_getElem? HF.out,hsh,hnx⟩)
      clear hnx hst
      by_cases hwh:nx=whole
      ·subst hwh
       go_wp2_with fail
       go_ret
       exact⟨true,b1.set nx true,rfl,abn,HST.out,by simp[L8],.one HED.out⟩
      ·have amQ:((nx:Int)==(whole:Int))=false:=by simp;omega
       have HWH:=hid hwh
       clear hwh
       go_wp2_with fail
       refine(IH.out (mZ (b1.set nx true)) (by omega) w0 _ lo _ X nx whole bg (b1.set nx true) H.out HN.out hX QF.out (HB0.out.trans (abn.mono hbg)) hbg HST.out (by simp[L8]) ahP hw rfl).mono ?_;rintro e w2 ⟨r,UG,rfl,hb2,hs2,hl2,hp2⟩
       have LY:=abn.trans hb2
       have HS2:=hid hs2
       have HP2:=hid hp2
       clear hs2 hp2
       cases r with
       | true=>
        go_wp2_with fail
        go_ret
        exact⟨true,UG,rfl,LY,HS2.out,hl2,.more HED.out HP2.out⟩
       | false=>
        have hfm:=zu (b1.set nx true) UG (by simp[L8,hl2]) HP2.out.mono
        have HDP:=hid (HP.out.deep HF.out HNX.out HWH.out (by omega) HP2.out)
        go_wp2_with fail
        go_roundg (gk-1)
        case rel=>exact⟨k+1,UG,by omega,by go_num,hid HS2.out,hl2,hid HDP.out,LY,by omega⟩
        case measure=>omega
   ·have hsh':((f.shape:Int)==0)=false:=by simp[hsh]
    have Qo:=hid (HP.out.skip HF.out (Or.inl hsh))
    generalize bZ X f.base.toList=fi at *
    go_wp2_with fail
    go_roundg (gk-1)
    case rel=>exact⟨k+1,b1,by omega,by go_num,hid QG.out,L8,hid Qo.out,Yk,hfn⟩
    case measure=>omega
  ·have HE:=hid (jZ.all HX.out (j:=k) (by rw[EN.out];omega) (by rw[EN.out];exact HP.out))
   go_wp2_with fail
   go_ret
   exact⟨false,b1,rfl,hbel,Le.out,L8,HE.out⟩
theorem Tryz.infoIntAt:∃ i,Tryz.prog.info? 3 = some i∧i.zero=some (.int .i64 0)∧i.size=1∧i.bytes=8:=by
 obtain⟨iI,uS,hI0,hI1,hI2⟩:=info_parts Tryz.infoInt
 exact⟨iI,uS,hI0,hI1,hI2⟩
theorem GL(w:World){o:Oper}{a:Act}{K:Act→World→Prop}{Q:Exit→Act→World→Prop}(s x:Operand)
  (ho:o.op=.call { callee:=.builtin .append,args:=#[s,x],argTypes:=#[181,181] })
  (v:Value) (L:List Nat) (lo:Nat) (hs:a.eval s=v) (hP:Places w lo v L) (v2:Value) (L2:List Nat) (lo2:Nat) (hx:a.eval x=v2) (hP2:Places w lo2 v2 L2)
  (hlen:L.length+L2.length≤1000000) (hlo:lo≤w.heap.size)
  (h:∀ a' c' w',Places w' lo (.slice a' (L++L2).length c') (L++L2)→w.grownBy w' v.ownBlock→K (a.put o.dst (.slice a' (L++L2).length c')) w'):o.wp Tryz.prog a w K Q:=by
 obtain⟨iI,uS,hI0,hI1,hI2⟩:=Tryz.infoIntAt
 obtain⟨v',w',hr,h2,h3⟩:∃ v' w',(Builtin.append_ #[181,181] o.type #[v,v2]).run Tryz.prog w=.ok v' w'∧Places w' lo v' (L++L2)∧w.grownBy w' v.ownBlock:=by
  rcases hP2.2 with⟨rfl,h0⟩ | ⟨g,cap,cur,hv2,_⟩
  ·have hL2:L2=[]:=List.eq_nil_of_length_eq_zero h0
   subst hL2
   exact⟨v,w,run_append_owned_none w lo 181 o.type 3 iI 1 underlying181 uS v L.length _ hP,by simpa using hP,⟨rfl,rfl,rfl,Nat.le_refl _,fun _ _ _=>rfl⟩⟩
  ·subst hv2
   obtain⟨v',w',hr,h2,h3,_⟩:=run_append_own_at (P:=Tryz.prog) w lo 181 o.type 3 iI (.int .i64 0) 1 8 underlying181 uS hI0 hI1 hI2 rfl (by decide) v L.length (L.map kU) hP ⟨g,0,none⟩ L2.length cap (L2.map kU) (by simp) (hP2.cells (g:=g) rfl) (fun u hu=>by obtain⟨q,_,rfl⟩:=List.mem_map.1 hu;rfl) (by unfold maxLen;omega) (by omega) hlo
   refine⟨v',w',hr,?_,h3⟩
   show w'.ownsRow _ _ _ _ _ _
   rw[List.length_append,List.map_append];exact h2
 obtain⟨a',c',hv'⟩:=ay h2
 subst hv'
 unfold Oper.wp execOp
 simp only[ho,resolve,invoke,builtin,Sem.run_bind,Sem.run_pure,Result.andThen_ok,List.map_toArray,List.map_cons,List.map_nil,hs,hx,hr]
 exact h a' c' w' h2 h3
theorem gV(w:World){ops:Array Oper}{rest:List Oper}{o:Oper}{a:Act}{Q:Exit→Act→World→Prop}(hgd:o.guard=none)(s x:Operand)
  (ho:o.op=.call { callee:=.builtin .append,args:=#[s,x],argTypes:=#[181,181] })
  (v:Value) (L:List Nat) (lo:Nat) (hs:a.eval s=v) (hP:Places w lo v L) (v2:Value) (L2:List Nat) (lo2:Nat) (hx:a.eval x=v2) (hP2:Places w lo2 v2 L2)
  (hlen:L.length+L2.length≤1000000) (hlo:lo≤w.heap.size)
  (h:∀ a' c' w',Places w' lo (.slice a' (L++L2).length c') (L++L2)→w.grownBy w' v.ownBlock→wpList Tryz.prog ops Q rest (a.put o.dst (.slice a' (L++L2).length c')) w'):wpList Tryz.prog ops Q (o::rest) a w :=
 wpList_plain hgd fun _ hK=>GL w s x ho v L lo hs hP v2 L2 lo2 hx hP2 hlen hlo fun a' c' w' h2 h3=>hK _ _ (h a' c' w' h2 h3)
structure Small(X:List aO):Prop where
 f:∀ x∈X,x.it.fields.length≤400
 n:∀ x∈X,x.it.names.length≤400
 s:∀ x∈X,x.it.name.text.size≤400
 ft:∀ x∈X,∀ f∈x.it.fields,f.name.size≤400
 nt:∀ x∈X,∀ t∈x.it.names,t.text.size≤400
theorem Jt{s:ByteArray}{X:List aO}(h:Facts s X)(hs:s.size≤400):Small X:=by
 refine⟨fun x hx=>?_,fun x hx=>?_,fun x hx=>?_,fun x hx f hf=>?_,fun x hx t ht=>?_⟩<;>obtain⟨lo,hi⟩:=h.it x hx
 ·have:=hi.fl;omega
 ·have:=hi.nl;omega
 ·have:=hi.nm.s;omega
 ·have:=(hi.f f hf).ms;omega
 ·have:=(hi.n t ht).s;omega
def Ju(X:List aO)(k a:Nat):Prop:=a∈jY [bV X,bW X]∨∃ i x,i<k∧X[i]? = some x∧PFI X i x a
theorem UH{p:iP}{n:zn}(hb:p.base=[.string n.bb,.int .i64 n.ba])(ha:p.answer=[.string n.ab,.int .i64 n.aa]):jX p n=pY p:=by
 unfold jX pY;rw[hb,ha];simp[cellText,cellAt]
theorem Tryz.infoBool:(Tryz.prog.info? 4).map (fun i=>(i.zero,i.size,i.bytes))=some (some (.bool false),1,1):=by kernel_rfl
theorem UJ{w:World}{lo lo':Nat}{v:Value}{ts:List aN}(hv:w.ownsRow lo 112 2 v ts.length (ts.flatMap aB))(hlo:lo'≤lo)(hw:lo'≤w.heap.size)(hl:ts.length≤400)(ht:∀ t∈ts,t.text.size≤400):
  Groups (w.alloc (.cells #[v] 114)) lo' (.slice (some ⟨w.heap.size,0,none⟩) 1 1) [(v,ts)]:=by
 refine⟨?_,fun p hp=>?_,fun p hp=>?_,fun p hp=>?_⟩
 ·exact World.ownsRow_lit (base:=lo') (e:=114) (size:=1) w #[v] 1 hw (by unfold maxLen;omega) rfl
 ·rw[List.mem_singleton.1 hp];exact own_base (hv.alloc _) hlo
 ·rw[List.mem_singleton.1 hp];exact hl
 ·rw[List.mem_singleton.1 hp];exact ht
theorem abo{w:World}{lo lo':Nat}{v v2:Value}{ts us:List aN}(hv:w.ownsRow lo 112 2 v ts.length (ts.flatMap aB))(hv2:w.ownsRow lo 112 2 v2 us.length (us.flatMap aB))(hlo:lo'≤lo)(hw:lo'≤w.heap.size)(hl:ts.length≤400)(hl2:us.length≤400)(ht:∀ t∈ts,t.text.size≤400)(hu:∀ t∈us,t.text.size≤400):
  Groups (w.alloc (.cells #[v,v2] 114)) lo' (.slice (some ⟨w.heap.size,0,none⟩) 2 2) [(v,ts),(v2,us)]:=by
 refine⟨?_,fun p hp=>?_,fun p hp=>?_,fun p hp=>?_⟩
 ·exact World.ownsRow_lit (base:=lo') (e:=114) (size:=1) w #[v,v2] 2 hw (by unfold maxLen;omega) rfl
 ·rcases List.mem_cons.1 hp with rfl | hp
  ·exact own_base (hv.alloc _) hlo
  ·rw[List.mem_singleton.1 hp];exact own_base (hv2.alloc _) hlo
 ·rcases List.mem_cons.1 hp with rfl | hp
  ·exact hl
  ·rw[List.mem_singleton.1 hp];exact hl2
 ·rcases List.mem_cons.1 hp with rfl | hp
  ·exact ht
  ·rw[List.mem_singleton.1 hp];exact hu
structure BH(w wc:World)(B:Nat)(cs:List Value)(v:Value)(L:List Nat):Prop where
 bel:Below w.heap.size w wc
 box:Seg wc B 116 0 cs
 pl:Places wc w.heap.size v L
theorem BH.call{w wc wd:World}{B:Nat}{cs:List Value}{v:Value}{L:List Nat}(h:BH w wc B cs v L)(hb:Below wc.heap.size wc wd):BH w wd B cs v L :=
 ⟨h.bel.trans (hb.mono h.bel.size),h.box.same (hb.block B h.box.lt),h.pl.same hb⟩
theorem BH.grown{w wc wd:World}{B:Nat}{cs:List Value}{v v':Value}{L L':List Nat}(h:BH w wc B cs v L)(hg:wc.grownBy wd v.ownBlock)(hp:Places wd w.heap.size v' L'):BH w wd B cs v' L':=by
 refine⟨h.bel.grown hg h.bel.size (fun k hk=>(h.pl.lt k hk).1),h.box.same (hg.block B h.box.lt (fun e=>?_)),hp⟩
 exact dM h.pl h.box (by decide) e.symm rfl
theorem oN(w:World)(cs:Array Value)(t:TypeId):Seg (w.alloc (.cells cs t)) w.heap.size t 0 cs.toList:=by
 exact⟨cs,heap_alloc_new w _,by simp,by simpa using List.take_of_length_le (by simp)⟩
theorem Jv{X:List aO}(h:Small X):(∀ t∈bV X,t.text.size≤400)∧(∀ t∈bW X,t.text.size≤400):=by
 constructor<;>intro t ht
 ·obtain⟨x,hx,rfl⟩:=List.mem_map.1 ht;exact h.s x (List.mem_filter.1 hx).1
 ·obtain⟨x,hx,rfl⟩:=List.mem_map.1 ht;exact h.s x (List.mem_filter.1 hx).1
theorem EW{ts:List aN}(h:ts.length≤400):(jY [ts]).length≤400:=by
 have:=BA [ts] (fun t ht=>by rw[List.mem_singleton.1 ht];exact h)
 simpa using this
theorem L9{p:iP}(h:p.fields.length≤400):(pY p).length≤400:=by
 unfold pY;split
 ·simp
 ·split<;>simp<;>omega
theorem Ju.step{X:List aO}{k:Nat}{x:aO}{L N:List Nat}(hx:X[k]? = some x)(h:∀ a,a∈L↔Ju X k a)(hN:∀ a,a∈N↔PFI X k x a):∀ a,a∈L++N↔Ju X (k+1) a:=by
 intro a
 rw[List.mem_append,h,hN]
 constructor
 ·rintro((hr | ⟨i,y,hi,hy,hp⟩) | hp)
  ·exact Or.inl hr
  ·exact Or.inr ⟨i,y,by omega,hy,hp⟩
  ·exact Or.inr ⟨k,x,by omega,hx,hp⟩
 ·rintro(hr | ⟨i,y,hi,hy,hp⟩)
  ·exact Or.inl (Or.inl hr)
  ·rcases Nat.lt_or_ge i k with h' | h'
   ·exact Or.inl (Or.inr ⟨i,y,h',hy,hp⟩)
   ·have e:i=k:=by omega
    subst e
    rw[hx] at hy;cases hy
    exact Or.inr hp
theorem BI(w:World)(lo:Nat)(lv:Value)(X:List aO)(h:dK w lo lv X)(hn:LV X)(hX:X.length≤400)(hS:Small X):
  Calls Tryz.prog 96 #[lv] w fun e w'=>∃ nv L,e=.returned nv∧Places w' w.heap.size nv L∧(∀ a,a∈L↔PF X a)∧L.length≤1000000∧Below w.heap.size w w':=by
 have hmk:=run_make_row' (P:=Tryz.prog) 224 4 (.bool false) 1 underlying224 Tryz.infoBool rfl .i64 .i64 X.length (by omega) (by omega)
 obtain⟨iI,uS,hI0,hI1,hI2⟩:=info_parts Tryz.infoInt
 obtain⟨la,lc,hlv⟩:∃ a c,lv=.slice a X.length c:=ay h.own
 subst hlv
 have H:=hid h
 have HN:=hid hn
 have HS:=hid hS
 clear h hn hS
 go_enter func96,ntmps96
 go_wp2_with fail
 refine(D8 _ lo _ X H.out HN.out hX).mono ?_;rintro e w1 ⟨t,o,rfl,ht,ho,hb1⟩
 obtain⟨ta,tc,htv⟩:∃ a c,t=.slice a (bV X).length c:=ay ht
 obtain⟨oa,oc,hov⟩:∃ a c,o=.slice a (bW X).length c:=ay ho
 subst htv hov
 have hz1:=hb1.size
 have DR:(bV X).length≤400:=by have:=zo X;omega
 have hO4:(bW X).length≤400:=by have:=zq X;omega
 have HG:=hid (abo ht ho (Nat.le_refl _) hz1 DR hO4 (Jv HS.out).1 (Jv HS.out).2)
 have hb1':=hb1.alloc hz1 (.cells #[.slice ta (bV X).length tc,.slice oa (bW X).length oc] 114)
 clear ht ho
 go_wp2_with fail
 refine(rJ _ w.heap.size _ _ HG.out (by simp)).mono ?_;rintro e w2 ⟨pv,rfl,hp2,hb2⟩
 have zT:=hb1'.trans (hb2.mono hb1'.size)
 have hp2':Places w2 w.heap.size pv (jY [bV X,bW X]):=own_base hp2 hb1'.size
 have hl0:(jY [bV X,bW X]).length≤800:=by
  have:=BA [bV X,bW X] (fun t ht=>by
   rcases List.mem_cons.1 ht with rfl | ht
   ·exact DR
   ·rw[List.mem_singleton.1 ht];exact hO4)
  simpa using this
 obtain⟨pa,pc,hpv⟩:∃ a c,pv=.slice a (jY [bV X,bW X]).length c:=ay hp2'
 subst hpv
 have HP2:=hid hp2'
 clear hp2 hp2' HG hb1 hb1' hb2
 generalize hR:jY [bV X,bW X]=R at *
 have HR:=hid hR
 clear hR
 go_wp2_with fail
 go_loopg [3,4,5,14] X.length (fun gk nv x4 x5 i wr=>∃ (k:Nat) (L:List Nat),k+gk=X.length∧i=.int .i64 k∧Hid (Places wr w.heap.size nv L)∧Hid (∀ a,a∈L↔Ju X k a)∧L.length≤800+2000*k∧Below w.heap.size w wr)
 case atStart=>exact⟨0,R,by omega,rfl,hid HP2.out,hid (fun a=>⟨fun ha=>Or.inl (by rw[HR.out];exact ha),fun ha=>by
  rcases ha with ha | ⟨i,x,hi,_⟩
  ·rw[HR.out] at ha;exact ha
  ·omega⟩),by omega,zT⟩
 case round=>
  obtain⟨k,L,hk,rfl,HP,HL,hLl,hbel⟩:=hrel
  have hsz:=hbel.size
  by_cases hlt:k<X.length
  ·obtain⟨x,hx⟩:∃ x,X[k]? = some x:=⟨X[k],List.getElem?_eq_getElem hlt⟩
   have hmem:=List.mem_of_getElem? hx
   obtain⟨g,cap,hv,hgl,hgs⟩:=iJ H.out.own (by omega)
   obtain⟨rfl,rfl⟩:la=some ⟨g,0,none⟩∧lc=cap:=by simpa using hv
   obtain⟨n,hn⟩:=(H.out.below hbel).rG HN.out hx
   have UK:=(H.out.nest x hmem).f
   have UL:=(H.out.nest x hmem).n
   rw[hn.vf] at UK
   rw[hn.vn] at UL
   have hs:=hn.seg
   have HBQ:=hid (UH hn.base hn.answer)
   have hf4:=HS.out.f x hmem
   have hn4:=HS.out.n x hmem
   have HFT:=hid (HS.out.ft x hmem)
   have HNT:=hid (HS.out.nt x hmem)
   have HX:=hid hx
   have HRF:=hid UK
   have HRN:=hid UL
   obtain⟨na,nc,yx⟩:∃ a c,u3=.slice a L.length c:=ay HP.out
   subst yx
   clear hx hv hn UK UL
   obtain⟨p,xvf,xvn⟩:=x
   obtain⟨pk,pn,fs,ns,pb,pan⟩:=p
   obtain⟨fa,fc,nna,nnc,bb,ba,ab,aa⟩:=n
   dsimp only at *
   have c0:=hs.cell (j:=0) rfl
   have c1:=hs.cell (j:=1) rfl
   have c2:=hs.cell (j:=2) rfl
   have c3:=hs.cell (j:=3) rfl
   have c4:=hs.cell (j:=4) rfl
   have c5:=hs.cell (j:=5) rfl
   have c6:=hs.cell (j:=6) rfl
   have c7:=hs.cell (j:=7) rfl
   have c8:=hs.cell (j:=8) rfl
   simp only[Nat.add_zero] at c0
   clear hs
   have HS0:=hid (show BH w (wr.alloc (.cells #[.int .i64 pk,.string pn.text,.int .i64 pn.at_,.slice fa fs.length fc,.slice nna ns.length nnc,.string bb,.int .i64 ba,.string ab,.int .i64 aa] 116)) wr.heap.size [.int .i64 pk,.string pn.text,.int .i64 pn.at_,.slice fa fs.length fc,.slice nna ns.length nnc,.string bb,.int .i64 ba,.string ab,.int .i64 aa] (.slice na L.length nc) L from
    ⟨hbel.alloc hsz _,oN _ _ _,HP.out.same ((Below.refl _ _).alloc (Nat.le_refl _) _)⟩)
   go_wp2_with fail
   clear c0 c1 c2 c3 c4 c5 c6 c7 c8
   refine(Bo _ lo _ fs (aC HRF.out (fun q hq=>HS0.out.bel.block q (HRF.out.lt q hq).2)) hf4).mono ?_;rintro e wa ⟨fv,rfl,hfa,hba⟩
   have HSA:=hid (HS0.out.call hba)
   have QI:=hid (UJ hfa (Nat.le_refl _) hba.size (by simpa using hf4) (fun t ht=>by obtain⟨f,hf,rfl⟩:=List.mem_map.1 ht;exact HFT.out f hf))
   obtain⟨fva,fvc,hfv⟩:∃ a c,fv=.slice a (fs.map fname).length c:=ay hfa
   subst hfv
   have hzA:=HSA.out.bel.size
   have hF4:(fs.map fname).length≤400:=by simpa using hf4
   generalize hFn:fs.map fname=F at *
   have HFN:=hid hFn
   clear hfa hba HS0 hFn
   go_wp2_with fail
   refine(rJ _ _ _ _ QI.out (by simp)).mono ?_;rintro e wb ⟨pv1,rfl,hp1,hb1⟩
   have HSB:=hid (HSA.out.call (((Below.refl _ _).alloc (Nat.le_refl _) _).trans (hb1.mono (by simp))))
   have XA:=hid (show Places wb _ pv1 (jY [F]) from hp1)
   have hN1:=EW (ts:=F) hF4
   generalize hg1:jY [F]=N1 at *
   have Tv:=hid hg1
   have hzB:=HSB.out.bel.size
   obtain⟨q1,r1,hv1⟩:∃ a c,pv1=.slice a N1.length c:=ay XA.out
   subst hv1
   clear hp1 hb1 QI hg1 HSA
   go_wp2_with (at_builtin;refine gV _ rfl _ _ rfl _ L w.heap.size rfl HSB.out.pl _ N1 _ rfl XA.out (by omega) hzB ?_)
   intro a1 c1 w3 hp3 hg3
   have Le:=hid (HSB.out.grown hg3 hp3)
   have hl1:(L++N1).length≤L.length+400:=by rw[List.length_append];omega
   generalize hm1:L++N1=L1 at *
   have HM1:=hid hm1
   have hz3:=Le.out.bel.size
   clear hp3 hg3 HSB XA hm1
   have e4:w3.cell? ⟨wr.heap.size,4,none⟩=some (.slice nna ns.length nnc):=by simpa using Le.out.box.cell (j:=4) rfl
   have HG2:=hid (UJ (aC HRN.out (fun q hq=>Le.out.bel.block q (HRN.out.lt q hq).2)) (Nat.le_refl _) (by omega) hn4 HNT.out)
   go_wp2_with fail
   refine(rJ _ _ _ _ HG2.out (by simp)).mono ?_;rintro e wc ⟨pv2,rfl,hp2,hb2⟩
   have HSC:=hid (Le.out.call (((Below.refl _ _).alloc (Nat.le_refl _) _).trans (hb2.mono (by simp))))
   have Jw:=hid (show Places wc _ pv2 (jY [ns]) from hp2)
   have IJ:=EW (ts:=ns) hn4
   generalize hg2:jY [ns]=N2 at *
   have Yl:=hid hg2
   have hzC:=HSC.out.bel.size
   obtain⟨q2,r2,hv2⟩:∃ a c,pv2=.slice a N2.length c:=ay Jw.out
   subst hv2
   clear hp2 hb2 HG2 hg2 Le e4
   go_wp2_with (at_builtin;refine gV _ rfl _ _ rfl _ L1 w.heap.size rfl HSC.out.pl _ N2 _ rfl Jw.out (by omega) hzC ?_)
   intro a2 c2 w4 vT hg4
   have HS2:=hid (HSC.out.grown hg4 vT)
   have hl2:(L1++N2).length≤L.length+800:=by rw[List.length_append];omega
   generalize hm2:L1++N2=L2 at *
   have Ym:=hid hm2
   have hz4:=HS2.out.bel.size
   clear vT hg4 HSC Jw hm2
   have e3:w4.cell? ⟨wr.heap.size,3,none⟩=some (.slice fa fs.length fc):=by simpa using HS2.out.box.cell (j:=3) rfl
   go_wp2_with fail
   refine(zS _ lo _ fs (aC HRF.out (fun q hq=>HS2.out.bel.block q (HRF.out.lt q hq).2)) hf4).mono ?_;rintro e wd ⟨pv3,rfl,hp3,hb3⟩
   have UM:=hid (HS2.out.call hb3)
   have NY:=hid hp3
   have hN3:(nT fs (fs.length-1)).length≤400:=by have:=yA fs (fs.length-1);omega
   generalize hg3:nT fs (fs.length-1)=N3 at *
   have HN3:=hid hg3
   have hzD:=UM.out.bel.size
   obtain⟨q3,r3,hv3⟩:∃ a c,pv3=.slice a N3.length c:=ay NY.out
   subst hv3
   clear hp3 hb3 hg3 HS2 e3
   go_wp2_with (at_builtin;refine gV _ rfl _ _ rfl _ L2 w.heap.size rfl UM.out.pl _ N3 _ rfl NY.out (by omega) hzD ?_)
   intro a3 c3 w5 Bg hg5
   have Ea:=hid (UM.out.grown hg5 Bg)
   have hl3:(L2++N3).length≤L.length+1200:=by rw[List.length_append];omega
   generalize IV:L2++N3=L3 at *
   have NZ:=hid IV
   have Uu:=Ea.out.bel.size
   clear Bg hg5 UM NY IV
   have f0:w5.cell? ⟨wr.heap.size,0,none⟩=some (.int .i64 pk):=by simpa using Ea.out.box.cell (j:=0) rfl
   have f1:w5.cell? ⟨wr.heap.size,1,none⟩=some (.string pn.text):=by simpa using Ea.out.box.cell (j:=1) rfl
   have f2:w5.cell? ⟨wr.heap.size,2,none⟩=some (.int .i64 pn.at_):=by simpa using Ea.out.box.cell (j:=2) rfl
   have f3:w5.cell? ⟨wr.heap.size,3,none⟩=some (.slice fa fs.length fc):=by simpa using Ea.out.box.cell (j:=3) rfl
   have f4:w5.cell? ⟨wr.heap.size,4,none⟩=some (.slice nna ns.length nnc):=by simpa using Ea.out.box.cell (j:=4) rfl
   have f5:w5.cell? ⟨wr.heap.size,5,none⟩=some (.string bb):=by simpa using Ea.out.box.cell (j:=5) rfl
   have f6:w5.cell? ⟨wr.heap.size,6,none⟩=some (.int .i64 ba):=by simpa using Ea.out.box.cell (j:=6) rfl
   have f7:w5.cell? ⟨wr.heap.size,7,none⟩=some (.string ab):=by simpa using Ea.out.box.cell (j:=7) rfl
   have f8:w5.cell? ⟨wr.heap.size,8,none⟩=some (.int .i64 aa):=by simpa using Ea.out.box.cell (j:=8) rfl
   go_wp2_with fail
   refine(yC _ lo _ X ⟨pk,pn,fs,ns,pb,pan⟩ ⟨fa,fc,nna,nnc,bb,ba,ab,aa⟩ (H.out.below Ea.out.bel) HN.out hX (aC HRF.out (fun q hq=>Ea.out.bel.block q (HRF.out.lt q hq).2)) hf4).mono ?_;rintro e we ⟨pv4,rfl,vT,hb4⟩
   rw[HBQ.out] at vT
   have HSE:=hid (Ea.out.call hb4)
   have HQ4:=hid vT
   have hN4:(qK X (pY ⟨pk,pn,fs,ns,pb,pan⟩)).length≤400:=by
    have:=Jp X (pY ⟨pk,pn,fs,ns,pb,pan⟩)
    have:=L9 (p:=⟨pk,pn,fs,ns,pb,pan⟩) hf4
    omega
   generalize hg4:qK X (pY ⟨pk,pn,fs,ns,pb,pan⟩)=N4 at *
   have HN4:=hid hg4
   have hzE:=HSE.out.bel.size
   obtain⟨q4,r4,hv4⟩:∃ a c,pv4=.slice a N4.length c:=ay HQ4.out
   subst hv4
   clear vT hb4 hg4 Ea f0 f1 f2 f3 f4 f5 f6 f7 f8
   go_wp2_with (at_builtin;refine gV _ rfl _ _ rfl _ L3 w.heap.size rfl HSE.out.pl _ N4 _ rfl HQ4.out (by omega) hzE ?_)
   intro a4 c4 w6 Ou hg6
   have Mc:=hid (HSE.out.grown hg6 Ou)
   have hl4:(L3++N4).length≤L.length+1600:=by rw[List.length_append];omega
   generalize hm4:L3++N4=L4 at *
   have HM4:=hid hm4
   have hz6:=Mc.out.bel.size
   clear Ou hg6 HSE HQ4 hm4
   have f0:w6.cell? ⟨wr.heap.size,0,none⟩=some (.int .i64 pk):=by simpa using Mc.out.box.cell (j:=0) rfl
   have f2:w6.cell? ⟨wr.heap.size,2,none⟩=some (.int .i64 pn.at_):=by simpa using Mc.out.box.cell (j:=2) rfl
   have hbox:=Mc.out.box.lt
   have abq:=hid (show L4=L++(N1++N2++N3++N4) by rw[← HM4.out,← NZ.out,← Ym.out,← HM1.out];simp)
   by_cases hk0:pk=0
   ·have hk0':((pk:Int)==0)=true:=by simp[hk0]
    have UN:=oN w6 (madeCells #[Value.bool false] X.length) 4
    rw[toList_madeCells_one,← List.map_replicate] at UN
    have aau:=hid UN
    clear UN
    go_wp2_with fail
    refine(L6 (mZ (List.replicate X.length false)) w6 _ lo _ X k k w6.heap.size (List.replicate X.length false) (H.out.below Mc.out.bel) HN.out hX HS.out.f ((Below.refl _ _).alloc (Nat.le_refl _) _) (Nat.le_refl _) aau.out (by simp) hlt hlt rfl).mono ?_;rintro e w7 ⟨r,Oz,rfl,hb7,_,_,hpo⟩
    have HW:=hid hpo.way
    have Qn:=hid (Mc.out.call (((Below.refl _ _).alloc (Nat.le_refl _) _).trans hb7))
    have f2':w7.cell? ⟨wr.heap.size,2,none⟩=some (.int .i64 pn.at_):=by simpa using Qn.out.box.cell (j:=2) rfl
    have hz7:=Qn.out.bel.size
    clear hb7 hpo aau f0 f2
    cases r with
    | false=>
     go_wp2_with fail
     go_roundg (gk-1)
     case rel=>exact⟨k+1,L4,by omega,by go_num,hid Qn.out.pl,hid (by
      rw[abq.out]
      refine Ju.step HX.out HL.out (fun a=>?_)
      rw[← Tv.out,← Yl.out,← HN3.out,← HN4.out,← HFN.out]
      simp only[List.mem_append,PFI]
      constructor
      ·rintro(((h | h) | h) | h)
       ·exact Or.inl h
       ·exact Or.inr (Or.inl h)
       ·exact Or.inr (Or.inr (Or.inl h))
       ·exact Or.inr (Or.inr (Or.inr (Or.inl h)))
      ·rintro(h | h | h | h | h)
       ·exact Or.inl (Or.inl (Or.inl h))
       ·exact Or.inl (Or.inl (Or.inr h))
       ·exact Or.inl (Or.inr h)
       ·exact Or.inr h
       ·exact absurd (HW.out.2 h.2.1) (by decide)),by omega,Qn.out.bel⟩
     case measure=>omega
    | true=>
     have hone:∀ (wx:World) (q:Nat),Places (wx.alloc (.cells #[.int .i64 (q:Int)] 3)) wx.heap.size (.slice (some ⟨wx.heap.size,0,none⟩) 1 1) [q]:=fun wx q=>World.ownsRow_lit (base:=wx.heap.size) (e:=3) (size:=1) wx #[.int .i64 (q:Int)] 1 (Nat.le_refl _) (by unfold maxLen;omega) rfl
     have HS6:=hid (Qn.out.call ((Below.refl _ _).alloc (Nat.le_refl _) (.cells #[.int .i64 (pn.at_:Int)] 3)))
     have hz8:=HS6.out.bel.size
     go_wp2_with (at_builtin;refine gV _ rfl _ _ rfl _ L4 w.heap.size rfl HS6.out.pl _ [pn.at_] _ rfl (hone _ _) (by simp;omega) hz8 ?_)
     intro a5 c5 w8 hp8 hg8
     have HS7:=hid (HS6.out.grown hg8 hp8)
     have hl5:(L4++[pn.at_]).length≤L.length+1601:=by rw[List.length_append,List.length_singleton];omega
     clear hp8 hg8
     go_wp2_with fail
     go_roundg (gk-1)
     case rel=>exact⟨k+1,L4++[pn.at_],by omega,by go_num,hid (by have:=HS7.out.pl;simpa using this),hid (by
      rw[abq.out,List.append_assoc]
      refine Ju.step HX.out HL.out (fun a=>?_)
      rw[← Tv.out,← Yl.out,← HN3.out,← HN4.out,← HFN.out]
      simp only[List.mem_append,List.mem_singleton,PFI]
      constructor
      ·rintro((((h | h) | h) | h) | h)
       ·exact Or.inl h
       ·exact Or.inr (Or.inl h)
       ·exact Or.inr (Or.inr (Or.inl h))
       ·exact Or.inr (Or.inr (Or.inr (Or.inl h)))
       ·exact Or.inr (Or.inr (Or.inr (Or.inr ⟨hk0,HW.out.1 (by first | trivial | rfl),h⟩)))
      ·rintro(h | h | h | h | h)
       ·exact Or.inl (Or.inl (Or.inl (Or.inl h)))
       ·exact Or.inl (Or.inl (Or.inl (Or.inr h)))
       ·exact Or.inl (Or.inl (Or.inr h))
       ·exact Or.inl (Or.inr h)
       ·exact Or.inr h.2.2),by omega,HS7.out.bel⟩
     case measure=>omega
   ·have hk0':((pk:Int)==0)=false:=by simp[hk0]
    go_wp2_with fail
    go_roundg (gk-1)
    case rel=>exact⟨k+1,L4,by omega,by go_num,hid Mc.out.pl,hid (by
     rw[abq.out]
     refine Ju.step HX.out HL.out (fun a=>?_)
     rw[← Tv.out,← Yl.out,← HN3.out,← HN4.out,← HFN.out]
     simp only[List.mem_append,PFI]
     constructor
     ·rintro(((h | h) | h) | h)
      ·exact Or.inl h
      ·exact Or.inr (Or.inl h)
      ·exact Or.inr (Or.inr (Or.inl h))
      ·exact Or.inr (Or.inr (Or.inr (Or.inl h)))
     ·rintro(h | h | h | h | h)
      ·exact Or.inl (Or.inl (Or.inl h))
      ·exact Or.inl (Or.inl (Or.inr h))
      ·exact Or.inl (Or.inr h)
      ·exact Or.inr h
      ·exact absurd h.1 hk0),by omega,Mc.out.bel⟩
    case measure=>omega
  ·have HE:=hid (show ∀ a,Ju X k a↔PF X a from fun a=>or_congr_right ⟨fun⟨i,x,_,hx,hp⟩=>⟨i,x,hx,hp⟩,fun⟨i,x,hx,hp⟩=>⟨i,x,by have:=lQ hx;omega,hx,hp⟩⟩)
   obtain⟨na,nc,yx⟩:∃ a c,u3=.slice a L.length c:=ay HP.out
   subst yx
   go_wp2_with fail
   go_ret
   exact⟨_,L,rfl,HP.out,fun a=>(HL.out a).trans (HE.out a),by omega,hbel⟩
theorem rO:∀ (zs:List Int) (z:Int),(zs.foldl min z=z∨zs.foldl min z∈zs)∧zs.foldl min z≤z∧∀ a∈zs,zs.foldl min z≤a
 | [],z=>by simp
 | b::r,z=>by
  rw[List.foldl_cons]
  obtain⟨h1,h2,h3⟩:=rO r (min z b)
  refine⟨?_,by omega,fun a ha=>?_⟩
  ·rcases h1 with h1 | h1
   ·rw[h1]
    rcases Int.le_total z b with h | h
    ·left;omega
    ·right;rw[Int.min_eq_right h];simp
   ·right;simp[h1]
  ·rcases List.mem_cons.1 ha with rfl | ha
   ·omega
   ·exact h3 a ha
theorem Md{L:List Nat}(h:L≠[]):∃ m∈L,Lib.minOf (L.map (fun(n:Nat)=>(n:Int)))=(m:Int)∧∀ a∈L,m≤a:=by
 obtain⟨b,r,rfl⟩:=List.exists_cons_of_ne_nil h
 unfold Lib.minOf
 obtain⟨h1,h2,h3⟩:=rO ((b::r).map (fun(n:Nat)=>(n:Int))) (((b::r).map (fun(n:Nat)=>(n:Int))).headD 0)
 have hin:((b::r).map (fun(n:Nat)=>(n:Int))).foldl min (((b::r).map (fun(n:Nat)=>(n:Int))).headD 0)∈(b::r).map (fun(n:Nat)=>(n:Int)):=by
  rcases h1 with h1 | h1
  ·rw[h1];simp
  ·exact h1
 obtain⟨m,hm,e⟩:=List.mem_map.1 hin
 refine⟨m,hm,e.symm,fun a ha=>?_⟩
 have:=h3 (a:Int) (List.mem_map.2 ⟨a,ha,rfl⟩)
 rw[← e] at this
 omega
theorem ahW(w:World)(lo:Nat)(v:Value)(L:List Nat)(h:Places w lo v L)(hne:L≠[])(hl:L.length≤1000000):
  Calls Tryz.prog 97 #[v] w fun e w'=>∃ m:Nat,e=.returned (.int .i64 m)∧w'=w∧m∈L∧∀ a∈L,m≤a:=by
 have hpos:0<L.length:=List.length_pos_iff.2 hne
 obtain⟨g,c,hv,hg,hc⟩:=Yh h hpos
 subst hv
 obtain⟨m,hm,e,hle⟩:=Md hne
 refine(Tryz.slices_Min_int g 0 L.length c (L.map (fun(n:Nat)=>(n:Int))) w hpos (by simp) (by omega) (fun j hj=>?_)).mono ?_
 ·have hj':j<L.length:=by simpa using hj
  have:=hc j L[j] (List.getElem?_eq_getElem hj')
  rw[Nat.zero_add,this]
  simp[List.getD_eq_getElem?_getD,List.getElem?_eq_getElem hj']
 ·rintro e' w' ⟨rfl,rfl⟩
  exact⟨m,by rw[List.take_of_length_le (by simp),e],rfl,hm,hle⟩
def UO(s:ByteArray)(w:World)(lo:Nat)(lv:Value):Prop:=∃ X:List aO,(aV s).1=some (X.map (fun x=>x.it))∧dK w lo lv X∧X.length≤400∧(∀ a,¬ PF X a)
theorem UQ(s:ByteArray)(w:World)(hv:Vars w)(hs:s.size≤maxLen):
  Calls Tryz.prog 69 #[.string s] w fun e w'=>∃ (lv:Value) (n:Option Addr) (c1 c2:Nat) (E P:Int),lv=.slice n c1 c2∧e=.returned (.tuple #[lv,.int .i64 E,.int .i64 P])∧Below w.heap.size w w'∧bP s E P∧(E=0→UO s w' (w.heap.size+1) lv):=by
 unfold maxLen at hs
 have HV:=hid hv
 clear hv
 by_cases h4:s.size≤400
 ·go_enter func69,ntmps69
  go_wp2_with fail
  refine(parse_any s _ HV.out h4).mono ?_;rintro e w1 ⟨lv,P,rfl,hb1,hans⟩
  rcases hans with⟨hn,rfl,rfl⟩ | ⟨X,hX,rfl,hits,hl⟩
  ·have HA:=hid (show bP s 2 ((aV s).2.at_:Int) from Or.inr ⟨h4,Or.inl ⟨hn,rfl,rfl⟩⟩)
   clear hn
   generalize (aV s).2.at_=p at *
   go_wp2_with fail
   go_ret3
   exact⟨_,_,0,0,2,(p:Int),rfl,rfl,hb1,HA.out,fun h=>by omega⟩
  ·obtain⟨la,lc,hlv⟩:∃ a c,lv=.slice a X.length c:=ay hits.own
   subst hlv
   have HF:=hid (Jr hX)
   obtain⟨hin1,hin2,ahX,Yn⟩:=yw hX
   have aem:LV X:=fun x hx=>Yn x.it (List.mem_map.2 ⟨x,hx,rfl⟩)
   have HX:=hid hX
   have HI:=hid hits
   have Je:=hid aem
   have Yo:=hid (Jt HF.out h4)
   clear hX hits aem hin1 hin2 ahX Yn
   go_wp2_with fail
   refine(BI _ _ _ X HI.out Je.out hl Yo.out).mono ?_;rintro e w2 ⟨nv,L,rfl,hP,hL,hLl,hb2⟩
   have zT:=hb1.trans (hb2.mono hb1.size)
   obtain⟨na,nc,yx⟩:∃ a c,nv=.slice a L.length c:=ay hP
   subst yx
   have HP:=hid hP
   have HL:=hid hL
   clear hP hL
   by_cases hne:L=[]
   ·have HA:=hid (show bP s 0 0 from Or.inr ⟨h4,Or.inr ⟨X,HX.out,Or.inr ⟨fun a ha=>by have:=(HL.out a).2 ha;rw[hne] at this;simp at this,rfl,rfl⟩⟩⟩)
    have hl0:L.length=0:=by rw[hne];rfl
    have HK:=hid (show UO s w2 (w.heap.size+1) (.slice la X.length lc) from⟨X,HX.out,HI.out.below hb2,hl,fun a ha=>by have:=(HL.out a).2 ha;rw[hne] at this;simp at this⟩)
    generalize L.length=ll at *
    clear hne
    go_wp2_with fail
    go_ret3
    exact⟨_,_,_,_,0,0,rfl,rfl,zT,HA.out,fun _=>HK.out⟩
   ·have hpos:0<L.length:=List.length_pos_iff.2 hne
    have HNE:=hid hne
    clear hne
    go_wp2_with fail
    refine(ahW _ _ _ L HP.out HNE.out hLl).mono ?_;rintro e w3 ⟨m,rfl,rfl,hm,hmin⟩
    have HA:=hid (show bP s 3 (m:Int) from Or.inr ⟨h4,Or.inr ⟨X,HX.out,Or.inl ⟨m,(HL.out m).1 hm,fun a ha=>hmin a ((HL.out a).2 ha),rfl,rfl⟩⟩⟩)
    clear hm hmin
    go_wp2_with fail
    go_ret3
    exact⟨_,_,0,0,3,(m:Int),rfl,rfl,zT,HA.out,fun h=>by omega⟩
 ·have HA:=hid (show bP s 1 0 from Or.inl ⟨by omega,rfl,rfl⟩)
  have hgt:(400:Int)<(s.size:Int):=by omega
  go_enter func69,ntmps69
  go_wp2_with fail
  go_ret3
  exact⟨_,_,0,0,1,0,rfl,rfl,Below.refl _ _,HA.out,fun h=>by omega⟩
end Go.Proofs.YtolfcabodiphmaaGreatDoor
