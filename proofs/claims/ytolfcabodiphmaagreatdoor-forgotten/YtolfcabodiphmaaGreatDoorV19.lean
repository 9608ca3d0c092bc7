/- Package ends: the client: isFull. -/
import Derived.Test.YtolfcabodiphmaaGreatDoorV04
import Derived.Test.YtolfcabodiphmaaGreatDoorV00
import Derived.Lib.AppendIntMem
import Derived.Lib.Walk
import Derived.WalkKit
import Derived.Lib.ItoaNum
import Derived.Test.YtolfcabodiphmaaGreatDoorV11
import Derived.Test.YtolfcabodiphmaaGreatDoorV12
set_option linter.unusedSimpArgs false
set_option linter.unusedVariables false
set_option maxHeartbeats 2000000
set_option maxRecDepth 100000
namespace Go.Proofs.YtolfcabodiphmaaGreatDoor
open Go.Proofs.Tryz
open Go.RowKit Go.Conc
theorem YM{lo:Nat}{w:World}{g:CG}(h:Cli lo w g):
  Calls Tryz.prog 55 #[.pointer (some ⟨g.b,0,none⟩)] w (fun e w'=>e=.returned (.bool (g.st.isFull g.W))∧Below w.heap.size w w'):=by
 obtain⟨sa,sc,hsv⟩:=h.rs.slice
 obtain⟨aa,ac,hav⟩:=h.ra.slice
 have d1:w.cell? ⟨g.b,1,none⟩=some (.int .i64 g.W):=h.blk.cell 1
 have d13:w.cell? ⟨g.b,13,none⟩=some (.slice aa g.asked.length ac):=(show w.cell? ⟨g.b,13,none⟩=some g.av from h.blk.cell 13).trans (by rw[hav])
 have d15:w.cell? ⟨g.b,15,none⟩=some (.slice sa g.streams.length sc):=(show w.cell? ⟨g.b,15,none⟩=some g.sv from h.blk.cell 15).trans (by rw[hsv])
 have HO:Hid (g.st.isFull g.W=(decide (8≤g.streams.length)||decide (g.W≤g.asked.length))):=by
  unfold CP.isFull CG.st Hid
  simp
 rw[HO.out]
 clear h HO hsv hav
 by_cases h8:8≤g.streams.length
 ·have h8I:decide ((8:Int)≤(g.streams.length:Int))=true:=by simp;omega
  go_enter func55,ntmps55
  go_wp2_with fail
  go_region
  all_goals
   go_wp2_with fail
   go_ret
   exact⟨bM (by simp[h8]),(Below.refl _ _).drew⟩
 ·have h8I:decide ((8:Int)≤(g.streams.length:Int))=false:=by simp;omega
  go_enter func55,ntmps55
  go_wp2_with fail
  go_region
  all_goals
   go_wp2_with fail
   go_ret
   exact⟨bM (by simp[h8]),(Below.refl _ _).drew⟩
open Go.Lib Go.Sort
def qo(k:Nat)(name:List UInt8)(p:iP):Bool:=(p.kind==k)&&(p.name.text.toList==name)
def jH (X:List aO) (k:Nat) (name:List UInt8) (z:Int):Prop := (z = -1 ∧ ∀ (j:Nat) (y:aO),X[j]? = some y→qo k name y.it=false) ∨ ∃ (i:Nat) (x:aO),z = i ∧ X[i]? = some x ∧ qo k name x.it=true ∧ ∀ (j:Nat) (y:aO),j<i→X[j]? = some y→qo k name y.it=false
theorem jH.no {X:List aO} {k:Nat} {name:List UInt8} (h:∀ (j:Nat) (y:aO),X[j]? = some y→qo k name y.it=false):jH X k name (-1) := Or.inl ⟨rfl,h⟩
theorem jH.yes {X:List aO} {k:Nat} {name:List UInt8} (i:Nat) (x:aO) (a:X[i]? = some x) (b:qo k name x.it=true) (c:∀ (j:Nat) (y:aO),j<i→X[j]? = some y→qo k name y.it=false):jH X k name i := Or.inr ⟨i,x,rfl,a,b,c⟩
theorem jH.ind {X:List aO} {k:Nat} {name:List UInt8} {motive:∀ z,jH X k name z → Prop} (no:∀ h,motive (-1) (.no h)) (yes:∀ (i:Nat) x a b c,motive i (.yes i x a b c)):∀ {z} (h:jH X k name z),motive z h
  | _,.inl ⟨rfl,h⟩ => no h
  | _,.inr ⟨i,x,rfl,a,b,c⟩ => yes i x a b c
theorem yN(k kd:Nat)(nm name:ByteArray)(c2 c5 c6 c7 c8:Value)(fa na:Option Addr)(fl fc nl nc cb cc:Nat)(w:World)(hc:w.cell? ⟨cb,0,none⟩=some (.int .i64 kd))(hcb:cb<w.heap.size)(hd:w.cell? ⟨cc,0,none⟩=some (.string name))(hcc:cc<w.heap.size):
  Calls Tryz.prog 76 #[.agg #[.int .i64 k,.string nm,c2,.slice fa fl fc,.slice na nl nc,c5,c6,c7,c8],.pointer (some ⟨cb,0,none⟩),.pointer (some ⟨cc,0,none⟩)] w fun e w'=>e=.returned (.bool ((k==kd)&&(nm.toList==name.toList)))∧Below w.heap.size w w':=by
 have hb0:Below w.heap.size w (w.alloc (.cells #[.int .i64 k,.string nm,c2,.slice fa fl fc,.slice na nl nc,c5,c6,c7,c8] 116)):=(Below.refl _ _).alloc (Nat.le_refl _) _
 have hB0:aK (w.alloc (.cells #[.int .i64 k,.string nm,c2,.slice fa fl fc,.slice na nl nc,c5,c6,c7,c8] 116)) w.heap.size 116 [.int .i64 k,.string nm,c2,.slice fa fl fc,.slice na nl nc,c5,c6,c7,c8]:=heap_alloc_new w _
 have e1:=(hb0.cell (p:=⟨cb,0,none⟩) hcb).trans hc
 have e2:=(hb0.cell (p:=⟨cc,0,none⟩) hcc).trans hd
 obtain⟨w0,hw0⟩:∃ w0,w.alloc (.cells #[.int .i64 k,.string nm,c2,.slice fa fl fc,.slice na nl nc,c5,c6,c7,c8] 116)=w0:=⟨_,rfl⟩
 rw[hw0] at hb0 hB0 e1 e2
 have p0:w0.cell? ⟨w.heap.size,0,none⟩=some (.int .i64 k):=hB0.cell 0
 have p1:w0.cell? ⟨w.heap.size,1,none⟩=some (.string nm):=hB0.cell 1
 have hi:((k:Int)==(kd:Int))=(k==kd):=by rw[Bool.eq_iff_iff];simp;omega
 have HI:=hid hi
 clear hi hB0 hc hd
 cases hk:((k:Int)==(kd:Int))
 all_goals
  have HK:=hid (HI.out.symm.trans hk)
  go_enter func76,ntmps76
  go_wp2_with fail
  go_ret
  exact⟨bM (by rw[HK.out];simp),hb0⟩
theorem CU(w:World)(lo:Nat)(lv:Value)(X:List aO)(name:ByteArray)(kd cb cc:Nat)(h:dK w lo lv X)(hn:LV X)(hX:X.length≤400)(hc:w.cell? ⟨cb,0,none⟩=some (.int .i64 kd))(hcb:cb<w.heap.size)(hd:w.cell? ⟨cc,0,none⟩=some (.string name))(hcc:cc<w.heap.size):
  Calls Tryz.prog 75 #[lv,.func (Fn.func 76) #[] #[.pointer (some ⟨cb,0,none⟩),.pointer (some ⟨cc,0,none⟩)]] w fun e w'=>∃ z:Int,e=.returned (.int .i64 z)∧jH X kd name.toList z∧Below w.heap.size w w':=by
 obtain⟨la,lc,hlv⟩:∃ a c,lv=.slice a X.length c:=ay h.own
 subst hlv
 have H:=hid h
 have HN:=hid hn
 clear h hn
 go_enter func75,ntmps75
 go_wp2_with fail
 go_loopg [5,8] X.length (fun gk t i wr=>∃ k:Nat,k+gk=X.length∧i=.int .i64 k∧Hid (∀ j y,j<k→X[j]? = some y→qo kd name.toList y.it=false)∧Below w.heap.size w wr)
 case atStart=>exact⟨0,by omega,rfl,hid (fun j y hj=>by omega),Below.refl _ _⟩
 case round=>
  obtain⟨k,hk,rfl,HA,hbel⟩:=hrel
  by_cases hlt:k<X.length
  ·obtain⟨x,hx⟩:∃ x,X[k]? = some x:=⟨X[k],List.getElem?_eq_getElem hlt⟩
   obtain⟨g,cap,hv,hgl,hgs⟩:=iJ H.out.own (by omega)
   obtain⟨rfl,rfl⟩:la=some ⟨g,0,none⟩∧lc=cap:=by simpa using hv
   obtain⟨n,hn⟩:=(H.out.below hbel).rG HN.out hx
   have hs:=hn.seg
   have HX:=hid hx
   clear hx hv hn
   have c0:=hs.cell (j:=0) rfl
   have c1:=hs.cell (j:=1) rfl
   have c2:=hs.cell (j:=2) rfl
   have c3:=hs.cell (j:=3) rfl
   have c4:=hs.cell (j:=4) rfl
   have c5:=hs.cell (j:=5) rfl
   have c6:=hs.cell (j:=6) rfl
   have c7:=hs.cell (j:=7) rfl
   have c8:=hs.cell (j:=8) rfl
   simp only[Nat.add_zero] at c0
   have hc':wr.cell? ⟨cb,0,none⟩=some (.int .i64 kd):=by rw[hbel.cell hcb];exact hc
   have hcb':cb<wr.heap.size:=Nat.lt_of_lt_of_le hcb hbel.size
   have hd':wr.cell? ⟨cc,0,none⟩=some (.string name):=by rw[hbel.cell hcc];exact hd
   have aiM:cc<wr.heap.size:=Nat.lt_of_lt_of_le hcc hbel.size
   clear hs
   go_wp2_with fail
   refine(yN _ _ _ _ _ _ _ _ _ _ _ _ _ _ _ _ _ _ hc' hcb' hd' aiM).mono ?_;rintro e w1 ⟨rfl,hb1⟩
   have hb2:=hbel.trans (hb1.mono hbel.size)
   clear c0 c1 c2 c3 c4 c5 c6 c7 c8 hb1 hc' hd'
   have HM:=hid (show qo kd name.toList x.it=((x.it.kind==kd)&&(x.it.name.text.toList==name.toList)) from rfl)
   cases hm:((x.it.kind==kd)&&(x.it.name.text.toList==name.toList)) with
   | false=>
    go_wp2_with fail
    go_roundg (gk-1)
    case rel=>exact⟨k+1,by omega,by go_num,hid (fun j y hj hy=>by
     rcases Nat.lt_or_ge j k with h | h
     ·exact HA.out j y h hy
     ·rw[show j=k from by omega,HX.out] at hy;simp at hy;subst hy;exact HM.out.trans hm),hb2⟩
    case measure=>omega
   | true=>
    go_wp2_with fail
    go_ret
    exact⟨k,rfl,jH.yes k x HX.out (HM.out.trans hm) HA.out,hb2⟩
  ·go_wp2_with fail
   go_ret
   exact⟨-1,rfl,jH.no (fun j y hy=>HA.out j y (by have:=lQ hy;omega) hy),hbel⟩
theorem su(w:World)(o1 o2 o3:Obj):Below w.heap.size w (((w.alloc o1).alloc o2).alloc o3):=by
 have h1:Below w.heap.size w (w.alloc o1):=(Below.refl _ _).alloc (Nat.le_refl _) _
 have h2:=h1.alloc h1.size o2
 exact h2.alloc h2.size o3
theorem qp(w:World)(o1 o2 o3:Obj):(((w.alloc o1).alloc o2).alloc o3).heap.size=w.heap.size+3:=by simp
theorem Fp(w:World)(o1 o2 o3:Obj):(((w.alloc o1).alloc o2).alloc o3).heap[w.heap.size+1+1]? = some o3:=by
 have:=heap_alloc_new ((w.alloc o1).alloc o2) o3
 simpa using this
theorem Fq(w:World)(o1 o2 o3:Obj):(((w.alloc o1).alloc o2).alloc o3).heap[w.heap.size+1]? = ((w.alloc o1).alloc o2).heap[w.heap.size+1]? :=
 ((Below.refl _ ((w.alloc o1).alloc o2)).alloc (Nat.le_refl _) o3).block _ (by simp)
theorem Rq(w:World)(o1 o2 o3:Obj):(((w.alloc o1).alloc o2).alloc o3).heap[w.heap.size]? = (w.alloc o1).heap[w.heap.size]? :=
 (((Below.refl _ ((w.alloc o1).alloc o2)).alloc (Nat.le_refl _) o3).block _ (by simp;omega)).trans (((Below.refl _ (w.alloc o1)).alloc (Nat.le_refl _) o2).block _ (by simp))
theorem abS{w:World}{b:Nat}{T:TypeId}{xs:List Value}(h:w.heap[b]? = some (.cells xs.toArray T (0,0))):Seg w b T 0 xs:=⟨xs.toArray,h,by simp⟩
theorem uP{w w0:World}{B b:Nat}(d0 d1 d2 d3 d4 d5 d6 d7 d8:Value)(h:Below B w w0)(hB:B≤b):Below B w (((((((((w0.setCell ⟨b,0,none⟩ d0).setCell ⟨b,1,none⟩ d1).setCell ⟨b,2,none⟩ d2).setCell ⟨b,3,none⟩ d3).setCell ⟨b,4,none⟩ d4).setCell ⟨b,5,none⟩ d5).setCell ⟨b,6,none⟩ d6).setCell ⟨b,7,none⟩ d7).setCell ⟨b,8,none⟩ d8) :=
 (((((((((h.setCell (p:=⟨b,0,none⟩) hB d0).setCell (p:=⟨b,1,none⟩) hB d1).setCell (p:=⟨b,2,none⟩) hB d2).setCell (p:=⟨b,3,none⟩) hB d3).setCell (p:=⟨b,4,none⟩) hB d4).setCell (p:=⟨b,5,none⟩) hB d5).setCell (p:=⟨b,6,none⟩) hB d6).setCell (p:=⟨b,7,none⟩) hB d7).setCell (p:=⟨b,8,none⟩) hB d8)
def xH(x:aO)(n:zn):Value:=.agg #[.int .i64 x.it.kind,.string x.it.name.text,.int .i64 x.it.name.at_,.slice n.fa x.it.fields.length n.fc,.slice n.na x.it.names.length n.nc,.string n.bb,.int .i64 n.ba,.string n.ab,.int .i64 n.aa]
def VK(X:List aO)(kd:Nat)(name:ByteArray)(w:World)(e:Ending)(w':World):Prop:=∃ z:Int,jH X kd name.toList z∧Below w.heap.size w w'∧((z = -1∧e=.returned (.tuple #[.agg #[.int .i64 0,.string ⟨#[]⟩,.int .i64 0,.slice none 0 0,.slice none 0 0,.string ⟨#[]⟩,.int .i64 0,.string ⟨#[]⟩,.int .i64 0],.bool false]))∨∃ (i:Nat) (x:aO) (n:zn),z=i∧X[i]? = some x∧x.it.base=[.string n.bb,.int .i64 n.ba]∧x.it.answer=[.string n.ab,.int .i64 n.aa]∧e=.returned (.tuple #[xH x n,.bool true]))
theorem Fv(w:World)(lo:Nat)(lv:Value)(X:List aO)(kd:Nat)(name:ByteArray)(h:dK w lo lv X)(hn:LV X)(hX:X.length≤400):
  Calls Tryz.prog 53 #[lv,.int .i64 kd,.string name] w (VK X kd name w):=by
 obtain⟨la,lc,hlv⟩:∃ a c,lv=.slice a X.length c:=ay h.own
 subst hlv
 have H:=hid h
 have HN:=hid hn
 clear h hn
 go_enter func53,ntmps53
 go_wp2_with fail
 have hb0:Below w.heap.size w (((w.alloc (.cells #[.int .i64 kd] 110)).alloc (.cells #[.string name] 9)).alloc (.cells #[.int .i64 0,.string ⟨#[]⟩,.int .i64 0,.slice none 0 0,.slice none 0 0,.string ⟨#[]⟩,.int .i64 0,.string ⟨#[]⟩,.int .i64 0] 116)):=su w _ _ _
 have k1:(((w.alloc (.cells #[.int .i64 kd] 110)).alloc (.cells #[.string name] 9)).alloc (.cells #[.int .i64 0,.string ⟨#[]⟩,.int .i64 0,.slice none 0 0,.slice none 0 0,.string ⟨#[]⟩,.int .i64 0,.string ⟨#[]⟩,.int .i64 0] 116)).cell? ⟨w.heap.size,0,none⟩=some (.int .i64 kd):=(show aK _ w.heap.size 110 [.int .i64 kd] from(Rq w _ _ _).trans (heap_alloc_new w _)).cell 0
 have k2:(((w.alloc (.cells #[.int .i64 kd] 110)).alloc (.cells #[.string name] 9)).alloc (.cells #[.int .i64 0,.string ⟨#[]⟩,.int .i64 0,.slice none 0 0,.slice none 0 0,.string ⟨#[]⟩,.int .i64 0,.string ⟨#[]⟩,.int .i64 0] 116)).cell? ⟨w.heap.size+1,0,none⟩=some (.string name):=(show aK _ (w.heap.size+1) 9 [.string name] from(Fq w _ _ _).trans (by have:=heap_alloc_new (w.alloc (.cells #[.int .i64 kd] 110)) (.cells #[.string name] 9);simpa using this)).cell 0
 have k3:w.heap.size<(((w.alloc (.cells #[.int .i64 kd] 110)).alloc (.cells #[.string name] 9)).alloc (.cells #[.int .i64 0,.string ⟨#[]⟩,.int .i64 0,.slice none 0 0,.slice none 0 0,.string ⟨#[]⟩,.int .i64 0,.string ⟨#[]⟩,.int .i64 0] 116)).heap.size:=by rw[qp];omega
 have k4:w.heap.size+1<(((w.alloc (.cells #[.int .i64 kd] 110)).alloc (.cells #[.string name] 9)).alloc (.cells #[.int .i64 0,.string ⟨#[]⟩,.int .i64 0,.slice none 0 0,.slice none 0 0,.string ⟨#[]⟩,.int .i64 0,.string ⟨#[]⟩,.int .i64 0] 116)).heap.size:=by rw[qp];omega
 refine(CU _ lo _ X name kd w.heap.size (w.heap.size+1) (H.out.below hb0) HN.out hX k1 k3 k2 k4).mono ?_;rintro e w1 ⟨z,rfl,hF,hb1'⟩
 clear k1 k2 k3 k4
 have hb1:=hb0.trans (hb1'.mono hb0.size)
 have hsg:Seg w1 (w.heap.size+1+1) 116 0 [.int .i64 0,.string ⟨#[]⟩,.int .i64 0,.slice none 0 0,.slice none 0 0,.string ⟨#[]⟩,.int .i64 0,.string ⟨#[]⟩,.int .i64 0]:=by
  refine abS ((hb1'.block _ (by rw[qp];omega)).trans (Fp w _ _ _))
 have hrb:w.heap.size≤w.heap.size+1+1:=by omega
 generalize w.heap.size+1+1=rb at *
 have r0:=hsg.cell (j:=0) rfl
 have r1:=hsg.cell (j:=1) rfl
 have r2:=hsg.cell (j:=2) rfl
 have r3:=hsg.cell (j:=3) rfl
 have r4:=hsg.cell (j:=4) rfl
 have r5:=hsg.cell (j:=5) rfl
 have r6:=hsg.cell (j:=6) rfl
 have r7:=hsg.cell (j:=7) rfl
 have r8:=hsg.cell (j:=8) rfl
 simp only[Nat.zero_add] at r0 r1 r2 r3 r4 r5 r6 r7 r8
 have q0:=hsg.frozen 0
 have q1:=hsg.frozen 1
 have q2:=hsg.frozen 2
 have q3:=hsg.frozen 3
 have q4:=hsg.frozen 4
 have q5:=hsg.frozen 5
 have q6:=hsg.frozen 6
 have q7:=hsg.frozen 7
 have q8:=hsg.frozen 8
 have Ld:=hid hsg
 have HF:=hid hF
 clear hsg hb1' hb0
 cases hF using jH.ind with
 | no hno=>
  clear hno
  go_wp2_with fail
  have hse:=ql (.int .i64 0) (.string ⟨#[]⟩) (.int .i64 0) (.slice none 0 0) (.slice none 0 0) (.string ⟨#[]⟩) (.int .i64 0) (.string ⟨#[]⟩) (.int .i64 0) Ld.out
  have z0:=hse.cell (j:=0) rfl
  have z1:=hse.cell (j:=1) rfl
  have z2:=hse.cell (j:=2) rfl
  have z3:=hse.cell (j:=3) rfl
  have z4:=hse.cell (j:=4) rfl
  have z5:=hse.cell (j:=5) rfl
  have z6:=hse.cell (j:=6) rfl
  have z7:=hse.cell (j:=7) rfl
  have z8:=hse.cell (j:=8) rfl
  simp only[Nat.zero_add] at z0 z1 z2 z3 z4 z5 z6 z7 z8
  refine bodyPost_ret (v:=.tuple #[.agg #[.int .i64 0,.string ⟨#[]⟩,.int .i64 0,.slice none 0 0,.slice none 0 0,.string ⟨#[]⟩,.int .i64 0,.string ⟨#[]⟩,.int .i64 0],.bool false]) (by simp[results,Tryz.results53,go_sem,z0,z1,z2,z3,z4,z5,z6,z7,z8]) rfl ⟨-1,HF.out,uP _ _ _ _ _ _ _ _ _ hb1 hrb,Or.inl ⟨rfl,rfl⟩⟩
 | yes k x hx hm hall=>
  have hlt:k<X.length:=lQ hx
  obtain⟨g,cap,hv,hgl,hgs⟩:=iJ H.out.own (by omega)
  obtain⟨rfl,rfl⟩:la=some ⟨g,0,none⟩∧lc=cap:=by simpa using hv
  obtain⟨n,hn⟩:=(H.out.below hb1).rG HN.out hx
  have hs:=hn.seg
  have HBA:=hid hn.base
  have HAN:=hid hn.answer
  have HX:=hid hx
  clear hx hv hn hm hall
  have c0:=hs.cell (j:=0) rfl
  have c1:=hs.cell (j:=1) rfl
  have c2:=hs.cell (j:=2) rfl
  have c3:=hs.cell (j:=3) rfl
  have c4:=hs.cell (j:=4) rfl
  have c5:=hs.cell (j:=5) rfl
  have c6:=hs.cell (j:=6) rfl
  have c7:=hs.cell (j:=7) rfl
  have c8:=hs.cell (j:=8) rfl
  simp only[Nat.add_zero] at c0
  clear hs
  have hk0:¬ (k:Int)<0:=by omega
  go_wp2_with fail
  have hse:=ql (.int .i64 x.it.kind) (.string x.it.name.text) (.int .i64 x.it.name.at_) (.slice n.fa x.it.fields.length n.fc) (.slice n.na x.it.names.length n.nc) (.string n.bb) (.int .i64 n.ba) (.string n.ab) (.int .i64 n.aa) Ld.out
  have z0:=hse.cell (j:=0) rfl
  have z1:=hse.cell (j:=1) rfl
  have z2:=hse.cell (j:=2) rfl
  have z3:=hse.cell (j:=3) rfl
  have z4:=hse.cell (j:=4) rfl
  have z5:=hse.cell (j:=5) rfl
  have z6:=hse.cell (j:=6) rfl
  have z7:=hse.cell (j:=7) rfl
  have z8:=hse.cell (j:=8) rfl
  simp only[Nat.zero_add] at z0 z1 z2 z3 z4 z5 z6 z7 z8
  refine bodyPost_ret (v:=.tuple #[xH x n,.bool true]) (by simp[results,Tryz.results53,go_sem,xH,z0,z1,z2,z3,z4,z5,z6,z7,z8]) rfl ⟨k,HF.out,uP _ _ _ _ _ _ _ _ _ hb1 hrb,Or.inr ⟨k,x,n,rfl,HX.out,HBA.out,HAN.out,rfl⟩⟩
theorem jH.uniq{X:List aO}{k:Nat}{name:List UInt8}{a b:Int}(h:jH X k name a)(h':jH X k name b):a=b:=by
 cases h using jH.ind with
 | no h1=>cases h' using jH.ind with
  | no _=>rfl
  | yes i x hx hm _=>have:=h1 i x hx;rw[hm] at this;cases this
 | yes i x hx hm hl=>cases h' using jH.ind with
  | no h1=>have:=h1 i x hx;rw[hm] at this;cases this
  | yes j y hy hn hk=>
   rcases Nat.lt_trichotomy i j with e | e | e
   ·have:=hk i x e hx;rw[hm] at this;cases this
   ·rw[e]
   ·have:=hl j y e hy;rw[hn] at this;cases this
end Go.Proofs.YtolfcabodiphmaaGreatDoor
