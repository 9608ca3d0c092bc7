/- Package schemas: Find, by slices.IndexFunc. -/
import Derived.Test.YtgalebcpagmohaaGreatDoorMPEncC
import Derived.Test.YtgalebcpagmohaaGreatDoorMDA
import Derived.Test.YtgalebcpagmohaaGreatDoorMDB
import Derived.Test.YtgalebcpagmohaaGreatDoorMEqParse
import Derived.Test.YtgalebcpagmohaaGreatDoorMCheck
set_option linter.unusedSimpArgs false
set_option linter.unusedVariables false
set_option maxHeartbeats 4000000
set_option maxRecDepth 100000
namespace Go.Proofs.YtgalebcpagmohaaGreatDoor
open Go.Proofs.Tryz
open Go.RowKit
def iw (k:Nat) (name:List UInt8) (p:iy):Bool:=(p.kind==k)&&(p.name.text.toList==name)
def eY (X:List bY) (k:Nat) (name:List UInt8) (z:Int):Prop := (z = -1 ∧ ∀ (j:Nat) (y:bY),X[j]? = some y→iw k name y.it=false) ∨ ∃ (i:Nat) (x:bY),z = i ∧ X[i]? = some x ∧ iw k name x.it=true ∧ ∀ (j:Nat) (y:bY),j<i→X[j]? = some y→iw k name y.it=false
theorem eY.no {X:List bY} {k:Nat} {name:List UInt8} (h:∀ (j:Nat) (y:bY),X[j]? = some y→iw k name y.it=false):eY X k name (-1) := Or.inl ⟨rfl,h⟩
theorem eY.yes {X:List bY} {k:Nat} {name:List UInt8} (i:Nat) (x:bY) (a:X[i]? = some x) (b:iw k name x.it=true) (c:∀ (j:Nat) (y:bY),j<i→X[j]? = some y→iw k name y.it=false):eY X k name i := Or.inr ⟨i,x,rfl,a,b,c⟩
theorem eY.ind {X:List bY} {k:Nat} {name:List UInt8} {motive:∀ z,eY X k name z → Prop} (no:∀ h,motive (-1) (.no h)) (yes:∀ (i:Nat) x a b c,motive i (.yes i x a b c)):∀ {z} (h:eY X k name z),motive z h
  | _,.inl ⟨rfl,h⟩ => no h
  | _,.inr ⟨i,x,rfl,a,b,c⟩ => yes i x a b c
theorem zQ (k kd:Nat) (nm name:ByteArray) (c2 c5 c6 c7 c8:Value) (fa na:Option Addr) (fl fc nl nc cb cc:Nat) (w:World) (hc:w.cell? ⟨cb,0,none⟩=some (.int .i64 kd)) (hcb:cb<w.heap.size) (hd:w.cell? ⟨cc,0,none⟩=some (.string name)) (hcc:cc<w.heap.size) :
  Calls Tryz.prog 178 #[.agg #[.int .i64 k,.string nm,c2,.slice fa fl fc,.slice na nl nc,c5,c6,c7,c8],.pointer (some ⟨cb,0,none⟩),.pointer (some ⟨cc,0,none⟩)] w fun e w'=>e=.returned (.bool ((k==kd)&&(nm.toList==name.toList)))∧Below w.heap.size w w':=by
 have hb0:Below w.heap.size w (w.alloc (.cells #[.int .i64 k,.string nm,c2,.slice fa fl fc,.slice na nl nc,c5,c6,c7,c8] 135)):=(Below.refl _ _).alloc (Nat.le_refl _) _
 have hB0:aU (w.alloc (.cells #[.int .i64 k,.string nm,c2,.slice fa fl fc,.slice na nl nc,c5,c6,c7,c8] 135)) w.heap.size 135 [.int .i64 k,.string nm,c2,.slice fa fl fc,.slice na nl nc,c5,c6,c7,c8]:=heap_alloc_new w _
 have e1:=(hb0.cell (p:=⟨cb,0,none⟩) hcb).trans hc
 have e2:=(hb0.cell (p:=⟨cc,0,none⟩) hcc).trans hd
 obtain⟨w0,hw0⟩:∃ w0,w.alloc (.cells #[.int .i64 k,.string nm,c2,.slice fa fl fc,.slice na nl nc,c5,c6,c7,c8] 135)=w0:=⟨_,rfl⟩
 rw[hw0] at hb0 hB0 e1 e2
 have p0:w0.cell? ⟨w.heap.size,0,none⟩=some (.int .i64 k):=hB0.cell 0
 have p1:w0.cell? ⟨w.heap.size,1,none⟩=some (.string nm):=hB0.cell 1
 have hi:((k:Int)==(kd:Int))=(k==kd):=by rw[Bool.eq_iff_iff];simp;omega
 have HI:=hid hi
 clear hi hB0 hc hd
 cases hk:((k:Int)==(kd:Int))
 all_goals
  have HK:=hid (HI.out.symm.trans hk)
  go_enter func178,ntmps178
  go_wp2_with fail
  go_ret
  exact⟨aG (by rw[HK.out];simp),hb0⟩
theorem ED (w:World) (lo:Nat) (lv:Value) (X:List bY) (name:ByteArray) (kd cb cc:Nat) (h:fQ w lo lv X) (hn:Oh X) (hX:X.length≤400) (hc:w.cell? ⟨cb,0,none⟩=some (.int .i64 kd)) (hcb:cb<w.heap.size) (hd:w.cell? ⟨cc,0,none⟩=some (.string name)) (hcc:cc<w.heap.size) :
  Calls Tryz.prog 177 #[lv,.func (Fn.func 178) #[] #[.pointer (some ⟨cb,0,none⟩),.pointer (some ⟨cc,0,none⟩)]] w fun e w'=>∃ z:Int,e=.returned (.int .i64 z)∧eY X kd name.toList z∧Below w.heap.size w w':=by
 obtain⟨la,lc,hlv⟩:∃ a c,lv=.slice a X.length c:=ak h.own
 subst hlv
 have H:=hid h
 have HN:=hid hn
 clear h hn
 go_enter func177,ntmps177
 go_wp2_with fail
 go_loopg [5,8] X.length (fun gk t i wr=>∃ k:Nat,k+gk=X.length∧i=.int .i64 k∧Hid (∀ j y,j<k→X[j]? = some y→iw kd name.toList y.it=false)∧Below w.heap.size w wr)
 case atStart=>exact⟨0,by omega,rfl,hid (fun j y hj=>by omega),Below.refl _ _⟩
 case round=>
  obtain⟨k,hk,rfl,HA,hbel⟩:=hrel
  by_cases hlt:k<X.length
  ·obtain⟨x,hx⟩:∃ x,X[k]? = some x:=⟨X[k],List.getElem?_eq_getElem hlt⟩
   obtain⟨g,cap,hv,hgl,hgs⟩:=dM H.out.own (by omega)
   obtain⟨rfl,rfl⟩:la=some ⟨g,0,none⟩∧lc=cap:=by simpa using hv
   obtain⟨n,hn⟩:=(H.out.below hbel).uM HN.out hx
   have hs:=hn.seg
   have HX:=hid hx
   clear hx hv hn
   have c0:=hs.cell (j:=0) rfl
   have c1:=hs.cell (j:=1) rfl
   have c2:=hs.cell (j:=2) rfl
   have c3:=hs.cell (j:=3) rfl
   have c4:=hs.cell (j:=4) rfl
   have c5:=hs.cell (j:=5) rfl
   have c6:=hs.cell (j:=6) rfl
   have c7:=hs.cell (j:=7) rfl
   have c8:=hs.cell (j:=8) rfl
   simp only[Nat.add_zero] at c0
   have hc':wr.cell? ⟨cb,0,none⟩=some (.int .i64 kd):=by rw[hbel.cell hcb];exact hc
   have hcb':cb<wr.heap.size:=Nat.lt_of_lt_of_le hcb hbel.size
   have hd':wr.cell? ⟨cc,0,none⟩=some (.string name):=by rw[hbel.cell hcc];exact hd
   have agn:cc<wr.heap.size:=Nat.lt_of_lt_of_le hcc hbel.size
   clear hs
   go_wp2_with fail
   refine(zQ _ _ _ _ _ _ _ _ _ _ _ _ _ _ _ _ _ _ hc' hcb' hd' agn).mono ?_;rintro e w1 ⟨rfl,hb1⟩
   have hb2:=hbel.trans (hb1.mono hbel.size)
   clear c0 c1 c2 c3 c4 c5 c6 c7 c8 hb1 hc' hd'
   have HM:=hid (show iw kd name.toList x.it=((x.it.kind==kd)&&(x.it.name.text.toList==name.toList)) from rfl)
   cases hm:((x.it.kind==kd)&&(x.it.name.text.toList==name.toList)) with
   | false=>
    go_wp2_with fail
    go_roundg (gk-1)
    case rel=>exact⟨k+1,by omega,by go_num,hid (fun j y hj hy=>by
     rcases Nat.lt_or_ge j k with h | h
     ·exact HA.out j y h hy
     ·rw[show j=k from by omega,HX.out] at hy;simp at hy;subst hy;exact HM.out.trans hm),hb2⟩
    case measure=>omega
   | true=>
    go_wp2_with fail
    go_ret
    exact⟨k,rfl,eY.yes k x HX.out (HM.out.trans hm) HA.out,hb2⟩
  ·go_wp2_with fail
   go_ret
   exact⟨-1,rfl,eY.no (fun j y hy=>HA.out j y (by have:=iR hy;omega) hy),hbel⟩
theorem vH (w:World) (o1 o2 o3:Obj):Below w.heap.size w (((w.alloc o1).alloc o2).alloc o3):=by
 have h1:Below w.heap.size w (w.alloc o1):=(Below.refl _ _).alloc (Nat.le_refl _) _
 have h2:=h1.alloc h1.size o2
 exact h2.alloc h2.size o3
theorem tJ (w:World) (o1 o2 o3:Obj):(((w.alloc o1).alloc o2).alloc o3).heap.size=w.heap.size+3:=by simp
theorem G5 (w:World) (o1 o2 o3:Obj):(((w.alloc o1).alloc o2).alloc o3).heap[w.heap.size+1+1]? = some o3:=by
 have:=heap_alloc_new ((w.alloc o1).alloc o2) o3
 simpa using this
theorem G6 (w:World) (o1 o2 o3:Obj):(((w.alloc o1).alloc o2).alloc o3).heap[w.heap.size+1]? = ((w.alloc o1).alloc o2).heap[w.heap.size+1]? :=
 ((Below.refl _ ((w.alloc o1).alloc o2)).alloc (Nat.le_refl _) o3).block _ (by simp)
theorem TA (w:World) (o1 o2 o3:Obj):(((w.alloc o1).alloc o2).alloc o3).heap[w.heap.size]? = (w.alloc o1).heap[w.heap.size]? :=
 (((Below.refl _ ((w.alloc o1).alloc o2)).alloc (Nat.le_refl _) o3).block _ (by simp;omega)).trans (((Below.refl _ (w.alloc o1)).alloc (Nat.le_refl _) o2).block _ (by simp))
theorem aaW {w:World} {b:Nat} {T:TypeId} {xs:List Value} (h:w.heap[b]? = some (.cells xs.toArray T (0,0))):Seg w b T 0 xs:=⟨xs.toArray,h,by simp⟩
theorem wV {w w0:World} {B b:Nat} (d0 d1 d2 d3 d4 d5 d6 d7 d8:Value) (h:Below B w w0) (hB:B≤b):Below B w (((((((((w0.setCell ⟨b,0,none⟩ d0).setCell ⟨b,1,none⟩ d1).setCell ⟨b,2,none⟩ d2).setCell ⟨b,3,none⟩ d3).setCell ⟨b,4,none⟩ d4).setCell ⟨b,5,none⟩ d5).setCell ⟨b,6,none⟩ d6).setCell ⟨b,7,none⟩ d7).setCell ⟨b,8,none⟩ d8) :=
 (((((((((h.setCell (p:=⟨b,0,none⟩) hB d0).setCell (p:=⟨b,1,none⟩) hB d1).setCell (p:=⟨b,2,none⟩) hB d2).setCell (p:=⟨b,3,none⟩) hB d3).setCell (p:=⟨b,4,none⟩) hB d4).setCell (p:=⟨b,5,none⟩) hB d5).setCell (p:=⟨b,6,none⟩) hB d6).setCell (p:=⟨b,7,none⟩) hB d7).setCell (p:=⟨b,8,none⟩) hB d8)
def y9 (x:bY) (n:Ap):Value:=.agg #[.int .i64 x.it.kind,.string x.it.name.text,.int .i64 x.it.name.at_,.slice n.fa x.it.fields.length n.fc,.slice n.na x.it.names.length n.nc,.string n.bb,.int .i64 n.ba,.string n.ab,.int .i64 n.aa]
def WO (X:List bY) (kd:Nat) (name:ByteArray) (w:World) (e:Ending) (w':World):Prop:=∃ z:Int,eY X kd name.toList z∧Below w.heap.size w w'∧((z = -1∧e=.returned (.tuple #[.agg #[.int .i64 0,.string ⟨#[]⟩,.int .i64 0,.slice none 0 0,.slice none 0 0,.string ⟨#[]⟩,.int .i64 0,.string ⟨#[]⟩,.int .i64 0],.bool false]))∨∃ (i:Nat) (x:bY) (n:Ap),z=i∧X[i]? = some x∧x.it.base=[.string n.bb,.int .i64 n.ba]∧x.it.answer=[.string n.ab,.int .i64 n.aa]∧e=.returned (.tuple #[y9 x n,.bool true]))
theorem G7 (w:World) (lo:Nat) (lv:Value) (X:List bY) (kd:Nat) (name:ByteArray) (h:fQ w lo lv X) (hn:Oh X) (hX:X.length≤400) :
  Calls Tryz.prog 119 #[lv,.int .i64 kd,.string name] w (WO X kd name w):=by
 obtain⟨la,lc,hlv⟩:∃ a c,lv=.slice a X.length c:=ak h.own
 subst hlv
 have H:=hid h
 have HN:=hid hn
 clear h hn
 go_enter func119,ntmps119
 go_wp2_with fail
 have hb0:Below w.heap.size w (((w.alloc (.cells #[.int .i64 kd] 129)).alloc (.cells #[.string name] 9)).alloc (.cells #[.int .i64 0,.string ⟨#[]⟩,.int .i64 0,.slice none 0 0,.slice none 0 0,.string ⟨#[]⟩,.int .i64 0,.string ⟨#[]⟩,.int .i64 0] 135)):=vH w _ _ _
 have k1:(((w.alloc (.cells #[.int .i64 kd] 129)).alloc (.cells #[.string name] 9)).alloc (.cells #[.int .i64 0,.string ⟨#[]⟩,.int .i64 0,.slice none 0 0,.slice none 0 0,.string ⟨#[]⟩,.int .i64 0,.string ⟨#[]⟩,.int .i64 0] 135)).cell? ⟨w.heap.size,0,none⟩=some (.int .i64 kd):=(show aU _ w.heap.size 129 [.int .i64 kd] from(TA w _ _ _).trans (heap_alloc_new w _)).cell 0
 have k2:(((w.alloc (.cells #[.int .i64 kd] 129)).alloc (.cells #[.string name] 9)).alloc (.cells #[.int .i64 0,.string ⟨#[]⟩,.int .i64 0,.slice none 0 0,.slice none 0 0,.string ⟨#[]⟩,.int .i64 0,.string ⟨#[]⟩,.int .i64 0] 135)).cell? ⟨w.heap.size+1,0,none⟩=some (.string name):=(show aU _ (w.heap.size+1) 9 [.string name] from(G6 w _ _ _).trans (by have:=heap_alloc_new (w.alloc (.cells #[.int .i64 kd] 129)) (.cells #[.string name] 9);simpa using this)).cell 0
 have k3:w.heap.size<(((w.alloc (.cells #[.int .i64 kd] 129)).alloc (.cells #[.string name] 9)).alloc (.cells #[.int .i64 0,.string ⟨#[]⟩,.int .i64 0,.slice none 0 0,.slice none 0 0,.string ⟨#[]⟩,.int .i64 0,.string ⟨#[]⟩,.int .i64 0] 135)).heap.size:=by rw[tJ];omega
 have k4:w.heap.size+1<(((w.alloc (.cells #[.int .i64 kd] 129)).alloc (.cells #[.string name] 9)).alloc (.cells #[.int .i64 0,.string ⟨#[]⟩,.int .i64 0,.slice none 0 0,.slice none 0 0,.string ⟨#[]⟩,.int .i64 0,.string ⟨#[]⟩,.int .i64 0] 135)).heap.size:=by rw[tJ];omega
 refine(ED _ lo _ X name kd w.heap.size (w.heap.size+1) (H.out.below hb0) HN.out hX k1 k3 k2 k4).mono ?_;rintro e w1 ⟨z,rfl,hF,hb1'⟩
 clear k1 k2 k3 k4
 have hb1:=hb0.trans (hb1'.mono hb0.size)
 have hsg:Seg w1 (w.heap.size+1+1) 135 0 [.int .i64 0,.string ⟨#[]⟩,.int .i64 0,.slice none 0 0,.slice none 0 0,.string ⟨#[]⟩,.int .i64 0,.string ⟨#[]⟩,.int .i64 0]:=by
  refine aaW ((hb1'.block _ (by rw[tJ];omega)).trans (G5 w _ _ _))
 have hrb:w.heap.size≤w.heap.size+1+1:=by omega
 generalize w.heap.size+1+1=rb at *
 have r0:=hsg.cell (j:=0) rfl
 have r1:=hsg.cell (j:=1) rfl
 have r2:=hsg.cell (j:=2) rfl
 have r3:=hsg.cell (j:=3) rfl
 have r4:=hsg.cell (j:=4) rfl
 have r5:=hsg.cell (j:=5) rfl
 have r6:=hsg.cell (j:=6) rfl
 have r7:=hsg.cell (j:=7) rfl
 have r8:=hsg.cell (j:=8) rfl
 simp only[Nat.zero_add] at r0 r1 r2 r3 r4 r5 r6 r7 r8
 have q0:=hsg.frozen 0
 have q1:=hsg.frozen 1
 have q2:=hsg.frozen 2
 have q3:=hsg.frozen 3
 have q4:=hsg.frozen 4
 have q5:=hsg.frozen 5
 have q6:=hsg.frozen 6
 have q7:=hsg.frozen 7
 have q8:=hsg.frozen 8
 have Ue:=hid hsg
 have HF:=hid hF
 clear hsg hb1' hb0
 cases hF using eY.ind with
 | no hno=>
  clear hno
  go_wp2_with fail
  have hse:=tH (.int .i64 0) (.string ⟨#[]⟩) (.int .i64 0) (.slice none 0 0) (.slice none 0 0) (.string ⟨#[]⟩) (.int .i64 0) (.string ⟨#[]⟩) (.int .i64 0) Ue.out
  have z0:=hse.cell (j:=0) rfl
  have z1:=hse.cell (j:=1) rfl
  have z2:=hse.cell (j:=2) rfl
  have z3:=hse.cell (j:=3) rfl
  have z4:=hse.cell (j:=4) rfl
  have z5:=hse.cell (j:=5) rfl
  have z6:=hse.cell (j:=6) rfl
  have z7:=hse.cell (j:=7) rfl
  have z8:=hse.cell (j:=8) rfl
  simp only[Nat.zero_add] at z0 z1 z2 z3 z4 z5 z6 z7 z8
  refine bodyPost_ret (v:=.tuple #[.agg #[.int .i64 0,.string ⟨#[]⟩,.int .i64 0,.slice none 0 0,.slice none 0 0,.string ⟨#[]⟩,.int .i64 0,.string ⟨#[]⟩,.int .i64 0],.bool false]) (by simp[results,Tryz.results119,go_sem,z0,z1,z2,z3,z4,z5,z6,z7,z8]) rfl ⟨-1,HF.out,wV _ _ _ _ _ _ _ _ _ hb1 hrb,Or.inl ⟨rfl,rfl⟩⟩
 | yes k x hx hm hall=>
  have hlt:k<X.length:=iR hx
  obtain⟨g,cap,hv,hgl,hgs⟩:=dM H.out.own (by omega)
  obtain⟨rfl,rfl⟩:la=some ⟨g,0,none⟩∧lc=cap:=by simpa using hv
  obtain⟨n,hn⟩:=(H.out.below hb1).uM HN.out hx
  have hs:=hn.seg
  have HBA:=hid hn.base
  have HAN:=hid hn.answer
  have HX:=hid hx
  clear hx hv hn hm hall
  have c0:=hs.cell (j:=0) rfl
  have c1:=hs.cell (j:=1) rfl
  have c2:=hs.cell (j:=2) rfl
  have c3:=hs.cell (j:=3) rfl
  have c4:=hs.cell (j:=4) rfl
  have c5:=hs.cell (j:=5) rfl
  have c6:=hs.cell (j:=6) rfl
  have c7:=hs.cell (j:=7) rfl
  have c8:=hs.cell (j:=8) rfl
  simp only[Nat.add_zero] at c0
  clear hs
  have hk0:¬ (k:Int)<0:=by omega
  go_wp2_with fail
  have hse:=tH (.int .i64 x.it.kind) (.string x.it.name.text) (.int .i64 x.it.name.at_) (.slice n.fa x.it.fields.length n.fc) (.slice n.na x.it.names.length n.nc) (.string n.bb) (.int .i64 n.ba) (.string n.ab) (.int .i64 n.aa) Ue.out
  have z0:=hse.cell (j:=0) rfl
  have z1:=hse.cell (j:=1) rfl
  have z2:=hse.cell (j:=2) rfl
  have z3:=hse.cell (j:=3) rfl
  have z4:=hse.cell (j:=4) rfl
  have z5:=hse.cell (j:=5) rfl
  have z6:=hse.cell (j:=6) rfl
  have z7:=hse.cell (j:=7) rfl
  have z8:=hse.cell (j:=8) rfl
  simp only[Nat.zero_add] at z0 z1 z2 z3 z4 z5 z6 z7 z8
  refine bodyPost_ret (v:=.tuple #[y9 x n,.bool true]) (by simp[results,Tryz.results119,go_sem,y9,z0,z1,z2,z3,z4,z5,z6,z7,z8]) rfl ⟨k,HF.out,wV _ _ _ _ _ _ _ _ _ hb1 hrb,Or.inr ⟨k,x,n,rfl,HX.out,HBA.out,HAN.out,rfl⟩⟩
open Go.Conc
theorem iD.nil (w:World) (lo:Nat):iD w lo (.slice none 0 0) []:=⟨World.ownsRow_nil _ _ _ _,fun t ht=>by simp at ht,by simp,fun t ht=>by simp at ht,fun i j x y hx=>by simp at hx⟩
theorem iD.push {w w':World} {lo:Nat} {v v':Value} {Ts:List dU} {t:dU} (h:iD w lo v Ts) (hsame:∀ k,k<w.heap.size→v.ownBlock≠some k→w'.heap[k]? = w.heap[k]?) (hk:t.kept=.slice none 0 0) (hkv:t.kv=[]) (hnew:w.heap.size≤t.blk) (hB:aU w' t.blk 138 (uD t)) (hrow:rJ w' lo 136 v' ((Ts++[t]).map (fun t=>t.blk))):iD w' lo v' (Ts++[t]):=by
 refine⟨hrow,fun x hx=>?_,?_,fun x hx=>?_,fun i j x y hi hj hij g hg=>?_⟩
 ·rcases List.mem_append.1 hx with hx | hx
  ·have hb:=h.each x hx
   exact(hsame x.blk hb.lt (hb.mQ h.row ab5)).trans hb
  ·simp at hx;subst hx;exact hB
 ·rw[List.map_append,List.nodup_append]
  refine⟨h.nodup,by simp,fun a ha b hb=>?_⟩
  simp at hb;subst hb
  obtain⟨x,hx,rfl⟩:=List.mem_map.1 ha
  have:=(h.each x hx).lt
  omega
 ·rcases List.mem_append.1 hx with hx | hx
  ·have hkk:=h.kept x hx
   exact⟨au hkk.1 (fun g hg=>hsame g (hkk.1.lt g hg).2 (fun e=>own_ne h.row hkk.1 ab6 e hg rfl)),hkk.2⟩
  ·simp at hx;subst hx
   rw[hk,hkv]
   exact⟨World.ownsRow_nil _ _ _ _,by simp,by simp⟩
 ·have hold:∀ {i:Nat} {x:dU},(Ts++[t])[i]? = some x→Ts[i]? = some x∨(i=Ts.length∧x=t):=fun {i x} hi=>by
   rcases Nat.lt_or_ge i Ts.length with h' | h'
   ·rw[List.getElem?_append_left h'] at hi;exact Or.inl hi
   ·rw[List.getElem?_append_right h'] at hi
    have:=iR hi
    simp at this
    have e:i=Ts.length:=by omega
    subst e
    simp at hi
    exact Or.inr ⟨rfl,hi.symm⟩
  rcases hold hi with hi | ⟨rfl,rfl⟩
  ·rcases hold hj with hj | ⟨rfl,rfl⟩
   ·exact h.apart i j x y hi hj hij g hg
   ·rw[hk];simp[Value.ownBlock]
  ·rw[hk] at hg;simp[Value.ownBlock] at hg
structure iM (lo:Nat) (X:List bY) (Ts:List dU):Prop where
 low:∀ t∈Ts,lo≤t.blk
 map:Ts.map (fun t=>(t.name,t.base))=(X.filter (fun x=>x.it.kind==2)).map (fun x=>(x.it.name.text,cellText x.it.base))
 fresh:∀ t∈Ts,t.count=0∧t.kv=[]∧t.fin=false
theorem iM.lower {lo lo':Nat} {X:List bY} {Ts:List dU} (h:iM lo X Ts) (hl:lo'≤lo):iM lo' X Ts:=⟨fun t ht=>Nat.le_trans hl (h.low t ht),h.map,h.fresh⟩
theorem iM.skip {lo:Nat} {X:List bY} {Ts:List dU} {x:bY} (h:iM lo X Ts) (hx:(x.it.kind==2)=false):iM lo (X++[x]) Ts:=⟨h.low,by rw[List.filter_append,List.filter_cons_of_neg (by simp[hx])];simpa using h.map,h.fresh⟩
theorem iM.add {lo:Nat} {X:List bY} {Ts:List dU} {x:bY} {t:dU} (h:iM lo X Ts) (hlo:lo≤t.blk) (hx:(x.it.kind==2)=true) (hn:t.name=x.it.name.text) (hb:t.base=cellText x.it.base) (hf:t.count=0∧t.kv=[]∧t.fin=false):iM lo (X++[x]) (Ts++[t]) :=
 ⟨fun y hy=>by
  rcases List.mem_append.1 hy with hy | hy
  ·exact h.low y hy
  ·simp at hy;subst hy;exact hlo,by rw[List.filter_append,List.filter_cons_of_pos (by simpa using hx),List.map_append,List.map_append,h.map];simp[hn,hb],fun y hy=>by
  rcases List.mem_append.1 hy with hy | hy
  ·exact h.fresh y hy
  ·simp at hy;subst hy;exact hf⟩
theorem iM.len {lo:Nat} {X:List bY} {Ts:List dU} (h:iM lo X Ts):Ts.length≤X.length:=by
 have:=congrArg List.length h.map
 rw[List.length_map,List.length_map] at this
 rw[this]
 exact List.length_filter_le _ _
theorem Tryz.infoTopP:(Tryz.prog.info? 136).map (fun i=>(i.zero,i.size,i.bytes))=some (some (.pointer none),1,8):=by kernel_rfl
theorem tK (w:World) (lo:Nat) (la:Option Addr) (ll lc:Nat) (X:List bY) (h:fQ w lo (.slice la ll lc) X) (hn:Oh X) (hX:X.length≤400) :
  Calls Tryz.prog 19 #[.slice la ll lc] w (fun e w'=>∃ (a:Option Addr) (n c:Nat) (Ts:List dU),e=.returned (.slice a n c)∧iD w' w.heap.size (.slice a n c) Ts∧iM w.heap.size X Ts∧Below w.heap.size w w'):=by
 have hll:ll=X.length:=by
  obtain⟨a,c,e⟩:=ak h.own
  simpa using congrArg (fun v=>match v with | Value.slice _ n _=>n | _=>0) e
 subst hll
 have H:=hid h
 have HN:=hid hn
 clear h hn
 go_enter func19,ntmps19
 go_wp2_with fail
 go_loopg [3,5,8] X.length (fun gk tv t i wr=>∃ (k:Nat) (Ts:List dU),k+gk=X.length∧i=.int .i64 k∧Hid (iD wr w.heap.size tv Ts)∧Hid (iM w.heap.size (X.take k) Ts)∧Below w.heap.size w wr)
 case atStart=>exact⟨0,[],by omega,rfl,hid (iD.nil _ _),hid ⟨fun t ht=>by simp at ht,by simp,fun t ht=>by simp at ht⟩,Below.refl _ _⟩
 case round=>
  obtain⟨k,Ts,hk,rfl,HT,HR,hbel⟩:=hrel
  obtain⟨ta,tc,rfl⟩:=HT.out.row.slice
  by_cases hlt:k<X.length
  ·obtain⟨x,hx⟩:∃ x,X[k]? = some x:=⟨X[k],List.getElem?_eq_getElem hlt⟩
   have Iw:=hid (show X.take (k+1)=X.take k++[x] by rw[List.take_add_one,hx];rfl)
   obtain⟨g,cap,hv,hgl,hgs⟩:=dM H.out.own (by omega)
   obtain⟨rfl,rfl⟩:la=some ⟨g,0,none⟩∧lc=cap:=by simpa using hv
   obtain⟨n,hn⟩:=(H.out.below hbel).uM HN.out hx
   have hs:=hn.seg
   have HBA:=hid hn.base
   clear hx hv hn
   have c0:=hs.cell (j:=0) rfl
   have c1:=hs.cell (j:=1) rfl
   have c2:=hs.cell (j:=2) rfl
   have c3:=hs.cell (j:=3) rfl
   have c4:=hs.cell (j:=4) rfl
   have c5:=hs.cell (j:=5) rfl
   have c6:=hs.cell (j:=6) rfl
   have c7:=hs.cell (j:=7) rfl
   have c8:=hs.cell (j:=8) rfl
   simp only[Nat.add_zero] at c0
   have oM:(k:Int)<(X.length:Int):=by omega
   have hki:((x.it.kind:Int)==2)=(x.it.kind==2):=by rw[Bool.eq_iff_iff];simp;omega
   have HKI:=hid hki
   clear hs hki
   cases hkd:((x.it.kind:Int)==2)
   ·have HKD:=hid (HKI.out.symm.trans hkd)
    go_wp2_with fail
    go_roundg (gk-1)
    case rel=>
     have hb1:Below wr.heap.size wr (wr.alloc (.cells #[.int .i64 x.it.kind,.string x.it.name.text,.int .i64 x.it.name.at_,.slice n.fa x.it.fields.length n.fc,.slice n.na x.it.names.length n.nc,.string n.bb,.int .i64 n.ba,.string n.ab,.int .i64 n.aa] 135)):=(Below.refl _ _).alloc (Nat.le_refl _) _
     exact⟨k+1,Ts,by omega,by go_num,hid (HT.out.below hb1),hid (by rw[Iw.out];exact HR.out.skip HKD.out),hbel.trans (hb1.mono hbel.size)⟩
    case measure=>omega
   ·have HKD:=hid (HKI.out.symm.trans hkd)
    have hTl:Ts.length≤400:=by have:=HR.out.len;have:=List.length_take_le k X;omega
    have hb3:Below wr.heap.size wr (((wr.alloc (.cells #[.int .i64 x.it.kind,.string x.it.name.text,.int .i64 x.it.name.at_,.slice n.fa x.it.fields.length n.fc,.slice n.na x.it.names.length n.nc,.string n.bb,.int .i64 n.ba,.string n.ab,.int .i64 n.aa] 135)).alloc (.cells #[.string x.it.name.text,.string n.bb,.int .u64 0,.slice none 0 0,.bool false] 138)).alloc (.cells #[.pointer (some ⟨wr.heap.size+1,0,none⟩)] 136)):=vH wr _ _ _
    have ho3:World.ownsRow (((wr.alloc (.cells #[.int .i64 x.it.kind,.string x.it.name.text,.int .i64 x.it.name.at_,.slice n.fa x.it.fields.length n.fc,.slice n.na x.it.names.length n.nc,.string n.bb,.int .i64 n.ba,.string n.ab,.int .i64 n.aa] 135)).alloc (.cells #[.string x.it.name.text,.string n.bb,.int .u64 0,.slice none 0 0,.bool false] 138)).alloc (.cells #[.pointer (some ⟨wr.heap.size+1,0,none⟩)] 136)) w.heap.size 136 1 (.slice ta (Ts.map (fun t=>t.blk)).length tc) (Ts.map (fun t=>t.blk)).length ((Ts.map (fun t=>t.blk)).map jr):=au HT.out.row (fun g hg=>hb3.block g (HT.out.row.lt g hg).2)
    have hB3:aU (((wr.alloc (.cells #[.int .i64 x.it.kind,.string x.it.name.text,.int .i64 x.it.name.at_,.slice n.fa x.it.fields.length n.fc,.slice n.na x.it.names.length n.nc,.string n.bb,.int .i64 n.ba,.string n.ab,.int .i64 n.aa] 135)).alloc (.cells #[.string x.it.name.text,.string n.bb,.int .u64 0,.slice none 0 0,.bool false] 138)).alloc (.cells #[.pointer (some ⟨wr.heap.size+1,0,none⟩)] 136)) (wr.heap.size+1) 138 [.string x.it.name.text,.string n.bb,.int .u64 0,.slice none 0 0,.bool false]:=(G6 wr _ _ _).trans (by have:=heap_alloc_new (wr.alloc (.cells #[.int .i64 x.it.kind,.string x.it.name.text,.int .i64 x.it.name.at_,.slice n.fa x.it.fields.length n.fc,.slice n.na x.it.names.length n.nc,.string n.bb,.int .i64 n.ba,.string n.ab,.int .i64 n.aa] 135)) (.cells #[.string x.it.name.text,.string n.bb,.int .u64 0,.slice none 0 0,.bool false] 138);simpa using this)
    have hN3:aU (((wr.alloc (.cells #[.int .i64 x.it.kind,.string x.it.name.text,.int .i64 x.it.name.at_,.slice n.fa x.it.fields.length n.fc,.slice n.na x.it.names.length n.nc,.string n.bb,.int .i64 n.ba,.string n.ab,.int .i64 n.aa] 135)).alloc (.cells #[.string x.it.name.text,.string n.bb,.int .u64 0,.slice none 0 0,.bool false] 138)).alloc (.cells #[.pointer (some ⟨wr.heap.size+1,0,none⟩)] 136)) (wr.heap.size+1+1) 136 [.pointer (some ⟨wr.heap.size+1,0,none⟩)]:=G5 wr _ _ _
    have hz3:=tJ wr (.cells #[.int .i64 x.it.kind,.string x.it.name.text,.int .i64 x.it.name.at_,.slice n.fa x.it.fields.length n.fc,.slice n.na x.it.names.length n.nc,.string n.bb,.int .i64 n.ba,.string n.ab,.int .i64 n.aa] 135) (.cells #[.string x.it.name.text,.string n.bb,.int .u64 0,.slice none 0 0,.bool false] 138) (.cells #[.pointer (some ⟨wr.heap.size+1,0,none⟩)] 136)
    have hzw:=hbel.size
    obtain⟨N,Fp⟩:∃ N,Hid (Ts.length+1=N):=⟨_,hid rfl⟩
    obtain⟨Y,HY⟩:∃ Y,Hid ((Ts.map (fun t=>t.blk)).map jr++[.pointer (some ⟨wr.heap.size+1,0,none⟩)]=Y):=⟨_,hid rfl⟩
    have NT:=hid ho3
    have HB3:=hid hB3
    have nK:=hid hN3
    have HZ3:=hid hz3
    have hlm:(Ts.map (fun t=>t.blk)).length=Ts.length:=List.length_map ..
    have HLM:=hid hlm
    clear ho3 hB3 hN3 hz3 hb3 hlm
    go_wp2_with (at_builtin;refine fB _ rfl (.tmp 15) (.tmp 24) 68 136 (.pointer none) 1 8 rfl underlying68 Tryz.infoTopP rfl (by decide) (.slice ta (Ts.map (fun t=>t.blk)).length tc) Ts.length ((Ts.map (fun t=>t.blk)).map jr) w.heap.size (by simp[Act.eval]) (by have:=NT.out;rw[HLM.out] at this ⊢;exact this) ⟨wr.heap.size+1+1,0,none⟩ 1 1 [.pointer (some ⟨wr.heap.size+1,0,none⟩)] rfl rfl (fun j u hu=>by
     rw[jO _ _ rfl]
     have:=nK.out.cell (0+j)
     rw[this]
     simpa using hu) (fun u hu=>by simp at hu;subst hu;rfl) N Fp.out Y HY.out (by unfold maxLen;omega) (by omega) (by have:=HZ3.out;omega) ?_)
    intro a1 c1 w1 hown1 hg1
    have KL:=hid hown1
    have ET:=hid hg1
    have hb3:Below wr.heap.size wr (((wr.alloc (.cells #[.int .i64 x.it.kind,.string x.it.name.text,.int .i64 x.it.name.at_,.slice n.fa x.it.fields.length n.fc,.slice n.na x.it.names.length n.nc,.string n.bb,.int .i64 n.ba,.string n.ab,.int .i64 n.aa] 135)).alloc (.cells #[.string x.it.name.text,.string n.bb,.int .u64 0,.slice none 0 0,.bool false] 138)).alloc (.cells #[.pointer (some ⟨wr.heap.size+1,0,none⟩)] 136)):=vH wr _ _ _
    have kX:Below w.heap.size w w1:=hbel.trans ((hb3.mono hzw).trans (Grew.below hg1 (fun k hk=>(HT.out.row.lt k (by simpa using hk)).1) (by have:=HZ3.out;omega)))
    have qo:=hid (show iD w1 w.heap.size (.slice a1 N c1) (Ts++[⟨wr.heap.size+1,x.it.name.text,n.bb,0,.slice none 0 0,[],false⟩]) from by
     refine HT.out.push (fun k hk hne=>?_) rfl rfl (by show wr.heap.size≤wr.heap.size+1;omega) ?_ ?_
     ·exact(ET.out.g.block k (by have:=HZ3.out;omega) (fun e=>hne (by simpa using e.symm))).trans (hb3.block k hk)
     ·exact(ET.out.g.block (wr.heap.size+1) (by have:=HZ3.out;omega) (fun e=>by
       have:=(HT.out.row.lt (wr.heap.size+1) (by simpa using e.symm)).2
       omega)).trans HB3.out
     ·show World.ownsRow _ _ _ _ _ _ _
      have:=KL.out
      rw[← HY.out,← Fp.out] at this
      rw[← Fp.out]
      simpa[jr] using this)
    clear hown1 hg1
    go_wp2_with fail
    go_roundg (gk-1)
    case rel=>
     exact⟨k+1,_,by omega,by go_num,qo,hid (by
      rw[Iw.out]
      exact HR.out.add (by show w.heap.size≤wr.heap.size+1;omega) HKD.out rfl (by rw[HBA.out];rfl) ⟨rfl,rfl,rfl⟩),kX⟩
    case measure=>omega
  ·have oM:¬ (k:Int)<(X.length:Int):=by omega
   have Iw:=hid (show X.take k=X from List.take_of_length_le (by omega))
   go_wp2_with fail
   go_ret
   exact⟨ta,_,tc,rfl,Ts,(by have h9:=HT.out;simp only[List.length_map] at h9;exact h9),by have:=HR.out;rw[Iw.out] at this;exact this,hbel⟩
theorem flat_nil {α:Type} {f:Nat→List α} {n:Nat} (h:(List.range n).flatMap f=[]):∀ k,k<n→f k=[]:=fun k hk=>by
 rw[List.flatMap_eq_nil_iff] at h
 exact h k (List.mem_range.2 hk)
theorem WQ {ts:List aF} (h:kH ts ts.length=[]):ts.Pairwise (fun a b=>a.text.toList≠b.text.toList):=by
 rw[List.pairwise_iff_getElem]
 intro i j hi hj hij e
 have:=flat_nil (show (List.range ts.length).flatMap (wO ts)=[] from h) j hj
 unfold wO at this
 rw[List.getElem?_eq_getElem hj] at this
 have hany:(ts.take j).any (fun g=>g.text.toList==(ts[j]).text.toList)=true:=by
  rw[List.any_eq_true]
  exact⟨ts[i],by rw[List.mem_iff_getElem];exact⟨i,by rw[List.length_take];omega,by rw[List.getElem_take]⟩,by simpa using e⟩
 simp only[hany,sZ] at this
 simp at this
theorem EF {α:Type} (p q:α → Bool) (h:∀ x,p x=true→q x=true):∀ l:List α,(l.filter p).Sublist (l.filter q)
 | []=>by simp
 | a::r=>by
  have ih:=EF p q h r
  cases hp:p a with
  | true=>rw[List.filter_cons_of_pos hp,List.filter_cons_of_pos (h a hp)];exact ih.cons_cons a
  | false=>
   rw[List.filter_cons_of_neg (by simp[hp])]
   cases hq:q a with
   | true=>rw[List.filter_cons_of_pos hq];exact ih.cons a
   | false=>rw[List.filter_cons_of_neg (by simp[hq])];exact ih
theorem tN {s:ByteArray} {X:List bY} (hA:bM s 0 0) (h:(dD s).1=some (X.map (fun x=>x.it))):(X.filter (fun x=>x.it.kind==2)).Pairwise (fun a b=>a.it.name.text.toList≠b.it.name.text.toList):=by
 rcases hA with⟨_,e,_⟩ | ⟨_,⟨_,e,_⟩ | ⟨Z,hZ,⟨m,_,_,e,_⟩ | ⟨hno,_,_⟩⟩⟩
 ·omega
 ·omega
 ·omega
 ·have hXZ:X.map (fun x=>x.it)=Z.map (fun x=>x.it):=by rw[h] at hZ;simpa using hZ
  have h1:kH (bW Z) (bW Z).length=[]:=by
   cases hc:kH (bW Z) (bW Z).length with
   | nil=>rfl
   | cons a r=>exact absurd (Or.inl (by unfold lF;simp[hc])) (hno a)
  have h2:=WQ h1
  have e1:∀ V:List bY,bW V=((V.map (fun x=>x.it)).filter (fun p=>!gZ p.kind)).map (fun p=>p.name):=fun V=>by
   unfold bW
   rw[List.filter_map,List.map_map];rfl
  rw[e1 Z,← hXZ,← e1 X] at h2
  unfold bW at h2
  rw[List.pairwise_map] at h2
  exact h2.sublist (EF _ _ (fun x hx=>by
   have:x.it.kind=2:=by simpa using hx
   rw[this];rfl) X)
def Jh (Ts:List dU):Prop:=∀ (i j:Nat) (a b:dU),Ts[i]? = some a→Ts[j]? = some b→a.name.toList=b.name.toList→i=j
theorem Jh.of {lo:Nat} {X:List bY} {Ts:List dU} (h:iM lo X Ts) (hu:(X.filter (fun x=>x.it.kind==2)).Pairwise (fun a b=>a.it.name.text.toList≠b.it.name.text.toList)):Jh Ts:=by
 have hm:Ts.map (fun t=>t.name.toList)=(X.filter (fun x=>x.it.kind==2)).map (fun x=>x.it.name.text.toList):=by
  have:=congrArg (List.map (fun p:ByteArray × ByteArray=>p.1.toList)) h.map
  rw[List.map_map,List.map_map] at this
  exact this
 have hp:(Ts.map (fun t=>t.name.toList)).Pairwise (fun a b=>a≠b):=by rw[hm,List.pairwise_map];exact hu
 intro i j a b ha hb e
 have hia:=iR ha
 have hjb:=iR hb
 have ea:(Ts.map (fun t=>t.name.toList))[i]? = some a.name.toList:=by rw[List.getElem?_map,ha];rfl
 have eb:(Ts.map (fun t=>t.name.toList))[j]? = some a.name.toList:=by rw[List.getElem?_map,hb,e];rfl
 exact(List.getElem?_inj (by simpa using hia) (show (Ts.map (fun t=>t.name.toList)).Nodup from hp)).1 (ea.trans eb.symm)
theorem Jh.set {Ts:List dU} (h:Jh Ts) {k:Nat} {t t':dU} (hk:Ts[k]? = some t) (hn:t'.name=t.name):Jh (Ts.set k t'):=fun i j a b ha hb e=>by
 rcases zx ha with⟨e1,e2⟩ | ⟨_,ha2⟩
 ·rcases zx hb with⟨f1,f2⟩ | ⟨_,hb2⟩
  ·omega
  ·rw[e1];exact h _ _ _ _ hk hb2 (by rw[← hn,← e2];exact e)
 ·rcases zx hb with⟨f1,f2⟩ | ⟨_,hb2⟩
  ·rw[f1];exact h _ _ _ _ ha2 hk (by rw[← hn,← f2];exact e)
  ·exact h _ _ _ _ ha2 hb2 e
end Go.Proofs.YtgalebcpagmohaaGreatDoor
