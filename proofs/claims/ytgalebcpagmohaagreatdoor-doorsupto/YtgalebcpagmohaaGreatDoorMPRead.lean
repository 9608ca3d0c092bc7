/- Package schemas: nameFaults. -/
import Derived.Test.YtgalebcpagmohaaGreatDoorMHolds
import Derived.Test.YtgalebcpagmohaaGreatDoorMEqFault
import Derived.Deep.OwnRows
import Derived.Test.YtgalebcpagmohaaGreatDoorMCheck
set_option maxHeartbeats 8000000
set_option maxRecDepth 100000
namespace Go.Proofs.YtgalebcpagmohaaGreatDoor
open Go.Proofs.Tryz
open Go.RowKit
structure Small (X:List bY):Prop where
 f:∀ x∈X,x.it.fields.length≤400
 n:∀ x∈X,x.it.names.length≤400
 s:∀ x∈X,x.it.name.text.size≤400
 ft:∀ x∈X,∀ f∈x.it.fields,f.name.size≤400
 nt:∀ x∈X,∀ t∈x.it.names,t.text.size≤400
theorem DV {s:ByteArray} {X:List bY} (h:Facts s X) (hs:s.size≤400):Small X:=by
 refine⟨fun x hx=>?_,fun x hx=>?_,fun x hx=>?_,fun x hx f hf=>?_,fun x hx t ht=>?_⟩<;>obtain⟨lo,hi⟩:=h.it x hx
 ·have:=hi.fl;omega
 ·have:=hi.nl;omega
 ·have:=hi.nm.s;omega
 ·have:=(hi.f f hf).ms;omega
 ·have:=(hi.n t ht).s;omega
def KU (X:List bY) (k a:Nat):Prop:=a∈lF [dL X,bW X]∨∃ i x,i<k∧X[i]? = some x∧PFI X i x a
theorem Vz {p:iy} {n:Ap} (hb:p.base=[.string n.bb,.int .i64 n.ba]) (ha:p.answer=[.string n.ab,.int .i64 n.aa]):mZ p n=kJ p:=by
 unfold mZ kJ;rw[hb,ha];simp[cellText,cellAt]
theorem Tryz.infoBool:(Tryz.prog.info? 4).map (fun i=>(i.zero,i.size,i.bytes))=some (some (.bool false),1,1):=by kernel_rfl
theorem VA {w:World} {lo lo':Nat} {v:Value} {ts:List aF} (hv:w.ownsRow lo 131 2 v ts.length (ts.flatMap aA)) (hlo:lo'≤lo) (hw:lo'≤w.heap.size) (hl:ts.length≤400) (ht:∀ t∈ts,t.text.size≤400) :
  Groups (w.alloc (.cells #[v] 133)) lo' (.slice (some ⟨w.heap.size,0,none⟩) 1 1) [(v,ts)]:=by
 refine⟨?_,fun p hp=>?_,fun p hp=>?_,fun p hp=>?_⟩
 ·exact World.ownsRow_lit (base:=lo') (e:=133) (size:=1) w #[v] 1 hw (by unfold maxLen;omega) rfl
 ·rw[List.mem_singleton.1 hp];exact own_base (hv.alloc _) hlo
 ·rw[List.mem_singleton.1 hp];exact hl
 ·rw[List.mem_singleton.1 hp];exact ht
theorem aai {w:World} {lo lo':Nat} {v v2:Value} {ts us:List aF} (hv:w.ownsRow lo 131 2 v ts.length (ts.flatMap aA)) (hv2:w.ownsRow lo 131 2 v2 us.length (us.flatMap aA)) (hlo:lo'≤lo) (hw:lo'≤w.heap.size) (hl:ts.length≤400) (hl2:us.length≤400) (ht:∀ t∈ts,t.text.size≤400) (hu:∀ t∈us,t.text.size≤400) :
  Groups (w.alloc (.cells #[v,v2] 133)) lo' (.slice (some ⟨w.heap.size,0,none⟩) 2 2) [(v,ts),(v2,us)]:=by
 refine⟨?_,fun p hp=>?_,fun p hp=>?_,fun p hp=>?_⟩
 ·exact World.ownsRow_lit (base:=lo') (e:=133) (size:=1) w #[v,v2] 2 hw (by unfold maxLen;omega) rfl
 ·rcases List.mem_cons.1 hp with rfl | hp
  ·exact own_base (hv.alloc _) hlo
  ·rw[List.mem_singleton.1 hp];exact own_base (hv2.alloc _) hlo
 ·rcases List.mem_cons.1 hp with rfl | hp
  ·exact hl
  ·rw[List.mem_singleton.1 hp];exact hl2
 ·rcases List.mem_cons.1 hp with rfl | hp
  ·exact ht
  ·rw[List.mem_singleton.1 hp];exact hu
structure DW (w wc:World) (B:Nat) (cs:List Value) (v:Value) (L:List Nat):Prop where
 bel:Below w.heap.size w wc
 box:Seg wc B 135 0 cs
 pl:Places wc w.heap.size v L
theorem DW.call {w wc wd:World} {B:Nat} {cs:List Value} {v:Value} {L:List Nat} (h:DW w wc B cs v L) (hb:Below wc.heap.size wc wd):DW w wd B cs v L :=
 ⟨h.bel.trans (hb.mono h.bel.size),h.box.same (hb.block B h.box.lt),h.pl.same hb⟩
theorem DW.grown {w wc wd:World} {B:Nat} {cs:List Value} {v v':Value} {L L':List Nat} (h:DW w wc B cs v L) (hg:wc.grownBy wd v.ownBlock) (hp:Places wd w.heap.size v' L'):DW w wd B cs v' L':=by
 refine⟨h.bel.grown hg h.bel.size (fun k hk=>(h.pl.lt k hk).1),h.box.same (hg.block B h.box.lt (fun e=>?_)),hp⟩
 exact gK h.pl h.box (by decide) e.symm rfl
theorem oI (w:World) (cs:Array Value) (t:TypeId):Seg (w.alloc (.cells cs t)) w.heap.size t 0 cs.toList:=by
 exact⟨cs,heap_alloc_new w _,by simp,by simpa using List.take_of_length_le (by simp)⟩
theorem KW {X:List bY} (h:Small X):(∀ t∈dL X,t.text.size≤400)∧(∀ t∈bW X,t.text.size≤400):=by
 constructor<;>intro t ht
 ·obtain⟨x,hx,rfl⟩:=List.mem_map.1 ht;exact h.s x (List.mem_filter.1 hx).1
 ·obtain⟨x,hx,rfl⟩:=List.mem_map.1 ht;exact h.s x (List.mem_filter.1 hx).1
theorem Gx {ts:List aF} (h:ts.length≤400):(lF [ts]).length≤400:=by
 have:=Dx [ts] (fun t ht=>by rw[List.mem_singleton.1 ht];exact h)
 simpa using this
theorem OJ {p:iy} (h:p.fields.length≤400):(kJ p).length≤400:=by
 unfold kJ;split
 ·simp
 ·split<;>simp<;>omega
theorem KU.step {X:List bY} {k:Nat} {x:bY} {L N:List Nat} (hx:X[k]? = some x) (h:∀ a,a∈L↔KU X k a) (hN:∀ a,a∈N↔PFI X k x a):∀ a,a∈L++N↔KU X (k+1) a:=by
 intro a
 rw[List.mem_append,h,hN]
 constructor
 ·rintro((hr | ⟨i,y,hi,hy,hp⟩) | hp)
  ·exact Or.inl hr
  ·exact Or.inr ⟨i,y,by omega,hy,hp⟩
  ·exact Or.inr ⟨k,x,by omega,hx,hp⟩
 ·rintro(hr | ⟨i,y,hi,hy,hp⟩)
  ·exact Or.inl (Or.inl hr)
  ·rcases Nat.lt_or_ge i k with h' | h'
   ·exact Or.inl (Or.inr ⟨i,y,h',hy,hp⟩)
   ·have e:i=k:=by omega
    subst e
    rw[hx] at hy;cases hy
    exact Or.inr hp
theorem DX (w:World) (lo:Nat) (lv:Value) (X:List bY) (h:fQ w lo lv X) (hn:Oh X) (hX:X.length≤400) (hS:Small X) :
  Calls Tryz.prog 88 #[lv] w fun e w'=>∃ nv L,e=.returned nv∧Places w' w.heap.size nv L∧(∀ a,a∈L↔PF X a)∧L.length≤1000000∧Below w.heap.size w w':=by
 have hmk:=run_make_row' (P:=Tryz.prog) 228 4 (.bool false) 1 underlying228 Tryz.infoBool rfl .i64 .i64 X.length (by omega) (by omega)
 obtain⟨iI,wX,hI0,hI1,hI2⟩:=info_parts Tryz.infoInt
 obtain⟨la,lc,hlv⟩:∃ a c,lv=.slice a X.length c:=ak h.own
 subst hlv
 have H:=hid h
 have HN:=hid hn
 have HS:=hid hS
 clear h hn hS
 go_enter func88,ntmps88
 go_wp2_with fail
 refine(Fg _ lo _ X H.out HN.out hX).mono ?_;rintro e w1 ⟨t,o,rfl,ht,ho,hb1⟩
 obtain⟨ta,tc,U6⟩:∃ a c,t=.slice a (dL X).length c:=ak ht
 obtain⟨oa,oc,hov⟩:∃ a c,o=.slice a (bW X).length c:=ak ho
 subst U6 hov
 have hz1:=hb1.size
 have hT4:(dL X).length≤400:=by have:=Ar X;omega
 have hO4:(bW X).length≤400:=by have:=Au X;omega
 have HG:=hid (aai ht ho (Nat.le_refl _) hz1 hT4 hO4 (KW HS.out).1 (KW HS.out).2)
 have hb1':=hb1.alloc hz1 (.cells #[.slice ta (dL X).length tc,.slice oa (bW X).length oc] 133)
 clear ht ho
 go_wp2_with fail
 refine(uN _ w.heap.size _ _ HG.out (by simp)).mono ?_;rintro e w2 ⟨pv,rfl,hp2,hb2⟩
 have nM:=hb1'.trans (hb2.mono hb1'.size)
 have hp2':Places w2 w.heap.size pv (lF [dL X,bW X]):=own_base hp2 hb1'.size
 have hl0:(lF [dL X,bW X]).length≤800:=by
  have:=Dx [dL X,bW X] (fun t ht=>by
   rcases List.mem_cons.1 ht with rfl | ht
   ·exact hT4
   ·rw[List.mem_singleton.1 ht];exact hO4)
  simpa using this
 obtain⟨pa,pc,hpv⟩:∃ a c,pv=.slice a (lF [dL X,bW X]).length c:=ak hp2'
 subst hpv
 have HP2:=hid hp2'
 clear hp2 hp2' HG hb1 hb1' hb2
 generalize hR:lF [dL X,bW X]=R at *
 have HR:=hid hR
 clear hR
 go_wp2_with fail
 go_loopg [3,4,5,14] X.length (fun gk nv x4 x5 i wr=>∃ (k:Nat) (L:List Nat),k+gk=X.length∧i=.int .i64 k∧Hid (Places wr w.heap.size nv L)∧Hid (∀ a,a∈L↔KU X k a)∧L.length≤800+2000*k∧Below w.heap.size w wr)
 case atStart=>exact⟨0,R,by omega,rfl,hid HP2.out,hid (fun a=>⟨fun ha=>Or.inl (by rw[HR.out];exact ha),fun ha=>by
  rcases ha with ha | ⟨i,x,hi,_⟩
  ·rw[HR.out] at ha;exact ha
  ·omega⟩),by omega,nM⟩
 case round=>
  obtain⟨k,L,hk,rfl,HP,HL,hLl,hbel⟩:=hrel
  have hsz:=hbel.size
  by_cases hlt:k<X.length
  ·obtain⟨x,hx⟩:∃ x,X[k]? = some x:=⟨X[k],List.getElem?_eq_getElem hlt⟩
   have hmem:=List.mem_of_getElem? hx
   obtain⟨g,cap,hv,hgl,hgs⟩:=dM H.out.own (by omega)
   obtain⟨rfl,rfl⟩:la=some ⟨g,0,none⟩∧lc=cap:=by simpa using hv
   obtain⟨n,hn⟩:=(H.out.below hbel).uM HN.out hx
   have VB:=(H.out.nest x hmem).f
   have VD:=(H.out.nest x hmem).n
   rw[hn.vf] at VB
   rw[hn.vn] at VD
   have hs:=hn.seg
   have KX:=hid (Vz hn.base hn.answer)
   have hf4:=HS.out.f x hmem
   have hn4:=HS.out.n x hmem
   have HFT:=hid (HS.out.ft x hmem)
   have HNT:=hid (HS.out.nt x hmem)
   have HX:=hid hx
   have HRF:=hid VB
   have HRN:=hid VD
   obtain⟨na,nc,uy⟩:∃ a c,u3=.slice a L.length c:=ak HP.out
   subst uy
   clear hx hv hn VB VD
   obtain⟨p,xvf,xvn⟩:=x
   obtain⟨pk,pn,fs,ns,pb,pan⟩:=p
   obtain⟨fa,fc,nna,nnc,bb,ba,ab,aa⟩:=n
   dsimp only at *
   have c0:=hs.cell (j:=0) rfl
   have c1:=hs.cell (j:=1) rfl
   have c2:=hs.cell (j:=2) rfl
   have c3:=hs.cell (j:=3) rfl
   have c4:=hs.cell (j:=4) rfl
   have c5:=hs.cell (j:=5) rfl
   have c6:=hs.cell (j:=6) rfl
   have c7:=hs.cell (j:=7) rfl
   have c8:=hs.cell (j:=8) rfl
   simp only[Nat.add_zero] at c0
   clear hs
   have HS0:=hid (show DW w (wr.alloc (.cells #[.int .i64 pk,.string pn.text,.int .i64 pn.at_,.slice fa fs.length fc,.slice nna ns.length nnc,.string bb,.int .i64 ba,.string ab,.int .i64 aa] 135)) wr.heap.size [.int .i64 pk,.string pn.text,.int .i64 pn.at_,.slice fa fs.length fc,.slice nna ns.length nnc,.string bb,.int .i64 ba,.string ab,.int .i64 aa] (.slice na L.length nc) L from
    ⟨hbel.alloc hsz _,oI _ _ _,HP.out.same ((Below.refl _ _).alloc (Nat.le_refl _) _)⟩)
   go_wp2_with fail
   clear c0 c1 c2 c3 c4 c5 c6 c7 c8
   refine(Dn _ lo _ fs (au HRF.out (fun q hq=>HS0.out.bel.block q (HRF.out.lt q hq).2)) hf4).mono ?_;rintro e wa ⟨fv,rfl,hfa,hba⟩
   have HSA:=hid (HS0.out.call hba)
   have ET:=hid (VA hfa (Nat.le_refl _) hba.size (by simpa using hf4) (fun t ht=>by obtain⟨f,hf,rfl⟩:=List.mem_map.1 ht;exact HFT.out f hf))
   obtain⟨fva,fvc,hfv⟩:∃ a c,fv=.slice a (fs.map fname).length c:=ak hfa
   subst hfv
   have hzA:=HSA.out.bel.size
   have hF4:(fs.map fname).length≤400:=by simpa using hf4
   generalize hFn:fs.map fname=F at *
   have Zt:=hid hFn
   clear hfa hba HS0 hFn
   go_wp2_with fail
   refine(uN _ _ _ _ ET.out (by simp)).mono ?_;rintro e wb ⟨pv1,rfl,hp1,hb1⟩
   have ZN:=hid (HSA.out.call (((Below.refl _ _).alloc (Nat.le_refl _) _).trans (hb1.mono (by simp))))
   have QS:=hid (show Places wb _ pv1 (lF [F]) from hp1)
   have hN1:=Gx (ts:=F) hF4
   generalize hg1:lF [F]=N1 at *
   have XH:=hid hg1
   have hzB:=ZN.out.bel.size
   obtain⟨q1,r1,hv1⟩:∃ a c,pv1=.slice a N1.length c:=ak QS.out
   subst hv1
   clear hp1 hb1 ET hg1 HSA
   go_wp2_with (at_builtin;refine jo _ rfl _ _ rfl _ L w.heap.size rfl ZN.out.pl _ N1 _ rfl QS.out (by omega) hzB ?_)
   intro a1 c1 w3 hp3 hg3
   have Il:=hid (ZN.out.grown hg3 hp3)
   have hl1:(L++N1).length≤L.length+400:=by rw[List.length_append];omega
   generalize hm1:L++N1=L1 at *
   have HM1:=hid hm1
   have hz3:=Il.out.bel.size
   clear hp3 hg3 ZN QS hm1
   have e4:w3.cell? ⟨wr.heap.size,4,none⟩=some (.slice nna ns.length nnc):=by simpa using Il.out.box.cell (j:=4) rfl
   have HG2:=hid (VA (au HRN.out (fun q hq=>Il.out.bel.block q (HRN.out.lt q hq).2)) (Nat.le_refl _) (by omega) hn4 HNT.out)
   go_wp2_with fail
   refine(uN _ _ _ _ HG2.out (by simp)).mono ?_;rintro e wc ⟨pv2,rfl,hp2,hb2⟩
   have HSC:=hid (Il.out.call (((Below.refl _ _).alloc (Nat.le_refl _) _).trans (hb2.mono (by simp))))
   have HQ2:=hid (show Places wc _ pv2 (lF [ns]) from hp2)
   have Uf:=Gx (ts:=ns) hn4
   generalize hg2:lF [ns]=N2 at *
   have XI:=hid hg2
   have hzC:=HSC.out.bel.size
   obtain⟨q2,r2,hv2⟩:∃ a c,pv2=.slice a N2.length c:=ak HQ2.out
   subst hv2
   clear hp2 hb2 HG2 hg2 Il e4
   go_wp2_with (at_builtin;refine jo _ rfl _ _ rfl _ L1 w.heap.size rfl HSC.out.pl _ N2 _ rfl HQ2.out (by omega) hzC ?_)
   intro a2 c2 w4 wK hg4
   have HS2:=hid (HSC.out.grown hg4 wK)
   have hl2:(L1++N2).length≤L.length+800:=by rw[List.length_append];omega
   generalize hm2:L1++N2=L2 at *
   have HM2:=hid hm2
   have JQ:=HS2.out.bel.size
   clear wK hg4 HSC HQ2 hm2
   have e3:w4.cell? ⟨wr.heap.size,3,none⟩=some (.slice fa fs.length fc):=by simpa using HS2.out.box.cell (j:=3) rfl
   go_wp2_with fail
   refine(Bo _ lo _ fs (au HRF.out (fun q hq=>HS2.out.bel.block q (HRF.out.lt q hq).2)) hf4).mono ?_;rintro e wd ⟨pv3,rfl,hp3,hb3⟩
   have HSD:=hid (HS2.out.call hb3)
   have Uc:=hid hp3
   have hN3:(oZ fs (fs.length-1)).length≤400:=by have:=zC fs (fs.length-1);omega
   generalize hg3:oZ fs (fs.length-1)=N3 at *
   have nK:=hid hg3
   have hzD:=HSD.out.bel.size
   obtain⟨q3,r3,hv3⟩:∃ a c,pv3=.slice a N3.length c:=ak Uc.out
   subst hv3
   clear hp3 hb3 hg3 HS2 e3
   go_wp2_with (at_builtin;refine jo _ rfl _ _ rfl _ L2 w.heap.size rfl HSD.out.pl _ N3 _ rfl Uc.out (by omega) hzD ?_)
   intro a3 c3 w5 wL hg5
   have pI:=hid (HSD.out.grown hg5 wL)
   have hl3:(L2++N3).length≤L.length+1200:=by rw[List.length_append];omega
   generalize QW:L2++N3=L3 at *
   have QT:=hid QW
   have JD:=pI.out.bel.size
   clear wL hg5 HSD Uc QW
   have f0:w5.cell? ⟨wr.heap.size,0,none⟩=some (.int .i64 pk):=by simpa using pI.out.box.cell (j:=0) rfl
   have f1:w5.cell? ⟨wr.heap.size,1,none⟩=some (.string pn.text):=by simpa using pI.out.box.cell (j:=1) rfl
   have f2:w5.cell? ⟨wr.heap.size,2,none⟩=some (.int .i64 pn.at_):=by simpa using pI.out.box.cell (j:=2) rfl
   have f3:w5.cell? ⟨wr.heap.size,3,none⟩=some (.slice fa fs.length fc):=by simpa using pI.out.box.cell (j:=3) rfl
   have f4:w5.cell? ⟨wr.heap.size,4,none⟩=some (.slice nna ns.length nnc):=by simpa using pI.out.box.cell (j:=4) rfl
   have f5:w5.cell? ⟨wr.heap.size,5,none⟩=some (.string bb):=by simpa using pI.out.box.cell (j:=5) rfl
   have f6:w5.cell? ⟨wr.heap.size,6,none⟩=some (.int .i64 ba):=by simpa using pI.out.box.cell (j:=6) rfl
   have f7:w5.cell? ⟨wr.heap.size,7,none⟩=some (.string ab):=by simpa using pI.out.box.cell (j:=7) rfl
   have f8:w5.cell? ⟨wr.heap.size,8,none⟩=some (.int .i64 aa):=by simpa using pI.out.box.cell (j:=8) rfl
   go_wp2_with fail
   refine(zF _ lo _ X ⟨pk,pn,fs,ns,pb,pan⟩ ⟨fa,fc,nna,nnc,bb,ba,ab,aa⟩ (H.out.below pI.out.bel) HN.out hX (au HRF.out (fun q hq=>pI.out.bel.block q (HRF.out.lt q hq).2)) hf4).mono ?_;rintro e we ⟨pv4,rfl,wK,hb4⟩
   rw[KX.out] at wK
   have XJ:=hid (pI.out.call hb4)
   have ZP:=hid wK
   have ZT:(wC X (kJ ⟨pk,pn,fs,ns,pb,pan⟩)).length≤400:=by
    have:=KH X (kJ ⟨pk,pn,fs,ns,pb,pan⟩)
    have:=OJ (p:=⟨pk,pn,fs,ns,pb,pan⟩) hf4
    omega
   generalize hg4:wC X (kJ ⟨pk,pn,fs,ns,pb,pan⟩)=N4 at *
   have XG:=hid hg4
   have hzE:=XJ.out.bel.size
   obtain⟨q4,r4,hv4⟩:∃ a c,pv4=.slice a N4.length c:=ak ZP.out
   subst hv4
   clear wK hb4 hg4 pI f0 f1 f2 f3 f4 f5 f6 f7 f8
   go_wp2_with (at_builtin;refine jo _ rfl _ _ rfl _ L3 w.heap.size rfl XJ.out.pl _ N4 _ rfl ZP.out (by omega) hzE ?_)
   intro a4 c4 w6 P9 uh
   have Nk:=hid (XJ.out.grown uh P9)
   have hl4:(L3++N4).length≤L.length+1600:=by rw[List.length_append];omega
   generalize hm4:L3++N4=L4 at *
   have XD:=hid hm4
   have hz6:=Nk.out.bel.size
   clear P9 uh XJ ZP hm4
   have f0:w6.cell? ⟨wr.heap.size,0,none⟩=some (.int .i64 pk):=by simpa using Nk.out.box.cell (j:=0) rfl
   have f2:w6.cell? ⟨wr.heap.size,2,none⟩=some (.int .i64 pn.at_):=by simpa using Nk.out.box.cell (j:=2) rfl
   have hbox:=Nk.out.box.lt
   have VE:=hid (show L4=L++(N1++N2++N3++N4) by rw[← XD.out,← QT.out,← HM2.out,← HM1.out];simp)
   by_cases hk0:pk=0
   ·have hk0':((pk:Int)==0)=true:=by simp[hk0]
    have VF:=oI w6 (madeCells #[Value.bool false] X.length) 4
    rw[toList_madeCells_one,← List.map_replicate] at VF
    have Zu:=hid VF
    clear VF
    go_wp2_with fail
    refine(Ou (qp (List.replicate X.length false)) w6 _ lo _ X k k w6.heap.size (List.replicate X.length false) (H.out.below Nk.out.bel) HN.out hX HS.out.f ((Below.refl _ _).alloc (Nat.le_refl _) _) (Nat.le_refl _) Zu.out (by simp) hlt hlt rfl).mono ?_;rintro e w7 ⟨r,Qe,rfl,hb7,_,_,hpo⟩
    have HW:=hid hpo.way
    have BK:=hid (Nk.out.call (((Below.refl _ _).alloc (Nat.le_refl _) _).trans hb7))
    have f2':w7.cell? ⟨wr.heap.size,2,none⟩=some (.int .i64 pn.at_):=by simpa using BK.out.box.cell (j:=2) rfl
    have hz7:=BK.out.bel.size
    clear hb7 hpo Zu f0 f2
    cases r with
    | false=>
     go_wp2_with fail
     go_roundg (gk-1)
     case rel=>exact⟨k+1,L4,by omega,by go_num,hid BK.out.pl,hid (by
      rw[VE.out]
      refine KU.step HX.out HL.out (fun a=>?_)
      rw[← XH.out,← XI.out,← nK.out,← XG.out,← Zt.out]
      simp only[List.mem_append,PFI]
      constructor
      ·rintro(((h | h) | h) | h)
       ·exact Or.inl h
       ·exact Or.inr (Or.inl h)
       ·exact Or.inr (Or.inr (Or.inl h))
       ·exact Or.inr (Or.inr (Or.inr (Or.inl h)))
      ·rintro(h | h | h | h | h)
       ·exact Or.inl (Or.inl (Or.inl h))
       ·exact Or.inl (Or.inl (Or.inr h))
       ·exact Or.inl (Or.inr h)
       ·exact Or.inr h
       ·exact absurd (HW.out.2 h.2.1) (by decide)),by omega,BK.out.bel⟩
     case measure=>omega
    | true=>
     have hone:∀ (wx:World) (q:Nat),Places (wx.alloc (.cells #[.int .i64 (q:Int)] 3)) wx.heap.size (.slice (some ⟨wx.heap.size,0,none⟩) 1 1) [q]:=fun wx q=>World.ownsRow_lit (base:=wx.heap.size) (e:=3) (size:=1) wx #[.int .i64 (q:Int)] 1 (Nat.le_refl _) (by unfold maxLen;omega) rfl
     have HS6:=hid (BK.out.call ((Below.refl _ _).alloc (Nat.le_refl _) (.cells #[.int .i64 (pn.at_:Int)] 3)))
     have hz8:=HS6.out.bel.size
     go_wp2_with (at_builtin;refine jo _ rfl _ _ rfl _ L4 w.heap.size rfl HS6.out.pl _ [pn.at_] _ rfl (hone _ _) (by simp;omega) hz8 ?_)
     intro a5 c5 w8 hp8 hg8
     have Zr:=hid (HS6.out.grown hg8 hp8)
     have hl5:(L4++[pn.at_]).length≤L.length+1601:=by rw[List.length_append,List.length_singleton];omega
     clear hp8 hg8
     go_wp2_with fail
     go_roundg (gk-1)
     case rel=>exact⟨k+1,L4++[pn.at_],by omega,by go_num,hid (by have:=Zr.out.pl;simpa using this),hid (by
      rw[VE.out,List.append_assoc]
      refine KU.step HX.out HL.out (fun a=>?_)
      rw[← XH.out,← XI.out,← nK.out,← XG.out,← Zt.out]
      simp only[List.mem_append,List.mem_singleton,PFI]
      constructor
      ·rintro((((h | h) | h) | h) | h)
       ·exact Or.inl h
       ·exact Or.inr (Or.inl h)
       ·exact Or.inr (Or.inr (Or.inl h))
       ·exact Or.inr (Or.inr (Or.inr (Or.inl h)))
       ·exact Or.inr (Or.inr (Or.inr (Or.inr ⟨hk0,HW.out.1 (by first | trivial | rfl),h⟩)))
      ·rintro(h | h | h | h | h)
       ·exact Or.inl (Or.inl (Or.inl (Or.inl h)))
       ·exact Or.inl (Or.inl (Or.inl (Or.inr h)))
       ·exact Or.inl (Or.inl (Or.inr h))
       ·exact Or.inl (Or.inr h)
       ·exact Or.inr h.2.2),by omega,Zr.out.bel⟩
     case measure=>omega
   ·have hk0':((pk:Int)==0)=false:=by simp[hk0]
    go_wp2_with fail
    go_roundg (gk-1)
    case rel=>exact⟨k+1,L4,by omega,by go_num,hid Nk.out.pl,hid (by
     rw[VE.out]
     refine KU.step HX.out HL.out (fun a=>?_)
     rw[← XH.out,← XI.out,← nK.out,← XG.out,← Zt.out]
     simp only[List.mem_append,PFI]
     constructor
     ·rintro(((h | h) | h) | h)
      ·exact Or.inl h
      ·exact Or.inr (Or.inl h)
      ·exact Or.inr (Or.inr (Or.inl h))
      ·exact Or.inr (Or.inr (Or.inr (Or.inl h)))
     ·rintro(h | h | h | h | h)
      ·exact Or.inl (Or.inl (Or.inl h))
      ·exact Or.inl (Or.inl (Or.inr h))
      ·exact Or.inl (Or.inr h)
      ·exact Or.inr h
      ·exact absurd h.1 hk0),by omega,Nk.out.bel⟩
    case measure=>omega
  ·have HE:=hid (show ∀ a,KU X k a↔PF X a from fun a=>or_congr_right ⟨fun⟨i,x,_,hx,hp⟩=>⟨i,x,hx,hp⟩,fun⟨i,x,hx,hp⟩=>⟨i,x,by have:=iR hx;omega,hx,hp⟩⟩)
   obtain⟨na,nc,uy⟩:∃ a c,u3=.slice a L.length c:=ak HP.out
   subst uy
   go_wp2_with fail
   go_ret
   exact⟨_,L,rfl,HP.out,fun a=>(HL.out a).trans (HE.out a),by omega,hbel⟩
theorem uU:∀ (zs:List Int) (z:Int),(zs.foldl min z=z∨zs.foldl min z∈zs)∧zs.foldl min z≤z∧∀ a∈zs,zs.foldl min z≤a
 | [],z=>by simp
 | b::r,z=>by
  rw[List.foldl_cons]
  obtain⟨h1,h2,h3⟩:=uU r (min z b)
  refine⟨?_,by omega,fun a ha=>?_⟩
  ·rcases h1 with h1 | h1
   ·rw[h1]
    rcases Int.le_total z b with h | h
    ·left;omega
    ·right;rw[Int.min_eq_right h];simp
   ·right;simp[h1]
  ·rcases List.mem_cons.1 ha with rfl | ha
   ·omega
   ·exact h3 a ha
theorem OL {L:List Nat} (h:L≠[]):∃ m∈L,Lib.minOf (L.map (fun(n:Nat)=>(n:Int)))=(m:Int)∧∀ a∈L,m≤a:=by
 obtain⟨b,r,rfl⟩:=List.exists_cons_of_ne_nil h
 unfold Lib.minOf
 obtain⟨h1,h2,h3⟩:=uU ((b::r).map (fun(n:Nat)=>(n:Int))) (((b::r).map (fun(n:Nat)=>(n:Int))).headD 0)
 have hin:((b::r).map (fun(n:Nat)=>(n:Int))).foldl min (((b::r).map (fun(n:Nat)=>(n:Int))).headD 0)∈(b::r).map (fun(n:Nat)=>(n:Int)):=by
  rcases h1 with h1 | h1
  ·rw[h1];simp
  ·exact h1
 obtain⟨m,hm,e⟩:=List.mem_map.1 hin
 refine⟨m,hm,e.symm,fun a ha=>?_⟩
 have:=h3 (a:Int) (List.mem_map.2 ⟨a,ha,rfl⟩)
 rw[← e] at this
 omega
theorem afp (w:World) (lo:Nat) (v:Value) (L:List Nat) (h:Places w lo v L) (hne:L≠[]) (hl:L.length≤1000000) :
  Calls Tryz.prog 89 #[v] w fun e w'=>∃ m:Nat,e=.returned (.int .i64 m)∧w'=w∧m∈L∧∀ a∈L,m≤a:=by
 have hpos:0<L.length:=List.length_pos_iff.2 hne
 obtain⟨g,c,hv,hg,hc⟩:=IJ h hpos
 subst hv
 obtain⟨m,hm,e,hle⟩:=OL hne
 refine(Tryz.slices_Min_int g 0 L.length c (L.map (fun(n:Nat)=>(n:Int))) w hpos (by simp) (by omega) (fun j hj=>?_)).mono ?_
 ·have hj':j<L.length:=by simpa using hj
  have:=hc j L[j] (List.getElem?_eq_getElem hj')
  rw[Nat.zero_add,this]
  simp[List.getD_eq_getElem?_getD,List.getElem?_eq_getElem hj']
 ·rintro e' w' ⟨rfl,rfl⟩
  exact⟨m,by rw[List.take_of_length_le (by simp),e],rfl,hm,hle⟩
def VG (s:ByteArray) (w:World) (lo:Nat) (lv:Value):Prop:=∃ X:List bY,(dD s).1=some (X.map (fun x=>x.it))∧fQ w lo lv X∧X.length≤400∧(∀ a,¬ PF X a)
theorem VH (s:ByteArray) (w:World) (hv:Vars w) (hs:s.size≤maxLen) :
  Calls Tryz.prog 54 #[.string s] w fun e w'=>∃ (lv:Value) (n:Option Addr) (c1 c2:Nat) (E P:Int),lv=.slice n c1 c2∧e=.returned (.tuple #[lv,.int .i64 E,.int .i64 P])∧Below w.heap.size w w'∧bM s E P∧(E=0→VG s w' (w.heap.size+1) lv):=by
 unfold maxLen at hs
 have HV:=hid hv
 clear hv
 by_cases h4:s.size≤400
 ·go_enter func54,ntmps54
  go_wp2_with fail
  refine(parse_any s _ HV.out h4).mono ?_;rintro e w1 ⟨lv,P,rfl,hb1,hans⟩
  rcases hans with⟨hn,rfl,rfl⟩ | ⟨X,hX,rfl,hits,hl⟩
  ·have HA:=hid (show bM s 2 ((dD s).2.at_:Int) from Or.inr ⟨h4,Or.inl ⟨hn,rfl,rfl⟩⟩)
   clear hn
   generalize (dD s).2.at_=p at *
   go_wp2_with fail
   go_ret3
   exact⟨_,_,0,0,2,(p:Int),rfl,rfl,hb1,HA.out,fun h=>by omega⟩
  ·obtain⟨la,lc,hlv⟩:∃ a c,lv=.slice a X.length c:=ak hits.own
   subst hlv
   have HF:=hid (su hX)
   obtain⟨hin1,hin2,afq,Yw⟩:=vV hX
   have acR:Oh X:=fun x hx=>Yw x.it (List.mem_map.2 ⟨x,hx,rfl⟩)
   have HX:=hid hX
   have HI:=hid hits
   have Cb:=hid acR
   have Yx:=hid (DV HF.out h4)
   clear hX hits acR hin1 hin2 afq Yw
   go_wp2_with fail
   refine(DX _ _ _ X HI.out Cb.out hl Yx.out).mono ?_;rintro e w2 ⟨nv,L,rfl,hP,hL,hLl,hb2⟩
   have nM:=hb1.trans (hb2.mono hb1.size)
   obtain⟨na,nc,uy⟩:∃ a c,nv=.slice a L.length c:=ak hP
   subst uy
   have HP:=hid hP
   have HL:=hid hL
   clear hP hL
   by_cases hne:L=[]
   ·have HA:=hid (show bM s 0 0 from Or.inr ⟨h4,Or.inr ⟨X,HX.out,Or.inr ⟨fun a ha=>by have:=(HL.out a).2 ha;rw[hne] at this;simp at this,rfl,rfl⟩⟩⟩)
    have hl0:L.length=0:=by rw[hne];rfl
    have HK:=hid (show VG s w2 (w.heap.size+1) (.slice la X.length lc) from⟨X,HX.out,HI.out.below hb2,hl,fun a ha=>by have:=(HL.out a).2 ha;rw[hne] at this;simp at this⟩)
    generalize L.length=ll at *
    clear hne
    go_wp2_with fail
    go_ret3
    exact⟨_,_,_,_,0,0,rfl,rfl,nM,HA.out,fun _=>HK.out⟩
   ·have hpos:0<L.length:=List.length_pos_iff.2 hne
    have HNE:=hid hne
    clear hne
    go_wp2_with fail
    refine(afp _ _ _ L HP.out HNE.out hLl).mono ?_;rintro e w3 ⟨m,rfl,rfl,hm,hmin⟩
    have HA:=hid (show bM s 3 (m:Int) from Or.inr ⟨h4,Or.inr ⟨X,HX.out,Or.inl ⟨m,(HL.out m).1 hm,fun a ha=>hmin a ((HL.out a).2 ha),rfl,rfl⟩⟩⟩)
    clear hm hmin
    go_wp2_with fail
    go_ret3
    exact⟨_,_,0,0,3,(m:Int),rfl,rfl,nM,HA.out,fun h=>by omega⟩
 ·have HA:=hid (show bM s 1 0 from Or.inl ⟨by omega,rfl,rfl⟩)
  have hgt:(400:Int)<(s.size:Int):=by omega
  go_enter func54,ntmps54
  go_wp2_with fail
  go_ret3
  exact⟨_,_,0,0,1,0,rfl,rfl,Below.refl _ _,HA.out,fun h=>by omega⟩
end Go.Proofs.YtgalebcpagmohaaGreatDoor
