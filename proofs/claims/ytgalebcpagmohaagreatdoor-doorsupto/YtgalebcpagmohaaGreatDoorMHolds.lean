/- Package schemas: repeats, with a map of the call's own. -/
import Derived.Test.YtgalebcpagmohaaGreatDoorMNames
import Derived.Maps.OwnOps
import Derived.Maps.Views
import Derived.Laws.OwnMore
import Derived.Maps.AppendAt
set_option maxHeartbeats 2000000
set_option maxRecDepth 100000
namespace Go.Proofs.YtgalebcpagmohaaGreatDoor
open Go.Proofs.Tryz
open Go.RowKit Go.Maps
theorem Dv {H:Type} {w:World} {lo:Nat} {e:TypeId} {size n:Nat} {v:Value} {xs:List Value} {P:Program} {k:TypeId} {R:Value→Option (DataW H × List MemPlace)} {b m:Nat} {D:DataW H}
  (h:w.ownsRow lo e size v n xs) (hm:w.ownsMap P k R b m D):some b≠v.ownBlock:=by
 obtain⟨es,clock,hb,_⟩:=hm
 rcases h.2 with⟨h',_⟩ | ⟨g',cap',cur,h',_,hg,_⟩
 ·subst h';simp[Value.ownBlock]
 ·subst h'
  intro hh
  have:b=g':=by simpa[Value.ownBlock] using hh
  subst this
  rw[hb] at hg;cases hg
def wO (ts:List aF) (k:Nat):List Nat:=match ts[k]? with | some t=>sZ ((ts.take k).any (fun g=>g.text.toList==t.text.toList)) t.at_ | none=>[]
def kH (ts:List aF) (k:Nat):List Nat:=(List.range k).flatMap (wO ts)
def lF (gs:List (List aF)):List Nat:=gs.flatMap (fun ts=>kH ts ts.length)
theorem Dw (ts:List aF) (k:Nat):kH ts (k+1)=kH ts k++wO ts k:=by unfold kH;rw[List.range_succ,List.flatMap_append];simp
theorem zG (ts:List aF):∀ k,(kH ts k).length≤k
 | 0=>by simp[kH]
 | k+1=>by
  have:=zG ts k
  have h2:(wO ts k).length≤1:=by
   unfold wO;split
   ·exact KG _ _
   ·simp
  rw[Dw,List.length_append];omega
def xu (ts:List aF) (l:List UInt8):Nat:=(ts.filter (fun t=>t.text.toList==l)).length
theorem Yg (ts:List aF) (l:List UInt8):xu ts l≤ts.length:=List.length_filter_le _ _
theorem Gp (ts:List aF) (t:aF) (l:List UInt8):xu (ts++[t]) l=xu ts l+if t.text.toList==l then 1 else 0:=by
 unfold xu;rw[List.filter_append];cases h:(t.text.toList==l)<;>simp[h]
theorem U8 (ts:List aF) (l:List UInt8):ts.any (fun g=>g.text.toList==l)=decide (0<xu ts l):=by
 rw[Bool.eq_iff_iff]
 simp[xu,List.length_pos_iff_exists_mem]
theorem Tryz.mapLaw:Keyed Tryz.prog 9:=string_keyed underlying9
theorem Tryz.zeroInt (w:World):(zeroValue 3).run Tryz.prog w=.ok (.int .i64 0) w:=by kernel_rfl
def Counts (w:World) (b n:Nat) (ts:List aF):Prop:=∃ D:DataW Unit,w.ownsMap Tryz.prog 9 (plainElem Tryz.prog 3) b n D∧IsMap D∧∀ l:List UInt8,D.atKey (.string l) (.lit (.int .i64 0))=.lit (.int .i64 (xu ts l))
structure Groups (w:World) (lo:Nat) (gv:Value) (Gs:List (Value × List aF)):Prop where
 own:w.ownsRow lo 133 1 gv Gs.length (Gs.map (fun p=>p.1))
 each:∀ p∈Gs,w.ownsRow lo 131 2 p.1 p.2.length (p.2.flatMap aA)
 len:∀ p∈Gs,p.2.length≤400
 txt:∀ p∈Gs,∀ t∈p.2,t.text.size≤400
theorem Yh {t:aF} (h:t.text.size≤400):keyOf Tryz.prog 9 (.string t.text)=some (.string t.text.toList):=by
 rw[ByteArray.toList_eq]
 exact Go.WideMaps.keyOf_string_mk underlying9 (by unfold maxLen;omega)
theorem Counts.start (w:World):Counts (w.alloc (.map #[] 0)) w.heap.size 0 [] :=
 ⟨.map [],World.ownsMap_made _ _ _ _,isMap_empty,fun l=>by simp[xu,DataW.atKey]⟩
theorem Counts.put {w:World} {b n:Nat} {ts:List aF} {t:aF} {D:DataW Unit} {c:Int} (hm:w.ownsMap Tryz.prog 9 (plainElem Tryz.prog 3) b n (D.put (.string t.text.toList) (.lit (.int .i64 c)))) (hD:IsMap D)
  (hat:∀ l:List UInt8,D.atKey (.string l) (.lit (.int .i64 0))=.lit (.int .i64 (xu ts l))) (hc:c=(xu ts t.text.toList:Int)+1):Counts w b n (ts++[t]):=by
 refine⟨_,hm,hD.put _ _,fun l=>?_⟩
 rw[Gp]
 by_cases he:l=t.text.toList
 ·subst he
  rw[atKey_put_same hD (show WideAt.IsKeyLit (.string _) from trivial),hc];simp
 ·rw[atKey_put_other (by simpa using he),hat l]
  have:(t.text.toList==l)=false:=by simpa using fun hh=>he hh.symm
  rw[this];simp
theorem Counts.grown {w w0 w1:World} {b n lo e size m:Nat} {ts:List aF} {v:Value} {xs:List Value} (h:Counts w b n ts) (hv:w.ownsRow lo e size v m xs) (hb:Below w.heap.size w w0) (hg:w0.grownBy w1 v.ownBlock):Counts w1 b n ts:=by
 obtain⟨D,hm,hD,hat⟩:=h
 have hne:=Dv hv hm
 have hlt:=hm.lt
 obtain⟨es,clock,hbk,F,hs,hDD⟩:=hm
 exact⟨D,⟨es,clock,((hg.block b (Nat.lt_of_lt_of_le hlt hb.size) hne).trans (hb.block b hlt)).trans hbk,F,hs,hDD⟩,hD,hat⟩
theorem RZ (gs:List (List aF)) (ts:List aF):lF (gs++[ts])=lF gs++kH ts ts.length:=by simp[lF]
theorem Dx (gs:List (List aF)) (h:∀ ts∈gs,ts.length≤400):(lF gs).length≤gs.length*400:=by
 induction gs with
 | nil=>simp[lF]
 | cons a r ih=>
  have h1:=ih (fun ts hts=>h ts (by simp[hts]))
  have h2:=zG a a.length
  have h3:=h a (by simp)
  have e:lF (a::r)=kH a a.length++lF r:=by simp[lF]
  rw[e,List.length_append,List.length_cons];omega
theorem KI {w w':World} {a:Addr} {v:Value} (hb:Below w.heap.size w w') (h:w.cell? a=some v) (hlt:a.block<w.heap.size):w'.cell? a=some v:=(hb.cell hlt).trans h
theorem U9 {w:World} {lo:Nat} {g cap:Nat} {Gs:List (Value × List aF)} (h:w.ownsRow lo 133 1 (.slice (some ⟨g,0,none⟩) Gs.length cap) Gs.length (Gs.map (fun p=>p.1))) {q:Nat} {p:Value × List aF} (hq:Gs[q]? = some p):w.cell? ⟨g,q,none⟩=some p.1:=by
 have:=iR hq
 rw[h.cellAt q (by omega),List.getElem?_map,hq];rfl
theorem uN (w:World) (lo:Nat) (gv:Value) (Gs:List (Value × List aF)) (h:Groups w lo gv Gs) (hl:Gs.length≤2) :
  Calls Tryz.prog 133 #[gv] w fun e w'=>∃ nv,e=.returned nv∧Places w' w.heap.size nv (lF (Gs.map (fun p=>p.2)))∧Below w.heap.size w w':=by
 have hmm:=@run_makeMap Tryz.prog
 obtain⟨iI,wX,hI0,hI1,hI2⟩:=info_parts Tryz.infoInt
 obtain⟨la,lc,hlv⟩:∃ a c,gv=.slice a Gs.length c:=ak h.own
 subst hlv
 have H:=hid h
 clear h
 go_enter func133,ntmps133
 go_wp2_with fail
 go_loopg [3,5,6,8,11] Gs.length (fun gk nv x5 x6 x8 i wr=>∃ q:Nat,q+gk=Gs.length∧i=.int .i64 q∧Hid (Places wr w.heap.size nv (lF ((Gs.take q).map (fun p=>p.2))))∧Below w.heap.size w wr)
 case atStart=>exact⟨0,by omega,rfl,hid (World.ownsRow_nil _ _ _ _),Below.refl _ _⟩
 case round=>
  obtain⟨q,hq,rfl,HO,hbel⟩:=hrel
  have hsz:=hbel.size
  by_cases hlt:q<Gs.length
  ·obtain⟨p,hp⟩:∃ p,Gs[q]? = some p:=⟨Gs[q],List.getElem?_eq_getElem hlt⟩
   obtain⟨g,cap,hv,hgl,hgs⟩:=dM H.out.own (by omega)
   obtain⟨rfl,rfl⟩:la=some ⟨g,0,none⟩∧lc=cap:=by simpa using hv
   have c0:=KI hbel (U9 H.out.own hp) hgs
   have HG:=hid (H.out.each p (List.mem_of_getElem? hp))
   have hts:=H.out.len p (List.mem_of_getElem? hp)
   have HTX:=hid (H.out.txt p (List.mem_of_getElem? hp))
   have HE:=hid (show (Gs.take (q+1)).map (fun p=>p.2)=(Gs.take q).map (fun p=>p.2)++[p.2] by rw[List.take_add_one,hp];simp)
   have hal:(lF ((Gs.take q).map (fun p=>p.2))).length≤800:=by
    have:=Dx ((Gs.take q).map (fun p=>p.2)) (fun ts hts=>by
     obtain⟨r,hr,rfl⟩:=List.mem_map.1 hts
     exact H.out.len r (List.mem_of_mem_take hr))
    rw[List.length_map,List.length_take] at this;omega
   obtain⟨pv,ts⟩:=p
   dsimp only at *
   generalize hA:lF ((Gs.take q).map (fun p=>p.2))=A at *
   have HA:=hid hA
   clear hA hv hp
   obtain⟨na,nc,uy⟩:∃ a c,u3=.slice a A.length c:=ak HO.out
   obtain⟨pa,pc,hpv⟩:∃ a c,pv=.slice a ts.length c:=ak HG.out
   subst uy hpv
   obtain⟨w0,hw0⟩:∃ w0,w0=wr:=⟨_,rfl⟩
   obtain⟨aeW,hg1⟩:∃ g,g=gk:=⟨_,rfl⟩
   subst hw0 hg1
   go_wp2_with fail
   go_loopg [3,8,18] ts.length (fun g2 nv b i w2=>∃ k:Nat,k+g2=ts.length∧i=.int .i64 k∧Hid (Places w2 w.heap.size nv (A++kH ts k))∧Hid (Counts w2 w0.heap.size k (ts.take k))∧Below w.heap.size w w2)
   case atStart=>exact⟨0,by omega,rfl,hid (by have:=HO.out.alloc (.map #[] 0);simpa[kH,Places] using this),hid (Counts.start w0),hbel.alloc hsz _⟩
   case round=>
    obtain⟨k,hk,rfl,HP,HC,Ot⟩:=hrel
    have hsz2:=Ot.size
    have hrl:=zG ts k
    have hlen2:(A++kH ts k).length≤1200:=by rw[List.length_append];omega
    have Ya:=hid (show A++kH ts (k+1)=(A++kH ts k)++wO ts k by rw[Dw];simp)
    have Si:=hid (show k=ts.length→A++kH ts k=A++kH ts ts.length from fun e=>by rw[e])
    generalize A++kH ts k=L at *
    obtain⟨na2,nc2,uy⟩:∃ a c,u3=.slice a L.length c:=ak HP.out
    subst uy
    by_cases hkl:k<ts.length
    ·obtain⟨t,ht⟩:∃ t,ts[k]? = some t:=⟨ts[k],List.getElem?_eq_getElem hkl⟩
     obtain⟨tg,aeX,U6,htl,aiM,hs⟩:=zD (au HG.out (fun g hg=>Ot.block g (HG.out.lt g hg).2)) ht
     obtain⟨rfl,rfl⟩:pa=some ⟨tg,0,none⟩∧pc=aeX:=by simpa using U6
     have e0:wr.cell? ⟨tg,k*2,none⟩=some (.string t.text):=hs.cell (j:=0) rfl
     have e1:wr.cell? ⟨tg,k*2+1,none⟩=some (.int .i64 t.at_):=hs.cell (j:=1) rfl
     have hkey:=Yh (HTX.out t (List.mem_of_getElem? ht))
     have HK:=hid (show ts.take (k+1)=ts.take k++[t] by rw[List.take_add_one,ht];rfl)
     have HR:=hid (show wO ts k=sZ (decide (0<xu (ts.take k) t.text.toList)) t.at_ by
      unfold wO;rw[ht];simp only[U8])
     have aeY:=Yg (ts.take k) t.text.toList
     rw[List.length_take] at aeY
     obtain⟨D,hown,hD,hat⟩:=HC.out
     have HHD:=hid hD
     have HAT:=hid hat
     have hown0:=hown.alloc (.cells #[.string t.text,.int .i64 t.at_] 131)
     have HHO:=hid hown
     clear hs U6 ht hD hat hown
     have HPA:=hid (HP.out.alloc (.cells #[.string t.text,.int .i64 t.at_] 131))
     go_wp2_with (first
      | (at_lookup;refine wpList_lookup_own_int _ rfl _ _ 284 rfl 9 3 .i64 Tryz.mapLaw underlying284 underlying3 (Tryz.zeroInt _) w0.heap.size k _ rfl hown0 _ _ rfl hkey ?_;intro c hc hwc;rw[HAT.out] at hc;obtain rfl:((xu (ts.take k) t.text.toList:Nat):Int)=c:=(by simpa using hc);clear hc hwc)
      | (at_mapUpdate;refine wpList_mapUpdate_own _ rfl _ _ _ 284 rfl 9 3 Tryz.mapLaw underlying284 _ w0.heap.size k _ rfl hown0 (by unfold maxLen;omega) _ _ _ rfl rfl hkey _ [] (plainElem_int underlying3 (WalkArith.wf_i64 (by omega))) ?_)
      | fail)
     intro w1 hown1 hgrow1
     have hmb:=HHO.out.lt
     have HB1:=hid (show Below w.heap.size w w1 from(Ot.alloc hsz2 _).grown hgrow1 (by simp;omega) (fun j hj=>by cases hj;exact hsz))
     have hz1:wr.heap.size+1≤w1.heap.size:=by have:=hgrow1.size;simpa using this
     have d0:w1.cell? ⟨wr.heap.size,0,none⟩=some (.string t.text):=by
      rw[World.cell?_of_block (hgrow1.block wr.heap.size (by simp) (by simp;omega))];simp
     have d1:w1.cell? ⟨wr.heap.size,1,none⟩=some (.int .i64 t.at_):=by
      rw[World.cell?_of_block (hgrow1.block wr.heap.size (by simp) (by simp;omega))];simp
     have qo:=hid (show Places w1 w.heap.size (.slice na2 L.length nc2) L from au HPA.out (fun g hg=>hgrow1.block g (HPA.out.lt g hg).2 (fun hh=>Dv HPA.out hown0 (by rw[hg];exact hh.symm))))
     have wP:=hid (show Counts w1 w0.heap.size (k+1) (ts.take (k+1)) by rw[HK.out];exact Counts.put hown1 HHD.out HAT.out rfl)
     have HCN:=hid (show xu (ts.take (k+1)) t.text.toList=xu (ts.take k) t.text.toList+1 by rw[HK.out,Gp];simp)
     obtain⟨D1,hm1,hD1,acy⟩:=wP.out
     have acz:=hid acy
     clear hown1 hgrow1 acy hD1 HAT HHD HHO hown0 HPA e0 e1 hmb
     have acA:=hid (Ya.out.trans (by rw[HR.out]))
     generalize hcn:xu (ts.take k) t.text.toList=cn at *
     cases hdup:decide (0<cn) with
     | false=>
      have acB:¬ (1:Int)<(cn:Int)+1:=by simp at hdup;omega
      have HL:=hid (show A++kH ts (k+1)=L by rw[acA.out,hdup];simp[sZ])
      go_wp2_with (first
       | (at_lookup;refine wpList_lookup_own_int _ rfl _ _ 284 rfl 9 3 .i64 Tryz.mapLaw underlying284 underlying3 (Tryz.zeroInt _) w0.heap.size (k+1) _ rfl hm1 _ _ rfl hkey ?_;intro c hc hwc;rw[acz.out,HCN.out] at hc;obtain rfl:((cn:Nat):Int)+1=c:=(by simpa using hc);clear hc hwc)
       | fail)
      go_roundg (gk-1)
      case rel=>exact⟨k+1,by omega,by go_num,hid (by rw[HL.out];exact qo.out),wP,HB1.out⟩
      case measure=>omega
     | true=>
      have acB:(1:Int)<(cn:Int)+1:=by simp at hdup;omega
      have HL:=hid (show A++kH ts (k+1)=L++[t.at_] by rw[acA.out,hdup];simp[sZ])
      go_wp2_with (first
       | (at_lookup;refine wpList_lookup_own_int _ rfl _ _ 284 rfl 9 3 .i64 Tryz.mapLaw underlying284 underlying3 (Tryz.zeroInt _) w0.heap.size (k+1) _ rfl hm1 _ _ rfl hkey ?_;intro c hc hwc;rw[acz.out,HCN.out] at hc;obtain rfl:((cn:Nat):Int)+1=c:=(by simpa using hc);clear hc hwc)
       | (at_builtin;refine wpList_append_lies _ rfl _ _ 86 rfl w.heap.size 3 iI _ 1 8 underlying86 wX hI0 hI1 hI2 rfl (by decide) _ _ _ rfl (qo.out.alloc _) ⟨_,0,none⟩ 1 1 [eX t.at_] rfl rfl (dh _ _ (by simp) #[.int .i64 t.at_] _) (by simp[eX,Value.oneCell']) (by omega) (by unfold maxLen;omega) (by omega) (by simp;omega) _ rfl ?_)
       | fail)
      intro g5 cp5 w5 hown5 dw _ _
      have hb5:=kG HB1.out (by omega) qo.out (Nat.le_refl _) dw
      have jW:=hid (show Counts w5 w0.heap.size (k+1) (ts.take (k+1)) from wP.out.grown qo.out ((Below.refl _ _).alloc (Nat.le_refl _) _) dw)
      clear dw
      go_wp2_with fail
      go_roundg (gk-1)
      case rel=>exact⟨k+1,by omega,by go_num,hid (by show World.ownsRow _ _ _ _ _ _ _;rw[HL.out];simpa using hown5),jW,hb5⟩
      case measure=>omega
    ·have HL:=hid (show lF ((Gs.take (q+1)).map (fun p=>p.2))=L by rw[HE.out,RZ,HA.out,Si.out (by omega)])
     go_wp2_with fail
     go_roundg (aeW-1)
     case rel=>exact⟨q+1,by omega,by go_num,hid (by rw[HL.out];exact HP.out),Ot⟩
     case measure=>omega
  ·have HL:=hid (show Gs.take q=Gs from List.take_of_length_le (by omega))
   go_wp2_with fail
   go_ret
   exact⟨_,rfl,by have:=HO.out;rw[HL.out] at this;exact this,hbel⟩
def Edge (X:List bY) (i j:Nat):Prop:=∃ x f,X[i]? = some x∧f∈x.it.fields∧f.shape=0∧bT X f.base.toList=(j:Int)
def WayL {α:Type} (E:α → α → Prop):Nat → α → α → Prop
  | 0,i,j => E i j
  | n + 1,i,k => ∃ j,E i j ∧ WayL E n j k
theorem WayL.ind {α:Type} {E:α → α → Prop} {P:α → α → Prop} (one:∀ i j,E i j → P i j) (more:∀ i j k n,E i j → WayL E n j k → P j k → P i k):∀ (n:Nat) (i k:α),WayL E n i k → P i k
  | 0,i,k,h => one i k h
  | n + 1,i,k,⟨j,e,h⟩ => more i j k n e h (WayL.ind one more n j k h)
def Way (X:List bY) (i k:Nat):Prop := ∃ n,WayL (Edge X) n i k
theorem Way.one {X:List bY} {i j:Nat} (e:Edge X i j):Way X i j := ⟨0,e⟩
theorem Way.more {X:List bY} {i j k:Nat} (e:Edge X i j) (h:Way X j k):Way X i k := h.elim fun n hn => ⟨n + 1,j,e,hn⟩
theorem Way.ind {X:List bY} {motive:∀ i k,Way X i k → Prop} (one:∀ {i j} (e:Edge X i j),motive i j (.one e)) (more:∀ {i j k} (e:Edge X i j) (h:Way X j k),motive j k h → motive i k (.more e h)):∀ {i k} (h:Way X i k),motive i k h :=
  fun {i k} ⟨n,h⟩ => WayL.ind (P := fun i k => ∀ h,motive i k h) (fun _ _ e _ => one e) (fun _ _ _ n e h ih _ => more e ⟨n,h⟩ (ih _)) n i k h _
def Dy (X:List bY) (fs:List bD) (j k:Nat):Prop:=∃ f∈fs.take j,f.shape=0∧bT X f.base.toList=(k:Int)
def zH (b:List Bool) (j:Nat):Bool:=(b[j]?).getD false
structure ny (X:List bY) (whole:Nat) (b0 b:List Bool) (E:Nat→Prop):Prop where
 mono:∀ j,zH b0 j=true→zH b j=true
 new:∀ j,zH b j=true→zH b0 j=false→j≠whole∧∀ k,Edge X j k→zH b k=true
 done:∀ k,E k→zH b k=true
def Va (X:List bY) (whole i:Nat) (b0:List Bool) (r:Bool) (b:List Bool):Prop:=match r with | true=>Way X i whole | false=>ny X whole b0 b (Edge X i)
theorem ny.start (X:List bY) (whole:Nat) (b:List Bool) (fs:List bD):ny X whole b b (Dy X fs 0) :=
 ⟨fun _ h=>h,fun j h h'=>by(rw[h] at h';cases h'),fun k ⟨f,hf,_⟩=>by simp at hf⟩
theorem ny.skip {X:List bY} {whole:Nat} {b0 b:List Bool} {fs:List bD} {j:Nat} {f:bD} (h:ny X whole b0 b (Dy X fs j)) (hf:fs[j]? = some f) (hs:f.shape≠0∨bT X f.base.toList<0∨∃ k:Nat,bT X f.base.toList=(k:Int)∧zH b k=true):ny X whole b0 b (Dy X fs (j+1)):=by
 refine⟨h.mono,h.new,fun k hk=>?_⟩
 obtain⟨f',hm,h0,he⟩:=hk
 rw[List.take_add_one,hf] at hm
 simp only[Option.toList_some,List.mem_append,List.mem_singleton] at hm
 rcases hm with hm | rfl
 ·exact h.done k ⟨f',hm,h0,he⟩
 ·rcases hs with hs | hs | ⟨q,hq,hb⟩
  ·exact absurd h0 hs
  ·omega
  ·rw[show k=q from by omega];exact hb
theorem IE {b:List Bool} {k:Nat} (hk:k<b.length) (j:Nat):zH (b.set k true) j=(if j=k then true else zH b j):=by
 unfold zH
 rw[List.getElem?_set]
 by_cases h:k=j
 ·subst h;simp[hk]
 ·rw[if_neg h,if_neg (fun e=>h e.symm)]
theorem ny.deep {X:List bY} {whole:Nat} {b0 b b2:List Bool} {fs:List bD} {j k:Nat} {f:bD} (h:ny X whole b0 b (Dy X fs j)) (hf:fs[j]? = some f) (he:bT X f.base.toList=(k:Int)) (hw:k≠whole) (hk:k<b.length) (h2:ny X whole (b.set k true) b2 (Edge X k)):ny X whole b0 b2 (Dy X fs (j+1)):=by
 have hm2:∀ q,zH b q=true→zH b2 q=true:=fun q hq=>h2.mono q (by rw[IE hk];split<;>simp_all)
 have hk2:zH b2 k=true:=h2.mono k (by rw[IE hk];simp)
 refine⟨fun q hq=>hm2 q (h.mono q hq),fun q hq hq0=>?_,fun q hq=>?_⟩
 ·by_cases hqk:q=k
  ·subst hqk;exact⟨hw,h2.done⟩
  ·cases hbq:zH b q with
   | true=>have:=h.new q hbq hq0;exact⟨this.1,fun r hr=>hm2 r (this.2 r hr)⟩
   | false=>exact h2.new q hq (by rw[IE hk,if_neg hqk];exact hbq)
 ·obtain⟨f',hm,h0,he'⟩:=hq
  rw[List.take_add_one,hf] at hm
  simp only[Option.toList_some,List.mem_append,List.mem_singleton] at hm
  rcases hm with hm | rfl
  ·exact hm2 q (h.done q ⟨f',hm,h0,he'⟩)
  ·rw[show q=k from by omega];exact hk2
theorem ny.all {X:List bY} {whole i:Nat} {b0 b:List Bool} {x:bY} {j:Nat} (hx:X[i]? = some x) (hj:x.it.fields.length≤j) (h:ny X whole b0 b (Dy X x.it.fields j)):ny X whole b0 b (Edge X i):=by
 refine⟨h.mono,h.new,fun k ⟨y,f,hy,hm,h0,he⟩=>h.done k ⟨f,?_,h0,he⟩⟩
 rw[hx] at hy
 cases hy
 rw[List.take_of_length_le hj];exact hm
def qp (b:List Bool):Nat:=b.count false
theorem Dz:∀ (b:List Bool) (k:Nat),b[k]? = some false→qp (b.set k true)<qp b
 | [],k,h=>by simp at h
 | a::r,0,h=>by simp at h;subst h;simp[qp]
 | a::r,k+1,h=>by
  have:=Dz r k (by simpa using h)
  unfold qp at *
  rw[List.set_cons_succ,List.count_cons,List.count_cons];omega
theorem Az:∀ (b b':List Bool),b.length=b'.length→(∀ j,zH b j=true→zH b' j=true)→qp b'≤qp b
 | [],b',hl,_=>by
  have:b'=[]:=by cases b' with | nil=>rfl | cons a r=>simp at hl
  subst this;exact Nat.le_refl _
 | a::r,[],hl,_=>by simp at hl
 | a::r,a'::r',hl,h=>by
  have:=Az r r' (by simpa using hl) (fun j hj=>by have:=h (j+1);unfold zH at this hj ⊢;simpa using this (by simpa using hj))
  have h0:=h 0
  unfold qp at *
  rw[List.count_cons,List.count_cons]
  cases a<;>cases a'<;>simp_all[zH]<;>omega
theorem ny.acC {X:List bY} {whole:Nat} {n:Nat} {b:List Bool} {E:Nat→Prop} (h:ny X whole (List.replicate n false) b E) {i:Nat} (hi:∀ k,Edge X i k→zH b k=true):¬ Way X i whole:=by
 have h0:∀ j,zH (List.replicate n false) j=false:=fun j=>by
  unfold zH;rw[List.getElem?_replicate];split<;>rfl
 intro hw
 have hall:∀ (a c:Nat),Way X a c→c=whole→(∀ k,Edge X a k→zH b k=true)→False:=by
  intro a c hw
  induction hw using Way.ind with
  | one e=>intro hc hk;subst hc;exact(h.new _ (hk _ e) (h0 _)).1 rfl
  | more e _ ih=>intro hc hk;exact ih hc (h.new _ (hk _ e) (h0 _)).2
 exact hall i whole hw rfl hi
theorem Va.way {X:List bY} {whole i n:Nat} {r:Bool} {b:List Bool} (h:Va X whole i (List.replicate n false) r b):r=true↔Way X i whole:=by
 cases r with
 | true=>exact⟨fun _=>h,fun _=>rfl⟩
 | false=>exact⟨fun e=>(by cases e),fun hw=>absurd hw (ny.acC h h.done)⟩
theorem Yi {b:List Bool} {j:Nat} (hj:j<b.length):(b.map Value.bool)[j]? = some (.bool (zH b j)):=by
 rw[List.getElem?_map,List.getElem?_eq_getElem hj]
 simp[zH,List.getElem?_eq_getElem hj]
theorem Sj {b:List Bool} {j:Nat} (hj:j<b.length) (h:zH b j=false):b[j]? = some false:=by
 rw[List.getElem?_eq_getElem hj]
 unfold zH at h
 rw[List.getElem?_eq_getElem hj] at h
 simpa using h
theorem Vb (b:List Bool) (j:Nat):(b.map Value.bool).set j (.bool true)=(b.set j true).map Value.bool:=by rw[List.map_set]
theorem Yj {X:List bY} {n:List UInt8} (h:¬ bT X n<0):∃ j:Nat,bT X n=(j:Int)∧j<X.length:=by
 unfold bT at *
 cases hf:X.findIdx? (fun x=>iq n x.it) with
 | none=>rw[hf] at h;simp at h
 | some j=>
  rw[List.findIdx?_eq_some_iff_getElem] at hf
  exact⟨j,rfl,hf.1⟩
theorem Ou (n:Nat):∀ (w0 w:World) (lo:Nat) (lv:Value) (X:List bY) (i whole bg:Nat) (been:List Bool),fQ w0 lo lv X→Oh X→X.length≤400→(∀ x∈X,x.it.fields.length≤400)→Below w0.heap.size w0 w→w0.heap.size≤bg→Seg w bg 4 0 (been.map Value.bool)→been.length=X.length→i<X.length→whole<X.length→qp been=n →
  Calls Tryz.prog 138 #[lv,.int .i64 i,.int .i64 whole,.slice (some ⟨bg,0,none⟩) X.length X.length] w fun e w'=>∃ b Qe,e=.returned (.bool b)∧Below bg w w'∧Seg w' bg 4 0 (Qe.map Value.bool)∧Qe.length=X.length∧Va X whole i been b Qe:=by
 induction n using Nat.strongRecOn with
 | ind n ih=>
 intro w0 w lo lv X i whole bg been h hn hX hfl hb0 hbg hs hbl hi hw hfa
 obtain⟨x,hx⟩:∃ x,X[i]? = some x:=⟨X[i],List.getElem?_eq_getElem hi⟩
 obtain⟨la,lc,hlv⟩:∃ a c,lv=.slice a X.length c:=ak h.own
 subst hlv
 obtain⟨g,cap,hv,hgl,hgs⟩:=dM h.own (by omega)
 obtain⟨rfl,rfl⟩:la=some ⟨g,0,none⟩∧lc=cap:=by simpa using hv
 obtain⟨m,hm⟩:=(h.below hb0).uM hn hx
 have hrow:=(h.nest x (List.mem_of_getElem? hx)).f
 have hl4:=hfl x (List.mem_of_getElem? hx)
 have hbz:=hs.lt
 rw[hm.vf] at hrow
 have hseg:=hm.seg
 obtain⟨fa,fc,na,nc,bb,ba,ab,aa⟩:=m
 dsimp only at hrow hseg
 have c3:=hseg.cell (j:=3) rfl
 have IH:=hid ih
 have H:=hid h
 have HN:=hid hn
 have HX:=hid hx
 have Z8:=hid hrow
 have Vd:=hid hfl
 have HS:=hid hs
 have HB0:=hid hb0
 clear ih h hn hx hrow hfl hs hm hseg hv hb0
 generalize hfs:x.it.fields=fs at *
 have Ob:=hid hfs
 clear hfs
 go_enter func138,ntmps138
 go_wp2_with fail
 go_loopg [10,11,18] fs.length (fun gk fb nx jj wr=>∃ (k:Nat) (b1:List Bool),k+gk=fs.length∧jj=.int .i64 k∧Hid (Seg wr bg 4 0 (b1.map Value.bool))∧b1.length=X.length∧Hid (ny X whole been b1 (Dy X fs k))∧Below bg w wr∧qp b1≤n)
 case atStart=>exact⟨0,been,by omega,rfl,hid HS.out,hbl,hid (ny.start _ _ _ _),Below.refl _ _,by omega⟩
 case round=>
  obtain⟨k,b1,hk,rfl,Il,Ov,HP,hbel,hfn⟩:=hrel
  have hsz:=hbel.size
  have aeZ:bg<wr.heap.size:=Il.out.lt
  have hbw:Below w0.heap.size w0 wr:=HB0.out.trans (hbel.mono hbg)
  by_cases hlt:k<fs.length
  ·obtain⟨f,hf⟩:∃ f,fs[k]? = some f:=⟨fs[k],List.getElem?_eq_getElem hlt⟩
   obtain⟨gf,Z9,hvf,ae0,ae1,hsf⟩:=nU (au Z8.out (fun q hq=>hbw.block q (Z8.out.lt q hq).2)) hf
   obtain⟨rfl,rfl⟩:fa=some ⟨gf,0,none⟩∧fc=Z9:=by simpa using hvf
   have e0:wr.cell? ⟨gf,k*7,none⟩=some (.int .i64 f.number):=hsf.cell (j:=0) rfl
   have e1:wr.cell? ⟨gf,k*7+1,none⟩=some (.int .i64 f.numberAt):=hsf.cell (j:=1) rfl
   have e2:wr.cell? ⟨gf,k*7+2,none⟩=some (.string f.name):=hsf.cell (j:=2) rfl
   have e3:wr.cell? ⟨gf,k*7+3,none⟩=some (.int .i64 f.nameAt):=hsf.cell (j:=3) rfl
   have e4:wr.cell? ⟨gf,k*7+4,none⟩=some (.int .i64 f.shape):=hsf.cell (j:=4) rfl
   have e5:wr.cell? ⟨gf,k*7+5,none⟩=some (.string f.base):=hsf.cell (j:=5) rfl
   have e6:wr.cell? ⟨gf,k*7+6,none⟩=some (.int .i64 f.bV):=hsf.cell (j:=6) rfl
   have hbx:Below wr.heap.size wr (wr.alloc (.cells #[.int .i64 f.number,.int .i64 f.numberAt,.string f.name,.int .i64 f.nameAt,.int .i64 f.shape,.string f.base,.int .i64 f.bV] 278)):=(Below.refl _ _).alloc (Nat.le_refl _) _
   have HF:=hid hf
   clear hsf hvf hf
   go_wp2_with fail
   refine(sW _ lo _ X f.base (H.out.below (hbw.trans (hbx.mono hbw.size))) HN.out hX).mono ?_;rintro e w1 ⟨rfl,hb1⟩
   have rW:Below wr.heap.size wr w1:=hbx.trans (hb1.mono hbx.size)
   have hz1:=rW.size
   have Yk:Below bg w w1:=hbel.trans (rW.mono (by omega))
   have Sl:=hid (Il.out.same (rW.block bg aeZ))
   have d4:w1.cell? ⟨wr.heap.size,4,none⟩=some (.int .i64 f.shape):=by rw[hb1.cell (by simp)];simp
   by_cases hsh:f.shape=0
   ·have hsh':((f.shape:Int)==0)=true:=by simp[hsh]
    by_cases hneg:bT X f.base.toList<0
    ·have Rz:=hid (HP.out.skip HF.out (Or.inr (Or.inl hneg)))
     generalize bT X f.base.toList=fi at *
     go_wp2_with fail
     go_roundg (gk-1)
     case rel=>exact⟨k+1,b1,by omega,by go_num,hid Sl.out,Ov,hid Rz.out,Yk,hfn⟩
     case measure=>omega
    ·obtain⟨nx,hnx,ae2⟩:=Yj hneg
     have HNX:=hid hnx
     rw[hnx] at hneg ⊢
     have b0:=Sl.out.cell (j:=nx) (Yi (by omega))
     simp only[Nat.zero_add] at b0
     have hfz:=Sl.out.frozen nx
     cases hbn:zH b1 nx with
     | true=>
      rw[hbn] at b0
      have Rz:=hid (HP.out.skip HF.out (Or.inr (Or.inr ⟨nx,hnx,hbn⟩)))
      clear hnx
      go_wp2_with fail
      go_roundg (gk-1)
      case rel=>exact⟨k+1,b1,by omega,by go_num,hid Sl.out,Ov,hid Rz.out,Yk,hfn⟩
      case measure=>omega
     | false=>
      rw[hbn] at b0
      have hfalse:=Sj (by omega) hbn
      have aiO:=Dz b1 nx hfalse
      have hst:=Sl.out.set nx (.bool true)
      simp only[Nat.zero_add] at hst
      rw[Vb] at hst
      have HST:=hid hst
      have aac:Below bg w (w1.setCell ⟨bg,nx,none⟩ (.bool true)):=Yk.setCell (Nat.le_refl _) _
      have HED:=hid (show Edge X i nx from⟨x,f,HX.out,by rw[Ob.out];exact List.mem_of_getElem? HF.out,hsh,hnx⟩)
      clear hnx hst
      by_cases hwh:nx=whole
      ·subst hwh
       go_wp2_with fail
       go_ret
       exact⟨true,b1.set nx true,rfl,aac,HST.out,by simp[Ov],.one HED.out⟩
      ·have aiP:((nx:Int)==(whole:Int))=false:=by simp;omega
       have HWH:=hid hwh
       clear hwh
       go_wp2_with fail
       refine(IH.out (qp (b1.set nx true)) (by omega) w0 _ lo _ X nx whole bg (b1.set nx true) H.out HN.out hX Vd.out (HB0.out.trans (aac.mono hbg)) hbg HST.out (by simp[Ov]) ae2 hw rfl).mono ?_;rintro e w2 ⟨r,Ve,rfl,hb2,hs2,hl2,hp2⟩
       have Ot:=aac.trans hb2
       have HS2:=hid hs2
       have HP2:=hid hp2
       clear hs2 hp2
       cases r with
       | true=>
        go_wp2_with fail
        go_ret
        exact⟨true,Ve,rfl,Ot,HS2.out,hl2,.more HED.out HP2.out⟩
       | false=>
        have hfm:=Az (b1.set nx true) Ve (by simp[Ov,hl2]) HP2.out.mono
        have HDP:=hid (HP.out.deep HF.out HNX.out HWH.out (by omega) HP2.out)
        go_wp2_with fail
        go_roundg (gk-1)
        case rel=>exact⟨k+1,Ve,by omega,by go_num,hid HS2.out,hl2,hid HDP.out,Ot,by omega⟩
        case measure=>omega
   ·have hsh':((f.shape:Int)==0)=false:=by simp[hsh]
    have Rz:=hid (HP.out.skip HF.out (Or.inl hsh))
    generalize bT X f.base.toList=fi at *
    go_wp2_with fail
    go_roundg (gk-1)
    case rel=>exact⟨k+1,b1,by omega,by go_num,hid Sl.out,Ov,hid Rz.out,Yk,hfn⟩
    case measure=>omega
  ·have HE:=hid (ny.all HX.out (j:=k) (by rw[Ob.out];omega) (by rw[Ob.out];exact HP.out))
   go_wp2_with fail
   go_ret
   exact⟨false,b1,rfl,hbel,Il.out,Ov,HE.out⟩
theorem Tryz.infoIntAt:∃ i,Tryz.prog.info? 3 = some i∧i.zero=some (.int .i64 0)∧i.size=1∧i.bytes=8:=by
 obtain⟨iI,wX,hI0,hI1,hI2⟩:=info_parts Tryz.infoInt
 exact⟨iI,wX,hI0,hI1,hI2⟩
theorem IG (w:World) {o:Oper} {a:Act} {K:Act→World→Prop} {Q:Exit→Act→World→Prop} (s x:Operand)
  (ho:o.op=.call { callee:=.builtin .append,args:=#[s,x],argTypes:=#[86,86] })
  (v:Value) (L:List Nat) (lo:Nat) (hs:a.eval s=v) (hP:Places w lo v L) (v2:Value) (L2:List Nat) (lo2:Nat) (hx:a.eval x=v2) (hP2:Places w lo2 v2 L2)
  (hlen:L.length+L2.length≤1000000) (hlo:lo≤w.heap.size)
  (h:∀ a' c' w',Places w' lo (.slice a' (L++L2).length c') (L++L2)→w.grownBy w' v.ownBlock→K (a.put o.dst (.slice a' (L++L2).length c')) w'):o.wp Tryz.prog a w K Q:=by
 obtain⟨iI,wX,hI0,hI1,hI2⟩:=Tryz.infoIntAt
 obtain⟨v',w',hr,h2,h3⟩:∃ v' w',(Builtin.append_ #[86,86] o.type #[v,v2]).run Tryz.prog w=.ok v' w'∧Places w' lo v' (L++L2)∧w.grownBy w' v.ownBlock:=by
  rcases hP2.2 with⟨rfl,h0⟩ | ⟨g,cap,cur,hv2,_⟩
  ·have hL2:L2=[]:=List.eq_nil_of_length_eq_zero h0
   subst hL2
   exact⟨v,w,run_append_owned_none w lo 86 o.type 3 iI 1 underlying86 wX v L.length _ hP,by simpa using hP,⟨rfl,rfl,rfl,Nat.le_refl _,fun _ _ _=>rfl⟩⟩
  ·subst hv2
   obtain⟨v',w',hr,h2,h3,_⟩:=run_append_own_at (P:=Tryz.prog) w lo 86 o.type 3 iI (.int .i64 0) 1 8 underlying86 wX hI0 hI1 hI2 rfl (by decide) v L.length (L.map eX) hP ⟨g,0,none⟩ L2.length cap (L2.map eX) (by simp) (hP2.cells (g:=g) rfl) (fun u hu=>by obtain⟨q,_,rfl⟩:=List.mem_map.1 hu;rfl) (by unfold maxLen;omega) (by omega) hlo
   refine⟨v',w',hr,?_,h3⟩
   show w'.ownsRow _ _ _ _ _ _
   rw[List.length_append,List.map_append];exact h2
 obtain⟨a',c',hv'⟩:=ak h2
 subst hv'
 unfold Oper.wp execOp
 simp only[ho,resolve,invoke,builtin,Sem.run_bind,Sem.run_pure,Result.andThen_ok,List.map_toArray,List.map_cons,List.map_nil,hs,hx,hr]
 exact h a' c' w' h2 h3
theorem jo (w:World) {ops:Array Oper} {rest:List Oper} {o:Oper} {a:Act} {Q:Exit→Act→World→Prop} (hgd:o.guard=none) (s x:Operand)
  (ho:o.op=.call { callee:=.builtin .append,args:=#[s,x],argTypes:=#[86,86] })
  (v:Value) (L:List Nat) (lo:Nat) (hs:a.eval s=v) (hP:Places w lo v L) (v2:Value) (L2:List Nat) (lo2:Nat) (hx:a.eval x=v2) (hP2:Places w lo2 v2 L2)
  (hlen:L.length+L2.length≤1000000) (hlo:lo≤w.heap.size)
  (h:∀ a' c' w',Places w' lo (.slice a' (L++L2).length c') (L++L2)→w.grownBy w' v.ownBlock→wpList Tryz.prog ops Q rest (a.put o.dst (.slice a' (L++L2).length c')) w'):wpList Tryz.prog ops Q (o::rest) a w :=
 wpList_plain hgd fun _ hK=>IG w s x ho v L lo hs hP v2 L2 lo2 hx hP2 hlen hlo fun a' c' w' h2 h3=>hK _ _ (h a' c' w' h2 h3)
end Go.Proofs.YtgalebcpagmohaaGreatDoor
