/- Package schemas: repeats, with a map of the call's own. -/
import Derived.Test.YtdgcamlmjmnpeaaGreatDoorMNames
import Derived.Maps.OwnOps
import Derived.Maps.Views
import Derived.Laws.OwnMore
import Derived.Maps.AppendAt
namespace Go.Proofs.YtdgcamlmjmnpeaaGreatDoor
open Go.RowKit Go.Maps
theorem own_map_ne {H:Type} {w:World} {lo:Nat} {e:TypeId} {size n:Nat} {v:Value} {xs:List Value} {P:Program} {k:TypeId} {R:Value → Option (DataW H × List MemPlace)} {b m:Nat} {D:DataW H}
  (h:w.ownsRow lo e size v n xs) (hm:w.ownsMap P k R b m D):some b ≠ v.ownBlock:=by
 obtain ⟨es,clock,hb,_⟩:=hm
 rcases h.2 with ⟨h',_⟩ | ⟨g',cap',cur,h',_,hg,_⟩
 ·subst h';simp [Value.ownBlock]
 ·subst h'
  intro hh
  have:b = g':=by simpa [Value.ownBlock] using hh
  subst this
  rw [hb] at hg;cases hg
def repAt (ts:List PTok) (k:Nat):List Nat:=match ts[k]? with | some t=>popt ((ts.take k).any (fun g=>g.text.toList == t.text.toList)) t.at_ | none=>[]
def repTo (ts:List PTok) (k:Nat):List Nat:=(List.range k).flatMap (repAt ts)
def repP (gs:List (List PTok)):List Nat:=gs.flatMap (fun ts=>repTo ts ts.length)
theorem repTo_succ (ts:List PTok) (k:Nat):repTo ts (k + 1) = repTo ts k ++ repAt ts k:=by unfold repTo;rw [List.range_succ,List.flatMap_append];simp
theorem repTo_len (ts:List PTok):∀ k,(repTo ts k).length ≤ k
 | 0=>by simp [repTo]
 | k + 1=>by
  have:=repTo_len ts k
  have h2:(repAt ts k).length ≤ 1:=by
   unfold repAt;split
   ·exact popt_len _ _
   ·simp
  rw [repTo_succ,List.length_append];omega
def cntP (ts:List PTok) (l:List UInt8):Nat:=(ts.filter (fun t=>t.text.toList == l)).length
theorem cntP_le (ts:List PTok) (l:List UInt8):cntP ts l ≤ ts.length:=List.length_filter_le _ _
theorem cntP_snoc (ts:List PTok) (t:PTok) (l:List UInt8):cntP (ts ++ [t]) l = cntP ts l + if t.text.toList == l then 1 else 0:=by
 unfold cntP;rw [List.filter_append];cases h:(t.text.toList == l) <;> simp [h]
theorem cntP_pos (ts:List PTok) (l:List UInt8):ts.any (fun g=>g.text.toList == l) = decide (0 < cntP ts l):=by
 rw [Bool.eq_iff_iff]
 simp [cntP,List.length_pos_iff_exists_mem]
theorem Tryz.mapLaw:Keyed Tryz.prog 9:=string_keyed Tryz.underlying9
theorem Tryz.zeroInt (w:World):(zeroValue 3).run Tryz.prog w = .ok (.int .i64 0) w:=by kernel_rfl
def Counts (w:World) (b n:Nat) (ts:List PTok):Prop:=∃ D:DataW Unit,w.ownsMap Tryz.prog 9 (plainElem Tryz.prog 3) b n D ∧ IsMap D ∧ ∀ l:List UInt8,D.atKey (.string l) (.lit (.int .i64 0)) = .lit (.int .i64 (cntP ts l))
structure Groups (w:World) (lo:Nat) (gv:Value) (Gs:List (Value × List PTok)):Prop where
 own:w.ownsRow lo 96 1 gv Gs.length (Gs.map (fun p=>p.1))
 each:∀ p ∈ Gs,w.ownsRow lo 94 2 p.1 p.2.length (p.2.flatMap nameCells)
 len:∀ p ∈ Gs,p.2.length ≤ 400
 txt:∀ p ∈ Gs,∀ t ∈ p.2,t.text.size ≤ 400
theorem key_str {t:PTok} (h:t.text.size ≤ 400):keyOf Tryz.prog 9 (.string t.text) = some (.string t.text.toList):=by
 rw [ByteArray.toList_eq]
 exact Go.WideMaps.keyOf_string_mk Tryz.underlying9 (by unfold maxLen;omega)
theorem Counts.start (w:World):Counts (w.alloc (.map #[] 0)) w.heap.size 0 [] :=
 ⟨.map [],World.ownsMap_made _ _ _ _,isMap_empty,fun l=>by simp [cntP,DataW.atKey]⟩
theorem Counts.put {w:World} {b n:Nat} {ts:List PTok} {t:PTok} {D:DataW Unit} {c:Int} (hm:w.ownsMap Tryz.prog 9 (plainElem Tryz.prog 3) b n (D.put (.string t.text.toList) (.lit (.int .i64 c)))) (hD:IsMap D)
  (hat:∀ l:List UInt8,D.atKey (.string l) (.lit (.int .i64 0)) = .lit (.int .i64 (cntP ts l))) (hc:c = (cntP ts t.text.toList:Int) + 1):Counts w b n (ts ++ [t]):=by
 refine ⟨_,hm,hD.put _ _,fun l=>?_⟩
 rw [cntP_snoc]
 by_cases he:l = t.text.toList
 ·subst he
  rw [atKey_put_same hD (show WideAt.IsKeyLit (.string _) from trivial),hc];simp
 ·rw [atKey_put_other (by simpa using he),hat l]
  have:(t.text.toList == l) = false:=by simpa using fun hh=>he hh.symm
  rw [this];simp
theorem Counts.grown {w w0 w1:World} {b n lo e size m:Nat} {ts:List PTok} {v:Value} {xs:List Value} (h:Counts w b n ts) (hv:w.ownsRow lo e size v m xs) (hb:Below w.heap.size w w0) (hg:w0.grownBy w1 v.ownBlock):Counts w1 b n ts:=by
 obtain ⟨D,hm,hD,hat⟩:=h
 have hne:=own_map_ne hv hm
 have hlt:=hm.lt
 obtain ⟨es,clock,hbk,F,hs,hDD⟩:=hm
 exact ⟨D,⟨es,clock,((hg.block b (Nat.lt_of_lt_of_le hlt hb.size) hne).trans (hb.block b hlt)).trans hbk,F,hs,hDD⟩,hD,hat⟩
theorem repP_snoc (gs:List (List PTok)) (ts:List PTok):repP (gs ++ [ts]) = repP gs ++ repTo ts ts.length:=by simp [repP]
theorem repP_len (gs:List (List PTok)) (h:∀ ts ∈ gs,ts.length ≤ 400):(repP gs).length ≤ gs.length * 400:=by
 induction gs with
 | nil=>simp [repP]
 | cons a r ih =>
  have h1:=ih (fun ts hts=>h ts (by simp [hts]))
  have h2:=repTo_len a a.length
  have h3:=h a (by simp)
  have e:repP (a :: r) = repTo a a.length ++ repP r:=by simp [repP]
  rw [e,List.length_append,List.length_cons];omega
theorem later_cell' {w w':World} {a:Addr} {v:Value} (hb:Below w.heap.size w w') (h:w.cell? a = some v) (hlt:a.block < w.heap.size):w'.cell? a = some v:=(hb.cell hlt).trans h
theorem cell1_at {w:World} {lo:Nat} {g cap:Nat} {Gs:List (Value × List PTok)} (h:w.ownsRow lo 96 1 (.slice (some ⟨g,0,none⟩) Gs.length cap) Gs.length (Gs.map (fun p=>p.1))) {q:Nat} {p:Value × List PTok} (hq:Gs[q]? = some p):w.cell? ⟨g,q,none⟩ = some p.1:=by
 have:=at_lt hq
 rw [h.cellAt q (by omega),List.getElem?_map,hq];rfl
set_option maxRecDepth 100000 in
set_option maxHeartbeats 1000000 in
theorem repeats_any (w:World) (lo:Nat) (gv:Value) (Gs:List (Value × List PTok)) (h:Groups w lo gv Gs) (hl:Gs.length ≤ 2) :
  Calls Tryz.prog 41 #[gv] w fun e w'=>∃ nv,e = .returned nv ∧ Places w' w.heap.size nv (repP (Gs.map (fun p=>p.2))) ∧ Below w.heap.size w w':=by
 have hmm:=@run_makeMap Tryz.prog
 obtain ⟨iI,hiI,hI0,hI1,hI2⟩:=info_parts Tryz.infoInt
 obtain ⟨la,lc,hlv⟩:∃ a c,gv = .slice a Gs.length c:=own_slice h.own
 subst hlv
 have H:=hid h
 clear h
 go_enter Tryz.func41,Tryz.ntmps41
 go_wp2_with fail
 go_loopg [3,5,6,8,11] Gs.length (fun gk nv x5 x6 x8 i wr=>∃ q:Nat,q + gk = Gs.length ∧ i = .int .i64 q ∧ Hid (Places wr w.heap.size nv (repP ((Gs.take q).map (fun p=>p.2)))) ∧ Below w.heap.size w wr)
 case atStart=>exact ⟨0,by omega,rfl,hid (World.ownsRow_nil _ _ _ _),Below.refl _ _⟩
 case round =>
  obtain ⟨q,hq,rfl,HO,hbel⟩:=hrel
  have hsz:=hbel.size
  by_cases hlt:q < Gs.length
  ·obtain ⟨p,hp⟩:∃ p,Gs[q]? = some p:=⟨Gs[q],List.getElem?_eq_getElem hlt⟩
   obtain ⟨g,cap,hv,hgl,hgs⟩:=own_form H.out.own (by omega)
   obtain ⟨rfl,rfl⟩:la = some ⟨g,0,none⟩ ∧ lc = cap:=by simpa using hv
   have c0:=later_cell' hbel (cell1_at H.out.own hp) hgs
   have HG:=hid (H.out.each p (List.mem_of_getElem? hp))
   have hts:=H.out.len p (List.mem_of_getElem? hp)
   have HTX:=hid (H.out.txt p (List.mem_of_getElem? hp))
   have HE:=hid (show (Gs.take (q + 1)).map (fun p=>p.2) = (Gs.take q).map (fun p=>p.2) ++ [p.2] by rw [List.take_add_one,hp];simp)
   have hal:(repP ((Gs.take q).map (fun p=>p.2))).length ≤ 800:=by
    have:=repP_len ((Gs.take q).map (fun p=>p.2)) (fun ts hts=>by
     obtain ⟨r,hr,rfl⟩:=List.mem_map.1 hts
     exact H.out.len r (List.mem_of_mem_take hr))
    rw [List.length_map,List.length_take] at this;omega
   obtain ⟨pv,ts⟩:=p
   dsimp only at *
   generalize hA:repP ((Gs.take q).map (fun p=>p.2)) = A at *
   have HA:=hid hA
   clear hA hv hp
   obtain ⟨na,nc,hnv⟩:∃ a c,u3 = .slice a A.length c:=own_slice HO.out
   obtain ⟨pa,pc,hpv⟩:∃ a c,pv = .slice a ts.length c:=own_slice HG.out
   subst hnv hpv
   obtain ⟨w0,hw0⟩:∃ w0,w0 = wr:=⟨_,rfl⟩
   obtain ⟨gk_1,hg1⟩:∃ g,g = gk:=⟨_,rfl⟩
   subst hw0 hg1
   go_wp2_with fail
   go_loopg [3,8,18] ts.length (fun g2 nv b i w2=>∃ k:Nat,k + g2 = ts.length ∧ i = .int .i64 k ∧ Hid (Places w2 w.heap.size nv (A ++ repTo ts k)) ∧ Hid (Counts w2 w0.heap.size k (ts.take k)) ∧ Below w.heap.size w w2)
   case atStart=>exact ⟨0,by omega,rfl,hid (by have:=HO.out.alloc (.map #[] 0);simpa [repTo,Places] using this),hid (Counts.start w0),hbel.alloc hsz _⟩
   case round =>
    obtain ⟨k,hk,rfl,HP,HC,hbe2⟩:=hrel
    have hsz2:=hbe2.size
    have hrl:=repTo_len ts k
    have hlen2:(A ++ repTo ts k).length ≤ 1200:=by rw [List.length_append];omega
    have HBK:=hid (show A ++ repTo ts (k + 1) = (A ++ repTo ts k) ++ repAt ts k by rw [repTo_succ];simp)
    have HBE:=hid (show k = ts.length → A ++ repTo ts k = A ++ repTo ts ts.length from fun e=>by rw [e])
    generalize A ++ repTo ts k = L at *
    obtain ⟨na2,nc2,hnv⟩:∃ a c,u3 = .slice a L.length c:=own_slice HP.out
    subst hnv
    by_cases hkl:k < ts.length
    ·obtain ⟨t,ht⟩:∃ t,ts[k]? = some t:=⟨ts[k],List.getElem?_eq_getElem hkl⟩
     obtain ⟨tg,tcap,htv,htl,hts2,hs⟩:=pname_seg (own_same HG.out (fun g hg=>hbe2.block g (HG.out.lt g hg).2)) ht
     obtain ⟨rfl,rfl⟩:pa = some ⟨tg,0,none⟩ ∧ pc = tcap:=by simpa using htv
     have e0:wr.cell? ⟨tg,k * 2,none⟩ = some (.string t.text):=hs.cell (j:=0) rfl
     have e1:wr.cell? ⟨tg,k * 2 + 1,none⟩ = some (.int .i64 t.at_):=hs.cell (j:=1) rfl
     have hkey:=key_str (HTX.out t (List.mem_of_getElem? ht))
     have HK:=hid (show ts.take (k + 1) = ts.take k ++ [t] by rw [List.take_add_one,ht];rfl)
     have HR:=hid (show repAt ts k = popt (decide (0 < cntP (ts.take k) t.text.toList)) t.at_ by
      unfold repAt;rw [ht];simp only [cntP_pos])
     have hcle:=cntP_le (ts.take k) t.text.toList
     rw [List.length_take] at hcle
     obtain ⟨D,hown,hD,hat⟩:=HC.out
     have HHD:=hid hD
     have HAT:=hid hat
     have hown0:=hown.alloc (.cells #[.string t.text,.int .i64 t.at_] 94)
     have HHO:=hid hown
     clear hs htv ht hD hat hown
     have HPA:=hid (HP.out.alloc (.cells #[.string t.text,.int .i64 t.at_] 94))
     go_wp2_with (first
      | (at_lookup;refine wpList_lookup_own_int _ rfl _ _ 158 rfl 9 3 .i64 Tryz.mapLaw Tryz.underlying158 Tryz.underlying3 (Tryz.zeroInt _) w0.heap.size k _ rfl hown0 _ _ rfl hkey ?_;intro c hc hwc;rw [HAT.out] at hc;obtain rfl:((cntP (ts.take k) t.text.toList:Nat):Int) = c:=(by simpa using hc);clear hc hwc)
      | (at_mapUpdate;refine wpList_mapUpdate_own _ rfl _ _ _ 158 rfl 9 3 Tryz.mapLaw Tryz.underlying158 _ w0.heap.size k _ rfl hown0 (by unfold maxLen;omega) _ _ _ rfl rfl hkey _ [] (plainElem_int Tryz.underlying3 (WalkArith.wf_i64 (by omega))) ?_)
      | fail)
     intro w1 hown1 hgrow1
     have hmb:=HHO.out.lt
     have HB1:=hid (show Below w.heap.size w w1 from (hbe2.alloc hsz2 _).grown hgrow1 (by simp;omega) (fun j hj=>by cases hj;exact hsz))
     have hz1:wr.heap.size + 1 ≤ w1.heap.size:=by have:=hgrow1.size;simpa using this
     have d0:w1.cell? ⟨wr.heap.size,0,none⟩ = some (.string t.text):=by
      rw [World.cell?_of_block (hgrow1.block wr.heap.size (by simp) (by simp;omega))];simp
     have d1:w1.cell? ⟨wr.heap.size,1,none⟩ = some (.int .i64 t.at_):=by
      rw [World.cell?_of_block (hgrow1.block wr.heap.size (by simp) (by simp;omega))];simp
     have HP1:=hid (show Places w1 w.heap.size (.slice na2 L.length nc2) L from own_same HPA.out (fun g hg=>hgrow1.block g (HPA.out.lt g hg).2 (fun hh=>own_map_ne HPA.out hown0 (by rw [hg];exact hh.symm))))
     have HC1:=hid (show Counts w1 w0.heap.size (k + 1) (ts.take (k + 1)) by rw [HK.out];exact Counts.put hown1 HHD.out HAT.out rfl)
     have HCN:=hid (show cntP (ts.take (k + 1)) t.text.toList = cntP (ts.take k) t.text.toList + 1 by rw [HK.out,cntP_snoc];simp)
     obtain ⟨D1,hm1,hD1,hat1⟩:=HC1.out
     have HAT1:=hid hat1
     clear hown1 hgrow1 hat1 hD1 HAT HHD HHO hown0 HPA e0 e1 hmb
     have HBK2:=hid (HBK.out.trans (by rw [HR.out]))
     generalize hcn:cntP (ts.take k) t.text.toList = cn at *
     cases hdup:decide (0 < cn) with
     | false =>
      have hdup':¬ (1:Int) < (cn:Int) + 1:=by simp at hdup;omega
      have HL:=hid (show A ++ repTo ts (k + 1) = L by rw [HBK2.out,hdup];simp [popt])
      go_wp2_with (first
       | (at_lookup;refine wpList_lookup_own_int _ rfl _ _ 158 rfl 9 3 .i64 Tryz.mapLaw Tryz.underlying158 Tryz.underlying3 (Tryz.zeroInt _) w0.heap.size (k + 1) _ rfl hm1 _ _ rfl hkey ?_;intro c hc hwc;rw [HAT1.out,HCN.out] at hc;obtain rfl:((cn:Nat):Int) + 1 = c:=(by simpa using hc);clear hc hwc)
       | fail)
      go_roundg (gk - 1)
      case rel=>exact ⟨k + 1,by omega,by go_num,hid (by rw [HL.out];exact HP1.out),HC1,HB1.out⟩
      case measure=>omega
     | true =>
      have hdup':(1:Int) < (cn:Int) + 1:=by simp at hdup;omega
      have HL:=hid (show A ++ repTo ts (k + 1) = L ++ [t.at_] by rw [HBK2.out,hdup];simp [popt])
      go_wp2_with (first
       | (at_lookup;refine wpList_lookup_own_int _ rfl _ _ 158 rfl 9 3 .i64 Tryz.mapLaw Tryz.underlying158 Tryz.underlying3 (Tryz.zeroInt _) w0.heap.size (k + 1) _ rfl hm1 _ _ rfl hkey ?_;intro c hc hwc;rw [HAT1.out,HCN.out] at hc;obtain rfl:((cn:Nat):Int) + 1 = c:=(by simpa using hc);clear hc hwc)
       | (at_builtin;refine wpList_append_lies _ rfl _ _ 32 rfl w.heap.size 3 iI _ 1 8 Tryz.underlying32 hiI hI0 hI1 hI2 rfl (by decide) _ _ _ rfl (HP1.out.alloc _) ⟨_,0,none⟩ 1 1 [natCell t.at_] rfl rfl (cells_new_at _ _ (by simp) #[.int .i64 t.at_] _) (by simp [natCell,Value.oneCell']) (by omega) (by unfold maxLen;omega) (by omega) (by simp;omega) _ rfl ?_)
       | fail)
      intro g5 cp5 w5 hown5 hgrow5 _ _
      have hb5:=pgrow_below HB1.out (by omega) HP1.out (Nat.le_refl _) hgrow5
      have HC5:=hid (show Counts w5 w0.heap.size (k + 1) (ts.take (k + 1)) from HC1.out.grown HP1.out ((Below.refl _ _).alloc (Nat.le_refl _) _) hgrow5)
      clear hgrow5
      go_wp2_with fail
      go_roundg (gk - 1)
      case rel=>exact ⟨k + 1,by omega,by go_num,hid (by show World.ownsRow _ _ _ _ _ _ _;rw [HL.out];simpa using hown5),HC5,hb5⟩
      case measure=>omega
    ·have HL:=hid (show repP ((Gs.take (q + 1)).map (fun p=>p.2)) = L by rw [HE.out,repP_snoc,HA.out,HBE.out (by omega)])
     go_wp2_with fail
     go_roundg (gk_1 - 1)
     case rel=>exact ⟨q + 1,by omega,by go_num,hid (by rw [HL.out];exact HP.out),hbe2⟩
     case measure=>omega
  ·have HL:=hid (show Gs.take q = Gs from List.take_of_length_le (by omega))
   go_wp2_with fail
   go_ret
   exact ⟨_,rfl,by have:=HO.out;rw [HL.out] at this;exact this,hbel⟩
end Go.Proofs.YtdgcamlmjmnpeaaGreatDoor
namespace Go.Proofs.YtdgcamlmjmnpeaaGreatDoor
open Go.RowKit
def Edge (X:List PIV) (i j:Nat):Prop:=∃ x f,X[i]? = some x ∧ f ∈ x.it.fields ∧ f.shape = 0 ∧ pFindI X f.base.toList = (j:Int)
def WayL {α:Type} (E:α → α → Prop):Nat → α → α → Prop
  | 0,i,j => E i j
  | n + 1,i,k => ∃ j,E i j ∧ WayL E n j k
theorem WayL.ind {α:Type} {E:α → α → Prop} {P:α → α → Prop} (one:∀ i j,E i j → P i j) (more:∀ i j k n,E i j → WayL E n j k → P j k → P i k):∀ (n:Nat) (i k:α),WayL E n i k → P i k
  | 0,i,k,h => one i k h
  | n + 1,i,k,⟨j,e,h⟩ => more i j k n e h (WayL.ind one more n j k h)
def Way (X:List PIV) (i k:Nat):Prop := ∃ n,WayL (Edge X) n i k
theorem Way.one {X:List PIV} {i j:Nat} (e:Edge X i j):Way X i j := ⟨0,e⟩
theorem Way.more {X:List PIV} {i j k:Nat} (e:Edge X i j) (h:Way X j k):Way X i k := h.elim fun n hn => ⟨n + 1,j,e,hn⟩
theorem Way.ind {X:List PIV} {motive:∀ i k,Way X i k → Prop} (one:∀ {i j} (e:Edge X i j),motive i j (.one e)) (more:∀ {i j k} (e:Edge X i j) (h:Way X j k),motive j k h → motive i k (.more e h)):∀ {i k} (h:Way X i k),motive i k h :=
  fun {i k} ⟨n,h⟩ => WayL.ind (P := fun i k => ∀ h,motive i k h) (fun _ _ e _ => one e) (fun _ _ _ n e h ih _ => more e ⟨n,h⟩ (ih _)) n i k h _
def EdgeT (X:List PIV) (fs:List PField) (j k:Nat):Prop:=∃ f ∈ fs.take j,f.shape = 0 ∧ pFindI X f.base.toList = (k:Int)
def bAt (b:List Bool) (j:Nat):Bool:=(b[j]?).getD false
structure HPart (X:List PIV) (whole:Nat) (b0 b:List Bool) (E:Nat → Prop):Prop where
 mono:∀ j,bAt b0 j = true → bAt b j = true
 new:∀ j,bAt b j = true → bAt b0 j = false → j ≠ whole ∧ ∀ k,Edge X j k → bAt b k = true
 done:∀ k,E k → bAt b k = true
def HPost (X:List PIV) (whole i:Nat) (b0:List Bool) (r:Bool) (b:List Bool):Prop:=match r with | true=>Way X i whole | false=>HPart X whole b0 b (Edge X i)
theorem HPart.start (X:List PIV) (whole:Nat) (b:List Bool) (fs:List PField):HPart X whole b b (EdgeT X fs 0) :=
 ⟨fun _ h=>h,fun j h h'=>by (rw [h] at h';cases h'),fun k ⟨f,hf,_⟩=>by simp at hf⟩
theorem HPart.skip {X:List PIV} {whole:Nat} {b0 b:List Bool} {fs:List PField} {j:Nat} {f:PField} (h:HPart X whole b0 b (EdgeT X fs j)) (hf:fs[j]? = some f) (hs:f.shape ≠ 0 ∨ pFindI X f.base.toList < 0 ∨ ∃ k:Nat,pFindI X f.base.toList = (k:Int) ∧ bAt b k = true):HPart X whole b0 b (EdgeT X fs (j + 1)):=by
 refine ⟨h.mono,h.new,fun k hk=>?_⟩
 obtain ⟨f',hm,h0,he⟩:=hk
 rw [List.take_add_one,hf] at hm
 simp only [Option.toList_some,List.mem_append,List.mem_singleton] at hm
 rcases hm with hm | rfl
 ·exact h.done k ⟨f',hm,h0,he⟩
 ·rcases hs with hs | hs | ⟨q,hq,hb⟩
  ·exact absurd h0 hs
  ·omega
  ·rw [show k = q from by omega];exact hb
theorem bAt_set {b:List Bool} {k:Nat} (hk:k < b.length) (j:Nat):bAt (b.set k true) j = (if j = k then true else bAt b j):=by
 unfold bAt
 rw [List.getElem?_set]
 by_cases h:k = j
 ·subst h;simp [hk]
 ·rw [if_neg h,if_neg (fun e=>h e.symm)]
theorem HPart.deep {X:List PIV} {whole:Nat} {b0 b b2:List Bool} {fs:List PField} {j k:Nat} {f:PField} (h:HPart X whole b0 b (EdgeT X fs j)) (hf:fs[j]? = some f) (he:pFindI X f.base.toList = (k:Int)) (hw:k ≠ whole) (hk:k < b.length) (h2:HPart X whole (b.set k true) b2 (Edge X k)):HPart X whole b0 b2 (EdgeT X fs (j + 1)):=by
 have hm2:∀ q,bAt b q = true → bAt b2 q = true:=fun q hq=>h2.mono q (by rw [bAt_set hk];split <;> simp_all)
 have hk2:bAt b2 k = true:=h2.mono k (by rw [bAt_set hk];simp)
 refine ⟨fun q hq=>hm2 q (h.mono q hq),fun q hq hq0=>?_,fun q hq=>?_⟩
 ·by_cases hqk:q = k
  ·subst hqk;exact ⟨hw,h2.done⟩
  ·cases hbq:bAt b q with
   | true=>have:=h.new q hbq hq0;exact ⟨this.1,fun r hr=>hm2 r (this.2 r hr)⟩
   | false=>exact h2.new q hq (by rw [bAt_set hk,if_neg hqk];exact hbq)
 ·obtain ⟨f',hm,h0,he'⟩:=hq
  rw [List.take_add_one,hf] at hm
  simp only [Option.toList_some,List.mem_append,List.mem_singleton] at hm
  rcases hm with hm | rfl
  ·exact hm2 q (h.done q ⟨f',hm,h0,he'⟩)
  ·rw [show q = k from by omega];exact hk2
theorem HPart.all {X:List PIV} {whole i:Nat} {b0 b:List Bool} {x:PIV} {j:Nat} (hx:X[i]? = some x) (hj:x.it.fields.length ≤ j) (h:HPart X whole b0 b (EdgeT X x.it.fields j)):HPart X whole b0 b (Edge X i):=by
 refine ⟨h.mono,h.new,fun k ⟨y,f,hy,hm,h0,he⟩=>h.done k ⟨f,?_,h0,he⟩⟩
 rw [hx] at hy
 cases hy
 rw [List.take_of_length_le hj];exact hm
def falses (b:List Bool):Nat:=b.count false
theorem falses_set:∀ (b:List Bool) (k:Nat),b[k]? = some false → falses (b.set k true) < falses b
 | [],k,h=>by simp at h
 | a :: r,0,h=>by simp at h;subst h;simp [falses]
 | a :: r,k + 1,h=>by
  have:=falses_set r k (by simpa using h)
  unfold falses at *
  rw [List.set_cons_succ,List.count_cons,List.count_cons];omega
theorem falses_mono:∀ (b b':List Bool),b.length = b'.length → (∀ j,bAt b j = true → bAt b' j = true) → falses b' ≤ falses b
 | [],b',hl,_=>by
  have:b' = []:=by cases b' with | nil=>rfl | cons a r=>simp at hl
  subst this;exact Nat.le_refl _
 | a :: r,[],hl,_=>by simp at hl
 | a :: r,a' :: r',hl,h=>by
  have:=falses_mono r r' (by simpa using hl) (fun j hj=>by have:=h (j + 1);unfold bAt at this hj ⊢;simpa using this (by simpa using hj))
  have h0:=h 0
  unfold falses at *
  rw [List.count_cons,List.count_cons]
  cases a <;> cases a' <;> simp_all [bAt] <;> omega
theorem HPart.noWay {X:List PIV} {whole:Nat} {n:Nat} {b:List Bool} {E:Nat → Prop} (h:HPart X whole (List.replicate n false) b E) {i:Nat} (hi:∀ k,Edge X i k → bAt b k = true):¬ Way X i whole:=by
 have h0:∀ j,bAt (List.replicate n false) j = false:=fun j=>by
  unfold bAt;rw [List.getElem?_replicate];split <;> rfl
 intro hw
 have hall:∀ (a c:Nat),Way X a c → c = whole → (∀ k,Edge X a k → bAt b k = true) → False:=by
  intro a c hw
  induction hw using Way.ind with
  | one e=>intro hc hk;subst hc;exact (h.new _ (hk _ e) (h0 _)).1 rfl
  | more e _ ih=>intro hc hk;exact ih hc (h.new _ (hk _ e) (h0 _)).2
 exact hall i whole hw rfl hi
theorem HPost.way {X:List PIV} {whole i n:Nat} {r:Bool} {b:List Bool} (h:HPost X whole i (List.replicate n false) r b):r = true ↔ Way X i whole:=by
 cases r with
 | true=>exact ⟨fun _=>h,fun _=>rfl⟩
 | false=>exact ⟨fun e=>(by cases e),fun hw=>absurd hw (HPart.noWay h h.done)⟩
end Go.Proofs.YtdgcamlmjmnpeaaGreatDoor
namespace Go.Proofs.YtdgcamlmjmnpeaaGreatDoor
open Go.RowKit
theorem bool_at {b:List Bool} {j:Nat} (hj:j < b.length):(b.map Value.bool)[j]? = some (.bool (bAt b j)):=by
 rw [List.getElem?_map,List.getElem?_eq_getElem hj]
 simp [bAt,List.getElem?_eq_getElem hj]
theorem bAt_false {b:List Bool} {j:Nat} (hj:j < b.length) (h:bAt b j = false):b[j]? = some false:=by
 rw [List.getElem?_eq_getElem hj]
 unfold bAt at h
 rw [List.getElem?_eq_getElem hj] at h
 simpa using h
theorem bool_set (b:List Bool) (j:Nat):(b.map Value.bool).set j (.bool true) = (b.set j true).map Value.bool:=by rw [List.map_set]
theorem find_at {X:List PIV} {n:List UInt8} (h:¬ pFindI X n < 0):∃ j:Nat,pFindI X n = (j:Int) ∧ j < X.length:=by
 unfold pFindI at *
 cases hf:X.findIdx? (fun x=>pMatchB n x.it) with
 | none=>rw [hf] at h;simp at h
 | some j =>
  rw [List.findIdx?_eq_some_iff_getElem] at hf
  exact ⟨j,rfl,hf.1⟩
set_option maxRecDepth 100000 in
set_option maxHeartbeats 2000000 in
theorem pholds_any (n:Nat):∀ (w0 w:World) (lo:Nat) (lv:Value) (X:List PIV) (i whole bg:Nat) (been:List Bool),PIts w0 lo lv X → Nms X → X.length ≤ 400 → (∀ x ∈ X,x.it.fields.length ≤ 400) → Below w0.heap.size w0 w → w0.heap.size ≤ bg → Seg w bg 4 0 (been.map Value.bool) → been.length = X.length → i < X.length → whole < X.length → falses been = n →
  Calls Tryz.prog 46 #[lv,.int .i64 i,.int .i64 whole,.slice (some ⟨bg,0,none⟩) X.length X.length] w fun e w'=>∃ b been',e = .returned (.bool b) ∧ Below bg w w' ∧ Seg w' bg 4 0 (been'.map Value.bool) ∧ been'.length = X.length ∧ HPost X whole i been b been':=by
 induction n using Nat.strongRecOn with
 | ind n ih =>
 intro w0 w lo lv X i whole bg been h hn hX hfl hb0 hbg hs hbl hi hw hfa
 obtain ⟨x,hx⟩:∃ x,X[i]? = some x:=⟨X[i],List.getElem?_eq_getElem hi⟩
 obtain ⟨la,lc,hlv⟩:∃ a c,lv = .slice a X.length c:=own_slice h.own
 subst hlv
 obtain ⟨g,cap,hv,hgl,hgs⟩:=own_form h.own (by omega)
 obtain ⟨rfl,rfl⟩:la = some ⟨g,0,none⟩ ∧ lc = cap:=by simpa using hv
 obtain ⟨m,hm⟩:=(h.below hb0).itemAt hn hx
 have hrow:=(h.nest x (List.mem_of_getElem? hx)).f
 have hl4:=hfl x (List.mem_of_getElem? hx)
 have hbz:=hs.lt
 rw [hm.vf] at hrow
 have hseg:=hm.seg
 obtain ⟨fa,fc,na,nc,bb,ba,ab,aa⟩:=m
 dsimp only at hrow hseg
 have c3:=hseg.cell (j:=3) rfl
 have IH:=hid ih
 have H:=hid h
 have HN:=hid hn
 have HX:=hid hx
 have HROW:=hid hrow
 have HFL:=hid hfl
 have HS:=hid hs
 have HB0:=hid hb0
 clear ih h hn hx hrow hfl hs hm hseg hv hb0
 generalize hfs:x.it.fields = fs at *
 have HFS:=hid hfs
 clear hfs
 go_enter Tryz.func46,Tryz.ntmps46
 go_wp2_with fail
 go_loopg [10,11,18] fs.length (fun gk fb nx jj wr=>∃ (k:Nat) (b1:List Bool),k + gk = fs.length ∧ jj = .int .i64 k ∧ Hid (Seg wr bg 4 0 (b1.map Value.bool)) ∧ b1.length = X.length ∧ Hid (HPart X whole been b1 (EdgeT X fs k)) ∧ Below bg w wr ∧ falses b1 ≤ n)
 case atStart=>exact ⟨0,been,by omega,rfl,hid HS.out,hbl,hid (HPart.start _ _ _ _),Below.refl _ _,by omega⟩
 case round =>
  obtain ⟨k,b1,hk,rfl,HS1,hb1l,HP,hbel,hfn⟩:=hrel
  have hsz:=hbel.size
  have hbgw:bg < wr.heap.size:=HS1.out.lt
  have hbw:Below w0.heap.size w0 wr:=HB0.out.trans (hbel.mono hbg)
  by_cases hlt:k < fs.length
  ·obtain ⟨f,hf⟩:∃ f,fs[k]? = some f:=⟨fs[k],List.getElem?_eq_getElem hlt⟩
   obtain ⟨gf,capf,hvf,hgfl,hgfs,hsf⟩:=pfield_seg (own_same HROW.out (fun q hq=>hbw.block q (HROW.out.lt q hq).2)) hf
   obtain ⟨rfl,rfl⟩:fa = some ⟨gf,0,none⟩ ∧ fc = capf:=by simpa using hvf
   have e0:wr.cell? ⟨gf,k * 7,none⟩ = some (.int .i64 f.number):=hsf.cell (j:=0) rfl
   have e1:wr.cell? ⟨gf,k * 7 + 1,none⟩ = some (.int .i64 f.numberAt):=hsf.cell (j:=1) rfl
   have e2:wr.cell? ⟨gf,k * 7 + 2,none⟩ = some (.string f.name):=hsf.cell (j:=2) rfl
   have e3:wr.cell? ⟨gf,k * 7 + 3,none⟩ = some (.int .i64 f.nameAt):=hsf.cell (j:=3) rfl
   have e4:wr.cell? ⟨gf,k * 7 + 4,none⟩ = some (.int .i64 f.shape):=hsf.cell (j:=4) rfl
   have e5:wr.cell? ⟨gf,k * 7 + 5,none⟩ = some (.string f.base):=hsf.cell (j:=5) rfl
   have e6:wr.cell? ⟨gf,k * 7 + 6,none⟩ = some (.int .i64 f.baseAt):=hsf.cell (j:=6) rfl
   have hbx:Below wr.heap.size wr (wr.alloc (.cells #[.int .i64 f.number,.int .i64 f.numberAt,.string f.name,.int .i64 f.nameAt,.int .i64 f.shape,.string f.base,.int .i64 f.baseAt] 152)):=(Below.refl _ _).alloc (Nat.le_refl _) _
   have HF:=hid hf
   clear hsf hvf hf
   go_wp2_with fail
   refine (findType_any _ lo _ X f.base (H.out.below (hbw.trans (hbx.mono hbw.size))) HN.out hX).mono ?_;rintro e w1 ⟨rfl,hb1⟩
   have hb13:Below wr.heap.size wr w1:=hbx.trans (hb1.mono hbx.size)
   have hz1:=hb13.size
   have hbe1:Below bg w w1:=hbel.trans (hb13.mono (by omega))
   have HS1':=hid (HS1.out.same (hb13.block bg hbgw))
   have d4:w1.cell? ⟨wr.heap.size,4,none⟩ = some (.int .i64 f.shape):=by rw [hb1.cell (by simp)];simp
   by_cases hsh:f.shape = 0
   ·have hsh':((f.shape:Int) == 0) = true:=by simp [hsh]
    by_cases hneg:pFindI X f.base.toList < 0
    ·have HSK:=hid (HP.out.skip HF.out (Or.inr (Or.inl hneg)))
     generalize pFindI X f.base.toList = fi at *
     go_wp2_with fail
     go_roundg (gk - 1)
     case rel=>exact ⟨k + 1,b1,by omega,by go_num,hid HS1'.out,hb1l,hid HSK.out,hbe1,hfn⟩
     case measure=>omega
    ·obtain ⟨nx,hnx,hnxl⟩:=find_at hneg
     have HNX:=hid hnx
     rw [hnx] at hneg ⊢
     have b0:=HS1'.out.cell (j:=nx) (bool_at (by omega))
     simp only [Nat.zero_add] at b0
     have hfz:=HS1'.out.frozen nx
     cases hbn:bAt b1 nx with
     | true =>
      rw [hbn] at b0
      have HSK:=hid (HP.out.skip HF.out (Or.inr (Or.inr ⟨nx,hnx,hbn⟩)))
      clear hnx
      go_wp2_with fail
      go_roundg (gk - 1)
      case rel=>exact ⟨k + 1,b1,by omega,by go_num,hid HS1'.out,hb1l,hid HSK.out,hbe1,hfn⟩
      case measure=>omega
     | false =>
      rw [hbn] at b0
      have hfalse:=bAt_false (by omega) hbn
      have hfs2:=falses_set b1 nx hfalse
      have hst:=HS1'.out.set nx (.bool true)
      simp only [Nat.zero_add] at hst
      rw [bool_set] at hst
      have HST:=hid hst
      have hbst:Below bg w (w1.setCell ⟨bg,nx,none⟩ (.bool true)):=hbe1.setCell (Nat.le_refl _) _
      have HED:=hid (show Edge X i nx from ⟨x,f,HX.out,by rw [HFS.out];exact List.mem_of_getElem? HF.out,hsh,hnx⟩)
      clear hnx hst
      by_cases hwh:nx = whole
      ·subst hwh
       go_wp2_with fail
       go_ret
       exact ⟨true,b1.set nx true,rfl,hbst,HST.out,by simp [hb1l],.one HED.out⟩
      ·have hwh':((nx:Int) == (whole:Int)) = false:=by simp;omega
       have HWH:=hid hwh
       clear hwh
       go_wp2_with fail
       refine (IH.out (falses (b1.set nx true)) (by omega) w0 _ lo _ X nx whole bg (b1.set nx true) H.out HN.out hX HFL.out (HB0.out.trans (hbst.mono hbg)) hbg HST.out (by simp [hb1l]) hnxl hw rfl).mono ?_;rintro e w2 ⟨r,been2,rfl,hb2,hs2,hl2,hp2⟩
       have hbe2:=hbst.trans hb2
       have HS2:=hid hs2
       have HP2:=hid hp2
       clear hs2 hp2
       cases r with
       | true =>
        go_wp2_with fail
        go_ret
        exact ⟨true,been2,rfl,hbe2,HS2.out,hl2,.more HED.out HP2.out⟩
       | false =>
        have hfm:=falses_mono (b1.set nx true) been2 (by simp [hb1l,hl2]) HP2.out.mono
        have HDP:=hid (HP.out.deep HF.out HNX.out HWH.out (by omega) HP2.out)
        go_wp2_with fail
        go_roundg (gk - 1)
        case rel=>exact ⟨k + 1,been2,by omega,by go_num,hid HS2.out,hl2,hid HDP.out,hbe2,by omega⟩
        case measure=>omega
   ·have hsh':((f.shape:Int) == 0) = false:=by simp [hsh]
    have HSK:=hid (HP.out.skip HF.out (Or.inl hsh))
    generalize pFindI X f.base.toList = fi at *
    go_wp2_with fail
    go_roundg (gk - 1)
    case rel=>exact ⟨k + 1,b1,by omega,by go_num,hid HS1'.out,hb1l,hid HSK.out,hbe1,hfn⟩
    case measure=>omega
  ·have HE:=hid (HPart.all HX.out (j:=k) (by rw [HFS.out];omega) (by rw [HFS.out];exact HP.out))
   go_wp2_with fail
   go_ret
   exact ⟨false,b1,rfl,hbel,HS1.out,hb1l,HE.out⟩
end Go.Proofs.YtdgcamlmjmnpeaaGreatDoor
namespace Go.Proofs.YtdgcamlmjmnpeaaGreatDoor
open Go.RowKit
theorem Tryz.infoIntAt:∃ i,Tryz.prog.info? 3 = some i ∧ i.zero = some (.int .i64 0) ∧ i.size = 1 ∧ i.bytes = 8:=by
 obtain ⟨iI,hiI,hI0,hI1,hI2⟩:=info_parts Tryz.infoInt
 exact ⟨iI,hiI,hI0,hI1,hI2⟩
theorem wp_append_pl (w:World) {o:Oper} {a:Act} {K:Act → World → Prop} {Q:Exit → Act → World → Prop} (s x:Operand)
  (ho:o.op = .call { callee:=.builtin .append,args:=#[s,x],argTypes:=#[32,32] })
  (v:Value) (L:List Nat) (lo:Nat) (hs:a.eval s = v) (hP:Places w lo v L) (v2:Value) (L2:List Nat) (lo2:Nat) (hx:a.eval x = v2) (hP2:Places w lo2 v2 L2)
  (hlen:L.length + L2.length ≤ 1000000) (hlo:lo ≤ w.heap.size)
  (h:∀ a' c' w',Places w' lo (.slice a' (L ++ L2).length c') (L ++ L2) → w.grownBy w' v.ownBlock → K (a.put o.dst (.slice a' (L ++ L2).length c')) w'):o.wp Tryz.prog a w K Q:=by
 obtain ⟨iI,hiI,hI0,hI1,hI2⟩:=Tryz.infoIntAt
 obtain ⟨v',w',hr,h2,h3⟩:∃ v' w',(Builtin.append_ #[32,32] o.type #[v,v2]).run Tryz.prog w = .ok v' w' ∧ Places w' lo v' (L ++ L2) ∧ w.grownBy w' v.ownBlock:=by
  rcases hP2.2 with ⟨rfl,h0⟩ | ⟨g,cap,cur,hv2,_⟩
  ·have hL2:L2 = []:=List.eq_nil_of_length_eq_zero h0
   subst hL2
   exact ⟨v,w,run_append_owned_none w lo 32 o.type 3 iI 1 Tryz.underlying32 hiI v L.length _ hP,by simpa using hP,⟨rfl,rfl,rfl,Nat.le_refl _,fun _ _ _=>rfl⟩⟩
  ·subst hv2
   obtain ⟨v',w',hr,h2,h3,_⟩:=run_append_own_at (P:=Tryz.prog) w lo 32 o.type 3 iI (.int .i64 0) 1 8 Tryz.underlying32 hiI hI0 hI1 hI2 rfl (by decide) v L.length (L.map natCell) hP ⟨g,0,none⟩ L2.length cap (L2.map natCell) (by simp) (hP2.cells (g:=g) rfl) (fun u hu=>by obtain ⟨q,_,rfl⟩:=List.mem_map.1 hu;rfl) (by unfold maxLen;omega) (by omega) hlo
   refine ⟨v',w',hr,?_,h3⟩
   show w'.ownsRow _ _ _ _ _ _
   rw [List.length_append,List.map_append];exact h2
 obtain ⟨a',c',hv'⟩:=own_slice h2
 subst hv'
 unfold Oper.wp execOp
 simp only [ho,resolve,invoke,builtin,Sem.run_bind,Sem.run_pure,Result.andThen_ok,List.map_toArray,List.map_cons,List.map_nil,hs,hx,hr]
 exact h a' c' w' h2 h3
theorem wpList_append_pl (w:World) {ops:Array Oper} {rest:List Oper} {o:Oper} {a:Act} {Q:Exit → Act → World → Prop} (hgd:o.guard = none) (s x:Operand)
  (ho:o.op = .call { callee:=.builtin .append,args:=#[s,x],argTypes:=#[32,32] })
  (v:Value) (L:List Nat) (lo:Nat) (hs:a.eval s = v) (hP:Places w lo v L) (v2:Value) (L2:List Nat) (lo2:Nat) (hx:a.eval x = v2) (hP2:Places w lo2 v2 L2)
  (hlen:L.length + L2.length ≤ 1000000) (hlo:lo ≤ w.heap.size)
  (h:∀ a' c' w',Places w' lo (.slice a' (L ++ L2).length c') (L ++ L2) → w.grownBy w' v.ownBlock → wpList Tryz.prog ops Q rest (a.put o.dst (.slice a' (L ++ L2).length c')) w'):wpList Tryz.prog ops Q (o :: rest) a w :=
 wpList_plain hgd fun _ hK=>wp_append_pl w s x ho v L lo hs hP v2 L2 lo2 hx hP2 hlen hlo fun a' c' w' h2 h3=>hK _ _ (h a' c' w' h2 h3)
end Go.Proofs.YtdgcamlmjmnpeaaGreatDoor
