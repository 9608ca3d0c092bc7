/- Package values: the decoder's field and value. -/
import Derived.Test.YtdgcamlmjmnpeaaGreatDoorMDecB
namespace Go.Proofs.YtdgcamlmjmnpeaaGreatDoor
open Go.RowKit
set_option maxRecDepth 100000 in
set_option maxHeartbeats 1000000 in
theorem dfield_any {X:List PIV} {n:Nat} (hV:DVal X n) (hL:DLst X n) (w0 w:World) (db lo:Nat) (la:Option Addr) (ll lc:Nat) (v dv:Value) (L d:List UInt8) (f:PField) (dd:Int) (hdd:dd = (7:Int) - n) (hI:PIts w0 lo (.slice la ll lc) X) (hd:RdC w0 dv d) (hE:Env w0) (hb:Below w0.heap.size w0 w) (hdb:w0.heap.size ≤ db) (h:DcT w db w0.heap.size (.slice la ll lc) v L) (hdl:d.length ≤ 64) (hF:Fits L.length d.length) :
  Calls Tryz.prog 101 #[.pointer (some ⟨db,0,none⟩),.agg #[.int .i64 f.number,.int .i64 f.numberAt,.string f.name,.int .i64 f.nameAt,.int .i64 f.shape,.string f.base,.int .i64 f.baseAt],dv,.int .i64 dd] w (DPost (if f.shape = 2 then (decP X n).2 f.base.toList d else (decP X n).1 f.base.toList d) w db w0.heap.size (.slice la ll lc) L (1000 * (d.length + 1))):=by
 subst hdd
 obtain ⟨da,dc,hdv⟩:∃ a c,dv = .slice a d.length c:=hd.1.slice
 subst hdv
 by_cases h2:f.shape = 2
 ·have h2B:((f.shape:Int) == 2) = true:=by simp;omega
  rw [if_pos h2]
  have HC:=hid (fun w' (hb':Below w.heap.size w w')=>hL w0 w' db lo la ll lc v _ L d f.base hI hd hE (hb.trans (hb'.mono hb.size)) hdb (h.below hb') hdl hF)
  clear hI h hE hV hL hd hF
  go_enter Tryz.func101,Tryz.ntmps101
  go_wp2_with fail
  refine (HC.out _ ((Below.refl _ _).alloc (Nat.le_refl _) _)).mono ?_;intro e w1 h1
  have HP:=hid (h1.back ((Below.refl _ _).alloc (Nat.le_refl _) _))
  obtain ⟨ok,v',S,rfl,_⟩:=h1
  go_wp2_with fail
  go_ret
  exact HP.out
 ·have h2B:((f.shape:Int) == 2) = false:=by simp;omega
  rw [if_neg h2]
  have HC:=hid (fun w' (hb':Below w.heap.size w w')=>hV w0 w' db lo la ll lc v _ L d f.base hI hd hE (hb.trans (hb'.mono hb.size)) hdb (h.below hb') hdl hF)
  clear hI h hE hV hL hd hF
  go_enter Tryz.func101,Tryz.ntmps101
  go_wp2_with fail
  refine (HC.out _ ((Below.refl _ _).alloc (Nat.le_refl _) _)).mono ?_;intro e w1 h1
  have HP:=hid (h1.back ((Below.refl _ _).alloc (Nat.le_refl _) _))
  obtain ⟨ok,v',S,rfl,_⟩:=h1
  go_wp2_with fail
  go_ret
  exact HP.out
def dmspec (X:List PIV):Nat → List FD → List UInt8 → Txt
 | 0=>fun _ _=>none
 | n + 1=>msgD (decP X n).1 (decP X n).2
theorem decP_val (X:List PIV) (n:Nat):(decP X n).1 = valD (tyP X) (dmspec X n):=by cases n <;> rfl
structure FsOk (fs:List PField):Prop where
 len:fs.length ≤ 400
 num:∀ f ∈ fs,0 ≤ f.number ∧ f.number ≤ 99
 nm:∀ f ∈ fs,1 ≤ f.name.size ∧ f.name.size ≤ 400
 ne:fs.Pairwise fun f g=>f.number ≠ g.number
def DMsg (X:List PIV) (n:Nat):Prop:=∀ (w0 w:World) (db lo:Nat) (la:Option Addr) (ll lc:Nat) (v dv:Value) (L d:List UInt8) (fv:Value) (fs:List PField),PIts w0 lo (.slice la ll lc) X → RdC w0 dv d → Env w0 → Below w0.heap.size w0 w → w0.heap.size ≤ db → DcT w db w0.heap.size (.slice la ll lc) v L → d.length ≤ 64 → Fits L.length d.length →
 w0.ownsRow lo 152 7 fv fs.length (fs.flatMap pfCells) → FsOk fs →
 Calls Tryz.prog 58 #[.pointer (some ⟨db,0,none⟩),fv,dv,.int .i64 ((7:Int) - n)] w (DPost (dmspec X n (fs.map fdP) d) w db w0.heap.size (.slice la ll lc) L (1000 * (d.length + 1)))
set_option maxRecDepth 100000 in
set_option maxHeartbeats 4000000 in
theorem dvalue_any {X:List PIV} {n:Nat} (hM:DMsg X n) (hX:XOk X) (hN:∀ x ∈ X,x.it.fields.Pairwise fun f g=>f.number ≠ g.number):DVal X n:=by
 intro w0 w db lo la ll lc v dv L d base hI hd hE hb hdb h hdl hF
 obtain ⟨dd,hdd⟩:∃ dd:Int,dd = (7:Int) - (n:Int):=⟨_,rfl⟩
 rw [← hdd]
 rw [decP_val]
 obtain ⟨da,dc,hdv⟩:∃ a c,dv = .slice a d.length c:=hd.1.slice
 subst hdv
 have hz:=hb.size
 have HIw:=hid (hI.below hb)
 have HEw:=hid (hE.below hb)
 have HRw:=hid (hd.later hb)
 have e0:w.cell? ⟨db,0,none⟩ = some (.slice la ll lc):=by
  obtain ⟨p,_,hd⟩:=h.d
  exact hd.seg.cell (j:=0) rfl
 have HLn:=hid (show L.length ≤ 800000000 by have:=hF.out;omega)
 have hdl2:d.length ≤ 1000:=by omega
 have H:=hid h
 have HE:=hid hE
 have HI:=hid hI
 have HM:=hid hM
 have HDD:=hid hdd
 have HX:=hid hX
 have HD:=hid hd
 have HN:=hid hN
 clear h hE hI hM hdd hX hd hN
 cases hb1:(base.toList == [105,110,116]) with
 | true =>
  have HS:=hid (show valD (tyP X) (dmspec X n) base.toList d = (wholeV d).map (fun m=>Lib.itoa (unzig m)) by unfold valD;rw [if_pos (by simpa [wInt] using hb1)])
  go_enter Tryz.func23,Tryz.ntmps23
  go_wp2_with fail
  refine (dinteger_any w db w0.heap.size _ v _ L d H.out HRw.out hdl2 HEw.out (by have:=HLn.out;omega) hz).mono ?_;intro e w1 h1
  have HP:=hid (h1.turn HS.out (K':=1000 * (d.length + 1)) (by omega))
  obtain ⟨ok,v',S,rfl,_⟩:=h1
  go_wp2_with fail
  go_ret
  exact HP.out
 | false =>
  cases hb2:(base.toList == [98,111,111,108]) with
  | true =>
   have HS:=hid (show valD (tyP X) (dmspec X n) base.toList d = choD ([ByteArray.mk #[102,97,108,115,101],ByteArray.mk #[116,114,117,101]].map ByteArray.toList) d by
    unfold valD;rw [if_neg (by simpa [wInt] using hb1),if_pos (by simpa [wBool] using hb2)]
    simp [ByteArray.toList_eq,boolNames])
   go_enter Tryz.func23,Tryz.ntmps23
   go_wp2_with fail
   have hw0:Below w.heap.size w (w.alloc (.cells #[.string (ByteArray.mk #[102,97,108,115,101]),.string (ByteArray.mk #[116,114,117,101])] 9)):=(Below.refl _ _).alloc (Nat.le_refl _) _
   refine (dchoice_any _ db w0.heap.size w.heap.size _ v _ _ L d [ByteArray.mk #[102,97,108,115,101],ByteArray.mk #[116,114,117,101]] (H.out.below hw0) (HRw.out.later hw0) hdl2 (by have:=World.ownsRow_lit (base:=w.heap.size) (e:=9) (size:=1) w #[.string (ByteArray.mk #[102,97,108,115,101]),.string (ByteArray.mk #[116,114,117,101])] 2 (by simp) (by unfold maxLen;omega) rfl;simpa [strCell] using this) (by simp) (by decide) (by have:=HLn.out;omega) (by simp;omega)).mono ?_
   intro e w1 h1
   have HP:=hid ((h1.back hw0).turn HS.out (K':=1000 * (d.length + 1)) (by omega))
   obtain ⟨ok,v',S,rfl,_⟩:=h1
   go_wp2_with fail
   go_ret
   exact HP.out
  | false =>
   cases hb3:(base.toList == [116,101,120,116]) with
   | true =>
    have HS:=hid (show valD (tyP X) (dmspec X n) base.toList d = some (textD d) by unfold valD;rw [if_neg (by simpa [wInt] using hb1),if_neg (by simpa [wBool] using hb2),if_pos (by simpa [wText] using hb3)])
    have HTL:=hid (show (textD d).length ≤ 1000 * (d.length + 1) by unfold textD;rw [List.length_cons,List.length_append,List.length_singleton];have:=lets_len d;omega)
    unfold DPost
    go_enter Tryz.func23,Tryz.ntmps23
    go_wp2_with fail
    refine (dletters_any w db w0.heap.size _ v _ L d H.out HRw.out hdl2 HD.out.1.lt hdb (by have:=HLn.out;omega) hz).mono ?_;rintro e w1 ⟨rfl,v1,hd1,hf1⟩
    have HD1:=hid hd1
    have HF1:=hid hf1
    clear hd1 hf1
    go_wp2_with fail
    go_ret
    exact ⟨true,v1,textD d,rfl,HD1.out,HF1.out,HTL.out,HS.out⟩
   | false =>
    have HS:=hid (show valD (tyP X) (dmspec X n) base.toList d = (match tyP X base.toList with | none=>none | some (.inl ns)=>choD ns d | some (.inr fs)=>dmspec X n fs d) by unfold valD;rw [if_neg (by simpa [wInt] using hb1),if_neg (by simpa [wBool] using hb2),if_neg (by simpa [wText] using hb3)];cases tyP X base.toList with | none=>rfl | some t=>cases t <;> rfl)
    go_enter Tryz.func23,Tryz.ntmps23
    go_wp2_with fail
    refine (schemaType_any _ lo _ X base HIw.out HX.out.nms HX.out.len).mono ?_;rintro e w1 ⟨hb1w,hT⟩
    rcases hT with ⟨hneg,rfl⟩ | ⟨k,x,nn,hk,hx,hkd,hvf,hvn,rfl⟩
    ·have HSN:=hid (show valD (tyP X) (dmspec X n) base.toList d = none by
      rw [HS.out]
      have:tyP X base.toList = none:=by unfold tyP;split <;> simp [hneg]
      rw [this])
     clear hneg
     go_wp2_with fail
     go_ret
     have hba:Below w.heap.size w (w1.alloc (.cells #[.int .i64 0,.string ⟨#[]⟩,.int .i64 0,.slice none 0 0,.slice none 0 0,.string ⟨#[]⟩,.int .i64 0,.string ⟨#[]⟩,.int .i64 0] 98)):=hb1w.alloc hb1w.size _
     exact ⟨false,v,[],rfl,by have:=H.out.below hba;simpa using this,DF.ofBelow _ hba,by simp,HSN.out⟩
    ·have hxm:=List.mem_of_getElem? hx
     have hfl:=HX.out.fl x hxm
     have hnl:=HX.out.nl x hxm
     have HFO:=hid (HI.out.nest x hxm).f
     have HNO:=hid ((HIw.out.below hb1w).nest x hxm).n
     rw [hvf] at HFO
     rw [hvn] at HNO
     have HFS:=hid (show FsOk x.it.fields from ⟨hfl,HX.out.n x hxm,HX.out.s x hxm,HN.out x hxm⟩)
     have HNN:=hid (HX.out.nn x hxm)
     have HTY:=hid (show tyP X base.toList = if x.it.kind = 0 then some (.inr (x.it.fields.map fdP)) else some (.inl (x.it.names.map fun t=>t.text.toList)) by unfold tyP;rw [hk];simp only [Int.toNat_natCast,hx];rw [if_neg (by omega)])
     obtain ⟨it,vf,vn⟩:=x
     obtain ⟨kind,nm,fields,names,bs,an⟩:=it
     obtain ⟨ifa,ifc,ina,inc,ibb,iba,iab,iaa⟩:=nn
     simp only at hkd hfl hnl HFO HNO HFS HNN HTY ⊢
     clear hk hx hxm hvf hvn
     have hba:Below w.heap.size w (w1.alloc (.cells #[.int .i64 kind,.string nm.text,.int .i64 nm.at_,.slice ifa fields.length ifc,.slice ina names.length inc,.string ibb,.int .i64 iba,.string iab,.int .i64 iaa] 98)):=hb1w.alloc hb1w.size _
     have hba1:Below w1.heap.size w1 (w1.alloc (.cells #[.int .i64 kind,.string nm.text,.int .i64 nm.at_,.slice ifa fields.length ifc,.slice ina names.length inc,.string ibb,.int .i64 iba,.string iab,.int .i64 iaa] 98)):=(Below.refl _ _).alloc (Nat.le_refl _) _
     rcases hkd with rfl | rfl
     ·have HSM:=hid (show valD (tyP X) (dmspec X n) base.toList d = dmspec X n (fields.map fdP) d by rw [HS.out,HTY.out];rfl)
      go_wp2_with fail
      refine (HM.out w0 _ db lo la ll lc v _ L d _ fields HI.out HD.out HE.out (hb.trans (hba.mono hz)) hdb (H.out.below hba) hdl hF HFO.out HFS.out |> fun z=>by rw [HDD.out];exact z:Calls _ _ _ _ _).mono ?_
      intro e w2 h2
      have HP:=hid ((h2.back hba).turn HSM.out (Nat.le_refl _))
      obtain ⟨ok,v',S,rfl,_⟩:=h2
      go_wp2_with fail
      go_ret
      exact HP.out
     ·have HSM:=hid (show valD (tyP X) (dmspec X n) base.toList d = choD ((names.map fun t=>t.text).map ByteArray.toList) d by rw [HS.out,HTY.out];simp [List.map_map,Function.comp_def])
      go_wp2_with fail
      refine (choices_any _ lo _ _ _ _ _ _ _ _ _ _ _ _ names (own_same HNO.out (fun g hg=>hba1.block g (HNO.out.lt g hg).2)) hnl).mono ?_;rintro e w2 ⟨ca,cc,rfl,hown2,hb2⟩
      have hba2:Below w.heap.size w w2:=hba.trans (hb2.mono hba.size)
      have HO2:=hid hown2
      clear hown2
      go_wp2_with fail
      refine (dchoice_any w2 db w0.heap.size _ _ v _ _ L d (names.map fun t=>t.text) (H.out.below hba2) (HRw.out.later hba2) hdl2 (by have:=HO2.out;rw [List.length_map,List.map_map];exact this) (by rw [List.length_map];exact hnl) (fun q hq=>by obtain ⟨y,hy,rfl⟩:=List.mem_map.1 hq;exact (HNN.out y hy).2) (by have:=HLn.out;omega) (by have:=hba2.size;omega)).mono ?_
      intro e w3 h3
      have HP:=hid ((h3.back hba2).turn HSM.out (K':=1000 * (d.length + 1)) (by omega))
      obtain ⟨ok,v',S,rfl,_⟩:=h3
      go_wp2_with fail
      go_ret
      exact HP.out
end Go.Proofs.YtdgcamlmjmnpeaaGreatDoor
namespace Go.Proofs.YtdgcamlmjmnpeaaGreatDoor
open Go.RowKit
theorem pairs_at (l:List (Nat × Value)) (k:Nat) (x:Nat × Value) (h:l[k]? = some x):((l.flatMap pairCells).drop (k * 2)).take 2 = pairCells x:=by
 induction l generalizing k with
 | nil=>simp at h
 | cons a r ih =>
  rw [List.flatMap_cons]
  cases k with
  | zero=>simp at h;subst h;simp [pairCells]
  | succ k =>
   simp at h
   rw [List.drop_append,List.drop_eq_nil_of_le (by simp [pairCells];omega),List.nil_append,show (k + 1) * 2 - (pairCells a).length = k * 2 from by simp [pairCells];omega]
   exact ih k h
theorem part_seg {w:World} {lo:Nat} {v:Value} {us:List (Nat × Value)} (h:w.ownsRow lo 186 2 v us.length (us.flatMap pairCells)) {j:Nat} {x:Nat × Value} (hj:us[j]? = some x):∃ g c,v = .slice (some ⟨g,0,none⟩) us.length c ∧ lo ≤ g ∧ g < w.heap.size ∧ Seg w g 186 (j * 2) (pairCells x):=by
 have hlt:=at_lt hj
 obtain ⟨g,c,hv,hg,hs⟩:=h.form (by omega)
 rw [hv] at h
 have:=(own_seg h).part (j * 2) 2 (pairCells x) (pairs_at _ j x hj) rfl (by omega)
 exact ⟨g,c,hv,hg,hs,by simpa using this⟩
def ptFind (us:List (Nat × Value)) (m:Nat):Int:=match us.findIdx? (fun x=>x.1 == m) with | some i=>i | none=>-1
theorem ptFind_hit {us:List (Nat × Value)} {m k:Nat} {x:Nat × Value} (hk:us[k]? = some x) (hm:(x.1 == m) = true) (hall:∀ j y,j < k → us[j]? = some y → (y.1 == m) = false):ptFind us m = k:=by
 have hlt:=at_lt hk
 have e:us[k] = x:=by rw [List.getElem?_eq_getElem hlt] at hk;simpa using hk
 unfold ptFind
 have:us.findIdx? (fun x=>x.1 == m) = some k:=by
  rw [List.findIdx?_eq_some_iff_getElem]
  refine ⟨hlt,by rw [e];exact hm,fun j hj=>?_⟩
  have:=hall j us[j] hj (List.getElem?_eq_getElem (by omega))
  simp at this ⊢
  exact this
 rw [this]
theorem ptFind_miss {us:List (Nat × Value)} {m:Nat} (hall:∀ j y,j < us.length → us[j]? = some y → (y.1 == m) = false):ptFind us m = -1:=by
 unfold ptFind
 have:us.findIdx? (fun x=>x.1 == m) = none:=by
  rw [List.findIdx?_eq_none_iff]
  intro x hx
  obtain ⟨j,hj,rfl⟩:=List.getElem_of_mem hx
  exact hall j _ hj (List.getElem?_eq_getElem hj)
 rw [this]
set_option maxRecDepth 100000 in
set_option maxHeartbeats 1000000 in
theorem ptClosure_any (w:World) (n m:Nat) (pa:Option Addr) (pl pc fb:Nat) (hm:m ≤ 99) (hc:w.cell? ⟨fb,0,none⟩ = some (.int .i64 m)) (hfb:fb < w.heap.size) :
  Calls Tryz.prog 100 #[.agg #[.int .u64 n,.slice pa pl pc],.pointer (some ⟨fb,0,none⟩)] w fun e w'=>e = .returned (.bool (n == m)) ∧ Below w.heap.size w w':=by
 have hwr:IntKind.u64.wrap (m:Int) = (m:Int):=by rw [IntKind.wrap_u64];omega
 have HB:=hid (show ((n:Int) == (m:Int)) = (n == m) by rw [Bool.eq_iff_iff];simp;omega)
 go_enter Tryz.func100,Tryz.ntmps100
 go_wp2_with fail
 all_goals
  go_ret
  exact ⟨ret_bool (by first | exact HB.out | simp),(Below.refl _ _).alloc (Nat.le_refl _) _⟩
set_option maxRecDepth 100000 in
set_option maxHeartbeats 1000000 in
theorem ptIndex_any (w:World) (lo:Nat) (pv:Value) (us:List (Nat × Value)) (m fb:Nat) (h:w.ownsRow lo 186 2 pv us.length (us.flatMap pairCells)) (hsl:∀ x ∈ us,∃ a l c,x.2 = .slice a l c) (hl:us.length ≤ 1000) (hm:m ≤ 99) (hc:w.cell? ⟨fb,0,none⟩ = some (.int .i64 m)) (hfb:fb < w.heap.size) :
  Calls Tryz.prog 99 #[pv,.func (Fn.func 100) #[] #[.pointer (some ⟨fb,0,none⟩)]] w fun e w'=>e = .returned (.int .i64 (ptFind us m)) ∧ Below w.heap.size w w':=by
 obtain ⟨la,lc,hlv⟩:∃ a c,pv = .slice a us.length c:=own_slice h
 subst hlv
 have H:=hid h
 have HSL:=hid hsl
 clear h hsl
 go_enter Tryz.func99,Tryz.ntmps99
 go_wp2_with fail
 go_loopg [5,8] us.length (fun gk t i wr=>∃ k:Nat,k + gk = us.length ∧ i = .int .i64 k ∧ Hid (∀ j y,j < k → us[j]? = some y → (y.1 == m) = false) ∧ Below w.heap.size w wr)
 case atStart=>exact ⟨0,by omega,rfl,hid (fun j y hj=>by omega),Below.refl _ _⟩
 case round =>
  obtain ⟨k,hk,rfl,HA,hbel⟩:=hrel
  by_cases hlt:k < us.length
  ·obtain ⟨x,hx⟩:∃ x,us[k]? = some x:=⟨us[k],List.getElem?_eq_getElem hlt⟩
   obtain ⟨xa,xl,xc,hxs⟩:=HSL.out x (List.mem_of_getElem? hx)
   obtain ⟨g,cap,hv,hgl,hgs,hs⟩:=part_seg (own_same H.out (fun g hg=>hbel.block g (H.out.lt g hg).2)) hx
   obtain ⟨rfl,rfl⟩:la = some ⟨g,0,none⟩ ∧ lc = cap:=by simpa using hv
   obtain ⟨xn,xv⟩:=x
   simp only at hxs
   subst hxs
   have c0:wr.cell? ⟨g,k * 2,none⟩ = some (.int .u64 xn):=hs.cell (j:=0) rfl
   have c1:wr.cell? ⟨g,k * 2 + 1,none⟩ = some (.slice xa xl xc):=hs.cell (j:=1) rfl
   have HX:=hid hx
   have hc':wr.cell? ⟨fb,0,none⟩ = some (.int .i64 m):=by rw [hbel.cell hfb];exact hc
   have hfb':fb < wr.heap.size:=Nat.lt_of_lt_of_le hfb hbel.size
   clear hs hv hx
   go_wp2_with fail
   refine (ptClosure_any _ xn m xa xl xc fb hm hc' hfb').mono ?_;rintro e w1 ⟨rfl,hb1⟩
   have hb2:=hbel.trans (hb1.mono hbel.size)
   clear c0 c1 hb1 hc'
   cases hmm:(xn == m) with
   | false =>
    go_wp2_with fail
    go_roundg (gk - 1)
    case rel=>exact ⟨k + 1,by omega,by go_num,hid (fun j y hj hy=>by
     rcases Nat.lt_or_ge j k with h | h
     ·exact HA.out j y h hy
     ·rw [show j = k from by omega,HX.out] at hy;simp at hy;subst hy;exact hmm),hb2⟩
    case measure=>omega
   | true =>
    have HF:=hid (ptFind_hit HX.out hmm HA.out)
    go_wp2_with fail
    go_ret
    exact ⟨ret_int HF.out.symm,hb2⟩
  ·go_wp2_with fail
   go_ret
   exact ⟨ret_int (ptFind_miss (fun j y hj=>HA.out j y (by omega))).symm,hbel⟩
end Go.Proofs.YtdgcamlmjmnpeaaGreatDoor
