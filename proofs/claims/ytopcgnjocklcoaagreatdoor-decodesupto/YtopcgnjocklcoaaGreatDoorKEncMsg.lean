/- Package courierref's cursor: message. -/
import Derived.Test.YtopcgnjocklcoaaGreatDoorMEncT
namespace Go.Proofs.YtopcgnjocklcoaaGreatDoor
open Go.RowKit
structure YOk (Y:List IV):Prop where
 b:∀ y ∈ Y,∀ f ∈ y.it.fields,typeB Y f.base.toList = true
 n:∀ y ∈ Y,∀ f ∈ y.it.fields,0 ≤ f.number ∧ f.number ≤ 99
 s:∀ y ∈ Y,∀ f ∈ y.it.fields,1 ≤ f.name.size ∧ f.name.size ≤ 400
 k:∀ y ∈ Y,∀ f ∈ y.it.fields,isW f.kind wOpt = true ∨ isW f.kind wList = true ∨ f.kind.toList = []
 fl:∀ y ∈ Y,y.it.fields.length ≤ 400
 nl:∀ y ∈ Y,y.it.names.length ≤ 400
 nn:∀ y ∈ Y,∀ t ∈ y.it.names,1 ≤ t.size ∧ t.size ≤ 400
def RLst (Y:List IV) (n K:Nat):Prop:=∀ (w:World) (cb lo:Nat) (la:Option Addr) (ll lc:Nat) (s:ByteArray) (i:Nat) (base:ByteArray),Its w lo (.slice la ll lc) Y → Cu w cb (.slice la ll lc) s i true ((6:Int) - n) → Env w → Own cb → s.size ≤ 400 → typeB Y base.toList = true →
 Calls Tryz.prog 98 #[.pointer (some ⟨cb,0,none⟩),.string base] w (RPost ((encR Y n).2 base.toList) w cb (.slice la ll lc) s i ((6:Int) - n) K)
theorem eatP_append (p q t:List UInt8):eatP (p ++ q) t = (eatP p t).bind (eatP q):=by
 unfold eatP
 by_cases h:p.isPrefixOf t = true
 ·obtain ⟨r,rfl⟩:=List.isPrefixOf_iff_prefix.1 h
  rw [if_pos h,Option.bind_some,List.drop_left]
  have:((p ++ q).isPrefixOf (p ++ r)) = q.isPrefixOf r:=by
   rw [Bool.eq_iff_iff,List.isPrefixOf_iff_prefix,List.isPrefixOf_iff_prefix,List.prefix_append_right_inj]
  rw [this,List.length_append,List.drop_append,List.drop_eq_nil_of_le (show p.length ≤ p.length + q.length by omega)]
  simp
 ·rw [if_neg h]
  have:¬ (p ++ q).isPrefixOf t = true:=by
   intro hh
   obtain ⟨r,rfl⟩:=List.isPrefixOf_iff_prefix.1 hh
   exact h (List.isPrefixOf_iff_prefix.2 (by rw [List.append_assoc];exact List.prefix_append _ _))
  rw [if_neg this];rfl
theorem eat_some {s:ByteArray} {k:Nat} {p:List UInt8} (h:(eatP p (tailB s k)).isSome = true):eatP p (tailB s k) = some (tailB s (k + p.length)):=by
 unfold eatP at h ⊢
 split at h
 ·rw [if_pos ‹_›];unfold tailB;rw [List.drop_drop]
 ·cases h
theorem eat_none {t:List UInt8} {p:List UInt8} (h:(eatP p t).isSome = false):eatP p t = none:=by
 cases e:eatP p t with
 | none=>rfl
 | some r=>rw [e] at h;cases h
def FSt (G:Got) (val lst:List UInt8 → List UInt8 → Got) (fs:List FD) (s:ByteArray) (j k m:Nat) (out:List UInt8) (ok:Bool):Prop:=match ok with
 | true=>G = (fieldsGo val lst (fs.drop j) (decide (m = 0)) (tailB s k)).map fun x=>(out ++ x.1,x.2)
 | false=>G = none
def preF (m:Nat) (f:FD):List UInt8:=(if decide (m = 0) = true then [] else [44]) ++ f.name ++ [58]
theorem FSt.open {G:Got} {val lst:List UInt8 → List UInt8 → Got} {fs:List FD} {s:ByteArray} {j k m:Nat} {out:List UInt8} {f:FD} (h:FSt G val lst fs s j k m out true) (hf:fs[j]? = some f):G = (match eatP (preF m f) (tailB s k) with
  | none=>if f.shape = 1 then fieldsGo val lst (fs.drop (j + 1)) (decide (m = 0)) (tailB s k) else none
  | some t1=>(if f.shape = 2 then lst f.base t1 else val f.base t1).bind fun (v:List UInt8 × List UInt8)=>(fieldsGo val lst (fs.drop (j + 1)) false v.2).map fun (o:List UInt8 × List UInt8)=>(vint f.number ++ vsized v.1 ++ o.1,o.2)).map fun (x:List UInt8 × List UInt8)=>(out ++ x.1,x.2):=by
 have h':G = (fieldsGo val lst (fs.drop j) (decide (m = 0)) (tailB s k)).map fun x=>(out ++ x.1,x.2):=h
 have hlt:=at_lt hf
 have e:fs.drop j = f :: fs.drop (j + 1):=by
  rw [List.drop_eq_getElem_cons hlt]
  rw [List.getElem?_eq_getElem hlt] at hf
  cases hf;rfl
 rw [h',e]
 conv=>lhs;unfold fieldsGo
 rfl
theorem FSt.skip {G:Got} {val lst:List UInt8 → List UInt8 → Got} {fs:List FD} {s:ByteArray} {j k m:Nat} {out:List UInt8} {f:FD} (h:FSt G val lst fs s j k m out true) (hf:fs[j]? = some f) (he:eatP (preF m f) (tailB s k) = none):(f.shape = 1 → FSt G val lst fs s (j + 1) k m out true) ∧ (f.shape ≠ 1 → G = none):=by
 have:=h.open hf
 rw [he] at this
 exact ⟨fun h1=>by rw [if_pos h1] at this;exact this,fun h1=>by simp only [if_neg h1] at this;exact this⟩
theorem FSt.there {G:Got} {val lst:List UInt8 → List UInt8 → Got} {fs:List FD} {s:ByteArray} {j k k2 m:Nat} {out:List UInt8} {f:FD} (h:FSt G val lst fs s j k m out true) (hf:fs[j]? = some f) (he:eatP (preF m f) (tailB s k) = some (tailB s k2)) :
  ((if f.shape = 2 then lst f.base (tailB s k2) else val f.base (tailB s k2)) = none → G = none) ∧ ∀ v k4,(if f.shape = 2 then lst f.base (tailB s k2) else val f.base (tailB s k2)) = some (v,tailB s k4) → FSt G val lst fs s (j + 1) k4 (m + 1) (out ++ vint f.number ++ vsized v) true:=by
 have:=h.open hf
 rw [he] at this
 simp only at this
 refine ⟨fun hv=>by rw [hv] at this;exact this,fun v k4 hv=>?_⟩
 rw [hv] at this
 show G = _
 rw [this,show decide (m + 1 = 0) = false by simp]
 simp only [Option.bind_some,Option.map_map]
 congr 1
 funext x
 simp
theorem FSt.last {G:Got} {val lst:List UInt8 → List UInt8 → Got} {fs:List FD} {s:ByteArray} {j k m:Nat} {out:List UInt8} {ok:Bool} (h:FSt G val lst fs s j k m out ok) (hj:ok = true → fs.length ≤ j) {r:Bool} (hr:(eatP [125] (tailB s k)).isSome = r):G = (match (ok && r) with | true=>some (out,tailB s (upTo r k 1)) | false=>none):=by
 cases ok with
 | false=>exact h
 | true =>
  have h':G = (fieldsGo val lst (fs.drop j) (decide (m = 0)) (tailB s k)).map fun x=>(out ++ x.1,x.2):=h
  rw [List.drop_eq_nil_of_le (hj rfl)] at h'
  rw [h']
  unfold fieldsGo
  cases r with
  | true=>rw [eat_some hr];simp [upTo]
  | false=>rw [eat_none hr];simp
theorem rfield_seg {w:World} {lo:Nat} {v:Value} {fs:List RField} (h:w.ownsRow lo 102 7 v fs.length (fs.flatMap fieldCells)) {j:Nat} {f:RField} (hj:fs[j]? = some f):∃ g c,v = .slice (some ⟨g,0,none⟩) fs.length c ∧ lo ≤ g ∧ g < w.heap.size ∧ Seg w g 102 (j * 7) (fieldCells f):=by
 have hlt:=at_lt hj
 obtain ⟨g,c,hv,hg,hs⟩:=h.form (by omega)
 rw [hv] at h
 have:=(own_seg h).part (j * 7) 7 (fieldCells f) (fflat_at _ j f hj) rfl (by omega)
 exact ⟨g,c,hv,hg,hs,by simpa using this⟩
theorem fdR_opt {f:RField} (h:(f.kind.toList == [111,112,116]) = true):(fdR f).shape = 1:=if_pos h
theorem fdR_nopt {f:RField} (h:(f.kind.toList == [111,112,116]) = false):(fdR f).shape ≠ 1:=by
 have h':¬ isW f.kind wOpt = true:=by show ¬ (f.kind.toList == [111,112,116]) = true;rw [h];decide
 show (if isW f.kind wOpt then 1 else if isW f.kind wList then 2 else 0) ≠ 1
 rw [if_neg h'];split <;> decide
theorem fdR_list {f:RField} (h:(f.kind.toList == [108,105,115,116]) = true):(fdR f).shape = 2:=by
 have e:f.kind.toList = [108,105,115,116]:=by simpa using h
 have h':¬ isW f.kind wOpt = true:=by show ¬ (f.kind.toList == [111,112,116]) = true;rw [e];decide
 show (if isW f.kind wOpt then 1 else if isW f.kind wList then 2 else 0) = 2
 rw [if_neg h',if_pos (show isW f.kind wList = true from h)]
theorem fdR_nlist {f:RField} (h:(f.kind.toList == [108,105,115,116]) = false):(fdR f).shape ≠ 2:=by
 have h':¬ isW f.kind wList = true:=by show ¬ (f.kind.toList == [108,105,115,116]) = true;rw [h];decide
 show (if isW f.kind wOpt then 1 else if isW f.kind wList then 2 else 0) ≠ 2
 rw [if_neg h'];split <;> decide
theorem colonB (t:ByteArray):(t ++ ByteArray.mk #[58]).toList = t.toList ++ [58]:=by rw [ByteArray.toList_eq,ByteArray.toList_eq];simp
theorem colon_size (t:ByteArray):(t ++ ByteArray.mk #[58]).size = t.size + 1:=by rw [ByteArray.size_append];rfl
theorem openB:(ByteArray.mk #[123]).toList = [123]:=by rw [ByteArray.toList_eq]
theorem closeB:(ByteArray.mk #[125]).toList = [125]:=by rw [ByteArray.toList_eq]
set_option maxRecDepth 100000 in
set_option maxHeartbeats 4000000 in
theorem message_any {Y:List IV} {n K:Nat} (hV:RVal Y n K) (hL:RLst Y n K) (hY:YOk Y) (w:World) (cb lo:Nat) (la:Option Addr) (ll lc:Nat) (s:ByteArray) (i:Nat) (d:Int) (hd:d + 1 = (6:Int) - n) (hI:Its w lo (.slice la ll lc) Y) (q:Nat) (y:IV) (hy:Y[q]? = some y) (h:Cu w cb (.slice la ll lc) s i true d) (hE:Env w) (hO:Own cb) (hs:s.size ≤ 400) (hK:K ≤ 1000) (hd0:-1000 ≤ d) (fa na za ba xa:Option Addr) (fc nl nc zl zc bl bc xl xc:Nat) (hvf:y.vf = .slice fa y.it.fields.length fc) :
  Calls Tryz.prog 56 #[.pointer (some ⟨cb,0,none⟩),.agg #[.string y.it.kind,.string y.it.name,.int .i64 y.it.nameAt,.slice fa y.it.fields.length fc,.slice na nl nc,.slice za zl zc,.slice ba bl bc,.slice xa xl xc]] w (RPost (msgP (encR Y n).1 (encR Y n).2 (y.it.fields.map fdR)) w cb (.slice la ll lc) s i d (K + 10)):=by
 unfold RPost
 have hle:=h.le
 have hcl:=h.seg.lt
 have hymem:=List.mem_of_getElem? hy
 have hrow:=(hI.nest y hymem).f
 rw [hvf] at hrow
 have hfl:=hY.fl y hymem
 generalize hkd:y.it.kind = kd
 generalize hnm:y.it.name = nm
 generalize hnA:y.it.nameAt = nA
 generalize hfs:y.it.fields = fs at *
 have hYb:∀ f ∈ fs,typeB Y f.base.toList = true:=by rw [← hfs];exact hY.b y hymem
 have hYn:∀ f ∈ fs,0 ≤ f.number ∧ f.number ≤ 99:=by rw [← hfs];exact hY.n y hymem
 have hYs:∀ f ∈ fs,1 ≤ f.name.size ∧ f.name.size ≤ 400:=by rw [← hfs];exact hY.s y hymem
 have hYk:∀ f ∈ fs,isW f.kind wOpt = true ∨ isW f.kind wList = true ∨ f.kind.toList = []:=by rw [← hfs];exact hY.k y hymem
 clear hfs hkd hnm hnA hvf hymem hy hY
 have HYb:=hid hYb
 have HYn:=hid hYn
 have HYs:=hid hYs
 have HYk:=hid hYk
 have HROW:=hid hrow
 have e4:=h.seg.cell (j:=4) rfl
 have e3:=h.seg.cell (j:=3) rfl
 have ef4:=h.seg.frozen 4
 simp only [Nat.zero_add] at e4 e3
 have hbp1:(cb = w.heap.size) = False:=by simp;omega
 have hbp2:(w.heap.size = cb) = False:=by simp;omega
 have HWZ:=hid (show But cb w ((w.setCell ⟨cb,4,none⟩ (.int .i64 (d + 1))).alloc (.cells #[.string kd,.string nm,.int .i64 nA,.slice fa fs.length fc,.slice na nl nc,.slice za zl zc,.slice ba bl bc,.slice xa xl xc] 96)) from ((But.refl cb w).setCell 4 _).trans (But.ofBelow ((Below.refl _ _).alloc (Nat.le_refl _) _)))
 have H0:=hid (show Cu ((w.setCell ⟨cb,4,none⟩ (.int .i64 (d + 1))).alloc (.cells #[.string kd,.string nm,.int .i64 nA,.slice fa fs.length fc,.slice na nl nc,.slice za zl zc,.slice ba bl bc,.slice xa xl xc] 96)) cb (.slice la ll lc) s i true (d + 1) from (h.putDeep (d + 1)).same (((Below.refl _ _).alloc (Nat.le_refl _) _).block cb (h.putDeep (d + 1)).seg.lt))
 have HI0:=hid (show Its ((w.setCell ⟨cb,4,none⟩ (.int .i64 (d + 1))).alloc (.cells #[.string kd,.string nm,.int .i64 nA,.slice fa fs.length fc,.slice na nl nc,.slice za zl zc,.slice ba bl bc,.slice xa xl xc] 96)) lo (.slice la ll lc) Y from hI.but h.seg HWZ.out)
 have HE0:=hid (show Env ((w.setCell ⟨cb,4,none⟩ (.int .i64 (d + 1))).alloc (.cells #[.string kd,.string nm,.int .i64 nA,.slice fa fs.length fc,.slice na nl nc,.slice za zl zc,.slice ba bl bc,.slice xa xl xc] 96)) from hE.but HWZ.out hO)
 have HRWZ:=hid (show ((w.setCell ⟨cb,4,none⟩ (.int .i64 (d + 1))).alloc (.cells #[.string kd,.string nm,.int .i64 nA,.slice fa fs.length fc,.slice na nl nc,.slice za zl zc,.slice ba bl bc,.slice xa xl xc] 96)).ownsRow lo 102 7 (.slice fa fs.length fc) fs.length (fs.flatMap fieldCells) from own_same hrow (fun g hg=>HWZ.out.block g (hrow.lt g hg).2 (own_seg_ne hrow h.seg (by decide) hg)))
 have HI3:=hid (show ((w.setCell ⟨cb,4,none⟩ (.int .i64 (d + 1))).alloc (.cells #[.string kd,.string nm,.int .i64 nA,.slice fa fs.length fc,.slice na nl nc,.slice za zl zc,.slice ba bl bc,.slice xa xl xc] 96)).cell? ⟨w.heap.size,3,none⟩ = some (.slice fa fs.length fc) from (by have:=cells_new_at (w.setCell ⟨cb,4,none⟩ (.int .i64 (d + 1))) w.heap.size (by simp) #[.string kd,.string nm,.int .i64 nA,.slice fa fs.length fc,.slice na nl nc,.slice za zl zc,.slice ba bl bc,.slice xa xl xc] 96 3 (.slice fa fs.length fc) rfl;simpa [Addr.add] using this))
 have hib0:w.heap.size < ((w.setCell ⟨cb,4,none⟩ (.int .i64 (d + 1))).alloc (.cells #[.string kd,.string nm,.int .i64 nA,.slice fa fs.length fc,.slice na nl nc,.slice za zl zc,.slice ba bl bc,.slice xa xl xc] 96)).heap.size:=by simp
 have HV:=hid hV
 have HL:=hid hL
 clear h hE hI hV hL hYb hYn hYs hYk hrow
 generalize hG:msgP (encR Y n).1 (encR Y n).2 (fs.map fdR) (tailB s i) = G
 have HG:=hid hG
 have HG2:=hid (show G = (eatP [123] (tailB s i)).bind (fieldsGo (encR Y n).1 (encR Y n).2 (fs.map fdR) true) by rw [← hG];rfl)
 clear hG
 have hd6:d + 1 ≤ 6:=by omega
 have HD:=hid hd
 clear hd
 go_enter Tryz.func56,Tryz.ntmps56
 go_wp2_with fail
 generalize ((w.setCell ⟨cb,4,none⟩ (.int .i64 (d + 1))).alloc (.cells #[.string kd,.string nm,.int .i64 nA,.slice fa fs.length fc,.slice na nl nc,.slice za zl zc,.slice ba bl bc,.slice xa xl xc] 96)) = w0 at *
 refine (need_any w0 cb la ll lc s (ByteArray.mk #[123]) i true (d + 1) H0.out hs (by decide)).mono ?_;rintro e w1 ⟨⟨v,rfl⟩,hb1,hc1⟩
 rw [openB] at hc1
 simp only [Bool.true_and] at hc1
 generalize hr:(eatP [123] (tailB s i)).isSome = r at *
 have HR:=hid hr
 have hz1:(ByteArray.mk #[123]).size = 1:=rfl
 rw [hz1] at hc1
 obtain ⟨k0,hk0⟩:∃ k0,k0 = upTo r i 1:=⟨_,rfl⟩
 rw [← hk0] at hc1
 have hk0':i ≤ k0 ∧ k0 ≤ i + 1 ∧ (r = true → k0 = i + 1):=by rw [hk0];cases r <;> simp [upTo]
 have HC1:=hid hc1
 have HT0:=hid (show FSt G (encR Y n).1 (encR Y n).2 (fs.map fdR) s 0 k0 0 [] r from by
  cases r with
  | true =>
   show G = _
   rw [HG2.out,eat1_some HR.out,hk0'.2.2 rfl];simp
  | false =>
   show G = none
   rw [HG2.out,eat1_none HR.out];rfl)
 have hz0:=HWZ.out.size
 have hz:=hb1.size
 clear hc1 hk0 hr e4 ef4 e3 hbp1 hbp2
 go_wp2_with fail
 go_loopg [5,6,7,8,9,10,11,12] fs.length (fun gk o5 n6 j7 x8 x9 x10 x11 x12 wr=>∃ (j k m:Nat) (out:List UInt8) (ok:Bool),i ≤ k ∧ j + gk = fs.length ∧ n6 = .int .i64 m ∧ m ≤ j ∧ j7 = .int .i64 j ∧ Hid (Cu wr cb (.slice la ll lc) s k ok (d + 1)) ∧ Hid (Bys wr w0.heap.size o5 out) ∧ (ok = true → out.length ≤ 2 * (k - i)) ∧ out.length ≤ 2 * (k - i) + K + 10 ∧ Hid (FSt G (encR Y n).1 (encR Y n).2 (fs.map fdR) s j k m out ok) ∧ But cb w0 wr)
 case atStart=>exact ⟨0,k0,0,[],r,hk0'.1,by omega,rfl,by omega,rfl,hid HC1.out,hid (World.ownsRow_nil _ _ _ _),by simp,by simp,hid HT0.out,hb1⟩
 case round =>
  obtain ⟨j,k,m,out,ok,hik,hjk,rfl,hmj,rfl,HC,HB,hol,hol2,HT,hbut⟩:=hrel
  obtain ⟨oa,oc,hov⟩:∃ a c,u5 = .slice a out.length c:=own_slice HB.out
  subst hov
  have hle:=HC.out.le
  have e2:=HC.out.seg.cell (j:=2) rfl
  have e3:=HC.out.seg.cell (j:=3) rfl
  simp only [Nat.zero_add] at e2 e3
  have i3:wr.cell? ⟨w.heap.size,3,none⟩ = some (.slice fa fs.length fc):=(World.cell?_of_block (w:=w0) (hbut.block w.heap.size hib0 (by omega))).trans HI3.out
  by_cases hlt:j < fs.length
  ·have hltI:(j:Int) < (fs.length:Int):=by omega
   cases ok with
   | false =>
    go_wp2_with fail
    refine (need_any wr cb la ll lc s (ByteArray.mk #[125]) k false (d + 1) HC.out hs (by decide)).mono ?_;rintro e w2 ⟨⟨v2,rfl⟩,hb2,hc2⟩
    rw [closeB] at hc2
    generalize hr2:(eatP [125] (tailB s k)).isSome = r2 at *
    have hz125:(ByteArray.mk #[125]).size = 1:=rfl
    rw [hz125] at hc2
    have HLS:=hid (HT.out.last (fun h=>by cases h) hr2)
    have HC2:=hid hc2
    have HB2:=hid (HB.out.but HC.out.seg (by decide) hb2)
    have hbut2:=hbut.trans hb2
    have f4:=HC2.out.seg.cell (j:=4) rfl
    have ff4:=HC2.out.seg.frozen 4
    simp only [Nat.zero_add] at f4
    have HBx:=hid (HB2.out.but HC2.out.seg (by decide) ((But.refl _ _).setCell 4 (.int .i64 d)))
    clear hc2 hb2 hr2
    go_wp2_with fail
    go_ret
    refine ⟨oa,oc,out,upTo r2 k 1,false && r2,rfl,own_base HBx.out hz0,(HWZ.out.trans hbut2).setCell _ _,HC2.out.putDeep d,?_,?_,?_,HLS.out⟩
    ·cases r2 <;> simp [upTo] <;> omega
    ·intro hh
     have hh1:=hol (by revert hh;generalize false = x;cases x <;> simp)
     cases r2 <;> simp [upTo] <;> omega
    ·cases r2 <;> simp [upTo] <;> omega
   | true =>
    obtain ⟨f,hf⟩:∃ f,fs[j]? = some f:=⟨fs[j],List.getElem?_eq_getElem hlt⟩
    have hfm:=List.mem_of_getElem? hf
    obtain ⟨gf,capf,hvf,hgfl,hgfs,hsf⟩:=rfield_seg (own_same HRWZ.out (fun q hq=>hbut.block q (HRWZ.out.lt q hq).2 (own_seg_ne HRWZ.out H0.out.seg (by decide) hq))) hf
    obtain ⟨rfl,rfl⟩:fa = some ⟨gf,0,none⟩ ∧ fc = capf:=by simpa using hvf
    have c0:wr.cell? ⟨gf,j * 7,none⟩ = some (.int .i64 f.number):=hsf.cell (j:=0) rfl
    have c1:wr.cell? ⟨gf,j * 7 + 1,none⟩ = some (.string f.name):=hsf.cell (j:=1) rfl
    have c2:wr.cell? ⟨gf,j * 7 + 2,none⟩ = some (.string f.kind):=hsf.cell (j:=2) rfl
    have c3:wr.cell? ⟨gf,j * 7 + 3,none⟩ = some (.string f.base):=hsf.cell (j:=3) rfl
    have c4:wr.cell? ⟨gf,j * 7 + 4,none⟩ = some (.int .i64 f.numberAt):=hsf.cell (j:=4) rfl
    have c5:wr.cell? ⟨gf,j * 7 + 5,none⟩ = some (.int .i64 f.nameAt):=hsf.cell (j:=5) rfl
    have c6:wr.cell? ⟨gf,j * 7 + 6,none⟩ = some (.int .i64 f.baseAt):=hsf.cell (j:=6) rfl
    have HF:=hid hf
    have hol1:=hol rfl
    clear hol
    have hcl:=HC.out.seg.lt
    have hbp1:(cb = wr.heap.size) = False:=by simp;omega
    have hbp2:(wr.heap.size = cb) = False:=by simp;omega
    have hnw1:(wr.alloc (.cells #[.int .i64 f.number,.string f.name,.string f.kind,.string f.base,.int .i64 f.numberAt,.int .i64 f.nameAt,.int .i64 f.baseAt] 102)).cell? ⟨wr.heap.size,1,none⟩ = some (.string f.name):=by simp
    obtain ⟨fn,hfn⟩:∃ fn:Nat,f.number = (fn:Int):=⟨f.number.toNat,by have:=HYn.out f hfm;omega⟩
    have hnw0:(wr.alloc (.cells #[.int .i64 f.number,.string f.name,.string f.kind,.string f.base,.int .i64 f.numberAt,.int .i64 f.nameAt,.int .i64 f.baseAt] 102)).cell? ⟨wr.heap.size,0,none⟩ = some (.int .i64 (fn:Int)):=by rw [← hfn];simp
    have hnw2:(wr.alloc (.cells #[.int .i64 f.number,.string f.name,.string f.kind,.string f.base,.int .i64 f.numberAt,.int .i64 f.nameAt,.int .i64 f.baseAt] 102)).cell? ⟨wr.heap.size,2,none⟩ = some (.string f.kind):=by simp
    have hnw3:(wr.alloc (.cells #[.int .i64 f.number,.string f.name,.string f.kind,.string f.base,.int .i64 f.numberAt,.int .i64 f.nameAt,.int .i64 f.baseAt] 102)).cell? ⟨wr.heap.size,3,none⟩ = some (.string f.base):=by simp
    have hbA:But cb wr (wr.alloc (.cells #[.int .i64 f.number,.string f.name,.string f.kind,.string f.base,.int .i64 f.numberAt,.int .i64 f.nameAt,.int .i64 f.baseAt] 102)):=But.ofBelow ((Below.refl _ _).alloc (Nat.le_refl _) _)
    have HCA:=hid (show Cu (wr.alloc (.cells #[.int .i64 f.number,.string f.name,.string f.kind,.string f.base,.int .i64 f.numberAt,.int .i64 f.nameAt,.int .i64 f.baseAt] 102)) cb (.slice la ll lc) s k true (d + 1) from HC.out.same (((Below.refl _ _).alloc (Nat.le_refl _) _).block cb HC.out.seg.lt))
    have HBA:=hid (HB.out.but HC.out.seg (by decide) hbA)
    have hbutA:=hbut.trans hbA
    have hfl0:wr.heap.size < (wr.alloc (.cells #[.int .i64 f.number,.string f.name,.string f.kind,.string f.base,.int .i64 f.numberAt,.int .i64 f.nameAt,.int .i64 f.baseAt] 102)).heap.size:=by simp
    have hfnS:=HYs.out f hfm
    have hfnN:fn ≤ 99:=by have:=HYn.out f hfm;omega
    have HFN:=hid (show (fdR f).number = fn from by show f.number.toNat = fn;rw [hfn];rfl)
    clear hfn
    have hfov:¬ 9223372036854775807 < f.name.size + 1:=by omega
    have HF':=hid (show (fs.map fdR)[j]? = some (fdR f) by rw [List.getElem?_map,HF.out];rfl)
    clear hsf hvf hf
    by_cases hm0:m = 0
    ·subst hm0
     go_wp2_with fail
     generalize (wr.alloc (.cells #[.int .i64 f.number,.string f.name,.string f.kind,.string f.base,.int .i64 f.numberAt,.int .i64 f.nameAt,.int .i64 f.baseAt] 102)) = wb at *
     refine (eat_any wb cb la ll lc s (f.name ++ ByteArray.mk #[58]) k true (d + 1) HCA.out hs (by rw [colon_size];omega)).mono ?_;rintro e w2 ⟨rfl,hb2,hc2⟩
     rw [colonB] at hc2 ⊢
     rw [colon_size] at hc2
     have HB2:=hid (HBA.out.but HCA.out.seg (by decide) hb2)
     have hbut2:=hbutA.trans hb2
     have hzb2:=hb2.size
     have n2:w2.cell? ⟨wr.heap.size,2,none⟩ = some (.string f.kind):=(World.cell?_of_block (w:=wb) (hb2.block wr.heap.size hfl0 (by omega))).trans hnw2
     have n0:w2.cell? ⟨wr.heap.size,0,none⟩ = some (.int .i64 (fn:Int)):=(World.cell?_of_block (w:=wb) (hb2.block wr.heap.size hfl0 (by omega))).trans hnw0
     have n3:w2.cell? ⟨wr.heap.size,3,none⟩ = some (.string f.base):=(World.cell?_of_block (w:=wb) (hb2.block wr.heap.size hfl0 (by omega))).trans hnw3
     cases hr2:(eatP (f.name.toList ++ [58]) (tailB s k)).isSome with
     | false =>
      rw [hr2] at hc2
      have HC2:=hid (show Cu w2 cb (.slice la ll lc) s k true (d + 1) from hc2)
      have HEN:=hid (show eatP (preF 0 (fdR f)) (tailB s k) = none from eat_none hr2)
      clear hc2 hb2
      have g2:=HC2.out.seg.cell (j:=2) rfl
      have gf2:=HC2.out.seg.frozen 2
      have g3:=HC2.out.seg.cell (j:=3) rfl
      have gf3:=HC2.out.seg.frozen 3
      simp only [Nat.zero_add] at g2 g3
      have HB2x:=hid (HB2.out.but HC2.out.seg (by decide) ((But.refl _ _).setCell 2 (.int .i64 k)))
      have HB2y:=hid (HB2x.out.but (HC2.out.put k (by omega)).seg (by decide) ((But.refl _ _).setCell 3 (.bool false)))
      cases hko:(f.kind.toList == [111,112,116]) with
      | true =>
       have HN:=hid ((HT.out.skip HF'.out HEN.out).1 (fdR_opt hko))
       go_wp2_with fail
       go_roundg (gk - 1)
       case rel=>exact ⟨j + 1,k,0,out,true,hik,by omega,rfl,by omega,by go_num,hid (HC2.out.put k (by omega)),hid HB2x.out,fun _=>hol1,hol2,hid HN.out,hbut2.setCell _ _⟩
       case measure=>omega
      | false =>
       have HN:=hid ((HT.out.skip HF'.out HEN.out).2 (fdR_nopt hko))
       go_wp2_with fail
       go_roundg (gk - 1)
       case rel=>exact ⟨j + 1,k,0,out,false,hik,by omega,rfl,by omega,by go_num,hid ((HC2.out.put k (by omega)).putOk false),hid HB2y.out,fun h=>(by cases h),hol2,hid HN.out,(hbut2.setCell _ _).setCell _ _⟩
       case measure=>omega
     | true =>
      rw [hr2] at hc2
      have HC2:=hid (show Cu w2 cb (.slice la ll lc) s (k + (f.name.size + 1)) true (d + 1) from hc2)
      have HES:=hid (show eatP (preF 0 (fdR f)) (tailB s k) = some (tailB s (k + (f.name.size + 1))) from by have:=eat_some hr2;rw [List.length_append,size_list] at this;exact this)
      clear hc2 hb2
      have hle2:=HC2.out.le
      have hfbl:wr.heap.size < w2.heap.size:=by omega
      have HTH:=hid (HT.out.there HF'.out HES.out)
      cases hkl:(f.kind.toList == [108,105,115,116]) with
      | true =>
       have hsh:(fdR f).shape = 2:=by exact fdR_list hkl
       go_wp2_with fail
       refine (HL.out w2 cb lo la ll lc s (k + (f.name.size + 1)) f.base (HI0.out.but H0.out.seg hbut2) (by rw [← HD.out];exact HC2.out) (HE0.out.but hbut2 hO) hO hs (HYb.out f hfm)).mono ?_
       rintro e w4 ⟨a4,c4,v4,k4,ok4,rfl,hb4,hb44,hc4,hk4,hl4,hl4x,hsp4⟩
       rw [← HD.out] at hc4
       have hle4:=hc4.le
       have HC4:=hid hc4
       have HB4v:=hid hb4
       have HB4o:=hid (HB2.out.but HC2.out.seg (by decide) hb44)
       have hbut4w:=hbut2.trans hb44
       have hz4:=hbut4w.size
       have hzz4:=hb44.size
       have HAP:=hid (apt_new HB2.out hb4)
       have m0:w4.cell? ⟨wr.heap.size,0,none⟩ = some (.int .i64 (fn:Int)):=(World.cell?_of_block (w:=w2) (hb44.block wr.heap.size (by omega) (by omega))).trans n0
       have HSP:=hid hsp4
       cases ok4 with
       | false =>
        have HN:=hid (show FSt G (encR Y n).1 (encR Y n).2 (fs.map fdR) s (j + 1) k4 (0 + 1) (out ++ vint fn ++ vsized v4) false from HTH.out.1 (by rw [if_pos hsh];exact HSP.out))
        clear HTH HSP hsp4 hc4 hb4
        go_wp2_with fail
        refine (refSmall_any w4 w0.heap.size _ out fn HB4o.out (by omega) (by omega) (by omega)).mono ?_;rintro e w5 ⟨a5,c5,rfl,hb5,hg5⟩
        have HC5:=hid (HC4.out.grew (Below.refl _ _) HB4o.out hg5)
        have hbut5:=hbut4w.grew (Below.refl _ _) HB4o.out hg5
        have HB5:=hid hb5
        have HB5v:=hid (show Bys w5 w2.heap.size (.slice a4 v4.length c4) v4 from own_same HB4v.out (fun g hg=>hg5.g.block g (HB4v.out.lt g hg).2 (fun e=>HAP.out g e.symm hg)))
        have HAP5:=hid (show Apt (.slice a5 (out ++ vint fn).length c5) (.slice a4 v4.length c4) from fun g h1 h2=>(by
         rcases hg5.b g h1 with e | e
         ·exact HAP.out g e h2
         ·have:=(HB4v.out.lt g h2).2;omega))
        have hz5:=hg5.g.size
        have hol5:(out ++ vint fn).length ≤ out.length + 1:=by rw [List.length_append];have:=vint_len 0 fn (by omega);omega
        generalize out ++ vint fn = out5 at *
        clear hb5 hg5
        go_wp2_with fail
        refine (refSized_any w5 w0.heap.size _ _ _ out5 v4 HB5.out HB5v.out HAP5.out (by omega) (by omega) (by omega)).mono ?_;rintro e w6 ⟨a6,c6,rfl,hb6,hg6⟩
        have HC6:=hid (HC5.out.grew (Below.refl _ _) HB5.out hg6)
        have hbut6:=hbut5.grew (Below.refl _ _) HB5.out hg6
        have HB6:=hid hb6
        have hol6:(out5 ++ vsized v4).length ≤ out5.length + v4.length + 2:=by rw [List.length_append];have:=vsized_len (b:=v4) (by omega);omega
        generalize out5 ++ vsized v4 = out6 at *
        clear hb6 hg6
        go_wp2_with fail
        go_roundg (gk - 1)
        case rel=>exact ⟨j + 1,k4,0 + 1,out6,false,by omega,by omega,by go_num,by omega,by go_num,hid HC6.out,hid HB6.out,fun h=>(by cases h),by omega,hid HN.out,hbut6⟩
        case measure=>omega
       | true =>
        have hl4t:=hl4 rfl
        have HN:=hid (show FSt G (encR Y n).1 (encR Y n).2 (fs.map fdR) s (j + 1) k4 (0 + 1) (out ++ vint fn ++ vsized v4) true from by have:=HTH.out.2 v4 k4 (by rw [if_pos hsh];exact HSP.out);rw [HFN.out] at this;exact this)
        clear HTH HSP hsp4 hc4 hb4
        go_wp2_with fail
        refine (refSmall_any w4 w0.heap.size _ out fn HB4o.out (by omega) (by omega) (by omega)).mono ?_;rintro e w5 ⟨a5,c5,rfl,hb5,hg5⟩
        have HC5:=hid (HC4.out.grew (Below.refl _ _) HB4o.out hg5)
        have hbut5:=hbut4w.grew (Below.refl _ _) HB4o.out hg5
        have HB5:=hid hb5
        have HB5v:=hid (show Bys w5 w2.heap.size (.slice a4 v4.length c4) v4 from own_same HB4v.out (fun g hg=>hg5.g.block g (HB4v.out.lt g hg).2 (fun e=>HAP.out g e.symm hg)))
        have HAP5:=hid (show Apt (.slice a5 (out ++ vint fn).length c5) (.slice a4 v4.length c4) from fun g h1 h2=>(by
         rcases hg5.b g h1 with e | e
         ·exact HAP.out g e h2
         ·have:=(HB4v.out.lt g h2).2;omega))
        have hz5:=hg5.g.size
        have hol5:(out ++ vint fn).length ≤ out.length + 1:=by rw [List.length_append];have:=vint_len 0 fn (by omega);omega
        generalize out ++ vint fn = out5 at *
        clear hb5 hg5
        go_wp2_with fail
        refine (refSized_any w5 w0.heap.size _ _ _ out5 v4 HB5.out HB5v.out HAP5.out (by omega) (by omega) (by omega)).mono ?_;rintro e w6 ⟨a6,c6,rfl,hb6,hg6⟩
        have HC6:=hid (HC5.out.grew (Below.refl _ _) HB5.out hg6)
        have hbut6:=hbut5.grew (Below.refl _ _) HB5.out hg6
        have HB6:=hid hb6
        have hol6:(out5 ++ vsized v4).length ≤ out5.length + v4.length + 2:=by rw [List.length_append];have:=vsized_len (b:=v4) (by omega);omega
        generalize out5 ++ vsized v4 = out6 at *
        clear hb6 hg6
        go_wp2_with fail
        go_roundg (gk - 1)
        case rel=>exact ⟨j + 1,k4,0 + 1,out6,true,by omega,by omega,by go_num,by omega,by go_num,hid HC6.out,hid HB6.out,fun _=>by omega,by omega,hid HN.out,hbut6⟩
        case measure=>omega
      | false =>
       have hsh:(fdR f).shape ≠ 2:=by exact fdR_nlist hkl
       go_wp2_with fail
       refine (HV.out w2 cb lo la ll lc s (k + (f.name.size + 1)) f.base (HI0.out.but H0.out.seg hbut2) (by rw [← HD.out];exact HC2.out) (HE0.out.but hbut2 hO) hO hs (HYb.out f hfm)).mono ?_
       rintro e w4 ⟨a4,c4,v4,k4,ok4,rfl,hb4,hb44,hc4,hk4,hl4,hl4x,hsp4⟩
       rw [← HD.out] at hc4
       have hle4:=hc4.le
       have HC4:=hid hc4
       have HB4v:=hid hb4
       have HB4o:=hid (HB2.out.but HC2.out.seg (by decide) hb44)
       have hbut4w:=hbut2.trans hb44
       have hz4:=hbut4w.size
       have hzz4:=hb44.size
       have HAP:=hid (apt_new HB2.out hb4)
       have m0:w4.cell? ⟨wr.heap.size,0,none⟩ = some (.int .i64 (fn:Int)):=(World.cell?_of_block (w:=w2) (hb44.block wr.heap.size (by omega) (by omega))).trans n0
       have HSP:=hid hsp4
       cases ok4 with
       | false =>
        have HN:=hid (show FSt G (encR Y n).1 (encR Y n).2 (fs.map fdR) s (j + 1) k4 (0 + 1) (out ++ vint fn ++ vsized v4) false from HTH.out.1 (by rw [if_neg hsh];exact HSP.out))
        clear HTH HSP hsp4 hc4 hb4
        go_wp2_with fail
        refine (refSmall_any w4 w0.heap.size _ out fn HB4o.out (by omega) (by omega) (by omega)).mono ?_;rintro e w5 ⟨a5,c5,rfl,hb5,hg5⟩
        have HC5:=hid (HC4.out.grew (Below.refl _ _) HB4o.out hg5)
        have hbut5:=hbut4w.grew (Below.refl _ _) HB4o.out hg5
        have HB5:=hid hb5
        have HB5v:=hid (show Bys w5 w2.heap.size (.slice a4 v4.length c4) v4 from own_same HB4v.out (fun g hg=>hg5.g.block g (HB4v.out.lt g hg).2 (fun e=>HAP.out g e.symm hg)))
        have HAP5:=hid (show Apt (.slice a5 (out ++ vint fn).length c5) (.slice a4 v4.length c4) from fun g h1 h2=>(by
         rcases hg5.b g h1 with e | e
         ·exact HAP.out g e h2
         ·have:=(HB4v.out.lt g h2).2;omega))
        have hz5:=hg5.g.size
        have hol5:(out ++ vint fn).length ≤ out.length + 1:=by rw [List.length_append];have:=vint_len 0 fn (by omega);omega
        generalize out ++ vint fn = out5 at *
        clear hb5 hg5
        go_wp2_with fail
        refine (refSized_any w5 w0.heap.size _ _ _ out5 v4 HB5.out HB5v.out HAP5.out (by omega) (by omega) (by omega)).mono ?_;rintro e w6 ⟨a6,c6,rfl,hb6,hg6⟩
        have HC6:=hid (HC5.out.grew (Below.refl _ _) HB5.out hg6)
        have hbut6:=hbut5.grew (Below.refl _ _) HB5.out hg6
        have HB6:=hid hb6
        have hol6:(out5 ++ vsized v4).length ≤ out5.length + v4.length + 2:=by rw [List.length_append];have:=vsized_len (b:=v4) (by omega);omega
        generalize out5 ++ vsized v4 = out6 at *
        clear hb6 hg6
        go_wp2_with fail
        go_roundg (gk - 1)
        case rel=>exact ⟨j + 1,k4,0 + 1,out6,false,by omega,by omega,by go_num,by omega,by go_num,hid HC6.out,hid HB6.out,fun h=>(by cases h),by omega,hid HN.out,hbut6⟩
        case measure=>omega
       | true =>
        have hl4t:=hl4 rfl
        have HN:=hid (show FSt G (encR Y n).1 (encR Y n).2 (fs.map fdR) s (j + 1) k4 (0 + 1) (out ++ vint fn ++ vsized v4) true from by have:=HTH.out.2 v4 k4 (by rw [if_neg hsh];exact HSP.out);rw [HFN.out] at this;exact this)
        clear HTH HSP hsp4 hc4 hb4
        go_wp2_with fail
        refine (refSmall_any w4 w0.heap.size _ out fn HB4o.out (by omega) (by omega) (by omega)).mono ?_;rintro e w5 ⟨a5,c5,rfl,hb5,hg5⟩
        have HC5:=hid (HC4.out.grew (Below.refl _ _) HB4o.out hg5)
        have hbut5:=hbut4w.grew (Below.refl _ _) HB4o.out hg5
        have HB5:=hid hb5
        have HB5v:=hid (show Bys w5 w2.heap.size (.slice a4 v4.length c4) v4 from own_same HB4v.out (fun g hg=>hg5.g.block g (HB4v.out.lt g hg).2 (fun e=>HAP.out g e.symm hg)))
        have HAP5:=hid (show Apt (.slice a5 (out ++ vint fn).length c5) (.slice a4 v4.length c4) from fun g h1 h2=>(by
         rcases hg5.b g h1 with e | e
         ·exact HAP.out g e h2
         ·have:=(HB4v.out.lt g h2).2;omega))
        have hz5:=hg5.g.size
        have hol5:(out ++ vint fn).length ≤ out.length + 1:=by rw [List.length_append];have:=vint_len 0 fn (by omega);omega
        generalize out ++ vint fn = out5 at *
        clear hb5 hg5
        go_wp2_with fail
        refine (refSized_any w5 w0.heap.size _ _ _ out5 v4 HB5.out HB5v.out HAP5.out (by omega) (by omega) (by omega)).mono ?_;rintro e w6 ⟨a6,c6,rfl,hb6,hg6⟩
        have HC6:=hid (HC5.out.grew (Below.refl _ _) HB5.out hg6)
        have hbut6:=hbut5.grew (Below.refl _ _) HB5.out hg6
        have HB6:=hid hb6
        have hol6:(out5 ++ vsized v4).length ≤ out5.length + v4.length + 2:=by rw [List.length_append];have:=vsized_len (b:=v4) (by omega);omega
        generalize out5 ++ vsized v4 = out6 at *
        clear hb6 hg6
        go_wp2_with fail
        go_roundg (gk - 1)
        case rel=>exact ⟨j + 1,k4,0 + 1,out6,true,by omega,by omega,by go_num,by omega,by go_num,hid HC6.out,hid HB6.out,fun _=>by omega,by omega,hid HN.out,hbut6⟩
        case measure=>omega
    ·have hm0':¬ (m:Int) = 0:=by omega
     have hm0b:((m:Int) == 0) = false:=by simp;omega
     have hm0d:decide ((m:Int) = 0) = false:=by simp;omega
     go_wp2_with fail
     generalize (wr.alloc (.cells #[.int .i64 f.number,.string f.name,.string f.kind,.string f.base,.int .i64 f.numberAt,.int .i64 f.nameAt,.int .i64 f.baseAt] 102)) = wb at *
     refine (eat_any wb cb la ll lc s (ByteArray.mk #[44]) k true (d + 1) HCA.out hs (by decide)).mono ?_;rintro e w3 ⟨rfl,hb3,hc3⟩
     rw [commaB] at hc3 ⊢
     have hz44:(ByteArray.mk #[44]).size = 1:=rfl
     rw [hz44] at hc3
     cases hr3:(eatP [44] (tailB s k)).isSome with
     | false =>
      rw [hr3] at hc3
      obtain ⟨w2,hw2⟩:∃ w2,w2 = w3:=⟨_,rfl⟩
      rw [← hw2] at hb3 hc3
      have hb2:=hb3
      have HC2:=hid (show Cu w2 cb (.slice la ll lc) s k true (d + 1) from hc3)
      have HB2:=hid (HBA.out.but HCA.out.seg (by decide) hb2)
      have hbut2:=hbutA.trans hb2
      have n2:w2.cell? ⟨wr.heap.size,2,none⟩ = some (.string f.kind):=(World.cell?_of_block (w:=wb) (hb2.block wr.heap.size hfl0 (by omega))).trans hnw2
      have HEN:=hid (show eatP (preF m (fdR f)) (tailB s k) = none from (by
       unfold preF
       rw [if_neg (by simp [hm0]),List.append_assoc,eatP_append,eat1_none hr3];rfl))
      subst hw2
      clear hc3 hb3 hb2
      have g2:=HC2.out.seg.cell (j:=2) rfl
      have gf2:=HC2.out.seg.frozen 2
      have g3:=HC2.out.seg.cell (j:=3) rfl
      have gf3:=HC2.out.seg.frozen 3
      simp only [Nat.zero_add] at g2 g3
      have HB2x:=hid (HB2.out.but HC2.out.seg (by decide) ((But.refl _ _).setCell 2 (.int .i64 k)))
      have HB2y:=hid (HB2x.out.but (HC2.out.put k (by omega)).seg (by decide) ((But.refl _ _).setCell 3 (.bool false)))
      cases hko:(f.kind.toList == [111,112,116]) with
      | true =>
       have HN:=hid ((HT.out.skip HF'.out HEN.out).1 (fdR_opt hko))
       go_wp2_with fail
       go_roundg (gk - 1)
       case rel=>exact ⟨j + 1,k,m,out,true,hik,by omega,rfl,by omega,by go_num,hid (HC2.out.put k (by omega)),hid HB2x.out,fun _=>hol1,hol2,hid HN.out,hbut2.setCell _ _⟩
       case measure=>omega
      | false =>
       have HN:=hid ((HT.out.skip HF'.out HEN.out).2 (fdR_nopt hko))
       go_wp2_with fail
       go_roundg (gk - 1)
       case rel=>exact ⟨j + 1,k,m,out,false,hik,by omega,rfl,by omega,by go_num,hid ((HC2.out.put k (by omega)).putOk false),hid HB2y.out,fun h=>(by cases h),hol2,hid HN.out,(hbut2.setCell _ _).setCell _ _⟩
       case measure=>omega
     | true =>
      rw [hr3] at hc3
      have HC3:=hid (show Cu w3 cb (.slice la ll lc) s (k + 1) true (d + 1) from hc3)
      have HB3:=hid (HBA.out.but HCA.out.seg (by decide) hb3)
      have hbut3:=hbutA.trans hb3
      have hfl3:wr.heap.size < w3.heap.size:=Nat.lt_of_lt_of_le hfl0 hb3.size
      have o2:w3.cell? ⟨wr.heap.size,1,none⟩ = some (.string f.name):=(World.cell?_of_block (w:=wb) (hb3.block wr.heap.size hfl0 (by omega))).trans hnw1
      have hle3:=HC3.out.le
      clear hc3
      go_wp2_with fail
      refine (eat_any w3 cb la ll lc s (f.name ++ ByteArray.mk #[58]) (k + 1) true (d + 1) HC3.out hs (by rw [colon_size];omega)).mono ?_;rintro e w2 ⟨rfl,hb2,hc2⟩
      rw [colonB] at hc2 ⊢
      rw [colon_size] at hc2
      have HB2:=hid (HB3.out.but HC3.out.seg (by decide) hb2)
      have hbut2:=hbut3.trans hb2
      have hzb2:=hb2.size
      have n2:w2.cell? ⟨wr.heap.size,2,none⟩ = some (.string f.kind):=(World.cell?_of_block (w:=w3) (hb2.block wr.heap.size hfl3 (by omega))).trans ((World.cell?_of_block (w:=wb) (hb3.block wr.heap.size hfl0 (by omega))).trans hnw2)
      have n0:w2.cell? ⟨wr.heap.size,0,none⟩ = some (.int .i64 (fn:Int)):=(World.cell?_of_block (w:=w3) (hb2.block wr.heap.size hfl3 (by omega))).trans ((World.cell?_of_block (w:=wb) (hb3.block wr.heap.size hfl0 (by omega))).trans hnw0)
      have n3:w2.cell? ⟨wr.heap.size,3,none⟩ = some (.string f.base):=(World.cell?_of_block (w:=w3) (hb2.block wr.heap.size hfl3 (by omega))).trans ((World.cell?_of_block (w:=wb) (hb3.block wr.heap.size hfl0 (by omega))).trans hnw3)
      cases hr2:(eatP (f.name.toList ++ [58]) (tailB s (k + 1))).isSome with
      | false =>
       rw [hr2] at hc2
       have HC2:=hid (show Cu w2 cb (.slice la ll lc) s (k + 1) true (d + 1) from hc2)
       have HEN:=hid (show eatP (preF m (fdR f)) (tailB s k) = none from (by
        unfold preF
        rw [if_neg (by simp [hm0]),List.append_assoc,eatP_append,eat1_some hr3];exact eat_none hr2))
       clear hc2 hb2
       have g2:=HC2.out.seg.cell (j:=2) rfl
       have gf2:=HC2.out.seg.frozen 2
       have g3:=HC2.out.seg.cell (j:=3) rfl
       have gf3:=HC2.out.seg.frozen 3
       simp only [Nat.zero_add] at g2 g3
       have HB2x:=hid (HB2.out.but HC2.out.seg (by decide) ((But.refl _ _).setCell 2 (.int .i64 k)))
       have HB2y:=hid (HB2x.out.but (HC2.out.put k (by omega)).seg (by decide) ((But.refl _ _).setCell 3 (.bool false)))
       cases hko:(f.kind.toList == [111,112,116]) with
       | true =>
        have HN:=hid ((HT.out.skip HF'.out HEN.out).1 (fdR_opt hko))
        go_wp2_with fail
        go_roundg (gk - 1)
        case rel=>exact ⟨j + 1,k,m,out,true,hik,by omega,rfl,by omega,by go_num,hid (HC2.out.put k (by omega)),hid HB2x.out,fun _=>hol1,hol2,hid HN.out,hbut2.setCell _ _⟩
        case measure=>omega
       | false =>
        have HN:=hid ((HT.out.skip HF'.out HEN.out).2 (fdR_nopt hko))
        go_wp2_with fail
        go_roundg (gk - 1)
        case rel=>exact ⟨j + 1,k,m,out,false,hik,by omega,rfl,by omega,by go_num,hid ((HC2.out.put k (by omega)).putOk false),hid HB2y.out,fun h=>(by cases h),hol2,hid HN.out,(hbut2.setCell _ _).setCell _ _⟩
        case measure=>omega
      | true =>
       rw [hr2] at hc2
       have HC2:=hid (show Cu w2 cb (.slice la ll lc) s ((k + 1) + (f.name.size + 1)) true (d + 1) from hc2)
       have HES:=hid (show eatP (preF m (fdR f)) (tailB s k) = some (tailB s ((k + 1) + (f.name.size + 1))) from (by
        unfold preF
        rw [if_neg (by simp [hm0]),List.append_assoc,eatP_append,eat1_some hr3];have:=eat_some hr2;rw [List.length_append,size_list] at this;exact this))
       clear hc2 hb2
       have hle2:=HC2.out.le
       have hfbl:wr.heap.size < w2.heap.size:=by omega
       have HTH:=hid (HT.out.there HF'.out HES.out)
       cases hkl:(f.kind.toList == [108,105,115,116]) with
       | true =>
        have hsh:(fdR f).shape = 2:=by exact fdR_list hkl
        go_wp2_with fail
        refine (HL.out w2 cb lo la ll lc s ((k + 1) + (f.name.size + 1)) f.base (HI0.out.but H0.out.seg hbut2) (by rw [← HD.out];exact HC2.out) (HE0.out.but hbut2 hO) hO hs (HYb.out f hfm)).mono ?_
        rintro e w4 ⟨a4,c4,v4,k4,ok4,rfl,hb4,hb44,hc4,hk4,hl4,hl4x,hsp4⟩
        rw [← HD.out] at hc4
        have hle4:=hc4.le
        have HC4:=hid hc4
        have HB4v:=hid hb4
        have HB4o:=hid (HB2.out.but HC2.out.seg (by decide) hb44)
        have hbut4w:=hbut2.trans hb44
        have hz4:=hbut4w.size
        have hzz4:=hb44.size
        have HAP:=hid (apt_new HB2.out hb4)
        have m0:w4.cell? ⟨wr.heap.size,0,none⟩ = some (.int .i64 (fn:Int)):=(World.cell?_of_block (w:=w2) (hb44.block wr.heap.size (by omega) (by omega))).trans n0
        have HSP:=hid hsp4
        cases ok4 with
        | false =>
         have HN:=hid (show FSt G (encR Y n).1 (encR Y n).2 (fs.map fdR) s (j + 1) k4 (m + 1) (out ++ vint fn ++ vsized v4) false from HTH.out.1 (by rw [if_pos hsh];exact HSP.out))
         clear HTH HSP hsp4 hc4 hb4
         go_wp2_with fail
         refine (refSmall_any w4 w0.heap.size _ out fn HB4o.out (by omega) (by omega) (by omega)).mono ?_;rintro e w5 ⟨a5,c5,rfl,hb5,hg5⟩
         have HC5:=hid (HC4.out.grew (Below.refl _ _) HB4o.out hg5)
         have hbut5:=hbut4w.grew (Below.refl _ _) HB4o.out hg5
         have HB5:=hid hb5
         have HB5v:=hid (show Bys w5 w2.heap.size (.slice a4 v4.length c4) v4 from own_same HB4v.out (fun g hg=>hg5.g.block g (HB4v.out.lt g hg).2 (fun e=>HAP.out g e.symm hg)))
         have HAP5:=hid (show Apt (.slice a5 (out ++ vint fn).length c5) (.slice a4 v4.length c4) from fun g h1 h2=>(by
          rcases hg5.b g h1 with e | e
          ·exact HAP.out g e h2
          ·have:=(HB4v.out.lt g h2).2;omega))
         have hz5:=hg5.g.size
         have hol5:(out ++ vint fn).length ≤ out.length + 1:=by rw [List.length_append];have:=vint_len 0 fn (by omega);omega
         generalize out ++ vint fn = out5 at *
         clear hb5 hg5
         go_wp2_with fail
         refine (refSized_any w5 w0.heap.size _ _ _ out5 v4 HB5.out HB5v.out HAP5.out (by omega) (by omega) (by omega)).mono ?_;rintro e w6 ⟨a6,c6,rfl,hb6,hg6⟩
         have HC6:=hid (HC5.out.grew (Below.refl _ _) HB5.out hg6)
         have hbut6:=hbut5.grew (Below.refl _ _) HB5.out hg6
         have HB6:=hid hb6
         have hol6:(out5 ++ vsized v4).length ≤ out5.length + v4.length + 2:=by rw [List.length_append];have:=vsized_len (b:=v4) (by omega);omega
         generalize out5 ++ vsized v4 = out6 at *
         clear hb6 hg6
         go_wp2_with fail
         go_roundg (gk - 1)
         case rel=>exact ⟨j + 1,k4,m + 1,out6,false,by omega,by omega,by go_num,by omega,by go_num,hid HC6.out,hid HB6.out,fun h=>(by cases h),by omega,hid HN.out,hbut6⟩
         case measure=>omega
        | true =>
         have hl4t:=hl4 rfl
         have HN:=hid (show FSt G (encR Y n).1 (encR Y n).2 (fs.map fdR) s (j + 1) k4 (m + 1) (out ++ vint fn ++ vsized v4) true from by have:=HTH.out.2 v4 k4 (by rw [if_pos hsh];exact HSP.out);rw [HFN.out] at this;exact this)
         clear HTH HSP hsp4 hc4 hb4
         go_wp2_with fail
         refine (refSmall_any w4 w0.heap.size _ out fn HB4o.out (by omega) (by omega) (by omega)).mono ?_;rintro e w5 ⟨a5,c5,rfl,hb5,hg5⟩
         have HC5:=hid (HC4.out.grew (Below.refl _ _) HB4o.out hg5)
         have hbut5:=hbut4w.grew (Below.refl _ _) HB4o.out hg5
         have HB5:=hid hb5
         have HB5v:=hid (show Bys w5 w2.heap.size (.slice a4 v4.length c4) v4 from own_same HB4v.out (fun g hg=>hg5.g.block g (HB4v.out.lt g hg).2 (fun e=>HAP.out g e.symm hg)))
         have HAP5:=hid (show Apt (.slice a5 (out ++ vint fn).length c5) (.slice a4 v4.length c4) from fun g h1 h2=>(by
          rcases hg5.b g h1 with e | e
          ·exact HAP.out g e h2
          ·have:=(HB4v.out.lt g h2).2;omega))
         have hz5:=hg5.g.size
         have hol5:(out ++ vint fn).length ≤ out.length + 1:=by rw [List.length_append];have:=vint_len 0 fn (by omega);omega
         generalize out ++ vint fn = out5 at *
         clear hb5 hg5
         go_wp2_with fail
         refine (refSized_any w5 w0.heap.size _ _ _ out5 v4 HB5.out HB5v.out HAP5.out (by omega) (by omega) (by omega)).mono ?_;rintro e w6 ⟨a6,c6,rfl,hb6,hg6⟩
         have HC6:=hid (HC5.out.grew (Below.refl _ _) HB5.out hg6)
         have hbut6:=hbut5.grew (Below.refl _ _) HB5.out hg6
         have HB6:=hid hb6
         have hol6:(out5 ++ vsized v4).length ≤ out5.length + v4.length + 2:=by rw [List.length_append];have:=vsized_len (b:=v4) (by omega);omega
         generalize out5 ++ vsized v4 = out6 at *
         clear hb6 hg6
         go_wp2_with fail
         go_roundg (gk - 1)
         case rel=>exact ⟨j + 1,k4,m + 1,out6,true,by omega,by omega,by go_num,by omega,by go_num,hid HC6.out,hid HB6.out,fun _=>by omega,by omega,hid HN.out,hbut6⟩
         case measure=>omega
       | false =>
        have hsh:(fdR f).shape ≠ 2:=by exact fdR_nlist hkl
        go_wp2_with fail
        refine (HV.out w2 cb lo la ll lc s ((k + 1) + (f.name.size + 1)) f.base (HI0.out.but H0.out.seg hbut2) (by rw [← HD.out];exact HC2.out) (HE0.out.but hbut2 hO) hO hs (HYb.out f hfm)).mono ?_
        rintro e w4 ⟨a4,c4,v4,k4,ok4,rfl,hb4,hb44,hc4,hk4,hl4,hl4x,hsp4⟩
        rw [← HD.out] at hc4
        have hle4:=hc4.le
        have HC4:=hid hc4
        have HB4v:=hid hb4
        have HB4o:=hid (HB2.out.but HC2.out.seg (by decide) hb44)
        have hbut4w:=hbut2.trans hb44
        have hz4:=hbut4w.size
        have hzz4:=hb44.size
        have HAP:=hid (apt_new HB2.out hb4)
        have m0:w4.cell? ⟨wr.heap.size,0,none⟩ = some (.int .i64 (fn:Int)):=(World.cell?_of_block (w:=w2) (hb44.block wr.heap.size (by omega) (by omega))).trans n0
        have HSP:=hid hsp4
        cases ok4 with
        | false =>
         have HN:=hid (show FSt G (encR Y n).1 (encR Y n).2 (fs.map fdR) s (j + 1) k4 (m + 1) (out ++ vint fn ++ vsized v4) false from HTH.out.1 (by rw [if_neg hsh];exact HSP.out))
         clear HTH HSP hsp4 hc4 hb4
         go_wp2_with fail
         refine (refSmall_any w4 w0.heap.size _ out fn HB4o.out (by omega) (by omega) (by omega)).mono ?_;rintro e w5 ⟨a5,c5,rfl,hb5,hg5⟩
         have HC5:=hid (HC4.out.grew (Below.refl _ _) HB4o.out hg5)
         have hbut5:=hbut4w.grew (Below.refl _ _) HB4o.out hg5
         have HB5:=hid hb5
         have HB5v:=hid (show Bys w5 w2.heap.size (.slice a4 v4.length c4) v4 from own_same HB4v.out (fun g hg=>hg5.g.block g (HB4v.out.lt g hg).2 (fun e=>HAP.out g e.symm hg)))
         have HAP5:=hid (show Apt (.slice a5 (out ++ vint fn).length c5) (.slice a4 v4.length c4) from fun g h1 h2=>(by
          rcases hg5.b g h1 with e | e
          ·exact HAP.out g e h2
          ·have:=(HB4v.out.lt g h2).2;omega))
         have hz5:=hg5.g.size
         have hol5:(out ++ vint fn).length ≤ out.length + 1:=by rw [List.length_append];have:=vint_len 0 fn (by omega);omega
         generalize out ++ vint fn = out5 at *
         clear hb5 hg5
         go_wp2_with fail
         refine (refSized_any w5 w0.heap.size _ _ _ out5 v4 HB5.out HB5v.out HAP5.out (by omega) (by omega) (by omega)).mono ?_;rintro e w6 ⟨a6,c6,rfl,hb6,hg6⟩
         have HC6:=hid (HC5.out.grew (Below.refl _ _) HB5.out hg6)
         have hbut6:=hbut5.grew (Below.refl _ _) HB5.out hg6
         have HB6:=hid hb6
         have hol6:(out5 ++ vsized v4).length ≤ out5.length + v4.length + 2:=by rw [List.length_append];have:=vsized_len (b:=v4) (by omega);omega
         generalize out5 ++ vsized v4 = out6 at *
         clear hb6 hg6
         go_wp2_with fail
         go_roundg (gk - 1)
         case rel=>exact ⟨j + 1,k4,m + 1,out6,false,by omega,by omega,by go_num,by omega,by go_num,hid HC6.out,hid HB6.out,fun h=>(by cases h),by omega,hid HN.out,hbut6⟩
         case measure=>omega
        | true =>
         have hl4t:=hl4 rfl
         have HN:=hid (show FSt G (encR Y n).1 (encR Y n).2 (fs.map fdR) s (j + 1) k4 (m + 1) (out ++ vint fn ++ vsized v4) true from by have:=HTH.out.2 v4 k4 (by rw [if_neg hsh];exact HSP.out);rw [HFN.out] at this;exact this)
         clear HTH HSP hsp4 hc4 hb4
         go_wp2_with fail
         refine (refSmall_any w4 w0.heap.size _ out fn HB4o.out (by omega) (by omega) (by omega)).mono ?_;rintro e w5 ⟨a5,c5,rfl,hb5,hg5⟩
         have HC5:=hid (HC4.out.grew (Below.refl _ _) HB4o.out hg5)
         have hbut5:=hbut4w.grew (Below.refl _ _) HB4o.out hg5
         have HB5:=hid hb5
         have HB5v:=hid (show Bys w5 w2.heap.size (.slice a4 v4.length c4) v4 from own_same HB4v.out (fun g hg=>hg5.g.block g (HB4v.out.lt g hg).2 (fun e=>HAP.out g e.symm hg)))
         have HAP5:=hid (show Apt (.slice a5 (out ++ vint fn).length c5) (.slice a4 v4.length c4) from fun g h1 h2=>(by
          rcases hg5.b g h1 with e | e
          ·exact HAP.out g e h2
          ·have:=(HB4v.out.lt g h2).2;omega))
         have hz5:=hg5.g.size
         have hol5:(out ++ vint fn).length ≤ out.length + 1:=by rw [List.length_append];have:=vint_len 0 fn (by omega);omega
         generalize out ++ vint fn = out5 at *
         clear hb5 hg5
         go_wp2_with fail
         refine (refSized_any w5 w0.heap.size _ _ _ out5 v4 HB5.out HB5v.out HAP5.out (by omega) (by omega) (by omega)).mono ?_;rintro e w6 ⟨a6,c6,rfl,hb6,hg6⟩
         have HC6:=hid (HC5.out.grew (Below.refl _ _) HB5.out hg6)
         have hbut6:=hbut5.grew (Below.refl _ _) HB5.out hg6
         have HB6:=hid hb6
         have hol6:(out5 ++ vsized v4).length ≤ out5.length + v4.length + 2:=by rw [List.length_append];have:=vsized_len (b:=v4) (by omega);omega
         generalize out5 ++ vsized v4 = out6 at *
         clear hb6 hg6
         go_wp2_with fail
         go_roundg (gk - 1)
         case rel=>exact ⟨j + 1,k4,m + 1,out6,true,by omega,by omega,by go_num,by omega,by go_num,hid HC6.out,hid HB6.out,fun _=>by omega,by omega,hid HN.out,hbut6⟩
         case measure=>omega
  ·have hltI:¬ (j:Int) < (fs.length:Int):=by omega
   have hdI:decide ((j:Int) < (fs.length:Int)) = false:=by simp;omega
   go_wp2_with fail
   refine (need_any wr cb la ll lc s (ByteArray.mk #[125]) k ok (d + 1) HC.out hs (by decide)).mono ?_;rintro e w2 ⟨⟨v2,rfl⟩,hb2,hc2⟩
   rw [closeB] at hc2
   generalize hr2:(eatP [125] (tailB s k)).isSome = r2 at *
   have hz125:(ByteArray.mk #[125]).size = 1:=rfl
   rw [hz125] at hc2
   have HLS:=hid (HT.out.last (fun _=>by rw [List.length_map];omega) hr2)
   have HC2:=hid hc2
   have HB2:=hid (HB.out.but HC.out.seg (by decide) hb2)
   have hbut2:=hbut.trans hb2
   have f4:=HC2.out.seg.cell (j:=4) rfl
   have ff4:=HC2.out.seg.frozen 4
   simp only [Nat.zero_add] at f4
   have HBx:=hid (HB2.out.but HC2.out.seg (by decide) ((But.refl _ _).setCell 4 (.int .i64 d)))
   clear hc2 hb2 hr2
   go_wp2_with fail
   go_ret
   refine ⟨oa,oc,out,upTo r2 k 1,ok && r2,rfl,own_base HBx.out hz0,(HWZ.out.trans hbut2).setCell _ _,HC2.out.putDeep d,?_,?_,?_,HLS.out⟩
   ·cases r2 <;> simp [upTo] <;> omega
   ·intro hh
    have hh1:=hol (by revert hh;generalize ok = x;cases x <;> simp)
    cases r2 <;> simp [upTo] <;> omega
   ·cases r2 <;> simp [upTo] <;> omega
end Go.Proofs.YtopcgnjocklcoaaGreatDoor
