/- Package courierref: read. -/
import Derived.Test.YtopcgnjocklcoaaGreatDoorKRDecMsg
import Derived.Deep.RegionHeld3
namespace Go.Proofs.YtopcgnjocklcoaaGreatDoor
open Go.RowKit
def boolB (b:Bool):ByteArray:=match b with | true=>ByteArray.mk #[116,114,117,101] | false=>ByteArray.mk #[102,97,108,115,101]
set_option maxHeartbeats 400000 in
theorem fbool_in (b:Bool) (w:World):Calls Tryz.prog 105 #[.bool b] w fun e w'=>e = .returned (.string (boolB b)) ∧ w' = w:=by
 cases b <;>
 (go_enter Tryz.func105,Tryz.ntmps105
  go_wp2
  go_ret
  exact ⟨rfl,rfl⟩)
set_option maxHeartbeats 400000 in
theorem fbool_any (b:Bool) (w:World):Calls Tryz.prog 63 #[.bool b] w fun e w'=>e = .returned (.string (boolB b)) ∧ w' = w:=by
 obtain ⟨t,HT⟩:∃ t,Hid (boolB b = t):=⟨_,hid rfl⟩
 rw [HT.out]
 go_enter Tryz.func63,Tryz.ntmps63
 go_wp2_with fail
 refine (fbool_in b w).mono ?_;rintro e w1 ⟨rfl,hw1⟩
 subst hw1
 rw [HT.out]
 go_wp2_with fail
 go_ret
 exact ⟨rfl,rfl⟩
theorem bool_one (x:UInt8) (h:x.toNat ≤ 1):choD boolNames [x] = some (boolB ((x.toNat:Int) == 1)).toList:=by
 have hx:x = 0 ∨ x = 1:=by
  have:x.toNat = 0 ∨ x.toNat = 1:=by omega
  rcases this with e | e
  ·exact Or.inl (UInt8.toNat_inj.1 e)
  ·exact Or.inr (UInt8.toNat_inj.1 e)
 rcases hx with rfl | rfl
 ·have:(boolB (((0:UInt8).toNat:Int) == 1)).toList = [102,97,108,115,101]:=by show (ByteArray.mk #[102,97,108,115,101]).toList = _;rw [ByteArray.toList_eq]
  rw [this];rfl
 ·have:(boolB (((1:UInt8).toNat:Int) == 1)).toList = [116,114,117,101]:=by show (ByteArray.mk #[116,114,117,101]).toList = _;rw [ByteArray.toList_eq]
  rw [this];rfl
theorem bool_none {d:List UInt8} (h:d.length ≠ 1 ∨ ∃ x,d = [x] ∧ 1 < x.toNat):choD boolNames d = none:=by
 cases e:choD boolNames d with
 | none=>rfl
 | some t =>
  exfalso
  unfold choD at e
  obtain ⟨i,hi,he⟩:=Option.bind_eq_some_iff.1 e
  have hi2:i < 2:=by
   rcases Nat.lt_or_ge i 2 with h | h
   ·exact h
   ·rw [List.getElem?_eq_none (by simpa [boolNames] using h)] at he;cases he
  unfold wholeV at hi
  obtain ⟨x,hx,hx2⟩:=Option.bind_eq_some_iff.1 hi
  split at hx2
  ·rename_i hn
   simp only [Option.some.injEq] at hx2
   have h1:=(takeV_some (n:=x.1) (r:=x.2) hx).1
   rw [hn,hx2,List.append_nil,vint_lt (by omega)] at h1
   rcases h with h | ⟨y,hy,hy1⟩
   ·rw [h1] at h;simp at h
   ·rw [h1] at hy
    simp only [List.cons.injEq,and_true] at hy
    rw [← hy] at hy1
    have:i.toUInt8.toNat = i:=by simp [Nat.toUInt8,UInt8.toNat_ofNat'];omega
    omega
  ·cases hx2
theorem NumAns.whole {ok1:Bool} {d R:List UInt8} {m:Nat} (h:NumAns true ok1 (takeV d) m R):wholeV d = (match ok1 && ((R.length:Int) == 0) with | true=>some m | false=>none):=by
 unfold wholeV
 cases ok1 with
 | false =>
  rcases h with h | h
  ·cases h
  ·rw [h];rfl
 | true =>
  rw [h.2]
  simp only [Option.bind_some,Bool.true_and]
  cases hz:((R.length:Int) == 0) with
  | true =>
   have:R = []:=List.eq_nil_of_length_eq_zero (by simpa using hz)
   simp [this]
  | false =>
   have:¬ R = []:=fun e=>by rw [e] at hz;simp at hz
   simp [this]
theorem boolB_size (b:Bool):(boolB b).size ≤ 5:=by cases b <;> decide
set_option maxRecDepth 100000 in
set_option maxHeartbeats 8000000 in
theorem read_any' {Y:List IV} {n:Nat} (hM:RMs Y n) (hY:YOk Y) (hX:Y.length ≤ 400):RRd Y n:=by
 intro w lo la ll lc base dv d hI hE hd hdb hdl hdn hB
 obtain ⟨da,dc,hdv,hdc⟩:=hd.2
 subst hdv
 rw [rdR_val]
 have hbA:Below w.heap.size w (w.alloc (.cells #[.slice da d.length dc,.bool true] 124)):=(Below.refl _ _).alloc (Nat.le_refl _) _
 have HT0:=hid (show TkD (w.alloc (.cells #[.slice da d.length dc,.bool true] 124)) w.heap.size w.heap.size (.slice da d.length dc) d true from ⟨seg_made w _ _,hd.later hbA,hdb⟩)
 have HIA:=hid (hI.same hbA)
 have HEA:=hid (hE.below hbA)
 have HE:=hid hE
 have HDA:=hid (hd.later hbA)
 have HD:=hid hd
 have HDB:=hid hdb
 have HM:=hid hM
 have hzA:w.heap.size < (w.alloc (.cells #[.slice da d.length dc,.bool true] 124)).heap.size:=by simp
 clear hI hE hd hdb hM
 cases hb1:(base.toList == [105,110,116]) with
 | true =>
  have HS:=hid (show valD (tyR Y) (rmspec Y n) base.toList d = (wholeV d).map fun m=>Lib.itoa (unzig m) by unfold valD;rw [if_pos (by simpa [wInt] using hb1)])
  go_enter Tryz.func34,Tryz.ntmps34
  go_wp2_with fail
  generalize (w.alloc (.cells #[.slice da d.length dc,.bool true] 124)) = wA at *
  refine (tnumber_any wA w.heap.size w.heap.size _ d true HT0.out (Nat.le_refl _) (by omega)).mono ?_;rintro e w1 ⟨m,a1,c1,R,ok1,rfl,hm,hbut1,hT1,hRl,hans1⟩
  have hbel1:Below w.heap.size w w1:=hbut1.below hbA (Nat.le_refl _) (Nat.le_refl _)
  have HE1:=hid (HE.out.below hbel1)
  have HWH:=hid hans1.whole
  have HTX:=hid hT1
  have g0:=hT1.seg.cell (j:=0) rfl
  have g1:=hT1.seg.cell (j:=1) rfl
  simp only [Nat.zero_add] at g0 g1
  have hin:=unzig_in hm
  have hm2:((m:Int) / 2) = ((m / 2:Nat):Int):=by omega
  have hwm:IntKind.i64.wrap ((m:Int) / 2) = (m:Int) / 2:=by rw [IntKind.wrap_i64];omega
  have hzz:(∃ z:Int,unzig m = z ∧ ((m:Int) % 2 == 1) = true ∧ -((m:Int) / 2) - 1 = z) ∨ (∃ z:Int,unzig m = z ∧ ((m:Int) % 2 == 1) = false ∧ (m:Int) / 2 = z):=by
   by_cases hodd:m % 2 = 1
   ·exact Or.inl ⟨_,rfl,by simp;omega,(unzig_odd hodd).symm⟩
   ·exact Or.inr ⟨_,rfl,by simp;omega,(unzig_even hodd).symm⟩
  clear hT1 hans1 hbut1 hm2
  rcases hzz with ⟨z,hz,hodd,hzv⟩ | ⟨z,hz,hodd,hzv⟩
  all_goals
   rw [hz] at hin
   obtain ⟨hi1,hi2⟩:=hin
   have HZ:=hid hz
   clear hz
   have HFL:=hid (show (ByteArray.mk (Lib.itoa z).toArray).toList = Lib.itoa z by rw [ByteArray.toList_eq])
   have HLN:=hid (itoa_len z ⟨hi1,hi2⟩)
   obtain ⟨fb,HFB⟩:∃ fb,Hid (ByteArray.mk (Lib.itoa z).toArray = fb):=⟨_,hid rfl⟩
   rw [HFB.out] at HFL
   have hfs:fb.size ≤ 20:=by rw [← size_list,HFL.out];exact HLN.out
   cases ok1 with
   | false =>
    have HU:=hid (show (wholeV d).map (fun m=>Lib.itoa (unzig m)) = none by rw [HWH.out];rfl)
    go_wp2_with fail
    (first | (go_region_with (first | (go_at_call 62;refine (Tryz.y_strconv_FormatInt_10 z hi1 hi2 _ (HE1.out.below (Below.refl _ _).drew).t).mono ?_;rintro e w3 ⟨rfl,kk,os,hw3⟩;rw [HFB.out];have HB3:=hid (show Below w1.heap.size w1 w3 by rw [hw3];exact below_drew_grow _ _ _);have k0:=(HTX.out.below HB3.out (Nat.le_refl _)).seg.cell (j:=0) rfl;have k1:=(HTX.out.below HB3.out (Nat.le_refl _)).seg.cell (j:=1) rfl;simp only [Nat.zero_add] at k0 k1;clear hw3))) | fail)
    all_goals
     go_wp2_with fail
     go_ret2
     unfold RdPost
     exact ⟨fb,false,rfl,hbel1.trans (HB3.out.mono hbel1.size),⟨by omega⟩,by show _ = _;rw [HS.out,HU.out]⟩
   | true =>
    cases hr0:((R.length:Int) == 0) with
    | true =>
     have HU:=hid (show (wholeV d).map (fun m=>Lib.itoa (unzig m)) = some (Lib.itoa z) by rw [HWH.out,hr0];simp [HZ.out])
     go_wp2_with fail
     (first | (go_region_with (first | (go_at_call 62;refine (Tryz.y_strconv_FormatInt_10 z hi1 hi2 _ (HE1.out.below (Below.refl _ _).drew).t).mono ?_;rintro e w3 ⟨rfl,kk,os,hw3⟩;rw [HFB.out];have HB3:=hid (show Below w1.heap.size w1 w3 by rw [hw3];exact below_drew_grow _ _ _);have k0:=(HTX.out.below HB3.out (Nat.le_refl _)).seg.cell (j:=0) rfl;have k1:=(HTX.out.below HB3.out (Nat.le_refl _)).seg.cell (j:=1) rfl;simp only [Nat.zero_add] at k0 k1;clear hw3))) | fail)
     all_goals
      go_wp2_with fail
      go_ret2
      unfold RdPost
      exact ⟨fb,true,rfl,hbel1.trans (HB3.out.mono hbel1.size),⟨by omega⟩,by show _ = _;rw [HS.out,HU.out,HFL.out]⟩
    | false =>
     have HU:=hid (show (wholeV d).map (fun m=>Lib.itoa (unzig m)) = none by rw [HWH.out,hr0];rfl)
     go_wp2_with fail
     (first | (go_region_with (first | (go_at_call 62;refine (Tryz.y_strconv_FormatInt_10 z hi1 hi2 _ (HE1.out.below (Below.refl _ _).drew).t).mono ?_;rintro e w3 ⟨rfl,kk,os,hw3⟩;rw [HFB.out];have HB3:=hid (show Below w1.heap.size w1 w3 by rw [hw3];exact below_drew_grow _ _ _);have k0:=(HTX.out.below HB3.out (Nat.le_refl _)).seg.cell (j:=0) rfl;have k1:=(HTX.out.below HB3.out (Nat.le_refl _)).seg.cell (j:=1) rfl;simp only [Nat.zero_add] at k0 k1;clear hw3))) | fail)
     all_goals
      go_wp2_with fail
      go_ret2
      unfold RdPost
      exact ⟨fb,false,rfl,hbel1.trans (HB3.out.mono hbel1.size),⟨by omega⟩,by show _ = _;rw [HS.out,HU.out]⟩
 | false =>
  cases hb2:(base.toList == [98,111,111,108]) with
  | true =>
   have HS:=hid (show valD (tyR Y) (rmspec Y n) base.toList d = choD boolNames d by unfold valD;rw [if_neg (by simpa [wInt] using hb1),if_pos (by simpa [wBool] using hb2)])
   by_cases h1:d.length = 1
   ·obtain ⟨b,o,c',hv,hb,hcell⟩:=HD.out.1.at (by omega)
    obtain ⟨rfl,rfl⟩:da = some ⟨b,o,none⟩ ∧ dc = c':=by simpa using hv
    obtain ⟨x,HX⟩:∃ x,Hid (d = [x]):=by
     match d,h1 with
     | [x],_=>exact ⟨x,hid rfl⟩
    have hx0:=hcell 0 (by omega)
    have hx1:w.cell? ⟨b,o,none⟩ = some (.int .u8 (x.toNat:Int)):=by
     have e:d[0] = x:=by simp [HX.out]
     rw [e] at hx0
     simpa using hx0
    have hbne:(b = w.heap.size) = False:=by simp;omega
    have hbne2:(w.heap.size = b) = False:=by simp;omega
    have hx2:(w.alloc (.cells #[.slice (some ⟨b,o,none⟩) d.length dc,.bool true] 124)).cell? ⟨b,o,none⟩ = some (.int .u8 (x.toNat:Int)):=by rw [hbA.cell hb];exact hx1
    have hx255:x.toNat ≤ 255:=by have:=x.toNat_lt;omega
    have h1I:((d.length:Int) != 1) = false:=by simp;omega
    have h1E:((d.length:Int) == 1) = true:=by simp;omega
    have h1P:(0:Int) < (d.length:Int):=by omega
    have h1N:0 < d.length:=by omega
    clear hv hcell hx0 h1
    by_cases hx:x.toNat ≤ 1
    ·have hxI:¬ (1:Int) < (x.toNat:Int):=by omega
     have hxD:decide ((1:Int) < (x.toNat:Int)) = false:=by simpa using hxI
     have HBO:=hid (bool_one x hx)
     have HBS:=hid (boolB_size ((x.toNat:Int) == 1))
     go_enter Tryz.func34,Tryz.ntmps34
     go_wp2_with fail
     refine (fbool_any _ _).mono ?_;rintro e w1 ⟨rfl,hw1⟩
     subst hw1
     generalize boolB ((x.toNat:Int) == 1) = t at *
     go_wp2_with fail
     go_ret2
     unfold RdPost
     exact ⟨t,true,rfl,hbA,⟨by have:=HBS.out;omega⟩,by show _ = _;rw [HS.out,HX.out,HBO.out]⟩
    ·have hxI:(1:Int) < (x.toNat:Int):=by omega
     have HBO:=hid (bool_none (d:=d) (Or.inr ⟨x,HX.out,by omega⟩))
     go_enter Tryz.func34,Tryz.ntmps34
     go_wp2_with fail
     go_ret2
     unfold RdPost
     exact ⟨_,false,rfl,hbA,⟨by show 0 ≤ _;omega⟩,by show _ = _;rw [HS.out,HBO.out]⟩
   ·have h1I:((d.length:Int) != 1) = true:=by simp;omega
    have HBO:=hid (bool_none (d:=d) (Or.inl h1))
    clear h1
    go_enter Tryz.func34,Tryz.ntmps34
    go_wp2_with fail
    go_ret2
    unfold RdPost
    exact ⟨_,false,rfl,hbA,⟨by show 0 ≤ _;omega⟩,by show _ = _;rw [HS.out,HBO.out]⟩
  | false =>
   cases hb3:(base.toList == [116,101,120,116]) with
   | true =>
    have HS:=hid (show valD (tyR Y) (rmspec Y n) base.toList d = some (textD d) by unfold valD;rw [if_neg (by simpa [wInt] using hb1),if_neg (by simpa [wBool] using hb2),if_pos (by simpa [wText] using hb3)])
    have HTL:=hid (show (textD d).length ≤ 2 + 3 * d.length by unfold textD;rw [List.length_cons,List.length_append,List.length_singleton];have:=lets_len d;omega)
    go_enter Tryz.func34,Tryz.ntmps34
    go_wp2_with fail
    refine (written_any _ _ d HDA.out (by omega)).mono ?_;rintro e w1 ⟨t,rfl,hb1w,ht⟩
    have hbel1:=hbA.trans (hb1w.mono (Nat.le_of_lt hzA))
    have HTT:=hid ht
    clear ht
    go_wp2_with fail
    go_ret2
    unfold RdPost
    exact ⟨t,true,rfl,hbel1,⟨by rw [← size_list,HTT.out];have:=HTL.out;omega⟩,by show _ = _;rw [HS.out,HTT.out]⟩
   | false =>
    have hf0:0 ≤ findI Y base.toList:=by
     unfold typeB builtB at hB
     rw [hb1,hb2,hb3] at hB
     simpa using hB
    obtain ⟨fi,x,hfi,hx⟩:=findI_lt hf0
    have HTY:=hid (show tyR Y base.toList = if isW x.it.kind wMessage then some (.inr (x.it.fields.map fdR)) else some (.inl (x.it.names.map ByteArray.toList)) by unfold tyR;rw [hfi];simp only [Int.toNat_natCast,hx];rw [if_neg (by omega)])
    have HVP:=hid (show valD (tyR Y) (rmspec Y n) base.toList d = (match tyR Y base.toList with | none=>none | some (.inl ns)=>choD ns d | some (.inr fs)=>rmspec Y n fs d) by unfold valD;rw [if_neg (by simpa [wInt] using hb1),if_neg (by simpa [wBool] using hb2),if_neg (by simpa [wText] using hb3)];cases tyR Y base.toList with | none=>rfl | some t=>cases t <;> rfl)
    have hfx:fi < Y.length:=at_lt hx
    obtain ⟨va,vc,hvf⟩:∃ a c,x.vf = .slice a x.it.fields.length c:=own_slice (HIA.out.nest x (List.mem_of_getElem? hx)).f
    obtain ⟨na,nc,hvn⟩:∃ a c,x.vn = .slice a x.it.names.length c:=own_slice (HIA.out.nest x (List.mem_of_getElem? hx)).n
    obtain ⟨za,zl,zc,hvz⟩:∃ a l c,x.vna = .slice a l c:=⟨_,_,_,(own_slice (HIA.out.nest x (List.mem_of_getElem? hx)).na).choose_spec.choose_spec⟩
    obtain ⟨ba,bl,bc,hvb⟩:∃ a l c,x.vb = .slice a l c:=⟨_,_,_,(own_slice (HIA.out.nest x (List.mem_of_getElem? hx)).b).choose_spec.choose_spec⟩
    obtain ⟨xa,xl,xc,hvx⟩:∃ a l c,x.vba = .slice a l c:=⟨_,_,_,(own_slice (HIA.out.nest x (List.mem_of_getElem? hx)).ba).choose_spec.choose_spec⟩
    obtain ⟨lg,lcap,hlvv,hlgl,hlgs⟩:=own_form HIA.out.own (by omega)
    obtain ⟨rfl,rfl,rfl⟩:la = some ⟨lg,0,none⟩ ∧ ll = Y.length ∧ lc = lcap:=by simpa using hlvv
    have hseg:=HIA.out.seg hx
    have HXX:=hid hx
    have hfiI:(0:Int) ≤ (fi:Int):=by omega
    have hfiL:(fi:Int) < (Y.length:Int):=by omega
    have HFII:=hid hfi
    clear hfi hx hlvv hf0
    obtain ⟨it,vf,vn,vna,vb,vba⟩:=x
    simp only at hvf hvn hvz hvb hvx
    subst hvf hvn hvz hvb hvx
    go_enter Tryz.func34,Tryz.ntmps34
    go_wp2_with fail
    generalize (w.alloc (.cells #[.slice da d.length dc,.bool true] 124)) = wA at *
    have HFD:=hid (show ∀ w',Below wA.heap.size wA w' → Calls Tryz.prog 55 #[.slice (some ⟨lg,0,none⟩) Y.length lc,.string base] w' (fun e w''=>e = .returned (.int .i64 (fi:Int)) ∧ Below wA.heap.size wA w'' ∧ Below w'.heap.size w' w'') from fun w' hw'=>(find_any w' lo _ Y base (HIA.out.same hw') hX).mono (fun e w'' hh=>⟨by rw [hh.1,HFII.out],hw'.trans (hh.2.mono hw'.size),hh.2⟩))
    have c0:wA.cell? ⟨lg,fi * 8,none⟩ = some (.string it.kind):=hseg.cell (j:=0) rfl
    have c1:wA.cell? ⟨lg,fi * 8 + 1,none⟩ = some (.string it.name):=hseg.cell (j:=1) rfl
    have c2:wA.cell? ⟨lg,fi * 8 + 2,none⟩ = some (.int .i64 it.nameAt):=hseg.cell (j:=2) rfl
    have c3:wA.cell? ⟨lg,fi * 8 + 3,none⟩ = some (.slice va it.fields.length vc):=hseg.cell (j:=3) rfl
    have c4:wA.cell? ⟨lg,fi * 8 + 4,none⟩ = some (.slice na it.names.length nc):=hseg.cell (j:=4) rfl
    have c5:wA.cell? ⟨lg,fi * 8 + 5,none⟩ = some (.slice za zl zc):=hseg.cell (j:=5) rfl
    have c6:wA.cell? ⟨lg,fi * 8 + 6,none⟩ = some (.slice ba bl bc):=hseg.cell (j:=6) rfl
    have c7:wA.cell? ⟨lg,fi * 8 + 7,none⟩ = some (.slice xa xl xc):=hseg.cell (j:=7) rfl
    have HKP:=hid (show ∀ w',Below wA.heap.size wA w' → (w'.cell? ⟨lg,fi * 8,none⟩ = some (.string it.kind) ∧ w'.cell? ⟨lg,fi * 8 + 1,none⟩ = some (.string it.name) ∧ w'.cell? ⟨lg,fi * 8 + 2,none⟩ = some (.int .i64 it.nameAt) ∧ w'.cell? ⟨lg,fi * 8 + 3,none⟩ = some (.slice va it.fields.length vc) ∧ w'.cell? ⟨lg,fi * 8 + 4,none⟩ = some (.slice na it.names.length nc) ∧ w'.cell? ⟨lg,fi * 8 + 5,none⟩ = some (.slice za zl zc) ∧ w'.cell? ⟨lg,fi * 8 + 6,none⟩ = some (.slice ba bl bc) ∧ w'.cell? ⟨lg,fi * 8 + 7,none⟩ = some (.slice xa xl xc)) from fun w' hw'=>by
     have hq:∀ q,w'.cell? ⟨lg,q,none⟩ = wA.cell? ⟨lg,q,none⟩:=fun q=>World.cell?_of_block (w:=wA) (hw'.block lg hlgs)
     simp only [hq]
     exact ⟨c0,c1,c2,c3,c4,c5,c6,c7⟩)
    have HBX:=hid (show ∀ wx w1,wx.heap = (wA.alloc (.cells #[.string (ByteArray.mk #[]),.string (ByteArray.mk #[]),.int .i64 0,.slice none 0 0,.slice none 0 0,.slice none 0 0,.slice none 0 0,.slice none 0 0] 96)).heap → Below wx.heap.size wx w1 → Seg w1 wA.heap.size 96 0 [.string (ByteArray.mk #[]),.string (ByteArray.mk #[]),.int .i64 0,.slice none 0 0,.slice none 0 0,.slice none 0 0,.slice none 0 0,.slice none 0 0] from fun wx w1 hx hw1=>(seg_made wA _ _).same ((hw1.block _ (by rw [hx];simp)).trans (by rw [hx])))
    clear hseg c0 c1 c2 c3 c4 c5 c6 c7
    refine (HFD.out wA (Below.refl _ _)).mono ?_;rintro e w1 ⟨rfl,hb1w,_⟩
    obtain ⟨c0,c1,c2,c3,c4,c5,c6,c7⟩:=HKP.out w1 hb1w
    have hbf:Below wA.heap.size wA (w1.alloc (.cells #[.string it.kind,.string it.name,.int .i64 it.nameAt,.slice va it.fields.length vc,.slice na it.names.length nc,.slice za zl zc,.slice ba bl bc,.slice xa xl xc] 96)):=hb1w.alloc hb1w.size _
    have HSF:=hid (show Seg (w1.alloc (.cells #[.string it.kind,.string it.name,.int .i64 it.nameAt,.slice va it.fields.length vc,.slice na it.names.length nc,.slice za zl zc,.slice ba bl bc,.slice xa xl xc] 96)) w1.heap.size 96 0 [.string it.kind,.string it.name,.int .i64 it.nameAt,.slice va it.fields.length vc,.slice na it.names.length nc,.slice za zl zc,.slice ba bl bc,.slice xa xl xc] from seg_made w1 _ _)
    have hbb:=hb1w.size
    have HIF:=hid (HIA.out.same hbf)
    have HEF:=hid (HEA.out.below hbf)
    have hbelf:Below w.heap.size w (w1.alloc (.cells #[.string it.kind,.string it.name,.int .i64 it.nameAt,.slice va it.fields.length vc,.slice na it.names.length nc,.slice za zl zc,.slice ba bl bc,.slice xa xl xc] 96)):=hbA.trans (hbf.mono (Nat.le_of_lt hzA))
    have HDF:=hid (HDA.out.later hbf)
    have hzf:=hbelf.size
    have HTF:=hid (HT0.out.below hbf (Nat.le_refl _))
    clear hb1w
    cases hkm:(it.kind.toList == [109,101,115,115,97,103,101]) with
    | true =>
     have HSM:=hid (show valD (tyR Y) (rmspec Y n) base.toList d = rmspec Y n (it.fields.map fdR) d by rw [HVP.out,HTY.out,if_pos (show isW it.kind wMessage = true from hkm)])
     go_wp2_with fail
     generalize (w1.alloc (.cells #[.string it.kind,.string it.name,.int .i64 it.nameAt,.slice va it.fields.length vc,.slice na it.names.length nc,.slice za zl zc,.slice ba bl bc,.slice xa xl xc] 96)) = wf at *
     refine (HM.out wf lo _ _ _ _ d HIF.out HEF.out HDF.out (fun k hk=>Nat.lt_of_lt_of_le (HDB.out k hk) hzf) hdl hdn fi _ HXX.out va na za ba xa vc it.names.length nc zl zc bl bc xl xc rfl).mono ?_;intro e w3 h3
     obtain ⟨t3,ok3,rfl,hb3,hroom,hsp⟩:=h3
     have hbel3:=hbelf.trans (hb3.mono hzf)
     have HSP:=hid hsp
     clear hsp
     go_wp2_with fail
     go_ret2
     unfold RdPost
     refine ⟨t3,ok3,rfl,hbel3,hroom,?_⟩
     rw [HSM.out]
     exact HSP.out
    | false =>
     have HSE:=hid (show valD (tyR Y) (rmspec Y n) base.toList d = choD (it.names.map ByteArray.toList) d by rw [HVP.out,HTY.out,if_neg (show ¬ isW it.kind wMessage = true by show ¬ (it.kind.toList == [109,101,115,115,97,103,101]) = true;rw [hkm];decide)])
     go_wp2_with fail
     generalize (w1.alloc (.cells #[.string it.kind,.string it.name,.int .i64 it.nameAt,.slice va it.fields.length vc,.slice na it.names.length nc,.slice za zl zc,.slice ba bl bc,.slice xa xl xc] 96)) = wf at *
     refine (tnumber_any wf w.heap.size w.heap.size _ d true HTF.out (Nat.le_refl _) (by omega)).mono ?_;rintro e w2 ⟨m,a2,cc2,R,ok2,rfl,hm,hbut2,hT2,hRl,hans2⟩
     have hbel2:Below w.heap.size w w2:=hbut2.below hbelf (Nat.le_refl _) (Nat.le_refl _)
     have HWH:=hid hans2.whole
     have HNR:=hid ((HIF.out.nest _ (List.mem_of_getElem? HXX.out)).n)
     have HNR2:=hid (show w2.ownsRow lo 9 1 (.slice na it.names.length nc) it.names.length (it.names.map strCell) from own_same HNR.out (fun g hg=>hbut2.block g (HNR.out.lt g hg).2 (own_seg_ne HNR.out HTF.out.seg (by decide) hg)))
     have b4':w2.cell? ⟨w1.heap.size,4,none⟩ = some (.slice na it.names.length nc):=(World.cell?_of_block (w:=wf) (hbut2.block w1.heap.size HSF.out.lt (by omega))).trans (HSF.out.cell (j:=4) rfl)
     have g0:=hT2.seg.cell (j:=0) rfl
     have g1:=hT2.seg.cell (j:=1) rfl
     simp only [Nat.zero_add] at g0 g1
     have hnl:it.names.length ≤ 400:=hY.nl _ (List.mem_of_getElem? HXX.out)
     have HNN:=hid (hY.nn _ (List.mem_of_getElem? HXX.out))
     have hlw:IntKind.u64.wrap (it.names.length:Int) = (it.names.length:Int):=by rw [IntKind.wrap_u64];omega
     clear hT2 hans2 hbut2 c0 c1 c2 c3 c4 c5 c6 c7
     cases ok2 with
     | false =>
      have HN:=hid (show choD (it.names.map ByteArray.toList) d = none by unfold choD;rw [HWH.out];rfl)
      go_wp2_with fail
      go_ret2
      unfold RdPost
      exact ⟨_,false,rfl,hbel2,⟨by show 0 ≤ _;omega⟩,by show _ = _;rw [HSE.out,HN.out]⟩
     | true =>
      by_cases hR0:R.length = 0
      ·have hR0I:¬ (0:Int) < (R.length:Int):=by omega
       have hR0D:decide ((0:Int) < (R.length:Int)) = false:=by simpa using hR0I
       have HW2:=hid (show wholeV d = some m by rw [HWH.out,hR0];rfl)
       by_cases hml:m < it.names.length
       ·have hmlI:¬ (it.names.length:Int) ≤ (m:Int):=by omega
        have hmlD:decide ((it.names.length:Int) ≤ (m:Int)) = false:=by simpa using hmlI
        have hmlL:(m:Int) < (it.names.length:Int):=by omega
        obtain ⟨nm,hnm⟩:∃ nm,it.names[m]? = some nm:=⟨it.names[m],List.getElem?_eq_getElem hml⟩
        obtain ⟨ng,ncap,hv,hngl,hngs⟩:=own_form HNR2.out (by show 0 < it.names.length;omega)
        obtain ⟨rfl,rfl⟩:na = some ⟨ng,0,none⟩ ∧ nc = ncap:=by simpa using hv
        have d0:w2.cell? ⟨ng,m,none⟩ = some (.string nm):=by
         rw [HNR2.out.cellAt m (by show m < it.names.length * 1;omega),List.getElem?_map,hnm];rfl
        have HN:=hid (show choD (it.names.map ByteArray.toList) d = some nm.toList by unfold choD;rw [HW2.out];simp [hnm])
        have hnsz:=(HNN.out nm (List.mem_of_getElem? hnm)).2
        clear hnm hv
        go_wp2_with fail
        go_ret2
        unfold RdPost
        exact ⟨nm,true,rfl,hbel2,⟨by omega⟩,by show _ = _;rw [HSE.out,HN.out]⟩
       ·have hmlI:(it.names.length:Int) ≤ (m:Int):=by omega
        have HN:=hid (show choD (it.names.map ByteArray.toList) d = none by unfold choD;rw [HW2.out];simp;omega)
        go_wp2_with fail
        go_ret2
        unfold RdPost
        exact ⟨_,false,rfl,hbel2,⟨by show 0 ≤ _;omega⟩,by show _ = _;rw [HSE.out,HN.out]⟩
      ·have hR0I:(0:Int) < (R.length:Int):=by omega
       have HN:=hid (show choD (it.names.map ByteArray.toList) d = none by unfold choD;rw [HWH.out,show ((R.length:Int) == 0) = false by rw [beq_eq_false_iff_ne];omega];rfl)
       go_wp2_with fail
       go_ret2
       unfold RdPost
       exact ⟨_,false,rfl,hbel2,⟨by show 0 ≤ _;omega⟩,by show _ = _;rw [HSE.out,HN.out]⟩
end Go.Proofs.YtopcgnjocklcoaaGreatDoor
