/- Package courierref: readList. -/
import Derived.Test.YtopcgnjocklcoaaGreatDoorMRDecA
import Derived.Test.YtopcgnjocklcoaaGreatDoorMEncL
import Derived.Test.YtopcgnjocklcoaaGreatDoorMDecA
import Derived.Test.YtopcgnjocklcoaaGreatDoorMDecB
import Derived.Test.YtopcgnjocklcoaaGreatDoorMDecM
namespace Go.Proofs.YtopcgnjocklcoaaGreatDoor
open Go.RowKit
abbrev rdR (Y:List IV) (n:Nat):=rdE (tyR Y) n
structure Room (s d:Nat):Prop where
 out:s ≤ 1000 * d + 500
structure Sz (s D d:Nat):Prop where
 out:s + 1000 * D ≤ 1 + 1000 * d
def RdPost (spec:Txt) (w:World) (d:Nat) (e:Ending) (w':World):Prop:=∃ (t:ByteArray) (ok:Bool),e = .returned (.tuple #[.string t,.bool ok]) ∧ Below w.heap.size w w' ∧ Room t.size d ∧ (match ok with | true=>spec = some t.toList | false=>spec = none)
def RRd (Y:List IV) (n:Nat):Prop:=∀ (w:World) (lo:Nat) (la:Option Addr) (ll lc:Nat) (base:ByteArray) (dv:Value) (d:List UInt8),Its w lo (.slice la ll lc) Y → Env w → RdC w dv d → (∀ k,dv.ownBlock = some k → k < w.heap.size) → d.length ≤ 64 → d.length < n → typeB Y base.toList = true →
 Calls Tryz.prog 34 #[.slice la ll lc,.string base,dv] w (RdPost ((rdR Y n).1 base.toList d) w d.length)
def RLd (Y:List IV) (n:Nat):Prop:=∀ (w:World) (lo:Nat) (la:Option Addr) (ll lc:Nat) (base:ByteArray) (dv:Value) (d:List UInt8),Its w lo (.slice la ll lc) Y → Env w → RdC w dv d → (∀ k,dv.ownBlock = some k → k < w.heap.size) → d.length ≤ 64 → d.length < n → typeB Y base.toList = true →
 Calls Tryz.prog 107 #[.slice la ll lc,.string base,dv] w (RdPost ((rdR Y n).2 base.toList d) w d.length)
def LRp (G:Txt) (val:List UInt8 → Txt) (D:List UInt8) (m:Nat) (S:List UInt8) (ok:Bool):Prop:=match ok with
 | true=>∃ f,D.length ≤ f ∧ G = (listD val f (decide (m = 0)) D).map fun o=>S ++ o
 | false=>G = none
theorem LRp.shut {G:Txt} {val:List UInt8 → Txt} {D:List UInt8} {m:Nat} {S:List UInt8} {ok:Bool} (h:LRp G val D m S ok) (h0:ok = true → D = []):match ok with | true=>G = some (S ++ [93]) | false=>G = none:=by
 cases ok with
 | false=>exact h
 | true =>
  obtain ⟨f,_,e⟩:=h
  rw [h0 rfl] at e
  show G = _
  rw [e,listD_eq,if_pos rfl];rfl
theorem LRp.bad {G:Txt} {val:List UInt8 → Txt} {D:List UInt8} {m:Nat} {S:List UInt8} (h:LRp G val D m S true) (h0:D ≠ []) (hb:takeC D = none):G = none:=by
 obtain ⟨f,hf,e⟩:=h
 rw [e,listD_eq,if_neg h0]
 cases f with
 | zero=>rfl
 | succ q=>simp [hb]
theorem LRp.next {G:Txt} {val:List UInt8 → Txt} {D V R:List UInt8} {m:Nat} {S:List UInt8} (h:LRp G val D m S true) (h0:D ≠ []) (ht:takeC D = some (V,R)) (t:List UInt8) (ok:Bool) (hv:match ok with | true=>val V = some t | false=>val V = none) (S':List UInt8) (hS:S' = S ++ (sepD (decide (m = 0)) ++ t)):LRp G val R (m + 1) S' ok:=by
 obtain ⟨f,hf,e⟩:=h
 have hl:0 < D.length:=List.length_pos_iff.2 h0
 have hlen:=takeC_len ht
 obtain ⟨q,rfl⟩:∃ q,f = q + 1:=⟨f - 1,by omega⟩
 rw [listD_eq,if_neg h0] at e
 simp only [ht,Option.bind_some] at e
 cases ok with
 | false=>show G = none;rw [e,show val V = none from hv];rfl
 | true =>
  refine ⟨q,by omega,?_⟩
  rw [e,show val V = some t from hv,hS,show decide (m + 1 = 0) = false by simp]
  simp only [Option.bind_some,Option.map_map]
  congr 1
  funext o
  simp
def left (ok:Bool) (D:List UInt8):Nat:=match ok with | true=>D.length | false=>0
set_option maxRecDepth 100000 in
set_option maxHeartbeats 4000000 in
theorem readList_any {Y:List IV} {n:Nat} (hV:RRd Y n):RLd Y (n + 1):=by
 intro w lo la ll lc base dv d hI hE hd hdb hdl hdn hB
 obtain ⟨da,dc,hdv,hdc⟩:=hd.2
 subst hdv
 have HI:=hid hI
 have HE:=hid hE
 have HV:=hid hV
 have HB:=hid hB
 have hbA:Below w.heap.size w (w.alloc (.cells #[.slice da d.length dc,.bool true] 124)):=(Below.refl _ _).alloc (Nat.le_refl _) _
 have HT0:=hid (show TkD (w.alloc (.cells #[.slice da d.length dc,.bool true] 124)) w.heap.size w.heap.size (.slice da d.length dc) d true from ⟨seg_made w _ _,hd.later hbA,hdb⟩)
 obtain ⟨G,hG⟩:∃ G,(rdR Y (n + 1)).2 base.toList d = G:=⟨_,rfl⟩
 rw [hG]
 have HG:=hid (show LRp G ((rdR Y n).1 base.toList) d 0 [91] true from ⟨d.length,Nat.le_refl _,by rw [← hG];show _ = (listD ((rdR Y n).1 base.toList) d.length true d).map _;rfl⟩)
 clear hG hI hE hV hB hd hdb
 go_enter Tryz.func107,Tryz.ntmps107
 go_wp2_with fail
 go_loopg [9,10,11,12] (d.length + 1) (fun gk s9 n10 x11 x12 wr=>∃ (m:Nat) (D:List UInt8) (a:Option Addr) (c:Nat) (S:ByteArray) (ok:Bool),m + gk = d.length + 1 ∧ s9 = .string S ∧ n10 = .int .i64 m ∧ Hid (TkD wr w.heap.size w.heap.size (.slice a D.length c) D ok) ∧ Hid (ok = true → D.length < gk) ∧ Hid (D.length ≤ d.length) ∧ Sz S.size (left ok D) d.length ∧ Hid (LRp G ((rdR Y n).1 base.toList) D m S.toList ok) ∧ Below w.heap.size w wr)
 case atStart=>exact ⟨0,d,da,dc,ByteArray.mk #[91],true,by omega,rfl,rfl,hid HT0.out,hid (fun _=>by omega),hid (Nat.le_refl _),⟨by show 1 + _ ≤ _;simp [left]⟩,hid (by rw [bracketB];exact HG.out),hbA⟩
 case round =>
  obtain ⟨m,D,a,c,S,ok,hm,rfl,rfl,HT,HDg,HDd,HSz,HL,hbel⟩:=hrel
  have hzr:=hbel.size
  have c0:=HT.out.seg.cell (j:=0) rfl
  have c1:=HT.out.seg.cell (j:=1) rfl
  simp only [Nat.zero_add] at c0 c1
  have hSs:S.size ≤ 1 + 1000 * 64:=by have:=HSz.out;omega
  have hov1:¬ 9223372036854775807 < S.size + 1:=by omega
  cases ok with
  | false =>
   have HF:=hid (HL.out.shut (fun h=>by cases h))
   go_wp2_with fail
   (first | (go_region) | fail)
   all_goals
    go_wp2_with fail
    go_ret2
    unfold RdPost
    exact ⟨S ++ ByteArray.mk #[93],false,rfl,hbel.drew,⟨by rw [ByteArray.size_append];show S.size + 1 ≤ _;have:=HSz.out;omega⟩,HF.out⟩
  | true =>
   by_cases hD0:D.length = 0
   ·have HF:=hid (HL.out.shut (fun _=>List.eq_nil_of_length_eq_zero hD0))
    have hD0I:¬ (0:Int) < (D.length:Int):=by omega
    go_wp2_with fail
    (first | (go_region) | fail)
    all_goals
     go_wp2_with fail
     go_ret2
     unfold RdPost
     exact ⟨S ++ ByteArray.mk #[93],true,rfl,hbel.drew,⟨by rw [ByteArray.size_append];show S.size + 1 ≤ _;have:=HSz.out;omega⟩,by rw [app_list,shutB];exact HF.out⟩
   ·have hD0I:(0:Int) < (D.length:Int):=by omega
    have HDn:=hid (show D ≠ [] from fun e=>hD0 (by rw [e];rfl))
    have hgk:=HDg.out rfl
    have hDd:=HDd.out
    go_wp2_with fail
    refine (tsome_any wr w.heap.size w.heap.size _ D true HT.out (Nat.le_refl _) (by omega)).mono ?_;rintro e w2 ⟨a2,c2,V,a3,c3,R,ok2,rfl,hbut2,hT2,hV2,hVb,hVR,hVn,hans⟩
    have hbel2:Below w.heap.size w w2:=hbut2.below hbel (Nat.le_refl _) (Nat.le_refl _)
    have hz2:=hbel2.size
    have HT2:=hid hT2
    have HAN:=hid hans
    have HV0:=hid (show V.length + 1 ≤ D.length from by
     cases ok2 with
     | true=>have:=takeC_len hans.2;omega
     | false=>rw [hVn rfl];show 1 ≤ _;omega)
    have HVn:=hid (show V.length < n from by
     cases ok2 with
     | true=>have:=takeC_len hans.2;omega
     | false=>rw [hVn rfl];show 0 < n;omega)
    have HI2:=hid (HI.out.same hbel2)
    have HE2:=hid (HE.out.below hbel2)
    have HVR:=hid hV2
    have HVB:=hid (fun k hk=>Nat.lt_of_lt_of_le (hVb k hk) hz2)
    clear c0 c1 hT2 hans hV2 hVb hVn hbut2
    go_wp2_with fail
    refine (HV.out w2 lo la ll lc base _ V HI2.out HE2.out HVR.out HVB.out (by omega) HVn.out HB.out).mono ?_;rintro e w3 ⟨t,ok3,rfl,hb3,hroom,hsp⟩
    have hbel3:Below w.heap.size w w3:=hbel2.trans (hb3.mono hz2)
    have HT3:=hid (HT2.out.below hb3 (Nat.le_refl _))
    have HSP:=hid hsp
    have c0:=HT3.out.seg.cell (j:=0) rfl
    have c1:=HT3.out.seg.cell (j:=1) rfl
    have f1:=HT3.out.seg.frozen 1
    simp only [Nat.zero_add] at c0 c1
    have hts:t.size ≤ 1000 * 64 + 500:=by have:=hroom.out;omega
    have hov2:¬ 9223372036854775807 < S.size + t.size:=by omega
    have hov3:¬ 9223372036854775807 < S.size + 1 + t.size:=by omega
    have hcz:(ByteArray.mk #[44]).size = 1:=rfl
    have HAP1:=hid (app_list S t)
    have HAP2:=hid (show (S ++ ByteArray.mk #[44] ++ t).toList = S.toList ++ [44] ++ t.toList by rw [app_list,app_list,commaB])
    have HAS1:=hid (ByteArray.size_append (a:=S) (b:=t))
    have HAS2:=hid (show (S ++ ByteArray.mk #[44] ++ t).size = S.size + 1 + t.size by rw [ByteArray.size_append,ByteArray.size_append];rfl)
    clear hsp hb3
    cases ok2 with
    | false =>
     have HN:=hid (show G = none from HL.out.bad HDn.out ((show true = false ∨ takeC D = none from HAN.out).resolve_left (by decide)))
     have HVR0:=hid (show V.length + 1 ≤ D.length from HV0.out)
     by_cases hm0:m = 0
     ·subst hm0
      go_wp2_with fail
      go_roundg (gk - 1)
      case rel=>exact ⟨1,R,a3,c3,S ++ t,false,by omega,rfl,rfl,hid (HT3.out.putOk (Nat.le_refl _) false),hid (fun h=>by cases h),hid (by omega),⟨by rw [HAS1.out];have h1:=HSz.out;have h2:=hroom.out;have h3:=HVR0.out;simp only [left] at h1 ⊢;omega⟩,hid HN.out,hbel3.setCell (p:=⟨w.heap.size,1,none⟩) (Nat.le_refl _) _⟩
      case measure=>omega
     ·have hm0I:(0:Int) < (m:Int):=by omega
      go_wp2_with fail
      go_roundg (gk - 1)
      case rel=>exact ⟨m + 1,R,a3,c3,S ++ ByteArray.mk #[44] ++ t,false,by omega,rfl,by go_num,hid (HT3.out.putOk (Nat.le_refl _) false),hid (fun h=>by cases h),hid (by omega),⟨by rw [HAS2.out];have h1:=HSz.out;have h2:=hroom.out;have h3:=HVR0.out;simp only [left] at h1 ⊢;omega⟩,hid HN.out,hbel3.setCell (p:=⟨w.heap.size,1,none⟩) (Nat.le_refl _) _⟩
      case measure=>omega
    | true =>
     have hlen:=takeC_len HAN.out.2
     by_cases hm0:m = 0
     ·subst hm0
      have HN:=hid (HL.out.next HDn.out HAN.out.2 t.toList ok3 HSP.out (S ++ t).toList (by rw [HAP1.out];rfl))
      go_wp2_with fail
      go_roundg (gk - 1)
      case rel=>exact ⟨1,R,a3,c3,S ++ t,ok3,by omega,rfl,rfl,hid (HT3.out.putOk (Nat.le_refl _) ok3),hid (fun h=>by omega),hid (by omega),⟨by rw [HAS1.out];have h1:=HSz.out;have h2:=hroom.out;cases ok3 <;> simp only [left] at h1 ⊢ <;> omega⟩,hid HN.out,hbel3.setCell (p:=⟨w.heap.size,1,none⟩) (Nat.le_refl _) _⟩
      case measure=>omega
     ·have hm0I:(0:Int) < (m:Int):=by omega
      have HN:=hid (HL.out.next HDn.out HAN.out.2 t.toList ok3 HSP.out (S ++ ByteArray.mk #[44] ++ t).toList (by rw [HAP2.out,show decide (m = 0) = false by simpa using hm0];simp [sepD]))
      go_wp2_with fail
      go_roundg (gk - 1)
      case rel=>exact ⟨m + 1,R,a3,c3,S ++ ByteArray.mk #[44] ++ t,ok3,by omega,rfl,by go_num,hid (HT3.out.putOk (Nat.le_refl _) ok3),hid (fun h=>by omega),hid (by omega),⟨by rw [HAS2.out];have h1:=HSz.out;have h2:=hroom.out;cases ok3 <;> simp only [left] at h1 ⊢ <;> omega⟩,hid HN.out,hbel3.setCell (p:=⟨w.heap.size,1,none⟩) (Nat.le_refl _) _⟩
      case measure=>omega
end Go.Proofs.YtopcgnjocklcoaaGreatDoor
namespace Go.Proofs.YtopcgnjocklcoaaGreatDoor
open Go.RowKit
def RPts (w:World) (lo dlo:Nat) (pv:Value) (ps:List (Nat × List UInt8)):Prop:=∃ us:List (Nat × Value),us.length = ps.length ∧ w.ownsRow lo 182 2 pv us.length (us.flatMap pairCells) ∧
 ∀ (i:Nat) (x:Nat × Value) (p:Nat × List UInt8),us[i]? = some x → ps[i]? = some p → x.1 = p.1 ∧ RdC w x.2 p.2 ∧ (∀ k,x.2.ownBlock = some k → k < dlo)
theorem RPts.but {w w':World} {lo dlo tb:Nat} {pv:Value} {xs:List Value} {ps:List (Nat × List UInt8)} (h:RPts w lo dlo pv ps) (hs:Seg w tb 124 0 xs) (hb:But tb w w') (hd:dlo ≤ tb):RPts w' lo dlo pv ps:=by
 obtain ⟨us,hl,ho,hr⟩:=h
 refine ⟨us,hl,own_same ho (fun g hg=>hb.block g (ho.lt g hg).2 (own_seg_ne ho hs (by decide) hg)),fun i x p hx hp=>?_⟩
 obtain ⟨h1,h2,h3⟩:=hr i x p hx hp
 have hlt:=hs.lt
 exact ⟨h1,h2.same (B:=dlo) (hb.below (Below.refl _ _) hd (by omega)) h3,h3⟩
theorem RPts.below {w w':World} {lo dlo:Nat} {pv:Value} {ps:List (Nat × List UInt8)} (h:RPts w lo dlo pv ps) (hb:Below w.heap.size w w') (hd:dlo ≤ w.heap.size):RPts w' lo dlo pv ps:=by
 obtain ⟨us,hl,ho,hr⟩:=h
 refine ⟨us,hl,own_same ho (fun g hg=>hb.block g (ho.lt g hg).2),fun i x p hx hp=>?_⟩
 obtain ⟨h1,h2,h3⟩:=hr i x p hx hp
 exact ⟨h1,h2.same hb (fun k hk=>by have:=h3 k hk;omega),h3⟩
theorem Tryz.infoFld:(Tryz.prog.info? 182).map (fun i=>(i.zero,i.size,i.bytes)) = some (some (.agg #[.int .u64 0,.slice none 0 0]),2,32):=by kernel_rfl
theorem pair_at (l:List (Nat × Value)) (k:Nat) (x:Nat × Value) (h:l[k]? = some x):((l.flatMap pairCells).drop (k * 2)).take 2 = pairCells x:=by
 induction l generalizing k with
 | nil=>simp at h
 | cons a r ih =>
  cases k with
  | zero=>simp at h;subst h;simp [pairCells]
  | succ k =>
   rw [List.flatMap_cons,show (k + 1) * 2 = (k * 2 + 1) + 1 by omega]
   simp only [List.getElem?_cons_succ] at h
   show (((Value.int .u64 a.1) :: a.2 :: r.flatMap pairCells).drop (k * 2 + 1 + 1)).take 2 = _
   rw [List.drop_succ_cons,List.drop_succ_cons]
   exact ih k h
theorem RPts.at {w:World} {lo dlo:Nat} {pv:Value} {ps:List (Nat × List UInt8)} (h:RPts w lo dlo pv ps) {i:Nat} {p:Nat × List UInt8} (hp:ps[i]? = some p):∃ g c va vc,pv = .slice (some ⟨g,0,none⟩) ps.length c ∧ lo ≤ g ∧ g < w.heap.size ∧ w.cell? ⟨g,i * 2,none⟩ = some (.int .u64 p.1) ∧ w.cell? ⟨g,i * 2 + 1,none⟩ = some (.slice va p.2.length vc) ∧ RdC w (.slice va p.2.length vc) p.2 ∧ (∀ k,(Value.slice va p.2.length vc).ownBlock = some k → k < dlo):=by
 obtain ⟨us,hl,ho,hr⟩:=h
 have hlt:i < ps.length:=at_lt hp
 obtain ⟨x,hx⟩:∃ x,us[i]? = some x:=⟨us[i],List.getElem?_eq_getElem (by omega)⟩
 obtain ⟨h1,h2,h3⟩:=hr i x p hx hp
 obtain ⟨g,c,hv,hg,hs⟩:=ho.form (by omega)
 rw [hv] at ho
 have hseg:=(own_seg ho).part (i * 2) 2 (pairCells x) (pair_at _ i x hx) rfl (by omega)
 simp only [Nat.zero_add] at hseg
 obtain ⟨va,vc,e,_⟩:=h2.2
 refine ⟨g,c,va,vc,by rw [hv,hl],hg,hs,?_,?_,by rw [← e];exact h2,by rw [← e];exact h3⟩
 ·have:=hseg.cell (j:=0) rfl
  rw [← h1];exact this
 ·have:=hseg.cell (j:=1) rfl
  rw [← e];exact this
theorem parts_rise:∀ {f last:Nat} {d:List UInt8} {ps:List (Nat × List UInt8)},partsGo f last d = some ps → (∀ p ∈ ps,last < p.1) ∧ ps.Pairwise (fun p q=>p.1 < q.1)
 | f,last,d,ps,h=>by
  rw [partsGo_eq] at h
  split at h
  ·simp only [Option.some.injEq] at h
   subst h;simp
  ·cases f with
   | zero=>cases h
   | succ f =>
    obtain ⟨x,hx,h⟩:=Option.bind_eq_some_iff.1 h
    obtain ⟨y,hy,h⟩:=Option.bind_eq_some_iff.1 h
    split at h
    ·rename_i hc
     obtain ⟨o,ho,rfl⟩:=Option.map_eq_some_iff.1 h
     obtain ⟨h1,h2⟩:=parts_rise ho
     refine ⟨fun p hp=>?_,List.pairwise_cons.2 ⟨fun q hq=>h1 q hq,h2⟩⟩
     rcases List.mem_cons.1 hp with rfl | hp
     ·exact hc.1
     ·have:=h1 p hp;omega
    ·cases h
def MSt (G:Txt) (val lst:List UInt8 → List UInt8 → Txt) (ps:List (Nat × List UInt8)) (fs:List FD) (j:Nat) (S:List UInt8) (ok:Bool):Prop:=match ok with
 | true=>G = (fieldsD val lst ps (fs.drop j) (decide (S = [123]))).map fun o=>S ++ o
 | false=>G = none
theorem MSt.open {G:Txt} {val lst:List UInt8 → List UInt8 → Txt} {ps:List (Nat × List UInt8)} {fs:List FD} {j:Nat} {S:List UInt8} {f:FD} (h:MSt G val lst ps fs j S true) (hf:fs[j]? = some f):G = (match ps.find? (fun (p:Nat × List UInt8)=>p.1 == f.number) with
  | none=>if f.shape = 1 then fieldsD val lst ps (fs.drop (j + 1)) (decide (S = [123])) else none
  | some p=>(if f.shape = 2 then lst f.base p.2 else val f.base p.2).bind fun s=>(fieldsD val lst ps (fs.drop (j + 1)) false).map fun o=>sepD (decide (S = [123])) ++ f.name ++ [58] ++ s ++ o).map fun o=>S ++ o:=by
 have h':G = (fieldsD val lst ps (fs.drop j) (decide (S = [123]))).map fun o=>S ++ o:=h
 have hlt:=at_lt hf
 have e:fs.drop j = f :: fs.drop (j + 1):=by
  rw [List.drop_eq_getElem_cons hlt]
  rw [List.getElem?_eq_getElem hlt] at hf
  cases hf;rfl
 rw [h',e]
 conv=>lhs;unfold fieldsD
 rfl
theorem MSt.skip {G:Txt} {val lst:List UInt8 → List UInt8 → Txt} {ps:List (Nat × List UInt8)} {fs:List FD} {j:Nat} {S:List UInt8} {f:FD} (h:MSt G val lst ps fs j S true) (hf:fs[j]? = some f) (hn:ps.find? (fun p=>p.1 == f.number) = none):(f.shape = 1 → MSt G val lst ps fs (j + 1) S true) ∧ (f.shape ≠ 1 → G = none):=by
 have:=h.open hf
 rw [hn] at this
 exact ⟨fun h1=>by rw [if_pos h1] at this;exact this,fun h1=>by simp only [if_neg h1] at this;exact this⟩
theorem MSt.there {G:Txt} {val lst:List UInt8 → List UInt8 → Txt} {ps:List (Nat × List UInt8)} {fs:List FD} {j:Nat} {S:List UInt8} {f:FD} (h:MSt G val lst ps fs j S true) (hf:fs[j]? = some f) {p:Nat × List UInt8} (hn:ps.find? (fun p=>p.1 == f.number) = some p) (t:List UInt8) (ok:Bool) (hv:match ok with | true=>(if f.shape = 2 then lst f.base p.2 else val f.base p.2) = some t | false=>(if f.shape = 2 then lst f.base p.2 else val f.base p.2) = none) (S':List UInt8) (hS:S' = S ++ (sepD (decide (S = [123])) ++ f.name ++ [58] ++ t)) (h1:1 ≤ S.length):MSt G val lst ps fs (j + 1) S' ok:=by
 have:=h.open hf
 rw [hn] at this
 simp only at this
 cases ok with
 | false=>show G = none;rw [this,show (if f.shape = 2 then lst f.base p.2 else val f.base p.2) = none from hv];rfl
 | true =>
  rw [show (if f.shape = 2 then lst f.base p.2 else val f.base p.2) = some t from hv] at this
  show G = _
  have hne:decide (S' = [123]) = false:=by
   rw [decide_eq_false_iff_not]
   intro e
   have h2:=congrArg List.length e
   rw [hS] at h2
   simp only [List.length_append,List.length_singleton] at h2
   omega
  rw [this,hne,hS]
  simp only [Option.bind_some,Option.map_map]
  congr 1
  funext o
  simp
theorem MSt.last {G:Txt} {val lst:List UInt8 → List UInt8 → Txt} {ps:List (Nat × List UInt8)} {fs:List FD} {j:Nat} {S:List UInt8} {ok:Bool} (h:MSt G val lst ps fs j S ok) (hj:ok = true → fs.length ≤ j):match (generalizing:=false) ok with | true=>G = some (S ++ [125]) | false=>G = none:=by
 cases ok with
 | false=>exact h
 | true =>
  have h':G = (fieldsD val lst ps (fs.drop j) (decide (S = [123]))).map fun o=>S ++ o:=h
  rw [List.drop_eq_nil_of_le (hj rfl)] at h'
  show G = _
  rw [h']
  unfold fieldsD
  rfl
structure MR (s:Nat) (ps:List (Nat × List UInt8)) (ns:List Nat) (j:Nat):Prop where
 out:s ≤ 1 + ((ns.take j).map fun n=>wt (ps.find? (fun p=>p.1 == n))).sum
theorem MR.all {s:Nat} {ps:List (Nat × List UInt8)} {ns:List Nat} {j:Nat} {d:List UInt8} (h:MR s ps ns j) (hd:partsD d = some ps) (hn:ns.Pairwise (· ≠ ·)):s ≤ 1 + 1000 * d.length:=by
 have h1:=h.out
 rw [List.map_take] at h1
 have h2:=sum_take (ns.map fun n=>wt (ps.find? (fun p=>p.1 == n))) j
 have h3:=wt_sum (ps:=ps) hn
 have h4:=parts_sum (show partsGo d.length 0 d = some ps from hd)
 omega
theorem MR.skip {s:Nat} {ps:List (Nat × List UInt8)} {ns:List Nat} {j:Nat} (h:MR s ps ns j):MR s ps ns (j + 1):=by
 refine ⟨?_⟩
 have h1:=h.out
 rw [List.take_add_one,List.map_append,List.sum_append]
 omega
theorem MR.next {s k:Nat} {ps:List (Nat × List UInt8)} {ns:List Nat} {j m:Nat} {p:Nat × List UInt8} (h:MR s ps ns j) (hj:ns[j]? = some m) (hp:ps.find? (fun p=>p.1 == m) = some p) (hk:k ≤ 1000 * (p.2.length + 2)):MR (s + k) ps ns (j + 1):=by
 refine ⟨?_⟩
 have h1:=h.out
 rw [List.take_add_one,List.map_append,List.sum_append,hj]
 have h2:wt (some p) = 1000 * (p.2.length + 2):=rfl
 simp only [Option.toList_some,List.map_cons,List.map_nil,hp,h2,List.sum_cons,List.sum_nil]
 omega
theorem find_first {ps:List (Nat × List UInt8)} {i n:Nat} {p:Nat × List UInt8} (hp:ps[i]? = some p) (hn:p.1 = n) (hb:∀ q x,q < i → ps[q]? = some x → x.1 ≠ n):ps.find? (fun p=>p.1 == n) = some p:=by
 have hi:=at_lt hp
 rw [List.getElem?_eq_getElem hi] at hp
 simp only [Option.some.injEq] at hp
 rw [List.find?_eq_some_iff_getElem]
 refine ⟨by simpa using hn,i,hi,hp,fun q hq=>?_⟩
 have:=hb q _ hq (List.getElem?_eq_getElem (by omega))
 simpa using this
theorem find_no {ps:List (Nat × List UInt8)} {n:Nat} (hb:∀ q x,q < ps.length → ps[q]? = some x → x.1 ≠ n):ps.find? (fun p=>p.1 == n) = none:=by
 rw [List.find?_eq_none]
 intro x hx
 obtain ⟨q,hq,e⟩:=List.getElem_of_mem hx
 have:=hb q x hq (by rw [List.getElem?_eq_getElem hq,e])
 simpa using this
theorem part_len {d:List UInt8} {ps:List (Nat × List UInt8)} (h:partsD d = some ps) {p:Nat × List UInt8} (hp:p ∈ ps):p.2.length + 2 ≤ d.length:=by
 have h1:=parts_sum (show partsGo d.length 0 d = some ps from h)
 have key:∀ l:List (Nat × List UInt8),p ∈ l → 1000 * (p.2.length + 2) ≤ (l.map fun p=>1000 * (p.2.length + 2)).sum:=by
  intro l
  induction l with
  | nil=>intro h;cases h
  | cons x r ih =>
   intro h
   simp only [List.map_cons,List.sum_cons]
   rcases List.mem_cons.1 h with rfl | h
   ·omega
   ·have:=ih h;omega
 have:=key ps hp
 omega
def InSt (G:Txt) (val lst:List UInt8 → List UInt8 → Txt) (ps:List (Nat × List UInt8)) (fs:List FD) (ns:List Nat) (j:Nat) (S S':ByteArray) (i m:Nat) (th ok:Bool):Prop:=match th with
 | false=>ok = true ∧ S' = S ∧ ∀ q x,q < i → ps[q]? = some x → x.1 ≠ m
 | true=>MSt G val lst ps fs (j + 1) S'.toList ok ∧ (∃ q x,q < i ∧ ps[q]? = some x ∧ x.1 = m) ∧ MR S'.size ps ns (j + 1)
theorem rise_ne {ps:List (Nat × List UInt8)} (h:ps.Pairwise (fun p q=>p.1 < q.1)) {q i m:Nat} {x p:Nat × List UInt8} (hq:q < i) (hx:ps[q]? = some x) (hxm:x.1 = m) (hp:ps[i]? = some p):p.1 ≠ m:=by
 have h1:=at_lt hx
 have h2:=at_lt hp
 have:=List.pairwise_iff_getElem.1 h q i h1 h2 hq
 rw [List.getElem?_eq_getElem h1] at hx
 rw [List.getElem?_eq_getElem h2] at hp
 simp only [Option.some.injEq] at hx hp
 rw [hx,hp] at this
 omega
end Go.Proofs.YtopcgnjocklcoaaGreatDoor
