/- A schema that may be: its fields' numbers and names differ, its names are of letters and digits (no walk). -/
import Derived.Test.YtdgcamlmjmnpeaaGreatDoorMDecA
import Derived.Test.YtdgcamlmjmnpeaaGreatDoorMPEncV
import Derived.Test.YtdgcamlmjmnpeaaGreatDoorMDecM
namespace Go.Proofs.YtdgcamlmjmnpeaaGreatDoor
theorem rise_pair {fs:List RField} (h:∀ k (hk:k < fs.length),0 < k → fs[k - 1].number < fs[k].number):fs.Pairwise (fun f g=>f.number < g.number):=by
 rw [List.pairwise_iff_getElem]
 intro i j hi hj hij
 induction j with
 | zero=>omega
 | succ j ih =>
  have h1:=h (j + 1) hj (by omega)
  simp only [Nat.add_sub_cancel] at h1
  rcases Nat.lt_or_ge i j with hlt | hge
  ·have:=ih (by omega) hlt
   omega
  ·have:i = j:=by omega
   subst this
   exact h1
theorem fieldPl_nil {Y:List IV} {fs:List RField} (h:∀ k,k < fs.length → fieldPl Y fs k = []):fs.Pairwise (fun f g=>f.number < g.number) ∧ fs.Pairwise (fun f g=>f.name.toList ≠ g.name.toList):=by
 have hk:∀ k (hk:k < fs.length),numF fs k = false ∧ nameF fs k k = false:=fun k hk=>by
  have:=h k hk
  unfold fieldPl at this
  rw [List.getElem?_eq_getElem hk] at this
  have h1:=(List.append_eq_nil_iff.1 (List.append_eq_nil_iff.1 this).1)
  constructor
  ·cases e:numF fs k with
   | false=>rfl
   | true=>rw [e] at h1;simp [opt1] at h1
  ·cases e:nameF fs k k with
   | false=>rfl
   | true=>rw [e] at h1;simp [opt1] at h1
 refine ⟨rise_pair fun k hl h0=>?_,?_⟩
 ·have:=(hk k hl).1
  unfold numF at this
  rw [List.getElem?_eq_getElem hl,List.getElem?_eq_getElem (show k - 1 < fs.length by omega)] at this
  simp only [Bool.and_eq_false_iff,decide_eq_false_iff_not] at this
  omega
 ·rw [List.pairwise_iff_getElem]
  intro i j hi hj hij e
  have:=(hk j hj).2
  unfold nameF at this
  rw [List.getElem?_eq_getElem hj] at this
  simp only [List.any_eq_false] at this
  refine this fs[i] ?_ (by simpa using e)
  rw [List.mem_iff_getElem]
  exact ⟨i,by rw [List.length_take];omega,by rw [List.getElem_take]⟩
theorem fields_plain {s:ByteArray} {X:List PIV} (h:(parseP s).1 = some (X.map (fun x=>x.it))) (hno:∀ a,¬ PF X a):∀ x ∈ X,x.it.fields.Pairwise (fun f g=>f.number < g.number) ∧ x.it.fields.Pairwise (fun f g=>f.name.toList ≠ g.name.toList):=by
 intro x hx
 obtain ⟨Y,hY⟩:∃ Y:List IV,Y.map (fun y=>y.it) = X.map (fun x=>toR x.it):=⟨X.map (fun x=>⟨toR x.it,.slice none 0 0,.slice none 0 0,.slice none 0 0,.slice none 0 0,.slice none 0 0⟩),by rw [List.map_map];rfl⟩
 have hT:Twin X Y:=hY
 have hF:=facts_of h
 obtain ⟨j,hj,ex⟩:=List.getElem_of_mem hx
 obtain ⟨y,hy,ey⟩:=hT.atP (show X[j]? = some x by rw [List.getElem?_eq_getElem hj,ex])
 have hnil:faultPl Y j y.it = []:=by
  cases hc:faultPl Y j y.it with
  | nil=>rfl
  | cons a r=>exact absurd ((fault_eq hT hF a).2 ⟨j,y,hy,by rw [hc];simp⟩) (hno a)
 unfold faultPl at hnil
 have h3:=(List.append_eq_nil_iff.1 (List.append_eq_nil_iff.1 (List.append_eq_nil_iff.1 hnil).1).1).2
 rw [List.flatMap_eq_nil_iff] at h3
 obtain ⟨h4,h5⟩:=fieldPl_nil (Y:=Y) (fs:=y.it.fields) (fun k hk=>h3 k (List.mem_range.2 hk))
 rw [ey] at h4 h5
 have e:(toR x.it).fields = x.it.fields.map toRF:=rfl
 rw [e,List.pairwise_map] at h4 h5
 exact ⟨h4,h5⟩
def Plain (X:List PIV):Prop:=∀ x ∈ X,x.it.fields.Pairwise (fun f g=>f.number < g.number) ∧ x.it.fields.Pairwise (fun f g=>f.name.toList ≠ g.name.toList)
theorem plain_of {s:ByteArray} {X:List PIV} (hA:ProgAns s 0 0) (h:(parseP s).1 = some (X.map (fun x=>x.it))):Plain X:=by
 rcases hA with ⟨_,e,_⟩ | ⟨_,⟨_,e,_⟩ | ⟨Z,hZ,⟨m,_,_,e,_⟩ | ⟨hno,_,_⟩⟩⟩
 ·omega
 ·omega
 ·omega
 ·intro x hx
  have hm:x.it ∈ Z.map (fun x=>x.it):=by
   rw [hZ] at h
   simp only [Option.some.injEq] at h
   rw [h];exact List.mem_map.2 ⟨x,hx,rfl⟩
  obtain ⟨z,hz,e⟩:=List.mem_map.1 hm
  have:=fields_plain hZ hno z hz
  rw [e] at this
  exact this
theorem tyP_cases {X:List PIV} {b:List UInt8} {t:TD} (h:tyP X b = some t):∃ x ∈ X,t = (if x.it.kind == 0 then Sum.inr (x.it.fields.map fdP) else Sum.inl (x.it.names.map (fun t=>t.text.toList))):=by
 unfold tyP at h
 cases hx:X[(pFindI X b).toNat]? with
 | none=>rw [hx] at h;cases h
 | some x =>
  rw [hx] at h
  simp only at h
  split at h
  ·cases h
  ·refine ⟨x,List.mem_of_getElem? hx,?_⟩
   split at h <;> (simp only [Option.some.injEq] at h;rw [← h];simp_all)
theorem tyOk_of {s:ByteArray} {X:List PIV} (hs:s.size ≤ 400) (h:(parseP s).1 = some (X.map (fun x=>x.it))) (hno:Plain X):TyOk (tyP X):=by
 have src:∀ x ∈ X,ISrc s x.it:=fun x hx=>parseP_src h _ (List.mem_map.2 ⟨x,hx,rfl⟩)
 have nm:∀ t,NSrc s t → t.text.toList ≠ [] ∧ ∀ c ∈ t.text.toList,nameC c = true:=fun t ht=>⟨fun e=>by
  have h1:=(ht.size hs).1
  rw [list_nil.1 e] at h1
  omega,ht.1.letters (nameOk_kind ht.2)⟩
 refine ⟨fun b ns hb n hn=>?_,fun b fs hb f hf=>?_,fun b fs hb=>?_⟩
 ·obtain ⟨x,hx,e⟩:=tyP_cases hb
  split at e
  ·cases e
  ·simp only [Sum.inl.injEq] at e
   subst e
   obtain ⟨u,hu,rfl⟩:=List.mem_map.1 hn
   exact nm u ((src x hx).n u hu)
 ·obtain ⟨x,hx,e⟩:=tyP_cases hb
  split at e
  ·simp only [Sum.inr.injEq] at e
   subst e
   obtain ⟨u,hu,rfl⟩:=List.mem_map.1 hf
   obtain ⟨t,ht,e2⟩:=((src x hx).f u hu).name
   show u.name.toList ≠ [] ∧ ∀ c ∈ u.name.toList,nameC c = true
   rw [e2]
   exact nm t ht
  ·cases e
 ·obtain ⟨x,hx,e⟩:=tyP_cases hb
  split at e
  ·simp only [Sum.inr.injEq] at e
   subst e
   rw [List.pairwise_map]
   exact (hno x hx).2
  ·cases e
end Go.Proofs.YtdgcamlmjmnpeaaGreatDoor
namespace Go.Proofs.YtdgcamlmjmnpeaaGreatDoor
open Go.RowKit
def PDecA (X:List PIV) (base:ByteArray) (d:List UInt8) (E:Int) (s:List UInt8):Prop :=
 (E = 4 ∧ s = [] ∧ hasB X base = false) ∨ (hasB X base = true ∧
  ((E = 6 ∧ s = [] ∧ (64 < d.length ∨ ∀ t,(decP X 6).1 base.toList d = some t → 400 < t.length)) ∨ (E = 0 ∧ d.length ≤ 64 ∧ (decP X 6).1 base.toList d = some s ∧ s.length ≤ 400)))
def PDecPost (A:Int → List UInt8 → Prop) (w:World) (e:Ending) (w':World):Prop:=∃ (t:ByteArray) (E:Int),e = .returned (.tuple #[.string t,.int .i64 E]) ∧ Below w.heap.size w w' ∧ A E t.toList
theorem msgD_opens {X:List PIV} {n:Nat}:∀ fs d s,dmspec X n fs d = some s → ∃ r,s = 123 :: r:=by
 intro fs d s h
 cases n with
 | zero=>cases h
 | succ n =>
  have h':msgD (decP X n).1 (decP X n).2 fs d = some s:=h
  unfold msgD at h'
  obtain ⟨ps,_,h2⟩:=Option.bind_eq_some_iff.1 h'
  obtain ⟨o,_,rfl⟩:=Option.map_eq_some_iff.1 h2
  exact ⟨o,rfl⟩
theorem emptyS:(ByteArray.mk #[]).toList = []:=by rw [ByteArray.toList_eq]
set_option maxRecDepth 100000 in
set_option maxHeartbeats 2000000 in
theorem vDecode_any (w:World) (lo:Nat) (la:Option Addr) (ll lc:Nat) (X:List PIV) (base:ByteArray) (dv:Value) (d:List UInt8) (hI:PIts w lo (.slice la ll lc) X) (hX:XOk X) (hP:Plain X) (hT:TyOk (tyP X)) (hE:Env w) (hd:RdC w dv d) (hdl:d.length ≤ maxLen) :
  Calls Tryz.prog 14 #[.slice la ll lc,.string base,dv] w (PDecPost (PDecA X base d) w):=by
 unfold PDecPost
 unfold maxLen at hdl
 obtain ⟨da,dc,hdv⟩:∃ a c,dv = .slice a d.length c:=hd.1.slice
 subst hdv
 have HI:=hid hI
 have HX:=hid hX
 have HE:=hid hE
 have HD:=hid hd
 have HP:=hid hP
 have HT:=hid hT
 clear hI hX hE hd hP hT
 go_enter Tryz.func14,Tryz.ntmps14
 go_wp2_with fail
 refine (hasBase_any w lo _ X base HI.out HX.out.nms HX.out.len).mono ?_;rintro e w1 ⟨rfl,hb1⟩
 have hz1:=hb1.size
 cases hh:hasB X base with
 | false =>
  have HH:=hid hh
  clear hh
  go_wp2_with fail
  go_ret2
  exact ⟨_,4,rfl,hb1,Or.inl ⟨rfl,emptyS,HH.out⟩⟩
 | true =>
  have HH:=hid hh
  clear hh
  by_cases h4:d.length ≤ 64
  ·have h4I:¬ (64:Int) < (d.length:Int):=by omega
   have h4D:decide ((64:Int) < (d.length:Int)) = false:=by simp;omega
   have hbW:Below w1.heap.size w1 (w1.alloc (.cells #[.slice la ll lc,.pointer none,.slice none 0 0] 68)):=(Below.refl _ _).alloc (Nat.le_refl _) _
   have HDW:=hid (show DcT (w1.alloc (.cells #[.slice la ll lc,.pointer none,.slice none 0 0] 68)) w1.heap.size w1.heap.size (.slice la ll lc) (.slice none 0 0) [] from ⟨⟨none,Or.inl rfl,heap_alloc_new w1 _⟩,World.ownsRow_nil _ _ _ _⟩)
   have HI1:=hid (HI.out.below hb1)
   have HE1:=hid (HE.out.below hb1)
   have HD1:=hid (HD.out.later hb1)
   have hzW:=hbW.size
   go_wp2_with fail
   generalize (w1.alloc (.cells #[.slice la ll lc,.pointer none,.slice none 0 0] 68)) = wW at *
   refine ((dlevels HX.out (fun x hx=>(HP.out x hx).1.imp (fun h=>by omega)) 6 (Nat.le_refl _)).1 w1 wW w1.heap.size lo la ll lc _ _ [] d base HI1.out HD1.out HE1.out hbW (Nat.le_refl _) HDW.out h4 ⟨by simp;omega⟩).mono ?_
   rintro e w2 ⟨ok,v2,S,rfl,hdc,hdf,hSl,hsp⟩
   rw [List.nil_append] at hdc
   have hb12:Below w1.heap.size w1 w2:=hbW.trans (hdf.below (Nat.le_refl _) hzW)
   have hb2:=hb1.trans (hb12.mono hz1)
   have HDC:=hid hdc
   have HSP:=hid hsp
   clear hdc hsp hdf
   cases ok with
   | false =>
    go_wp2_with fail
    go_ret2
    exact ⟨_,6,rfl,hb2,Or.inr ⟨HH.out,Or.inl ⟨rfl,emptyS,Or.inr (fun t ht=>by rw [show (decP X 6).1 base.toList d = none from HSP.out] at ht;cases ht)⟩⟩⟩
   | true =>
    have HS:=hid (show (decP X 6).1 base.toList d = some S from HSP.out)
    have HN:=hid (show S ≠ [] from by
     have h1:=HS.out
     rw [decP_val] at h1
     have h2:=valD_opens HT.out (fun fs d s h=>msgD_opens fs d s h) h1
     intro e
     rw [e] at h2
     obtain ⟨c,r,e2,_⟩:=h2
     cases e2)
    go_wp2_with fail
    refine (bLen_any w2 _ _ _ _ S HDC.out).mono ?_;rintro e w3 ⟨rfl,rfl⟩
    by_cases h400:S.length ≤ 400
    ·have h4I':¬ (400:Int) < (S.length:Int):=by omega
     have h4D':decide ((400:Int) < (S.length:Int)) = false:=by simp;omega
     go_wp2_with fail
     refine (bString_any w3 _ _ _ _ S HDC.out HN.out).mono ?_;rintro e w4 ⟨rfl,hb34⟩
     have hb4:=hb2.trans (hb34.mono hz1)
     obtain ⟨t,HTT⟩:∃ t,Hid (ByteArray.mk S.toArray = t):=⟨_,hid rfl⟩
     rw [HTT.out]
     go_wp2_with fail
     go_ret2
     have htl:t.toList = S:=by rw [← HTT.out,ByteArray.toList_eq]
     exact ⟨t,0,rfl,hb4,Or.inr ⟨HH.out,Or.inr ⟨rfl,h4,by rw [htl];exact HS.out,by rw [htl];exact h400⟩⟩⟩
    ·have h4I':(400:Int) < (S.length:Int):=by omega
     go_wp2_with fail
     go_ret2
     exact ⟨_,6,rfl,hb2,Or.inr ⟨HH.out,Or.inl ⟨rfl,emptyS,Or.inr (fun t ht=>by rw [HS.out] at ht;cases ht;omega)⟩⟩⟩
  ·have h4I:(64:Int) < (d.length:Int):=by omega
   go_wp2_with fail
   go_ret2
   exact ⟨_,6,rfl,hb1,Or.inr ⟨HH.out,Or.inl ⟨rfl,emptyS,Or.inl (by omega)⟩⟩⟩
def PDecAns (s base:ByteArray) (d:List UInt8) (E:Int) (t:List UInt8):Prop :=
 (E = 8 ∧ t = [] ∧ ∃ E0 P0,ProgAns s E0 P0 ∧ E0 ≠ 0) ∨ ∃ X,ProgAns s 0 0 ∧ s.size ≤ 400 ∧ (parseP s).1 = some (X.map (fun x=>x.it)) ∧ PDecA X base d E t
set_option maxRecDepth 100000 in
set_option maxHeartbeats 2000000 in
theorem pDecode_any (s base:ByteArray) (dv:Value) (d:List UInt8) (w:World) (hs:s.size ≤ maxLen) (hE:Env w) (hd:RdC w dv d) (hdl:d.length ≤ maxLen) :
  Calls Tryz.prog 9 #[.string s,.string base,dv] w (PDecPost (PDecAns s base d) w):=by
 have HE:=hid hE
 have HD:=hid hd
 clear hE
 unfold PDecPost
 obtain ⟨da,dc,hdv⟩:∃ a c,dv = .slice a d.length c:=hd.1.slice
 subst hdv
 clear hd
 go_enter Tryz.func9,Tryz.ntmps9
 go_wp2_with fail
 refine (read_any s w HE.out.v hs).mono ?_;rintro e w1 ⟨lv,la,ll,lc,E,P,rfl,rfl,hb1,hA,hR⟩
 have hz1:=hb1.size
 by_cases hE0:E = 0
 ·subst hE0
  obtain ⟨h4,rfl⟩:=hA.zero
  obtain ⟨X,hp,hits,hl,_⟩:=hR rfl
  have HA:=hid hA
  have HP:=hid hp
  have HXO:=hid (XOk.of h4 hp hl)
  have HPL:=hid (plain_of hA hp)
  have HTO:=hid (tyOk_of h4 hp (plain_of hA hp))
  have HI:=hid hits
  clear hA hR hp hits
  go_wp2_with fail
  refine (vDecode_any w1 _ la ll lc X base _ d HI.out HXO.out HPL.out HTO.out (HE.out.below hb1) (HD.out.later hb1) hdl).mono ?_
  rintro e w2 ⟨t2,E2,rfl,hb2,hans⟩
  have HAN:=hid (show PDecAns s base d E2 t2.toList from Or.inr ⟨X,HA.out,h4,HP.out,hans⟩)
  have hb3:=hb1.trans (hb2.mono hz1)
  clear hans
  go_wp2_with fail
  go_ret2
  exact ⟨t2,E2,rfl,hb3,HAN.out⟩
 ·have HA:=hid (show ∃ E0 P0,ProgAns s E0 P0 ∧ E0 ≠ 0 from ⟨E,P,hA,hE0⟩)
  obtain ⟨hr1,hr2⟩:=hA.range
  have hEB:(E != 0) = true:=by simpa using hE0
  clear hA hR
  go_wp2_with fail
  go_ret2
  exact ⟨_,8,rfl,hb1,Or.inl ⟨rfl,emptyS,HA.out⟩⟩
end Go.Proofs.YtdgcamlmjmnpeaaGreatDoor
