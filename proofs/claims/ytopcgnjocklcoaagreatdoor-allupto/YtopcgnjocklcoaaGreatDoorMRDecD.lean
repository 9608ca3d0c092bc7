/- Package courierref: Decode. -/
import Derived.Test.YtopcgnjocklcoaaGreatDoorKRDecVal
import Derived.Test.YtopcgnjocklcoaaGreatDoorMDecD
import Derived.Test.YtopcgnjocklcoaaGreatDoorMHouse
namespace Go.Proofs.YtopcgnjocklcoaaGreatDoor
open Go.RowKit
theorem rlevels {Y:List IV} (hY:YOk Y) (hX:Y.length ≤ 400) (hN:∀ y ∈ Y,y.it.fields.Pairwise fun f g=>f.number < g.number):∀ n,RRd Y n ∧ RLd Y n
 | 0=>⟨fun w lo la ll lc base dv d _ _ _ _ _ h=>absurd h (by omega),fun w lo la ll lc base dv d _ _ _ _ _ h=>absurd h (by omega)⟩
 | n + 1=>by
  obtain ⟨h1,h2⟩:=rlevels hY hX hN n
  exact ⟨read_any' (readMessage_any h1 h2 hY hN) hY hX,readList_any h1⟩
def DecAns (s base:ByteArray) (d:List UInt8) (E:Int) (t:List UInt8):Prop :=
 (E = 8 ∧ t = [] ∧ ∃ E0 P0,RefAns s E0 P0 ∧ E0 ≠ 0) ∨ ∃ Y,RefAns s 0 0 ∧ Sound s Y ∧
  ((E = 4 ∧ t = [] ∧ typeB Y base.toList = false) ∨ (typeB Y base.toList = true ∧
   ((E = 6 ∧ t = [] ∧ (64 < d.length ∨ ∀ u,(rdR Y (d.length + 1)).1 base.toList d = some u → 400 < u.length ∨ ∀ x,(encR Y 6).1 base.toList u ≠ some (x,[]))) ∨
    (E = 0 ∧ d.length ≤ 64 ∧ (rdR Y (d.length + 1)).1 base.toList d = some t ∧ t.length ≤ 400 ∧ ∃ x,(encR Y 6).1 base.toList t = some (x,[])))))
theorem Sound.rise {s:ByteArray} {Y:List IV} (h:Sound s Y) (hA:ProgAns s 0 0):∀ y ∈ Y,y.it.fields.Pairwise fun f g=>f.number < g.number:=by
 intro y hy
 have hq:=parse_eq s
 cases hp:(parseP s).1 with
 | none=>rw [hp] at hq;simp only at hq;have:=h.go;rw [hq] at this;cases this
 | some M =>
  rw [hp] at hq
  simp only at hq
  have hYM:Y.map (fun y=>y.it) = M.map toR:=by have:=h.go;rw [hq] at this;simpa using this.symm
  obtain ⟨Z,hZ⟩:∃ Z:List PIV,Z.map (fun x=>x.it) = M:=⟨M.map (fun p=>⟨p,.slice none 0 0,.slice none 0 0⟩),by rw [List.map_map];simp [Function.comp_def]⟩
  have hpl:=plain_of (X:=Z) hA (by rw [hp,hZ])
  have hm:y.it ∈ M.map toR:=by rw [← hYM];exact List.mem_map.2 ⟨y,hy,rfl⟩
  obtain ⟨p,hpm,e⟩:=List.mem_map.1 hm
  rw [← hZ] at hpm
  obtain ⟨z,hz,ez⟩:=List.mem_map.1 hpm
  have:=(hpl z hz).1
  rw [← e,← ez]
  show (z.it.fields.map toRF).Pairwise _
  rw [List.pairwise_map]
  exact this
set_option maxRecDepth 100000 in
set_option maxHeartbeats 2000000 in
theorem refDecode_any (s base:ByteArray) (dv:Value) (d:List UInt8) (w:World) (hs:s.size ≤ maxLen) (hd:RdC w dv d) (hdb:∀ k,dv.ownBlock = some k → k < w.heap.size) (hdl:d.length ≤ maxLen) (hE:Env w) (hO:∀ cb,w.heap.size ≤ cb → Own cb) (hA:∃ E P,ProgAns s E P) :
  Calls Tryz.prog 19 #[.string s,.string base,dv] w (PDecPost (DecAns s base d) w):=by
 unfold PDecPost
 unfold maxLen at hdl
 obtain ⟨da,dc,hdv,hdc⟩:=hd.2
 subst hdv
 have HE:=hid hE
 have HO:=hid hO
 have HD:=hid hd
 have HDB:=hid hdb
 have HPA:=hid hA
 clear hE hO hd hdb hA
 go_enter Tryz.func19,Tryz.ntmps19
 go_wp2_with fail
 refine (looked_any s base w hs).mono ?_;rintro e w1 ⟨la,ll,lc,E,rfl,hb1,hans⟩
 have hz1:=hb1.size
 rcases hans with ⟨rfl,hbad⟩ | ⟨Y,hra,hso,⟨rfl,ht⟩ | ⟨rfl,ht,hits⟩⟩
 ·have HB:=hid hbad
  clear hbad
  go_wp2_with fail
  go_ret2
  exact ⟨_,8,rfl,hb1,Or.inl ⟨rfl,emptyS,HB.out⟩⟩
 ·have HS:=hid hso
  have HR:=hid hra
  have HT:=hid ht
  clear hso hra ht
  go_wp2_with fail
  go_ret2
  exact ⟨_,4,rfl,hb1,Or.inr ⟨Y,HR.out,HS.out,Or.inl ⟨rfl,emptyS,HT.out⟩⟩⟩
 ·have HS:=hid hso
  have HR:=hid hra
  have HT:=hid ht
  have HI:=hid hits
  have HN:=hid (hso.rise (by
   obtain ⟨E0,P0,hP⟩:=HPA.out
   obtain ⟨e1,e2⟩:=check_agree hra hP
   rw [← e1,← e2] at hP;exact hP))
  clear hso hra ht hits
  by_cases h4:d.length ≤ 64
  ·have h4I:¬ (64:Int) < (d.length:Int):=by omega
   have h4D:decide ((64:Int) < (d.length:Int)) = false:=by simp;omega
   have HE1:=hid (HE.out.below hb1)
   have HD1:=hid (HD.out.later hb1)
   go_wp2_with fail
   refine ((rlevels HS.out.ok HS.out.len HN.out (d.length + 1)).1 w1 w.heap.size la ll lc base _ d HI.out HE1.out HD1.out (fun k hk=>Nat.lt_of_lt_of_le (HDB.out k hk) hz1) h4 (by omega) HT.out).mono ?_;rintro e w2 ⟨t,ok,rfl,hb2,hroom,hsp⟩
   have hbel2:=hb1.trans (hb2.mono hz1)
   have HSP:=hid hsp
   have htsz:=hroom.out
   clear hsp
   cases ok with
   | false =>
    go_wp2_with fail
    go_ret2
    exact ⟨_,6,rfl,hbel2,Or.inr ⟨Y,HR.out,HS.out,Or.inr ⟨HT.out,Or.inl ⟨rfl,emptyS,Or.inr (fun u hu=>by rw [show (rdR Y (d.length + 1)).1 base.toList d = none from HSP.out] at hu;cases hu)⟩⟩⟩⟩
   | true =>
    have HST:=hid (show (rdR Y (d.length + 1)).1 base.toList d = some t.toList from HSP.out)
    by_cases h400:t.size ≤ 400
    ·have h4I':¬ (400:Int) < (t.size:Int):=by omega
     have h4D':decide ((400:Int) < (t.size:Int)) = false:=by simp;omega
     have hbW:Below w.heap.size w (w2.alloc (.cells #[.slice la ll lc,.string t,.int .i64 0,.bool true,.int .i64 0] 68)):=hbel2.alloc hbel2.size _
     have HCW:=hid (show Cu (w2.alloc (.cells #[.slice la ll lc,.string t,.int .i64 0,.bool true,.int .i64 0] 68)) w2.heap.size (.slice la ll lc) t 0 true ((6:Int) - (6:Nat)) from ⟨seg_made w2 _ _,by omega⟩)
     have HIW:=hid ((HI.out.same hb2).same ((Below.refl _ _).alloc (Nat.le_refl _) _):Its (w2.alloc (.cells #[.slice la ll lc,.string t,.int .i64 0,.bool true,.int .i64 0] 68)) w.heap.size (.slice la ll lc) Y)
     have HEW:=hid (HE.out.below hbW)
     have hz2:=hbel2.size
     go_wp2_with fail
     generalize (w2.alloc (.cells #[.slice la ll lc,.string t,.int .i64 0,.bool true,.int .i64 0] 68)) = wW at *
     refine ((levels HS.out.ok HS.out.len 6 (Nat.le_refl _)).1 wW w2.heap.size w.heap.size la ll lc t 0 base HIW.out HCW.out HEW.out (HO.out _ hz2) h400 HT.out).mono ?_
     rintro e w3 ⟨a3,c3,out,k,ok3,rfl,hb3,hbut3,hc3,hge,hl3,hl3x,hsp3⟩
     rw [tail_zero] at hsp3
     have hble:=hbut3.below hbW hz2 (Nat.le_refl _)
     have HSP3:=hid hsp3
     have hle:=hc3.le
     have f2:=hc3.seg.cell (j:=2) rfl
     have f3:=hc3.seg.cell (j:=3) rfl
     simp only [Nat.zero_add] at f2 f3
     clear hb3 hsp3 hc3 hbut3 hl3
     cases ok3 with
     | false =>
      go_wp2_with fail
      go_ret2
      refine ⟨_,6,rfl,hble,Or.inr ⟨Y,HR.out,HS.out,Or.inr ⟨HT.out,Or.inl ⟨rfl,emptyS,Or.inr (fun u hu=>Or.inr (fun x hx=>?_))⟩⟩⟩⟩
      rw [HST.out] at hu
      cases hu
      rw [HSP3.out] at hx;cases hx
     | true =>
      by_cases hk:k = t.size
      ·subst hk
       have HSP2:=hid (show (encR Y 6).1 base.toList t.toList = some (out,[]) from by rw [HSP3.out];simp only [(tail_end (Nat.le_refl _)).2 rfl])
       go_wp2_with fail
       go_ret2
       exact ⟨t,0,rfl,hble,Or.inr ⟨Y,HR.out,HS.out,Or.inr ⟨HT.out,Or.inr ⟨rfl,h4,HST.out,by rw [size_list];exact h400,out,HSP2.out⟩⟩⟩⟩
      ·have hkI:¬ (k:Int) = (t.size:Int):=by omega
       have hkB:((k:Int) != (t.size:Int)) = true:=by simp;omega
       go_wp2_with fail
       go_ret2
       refine ⟨_,6,rfl,hble,Or.inr ⟨Y,HR.out,HS.out,Or.inr ⟨HT.out,Or.inl ⟨rfl,emptyS,Or.inr (fun u hu=>Or.inr (fun x hx=>?_))⟩⟩⟩⟩
       rw [HST.out] at hu
       cases hu
       rw [HSP3.out] at hx
       simp only [Option.some.injEq,Prod.mk.injEq] at hx
       exact hk ((tail_end hle).1 hx.2)
    ·have h4I':(400:Int) < (t.size:Int):=by omega
     go_wp2_with fail
     go_ret2
     refine ⟨_,6,rfl,hbel2,Or.inr ⟨Y,HR.out,HS.out,Or.inr ⟨HT.out,Or.inl ⟨rfl,emptyS,Or.inr (fun u hu=>Or.inl ?_)⟩⟩⟩⟩
     rw [HST.out] at hu
     cases hu
     rw [size_list];omega
  ·have h4I:(64:Int) < (d.length:Int):=by omega
   go_wp2_with fail
   go_ret2
   exact ⟨_,6,rfl,hb1,Or.inr ⟨Y,HR.out,HS.out,Or.inr ⟨HT.out,Or.inl ⟨rfl,emptyS,Or.inl (by omega)⟩⟩⟩⟩
theorem decode_agree {s base:ByteArray} {d:List UInt8} {E E':Int} {t t':List UInt8} (hp:PDecAns s base d E t) (hr:DecAns s base d E' t'):E = E' ∧ t = t':=by
 rcases hp with ⟨e1,e2,E0,P0,hA,hne⟩ | ⟨X,hA,h4,hX,hp⟩
 ·rcases hr with ⟨f1,f2,_⟩ | ⟨Y,hR,_⟩
  ·exact ⟨by rw [e1,f1],by rw [e2,f2]⟩
  ·exact absurd (check_agree hR hA).1.symm hne
 ·rcases hr with ⟨f1,f2,E0,P0,hR,hne⟩ | ⟨Y,hR,hS,hr⟩
  ·exact absurd (check_agree hR hA).1 hne
  ·have hq:=parse_eq s
   rw [hX] at hq
   simp only at hq
   have hT:Twin X Y:=by
    have:=hS.go
    rw [hq] at this
    unfold Twin
    simp only [Option.some.injEq] at this
    rw [← this,List.map_map];rfl
   have hF:=facts_of hX
   have hty:=ty_twin hT hF.shapes
   have hB:=typeB_has hT base
   have hO:=tyOk_of h4 hX (plain_of hA hX)
   have hsame:∀ u,(decP X 6).1 base.toList d = some u ↔ (rdR Y (d.length + 1)).1 base.toList d = some u ∧ ∃ x,(encR Y 6).1 base.toList u = some (x,[]):=fun u=>by
    show _ ↔ (rdE (tyR Y) (d.length + 1)).1 _ _ = _ ∧ ∃ x,(encE wideC wideC (tyR Y) 6).1 _ _ = _
    rw [hty];exact dec_same hO 6 base.toList d u
   rcases hp with ⟨e1,e2,hp⟩ | ⟨hp,hp2⟩
   ·rcases hr with ⟨f1,f2,_⟩ | ⟨hr,_⟩
    ·exact ⟨by rw [e1,f1],by rw [e2,f2]⟩
    ·rw [hB,hp] at hr;cases hr
   ·rcases hr with ⟨f1,f2,hr⟩ | ⟨hr,hr2⟩
    ·rw [hB,hp] at hr;cases hr
    ·rcases hp2 with ⟨e1,e2,hno⟩ | ⟨e1,hd,hv,hl⟩
     ·rcases hr2 with ⟨f1,f2,_⟩ | ⟨f1,hd2,hv2,hl2,x,hx⟩
      ·exact ⟨by rw [e1,f1],by rw [e2,f2]⟩
      ·exfalso
       rcases hno with h | h
       ·omega
       ·have:=h t' ((hsame t').2 ⟨hv2,x,hx⟩);omega
     ·obtain ⟨hv3,x3,hx3⟩:=(hsame t).1 hv
      rcases hr2 with ⟨f1,f2,hno⟩ | ⟨f1,hd2,hv2,hl2,x,hx⟩
      ·exfalso
       rcases hno with h | h
       ·omega
       ·rcases h t hv3 with h | h
        ·omega
        ·exact h x3 hx3
      ·rw [hv3] at hv2
       simp only [Option.some.injEq] at hv2
       exact ⟨by rw [e1,f1],hv2⟩
theorem PDecAns.range {s base:ByteArray} {d:List UInt8} {E:Int} {t:List UInt8} (h:PDecAns s base d E t):E = 0 ∨ E = 4 ∨ E = 6 ∨ E = 8:=by
 rcases h with ⟨e,_⟩ | ⟨X,_,_,_,⟨e,_⟩ | ⟨_,⟨e,_⟩ | ⟨e,_⟩⟩⟩ <;> omega
end Go.Proofs.YtopcgnjocklcoaaGreatDoor
namespace Go.Proofs.YtopcgnjocklcoaaGreatDoor
open Go.RowKit
theorem Lent.rdC {w:World} {lo:Nat} {v:Value} {L:List UInt8} (h:Lent w lo v L):RdC w v L:=by
 refine ⟨h.rd,?_⟩
 rcases h with ⟨g,c,rfl,hB⟩ | ⟨rfl,rfl⟩
 ·refine ⟨_,_,rfl,?_⟩
  rcases hB.2 with ⟨h1,_⟩ | ⟨g',cap,cur,hv,_,_,hn,_⟩
  ·simp at h1
  ·have e:c = cap:=by simpa using (Value.slice.inj hv).2.2
   rw [List.length_append,List.length_singleton] at hn
   omega
 ·exact ⟨none,0,rfl,by simp⟩
theorem conv_bytes2 (w:World) (s:ByteArray):∃ a c w',(convert 9 39 (.string s)).run Tryz.prog w = .ok (.slice (some a) s.size c) w' ∧ Hid (RdC w' (.slice (some a) s.size c) s.toList) ∧ Hid (∀ k,(Value.slice (some a) s.size c).ownBlock = some k → k < w'.heap.size) ∧ Hid (Below w.heap.size w w'):=by
 obtain ⟨a,c,w',h1,h2,h3⟩:=conv_bytes w s
 have h4:=Lib.run_convert_string_bytes (P:=Tryz.prog) w 9 39 5 s Tryz.underlying9 Tryz.underlying39 Tryz.underlying5
 rw [h1] at h4
 simp only [Result.ok.injEq,Value.slice.injEq,Option.some.injEq,true_and] at h4
 obtain ⟨⟨ha,hc⟩,hw⟩:=h4
 have hsl:s.toList.length = s.size:=by rw [ByteArray.toList_eq];rfl
 refine ⟨a,c,w',h1,hid ⟨h2.out,_,_,by rw [hsl],by rw [hsl,hc];exact grownCap_ge w s.size 0 _⟩,hid (fun k hk=>?_),h3⟩
 have e:a.block = k:=by simpa [Value.ownBlock] using hk
 rw [← e,ha,hw,Lib.bytesWorld_size]
 show w.heap.size < _
 omega
set_option maxRecDepth 100000 in
set_option maxHeartbeats 4000000 in
theorem stepDecode (w:World) (B lo:Nat) (dv ev bv:Value) (X:List Ent) (Ds:List DD) (hI:Law w B lo dv ev bv X Ds) (oA oB oC oD:Int) (S T V:ByteArray) (hS:S.size ≤ maxLen) (hV:V.size ≤ 100000000) (hE:Env w) (hO:∀ cb,w.heap.size ≤ cb → Own cb) :
  Calls Tryz.prog 9 #[.pointer (some ⟨B,0,none⟩),.agg #[.int .i64 3,.int .i64 oA,.int .i64 oB,.int .i64 oC,.int .i64 oD,.string S,.string T,.string V]] w fun e w'=>e = .returned (.bool true) ∧ Law w' B lo dv ev bv X Ds ∧ Below w.heap.size w w':=by
 have hBw:=hI.B_lt
 have hVl:V.toList.length = V.size:=by rw [ByteArray.toList_eq];rfl
 have HI:=hid hI
 have HE:=hid hE
 have HO:=hid hO
 clear hI hE hO
 have hb0:Below w.heap.size w (w.alloc (.cells #[.int .i64 3,.int .i64 oA,.int .i64 oB,.int .i64 oC,.int .i64 oD,.string S,.string T,.string V] 34)):=(Below.refl _ _).alloc (Nat.le_refl _) _
 obtain ⟨w0,hw0⟩:∃ w0,w0 = w.alloc (.cells #[.int .i64 3,.int .i64 oA,.int .i64 oB,.int .i64 oC,.int .i64 oD,.string S,.string T,.string V] 34):=⟨_,rfl⟩
 have hop:w0.heap[w.heap.size]? = some (.cells #[.int .i64 3,.int .i64 oA,.int .i64 oB,.int .i64 oC,.int .i64 oD,.string S,.string T,.string V] 34 (0,0)):=by rw [hw0];exact heap_alloc_new w _
 have hz0:w0.heap.size = w.heap.size + 1:=by rw [hw0];simp
 rw [← hw0] at hb0
 have HOP:=hid hop
 have HW0:=hid hw0
 clear hop
 go_enter Tryz.func9,Tryz.ntmps9
 go_wp2_with fail
 rw [← HW0.out]
 refine (lent_any _ _ _ _ _ _ _ _ _ (by omega)).mono ?_;rintro e w1 ⟨v1,rfl,hL1,hbel1⟩
 have hz1:=hbel1.size
 have HOP1:=hid ((hbel1.block _ (by omega)).trans HOP.out)
 obtain ⟨d0,d1,d2,d3,d4,d5,d6,d7⟩:=op_cells HOP1.out
 have hbel01:=hb0.trans (hbel1.mono (by omega))
 have HL1:=hid hL1
 obtain ⟨va,vn,vc,hv1⟩:∃ a n c,v1 = .slice a n c:=by obtain ⟨a,c,e⟩:=hL1.rd.slice;exact ⟨a,_,c,e⟩
 subst hv1
 clear hL1 hw0
 go_wp2_with fail
 refine (pDecode_any S T _ V.toList w1 hS (HE.out.below hbel01) HL1.out.rdC (by unfold maxLen;omega)).mono ?_;rintro e w2 ⟨t2,E2,rfl,hbel2,hans2⟩
 have hz2:=hbel2.size
 have HOP2:=hid ((hbel2.block _ (by omega)).trans HOP1.out)
 have HL2:=hid (HL1.out.turn (w':=w2) (fun k hk=>hbel2.block k (HL1.out.lt k hk).2))
 have HV1b:=hid (HL1.out.lt)
 have hbel02:=hbel01.trans (hbel2.mono (by omega))
 have HAN:=hid hans2
 have hrg:=hans2.range
 clear d0 d1 d2 d3 d4 d5 d6 d7 hans2
 obtain ⟨d0,d1,d2,d3,d4,d5,d6,d7⟩:=op_cells HOP2.out
 go_wp2_with fail
 refine (back_any _ _ _ _ _ _ _ _ _ _ V HL2.out (by omega)).mono ?_;rintro e w3 ⟨rfl,hT3⟩
 have hz3:=hT3.size
 have hbel3:Below w0.heap.size w2 w3:=hT3.below (by omega) (fun k hk hs=>by have:=(HV1b.out k hs).1;omega)
 have HOP3:=hid ((hbel3.block _ (by omega)).trans HOP2.out)
 have hbel03:Below w.heap.size w w3:=hbel02.trans (hbel3.mono (by omega))
 clear d0 d1 d2 d3 d4 d5 d6 d7 hT3
 obtain ⟨d0,d1,d2,d3,d4,d5,d6,d7⟩:=op_cells HOP3.out
 obtain ⟨ca,cc,w4,hconv,HR4,HK4,HB4⟩:=conv_bytes2 w3 V
 have hz4:=HB4.out.size
 have hbel04:=hbel03.trans (HB4.out.mono (by omega))
 go_wp2_with fail
 refine (refDecode_any S T _ V.toList w4 hS HR4.out HK4.out (by unfold maxLen;omega) (HE.out.below hbel04) (fun cb h=>HO.out cb (by omega)) (by
  rcases HAN.out with ⟨_,_,E0,P0,h,_⟩ | ⟨_,h,_⟩
  ·exact ⟨E0,P0,h⟩
  ·exact ⟨0,0,h⟩)).mono ?_;rintro e w5 ⟨t5,E5,rfl,hbel5,hans5⟩
 obtain ⟨rfl,htt⟩:=decode_agree HAN.out hans5
 have hbel05:Below w.heap.size w w5:=hbel04.trans (hbel5.mono (by omega))
 have hteq:(t2.toList == t5.toList) = true:=by rw [htt];simp
 have HI5:=hid (HI.out.below hbel05)
 clear hans5 htt hconv d0 d1 d2 d3 d4 d5 d6 d7
 rcases hrg with rfl | rfl | rfl | rfl
 all_goals
  go_wp2_with fail
  go_ret
  exact ⟨rfl,HI5.out,hbel05⟩
end Go.Proofs.YtopcgnjocklcoaaGreatDoor
