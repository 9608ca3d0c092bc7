/- A step of kind KFrame. -/
import Derived.Test.YtopcgnjocklcoaaGreatDoorMHouse
import Derived.Test.YtopcgnjocklcoaaGreatDoorMFrB
import Derived.Deep.RegionWith
import Derived.Deep.DeepCutAuto
namespace Go.Proofs.YtopcgnjocklcoaaGreatDoor
open Go.RowKit
set_option maxRecDepth 100000 in
set_option maxHeartbeats 4000000 in
theorem stepFrame (w:World) (B lo:Nat) (dv ev bv:Value) (X:List Ent) (Ds:List DD) (hI:Law w B lo dv ev bv X Ds) (hX:X.length ≤ 99999999) (oA oB oC oD:Int) (S T V:ByteArray) (hV:V.size ≤ 100000000) :
  Calls Tryz.prog 9 #[.pointer (some ⟨B,0,none⟩),.agg #[.int .i64 4,.int .i64 oA,.int .i64 oB,.int .i64 oC,.int .i64 oD,.string S,.string T,.string V]] w fun e w'=>e = .returned (.bool true) ∧ ∃ bv' x,Law w' B lo dv ev bv' (X ++ [x]) Ds ∧ Below lo w w':=by
 have hBw:=hI.B_lt
 have hlow:=hI.low.1
 have hVl:V.toList.length = V.size:=by rw [ByteArray.toList_eq];rfl
 have HI:=hid hI
 clear hI
 have hb0:Below w.heap.size w (w.alloc (.cells #[.int .i64 4,.int .i64 oA,.int .i64 oB,.int .i64 oC,.int .i64 oD,.string S,.string T,.string V] 34)):=(Below.refl _ _).alloc (Nat.le_refl _) _
 obtain ⟨w0,hw0⟩:∃ w0,w0 = w.alloc (.cells #[.int .i64 4,.int .i64 oA,.int .i64 oB,.int .i64 oC,.int .i64 oD,.string S,.string T,.string V] 34):=⟨_,rfl⟩
 have hop:w0.heap[w.heap.size]? = some (.cells #[.int .i64 4,.int .i64 oA,.int .i64 oB,.int .i64 oC,.int .i64 oD,.string S,.string T,.string V] 34 (0,0)):=by rw [hw0];exact heap_alloc_new w _
 have hz0:w0.heap.size = w.heap.size + 1:=by rw [hw0];simp
 rw [← hw0] at hb0
 have HOP:=hid hop
 have HW0:=hid hw0
 clear hop
 go_enter Tryz.func9,Tryz.ntmps9
 go_wp2_with fail
 rw [← HW0.out]
 refine (lent_any _ _ _ _ _ _ _ _ _ (by omega)).mono ?_;rintro e w1 ⟨v1,rfl,hL1,hbel1⟩
 have hz1:=hbel1.size
 have HOP1:=hid ((hbel1.block _ (by omega)).trans HOP.out)
 obtain ⟨d0,d1,d2,d3,d4,d5,d6,d7⟩:=op_cells HOP1.out
 have hbel01:=hb0.trans (hbel1.mono (by omega))
 have HL1:=hid hL1
 obtain ⟨va,vn,vc,hv1⟩:∃ a n c,v1 = .slice a n c:=by obtain ⟨a,c,e⟩:=hL1.rd.slice;exact ⟨a,_,c,e⟩
 subst hv1
 clear hL1 hw0
 go_wp2_with fail
 refine (frame_any _ _ V.toList HL1.out.rd (by unfold maxLen;omega)).mono ?_;rintro e w2 ⟨hbel2,hq2⟩
 have hz2:=hbel2.size
 have HOP2:=hid ((hbel2.block _ (by omega)).trans HOP1.out)
 have HL2:=hid (HL1.out.turn (w':=w2) (fun k hk=>hbel2.block k (HL1.out.lt k hk).2))
 have hv1b:∀ k,(Value.slice va vn vc).ownBlock = some k → w0.heap.size ≤ k ∧ k < w1.heap.size:=HL1.out.lt
 have HV1b:=hid hv1b
 have hbel02:=hbel01.trans (hbel2.mono (by omega))
 clear d0 d1 d2 d3 d4 d5 d6 d7 hv1b
 obtain ⟨d0,d1,d2,d3,d4,d5,d6,d7⟩:=op_cells HOP2.out
 by_cases hok:okB V.toList.length = true
 ·have HO:=hid hok
  rw [hok] at hq2
  obtain ⟨la,lc,rfl,hB2⟩:=hq2
  have hfl:=frameP_len sumB_len V.toList
  have h120:=(okB_iff.1 hok).2
  obtain ⟨F,HF⟩:∃ F,Hid (frameP sumB V.toList = F):=⟨_,hid rfl⟩
  rw [HF.out] at hB2 hfl ⊢
  have hFl:F.length ≤ 125:=by omega
  have HB2:=hid hB2
  clear hok hB2 hfl
  go_wp2_with fail
  refine (back_any _ _ _ _ _ _ _ _ _ _ V HL2.out (by omega)).mono ?_;rintro e w3 ⟨rfl,hT3⟩
  have hz3:=hT3.size
  have hbel3:Below w0.heap.size w2 w3:=hT3.below (by omega) (fun k hk hs=>by have:=(HV1b.out k hs).1;omega)
  have HOP3:=hid ((hbel3.block _ (by omega)).trans HOP2.out)
  have HB3:=hid (show Bys w3 w1.heap.size (.slice la F.length lc) F from own_same HB2.out (fun g hg=>hT3.block g (HB2.out.lt g hg).2 (fun hs=>by have h1:=(HV1b.out g hs).2;have h2:=(HB2.out.lt g hg).1;omega)))
  have hbel03:Below w.heap.size w w3:=hbel02.trans (hbel3.mono (by omega))
  clear d0 d1 d2 d3 d4 d5 d6 d7 hT3
  obtain ⟨d0,d1,d2,d3,d4,d5,d6,d7⟩:=op_cells HOP3.out
  obtain ⟨ca,cc,w4,hconv,HR4,HB4⟩:=conv_bytes w3 V
  have hz4:=HB4.out.size
  go_wp2_with fail
  refine (refFrame_any _ _ V.toList HR4.out (by unfold maxLen;omega)).mono ?_;rintro e w5 ⟨hbel5,hq5⟩
  rw [HO.out] at hq5
  obtain ⟨ma,mc,rfl,hB5⟩:=hq5
  rw [HF.out] at hB5 ⊢
  have hz5:=hbel5.size
  have hbel05:Below w.heap.size w w5:=(hbel03.trans (HB4.out.mono (by omega))).trans (hbel5.mono (by omega))
  have HBl5:=hid ((HB3.out.same HB4.out).same hbel5)
  have HBm5:=hid hB5
  have hcl:=HBl5.out.rd.conv
  have hcm:=HBm5.out.rd.conv
  have HI5:=hid (HI.out.below hbel05)
  clear hB5 hconv d0 d1 d2 d3 d4 d5 d6 d7
  go_wp2_with fail
  refine (own_any _ B lo w1.heap.size dv ev bv _ X F HI5.out.wat HI5.out.ents HBl5.out (by omega) (by omega) (by omega) (by omega) (fun x hx u hu k hk e=>by have h1:=(HI.out.ents.ok x hx).lt u hu k hk;have h2:=(HBl5.out.lt k e).1;omega)).mono ?_;rintro e w6 hP6
  obtain ⟨rfl,bv',x,hI6,hbel6,_⟩:=HI5.out.own hP6 (fun k hk=>⟨by have h2:=(HBl5.out.lt k hk).1;omega,own_type HBl5.out hk,fun d hd e=>by have h1:=((HI.out.rdf d hd).2.lt k e).2;have h2:=(HBl5.out.lt k hk).1;omega⟩)
  have HI6:=hid hI6
  have hb06:Below lo w w6:=(hbel05.mono (by omega)).trans hbel6
  clear hI6 hP6 hcl hcm
  go_wp2_with fail
  go_ret
  exact ⟨rfl,bv',x,HI6.out,hb06⟩
 ·have hno:okB V.toList.length = false:=by simpa using hok
  have HO:=hid hno
  rw [hno] at hq2
  obtain rfl:=hq2
  have hq:=eql_nil none 0 0
  clear hok hno
  go_wp2_with fail
  refine (back_any _ _ _ _ _ _ _ _ _ _ V HL2.out (by omega)).mono ?_;rintro e w3 ⟨rfl,hT3⟩
  have hz3:=hT3.size
  have hbel3:Below w0.heap.size w2 w3:=hT3.below (by omega) (fun k hk hs=>by have:=(HV1b.out k hs).1;omega)
  have HOP3:=hid ((hbel3.block _ (by omega)).trans HOP2.out)
  have hbel03:Below w.heap.size w w3:=hbel02.trans (hbel3.mono (by omega))
  clear d0 d1 d2 d3 d4 d5 d6 d7 hT3
  obtain ⟨d0,d1,d2,d3,d4,d5,d6,d7⟩:=op_cells HOP3.out
  obtain ⟨ca,cc,w4,hconv,HR4,HB4⟩:=conv_bytes w3 V
  have hz4:=HB4.out.size
  go_wp2_with fail
  refine (refFrame_any _ _ V.toList HR4.out (by unfold maxLen;omega)).mono ?_;rintro e w5 ⟨hbel5,hq5⟩
  rw [HO.out] at hq5
  obtain rfl:=hq5
  have hz5:=hbel5.size
  have hbel05:Below w.heap.size w w5:=(hbel03.trans (HB4.out.mono (by omega))).trans (hbel5.mono (by omega))
  have HBl5:=hid (show Bys w5 w1.heap.size (.slice none 0 0) [] from World.ownsRow_nil _ _ _ _)
  have hcl:=HBl5.out.rd.conv
  have HI5:=hid (HI.out.below hbel05)
  clear hconv d0 d1 d2 d3 d4 d5 d6 d7
  go_wp2_with fail
  refine (own_any _ B lo w1.heap.size dv ev bv _ X [] HI5.out.wat HI5.out.ents HBl5.out (by omega) (by simp) (by omega) (by omega) (fun x hx u hu k hk e=>by simp [Value.ownBlock] at e)).mono ?_;rintro e w6 hP6
  obtain ⟨rfl,bv',x,hI6,hbel6,_⟩:=HI5.out.own hP6 (fun k hk=>by simp [Value.ownBlock] at hk)
  have HI6:=hid hI6
  have hb06:Below lo w w6:=(hbel05.mono (by omega)).trans hbel6
  clear hI6 hP6 hcl
  go_wp2_with fail
  go_ret
  exact ⟨rfl,bv',x,HI6.out,hb06⟩
end Go.Proofs.YtopcgnjocklcoaaGreatDoor
namespace Go.Proofs.YtopcgnjocklcoaaGreatDoor
open Go.RowKit
theorem Tryz.infoPD:(Tryz.prog.info? 48).map (fun i=>(i.zero,i.size,i.bytes)) = some (some (.pointer none),1,8):=by kernel_rfl
theorem Tryz.infoPE:(Tryz.prog.info? 50).map (fun i=>(i.zero,i.size,i.bytes)) = some (some (.pointer none),1,8):=by kernel_rfl
theorem one_ptr {a:Option Addr}:∀ u ∈ [Value.pointer a],u.oneCell' = true:=fun u hu=>by simp at hu;subst hu;rfl
theorem Law.fresh {w w':World} {B lo:Nat} {dv ev bv dv' ev':Value} {X:List Ent} {Ds:List DD} {db eb:Nat} (h:Law w B lo dv ev bv X Ds) (hW:WAt w' B dv' ev' bv)
  (hds:w'.ownsRow lo 48 1 dv' (Ds.length + 1) ((Ds.map fun d=>.pointer (some ⟨d.db,0,none⟩)) ++ [.pointer (some ⟨db,0,none⟩)]))
  (hes:w'.ownsRow lo 50 1 ev' (Ds.length + 1) ((Ds.map fun d=>.pointer (some ⟨d.eb,0,none⟩)) ++ [.pointer (some ⟨eb,0,none⟩)]))
  (hT:Turn w w' (fun k=>k = B ∨ dv.ownBlock = some k ∨ ev.ownBlock = some k)) (hC:Cut w' db (some [])) (hR:w'.heap[eb]? = some (.cells #[.slice none 0 0,.int .i64 0,.bool false] 52 (0,0))) (hdb:w.heap.size ≤ db) (heb:w.heap.size ≤ eb) :
  Law w' B lo dv' ev' bv X (Ds ++ [⟨db,eb,.slice none 0 0,[]⟩]) ∧ Below lo w w':=by
 have hBlt:=h.B_lt
 have hlow:=h.low.1
 have hfree:∀ (k:Nat) (T:TypeId) (cur:Array Value),w.heap[k]? = some (.cells cur T (0,0)) → T ≠ 31 → T ≠ 48 → T ≠ 50 → w'.heap[k]? = w.heap[k]?:=fun k T cur hk h1 h2 h3=>by
  refine hT.block k (Array.getElem?_eq_some_iff.1 hk).1 ?_
  rintro (rfl | hs | hs)
  ·have:=h.wat;unfold WAt at this;rw [hk] at this;simp at this;exact h1 this.2
  ·obtain ⟨cur',hc'⟩:=own_type h.ds hs
   rw [hk] at hc';simp at hc';exact h2 hc'.2
  ·obtain ⟨cur',hc'⟩:=own_type h.es hs
   rw [hk] at hc';simp at hc';exact h3 hc'.2
 refine ⟨⟨hW,⟨own_same h.ents.own (fun g hg=>?_),fun x hx=>(h.ents.ok x hx).turn (fun u hu k hk=>?_)⟩,by rw [List.length_append,List.map_append];exact hds,by rw [List.length_append,List.map_append];exact hes,fun d hd=>?_,fun d hd=>?_,⟨hlow,fun d hd=>?_⟩,?_,fun x hx u hu k hk d hd=>?_,h.lox⟩,hT.below (by omega) (fun k hk hs=>?_)⟩
 ·obtain ⟨cur,hc⟩:=own_type h.ents.own hg
  exact hfree g _ cur hc (by decide) (by decide) (by decide)
 ·obtain ⟨cur,hc⟩:=(h.ents.ok x hx).blk u hu k hk
  exact hfree k _ cur hc (by decide) (by decide) (by decide)
 ·rcases List.mem_append.1 hd with hd | hd
  ·obtain ⟨cur,hc,e⟩:=h.cut d hd
   exact ⟨cur,(hfree _ _ cur hc (by decide) (by decide) (by decide)).trans hc,e⟩
  ·simp only [List.mem_singleton] at hd
   subst hd
   exact hC
 ·rcases List.mem_append.1 hd with hd | hd
  ·refine ⟨(hfree _ _ _ (h.rdf d hd).1 (by decide) (by decide) (by decide)).trans (h.rdf d hd).1,own_same (h.rdf d hd).2 (fun g hg=>?_)⟩
   obtain ⟨cur,hc⟩:=own_type (h.rdf d hd).2 hg
   exact hfree g _ cur hc (by decide) (by decide) (by decide)
  ·simp only [List.mem_singleton] at hd
   subst hd
   exact ⟨hR,World.ownsRow_nil _ _ _ _⟩
 ·rcases List.mem_append.1 hd with hd | hd
  ·exact h.low.2 d hd
  ·simp only [List.mem_singleton] at hd
   subst hd
   exact ⟨by show lo ≤ db;omega,by show lo ≤ eb;omega⟩
 ·have key:∀ (i:Nat) (d:DD),Ds[i]? = some d → d.db ≠ db ∧ d.eb ≠ eb:=fun i d hd=>by
   have hm:=List.mem_of_getElem? hd
   have h1:=(h.cut d hm).lt
   have h2:=(h.rdf d hm).lt
   omega
  intro i j d d' hi hj hij
  rcases Nat.lt_or_ge i Ds.length with h1 | h1 <;> rcases Nat.lt_or_ge j Ds.length with h2 | h2
  ·rw [List.getElem?_append_left h1] at hi
   rw [List.getElem?_append_left h2] at hj
   exact h.dne i j d d' hi hj hij
  ·rw [List.getElem?_append_left h1] at hi
   rw [List.getElem?_append_right h2] at hj
   have hm:=List.mem_of_getElem? hj
   simp only [List.mem_singleton] at hm
   subst hm
   obtain ⟨q1,q2⟩:=key i d hi
   exact ⟨q1,q2,fun k _ e=>by simp [Value.ownBlock] at e⟩
  ·rw [List.getElem?_append_right h1] at hi
   rw [List.getElem?_append_left h2] at hj
   have hm:=List.mem_of_getElem? hi
   simp only [List.mem_singleton] at hm
   subst hm
   obtain ⟨q1,q2⟩:=key j d' hj
   exact ⟨fun e=>q1 e.symm,fun e=>q2 e.symm,fun k e _=>by simp [Value.ownBlock] at e⟩
  ·have:=(List.getElem?_eq_some_iff.1 hi).1
   have:=(List.getElem?_eq_some_iff.1 hj).1
   simp at *;omega
 ·rcases List.mem_append.1 hd with hd | hd
  ·exact h.ape x hx u hu k hk d hd
  ·simp only [List.mem_singleton] at hd
   subst hd
   simp [Value.ownBlock]
 ·rcases hs with rfl | hs | hs
  ·omega
  ·have:=(h.ds.lt k hs).1;omega
  ·have:=(h.es.lt k hs).1;omega
set_option maxRecDepth 100000 in
set_option maxHeartbeats 4000000 in
theorem stepFresh (w:World) (B lo:Nat) (dv ev bv:Value) (X:List Ent) (Ds:List DD) (hI:Law w B lo dv ev bv X Ds) (hD:Ds.length ≤ 99999999) (oA oB oC oD:Int) (S T V:ByteArray) :
  Calls Tryz.prog 9 #[.pointer (some ⟨B,0,none⟩),.agg #[.int .i64 5,.int .i64 oA,.int .i64 oB,.int .i64 oC,.int .i64 oD,.string S,.string T,.string V]] w fun e w'=>e = .returned (.bool true) ∧ ∃ dv' ev' d,Law w' B lo dv' ev' bv X (Ds ++ [d]) ∧ d.A = [] ∧ Below lo w w':=by
 have hBw:=hI.B_lt
 have hlow:=hI.low.1
 obtain ⟨da,dc,rfl⟩:=own_slice hI.ds
 obtain ⟨ea,ec,rfl⟩:=own_slice hI.es
 have HI:=hid hI
 clear hI
 have hb0:Below w.heap.size w (w.alloc (.cells #[.int .i64 5,.int .i64 oA,.int .i64 oB,.int .i64 oC,.int .i64 oD,.string S,.string T,.string V] 34)):=(Below.refl _ _).alloc (Nat.le_refl _) _
 obtain ⟨w0,hw0⟩:∃ w0,w0 = w.alloc (.cells #[.int .i64 5,.int .i64 oA,.int .i64 oB,.int .i64 oC,.int .i64 oD,.string S,.string T,.string V] 34):=⟨_,rfl⟩
 have hz0:w0.heap.size = w.heap.size + 1:=by rw [hw0];simp
 rw [← hw0] at hb0
 have HW0:=hid hw0
 go_enter Tryz.func9,Tryz.ntmps9
 go_wp2_with fail
 rw [← HW0.out]
 refine (newDeframer_any _).mono ?_;rintro e w1 ⟨rfl,hb1,hz1,hC1⟩
 have hbel1:=hb0.trans (hb1.mono (by omega))
 obtain ⟨db,hdb⟩:∃ db,db = w0.heap.size:=⟨_,rfl⟩
 rw [← hdb] at hC1 ⊢
 have HC1:=hid hC1
 have HI1:=hid (HI.out.below hbel1)
 have hc0:w1.cell? ⟨B,0,none⟩ = some (.slice da Ds.length dc):=by rw [cell_row HI1.out.wat];rfl
 have hdbz:w.heap.size ≤ db ∧ db < w1.heap.size:=by omega
 have hz01:w.heap.size + 1 ≤ w1.heap.size:=by omega
 clear hC1 hw0 hb1 hdb hz0 hz1
 go_wp2_with (at_builtin;refine wpList_append_gen _ rfl (.tmp 187) (.tmp 189) 27 48 _ 1 8 rfl Tryz.underlying27 Tryz.infoPD rfl (by decide) _ Ds.length _ lo rfl (World.ownsRow.alloc HI1.out.ds _) _ 1 1 [.pointer (some ⟨db,0,none⟩)] rfl rfl (one_at _ _ _) one_ptr (Ds.length + 1) rfl _ rfl (by unfold maxLen;omega) (by omega) (by simp;omega) ?_)
 intro a2 c2 w2 ho2 hg2
 have hT12:Turn w1 w2 (fun q=>(Value.slice da Ds.length dc).ownBlock = some q):=(Turn.of_below (S:=fun q=>(Value.slice da Ds.length dc).ownBlock = some q) ((Below.refl _ _).alloc (Nat.le_refl _) _)).trans (Turn.of_grew hg2) (fun q _ h=>h)
 have hz2:=hT12.size
 have hB1:B < w1.heap.size:=by omega
 have hdB:(Value.slice da Ds.length dc).ownBlock ≠ some B:=fun e=>by
  obtain ⟨cur,hcur⟩:=own_type HI1.out.ds e
  have:=HI1.out.wat;unfold WAt at this
  rw [this] at hcur;simp at hcur
 have hW2:w2.heap[B]? = some (.cells #[.slice da Ds.length dc,.slice ea Ds.length ec,bv] 31 (0,0)):=(hT12.block B hB1 hdB).trans HI1.out.wat
 have hc20:w2.cell? ⟨B,0,none⟩ = some (.slice da Ds.length dc):=by rw [cell_row hW2];rfl
 have hf20:w2.frozen? ⟨B,0,none⟩ = false:=frozen_row hW2 _
 have hc21:w2.cell? ⟨B,1,none⟩ = some (.slice ea Ds.length ec):=by rw [cell_row hW2];rfl
 obtain ⟨w3,hw3⟩:∃ w3,w3 = w2.setCell ⟨B,0,none⟩ (.slice a2 (Ds.length + 1) c2):=⟨_,rfl⟩
 have hW3:w3.heap[B]? = some (.cells #[.slice a2 (Ds.length + 1) c2,.slice ea Ds.length ec,bv] 31 (0,0)):=by
  rw [hw3,heap_setCell_same w2 B 0 _ _ _ hW2];rfl
 have hT23:Turn w2 w3 (fun k=>k = B):=by rw [hw3];exact Turn.setCell _ _ _ _
 have hz3:=hT23.size
 have hneB:∀ {T:TypeId} {v:Value} {n:Nat} {xs:List Value},T ≠ 31 → w2.ownsRow lo T 1 v n xs → w3.ownsRow lo T 1 v n xs:=fun {T v n xs} hTne ho=>own_same ho (fun g hg=>hT23.block g (ho.lt g hg).2 (fun e=>by
  subst e
  obtain ⟨cur,hcur⟩:=own_type ho hg
  rw [hW2] at hcur;simp at hcur;exact hTne hcur.2.symm))
 have hds3:=hneB (by decide) ho2
 have hes2:w2.ownsRow lo 50 1 (.slice ea Ds.length ec) Ds.length (Ds.map fun d=>.pointer (some ⟨d.eb,0,none⟩)):=own_same HI1.out.es (fun g hg=>hT12.block g (HI1.out.es.lt g hg).2 (fun e=>own_ne HI1.out.es HI1.out.ds (by decide) hg e rfl))
 have hes3:=hneB (by decide) hes2
 have hC3:Cut w3 db (some []):=by
  obtain ⟨cur,hc,e⟩:=HC1.out
  refine ⟨cur,?_,e⟩
  have e2:w2.heap[db]? = w1.heap[db]?:=hT12.block db hdbz.2 (fun e=>by
   obtain ⟨cur',hcur'⟩:=own_type HI1.out.ds e
   rw [hc] at hcur';simp at hcur')
  exact (hT23.block db (by omega) (fun e=>by omega)).trans (e2.trans hc)
 have hT13:Turn w1 w3 (fun k=>k = B ∨ (Value.slice da Ds.length dc).ownBlock = some k):=(hT12.weak (fun k h=>Or.inr h)).trans hT23 (fun q _ h=>Or.inl h)
 have hc31:w3.cell? ⟨B,1,none⟩ = some (.slice ea Ds.length ec):=by rw [cell_row hW3];rfl
 have HW3:=hid hW3
 have HD3:=hid hds3
 have HE3:=hid hes3
 have HC3:=hid hC3
 have HT13:=hid hT13
 have HW3e:=hid hw3
 have hB3:B < w3.heap.size:=by omega
 clear ho2 hg2 hT12 hW2 hW3 hT23 hneB hds3 hes2 hes3 hC3 hT13 hw3
 obtain ⟨w4,hw4⟩:∃ w4,w4 = (w3.alloc (.cells #[.slice none 0 0,.int .i64 0,.bool false] 52)).alloc (.cells #[.pointer (some ⟨w2.heap.size,0,none⟩)] 50):=⟨_,rfl⟩
 have hsz3:w3.heap.size = w2.heap.size:=by rw [HW3e.out];simp [World.setCell]
 have hn4:∀ j u,[Value.pointer (some ⟨w2.heap.size,0,none⟩)][j]? = some u → w4.cell? ((⟨w2.heap.size + 1,0,none⟩:Addr).add j) = some u:=by
  rw [hw4]
  have h1:=one_at (w3.alloc (.cells #[.slice none 0 0,.int .i64 0,.bool false] 52)) (.pointer (some ⟨w2.heap.size,0,none⟩)) 50
  have h2:(w3.alloc (.cells #[.slice none 0 0,.int .i64 0,.bool false] 52)).heap.size = w2.heap.size + 1:=by simp;exact hsz3
  rw [h2] at h1
  exact h1
 have hbel34:Below w3.heap.size w3 w4:=by rw [hw4];exact ((Below.refl _ _).alloc (Nat.le_refl _) _).alloc (by simp) _
 have hE4:w4.ownsRow lo 50 1 (.slice ea Ds.length ec) Ds.length (Ds.map fun d=>.pointer (some ⟨d.eb,0,none⟩)):=own_same HE3.out (fun g hg=>hbel34.block g (HE3.out.lt g hg).2)
 have hR4:w4.heap[w2.heap.size]? = some (.cells #[.slice none 0 0,.int .i64 0,.bool false] 52 (0,0)):=by
  rw [hw4,Below.heap_alloc _ _ _ (by simp;omega),← hsz3];exact heap_alloc_new w3 _
 have hz4:=hbel34.size
 have hz24:w2.heap.size < w4.heap.size:=by rw [hw4];simp;omega
 have HN4:=hid hn4
 have HE4:=hid hE4
 have HR4:=hid hR4
 have HS3:=hid hsz3
 have HW4e:=hid hw4
 clear hn4 hE4 hR4 hsz3 hw4
 go_wp2_with (at_builtin;refine wpList_append_gen _ rfl (.tmp 197) (.tmp 200) 28 50 _ 1 8 rfl Tryz.underlying28 Tryz.infoPE rfl (by decide) _ Ds.length _ lo rfl (by rw [← HW3e.out,← HW4e.out];exact HE4.out) ⟨w2.heap.size + 1,0,none⟩ 1 1 [.pointer (some ⟨w2.heap.size,0,none⟩)] rfl rfl (by rw [← HW3e.out,← HW4e.out];exact HN4.out) one_ptr (Ds.length + 1) rfl _ rfl (by unfold maxLen;omega) (by omega) (by rw [← HW3e.out,← HW4e.out];omega) ?_)
 intro a5 c5 w5 ho5 hg5
 rw [← HW3e.out,← HW4e.out] at hg5
 have hT45:=Turn.of_grew hg5
 have hz5:=hT45.size
 have heB:(Value.slice ea Ds.length ec).ownBlock ≠ some B:=fun e=>by
  obtain ⟨cur,hcur⟩:=own_type HE3.out e
  rw [HW3.out] at hcur;simp at hcur
 have hW5:w5.heap[B]? = some (.cells #[.slice a2 (Ds.length + 1) c2,.slice ea Ds.length ec,bv] 31 (0,0)):=(hT45.block B (by omega) heB).trans ((hbel34.block B hB3).trans HW3.out)
 have hc51:w5.cell? ⟨B,1,none⟩ = some (.slice ea Ds.length ec):=by rw [cell_row hW5];rfl
 have hf51:w5.frozen? ⟨B,1,none⟩ = false:=frozen_row hW5 _
 obtain ⟨w6,hw6⟩:∃ w6,w6 = w5.setCell ⟨B,1,none⟩ (.slice a5 (Ds.length + 1) c5):=⟨_,rfl⟩
 have hT56:Turn w5 w6 (fun k=>k = B):=by rw [hw6];exact Turn.setCell _ _ _ _
 have hfin:Law w6 B lo (.slice a2 (Ds.length + 1) c2) (.slice a5 (Ds.length + 1) c5) bv X (Ds ++ [⟨db,w2.heap.size,.slice none 0 0,[]⟩]) ∧ Below lo w w6:=by
  have hT14:Turn w1 w4 (fun k=>k = B ∨ (Value.slice da Ds.length dc).ownBlock = some k):=HT13.out.trans (Turn.of_below (S:=fun _=>False) hbel34) (fun _ _ h=>h.elim)
  have hT16:Turn w1 w6 (fun k=>k = B ∨ (Value.slice da Ds.length dc).ownBlock = some k ∨ (Value.slice ea Ds.length ec).ownBlock = some k) :=
   ((hT14.weak (fun k h=>h.imp id Or.inl)).trans hT45 (fun q _ h=>Or.inr (Or.inr h))).trans hT56 (fun q _ h=>Or.inl h)
  have hne5:∀ {T:TypeId} {v:Value} {n:Nat} {xs:List Value},T ≠ 31 → w5.ownsRow lo T 1 v n xs → w6.ownsRow lo T 1 v n xs:=fun {T v n xs} hTne ho=>own_same ho (fun g hg=>hT56.block g (ho.lt g hg).2 (fun e=>by
   subst e
   obtain ⟨cur,hcur⟩:=own_type ho hg
   rw [hW5] at hcur;simp at hcur;exact hTne hcur.2.symm))
  have hds5:w5.ownsRow lo 48 1 (.slice a2 (Ds.length + 1) c2) (Ds.length + 1) ((Ds.map fun d=>.pointer (some ⟨d.db,0,none⟩)) ++ [.pointer (some ⟨db,0,none⟩)]):=by
   have h4:=own_same (w':=w4) HD3.out (fun g hg=>hbel34.block g (HD3.out.lt g hg).2)
   exact own_same h4 (fun g hg=>hT45.block g (h4.lt g hg).2 (fun e=>own_ne h4 HE4.out (by decide) hg e rfl))
  have hT06:Turn w w6 (fun k=>k = B ∨ (Value.slice da Ds.length dc).ownBlock = some k ∨ (Value.slice ea Ds.length ec).ownBlock = some k):=(Turn.of_below (S:=fun k=>k = B ∨ (Value.slice da Ds.length dc).ownBlock = some k ∨ (Value.slice ea Ds.length ec).ownBlock = some k) hbel1).trans hT16 (fun q _ h=>h)
  refine HI.out.fresh ?_ (hne5 (by decide) hds5) (hne5 (by decide) ho5) hT06 ?_ ?_ (by omega) (by omega)
  ·show w6.heap[B]? = _
   rw [hw6,heap_setCell_same w5 B 1 _ _ _ hW5];rfl
  ·obtain ⟨cur,hc,e⟩:=HC3.out
   have hd3:db < w3.heap.size:=(Array.getElem?_eq_some_iff.1 hc).1
   refine ⟨cur,?_,e⟩
   rw [hT56.block db (by omega) (fun e=>by omega),hT45.block db (by omega) (fun e=>by
    obtain ⟨cur',hcur'⟩:=own_type HE4.out e
    rw [(hbel34.block db hd3).trans hc] at hcur';simp at hcur'),hbel34.block db hd3]
   exact hc
  ·rw [hT56.block w2.heap.size (by omega) (fun e=>by omega),hT45.block w2.heap.size (by omega) (fun e=>by
    obtain ⟨cur',hcur'⟩:=own_type HE4.out e
    rw [HR4.out] at hcur';simp at hcur')]
   exact HR4.out
 have HFin:=hid hfin
 have HW6e:=hid hw6
 clear hfin hT56 hT45 ho5 hg5 hW5 hw6
 go_wp2_with fail
 go_ret
 rw [← HW6e.out]
 exact ⟨rfl,_,_,_,HFin.out.1,rfl,HFin.out.2⟩
end Go.Proofs.YtopcgnjocklcoaaGreatDoor
namespace Go.Proofs.YtopcgnjocklcoaaGreatDoor
open Go.RowKit
set_option maxRecDepth 100000 in
set_option maxHeartbeats 1000000 in
theorem pick_law (c:Int) (n:Nat) (w:World) (h0:0 < n) (h1:n ≤ maxLen) (hc:-9223372036854775808 ≤ c ∧ c ≤ 9223372036854775807) :
  Calls Tryz.prog 38 #[.int .i64 c,.int .i64 n] w fun e w'=>e = .returned (.int .i64 (pickN c n)) ∧ w' = w:=by
 unfold maxLen at h1
 by_cases hneg:c < 0
 ·have HP:=hid (pickN_neg (n:=n) h0 hneg)
  go_enter Tryz.func38,Tryz.ntmps38
  go_wp2_with fail
  go_ret
  refine ⟨ret_int ?_,rfl⟩
  rw [HP.out]
 ·have HP:=hid (pickN_pos (n:=n) h0 hneg)
  go_enter Tryz.func38,Tryz.ntmps38
  go_wp2_with fail
  go_ret
  refine ⟨ret_int ?_,rfl⟩
  rw [HP.out]
theorem add_small {sm:List UInt8 → List UInt8} {H P:List UInt8} {b:UInt8} (h:(addP sm H b).2 = some P):P.length ≤ 120:=by
 unfold addP at h
 split at h
 ·split at h
  ·simp at h
  ·split at h
   ·rename_i Q hq
    simp at h
    subst h
    unfold unwrapP at hq
    split at hq
    ·rename_i hc
     simp only [Option.some.injEq] at hq
     have:=okB_iff.1 hc.2.1
     rw [← hq,List.length_take]
     omega
    ·simp at hq
   ·simp at h
 ·simp at h
theorem fold_small {sm:List UInt8 → List UInt8}:∀ (L:List UInt8) (x:List (List UInt8) × St),(∀ P ∈ x.1,P.length ≤ 120) → ∀ P ∈ (L.foldl (stepF sm) x).1,P.length ≤ 120
 | [],_,h=>h
 | b :: r,x,h=>by
  refine fold_small r _ ?_
  obtain ⟨l,s⟩:=x
  cases s with
  | none =>exact h
  | some H =>
   intro P hP
   simp only [stepF,List.mem_append] at hP
   rcases hP with hP | hP
   ·exact h P hP
   ·exact add_small (Option.mem_toList.1 hP)
theorem feed_small {sm:List UInt8 → List UInt8} (s:St) (L:List UInt8):∀ P ∈ (feedF sm s L).1,P.length ≤ 120:=fold_small L _ (fun P hP=>by simp at hP)
def FedPost (w:World) (B lo:Nat) (dv ev:Value) (X:List Ent) (Ds:List DD) (n V:Nat) (e:Ending) (w':World):Prop :=
 e = .returned (.bool true) ∧ ∃ bv' X' Ds',Law w' B lo dv ev bv' X' Ds' ∧ X'.length ≤ X.length + V ∧ Ds'.length = Ds.length ∧ (∀ d ∈ Ds',d.A.length ≤ n + V) ∧ Below lo w w'
set_option maxRecDepth 100000 in
set_option maxHeartbeats 8000000 in
theorem fed_any (w:World) (B lo:Nat) (dv ev bv:Value) (X:List Ent) (Ds:List DD) (n:Nat) (hI:Law w B lo dv ev bv X Ds) (h0:0 < Ds.length) (oK oA oB oC oD:Int) (S T V:ByteArray) (hX:X.length + V.size ≤ 99999999) (hD:Ds.length ≤ 99999999) (hA:∀ d ∈ Ds,d.A.length ≤ n) (hn:n + V.size ≤ 99999999) (hoA:-9223372036854775808 ≤ oA ∧ oA ≤ 9223372036854775807) :
  Calls Tryz.prog 23 #[.pointer (some ⟨B,0,none⟩),.agg #[.int .i64 oK,.int .i64 oA,.int .i64 oB,.int .i64 oC,.int .i64 oD,.string S,.string T,.string V]] w (FedPost w B lo dv ev X Ds n V.size):=by
 have hBw:=hI.B_lt
 have hlow:=hI.low.1
 obtain ⟨da,dc,rfl⟩:=own_slice hI.ds
 obtain ⟨ea,ec,rfl⟩:=own_slice hI.es
 have hVl:V.toList.length = V.size:=by rw [ByteArray.toList_eq];rfl
 have HI:=hid hI
 have HAb:=hid hA
 have HOA:=hid hoA
 have HVl:=hid hVl
 clear hI hA hoA hVl
 obtain ⟨w0,hw0⟩:∃ w0,w0 = w.alloc (.cells #[.int .i64 oK,.int .i64 oA,.int .i64 oB,.int .i64 oC,.int .i64 oD,.string S,.string T,.string V] 34):=⟨_,rfl⟩
 have hb0:Below w.heap.size w w0:=by rw [hw0];exact (Below.refl _ _).alloc (Nat.le_refl _) _
 have hop:w0.heap[w.heap.size]? = some (.cells #[.int .i64 oK,.int .i64 oA,.int .i64 oB,.int .i64 oC,.int .i64 oD,.string S,.string T,.string V] 34 (0,0)):=by rw [hw0];exact heap_alloc_new w _
 have hz0:w.heap.size + 1 ≤ w0.heap.size:=by rw [hw0];simp
 have HOP:=hid hop
 have HW0:=hid hw0
 have HI0:=hid (HI.out.below hb0)
 have hcB:w.cell? ⟨B,0,none⟩ = some (.slice da Ds.length dc):=by rw [cell_row HI.out.wat];rfl
 clear hop hw0
 go_enter Tryz.func23,Tryz.ntmps23
 go_wp2_with fail
 go_quiet ((go_at_call 38;exact Calls.quiet_of_same (pick_law _ _ _ h0 (by unfold maxLen;omega) HOA.out)))
 rw [← HW0.out]
 have hkl:=pickN_lt oA h0
 generalize pickN oA Ds.length = k at *
 obtain ⟨w1,hw1⟩:∃ w1,w1 = w0.drewN nq:=⟨_,rfl⟩
 rw [← hw1]
 have hb01:Below w0.heap.size w0 w1:=by rw [hw1];exact below_drewN (Below.refl _ _) _
 have hz1:=hb01.size
 have HOP1:=hid ((hb01.block _ (by omega)).trans HOP.out)
 obtain ⟨d0,d1,d2,d3,d4,d5,d6,d7⟩:=op_cells HOP1.out
 have hb1:Below w.heap.size w w1:=hb0.trans (hb01.mono (by omega))
 clear hw1 hcB
 go_wp2_with fail
 refine (lent_any _ _ _ _ _ _ _ _ _ (by omega)).mono ?_;rintro e w2 ⟨v2,rfl,hL2,hb12⟩
 have hz2:=hb12.size
 have HOP2:=hid ((hb12.block _ (by omega)).trans HOP1.out)
 have hb2:Below w.heap.size w w2:=hb1.trans (hb12.mono (by omega))
 have HL2:=hid hL2
 obtain ⟨va,vn,vc,hv2⟩:∃ a n c,v2 = .slice a n c:=by obtain ⟨a,c,e⟩:=hL2.rd.slice;exact ⟨a,_,c,e⟩
 subst hv2
 have HI2:=hid (HI.out.below hb2)
 have hcB:w2.cell? ⟨B,0,none⟩ = some (.slice da Ds.length dc):=by rw [cell_row HI2.out.wat];rfl
 obtain ⟨dg,hdg⟩:∃ g,da = some ⟨g,0,none⟩:=by
  rcases HI2.out.ds.2 with ⟨_,e⟩ | ⟨g,cap,cur,hv,_⟩
  ·omega
  ·simp at hv;exact ⟨g,hv.1⟩
 obtain ⟨eg,heg⟩:∃ g,ea = some ⟨g,0,none⟩:=by
  rcases HI2.out.es.2 with ⟨_,e⟩ | ⟨g,cap,cur,hv,_⟩
  ·omega
  ·simp at hv;exact ⟨g,hv.1⟩
 subst hdg heg
 obtain ⟨⟨db,eb,av,A⟩,hdk⟩:∃ d,Ds[k]? = some d:=⟨Ds[k],List.getElem?_eq_getElem hkl⟩
 have hdm:=List.mem_of_getElem? hdk
 have hcd:w2.cell? ⟨dg,k,none⟩ = some (.pointer (some ⟨db,0,none⟩)):=by
  have:=HI2.out.ds.cells (g:=dg) rfl k (.pointer (some ⟨db,0,none⟩)) (by rw [List.getElem?_map,hdk];rfl)
  rw [rd_add _ _ rfl] at this
  simpa using this
 have HDK:=hid hdk
 have HDM:=hid hdm
 have hkI:(k:Int) < (Ds.length:Int):=by omega
 have hv2b:=HL2.out.lt
 have HV2:=hid hv2b
 have hdb2:=(HI.out.cut _ hdm).lt
 have HDB:=hid hdb2
 clear d0 d1 d2 d3 d4 d5 d6 d7 hL2 hdk hdm hv2b hdb2
 obtain ⟨d0,d1,d2,d3,d4,d5,d6,d7⟩:=op_cells HOP2.out
 go_wp2_with fail
 refine (feed_any _ db (feedF sumB (some []) A).2 _ V.toList (HI2.out.cut _ HDM.out) (fold_ok _ _ (Or.inl rfl)) HL2.out.rd (by have:=HVl.out;omega) (fun q hq=>by have h1:=(HV2.out q hq).1;have h2:=HDB.out;omega)).mono ?_;rintro e w3 ⟨a3,c3,vs,rfl,hg3,hC3,hLs3⟩
 obtain ⟨Ls,st,hX3⟩:∃ Ls st,feedF sumB (feedF sumB (some []) A).2 V.toList = (Ls,st):=⟨_,_,rfl⟩
 have hcnt:Ls.length ≤ V.size:=by have h1:=feed_count (sm:=sumB) (feedF sumB (some []) A).2 V.toList;rw [hX3] at h1;have h2:=HVl.out;dsimp only at h1;omega
 have hsmall:∀ P ∈ Ls,P.length ≤ 120:=by have h1:=feed_small (sm:=sumB) (feedF sumB (some []) A).2 V.toList;rw [hX3] at h1;exact h1
 have HSM:=hid hsmall
 clear hsmall
 rw [hX3] at hC3 hLs3 ⊢
 dsimp only at hC3 hLs3 ⊢
 have HX3:=hid hX3
 have hz3:=hg3.size
 have HG3:=hid hg3
 have HC3:=hid hC3
 have HLs3:=hid hLs3
 have hdbw:=HDB.out
 have HOP3:=hid ((hg3.block _ (by omega) (fun e=>by cases e;omega)).trans HOP2.out)
 have HL3:=hid (HL2.out.turn (w':=w3) (fun q hq=>hg3.block q (HV2.out q hq).2 (fun e=>by cases e;have:=(HV2.out db hq).1;omega)))
 clear hX3 hg3 hC3 hLs3 d0 d1 d2 d3 d4 d5 d6 d7 hcB hcd
 obtain ⟨d0,d1,d2,d3,d4,d5,d6,d7⟩:=op_cells HOP3.out
 go_wp2_with fail
 refine (back_any _ _ _ _ _ _ _ _ _ _ V HL3.out (by omega)).mono ?_;rintro e w4 ⟨rfl,hT4⟩
 have hz4:=hT4.size
 have hop4:=(hT4.block w.heap.size (by omega) (fun e=>by have:=(HV2.out _ e).1;omega)).trans HOP3.out
 obtain ⟨e0,e1,e2,e3,e4,e5,e6,e7⟩:=op_cells hop4
 -- from the beginning to here: of what was there only the deframer of the program has turned
 have hT04:Turn w w4 (fun q=>q = db):=by
  have h1:Turn w w2 (fun q=>q = db):=Turn.of_below hb2
  have h2:Turn w2 w3 (fun q=>q = db):=⟨HG3.out.os,HG3.out.tape,HG3.out.output,HG3.out.size,fun q hq hn=>HG3.out.block q hq (fun e=>hn (by cases e;rfl))⟩
  exact (h1.trans h2 (fun _ _ h=>h)).trans hT4 (fun q hq h=>by have:=(HV2.out q h).1;omega)
 have hBdb:B ≠ db:=fun e=>by
  have h1:=HI.out.wat
  obtain ⟨cur,h2,_⟩:=HI.out.cut _ HDM.out
  unfold WAt at h1
  dsimp only at h2
  rw [← e,h1] at h2;simp at h2
 have hW4:=(hT04.block B hBw hBdb).trans HI.out.wat
 have hegw:=(HI.out.es.lt eg rfl).2
 have heg4:w4.heap[eg]? = w.heap[eg]?:=hT04.block eg hegw (fun e=>by
  obtain ⟨cur,h2,_⟩:=HI.out.cut _ HDM.out
  obtain ⟨cur',h3⟩:=own_type HI.out.es (g:=eg) rfl
  dsimp only at h2
  rw [e,h2] at h3;simp at h3)
 have f1:w4.cell? ⟨B,1,none⟩ = some (.slice (some ⟨eg,0,none⟩) Ds.length ec):=by rw [cell_row hW4];rfl
 have f2:w4.cell? ⟨eg,k,none⟩ = some (.pointer (some ⟨eb,0,none⟩)):=by
  rw [World.cell?_of_block (w:=w) (w':=w4) (a:=⟨eg,k,none⟩) heg4]
  have:=HI.out.es.cells (g:=eg) rfl k (.pointer (some ⟨eb,0,none⟩)) (by rw [List.getElem?_map,HDK.out];rfl)
  rw [rd_add _ _ rfl] at this
  simpa using this
 obtain ⟨ca,cc,w5,hconv,HR5,HB5⟩:=conv_bytes w4.drew V
 have hb45:Below w4.heap.size w4 w5:=((Below.refl _ _).drew).trans HB5.out
 have hz5:=hb45.size
 have g1:w5.cell? ⟨B,1,none⟩ = some (.slice (some ⟨eg,0,none⟩) Ds.length ec):=(hb45.cell (p:=⟨B,1,none⟩) (by show B < _;omega)).trans f1
 have g2:w5.cell? ⟨eg,k,none⟩ = some (.pointer (some ⟨eb,0,none⟩)):=(hb45.cell (p:=⟨eg,k,none⟩) (by show eg < _;omega)).trans f2
 have g7:w5.cell? ⟨w.heap.size,7,none⟩ = some (.string V):=(hb45.cell (p:=⟨w.heap.size,7,none⟩) (by show w.heap.size < _;omega)).trans e7
 have hT05:Turn w w5 (fun q=>q = db):=hT04.trans (Turn.of_below (S:=fun _=>False) hb45) (fun _ _ h=>h.elim)
 have hrd:=HI.out.rdf _ HDM.out
 have hebw:=hrd.lt
 dsimp only at hrd hebw
 have hebdb:eb ≠ db:=fun e=>by
  obtain ⟨cur,h2,_⟩:=HI.out.cut _ HDM.out
  dsimp only at h2
  rw [← e,hrd.1] at h2;simp at h2
 have hrd5:RDef w5 lo eb av A:=by
  refine ⟨(hT05.block eb hebw hebdb).trans hrd.1,own_same hrd.2 (fun g hg=>hT05.block g (hrd.2.lt g hg).2 (fun e=>?_))⟩
  obtain ⟨cur,h2,_⟩:=HI.out.cut _ HDM.out
  obtain ⟨cur',h3⟩:=own_type hrd.2 hg
  dsimp only at h2
  rw [e,h2] at h3;simp at h3
 have HRD5:=hid hrd5
 have HT05:=hid hT05
 have HT4:=hid hT4
 have hAn:=HAb.out _ HDM.out
 dsimp only at hAn
 have HBD:=hid hBdb
 clear hT4 hT04 hT05 hrd hrd5 hop4 hW4 heg4 d0 d1 d2 d3 d4 d5 d6 d7 hBdb
 go_upto_region 5 with fail
 go_cut [10,11] (fun s10 s11 wx=>∃ (ma:Option Addr) (mc:Nat) (av':Value) (A':List UInt8),s10 = .slice ma Ls.length mc ∧ s11 = .int .i64 (feedErr st) ∧ Hid (RdL wx (.slice ma Ls.length mc) Ls) ∧ Hid (RDef wx lo eb av' A') ∧ Hid ((feedF sumB (some []) A').2 = st) ∧ Hid (A'.length ≤ n + V.size) ∧ Hid (Turn w5 wx (fun q=>q = eb ∨ av.ownBlock = some q)) ∧ Hid (∀ q,av'.ownBlock = some q → av.ownBlock = some q ∨ w5.heap.size ≤ q))
 case first =>
  go_region_with (go_at_call 40;refine (refFeed_any _ lo eb av _ A V.toList HRD5.out HR5.out (by have:=HVl.out;omega) (by omega)).mono ?_;rintro e w6 ⟨mv,av',A',rfl,hm6,hR6,hst6,hAl6,hT6,hav6⟩;rw [HX3.out] at hm6 hst6 ⊢;obtain ⟨ma,mc,rfl,hm6⟩:=hm6;have HM6:=hid hm6;have HR6:=hid hR6;have HST6:=hid hst6;have HAL6:=hid hAl6;have HT6:=hid hT6;have HAV6:=hid hav6;clear hm6 hR6 hst6 hT6 hav6 hAl6)
  all_goals (go_wp2_with fail;go_meet;exact ⟨ma,mc,av',A',rfl,rfl,hid ⟨ma,mc,rfl,HM6.out⟩,HR6,HST6,hid (by have h1:=HAL6.out;have h2:=HVl.out;omega),HT6,HAV6⟩)
 case rest =>
 obtain ⟨ma,mc,av',A',rfl,rfl,HM6,HR6,HST6,HAL6,HT6,HAV6⟩:=hcut
 have hT0c:Turn w wc (fun q=>q = db ∨ q = eb ∨ av.ownBlock = some q):=(HT05.out.weak (fun q h=>Or.inl h)).trans HT6.out (fun q _ h=>Or.inr h)
 have hzc:=HT6.out.size
 have hrdw:=HI.out.rdf _ HDM.out
 dsimp only at hrdw
 have hdb5:db < w5.heap.size:=by omega
 have havne:av.ownBlock ≠ some db:=fun e=>by
  obtain ⟨cur,h2,_⟩:=HI.out.cut _ HDM.out
  obtain ⟨cur',h3⟩:=own_type hrdw.2 e
  dsimp only at h2
  rw [h2] at h3;simp at h3
 have hCc:Cut wc db (feedF sumB (some []) A').2:=by
  rw [HST6.out]
  obtain ⟨cur,h2,h3⟩:=HC3.out
  have hdb3:db < w3.heap.size:=(Array.getElem?_eq_some_iff.1 h2).1
  refine ⟨cur,?_,h3⟩
  rw [HT6.out.block db hdb5 (fun e=>by rcases e with e | e;exact hebdb e.symm;exact havne e),hb45.block db (by omega),HT4.out.block db hdb3 (fun e=>by have:=(HV2.out db e).1;omega)]
  exact h2
 obtain ⟨hIc,hbc⟩:=HI.out.feed HDK.out hT0c hCc HR6.out (fun q hq=>(HAV6.out q hq).imp id (fun h=>by omega))
 have hsame3:∀ q,w2.heap.size ≤ q → q < w3.heap.size → wc.heap[q]? = w3.heap[q]?:=fun q h1 h2=>by
  rw [HT6.out.block q (by omega) (fun e=>by
   rcases e with e | e
   ·omega
   ·have:=(hrdw.2.lt q e).2;omega),hb45.block q (by omega),HT4.out.block q h2 (fun e=>by have:=(HV2.out q e).2;omega)]
 have HLc:=hid (HLs3.out.same hsame3)
 have HIc:=hid hIc
 have HDs:Hid (∀ y ∈ Ds.set k ⟨db,eb,av',A'⟩,y.A.length ≤ n + V.size):=fun y hy=>by
  rcases List.mem_or_eq_of_mem_set hy with h | h
  ·have:=HAb.out y h;omega
  ·rw [h];exact HAL6.out
 have hDl:(Ds.set k ⟨db,eb,av',A'⟩).length = Ds.length:=List.length_set
 have HDl:=hid hDl
 have havc:∀ y ∈ Ds.set k ⟨db,eb,av',A'⟩,∀ q,y.av.ownBlock = some q → q < w.heap.size ∨ w3.heap.size ≤ q:=fun y hy q hq=>by
  rcases List.mem_or_eq_of_mem_set hy with h | h
  ·exact Or.inl ((HI.out.rdf y h).2.lt q hq).2
  ·subst h
   rcases HAV6.out q hq with e | e
   ·exact Or.inl (hrdw.2.lt q e).2
   ·exact Or.inr (by omega)
 have HAVc:=hid havc
 generalize Ds.set k ⟨db,eb,av',A'⟩ = Ds' at *
 clear hT0c hCc hIc hsame3 hDl havc hrdw havne g1 g2 g7 f1 f2 e0 e1 e2 e3 e4 e5 e6 e7 hconv
 have hcntI:(Ls.length:Int) ≤ 99999999:=by omega
 go_wp2_with fail
 go_loopg [12] Ls.length (fun gk x wr=>∃ i nn:Nat,i + gk = Ls.length ∧ x = .int .i64 i ∧ wr = wc.drewN nn)
 case atStart=>exact ⟨0,0,by omega,rfl,rfl⟩
 case round =>
  obtain ⟨i,nn,hi,rfl,rfl⟩:=hrel
  by_cases hil:i < Ls.length
  ·obtain ⟨u,hu,hBu⟩:=HLc.out.at hil
   obtain ⟨lg,hLv⟩:∃ lg,a3 = some ⟨lg,0,none⟩:=by
    rcases HLc.out.own.2 with ⟨_,e⟩ | ⟨q,cap,cur,hv,_⟩
    ·omega
    ·simp at hv;exact ⟨q,hv.1⟩
   subst hLv
   have hcu:wc.cell? ⟨lg,i,none⟩ = some u:=by
    have:=HLc.out.own.cells (g:=lg) rfl i u hu
    rw [rd_add _ _ rfl] at this
    simpa using this
   obtain ⟨ma',mc',hme,hM⟩:=HM6.out
   obtain ⟨mb,mo,hma,hmb,hmall⟩:=hM (by omega)
   obtain ⟨rfl,rfl⟩:ma = ma' ∧ mc = mc':=by simpa using hme
   subst hma
   obtain ⟨um,hcm,hRm⟩:=hmall i hil
   obtain ⟨ua,uc,rfl⟩:=own_slice hBu
   obtain ⟨uma,umc,rfl⟩:=hRm.slice
   have hconv1:∀ q,(convert 39 9 (.slice ua Ls[i].length uc)).run Tryz.prog (wc.drewN q) = .ok (.string (strOf Ls[i])) (wc.drewN q):=fun q=>(Bys.rd (hBu.same (below_drewN (Below.refl _ _) q))).conv
   have hconv2:∀ q,(convert 39 9 (.slice uma Ls[i].length umc)).run Tryz.prog (wc.drewN q) = .ok (.string (strOf Ls[i])) (wc.drewN q):=fun q=>(hRm.later (below_drewN (Below.refl _ _) q)).conv
   have hI1:(i:Int) < (Ls.length:Int):=by omega
   generalize Ls[i] = PP at *
   clear hu hBu hRm hmall hM hme
   go_wp2_with fail
   go_quiet (fail)
   go_wp2_with fail
   go_roundg (gk - 1)
   case rel=>exact ⟨i + 1,_,by omega,by go_num,rfl⟩
   case measure=>omega
  ·have hI1:¬ (i:Int) < (Ls.length:Int):=by omega
   have hbcd:Below wc.heap.size wc (wc.drewN nn):=below_drewN (Below.refl _ _) nn
   have HId:=hid (HIc.out.below hbcd)
   have HLd:=hid (HLc.out.same (w':=wc.drewN nn) (fun _ _ _=>rfl))
   have hbd:Below lo w (wc.drewN nn):=hbc.trans (hbcd.mono (by omega))
   obtain ⟨wd,hwd⟩:∃ wd,wd = wc.drewN nn:=⟨_,rfl⟩
   have hzd:wd.heap.size = wc.heap.size:=by rw [hwd];rfl
   have hzd':wc.heap.size ≤ wd.heap.size:=by omega
   rw [← hwd] at HId HLd hbd ⊢
   clear hwd hbcd hzd
   have hvb:∀ (j:Nat) (v:Value),vs[j]? = some v → ∀ q,v.ownBlock = some q → w2.heap.size ≤ q ∧ q < w3.heap.size:=fun j v hv q hq=>by
    have hjl:j < vs.length:=(List.getElem?_eq_some_iff.1 hv).1
    have hl:=HLs3.out.len
    exact (HLs3.out.each j v Ls[j] hv (List.getElem?_eq_getElem (by omega))).lt q hq
   have HVB:=hid hvb
   clear hvb
   go_wp2_with fail
   go_loopg [13] Ls.length (fun gk2 x wr=>∃ (i:Nat) (bvi:Value) (Xi:List Ent),i + gk2 = Ls.length ∧ x = .int .i64 i ∧ Xi.length = i ∧ Hid (Law wr B lo (.slice (some ⟨dg,0,none⟩) Ds.length dc) (.slice (some ⟨eg,0,none⟩) Ds.length ec) bvi (X ++ Xi) Ds') ∧
     Hid (wr.ownsRow w2.heap.size 39 1 (.slice a3 Ls.length c3) Ls.length vs) ∧ Hid (∀ (j:Nat) (u:Value) (L:List UInt8),i ≤ j → vs[j]? = some u → Ls[j]? = some L → Bys wr w2.heap.size u L) ∧
     Hid (∀ x ∈ X ++ Xi,∀ u ∈ entVals x,∀ q,u.ownBlock = some q → ∀ (j:Nat) (v:Value),i ≤ j → vs[j]? = some v → v.ownBlock ≠ some q) ∧ Hid (Below lo w wr) ∧ wd.heap.size ≤ wr.heap.size)
   case atStart =>
    refine ⟨0,bv,[],by omega,rfl,rfl,hid (by rw [List.append_nil];exact HId.out),hid HLd.out.own,hid (fun j u L _ hu hL=>HLd.out.each j u L hu hL),hid (fun x hx u hu q hq j v _ hv e=>?_),hid hbd,Nat.le_refl _⟩
    rw [List.append_nil] at hx
    have h1:=(HI.out.ents.ok x hx).lt u hu q hq
    have h2:=(HVB.out j v hv q e).1
    omega
   case round =>
    obtain ⟨i2,bvi,Xi,hi2,rfl,hXi,HIr,HOr,HEr,HPr,HBr,hzr⟩:=hrel
    obtain ⟨gk2,hgk2⟩:∃ g,g = gk:=⟨_,rfl⟩
    subst hgk2
    by_cases hil2:i2 < Ls.length
    ·have hI2:(i2:Int) < (Ls.length:Int):=by omega
     have hvl:=HLs3.out.len
     obtain ⟨lg,hLv⟩:∃ lg,a3 = some ⟨lg,0,none⟩:=by
      rcases HOr.out.2 with ⟨_,e⟩ | ⟨q,cap,cur,hv,_⟩
      ·omega
      ·simp at hv;exact ⟨q,hv.1⟩
     subst hLv
     have hui:vs[i2]? = some vs[i2]:=List.getElem?_eq_getElem (by omega)
     have hLi:Ls[i2]? = some Ls[i2]:=List.getElem?_eq_getElem hil2
     have hBi:=HEr.out i2 _ _ (Nat.le_refl _) hui hLi
     have hcu:wr.cell? ⟨lg,i2,none⟩ = some vs[i2]:=by
      have:=HOr.out.cells (g:=lg) rfl i2 _ hui
      rw [rd_add _ _ rfl] at this
      simpa using this
     have hPl:=HSM.out Ls[i2] (List.getElem_mem hil2)
     generalize Ls[i2] = PP at *
     generalize vs[i2] = ui at *
     obtain ⟨ua,uc,rfl⟩:=own_slice hBi
     have HBi:=hid hBi
     have HUI:=hid hui
     clear hBi hui hLi
     go_wp2_with fail
     refine (own_any _ B lo w2.heap.size _ _ bvi _ (X ++ Xi) PP HIr.out.wat HIr.out.ents HBi.out (by rw [List.length_append];omega) (by omega) (by omega) (by omega) (fun x hx u hu q hq e=>HPr.out x hx u hu q hq i2 _ (Nat.le_refl _) HUI.out e)).mono ?_;rintro e w7 hP7
     obtain ⟨rfl,bv7,x7,hI7,hb7,hT7,hx7⟩:=HIr.out.own hP7 (fun q hq=>by
      have h1:=HVB.out i2 _ HUI.out q hq
      refine ⟨by omega,own_type HBi.out hq,fun d hd e=>?_⟩
      have h2:=HAVc.out d hd q e
      omega)
     have hz7:=hT7.size
     have hfree:∀ (q:Nat) (T:TypeId) (cur:Array Value),wr.heap[q]? = some (.cells cur T (0,0)) → T ≠ 31 → T ≠ 54 → (Value.slice ua PP.length uc).ownBlock ≠ some q → w7.heap[q]? = wr.heap[q]?:=fun q T cur hq h1 h2 h3=>by
      refine hT7.block q (Array.getElem?_eq_some_iff.1 hq).1 ?_
      rintro (e | e | e)
      ·have:=HIr.out.wat;unfold WAt at this;rw [e,this] at hq;simp at hq;exact h1 hq.2.symm
      ·obtain ⟨cur',hc'⟩:=own_type HIr.out.ents.own e
       rw [hq] at hc';simp at hc';exact h2 hc'.2
      ·exact h3 e
     have HO7:=hid (show w7.ownsRow w2.heap.size 39 1 (.slice (some ⟨lg,0,none⟩) Ls.length c3) Ls.length vs from own_same HOr.out (fun g hg=>by
      obtain ⟨cur,hc⟩:=own_type HOr.out hg
      exact hfree g _ cur hc (by decide) (by decide) (fun e=>own_ne HBi.out HOr.out (by decide) e hg rfl)))
     have HE7:=hid (show ∀ (j:Nat) (u:Value) (L:List UInt8),i2 + 1 ≤ j → vs[j]? = some u → Ls[j]? = some L → Bys w7 w2.heap.size u L from fun j u L hj hu hL=>by
      have hBj:=HEr.out j u L (by omega) hu hL
      refine own_same hBj (fun g hg=>?_)
      obtain ⟨cur,hc⟩:=own_type hBj hg
      exact hfree g _ cur hc (by decide) (by decide) (fun e=>HLs3.out.apart i2 j _ u HUI.out hu (by omega) g e hg))
     have HP7:=hid (show ∀ x ∈ X ++ (Xi ++ [x7]),∀ u ∈ entVals x,∀ q,u.ownBlock = some q → ∀ (j:Nat) (v:Value),i2 + 1 ≤ j → vs[j]? = some v → v.ownBlock ≠ some q from fun x hx u hu q hq j v hj hv e=>by
      rw [← List.append_assoc] at hx
      rcases List.mem_append.1 hx with hx | hx
      ·exact HPr.out x hx u hu q hq j v (by omega) hv e
      ·simp only [List.mem_singleton] at hx
       subst hx
       rcases hx7 u hu q hq with h1 | h1
       ·exact HLs3.out.apart i2 j _ v HUI.out hv (by omega) q h1 e
       ·have:=(HVB.out j v hv q e).2
        omega)
     have HI7:=hid (show Law w7 B lo (.slice (some ⟨dg,0,none⟩) Ds.length dc) (.slice (some ⟨eg,0,none⟩) Ds.length ec) bv7 (X ++ (Xi ++ [x7])) Ds' from by rw [← List.append_assoc];exact hI7)
     have HB7:=hid (HBr.out.trans hb7)
     clear hP7 hI7 hT7 hx7 hfree
     go_wp2_with fail
     go_roundg (gk2 - 1)
     case rel=>exact ⟨i2 + 1,bv7,Xi ++ [x7],by omega,by go_num,by rw [List.length_append,hXi];rfl,HI7,HO7,HE7,HP7,HB7,by omega⟩
     case measure=>omega
    ·have hI2:¬ (i2:Int) < (Ls.length:Int):=by omega
     obtain ⟨we,hwe⟩:∃ we,we = wr:=⟨_,rfl⟩
     subst hwe
     go_wp2_with fail
     refine (looks_any _ B lo _ _ bvi (X ++ Xi) HIr.out.wat HIr.out.ents (by rw [List.length_append];omega)).mono ?_;rintro e w8 ⟨rfl,hb8⟩
     have HI8:=hid (HIr.out.below hb8)
     have HO8:=hid (show w8.ownsRow w2.heap.size 39 1 (.slice a3 Ls.length c3) Ls.length vs from own_same HOr.out (fun g hg=>hb8.block g (HOr.out.lt g hg).2))
     have HB8:=hid (HBr.out.trans (hb8.mono (by have:=HIr.out.low.1;have:=HIr.out.B_lt;omega)))
     have hz8:=hb8.size
     have hrow8:∀ g,a3 = some ⟨g,0,none⟩ → ∃ cur,w8.heap[g]? = some (.cells cur 39 (0,0)) ∧ Ls.length ≤ cur.size:=fun g hg=>by
      subst hg
      rcases HO8.out.2 with ⟨h0,_⟩ | ⟨g',cap,cur,hv,_,hh,h1,_,h3,_⟩
      ·simp at h0
      ·simp at hv
       obtain ⟨rfl,rfl⟩:=hv
       exact ⟨cur,hh,by omega⟩
     have HLW:=hid (show lo ≤ w2.heap.size by omega)
     go_wp2_with fail
     go_loopg [14] Ls.length (fun gk3 x wr=>∃ i:Nat,i + gk3 = Ls.length ∧ x = .int .i64 i ∧ Hid (∀ g,a3 = some ⟨g,0,none⟩ → ∃ cur,wr.heap[g]? = some (.cells cur 39 (0,0)) ∧ Ls.length ≤ cur.size) ∧ Hid (Turn w8 wr (fun q=>(Value.slice a3 Ls.length c3).ownBlock = some q)))
     case atStart=>exact ⟨0,by omega,rfl,hid hrow8,hid (Turn.refl _ _)⟩
     case round =>
      obtain ⟨i3,hi3,rfl,HRw,HTw⟩:=hrel
      by_cases hil3:i3 < Ls.length
      ·have hI3:(i3:Int) < (Ls.length:Int):=by omega
       obtain ⟨lg,hLv⟩:∃ lg,a3 = some ⟨lg,0,none⟩:=by
        rcases HO8.out.2 with ⟨_,e⟩ | ⟨q,cap,cur,hv,_⟩
        ·omega
        ·simp at hv;exact ⟨q,hv.1⟩
       subst hLv
       obtain ⟨cur,hcur,hcs⟩:=HRw.out lg rfl
       obtain ⟨old,hck⟩:∃ old,wr.cell? ⟨lg,i3,none⟩ = some old:=by
        rw [cell_row hcur]
        exact ⟨_,List.getElem?_eq_getElem (by simp;omega)⟩
       have hfk:wr.frozen? ⟨lg,i3,none⟩ = false:=frozen_row hcur _
       have HR9:=hid (show ∀ g,(some ⟨lg,0,none⟩:Option Addr) = some ⟨g,0,none⟩ → ∃ cur,(wr.setCell ⟨lg,i3,none⟩ (.slice none 0 0)).heap[g]? = some (.cells cur 39 (0,0)) ∧ Ls.length ≤ cur.size from fun g hg=>by
        simp at hg
        subst hg
        exact ⟨_,heap_setCell_same wr lg i3 cur _ _ hcur,by simpa using hcs⟩)
       have HT9:=hid (HTw.out.trans (Turn.setCell wr lg i3 (.slice none 0 0)) (fun q _ h=>by rw [h];rfl))
       clear hcur hcs hrow8
       go_wp2_with fail
       go_roundg (gk - 1)
       case rel=>exact ⟨i3 + 1,by omega,by go_num,HR9,HT9⟩
       case measure=>omega
      ·have hI3:¬ (i3:Int) < (Ls.length:Int):=by omega
       have HF:=hid (show FedPost w B lo (.slice (some ⟨dg,0,none⟩) Ds.length dc) (.slice (some ⟨eg,0,none⟩) Ds.length ec) X Ds n V.size (.returned (.bool true)) wr from by
        refine ⟨rfl,bvi,X ++ Xi,Ds',HI8.out.other HTw.out (fun q cur T hs hq=>?_),by rw [List.length_append];omega,HDl.out,HDs.out,HB8.out.trans (HTw.out.below (by have:=HI8.out.low.1;have:=HI8.out.B_lt;omega) (fun q hq hs=>?_))⟩
        ·obtain ⟨cur',hc'⟩:=own_type HO8.out hs
         rw [hq] at hc';simp at hc';exact hc'.2
        ·have h1:=(HO8.out.lt q hs).1
         have h2:=HLW.out
         omega)
       clear hrow8
       go_wp2_with fail
       go_ret
       exact HF.out
end Go.Proofs.YtopcgnjocklcoaaGreatDoor
namespace Go.Proofs.YtopcgnjocklcoaaGreatDoor
open Go.RowKit
def StepPost (w:World) (B lo:Nat) (n V:Nat) (e:Ending) (w':World):Prop :=
 e = .returned (.bool true) ∧ ∃ dv' ev' bv' X' Ds',Law w' B lo dv' ev' bv' X' Ds' ∧ X'.length ≤ n + V + 1 ∧ Ds'.length ≤ n + V + 1 ∧ (∀ d ∈ Ds',d.A.length ≤ n + V + 1) ∧ Below lo w w'
set_option maxRecDepth 100000 in
set_option maxHeartbeats 4000000 in
theorem stepFeed (w:World) (B lo:Nat) (dv ev bv:Value) (X:List Ent) (Ds:List DD) (n:Nat) (hI:Law w B lo dv ev bv X Ds) (oA oB oC oD:Int) (S T V:ByteArray) (hX:X.length ≤ n) (hD:Ds.length ≤ n) (hA:∀ d ∈ Ds,d.A.length ≤ n) (hn:n + V.size ≤ 99999998) (hoA:-9223372036854775808 ≤ oA ∧ oA ≤ 9223372036854775807) :
  Calls Tryz.prog 9 #[.pointer (some ⟨B,0,none⟩),.agg #[.int .i64 6,.int .i64 oA,.int .i64 oB,.int .i64 oC,.int .i64 oD,.string S,.string T,.string V]] w (StepPost w B lo n V.size):=by
 have hBw:=hI.B_lt
 have hlow:=hI.low.1
 obtain ⟨da,dc,rfl⟩:=own_slice hI.ds
 have HI:=hid hI
 have HAb:=hid hA
 have HOA:=hid hoA
 have hcB:w.cell? ⟨B,0,none⟩ = some (.slice da Ds.length dc):=by rw [cell_row hI.wat];rfl
 have hb0:Below w.heap.size w (w.alloc (.cells #[.int .i64 6,.int .i64 oA,.int .i64 oB,.int .i64 oC,.int .i64 oD,.string S,.string T,.string V] 34)):=(Below.refl _ _).alloc (Nat.le_refl _) _
 have HI0:=hid (hI.below hb0)
 clear hI hA hoA
 by_cases h0:0 < Ds.length
 ·have h0I:(0:Int) < (Ds.length:Int):=by omega
  go_enter Tryz.func9,Tryz.ntmps9
  go_wp2_with fail
  refine (fed_any _ B lo _ _ _ X Ds n HI0.out h0 6 oA oB oC oD S T V (by omega) (by omega) HAb.out (by omega) HOA.out).mono ?_;rintro e w1 ⟨rfl,bv',X',Ds',hI1,hX1,hD1,hA1,hb1⟩
  have HF:=hid (show StepPost w B lo n V.size (.returned (.bool true)) w1 from ⟨rfl,_,_,_,_,_,hI1,by omega,by omega,fun d hd=>by have:=hA1 d hd;omega,(hb0.mono (by omega)).trans hb1⟩)
  clear hI1 hA1
  go_wp2_with fail
  go_ret
  exact HF.out
 ·have h0I:¬ (0:Int) < (Ds.length:Int):=by omega
  have HF:=hid (show StepPost w B lo n V.size (.returned (.bool true)) (w.alloc (.cells #[.int .i64 6,.int .i64 oA,.int .i64 oB,.int .i64 oC,.int .i64 oD,.string S,.string T,.string V] 34)) from ⟨rfl,_,_,_,_,_,HI0.out,by omega,by omega,fun d hd=>by have:=HAb.out d hd;omega,hb0.mono (by omega)⟩)
  go_enter Tryz.func9,Tryz.ntmps9
  go_wp2_with fail
  go_ret
  exact HF.out
theorem stepF_any (w:World) (B lo:Nat) (dv ev bv:Value) (X:List Ent) (Ds:List DD) (n:Nat) (hI:Law w B lo dv ev bv X Ds) (K oA oB oC oD:Int) (S T V:ByteArray) (hK:K = 4 ∨ K = 5 ∨ K = 6) (hX:X.length ≤ n) (hD:Ds.length ≤ n) (hA:∀ d ∈ Ds,d.A.length ≤ n) (hn:n + V.size ≤ 99999998) (hoA:-9223372036854775808 ≤ oA ∧ oA ≤ 9223372036854775807) :
  Calls Tryz.prog 9 #[.pointer (some ⟨B,0,none⟩),.agg #[.int .i64 K,.int .i64 oA,.int .i64 oB,.int .i64 oC,.int .i64 oD,.string S,.string T,.string V]] w (StepPost w B lo n V.size):=by
 rcases hK with rfl | rfl | rfl
 ·refine (stepFrame w B lo dv ev bv X Ds hI (by omega) oA oB oC oD S T V (by omega)).mono ?_
  rintro e w' ⟨rfl,bv',x,h1,h2⟩
  exact ⟨rfl,_,_,_,_,_,h1,by rw [List.length_append,List.length_singleton];omega,by omega,fun d hd=>by have:=hA d hd;omega,h2⟩
 ·refine (stepFresh w B lo dv ev bv X Ds hI (by omega) oA oB oC oD S T V).mono ?_
  rintro e w' ⟨rfl,dv',ev',d,h1,h2,h3⟩
  refine ⟨rfl,_,_,_,_,_,h1,by omega,by rw [List.length_append,List.length_singleton];omega,fun y hy=>?_,h3⟩
  rcases List.mem_append.1 hy with hy | hy
  ·have:=hA y hy;omega
  ·simp only [List.mem_singleton] at hy
   subst hy
   rw [h2];simp
 ·exact stepFeed w B lo dv ev bv X Ds n hI oA oB oC oD S T V hX hD hA hn hoA
end Go.Proofs.YtopcgnjocklcoaaGreatDoor
