/- The statement's own walk: a step of kind KCheck, and the look at the lists (there are none). -/
import Derived.Test.YtopcgnjocklcoaaGreatDoorMPRead
import Derived.Test.YtopcgnjocklcoaaGreatDoorMHouse
import Derived.Test.YtopcgnjocklcoaaGreatDoorMPEncV
import Derived.Test.YtopcgnjocklcoaaGreatDoorMLawF
import Derived.Test.YtopcgnjocklcoaaGreatDoorMRDecD
import Derived.Test.YtopcgnjocklcoaaGreatDoorMLawV
namespace Go.Proofs.YtopcgnjocklcoaaGreatDoor
open Go.RowKit
set_option maxRecDepth 100000 in
set_option maxHeartbeats 1000000 in
theorem stepCheck (w:World) (b:Nat) (A B C D:Int) (S T V:ByteArray) (hv:Vars w) (hs:S.size ≤ maxLen) :
  Calls Tryz.prog 9 #[.pointer (some ⟨b,0,none⟩),.agg #[.int .i64 1,.int .i64 A,.int .i64 B,.int .i64 C,.int .i64 D,.string S,.string T,.string V]] w fun e w'=>e = .returned (.bool true) ∧ Below w.heap.size w w':=by
 have HV:=hid hv
 clear hv
 have hb0:Below w.heap.size w (w.alloc (.cells #[.int .i64 1,.int .i64 A,.int .i64 B,.int .i64 C,.int .i64 D,.string S,.string T,.string V] 34)):=(Below.refl _ _).alloc (Nat.le_refl _) _
 go_enter Tryz.func9,Tryz.ntmps9
 go_wp2_with fail
 refine (check_any S _ (HV.out.below hb0) hs).mono ?_;rintro e w1 ⟨E1,P1,rfl,hb1,hA1⟩
 have hb01:=hb0.trans (hb1.mono hb0.size)
 have d5:w1.cell? ⟨w.heap.size,5,none⟩ = some (.string S):=by rw [hb1.cell (by simp)];simp
 have HA1:=hid hA1
 clear hA1
 go_wp2_with fail
 refine (refCheck_any S _ hs).mono ?_;rintro e w2 ⟨E2,P2,rfl,hb2,hA2⟩
 obtain ⟨rfl,rfl⟩:=check_agree hA2 HA1.out
 have hb02:=hb01.trans (hb2.mono hb01.size)
 go_wp2_with fail
 go_ret
 exact ⟨rfl,hb02⟩
end Go.Proofs.YtopcgnjocklcoaaGreatDoor
namespace Go.Proofs.YtopcgnjocklcoaaGreatDoor
open Go.RowKit
set_option maxRecDepth 100000 in
set_option maxHeartbeats 4000000 in
theorem stepEncode (w:World) (B lo:Nat) (dv ev bv:Value) (X:List Ent) (Ds:List DD) (hI:Law w B lo dv ev bv X Ds) (hX:X.length ≤ 99999999) (oA oB oC oD:Int) (S T V:ByteArray) (hS:S.size ≤ maxLen) (hV:V.size ≤ maxLen) (hE:Env w) (hO:∀ cb,w.heap.size ≤ cb → Own cb) :
  Calls Tryz.prog 9 #[.pointer (some ⟨B,0,none⟩),.agg #[.int .i64 2,.int .i64 oA,.int .i64 oB,.int .i64 oC,.int .i64 oD,.string S,.string T,.string V]] w fun e w'=>e = .returned (.bool true) ∧ ∃ bv' x,Law w' B lo dv ev bv' (X ++ [x]) Ds ∧ Below lo w w':=by
 have hBw:=hI.B_lt
 have hlow:=hI.low.1
 have HI:=hid hI
 have HE:=hid hE
 have HO:=hid hO
 clear hI hE hO
 have hb0:Below w.heap.size w (w.alloc (.cells #[.int .i64 2,.int .i64 oA,.int .i64 oB,.int .i64 oC,.int .i64 oD,.string S,.string T,.string V] 34)):=(Below.refl _ _).alloc (Nat.le_refl _) _
 obtain ⟨w0,hw0⟩:∃ w0,w0 = w.alloc (.cells #[.int .i64 2,.int .i64 oA,.int .i64 oB,.int .i64 oC,.int .i64 oD,.string S,.string T,.string V] 34):=⟨_,rfl⟩
 have hop:w0.heap[w.heap.size]? = some (.cells #[.int .i64 2,.int .i64 oA,.int .i64 oB,.int .i64 oC,.int .i64 oD,.string S,.string T,.string V] 34 (0,0)):=by rw [hw0];exact heap_alloc_new w _
 have hz0:w0.heap.size = w.heap.size + 1:=by rw [hw0];simp
 rw [← hw0] at hb0
 have HOP:=hid hop
 have HW0:=hid hw0
 clear hop
 go_enter Tryz.func9,Tryz.ntmps9
 go_wp2_with fail
 rw [← HW0.out]
 refine (pEncode_any S T V w0 hS hV (HE.out.below hb0) (fun cb h=>HO.out cb (by omega))).mono ?_;rintro e w1 ⟨la,lc,b,E,rfl,hb1,hB1,hnil,hans⟩
 have hz1:=hb1.size
 have HOP1:=hid ((hb1.block _ (by omega)).trans HOP.out)
 obtain ⟨d0,d1,d2,d3,d4,d5,d6,d7⟩:=op_cells HOP1.out
 have hbel01:=hb0.trans (hb1.mono (by omega))
 have HB1:=hid hB1
 have HN:=hid hnil
 have HAN:=hid hans
 clear hB1 hnil hans hw0
 go_wp2_with fail
 refine (refEncode_any S T V w1 hS hV (HE.out.below hbel01) (fun cb h=>HO.out cb (by omega))).mono ?_;rintro e w2 ⟨ma,mc,b2,E2,rfl,hb2,hB2,hans2⟩
 obtain ⟨rfl,rfl⟩:=encode_agree HAN.out hans2
 have hrg:=hans2.range
 have hz2:=hb2.size
 have hbel02:Below w.heap.size w w2:=hbel01.trans (hb2.mono (by omega))
 have HBl:=hid (HB1.out.same hb2)
 have HBm:=hid hB2
 have hcl:=HBl.out.rd.conv
 have hcm:=HBm.out.rd.conv
 have HI2:=hid (HI.out.below hbel02)
 have hbl:b.length ≤ 64:=by rcases hrg with ⟨_,h⟩ | ⟨_,h⟩ <;> simp [h] <;> omega
 clear hB2 d0 d1 d2 d3 d4 d5 d6 d7 hans2
 rcases hrg with ⟨rfl,_⟩ | ⟨hE4,hbn⟩
 ·go_wp2_with fail
  refine (own_any _ B lo w0.heap.size dv ev bv _ X b HI2.out.wat HI2.out.ents HBl.out (by omega) (by omega) (by omega) (by omega) (fun x hx u hu k hk e=>by have h1:=(HI.out.ents.ok x hx).lt u hu k hk;have h2:=(HBl.out.lt k e).1;omega)).mono ?_;rintro e w6 hP6
  obtain ⟨rfl,bv',x,hI6,hbel6,_⟩:=HI2.out.own hP6 (fun k hk=>⟨by have h2:=(HBl.out.lt k hk).1;omega,own_type HBl.out hk,fun d hd e=>by have h1:=((HI.out.rdf d hd).2.lt k e).2;have h2:=(HBl.out.lt k hk).1;omega⟩)
  have HI6:=hid hI6
  have hb06:Below lo w w6:=(hbel02.mono (by omega)).trans hbel6
  clear hI6 hP6 hcl hcm
  go_wp2_with fail
  go_ret
  exact ⟨rfl,bv',x,HI6.out,hb06⟩
 ·obtain ⟨rfl,rfl⟩:=HN.out (by omega)
  subst hbn
  simp only [List.length_nil] at hcl hcm
  have hq:=eql_nil none 0 0
  have hE0:¬ E = 0:=by omega
  have hE0B:(E == 0) = false:=by simpa using hE0
  clear hE4
  go_wp2_with fail
  refine (own_any _ B lo w0.heap.size dv ev bv _ X [] HI2.out.wat HI2.out.ents HBl.out (by omega) (by simp) (by omega) (by omega) (fun x hx u hu k hk e=>by simp [Value.ownBlock] at e)).mono ?_;rintro e w6 hP6
  obtain ⟨rfl,bv',x,hI6,hbel6,_⟩:=HI2.out.own hP6 (fun k hk=>by simp [Value.ownBlock] at hk)
  have HI6:=hid hI6
  have hb06:Below lo w w6:=(hbel02.mono (by omega)).trans hbel6
  clear hI6 hP6 hcl hcm
  go_wp2_with fail
  go_ret
  exact ⟨rfl,bv',x,HI6.out,hb06⟩
end Go.Proofs.YtopcgnjocklcoaaGreatDoor
namespace Go.Proofs.YtopcgnjocklcoaaGreatDoor
open Go.RowKit
theorem law_beginA (w:World):Law (w.alloc (.cells #[.slice none 0 0,.slice none 0 0,.slice none 0 0] 31)) w.heap.size w.heap.size (.slice none 0 0) (.slice none 0 0) (.slice none 0 0) [] [] :=
 ⟨heap_alloc_new w _,⟨World.ownsRow_nil _ _ _ _,fun x hx=>by simp at hx⟩,World.ownsRow_nil _ _ _ _,World.ownsRow_nil _ _ _ _,fun d hd=>by simp at hd,fun d hd=>by simp at hd,⟨Nat.le_refl _,fun d hd=>by simp at hd⟩,fun i j d d' h=>by simp at h,fun x hx=>by simp at hx,fun x hx=>by simp at hx⟩
def kindA:Nat → Int
 | 0=>2
 | 1=>1
 | 2=>3
 | 3=>4
 | 4=>5
 | _=>6
def in6 (K:Int):Nat → Bool
 | 0=>false
 | j + 1=>in6 K j || (K == kindA j)
theorem in6_yes {K:Int} (h:in6 K 6 = true):K = 2 ∨ K = 1 ∨ K = 3 ∨ K = 4 ∨ K = 5 ∨ K = 6:=by
 simp only [in6,kindA,Bool.false_or,Bool.or_eq_true,beq_iff_eq] at h
 omega
theorem in6_succ (K:Int) (j:Nat):in6 K (j + 1) = (in6 K j || (K == kindA j)):=rfl
theorem stepA_any (w:World) (B lo:Nat) (dv ev bv:Value) (X:List Ent) (Ds:List DD) (n:Nat) (hI:Law w B lo dv ev bv X Ds) (K oA oB oC oD:Int) (S T V:ByteArray) (hK:K = 2 ∨ K = 1 ∨ K = 3 ∨ K = 4 ∨ K = 5 ∨ K = 6) (hX:X.length ≤ n) (hD:Ds.length ≤ n) (hA:∀ d ∈ Ds,d.A.length ≤ n) (hn:n + V.size ≤ 99999998) (hoA:-9223372036854775808 ≤ oA ∧ oA ≤ 9223372036854775807) (hS:S.size ≤ maxLen) (hE:Env w) :
  Calls Tryz.prog 9 #[.pointer (some ⟨B,0,none⟩),.agg #[.int .i64 K,.int .i64 oA,.int .i64 oB,.int .i64 oC,.int .i64 oD,.string S,.string T,.string V]] w (StepPost w B lo n V.size):=by
 have hlow:=hI.low.1
 have hBw:=hI.B_lt
 rcases hK with rfl | rfl | rfl | h
 ·refine (stepEncode w B lo dv ev bv X Ds hI (by omega) oA oB oC oD S T V hS (by unfold maxLen;omega) hE hE.own).mono ?_
  rintro e w' ⟨rfl,bv',x,h1,h2⟩
  exact ⟨rfl,_,_,_,_,_,h1,by rw [List.length_append,List.length_singleton];omega,by omega,fun d hd=>by have:=hA d hd;omega,h2⟩
 ·refine (stepCheck w B oA oB oC oD S T V hE.v hS).mono ?_
  rintro e w' ⟨rfl,h2⟩
  exact ⟨rfl,_,_,_,_,_,hI.below h2,by omega,by omega,fun d hd=>by have:=hA d hd;omega,h2.mono (by omega)⟩
 ·refine (stepDecode w B lo dv ev bv X Ds hI oA oB oC oD S T V hS (by omega) hE hE.own).mono ?_
  rintro e w' ⟨rfl,h1,h2⟩
  exact ⟨rfl,_,_,_,_,_,h1,by omega,by omega,fun d hd=>by have:=hA d hd;omega,h2.mono (by omega)⟩
 ·exact stepF_any w B lo dv ev bv X Ds n hI K oA oB oC oD S T V h hX hD hA hn hoA
set_option maxRecDepth 100000 in
set_option maxHeartbeats 8000000 in
theorem playsAll (w:World) (sa:Option Addr) (cap kb:Nat) (L:List OpV) (hS:Scr w sa L) (hl:L.length ≤ 3000000) (hk0:w.cell? ⟨kb,0,none⟩ = some (.int .i64 2)) (hk1:w.cell? ⟨kb,1,none⟩ = some (.int .i64 1)) (hk2:w.cell? ⟨kb,2,none⟩ = some (.int .i64 3)) (hk3:w.cell? ⟨kb,3,none⟩ = some (.int .i64 4)) (hk4:w.cell? ⟨kb,4,none⟩ = some (.int .i64 5)) (hk5:w.cell? ⟨kb,5,none⟩ = some (.int .i64 6)) (hkb:kb < w.heap.size) (hE:Env w) :
  Calls Tryz.prog 8 #[.slice sa L.length cap,.slice (some ⟨kb,0,none⟩) 6 6] w fun e w'=>e = .returned (.bool true) ∧ Below w.heap.size w w':=by
 have HS:=hid hS
 have HE:=hid hE
 clear hS hE
 have hb0:Below w.heap.size w (w.alloc (.cells #[.slice none 0 0,.slice none 0 0,.slice none 0 0] 31)):=(Below.refl _ _).alloc (Nat.le_refl _) _
 go_enter Tryz.func8,Tryz.ntmps8
 go_wp2_with fail
 refine (stepA_any _ w.heap.size w.heap.size _ _ _ [] [] 0 (law_beginA w) 2 _ _ _ _ _ _ _ (Or.inl rfl) (by simp) (by simp) (fun d hd=>by simp at hd) (by decide) (by decide) (by unfold maxLen;decide) (HE.out.below hb0)).mono ?_;rintro e w1 ⟨rfl,dv1,ev1,bv1,X1,Ds1,hI1,hX1,hD1,hA1,hb1⟩
 have hb01:Below w.heap.size w w1:=hb0.trans hb1
 have hX1':X1.length ≤ 4:=hX1
 have hD1':Ds1.length ≤ 4:=hD1
 have HI1:=hid hI1
 have HA1:=hid (show ∀ d ∈ Ds1,d.A.length ≤ 4 from hA1)
 clear hI1 hX1 hD1 hA1 hb1
 go_wp2_with fail
 go_loopg [6,7,8,9] L.length (fun gk ok i x8 x9 wr=>∃ (k:Nat) (dv ev bv:Value) (X:List Ent) (Ds:List DD),k + gk = L.length ∧ i = .int .i64 k ∧ Hid (Law wr w.heap.size w.heap.size dv ev bv X Ds) ∧ X.length ≤ 4 + soFar L k ∧ Ds.length ≤ 4 + soFar L k ∧ Hid (∀ d ∈ Ds,d.A.length ≤ 4 + soFar L k) ∧ Below w.heap.size w wr)
 case atStart=>exact ⟨0,dv1,ev1,bv1,X1,Ds1,by omega,rfl,HI1,by omega,by omega,hid (fun d hd=>by have:=HA1.out d hd;omega),hb01⟩
 case round =>
  obtain ⟨k,dv,ev,bv,X,Ds,hk,rfl,HI,hX,hD,HA,hbel⟩:=hrel
  have hzr:=hbel.size
  have hup:=soFar_le L k
  have hsum:=HS.out.sum
  by_cases hlt:k < L.length
  ·obtain ⟨b,off,rfl,hbs,hall⟩:=HS.out.at_ (by omega)
   have hx:=(hall k hlt).below hbel hbs
   have hxA:=HS.out.a L[k] (List.getElem_mem hlt)
   have hup1:=soFar_succ L k hlt
   have hup2:=soFar_le L (k + 1)
   obtain ⟨⟨K,A,B,C,D,S,T,V⟩,HXk⟩:∃ x,Hid (L[k] = x):=⟨_,hid rfl⟩
   rw [HXk.out] at hx hxA hup1
   dsimp only at hxA hup1
   have c0:=hx.c0
   have c1:=hx.c1
   have c2:=hx.c2
   have c3:=hx.c3
   have c4:=hx.c4
   have c5:=hx.c5
   have c6:=hx.c6
   have c7:=hx.c7
   dsimp only at c0 c1 c2 c3 c4 c5 c6 c7
   have HUP:=hid hup1
   have HXA:=hid hxA
   have hkbw:kb < wr.heap.size:=by omega
   have hk0':wr.cell? ⟨kb,0,none⟩ = some (.int .i64 2):=by rw [hbel.cell hkb];exact hk0
   have hk1':wr.cell? ⟨kb,1,none⟩ = some (.int .i64 1):=by rw [hbel.cell hkb];exact hk1
   have hk2':wr.cell? ⟨kb,2,none⟩ = some (.int .i64 3):=by rw [hbel.cell hkb];exact hk2
   have hk3':wr.cell? ⟨kb,3,none⟩ = some (.int .i64 4):=by rw [hbel.cell hkb];exact hk3
   have hk4':wr.cell? ⟨kb,4,none⟩ = some (.int .i64 5):=by rw [hbel.cell hkb];exact hk4
   have hk5':wr.cell? ⟨kb,5,none⟩ = some (.int .i64 6):=by rw [hbel.cell hkb];exact hk5
   have HSs:=hid hx.s
   dsimp only at HSs
   obtain ⟨w2,hw2⟩:∃ w2,w2 = wr:=⟨_,rfl⟩
   subst hw2
   obtain ⟨gk2,hgk2⟩:∃ g,g = gk:=⟨_,rfl⟩
   subst hgk2
   have hbs2:b < w2.heap.size:=by omega
   have hltI:(k:Int) < (L.length:Int):=by omega
   clear hall hx hup1 hxA
   go_wp2_with fail
   go_loopg [8,9] 6 (fun hk8 y8 y9 wq=>∃ (j n:Nat),j + hk8 = 6 ∧ y8 = .bool (in6 K j) ∧ y9 = .int .i64 j ∧ wq = w2.drewN n)
   case atStart=>exact ⟨0,0,rfl,rfl,rfl,rfl⟩
   case round =>
    obtain ⟨j,nn,hj,rfl,rfl,rfl⟩:=hrel
    by_cases hj3:j < 6
    ·have hjI:(j:Int) < 6:=by omega
     have hkj:w2.cell? ⟨kb,j,none⟩ = some (.int .i64 (kindA j)):=by
      match j,hj3 with
      | 0,_=>exact hk0'
      | 1,_=>exact hk1'
      | 2,_=>exact hk2'
      | 3,_=>exact hk3'
      | 4,_=>exact hk4'
      | 5,_=>exact hk5'
     have HIN:=hid (in6_succ K j)
     clear hk0' hk1' hk2' hk3' hk4' hk5'
     generalize kindA j = kj at *
     cases hin:in6 K j with
     | true =>
      have HT:=hid (show in6 K (j + 1) = true by rw [HIN.out,hin];rfl)
      clear hin
      go_wp2_with fail
      go_quiet (fail)
      go_wp2_with fail
      go_roundg (gk - 1)
      case rel=>exact ⟨j + 1,_,by omega,by rw [HT.out],by go_num,rfl⟩
      case measure=>omega
     | false =>
      have HT:=hid (show in6 K (j + 1) = (K == kj) by rw [HIN.out,hin];rfl)
      clear hin
      go_wp2_with fail
      go_quiet (fail)
      go_wp2_with fail
      go_roundg (gk - 1)
      case rel=>exact ⟨j + 1,_,by omega,by rw [HT.out],by go_num,rfl⟩
      case measure=>omega
    ·obtain rfl:j = 6:=by omega
     have hbq:Below w2.heap.size w2 (w2.drewN nn):=below_drewN (Below.refl _ _) nn
     have hbq0:Below w.heap.size w (w2.drewN nn):=hbel.trans (hbq.mono hzr)
     have HIq:=hid (HI.out.below hbq)
     cases hin:in6 K 6 with
     | true =>
      have hK:=in6_yes hin
      have HK:=hid hK
      clear hin hK
      have hcell:∀ ad:Addr,ad.block < w2.heap.size → (w2.drewN nn).cell? ad = w2.cell? ad:=fun ad had=>hbq.cell had
      rw [← hcell _ hbs2] at c0 c1 c2 c3 c4 c5 c6 c7
      clear hcell
      go_wp2_with fail
      refine (stepA_any _ w.heap.size w.heap.size dv ev bv X Ds (4 + soFar L k) HIq.out K A B C D S T V HK.out (by omega) (by omega) HA.out (by have:=HUP.out;omega) HXA.out HSs.out (HE.out.below hbq0)).mono ?_;rintro e w3 ⟨rfl,dv3,ev3,bv3,X3,Ds3,hI3,hX3,hD3,hA3,hb3⟩
      have HI3:=hid hI3
      have HA3:=hid hA3
      have hb03:Below w.heap.size w w3:=hbq0.trans hb3
      have hX3':X3.length ≤ 4 + soFar L (k + 1):=by rw [HUP.out];omega
      have hD3':Ds3.length ≤ 4 + soFar L (k + 1):=by rw [HUP.out];omega
      clear hI3 hA3 hb3 hX3 hD3
      go_wp2_with fail
      refine (looks_any _ w.heap.size w.heap.size _ _ bv3 X3 HI3.out.wat HI3.out.ents (by omega)).mono ?_;rintro e w4 ⟨rfl,hb4⟩
      have HI4:=hid (HI3.out.below hb4)
      have hb04:Below w.heap.size w w4:=hb03.trans (hb4.mono hb03.size)
      clear hb4
      go_wp2_with fail
      go_roundg (gk2 - 1)
      case rel=>exact ⟨k + 1,dv3,ev3,bv3,X3,Ds3,by omega,by go_num,HI4,hX3',hD3',hid (fun d hd=>by have h1:=HA3.out d hd;rw [HUP.out];omega),hb04⟩
      case measure=>omega
     | false =>
      have hmono:soFar L k ≤ soFar L (k + 1):=by rw [HUP.out];omega
      clear hin
      go_wp2_with fail
      go_roundg (gk2 - 1)
      case rel=>exact ⟨k + 1,dv,ev,bv,X,Ds,by omega,by go_num,HIq,by omega,by omega,hid (fun d hd=>by have h1:=HA.out d hd;omega),hbq0⟩
      case measure=>omega
  ·have hltI:¬ (k:Int) < (L.length:Int):=by omega
   go_wp2_with fail
   go_ret
   exact ⟨rfl,hbel⟩
set_option maxRecDepth 100000 in
set_option maxHeartbeats 1000000 in
theorem allPlays_any (w:World) (sa:Option Addr) (cap:Nat) (L:List OpV) (hS:Scr w sa L) (hl:L.length ≤ 3000000) (hE:Env w) :
  Calls Tryz.prog 7 #[.slice sa L.length cap] w fun e w'=>e = .returned (.bool true) ∧ Below w.heap.size w w':=by
 have hb0:Below w.heap.size w (w.alloc (.cells #[.int .i64 2,.int .i64 1,.int .i64 3,.int .i64 4,.int .i64 5,.int .i64 6] 3)):=(Below.refl _ _).alloc (Nat.le_refl _) _
 have HS:=hid (hS.below hb0)
 have HE:=hid (hE.below hb0)
 clear hS hE
 go_enter Tryz.func7,Tryz.ntmps7
 go_wp2_with fail
 refine (playsAll _ sa cap _ L HS.out hl (by simp) (by simp) (by simp) (by simp) (by simp) (by simp) (by simp) HE.out).mono ?_;rintro e w1 ⟨rfl,hb1⟩
 have hb2:=hb0.trans (hb1.mono hb0.size)
 go_wp2_with fail
 go_ret
 exact ⟨rfl,hb2⟩
end Go.Proofs.YtopcgnjocklcoaaGreatDoor
