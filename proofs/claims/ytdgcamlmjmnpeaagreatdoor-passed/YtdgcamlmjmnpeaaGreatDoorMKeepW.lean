/- Package courierkeep: Built, given what Encode and Decode answer. -/
import Derived.Test.YtdgcamlmjmnpeaaGreatDoorMKeepV
namespace Go.Proofs.YtdgcamlmjmnpeaaGreatDoor
open Go.RowKit
def BPost (w:World) (e:Ending) (w':World):Prop:=e = .returned (.bool true) ∧ Below w.heap.size w w'
def InK64 (c:Int):Prop:=-9223372036854775808 ≤ c ∧ c ≤ 9223372036854775807
theorem ba_inj {a b:ByteArray} (h:a.toList = b.toList):a = b:=by
 rw [ByteArray.toList_eq,ByteArray.toList_eq] at h
 exact ByteArray.ext (Array.toList_inj.1 h)
theorem bys_cap {w:World} {lo:Nat} {a:Option Addr} {c:Nat} {L:List UInt8} (h:Bys w lo (.slice a L.length c) L):L.length ≤ c:=by
 rcases h.2 with ⟨e,h0⟩ | ⟨g,cap,cur,hv,h1,h2,h3,_⟩
 ·simp only [Value.slice.injEq] at e;omega
 ·simp only [Value.slice.injEq] at hv;omega
theorem Bys.rdk {w:World} {lo:Nat} {a:Option Addr} {c:Nat} {L:List UInt8} (h:Bys w lo (.slice a L.length c) L):RdK w (.slice a L.length c) L:=⟨h.rd,a,c,rfl,bys_cap h⟩
theorem strOf_ne {p q:List UInt8} (h:p ≠ q):((strOf p).toList == (strOf q).toList) = false:=by
 rw [strOf_toList,strOf_toList]
 exact beq_false_of_ne h
theorem rdk_cut {w:World} {lo:Nat} {a:Option Addr} {c:Nat} {L:List UInt8} (h:Bys w lo (.slice a L.length c) L) (h0:0 < L.length) (m:Nat) (hm:m = L.length - 1):RdK w (.slice a m c) L.dropLast:=by
 have hc:=bys_cap h
 have hl:L.dropLast.length = m:=by rw [List.length_dropLast,hm]
 refine ⟨?_,a,c,by rw [hl],by omega⟩
 rcases h.rd with ⟨_,e⟩ | ⟨a',c',hv,hcell⟩
 ·rw [e] at h0;simp at h0
 ·simp only [Value.slice.injEq] at hv
  refine Or.inr ⟨a',c,by rw [hl,hv.1],fun j u hu=>hcell j u ?_⟩
  rw [List.dropLast_eq_take,List.map_take,List.getElem?_take] at hu
  split at hu
  ·exact hu
  ·cases hu
set_option maxRecDepth 100000 in
set_option maxHeartbeats 4000000 in
theorem built_int {AE:ByteArray → ByteArray → Int → List UInt8 → Prop} {AD:ByteArray → List UInt8 → Int → List UInt8 → Prop} (n which:Int) (hn:InK64 n) (hwh:InK64 which) (w:World) (hT:Tab w) (hEn:EncHas w AE) (hDe:DecHas w AD) (hwk:pickN which 5 = 0) (hF:BFact AE AD (ByteArray.mk #[105,110,116]) (valW 0 (pickN n 1000)) (valW 0 (pickN n 1000 + 1))) :
  Calls Tryz.prog 3 #[.int .i64 n,.int .i64 which] w (BPost w):=by
 have HQ:=hid (show ∀ w',Calls Tryz.prog 6 #[.int .i64 which,.int .i64 5] w' (fun e w''=>e = .returned (.int .i64 0) ∧ w'' = w') from fun w'=>(pick_any which 5 w' (by decide) (by unfold maxLen;decide) hwh).mono (fun e w'' h=>⟨h.1.trans (by rw [hwk];rfl),h.2⟩))
 have HP:=hid (show ∀ w',Calls Tryz.prog 6 #[.int .i64 n,.int .i64 1000] w' (fun e w''=>e = .returned (.int .i64 ((pickN n 1000:Nat):Int)) ∧ w'' = w') from fun w'=>pick_any n 1000 w' (by decide) (by unfold maxLen;decide) hn)
 have hk:=pickN_lt n (show 0 < 1000 by decide)
 obtain ⟨p,q,hp,hq,hpq,f1,f2,f3,f4,f5,f6⟩:=hF.p
 clear hF hwk hwh hn
 generalize pickN n 1000 = k at *
 have HV:=hid (show ∀ (w':World) (x:Int) (m:Nat),Below w.heap.size w w' → x = (m:Int) → m ≤ 1000 → Calls Tryz.prog 7 #[.string (ByteArray.mk #[105,110,116]),.int .i64 x] w' (fun e w''=>∃ t:ByteArray,e = .returned (.string t) ∧ Below w.heap.size w w'' ∧ t.toList = valW 0 m ∧ t.size ≤ 200) from by
  intro w' x m hw' hx hm
  subst hx
  exact (value_int m (by omega) w' (hT.below hw')).mono (fun e w'' h=>by obtain ⟨t,h1,h2,h3,h4⟩:=h;exact ⟨t,h1,hw'.trans (h2.mono hw'.size),h3,h4⟩))
 have HEn:=hid hEn
 have HDe:=hid hDe
 have F1:=hid f1
 have F2:=hid f2
 have F3:=hid f3
 have F4:=hid f4
 have F5:=hid f5
 have F6:=hid f6
 have HNE:=hid hpq
 clear hT hEn hDe f1 f2 f3 f4 f5 f6 hpq
 go_enter Tryz.func3,Tryz.ntmps3
 go_wp2_with fail
 refine (HQ.out _).mono ?_;rintro e w1 ⟨rfl,hw1⟩
 have hh1:=(congrArg (fun x=>x.heap[w.heap.size]?) hw1).trans (heap_alloc_new w _)
 have hc1:w1.cell? ⟨w.heap.size,0,none⟩ = some (.string (ByteArray.mk #[105,110,116])):=(cell_row hh1 0).trans rfl
 have hb1:Below w.heap.size w w1:=by rw [hw1];exact (Below.refl _ _).alloc (Nat.le_refl _) _
 clear hw1 hh1
 go_wp2_with fail
 refine (HP.out _).mono ?_;rintro e w2 ⟨rfl,rfl⟩
 go_wp2_with fail
 refine (HV.out _ _ k hb1 rfl (by omega)).mono ?_;rintro e w2 ⟨v,rfl,hb2,hv,hvs⟩
 have HVV:=hid hv
 clear hv
 go_wp2_with fail
 refine (HP.out _).mono ?_;rintro e w3 ⟨rfl,rfl⟩
 go_wp2_with fail
 refine (HV.out _ _ (k + 1) hb2 (by omega) (by omega)).mono ?_;rintro e w3 ⟨o,rfl,hb3,ho,hos⟩
 have HOO:=hid ho
 clear ho
 go_wp2_with fail
 refine (HEn.out _ _ v hb3 (by omega)).mono ?_;rintro e w4 ⟨pa,pc,pb,E4,rfl,hb4,hB4,ha4⟩
 obtain ⟨rfl,hpp⟩:=F1.out _ E4 pb HVV.out ha4
 subst hpp
 have hb04:Below w.heap.size w w4:=hb3.trans (hb4.mono hb3.size)
 have HB4:=hid hB4
 clear ha4 hB4
 go_wp2_with fail
 refine (HEn.out _ _ o hb04 (by omega)).mono ?_;rintro e w5 ⟨qa,qc,qb,E5,rfl,hb5,hB5,ha5⟩
 obtain ⟨rfl,hqq⟩:=F2.out _ E5 qb HOO.out ha5
 subst hqq
 have hb05:Below w.heap.size w w5:=hb04.trans (hb5.mono hb04.size)
 have HB5:=hid hB5
 have HP5:=hid (HB4.out.same hb5)
 clear ha5 hB5 HB4
 go_wp2_with fail
 refine (HDe.out _ _ _ pb hb05 HP5.out.rdk (by omega)).mono ?_;rintro e w6 ⟨tt,E6,rfl,hb6,ha6⟩
 obtain ⟨rfl,htt⟩:=F3.out E6 _ ha6
 have hb06:Below w.heap.size w w6:=hb05.trans (hb6.mono hb05.size)
 have HP6:=hid (HP5.out.same hb6)
 have HQ6:=hid (HB5.out.same hb6)
 have hcp:=HP6.out.rd.conv
 have hcq:=HQ6.out.rd.conv
 have hne:=strOf_ne HNE.out
 have htv:tt = v:=ba_inj (htt.trans HVV.out.symm)
 subst htv
 have hz1:(ByteArray.mk #[32]).size = 1:=rfl
 have hov1:¬ 9223372036854775807 < tt.size + 1:=by omega
 clear htt ha6 HP5 HB5
 go_wp2_with fail
 refine (HEn.out _ _ (tt ++ ByteArray.mk #[32]) hb06 (by rw [ByteArray.size_append,hz1];omega)).mono ?_;rintro e w7 ⟨ra,rc,rb,E7,rfl,hb7,_,ha7⟩
 obtain rfl:=F4.out _ E7 rb (by rw [app_listW,HVV.out,litB]) ha7
 have hb07:Below w.heap.size w w7:=hb06.trans (hb7.mono hb06.size)
 have HP7:=hid (HP6.out.same hb7)
 clear ha7 HP6 hcp hcq
 go_wp2_with fail
 refine (HEn.out _ _ tt hb07 (by omega)).mono ?_;rintro e w8 ⟨sa,sc,sb,E8,rfl,hb8,_,ha8⟩
 obtain rfl:=F5.out _ E8 sb ha8
 have hb08:Below w.heap.size w w8:=hb07.trans (hb8.mono hb07.size)
 have HP8:=hid (HP7.out.same hb8)
 clear ha8 HP7
 go_wp2_with fail
 go_ret
 exact ⟨rfl,hb08⟩
set_option maxRecDepth 100000 in
set_option maxHeartbeats 4000000 in
theorem built_point {AE:ByteArray → ByteArray → Int → List UInt8 → Prop} {AD:ByteArray → List UInt8 → Int → List UInt8 → Prop} (n which:Int) (hn:InK64 n) (hwh:InK64 which) (w:World) (hT:Tab w) (hEn:EncHas w AE) (hDe:DecHas w AD) (hwk:pickN which 5 = 1) (hF:BFact AE AD (ByteArray.mk #[112,111,105,110,116]) (valW 1 (pickN n 1000)) (valW 1 (pickN n 1000 + 1))) :
  Calls Tryz.prog 3 #[.int .i64 n,.int .i64 which] w (BPost w):=by
 have HQ:=hid (show ∀ w',Calls Tryz.prog 6 #[.int .i64 which,.int .i64 5] w' (fun e w''=>e = .returned (.int .i64 1) ∧ w'' = w') from fun w'=>(pick_any which 5 w' (by decide) (by unfold maxLen;decide) hwh).mono (fun e w'' h=>⟨h.1.trans (by rw [hwk];rfl),h.2⟩))
 have HP:=hid (show ∀ w',Calls Tryz.prog 6 #[.int .i64 n,.int .i64 1000] w' (fun e w''=>e = .returned (.int .i64 ((pickN n 1000:Nat):Int)) ∧ w'' = w') from fun w'=>pick_any n 1000 w' (by decide) (by unfold maxLen;decide) hn)
 have hk:=pickN_lt n (show 0 < 1000 by decide)
 obtain ⟨p,q,hp,hq,hpq,f1,f2,f3,f4,f5,f6⟩:=hF.p
 clear hF hwk hwh hn
 generalize pickN n 1000 = k at *
 have HV:=hid (show ∀ (w':World) (x:Int) (m:Nat),Below w.heap.size w w' → x = (m:Int) → m ≤ 1000 → Calls Tryz.prog 7 #[.string (ByteArray.mk #[112,111,105,110,116]),.int .i64 x] w' (fun e w''=>∃ t:ByteArray,e = .returned (.string t) ∧ Below w.heap.size w w'' ∧ t.toList = valW 1 m ∧ t.size ≤ 200) from by
  intro w' x m hw' hx hm
  subst hx
  exact (value_pt m (by omega) w' (hT.below hw')).mono (fun e w'' h=>by obtain ⟨t,h1,h2,h3,h4⟩:=h;exact ⟨t,h1,hw'.trans (h2.mono hw'.size),h3,h4⟩))
 have HEn:=hid hEn
 have HDe:=hid hDe
 have F1:=hid f1
 have F2:=hid f2
 have F3:=hid f3
 have F4:=hid f4
 have F5:=hid f5
 have F6:=hid (f6 rfl)
 have HNE:=hid hpq
 clear hT hEn hDe f1 f2 f3 f4 f5 f6 hpq
 go_enter Tryz.func3,Tryz.ntmps3
 go_wp2_with fail
 refine (HQ.out _).mono ?_;rintro e w1 ⟨rfl,hw1⟩
 have hh1:=(congrArg (fun x=>x.heap[w.heap.size]?) hw1).trans (heap_alloc_new w _)
 have hc1:w1.cell? ⟨w.heap.size,1,none⟩ = some (.string (ByteArray.mk #[112,111,105,110,116])):=(cell_row hh1 1).trans rfl
 have hb1:Below w.heap.size w w1:=by rw [hw1];exact (Below.refl _ _).alloc (Nat.le_refl _) _
 clear hw1 hh1
 go_wp2_with fail
 refine (HP.out _).mono ?_;rintro e w2 ⟨rfl,rfl⟩
 go_wp2_with fail
 refine (HV.out _ _ k hb1 rfl (by omega)).mono ?_;rintro e w2 ⟨v,rfl,hb2,hv,hvs⟩
 have HVV:=hid hv
 clear hv
 go_wp2_with fail
 refine (HP.out _).mono ?_;rintro e w3 ⟨rfl,rfl⟩
 go_wp2_with fail
 refine (HV.out _ _ (k + 1) hb2 (by omega) (by omega)).mono ?_;rintro e w3 ⟨o,rfl,hb3,ho,hos⟩
 have HOO:=hid ho
 clear ho
 go_wp2_with fail
 refine (HEn.out _ _ v hb3 (by omega)).mono ?_;rintro e w4 ⟨pa,pc,pb,E4,rfl,hb4,hB4,ha4⟩
 obtain ⟨rfl,hpp⟩:=F1.out _ E4 pb HVV.out ha4
 subst hpp
 have hb04:Below w.heap.size w w4:=hb3.trans (hb4.mono hb3.size)
 have HB4:=hid hB4
 clear ha4 hB4
 go_wp2_with fail
 refine (HEn.out _ _ o hb04 (by omega)).mono ?_;rintro e w5 ⟨qa,qc,qb,E5,rfl,hb5,hB5,ha5⟩
 obtain ⟨rfl,hqq⟩:=F2.out _ E5 qb HOO.out ha5
 subst hqq
 have hb05:Below w.heap.size w w5:=hb04.trans (hb5.mono hb04.size)
 have HB5:=hid hB5
 have HP5:=hid (HB4.out.same hb5)
 clear ha5 hB5 HB4
 go_wp2_with fail
 refine (HDe.out _ _ _ pb hb05 HP5.out.rdk (by omega)).mono ?_;rintro e w6 ⟨tt,E6,rfl,hb6,ha6⟩
 obtain ⟨rfl,htt⟩:=F3.out E6 _ ha6
 have hb06:Below w.heap.size w w6:=hb05.trans (hb6.mono hb05.size)
 have HP6:=hid (HP5.out.same hb6)
 have HQ6:=hid (HB5.out.same hb6)
 have hcp:=HP6.out.rd.conv
 have hcq:=HQ6.out.rd.conv
 have hne:=strOf_ne HNE.out
 have htv:tt = v:=ba_inj (htt.trans HVV.out.symm)
 subst htv
 have hz1:(ByteArray.mk #[32]).size = 1:=rfl
 have hov1:¬ 9223372036854775807 < tt.size + 1:=by omega
 clear htt ha6 HP5 HB5
 go_wp2_with fail
 refine (HEn.out _ _ (tt ++ ByteArray.mk #[32]) hb06 (by rw [ByteArray.size_append,hz1];omega)).mono ?_;rintro e w7 ⟨ra,rc,rb,E7,rfl,hb7,_,ha7⟩
 obtain rfl:=F4.out _ E7 rb (by rw [app_listW,HVV.out,litB]) ha7
 have hb07:Below w.heap.size w w7:=hb06.trans (hb7.mono hb06.size)
 have HP7:=hid (HP6.out.same hb7)
 clear ha7 HP6 hcp hcq
 go_wp2_with fail
 refine (HEn.out _ _ tt hb07 (by omega)).mono ?_;rintro e w8 ⟨sa,sc,sb,E8,rfl,hb8,_,ha8⟩
 obtain rfl:=F5.out _ E8 sb ha8
 have hb08:Below w.heap.size w w8:=hb07.trans (hb8.mono hb07.size)
 have HP8:=hid (HP7.out.same hb8)
 clear ha8 HP7
 have hcap:=bys_cap HP8.out
 have hpl:=F6.out.1
 go_wp2_with fail
 refine (HDe.out _ _ _ pb.dropLast hb08 (rdk_cut HP8.out hpl _ (by omega)) (by rw [List.length_dropLast];omega)).mono ?_;rintro e w9 ⟨t9,E9,rfl,hb9,ha9⟩
 obtain rfl:=F6.out.2.1 E9 _ ha9
 have hb09:Below w.heap.size w w9:=hb08.trans (hb9.mono hb08.size)
 have HP9:=hid (HP8.out.same hb9)
 clear ha9 HP8
 obtain ⟨M,HM⟩:∃ M,Hid (pb ++ [1] = M):=⟨_,hid rfl⟩
 have hMl:M.length ≤ 65:=by rw [← HM.out,List.length_append,List.length_singleton];omega
 have hlo:w3.heap.size ≤ w9.heap.size:=by have h1:=hb4.size;have h2:=hb5.size;have h3:=hb6.size;have h4:=hb7.size;have h5:=hb8.size;have h6:=hb9.size;omega
 have hal:Below w9.heap.size w9 (w9.alloc (.cells #[.int .u8 1] 5)):=(Below.refl _ _).alloc (Nat.le_refl _) _
 go_wp2_with (at_builtin;refine wpList_append_rd _ rfl (.tmp 110) (.tmp 111) rfl _ pb w3.heap.size rfl (HP9.out.same hal) _ [1] rfl (bys_one w9 1 1 rfl).rd M HM.out (by simp;omega) (by have:=hal.size;omega) ?_)
 intro a10 c10 w10 hb10 hg10
 have hbA:Below w.heap.size w w10:=(hb09.trans (hal.mono hb09.size)).trans (hg10.below (fun k hk=>Nat.le_trans hb3.size (HP9.out.lt k hk).1) (Nat.le_trans hb09.size hal.size))
 have HBA:=hid hb10
 clear hb10 hg10
 go_wp2_with fail
 refine (HDe.out _ _ _ M hbA HBA.out.rdk (by omega)).mono ?_;rintro e w11 ⟨t11,E11,rfl,hb11,ha11⟩
 obtain rfl:=F6.out.2.2 E11 _ (by rw [HM.out];exact ha11)
 have hb0:Below w.heap.size w w11:=hbA.trans (hb11.mono hbA.size)
 go_wp2_with fail
 go_ret
 exact ⟨rfl,hb0⟩
set_option maxRecDepth 100000 in
set_option maxHeartbeats 4000000 in
theorem built_color {AE:ByteArray → ByteArray → Int → List UInt8 → Prop} {AD:ByteArray → List UInt8 → Int → List UInt8 → Prop} (n which:Int) (hn:InK64 n) (hwh:InK64 which) (w:World) (hT:Tab w) (hEn:EncHas w AE) (hDe:DecHas w AD) (hwk:pickN which 5 = 2) (hF:BFact AE AD (ByteArray.mk #[99,111,108,111,114]) (valW 2 (pickN n 1000)) (valW 2 (pickN n 1000 + 1))) :
  Calls Tryz.prog 3 #[.int .i64 n,.int .i64 which] w (BPost w):=by
 have HQ:=hid (show ∀ w',Calls Tryz.prog 6 #[.int .i64 which,.int .i64 5] w' (fun e w''=>e = .returned (.int .i64 2) ∧ w'' = w') from fun w'=>(pick_any which 5 w' (by decide) (by unfold maxLen;decide) hwh).mono (fun e w'' h=>⟨h.1.trans (by rw [hwk];rfl),h.2⟩))
 have HP:=hid (show ∀ w',Calls Tryz.prog 6 #[.int .i64 n,.int .i64 1000] w' (fun e w''=>e = .returned (.int .i64 ((pickN n 1000:Nat):Int)) ∧ w'' = w') from fun w'=>pick_any n 1000 w' (by decide) (by unfold maxLen;decide) hn)
 have hk:=pickN_lt n (show 0 < 1000 by decide)
 obtain ⟨p,q,hp,hq,hpq,f1,f2,f3,f4,f5,f6⟩:=hF.p
 clear hF hwk hwh hn
 generalize pickN n 1000 = k at *
 have HV:=hid (show ∀ (w':World) (x:Int) (m:Nat),Below w.heap.size w w' → x = (m:Int) → m ≤ 1000 → Calls Tryz.prog 7 #[.string (ByteArray.mk #[99,111,108,111,114]),.int .i64 x] w' (fun e w''=>∃ t:ByteArray,e = .returned (.string t) ∧ Below w.heap.size w w'' ∧ t.toList = valW 2 m ∧ t.size ≤ 200) from by
  intro w' x m hw' hx hm
  subst hx
  exact (value_color m (by omega) w' (hT.below hw')).mono (fun e w'' h=>by obtain ⟨t,h1,h2,h3,h4⟩:=h;exact ⟨t,h1,hw'.trans (h2.mono hw'.size),h3,h4⟩))
 have HEn:=hid hEn
 have HDe:=hid hDe
 have F1:=hid f1
 have F2:=hid f2
 have F3:=hid f3
 have F4:=hid f4
 have F5:=hid f5
 have F6:=hid f6
 have HNE:=hid hpq
 clear hT hEn hDe f1 f2 f3 f4 f5 f6 hpq
 go_enter Tryz.func3,Tryz.ntmps3
 go_wp2_with fail
 refine (HQ.out _).mono ?_;rintro e w1 ⟨rfl,hw1⟩
 have hh1:=(congrArg (fun x=>x.heap[w.heap.size]?) hw1).trans (heap_alloc_new w _)
 have hc1:w1.cell? ⟨w.heap.size,2,none⟩ = some (.string (ByteArray.mk #[99,111,108,111,114])):=(cell_row hh1 2).trans rfl
 have hb1:Below w.heap.size w w1:=by rw [hw1];exact (Below.refl _ _).alloc (Nat.le_refl _) _
 clear hw1 hh1
 go_wp2_with fail
 refine (HP.out _).mono ?_;rintro e w2 ⟨rfl,rfl⟩
 go_wp2_with fail
 refine (HV.out _ _ k hb1 rfl (by omega)).mono ?_;rintro e w2 ⟨v,rfl,hb2,hv,hvs⟩
 have HVV:=hid hv
 clear hv
 go_wp2_with fail
 refine (HP.out _).mono ?_;rintro e w3 ⟨rfl,rfl⟩
 go_wp2_with fail
 refine (HV.out _ _ (k + 1) hb2 (by omega) (by omega)).mono ?_;rintro e w3 ⟨o,rfl,hb3,ho,hos⟩
 have HOO:=hid ho
 clear ho
 go_wp2_with fail
 refine (HEn.out _ _ v hb3 (by omega)).mono ?_;rintro e w4 ⟨pa,pc,pb,E4,rfl,hb4,hB4,ha4⟩
 obtain ⟨rfl,hpp⟩:=F1.out _ E4 pb HVV.out ha4
 subst hpp
 have hb04:Below w.heap.size w w4:=hb3.trans (hb4.mono hb3.size)
 have HB4:=hid hB4
 clear ha4 hB4
 go_wp2_with fail
 refine (HEn.out _ _ o hb04 (by omega)).mono ?_;rintro e w5 ⟨qa,qc,qb,E5,rfl,hb5,hB5,ha5⟩
 obtain ⟨rfl,hqq⟩:=F2.out _ E5 qb HOO.out ha5
 subst hqq
 have hb05:Below w.heap.size w w5:=hb04.trans (hb5.mono hb04.size)
 have HB5:=hid hB5
 have HP5:=hid (HB4.out.same hb5)
 clear ha5 hB5 HB4
 go_wp2_with fail
 refine (HDe.out _ _ _ pb hb05 HP5.out.rdk (by omega)).mono ?_;rintro e w6 ⟨tt,E6,rfl,hb6,ha6⟩
 obtain ⟨rfl,htt⟩:=F3.out E6 _ ha6
 have hb06:Below w.heap.size w w6:=hb05.trans (hb6.mono hb05.size)
 have HP6:=hid (HP5.out.same hb6)
 have HQ6:=hid (HB5.out.same hb6)
 have hcp:=HP6.out.rd.conv
 have hcq:=HQ6.out.rd.conv
 have hne:=strOf_ne HNE.out
 have htv:tt = v:=ba_inj (htt.trans HVV.out.symm)
 subst htv
 have hz1:(ByteArray.mk #[32]).size = 1:=rfl
 have hov1:¬ 9223372036854775807 < tt.size + 1:=by omega
 clear htt ha6 HP5 HB5
 go_wp2_with fail
 refine (HEn.out _ _ (tt ++ ByteArray.mk #[32]) hb06 (by rw [ByteArray.size_append,hz1];omega)).mono ?_;rintro e w7 ⟨ra,rc,rb,E7,rfl,hb7,_,ha7⟩
 obtain rfl:=F4.out _ E7 rb (by rw [app_listW,HVV.out,litB]) ha7
 have hb07:Below w.heap.size w w7:=hb06.trans (hb7.mono hb06.size)
 have HP7:=hid (HP6.out.same hb7)
 clear ha7 HP6 hcp hcq
 go_wp2_with fail
 refine (HEn.out _ _ tt hb07 (by omega)).mono ?_;rintro e w8 ⟨sa,sc,sb,E8,rfl,hb8,_,ha8⟩
 obtain rfl:=F5.out _ E8 sb ha8
 have hb08:Below w.heap.size w w8:=hb07.trans (hb8.mono hb07.size)
 have HP8:=hid (HP7.out.same hb8)
 clear ha8 HP7
 go_wp2_with fail
 go_ret
 exact ⟨rfl,hb08⟩
set_option maxRecDepth 100000 in
set_option maxHeartbeats 4000000 in
theorem built_text {AE:ByteArray → ByteArray → Int → List UInt8 → Prop} {AD:ByteArray → List UInt8 → Int → List UInt8 → Prop} (n which:Int) (hn:InK64 n) (hwh:InK64 which) (w:World) (hT:Tab w) (hEn:EncHas w AE) (hDe:DecHas w AD) (hwk:pickN which 5 = 3) (hF:BFact AE AD (ByteArray.mk #[116,101,120,116]) (valW 3 (pickN n 1000)) (valW 3 (pickN n 1000 + 1))) :
  Calls Tryz.prog 3 #[.int .i64 n,.int .i64 which] w (BPost w):=by
 have HQ:=hid (show ∀ w',Calls Tryz.prog 6 #[.int .i64 which,.int .i64 5] w' (fun e w''=>e = .returned (.int .i64 3) ∧ w'' = w') from fun w'=>(pick_any which 5 w' (by decide) (by unfold maxLen;decide) hwh).mono (fun e w'' h=>⟨h.1.trans (by rw [hwk];rfl),h.2⟩))
 have HP:=hid (show ∀ w',Calls Tryz.prog 6 #[.int .i64 n,.int .i64 1000] w' (fun e w''=>e = .returned (.int .i64 ((pickN n 1000:Nat):Int)) ∧ w'' = w') from fun w'=>pick_any n 1000 w' (by decide) (by unfold maxLen;decide) hn)
 have hk:=pickN_lt n (show 0 < 1000 by decide)
 obtain ⟨p,q,hp,hq,hpq,f1,f2,f3,f4,f5,f6⟩:=hF.p
 clear hF hwk hwh hn
 generalize pickN n 1000 = k at *
 have HV:=hid (show ∀ (w':World) (x:Int) (m:Nat),Below w.heap.size w w' → x = (m:Int) → m ≤ 1000 → Calls Tryz.prog 7 #[.string (ByteArray.mk #[116,101,120,116]),.int .i64 x] w' (fun e w''=>∃ t:ByteArray,e = .returned (.string t) ∧ Below w.heap.size w w'' ∧ t.toList = valW 3 m ∧ t.size ≤ 200) from by
  intro w' x m hw' hx hm
  subst hx
  exact (value_text m (by omega) w' (hT.below hw')).mono (fun e w'' h=>by obtain ⟨t,h1,h2,h3,h4⟩:=h;exact ⟨t,h1,hw'.trans (h2.mono hw'.size),h3,h4⟩))
 have HEn:=hid hEn
 have HDe:=hid hDe
 have F1:=hid f1
 have F2:=hid f2
 have F3:=hid f3
 have F4:=hid f4
 have F5:=hid f5
 have F6:=hid f6
 have HNE:=hid hpq
 clear hT hEn hDe f1 f2 f3 f4 f5 f6 hpq
 go_enter Tryz.func3,Tryz.ntmps3
 go_wp2_with fail
 refine (HQ.out _).mono ?_;rintro e w1 ⟨rfl,hw1⟩
 have hh1:=(congrArg (fun x=>x.heap[w.heap.size]?) hw1).trans (heap_alloc_new w _)
 have hc1:w1.cell? ⟨w.heap.size,3,none⟩ = some (.string (ByteArray.mk #[116,101,120,116])):=(cell_row hh1 3).trans rfl
 have hb1:Below w.heap.size w w1:=by rw [hw1];exact (Below.refl _ _).alloc (Nat.le_refl _) _
 clear hw1 hh1
 go_wp2_with fail
 refine (HP.out _).mono ?_;rintro e w2 ⟨rfl,rfl⟩
 go_wp2_with fail
 refine (HV.out _ _ k hb1 rfl (by omega)).mono ?_;rintro e w2 ⟨v,rfl,hb2,hv,hvs⟩
 have HVV:=hid hv
 clear hv
 go_wp2_with fail
 refine (HP.out _).mono ?_;rintro e w3 ⟨rfl,rfl⟩
 go_wp2_with fail
 refine (HV.out _ _ (k + 1) hb2 (by omega) (by omega)).mono ?_;rintro e w3 ⟨o,rfl,hb3,ho,hos⟩
 have HOO:=hid ho
 clear ho
 go_wp2_with fail
 refine (HEn.out _ _ v hb3 (by omega)).mono ?_;rintro e w4 ⟨pa,pc,pb,E4,rfl,hb4,hB4,ha4⟩
 obtain ⟨rfl,hpp⟩:=F1.out _ E4 pb HVV.out ha4
 subst hpp
 have hb04:Below w.heap.size w w4:=hb3.trans (hb4.mono hb3.size)
 have HB4:=hid hB4
 clear ha4 hB4
 go_wp2_with fail
 refine (HEn.out _ _ o hb04 (by omega)).mono ?_;rintro e w5 ⟨qa,qc,qb,E5,rfl,hb5,hB5,ha5⟩
 obtain ⟨rfl,hqq⟩:=F2.out _ E5 qb HOO.out ha5
 subst hqq
 have hb05:Below w.heap.size w w5:=hb04.trans (hb5.mono hb04.size)
 have HB5:=hid hB5
 have HP5:=hid (HB4.out.same hb5)
 clear ha5 hB5 HB4
 go_wp2_with fail
 refine (HDe.out _ _ _ pb hb05 HP5.out.rdk (by omega)).mono ?_;rintro e w6 ⟨tt,E6,rfl,hb6,ha6⟩
 obtain ⟨rfl,htt⟩:=F3.out E6 _ ha6
 have hb06:Below w.heap.size w w6:=hb05.trans (hb6.mono hb05.size)
 have HP6:=hid (HP5.out.same hb6)
 have HQ6:=hid (HB5.out.same hb6)
 have hcp:=HP6.out.rd.conv
 have hcq:=HQ6.out.rd.conv
 have hne:=strOf_ne HNE.out
 have htv:tt = v:=ba_inj (htt.trans HVV.out.symm)
 subst htv
 have hz1:(ByteArray.mk #[32]).size = 1:=rfl
 have hov1:¬ 9223372036854775807 < tt.size + 1:=by omega
 clear htt ha6 HP5 HB5
 go_wp2_with fail
 refine (HEn.out _ _ (tt ++ ByteArray.mk #[32]) hb06 (by rw [ByteArray.size_append,hz1];omega)).mono ?_;rintro e w7 ⟨ra,rc,rb,E7,rfl,hb7,_,ha7⟩
 obtain rfl:=F4.out _ E7 rb (by rw [app_listW,HVV.out,litB]) ha7
 have hb07:Below w.heap.size w w7:=hb06.trans (hb7.mono hb06.size)
 have HP7:=hid (HP6.out.same hb7)
 clear ha7 HP6 hcp hcq
 go_wp2_with fail
 refine (HEn.out _ _ tt hb07 (by omega)).mono ?_;rintro e w8 ⟨sa,sc,sb,E8,rfl,hb8,_,ha8⟩
 obtain rfl:=F5.out _ E8 sb ha8
 have hb08:Below w.heap.size w w8:=hb07.trans (hb8.mono hb07.size)
 have HP8:=hid (HP7.out.same hb8)
 clear ha8 HP7
 go_wp2_with fail
 go_ret
 exact ⟨rfl,hb08⟩
set_option maxRecDepth 100000 in
set_option maxHeartbeats 4000000 in
theorem built_bool {AE:ByteArray → ByteArray → Int → List UInt8 → Prop} {AD:ByteArray → List UInt8 → Int → List UInt8 → Prop} (n which:Int) (hn:InK64 n) (hwh:InK64 which) (w:World) (hEn:EncHas w AE) (hDe:DecHas w AD) (hwk:pickN which 5 = 4) (hF:BFact AE AD (ByteArray.mk #[98,111,111,108]) ([116,114,117,101]) ([102,97,108,115,101])) :
  Calls Tryz.prog 3 #[.int .i64 n,.int .i64 which] w (BPost w):=by
 have HQ:=hid (show ∀ w',Calls Tryz.prog 6 #[.int .i64 which,.int .i64 5] w' (fun e w''=>e = .returned (.int .i64 4) ∧ w'' = w') from fun w'=>(pick_any which 5 w' (by decide) (by unfold maxLen;decide) hwh).mono (fun e w'' h=>⟨h.1.trans (by rw [hwk];rfl),h.2⟩))
 have HP:=hid (show ∀ w',Calls Tryz.prog 6 #[.int .i64 n,.int .i64 1000] w' (fun e w''=>e = .returned (.int .i64 ((pickN n 1000:Nat):Int)) ∧ w'' = w') from fun w'=>pick_any n 1000 w' (by decide) (by unfold maxLen;decide) hn)
 have hk:=pickN_lt n (show 0 < 1000 by decide)
 obtain ⟨p,q,hp,hq,hpq,f1,f2,f3,f4,f5,f6⟩:=hF.p
 clear hF hwk hwh hn
 generalize pickN n 1000 = k at *
 have HEn:=hid hEn
 have HDe:=hid hDe
 have F1:=hid f1
 have F2:=hid f2
 have F3:=hid f3
 have F4:=hid f4
 have F5:=hid f5
 have F6:=hid f6
 have HNE:=hid hpq
 clear hEn hDe f1 f2 f3 f4 f5 f6 hpq
 go_enter Tryz.func3,Tryz.ntmps3
 go_wp2_with fail
 refine (HQ.out _).mono ?_;rintro e w1 ⟨rfl,hw1⟩
 have hh1:=(congrArg (fun x=>x.heap[w.heap.size]?) hw1).trans (heap_alloc_new w _)
 have hc1:w1.cell? ⟨w.heap.size,4,none⟩ = some (.string (ByteArray.mk #[98,111,111,108])):=(cell_row hh1 4).trans rfl
 have hb1:Below w.heap.size w w1:=by rw [hw1];exact (Below.refl _ _).alloc (Nat.le_refl _) _
 clear hw1 hh1
 go_wp2_with fail
 have HVV:=hid (show (ByteArray.mk #[116,114,117,101]).toList = [116,114,117,101] by rw [ByteArray.toList_eq])
 have HOO:=hid (show (ByteArray.mk #[102,97,108,115,101]).toList = [102,97,108,115,101] by rw [ByteArray.toList_eq])
 have hb3:=hb1
 refine (HEn.out _ _ (ByteArray.mk #[116,114,117,101]) hb3 (by decide)).mono ?_;rintro e w4 ⟨pa,pc,pb,E4,rfl,hb4,hB4,ha4⟩
 obtain ⟨rfl,hpp⟩:=F1.out _ E4 pb HVV.out ha4
 subst hpp
 have hb04:Below w.heap.size w w4:=hb3.trans (hb4.mono hb3.size)
 have HB4:=hid hB4
 clear ha4 hB4
 go_wp2_with fail
 refine (HEn.out _ _ (ByteArray.mk #[102,97,108,115,101]) hb04 (by decide)).mono ?_;rintro e w5 ⟨qa,qc,qb,E5,rfl,hb5,hB5,ha5⟩
 obtain ⟨rfl,hqq⟩:=F2.out _ E5 qb HOO.out ha5
 subst hqq
 have hb05:Below w.heap.size w w5:=hb04.trans (hb5.mono hb04.size)
 have HB5:=hid hB5
 have HP5:=hid (HB4.out.same hb5)
 clear ha5 hB5 HB4
 go_wp2_with fail
 refine (HDe.out _ _ _ pb hb05 HP5.out.rdk (by omega)).mono ?_;rintro e w6 ⟨tt,E6,rfl,hb6,ha6⟩
 obtain ⟨rfl,htt⟩:=F3.out E6 _ ha6
 have hb06:Below w.heap.size w w6:=hb05.trans (hb6.mono hb05.size)
 have HP6:=hid (HP5.out.same hb6)
 have HQ6:=hid (HB5.out.same hb6)
 have hcp:=HP6.out.rd.conv
 have hcq:=HQ6.out.rd.conv
 have hne:=strOf_ne HNE.out
 have htv:tt = ByteArray.mk #[116,114,117,101]:=ba_inj (htt.trans HVV.out.symm)
 subst htv
 clear htt ha6 HP5 HB5
 go_wp2_with fail
 refine (HEn.out _ _ _ hb06 (by decide)).mono ?_;rintro e w7 ⟨ra,rc,rb,E7,rfl,hb7,_,ha7⟩
 obtain rfl:=F4.out _ E7 rb (by rw [ByteArray.toList_eq];rfl) ha7
 have hb07:Below w.heap.size w w7:=hb06.trans (hb7.mono hb06.size)
 have HP7:=hid (HP6.out.same hb7)
 clear ha7 HP6 hcp hcq
 go_wp2_with fail
 refine (HEn.out _ _ (ByteArray.mk #[116,114,117,101]) hb07 (by decide)).mono ?_;rintro e w8 ⟨sa,sc,sb,E8,rfl,hb8,_,ha8⟩
 obtain rfl:=F5.out _ E8 sb ha8
 have hb08:Below w.heap.size w w8:=hb07.trans (hb8.mono hb07.size)
 have HP8:=hid (HP7.out.same hb8)
 clear ha8 HP7
 go_wp2_with fail
 go_ret
 exact ⟨rfl,hb08⟩
end Go.Proofs.YtdgcamlmjmnpeaaGreatDoor
namespace Go.Proofs.YtdgcamlmjmnpeaaGreatDoor
open Go.RowKit
def endsA (off:Nat → Nat) (m:Nat):Array Value:=#[.int .i64 (if 0 < m then off 1 else 0:Nat),.int .i64 (if 1 < m then off 2 else 0:Nat),.int .i64 (if 2 < m then off 3 else 0:Nat),.int .i64 (if 3 < m then off 4 else 0:Nat)]
theorem endsA_step (off:Nat → Nat) (m:Nat) (hm:m < 4):(endsA off m).setIfInBounds m (.int .i64 (off (m + 1):Nat)) = endsA off (m + 1):=by
 have:m = 0 ∨ m = 1 ∨ m = 2 ∨ m = 3:=by omega
 rcases this with rfl | rfl | rfl | rfl <;> rfl
theorem PFact.up {p:List UInt8} {off:Nat → Nat} (h:PFact p off):2 ≤ off 1 ∧ off 1 + 2 ≤ off 2 ∧ off 2 + 2 ≤ off 3 ∧ off 3 + 2 ≤ off 4 ∧ off 4 = p.length ∧ p.length ≤ 40:=by
 obtain ⟨_,c0,_,h0⟩:=h.s 0 (by omega)
 obtain ⟨_,c1,_,h1⟩:=h.s 1 (by omega)
 obtain ⟨_,c2,_,h2⟩:=h.s 2 (by omega)
 obtain ⟨_,c3,_,h3⟩:=h.s 3 (by omega)
 have:=h.z
 simp only [Nat.reduceAdd] at h0 h1 h2 h3
 exact ⟨by omega,by omega,by omega,by omega,h.e,h.l⟩
theorem rd_take {w:World} {a:Option Addr} {n c:Nat} {L:List UInt8} (h:Rd w (.slice a n c) L) (m:Nat) (hm:m ≤ L.length) (h0:0 < L.length):Rd w (.slice a m c) (L.take m):=by
 rcases h with ⟨_,e⟩ | ⟨a',c',hv,hcell⟩
 ·rw [e] at h0;simp at h0
 ·simp only [Value.slice.injEq] at hv
  refine Or.inr ⟨a',c,by rw [hv.1,List.length_take,Nat.min_eq_left hm],fun j u hu=>hcell j u ?_⟩
  rw [List.map_take,List.getElem?_take] at hu
  split at hu
  ·exact hu
  ·cases hu
theorem rd_drop {w:World} {g:Nat} {n c c2 k:Nat} {L:List UInt8} (h:Rd w (.slice (some ⟨g,0,none⟩) n c) L) (m:Nat) (hk:k = L.length - m):Rd w (.slice (some ⟨g,m,none⟩) k c2) (L.drop m):=by
 subst hk
 rcases h with ⟨e,_⟩ | ⟨a',c',hv,hcell⟩
 ·cases e
 ·simp only [Value.slice.injEq,Option.some.injEq] at hv
  obtain ⟨rfl,_,_⟩:=hv
  refine Or.inr ⟨_,c2,by rw [List.length_drop],fun j u hu=>?_⟩
  rw [List.map_drop,List.getElem?_drop] at hu
  have:=hcell (m + j) u hu
  rw [rd_add _ _ rfl] at this ⊢
  simpa using this
theorem two_bytes (w:World) (b c:UInt8) (y z:Int) (hy:y = (b.toNat:Int)) (hz:z = (c.toNat:Int)):Bys (w.alloc (.cells #[.int .u8 y,.int .u8 z] 5)) w.heap.size (.slice (some ⟨w.heap.size,0,none⟩) 2 2) [b,c]:=by
 subst hy hz
 exact World.ownsRow_lit (base:=w.heap.size) (e:=5) (size:=1) w #[.int .u8 b.toNat,.int .u8 c.toNat] 2 (Nat.le_refl _) (by unfold maxLen;omega) rfl
theorem bys_set {w:World} {lo g i:Nat} {L:List UInt8} {n c:Nat} (h:Bys w lo (.slice (some ⟨g,0,none⟩) n c) L) (hn:n = L.length) (b:UInt8) (z:Int) (hz:z = (b.toNat:Int)):Bys (w.setCell ⟨g,i,none⟩ (.int .u8 z)) lo (.slice (some ⟨g,0,none⟩) n c) (L.set i b):=by
 subst hn hz
 rcases h.2 with ⟨e,h0⟩ | ⟨g',cap,cur,hv,h1,h2,h3,h4,h5,h6⟩
 ·cases e
 ·simp only [Value.slice.injEq,Option.some.injEq,Addr.mk.injEq] at hv
  obtain ⟨⟨rfl,_,_⟩,_,rfl⟩:=hv
  have hl:(L.set i b).length = L.length:=by simp
  refine ⟨by simp,.inr ⟨g,c,cur.setIfInBounds i (.int .u8 b.toNat),by rw [hl],h1,?_,by omega,h4,by simpa using h5,?_⟩⟩
  ·exact heap_setCell_same w g i cur _ _ h2
  ·rw [Nat.mul_one] at h6 ⊢
   rw [Array.toList_setIfInBounds,hl,List.take_set,h6,List.map_set]
   rfl
theorem bys_rdk {w:World} {lo:Nat} {a:Option Addr} {n c:Nat} {L:List UInt8} (h:Bys w lo (.slice a n c) L) (hn:n = L.length):RdK w (.slice a n c) L:=by
 subst hn
 exact h.rdk
theorem rd_none {w:World} {a:Addr} {k c:Nat} {L:List UInt8} (h:L = []) (hk:k = 0):Rd w (.slice (some a) k c) L:=Or.inr ⟨a,c,by rw [h,hk];rfl,fun j u hu=>by rw [h] at hu;simp at hu⟩
theorem set_mid (A r:List UInt8) (x b:UInt8) (n:Nat) (h:n = A.length):(A ++ x :: r).set n b = A ++ b :: r:=by
 subst h
 rw [List.set_append_right _ _ (Nat.le_refl _),Nat.sub_self]
 rfl
end Go.Proofs.YtdgcamlmjmnpeaaGreatDoor
