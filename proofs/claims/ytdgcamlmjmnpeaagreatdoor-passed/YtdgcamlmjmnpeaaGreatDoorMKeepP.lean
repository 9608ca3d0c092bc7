/- Package courierkeep: Passed, the part more behind part 2, given what Encode and Decode answer. -/
import Derived.Test.YtdgcamlmjmnpeaaGreatDoorMKeepW
namespace Go.Proofs.YtdgcamlmjmnpeaaGreatDoor
open Go.RowKit
set_option maxRecDepth 100000 in
set_option maxHeartbeats 8000000 in
theorem passed_1 {AE:ByteArray → ByteArray → Int → List UInt8 → Prop} {AD:ByteArray → List UInt8 → Int → List UInt8 → Prop} (n at_:Int) (hn:InK64 n) (hat:InK64 at_) (w:World) (ba:Option Addr) (bc:Nat) (u:List UInt8) (hu:Rd w (.slice ba u.length bc) u) (hul:u.length ≤ maxLen) (hT:Tab w) (hEn:EncHas w AE) (hDe:DecHas w AD) (hJ:pickN at_ 3 = 0) (p:List UInt8) (off:Nat → Nat) (hF:PasFact AE AD (valW 1 (2 * pickN n 100)) u 1 3 p off) :
  Calls Tryz.prog 4 #[.int .i64 n,.int .i64 at_,.slice ba u.length bc] w (BPost w):=by
 have HQ:=hid (show ∀ w',Calls Tryz.prog 6 #[.int .i64 at_,.int .i64 3] w' (fun e w''=>e = .returned (.int .i64 0) ∧ w'' = w') from fun w'=>(pick_any at_ 3 w' (by decide) (by unfold maxLen;decide) hat).mono (fun e w'' h=>⟨h.1.trans (by rw [hJ];rfl),h.2⟩))
 have HP:=hid (show ∀ w',Calls Tryz.prog 6 #[.int .i64 n,.int .i64 100] w' (fun e w''=>e = .returned (.int .i64 ((pickN n 100:Nat):Int)) ∧ w'' = w') from fun w'=>pick_any n 100 w' (by decide) (by unfold maxLen;decide) hn)
 have hk:=pickN_lt n (show 0 < 100 by decide)
 unfold maxLen at hul
 have hup:=hF.pf.up
 have FE:=hid hF.enc
 have PF:=hid hF.pf
 have FO:=hid hF.ok
 have FX:=hid hF.bad
 clear hF hJ hat hn
 generalize pickN n 100 = k at *
 have HV:=hid (show ∀ (w':World) (x:Int) (m:Nat),Below w.heap.size w w' → x = (m:Int) → m ≤ 1000 → Calls Tryz.prog 7 #[.string (ByteArray.mk #[112,111,105,110,116]),.int .i64 x] w' (fun e w''=>∃ t:ByteArray,e = .returned (.string t) ∧ Below w.heap.size w w'' ∧ t.toList = valW 1 m ∧ t.size ≤ 200) from by
  intro w' x m hw' hx hm
  subst hx
  exact (value_pt m (by omega) w' (hT.below hw')).mono (fun e w'' h=>by obtain ⟨t,h1,h2,h3,h4⟩:=h;exact ⟨t,h1,hw'.trans (h2.mono hw'.size),h3,h4⟩))
 have HEn:=hid hEn
 have HDe:=hid hDe
 have HU:=hid hu
 clear hT hEn hDe hu
 go_enter Tryz.func4,Tryz.ntmps4
 go_wp2_with fail
 refine (HP.out _).mono ?_;rintro e w1 ⟨rfl,rfl⟩
 go_wp2_with fail
 refine (HV.out _ _ (2 * k) (Below.refl _ _) (by omega) (by omega)).mono ?_;rintro e w2 ⟨v,rfl,hb1,hv,hvs⟩
 have HVV:=hid hv
 clear hv
 go_wp2_with fail
 refine (HEn.out _ _ v hb1 (by omega)).mono ?_;rintro e w3 ⟨pa,pc,pb,E3,rfl,hb3,hB3,ha3⟩
 obtain ⟨rfl,hpp⟩:=FE.out _ E3 pb HVV.out ha3
 subst hpp
 have hb03:Below w1.heap.size w1 w3:=hb1.trans (hb3.mono hb1.size)
 have hcap:=bys_cap hB3
 have hz12:=hb1.size
 have hz23:=hb3.size
 clear ha3
 by_cases hu10:u.length ≤ 10
 ·obtain ⟨pg,rfl,hpg⟩:∃ pg,pa = some ⟨pg,0,none⟩ ∧ w2.heap.size ≤ pg ∧ pg < w3.heap.size:=by
   rcases hB3.2 with ⟨e,h0⟩ | ⟨g,cap,cur,hv,h1,_⟩
   ·omega
   ·simp only [Value.slice.injEq] at hv
    exact ⟨g,hv.1,h1,(hB3.lt g (by rw [hv.1];rfl)).2⟩
  have hcP:∀ i (hi:i < pb.length),w3.cell? ⟨pg,i,none⟩ = some (.int .u8 (pb[i].toNat:Int)):=fun i hi=>by
   have:=hB3.cells (g:=pg) rfl i (byteCell pb[i]) (by rw [List.getElem?_map,List.getElem?_eq_getElem hi];rfl)
   rw [rd_add _ _ rfl] at this
   simpa [byteCell] using this
  have HB3:=hid hB3
  have HCP:=hid hcP
  clear hB3 hcP
  obtain ⟨ul,HUL⟩:∃ ul,Hid (u.length = ul):=⟨_,hid rfl⟩
  rw [HUL.out] at hu10 hul
  rw [HUL.out]
  obtain ⟨pl,HPLn⟩:∃ pl,Hid (pb.length = pl):=⟨_,hid rfl⟩
  rw [HPLn.out] at hup hcap
  rw [HPLn.out]
  go_wp2_with fail
  go_loopg [11,12] 4 (fun gk x y wr=>∃ m:Nat,m + gk = 4 ∧ x = .int .i64 (off m:Nat) ∧ y = .int .i64 m ∧ Hid (wr.heap[w3.heap.size]? = some (.cells (endsA off m) 3 (0,0))) ∧ Below w3.heap.size w3 wr)
  case atStart=>exact ⟨0,by omega,by rw [PF.out.z];rfl,rfl,hid (heap_alloc_new w3 _),(Below.refl _ _).alloc (Nat.le_refl _) _⟩
  case round =>
   obtain ⟨m,hm,rfl,rfl,HA,hbr⟩:=hrel
   have hzr:=hbr.size
   have hlw:w3.heap.size < wr.heap.size:=(Array.getElem?_eq_some_iff.1 HA.out).1
   obtain ⟨w4,hw4⟩:∃ w4,w4 = wr:=⟨_,rfl⟩
   subst hw4
   obtain ⟨gk2,hgk2⟩:∃ g,g = gk:=⟨_,rfl⟩
   subst hgk2
   by_cases hm4:m < 4
   ·obtain ⟨hlt,c,hc,hoff⟩:=PF.out.s m hm4
    rw [HPLn.out] at hlt
    have hcc:w4.cell? ⟨pg,off m + 1,none⟩ = some (.int .u8 (c.toNat:Int)):=by
     rw [hbr.cell (p:=⟨pg,off m + 1,none⟩) hpg.2,HCP.out (off m + 1) (by rw [HPLn.out];exact hlt)]
     rw [List.getElem?_eq_getElem (by rw [HPLn.out];exact hlt),Option.some.injEq] at hc
     rw [hc]
    have hc255:=c.toNat_lt
    obtain ⟨xe,hce⟩:∃ x,w4.cell? ⟨w3.heap.size,m,none⟩ = some x:=by
     rw [cell_row HA.out]
     exact ⟨_,List.getElem?_eq_getElem (by simp [endsA];omega)⟩
    have hfe:w4.frozen? ⟨w3.heap.size,m,none⟩ = false:=frozen_row HA.out _
    have HOFF:=hid hoff
    have ho40:off m ≤ 40:=by omega
    clear hc hoff
    have hltI:(off m:Int) + 1 < (pl:Int):=by omega
    go_wp2_with fail
    go_roundg (gk2 - 1)
    case rel=>exact ⟨m + 1,by omega,by rw [HOFF.out];go_num,by go_num,hid (by rw [← endsA_step off m hm4,HOFF.out];exact heap_setCell_same w4 _ m _ _ _ HA.out),hbr.setCell (p:=⟨w3.heap.size,m,none⟩) (Nat.le_refl _) _⟩
    case measure=>omega
   ·obtain rfl:m = 4:=by omega
    clear hm4
    rw [show off 4 = pl by omega]
    go_wp2_with fail
    refine (HQ.out _).mono ?_;rintro e w5 ⟨rfl,hw5⟩
    have hb5:Below w4.heap.size w4 w5:=by rw [hw5];exact (Below.refl _ _).alloc (Nat.le_refl _) _
    have hh5:=(congrArg (fun x=>x.heap[w4.heap.size]?) hw5).trans (heap_alloc_new w4 _)
    have hf5:w4.heap.size < w5.heap.size:=by rw [hw5];simp
    have hcf:w5.cell? ⟨w4.heap.size,1,none⟩ = some (.int .i64 3):=(cell_row hh5 1).trans rfl
    have hce:w5.cell? ⟨w3.heap.size,1,none⟩ = some (.int .i64 (off 2:Nat)):=(hb5.cell (p:=⟨w3.heap.size,1,none⟩) hlw).trans ((cell_row HA.out 1).trans rfl)
    obtain ⟨eo,HEO⟩:∃ eo,Hid (off 2 = eo):=⟨_,hid rfl⟩
    have heo:2 ≤ eo ∧ eo ≤ pl:=by have:=HEO.out;omega
    rw [HEO.out] at hce
    have hpl40:pl ≤ 40:=by omega
    have hb35:Below w3.heap.size w3 w5:=hbr.trans (hb5.mono hzr)
    have hz35:=hb35.size
    have hb05:Below w1.heap.size w1 w5:=hb03.trans (hb35.mono hb03.size)
    have HR5:=hid (HB3.out.rd.later hb35)
    have HU5:=hid (HU.out.later hb05)
    rw [HPLn.out] at HR5
    rw [HUL.out] at HU5
    have hup2:=hid hup
    clear hw5 hh5 hbr hup HA
    obtain ⟨O1,HO1⟩:∃ O1,Hid ([] ++ pb.take eo = O1):=⟨_,hid rfl⟩
    obtain ⟨fb,HFB,hfb⟩:∃ c:UInt8,Hid (c = 3) ∧ (c.toNat:Int) = 3:=⟨3,hid rfl,rfl⟩
    obtain ⟨lb,HLB,hlb⟩:∃ c:UInt8,Hid (c = u.length.toUInt8) ∧ (c.toNat:Int) = (ul:Int):=⟨_,hid rfl,by rw [HUL.out];simp [Nat.toUInt8,UInt8.toNat_ofNat'];omega⟩
    obtain ⟨O2,HO2⟩:∃ O2,Hid (O1 ++ [fb,lb] = O2):=⟨_,hid rfl⟩
    obtain ⟨O3,HO3⟩:∃ O3,Hid (O2 ++ u = O3):=⟨_,hid rfl⟩
    obtain ⟨O4,HO4⟩:∃ O4,Hid (O3 ++ pb.drop eo = O4):=⟨_,hid rfl⟩
    have hl1:O1.length ≤ 40:=by rw [← HO1.out];simp;omega
    have HL1:=hid (show O1.length = eo by rw [← HO1.out,List.nil_append,List.length_take,HPLn.out];omega)
    have hl2:O2.length ≤ 42:=by rw [← HO2.out];simp;omega
    have hl3:O3.length ≤ 52:=by rw [← HO3.out,List.length_append,HUL.out];omega
    have hl4:O4.length ≤ 92:=by rw [← HO4.out,List.length_append,List.length_drop,HPLn.out];omega
    have hl4e:eo < O4.length:=by rw [← HO4.out,← HO3.out,← HO2.out];simp only [List.length_append,List.length_cons,List.length_nil,HL1.out];omega
    have hld:(pb.drop eo).length = pl - eo:=by rw [List.length_drop,HPLn.out]
    have HD4:=hid (show O4 = pb.take eo ++ (fb :: (lb :: (u ++ pb.drop eo))) by rw [← HO4.out,← HO3.out,← HO2.out,← HO1.out];simp)
    have HLD:=hid hld
    clear hld
    go_wp2_with (at_builtin;refine wpList_append_rd _ rfl (.tmp 85) (.tmp 91) rfl _ [] w5.heap.size rfl (World.ownsRow_nil _ _ _ _) _ (pb.take eo) rfl (rd_take HR5.out eo (by rw [HPLn.out];omega) (by rw [HPLn.out];omega)) O1 HO1.out (by simp only [List.length_nil,List.length_take];omega) (Nat.le_refl _) ?_)
    intro a6 c6 w6 hb6 hg6
    have hbel6:Below w5.heap.size w5 w6:=hg6.below (fun k hk=>by simp [Value.ownBlock] at hk) (Nat.le_refl _)
    have hz6:=hbel6.size
    have hcf6:=(hbel6.cell (p:=⟨w4.heap.size,1,none⟩) hf5).trans hcf
    have HB6:=hid hb6
    clear hb6 hg6
    go_wp2_with (at_builtin;refine wpList_append_rd _ rfl (.tmp 93) (.tmp 102) rfl _ O1 w5.heap.size rfl (HB6.out.same ((Below.refl _ _).alloc (Nat.le_refl _) _)) _ [fb,lb] rfl (two_bytes w6 fb lb _ _ (by omega) (by omega)).rd O2 HO2.out (by simp;omega) (by simp;omega) ?_)
    intro a7 c7 w7 hb7 hg7
    have hbel7:Below w5.heap.size w5 w7:=(hbel6.alloc hz6 _).trans (hg7.below (fun k hk=>(HB6.out.lt k hk).1) (by simp;omega))
    have hz7:=hbel7.size
    have HB7:=hid hb7
    have HU7:=hid (HU5.out.later hbel7)
    clear hb7 hg7 hcf6 hcf
    go_wp2_with (at_builtin;refine wpList_append_rd _ rfl (.tmp 104) (.tmp 105) rfl _ O2 w5.heap.size rfl HB7.out _ u rfl HU7.out O3 HO3.out (by rw [HUL.out];omega) hz7 ?_)
    intro a8 c8 w8 hb8 hg8
    have hbel8:Below w5.heap.size w5 w8:=hbel7.trans (hg8.below (fun k hk=>(HB7.out.lt k hk).1) hz7)
    have hz8:=hbel8.size
    have HB8:=hid hb8
    have hce8:=(hbel8.cell (p:=⟨w3.heap.size,1,none⟩) (by show w3.heap.size < w5.heap.size;omega)).trans hce
    have HR8:=hid (HR5.out.later hbel8)
    clear hb8 hg8
    have hpc:¬ pc = eo:=by have:=HEO.out;have:=hup2.out;omega
    go_wp2_with (at_builtin;refine wpList_append_rd _ rfl (.tmp 107) (.tmp 113) rfl _ O3 w5.heap.size rfl HB8.out _ (pb.drop eo) rfl (rd_drop HR8.out eo (by rw [HPLn.out])) O4 HO4.out (by rw [HLD.out];omega) hz8 ?_)
    intro a9 c9 w9 hb9 hg9
    have hbel9:Below w5.heap.size w5 w9:=hbel8.trans (hg9.below (fun k hk=>(HB8.out.lt k hk).1) hz8)
    have hz9:=hbel9.size
    have hb09:Below w1.heap.size w1 w9:=hb05.trans (hbel9.mono hb05.size)
    have HB9:=hid hb9
    clear hb9 hg9 hce8
    go_wp2_with fail
    refine (HDe.out _ _ _ O4 hb09 HB9.out.rdk (by omega)).mono ?_;rintro e w10 ⟨tt,E10,rfl,hb10,ha10⟩
    obtain ⟨rfl,htt⟩:=FO.out (by rw [HUL.out];exact hu10) E10 _ (by
     have:=HD4.out
     rw [HFB.out,HLB.out,← HEO.out] at this
     rw [this] at ha10
     exact ha10)
    have htv:tt = v:=ba_inj (htt.trans HVV.out.symm)
    subst htv
    have hbel10:Below w5.heap.size w5 w10:=hbel9.trans (hb10.mono hz9)
    have hce10:=(hbel10.cell (p:=⟨w3.heap.size,1,none⟩) (by show w3.heap.size < w5.heap.size;omega)).trans hce
    have HB10:=hid (HB9.out.same hb10)
    obtain ⟨og,rfl,hog,hco,hfo⟩:∃ og,a9 = some ⟨og,0,none⟩ ∧ w5.heap.size ≤ og ∧ (∃ x,w10.cell? ⟨og,eo,none⟩ = some x) ∧ w10.frozen? ⟨og,eo,none⟩ = false:=by
     rcases HB10.out.2 with ⟨e,h0⟩ | ⟨g,cap,cur,hv,h1,h2,h3,h4,h5,h6⟩
     ·omega
     ·simp only [Value.slice.injEq] at hv
      have hlt:eo < cur.toList.length:=by rw [Array.length_toList];omega
      exact ⟨g,hv.1,h1,⟨cur.toList[eo],by rw [cell_row h2,List.getElem?_eq_getElem hlt]⟩,frozen_row h2 _⟩
    obtain ⟨xo,hco⟩:=hco
    clear htt ha10
    go_wp2_with fail
    refine (HDe.out _ _ _ (O4.set eo 2) ((hb05.trans (hbel10.mono hb05.size)).setCell (p:=⟨og,eo,none⟩) (Nat.le_trans hb05.size hog) _) (bys_rdk (bys_set HB10.out rfl 2 2 rfl) (by simp)) (by simp;omega)).mono ?_;rintro e w11 ⟨t11,E11,rfl,hb11,ha11⟩
    obtain rfl:=FX.out (by rw [HUL.out];exact hu10) (lb :: (u ++ pb.drop eo)) E11 _ (by
     rw [HD4.out,set_mid _ _ _ _ _ (by rw [List.length_take,HPLn.out];omega),← HEO.out] at ha11
     rw [← HEO.out]
     exact ha11)
    have hb0:Below w1.heap.size w1 w11:=((hb05.trans (hbel10.mono hb05.size)).setCell (p:=⟨og,eo,none⟩) (Nat.le_trans hb05.size hog) (.int .u8 2)).trans (hb11.mono (by have:=hb05.size;have:=hbel10.size;simp;omega))
    go_wp2_with fail
    go_ret
    exact ⟨rfl,hb0⟩
 ·go_wp2_with fail
  go_ret
  exact ⟨rfl,hb03⟩
end Go.Proofs.YtdgcamlmjmnpeaaGreatDoor
namespace Go.Proofs.YtdgcamlmjmnpeaaGreatDoor
open Go.RowKit
set_option maxRecDepth 100000 in
set_option maxHeartbeats 8000000 in
theorem passed_2 {AE:ByteArray → ByteArray → Int → List UInt8 → Prop} {AD:ByteArray → List UInt8 → Int → List UInt8 → Prop} (n at_:Int) (hn:InK64 n) (hat:InK64 at_) (w:World) (ba:Option Addr) (bc:Nat) (u:List UInt8) (hu:Rd w (.slice ba u.length bc) u) (hul:u.length ≤ maxLen) (hT:Tab w) (hEn:EncHas w AE) (hDe:DecHas w AD) (hJ:pickN at_ 3 = 1) (p:List UInt8) (off:Nat → Nat) (hF:PasFact AE AD (valW 1 (2 * pickN n 100)) u 2 6 p off) :
  Calls Tryz.prog 4 #[.int .i64 n,.int .i64 at_,.slice ba u.length bc] w (BPost w):=by
 have HQ:=hid (show ∀ w',Calls Tryz.prog 6 #[.int .i64 at_,.int .i64 3] w' (fun e w''=>e = .returned (.int .i64 1) ∧ w'' = w') from fun w'=>(pick_any at_ 3 w' (by decide) (by unfold maxLen;decide) hat).mono (fun e w'' h=>⟨h.1.trans (by rw [hJ];rfl),h.2⟩))
 have HP:=hid (show ∀ w',Calls Tryz.prog 6 #[.int .i64 n,.int .i64 100] w' (fun e w''=>e = .returned (.int .i64 ((pickN n 100:Nat):Int)) ∧ w'' = w') from fun w'=>pick_any n 100 w' (by decide) (by unfold maxLen;decide) hn)
 have hk:=pickN_lt n (show 0 < 100 by decide)
 unfold maxLen at hul
 have hup:=hF.pf.up
 have FE:=hid hF.enc
 have PF:=hid hF.pf
 have FO:=hid hF.ok
 have FX:=hid hF.bad
 clear hF hJ hat hn
 generalize pickN n 100 = k at *
 have HV:=hid (show ∀ (w':World) (x:Int) (m:Nat),Below w.heap.size w w' → x = (m:Int) → m ≤ 1000 → Calls Tryz.prog 7 #[.string (ByteArray.mk #[112,111,105,110,116]),.int .i64 x] w' (fun e w''=>∃ t:ByteArray,e = .returned (.string t) ∧ Below w.heap.size w w'' ∧ t.toList = valW 1 m ∧ t.size ≤ 200) from by
  intro w' x m hw' hx hm
  subst hx
  exact (value_pt m (by omega) w' (hT.below hw')).mono (fun e w'' h=>by obtain ⟨t,h1,h2,h3,h4⟩:=h;exact ⟨t,h1,hw'.trans (h2.mono hw'.size),h3,h4⟩))
 have HEn:=hid hEn
 have HDe:=hid hDe
 have HU:=hid hu
 clear hT hEn hDe hu
 go_enter Tryz.func4,Tryz.ntmps4
 go_wp2_with fail
 refine (HP.out _).mono ?_;rintro e w1 ⟨rfl,rfl⟩
 go_wp2_with fail
 refine (HV.out _ _ (2 * k) (Below.refl _ _) (by omega) (by omega)).mono ?_;rintro e w2 ⟨v,rfl,hb1,hv,hvs⟩
 have HVV:=hid hv
 clear hv
 go_wp2_with fail
 refine (HEn.out _ _ v hb1 (by omega)).mono ?_;rintro e w3 ⟨pa,pc,pb,E3,rfl,hb3,hB3,ha3⟩
 obtain ⟨rfl,hpp⟩:=FE.out _ E3 pb HVV.out ha3
 subst hpp
 have hb03:Below w1.heap.size w1 w3:=hb1.trans (hb3.mono hb1.size)
 have hcap:=bys_cap hB3
 have hz12:=hb1.size
 have hz23:=hb3.size
 clear ha3
 by_cases hu10:u.length ≤ 10
 ·obtain ⟨pg,rfl,hpg⟩:∃ pg,pa = some ⟨pg,0,none⟩ ∧ w2.heap.size ≤ pg ∧ pg < w3.heap.size:=by
   rcases hB3.2 with ⟨e,h0⟩ | ⟨g,cap,cur,hv,h1,_⟩
   ·omega
   ·simp only [Value.slice.injEq] at hv
    exact ⟨g,hv.1,h1,(hB3.lt g (by rw [hv.1];rfl)).2⟩
  have hcP:∀ i (hi:i < pb.length),w3.cell? ⟨pg,i,none⟩ = some (.int .u8 (pb[i].toNat:Int)):=fun i hi=>by
   have:=hB3.cells (g:=pg) rfl i (byteCell pb[i]) (by rw [List.getElem?_map,List.getElem?_eq_getElem hi];rfl)
   rw [rd_add _ _ rfl] at this
   simpa [byteCell] using this
  have HB3:=hid hB3
  have HCP:=hid hcP
  clear hB3 hcP
  obtain ⟨ul,HUL⟩:∃ ul,Hid (u.length = ul):=⟨_,hid rfl⟩
  rw [HUL.out] at hu10 hul
  rw [HUL.out]
  obtain ⟨pl,HPLn⟩:∃ pl,Hid (pb.length = pl):=⟨_,hid rfl⟩
  rw [HPLn.out] at hup hcap
  rw [HPLn.out]
  go_wp2_with fail
  go_loopg [11,12] 4 (fun gk x y wr=>∃ m:Nat,m + gk = 4 ∧ x = .int .i64 (off m:Nat) ∧ y = .int .i64 m ∧ Hid (wr.heap[w3.heap.size]? = some (.cells (endsA off m) 3 (0,0))) ∧ Below w3.heap.size w3 wr)
  case atStart=>exact ⟨0,by omega,by rw [PF.out.z];rfl,rfl,hid (heap_alloc_new w3 _),(Below.refl _ _).alloc (Nat.le_refl _) _⟩
  case round =>
   obtain ⟨m,hm,rfl,rfl,HA,hbr⟩:=hrel
   have hzr:=hbr.size
   have hlw:w3.heap.size < wr.heap.size:=(Array.getElem?_eq_some_iff.1 HA.out).1
   obtain ⟨w4,hw4⟩:∃ w4,w4 = wr:=⟨_,rfl⟩
   subst hw4
   obtain ⟨gk2,hgk2⟩:∃ g,g = gk:=⟨_,rfl⟩
   subst hgk2
   by_cases hm4:m < 4
   ·obtain ⟨hlt,c,hc,hoff⟩:=PF.out.s m hm4
    rw [HPLn.out] at hlt
    have hcc:w4.cell? ⟨pg,off m + 1,none⟩ = some (.int .u8 (c.toNat:Int)):=by
     rw [hbr.cell (p:=⟨pg,off m + 1,none⟩) hpg.2,HCP.out (off m + 1) (by rw [HPLn.out];exact hlt)]
     rw [List.getElem?_eq_getElem (by rw [HPLn.out];exact hlt),Option.some.injEq] at hc
     rw [hc]
    have hc255:=c.toNat_lt
    obtain ⟨xe,hce⟩:∃ x,w4.cell? ⟨w3.heap.size,m,none⟩ = some x:=by
     rw [cell_row HA.out]
     exact ⟨_,List.getElem?_eq_getElem (by simp [endsA];omega)⟩
    have hfe:w4.frozen? ⟨w3.heap.size,m,none⟩ = false:=frozen_row HA.out _
    have HOFF:=hid hoff
    have ho40:off m ≤ 40:=by omega
    clear hc hoff
    have hltI:(off m:Int) + 1 < (pl:Int):=by omega
    go_wp2_with fail
    go_roundg (gk2 - 1)
    case rel=>exact ⟨m + 1,by omega,by rw [HOFF.out];go_num,by go_num,hid (by rw [← endsA_step off m hm4,HOFF.out];exact heap_setCell_same w4 _ m _ _ _ HA.out),hbr.setCell (p:=⟨w3.heap.size,m,none⟩) (Nat.le_refl _) _⟩
    case measure=>omega
   ·obtain rfl:m = 4:=by omega
    clear hm4
    rw [show off 4 = pl by omega]
    go_wp2_with fail
    refine (HQ.out _).mono ?_;rintro e w5 ⟨rfl,hw5⟩
    have hb5:Below w4.heap.size w4 w5:=by rw [hw5];exact (Below.refl _ _).alloc (Nat.le_refl _) _
    have hh5:=(congrArg (fun x=>x.heap[w4.heap.size]?) hw5).trans (heap_alloc_new w4 _)
    have hf5:w4.heap.size < w5.heap.size:=by rw [hw5];simp
    have hcf:w5.cell? ⟨w4.heap.size,2,none⟩ = some (.int .i64 6):=(cell_row hh5 2).trans rfl
    have hce:w5.cell? ⟨w3.heap.size,2,none⟩ = some (.int .i64 (off 3:Nat)):=(hb5.cell (p:=⟨w3.heap.size,2,none⟩) hlw).trans ((cell_row HA.out 2).trans rfl)
    obtain ⟨eo,HEO⟩:∃ eo,Hid (off 3 = eo):=⟨_,hid rfl⟩
    have heo:2 ≤ eo ∧ eo ≤ pl:=by have:=HEO.out;omega
    rw [HEO.out] at hce
    have hpl40:pl ≤ 40:=by omega
    have hb35:Below w3.heap.size w3 w5:=hbr.trans (hb5.mono hzr)
    have hz35:=hb35.size
    have hb05:Below w1.heap.size w1 w5:=hb03.trans (hb35.mono hb03.size)
    have HR5:=hid (HB3.out.rd.later hb35)
    have HU5:=hid (HU.out.later hb05)
    rw [HPLn.out] at HR5
    rw [HUL.out] at HU5
    have hup2:=hid hup
    clear hw5 hh5 hbr hup HA
    obtain ⟨O1,HO1⟩:∃ O1,Hid ([] ++ pb.take eo = O1):=⟨_,hid rfl⟩
    obtain ⟨fb,HFB,hfb⟩:∃ c:UInt8,Hid (c = 6) ∧ (c.toNat:Int) = 6:=⟨6,hid rfl,rfl⟩
    obtain ⟨lb,HLB,hlb⟩:∃ c:UInt8,Hid (c = u.length.toUInt8) ∧ (c.toNat:Int) = (ul:Int):=⟨_,hid rfl,by rw [HUL.out];simp [Nat.toUInt8,UInt8.toNat_ofNat'];omega⟩
    obtain ⟨O2,HO2⟩:∃ O2,Hid (O1 ++ [fb,lb] = O2):=⟨_,hid rfl⟩
    obtain ⟨O3,HO3⟩:∃ O3,Hid (O2 ++ u = O3):=⟨_,hid rfl⟩
    obtain ⟨O4,HO4⟩:∃ O4,Hid (O3 ++ pb.drop eo = O4):=⟨_,hid rfl⟩
    have hl1:O1.length ≤ 40:=by rw [← HO1.out];simp;omega
    have HL1:=hid (show O1.length = eo by rw [← HO1.out,List.nil_append,List.length_take,HPLn.out];omega)
    have hl2:O2.length ≤ 42:=by rw [← HO2.out];simp;omega
    have hl3:O3.length ≤ 52:=by rw [← HO3.out,List.length_append,HUL.out];omega
    have hl4:O4.length ≤ 92:=by rw [← HO4.out,List.length_append,List.length_drop,HPLn.out];omega
    have hl4e:eo < O4.length:=by rw [← HO4.out,← HO3.out,← HO2.out];simp only [List.length_append,List.length_cons,List.length_nil,HL1.out];omega
    have hld:(pb.drop eo).length = pl - eo:=by rw [List.length_drop,HPLn.out]
    have HD4:=hid (show O4 = pb.take eo ++ (fb :: (lb :: (u ++ pb.drop eo))) by rw [← HO4.out,← HO3.out,← HO2.out,← HO1.out];simp)
    have HLD:=hid hld
    clear hld
    go_wp2_with (at_builtin;refine wpList_append_rd _ rfl (.tmp 85) (.tmp 91) rfl _ [] w5.heap.size rfl (World.ownsRow_nil _ _ _ _) _ (pb.take eo) rfl (rd_take HR5.out eo (by rw [HPLn.out];omega) (by rw [HPLn.out];omega)) O1 HO1.out (by simp only [List.length_nil,List.length_take];omega) (Nat.le_refl _) ?_)
    intro a6 c6 w6 hb6 hg6
    have hbel6:Below w5.heap.size w5 w6:=hg6.below (fun k hk=>by simp [Value.ownBlock] at hk) (Nat.le_refl _)
    have hz6:=hbel6.size
    have hcf6:=(hbel6.cell (p:=⟨w4.heap.size,2,none⟩) hf5).trans hcf
    have HB6:=hid hb6
    clear hb6 hg6
    go_wp2_with (at_builtin;refine wpList_append_rd _ rfl (.tmp 93) (.tmp 102) rfl _ O1 w5.heap.size rfl (HB6.out.same ((Below.refl _ _).alloc (Nat.le_refl _) _)) _ [fb,lb] rfl (two_bytes w6 fb lb _ _ (by omega) (by omega)).rd O2 HO2.out (by simp;omega) (by simp;omega) ?_)
    intro a7 c7 w7 hb7 hg7
    have hbel7:Below w5.heap.size w5 w7:=(hbel6.alloc hz6 _).trans (hg7.below (fun k hk=>(HB6.out.lt k hk).1) (by simp;omega))
    have hz7:=hbel7.size
    have HB7:=hid hb7
    have HU7:=hid (HU5.out.later hbel7)
    clear hb7 hg7 hcf6 hcf
    go_wp2_with (at_builtin;refine wpList_append_rd _ rfl (.tmp 104) (.tmp 105) rfl _ O2 w5.heap.size rfl HB7.out _ u rfl HU7.out O3 HO3.out (by rw [HUL.out];omega) hz7 ?_)
    intro a8 c8 w8 hb8 hg8
    have hbel8:Below w5.heap.size w5 w8:=hbel7.trans (hg8.below (fun k hk=>(HB7.out.lt k hk).1) hz7)
    have hz8:=hbel8.size
    have HB8:=hid hb8
    have hce8:=(hbel8.cell (p:=⟨w3.heap.size,2,none⟩) (by show w3.heap.size < w5.heap.size;omega)).trans hce
    have HR8:=hid (HR5.out.later hbel8)
    clear hb8 hg8
    have hpc:¬ pc = eo:=by have:=HEO.out;have:=hup2.out;omega
    go_wp2_with (at_builtin;refine wpList_append_rd _ rfl (.tmp 107) (.tmp 113) rfl _ O3 w5.heap.size rfl HB8.out _ (pb.drop eo) rfl (rd_drop HR8.out eo (by rw [HPLn.out])) O4 HO4.out (by rw [HLD.out];omega) hz8 ?_)
    intro a9 c9 w9 hb9 hg9
    have hbel9:Below w5.heap.size w5 w9:=hbel8.trans (hg9.below (fun k hk=>(HB8.out.lt k hk).1) hz8)
    have hz9:=hbel9.size
    have hb09:Below w1.heap.size w1 w9:=hb05.trans (hbel9.mono hb05.size)
    have HB9:=hid hb9
    clear hb9 hg9 hce8
    go_wp2_with fail
    refine (HDe.out _ _ _ O4 hb09 HB9.out.rdk (by omega)).mono ?_;rintro e w10 ⟨tt,E10,rfl,hb10,ha10⟩
    obtain ⟨rfl,htt⟩:=FO.out (by rw [HUL.out];exact hu10) E10 _ (by
     have:=HD4.out
     rw [HFB.out,HLB.out,← HEO.out] at this
     rw [this] at ha10
     exact ha10)
    have htv:tt = v:=ba_inj (htt.trans HVV.out.symm)
    subst htv
    have hbel10:Below w5.heap.size w5 w10:=hbel9.trans (hb10.mono hz9)
    have hce10:=(hbel10.cell (p:=⟨w3.heap.size,2,none⟩) (by show w3.heap.size < w5.heap.size;omega)).trans hce
    have HB10:=hid (HB9.out.same hb10)
    obtain ⟨og,rfl,hog,hco,hfo⟩:∃ og,a9 = some ⟨og,0,none⟩ ∧ w5.heap.size ≤ og ∧ (∃ x,w10.cell? ⟨og,eo,none⟩ = some x) ∧ w10.frozen? ⟨og,eo,none⟩ = false:=by
     rcases HB10.out.2 with ⟨e,h0⟩ | ⟨g,cap,cur,hv,h1,h2,h3,h4,h5,h6⟩
     ·omega
     ·simp only [Value.slice.injEq] at hv
      have hlt:eo < cur.toList.length:=by rw [Array.length_toList];omega
      exact ⟨g,hv.1,h1,⟨cur.toList[eo],by rw [cell_row h2,List.getElem?_eq_getElem hlt]⟩,frozen_row h2 _⟩
    obtain ⟨xo,hco⟩:=hco
    clear htt ha10
    go_wp2_with fail
    refine (HDe.out _ _ _ (O4.set eo 2) ((hb05.trans (hbel10.mono hb05.size)).setCell (p:=⟨og,eo,none⟩) (Nat.le_trans hb05.size hog) _) (bys_rdk (bys_set HB10.out rfl 2 2 rfl) (by simp)) (by simp;omega)).mono ?_;rintro e w11 ⟨t11,E11,rfl,hb11,ha11⟩
    obtain rfl:=FX.out (by rw [HUL.out];exact hu10) (lb :: (u ++ pb.drop eo)) E11 _ (by
     rw [HD4.out,set_mid _ _ _ _ _ (by rw [List.length_take,HPLn.out];omega),← HEO.out] at ha11
     rw [← HEO.out]
     exact ha11)
    have hb0:Below w1.heap.size w1 w11:=((hb05.trans (hbel10.mono hb05.size)).setCell (p:=⟨og,eo,none⟩) (Nat.le_trans hb05.size hog) (.int .u8 2)).trans (hb11.mono (by have:=hb05.size;have:=hbel10.size;simp;omega))
    go_wp2_with fail
    go_ret
    exact ⟨rfl,hb0⟩
 ·go_wp2_with fail
  go_ret
  exact ⟨rfl,hb03⟩
end Go.Proofs.YtdgcamlmjmnpeaaGreatDoor
namespace Go.Proofs.YtdgcamlmjmnpeaaGreatDoor
open Go.RowKit
set_option maxRecDepth 100000 in
set_option maxHeartbeats 8000000 in
theorem passed_3 {AE:ByteArray → ByteArray → Int → List UInt8 → Prop} {AD:ByteArray → List UInt8 → Int → List UInt8 → Prop} (n at_:Int) (hn:InK64 n) (hat:InK64 at_) (w:World) (ba:Option Addr) (bc:Nat) (u:List UInt8) (hu:Rd w (.slice ba u.length bc) u) (hul:u.length ≤ maxLen) (hT:Tab w) (hEn:EncHas w AE) (hDe:DecHas w AD) (hJ:pickN at_ 3 = 2) (p:List UInt8) (off:Nat → Nat) (hF:PasFact AE AD (valW 1 (2 * pickN n 100)) u 3 99 p off) :
  Calls Tryz.prog 4 #[.int .i64 n,.int .i64 at_,.slice ba u.length bc] w (BPost w):=by
 have HQ:=hid (show ∀ w',Calls Tryz.prog 6 #[.int .i64 at_,.int .i64 3] w' (fun e w''=>e = .returned (.int .i64 2) ∧ w'' = w') from fun w'=>(pick_any at_ 3 w' (by decide) (by unfold maxLen;decide) hat).mono (fun e w'' h=>⟨h.1.trans (by rw [hJ];rfl),h.2⟩))
 have HP:=hid (show ∀ w',Calls Tryz.prog 6 #[.int .i64 n,.int .i64 100] w' (fun e w''=>e = .returned (.int .i64 ((pickN n 100:Nat):Int)) ∧ w'' = w') from fun w'=>pick_any n 100 w' (by decide) (by unfold maxLen;decide) hn)
 have hk:=pickN_lt n (show 0 < 100 by decide)
 unfold maxLen at hul
 have hup:=hF.pf.up
 have FE:=hid hF.enc
 have PF:=hid hF.pf
 have FO:=hid hF.ok
 have FX:=hid hF.bad
 clear hF hJ hat hn
 generalize pickN n 100 = k at *
 have HV:=hid (show ∀ (w':World) (x:Int) (m:Nat),Below w.heap.size w w' → x = (m:Int) → m ≤ 1000 → Calls Tryz.prog 7 #[.string (ByteArray.mk #[112,111,105,110,116]),.int .i64 x] w' (fun e w''=>∃ t:ByteArray,e = .returned (.string t) ∧ Below w.heap.size w w'' ∧ t.toList = valW 1 m ∧ t.size ≤ 200) from by
  intro w' x m hw' hx hm
  subst hx
  exact (value_pt m (by omega) w' (hT.below hw')).mono (fun e w'' h=>by obtain ⟨t,h1,h2,h3,h4⟩:=h;exact ⟨t,h1,hw'.trans (h2.mono hw'.size),h3,h4⟩))
 have HEn:=hid hEn
 have HDe:=hid hDe
 have HU:=hid hu
 clear hT hEn hDe hu
 go_enter Tryz.func4,Tryz.ntmps4
 go_wp2_with fail
 refine (HP.out _).mono ?_;rintro e w1 ⟨rfl,rfl⟩
 go_wp2_with fail
 refine (HV.out _ _ (2 * k) (Below.refl _ _) (by omega) (by omega)).mono ?_;rintro e w2 ⟨v,rfl,hb1,hv,hvs⟩
 have HVV:=hid hv
 clear hv
 go_wp2_with fail
 refine (HEn.out _ _ v hb1 (by omega)).mono ?_;rintro e w3 ⟨pa,pc,pb,E3,rfl,hb3,hB3,ha3⟩
 obtain ⟨rfl,hpp⟩:=FE.out _ E3 pb HVV.out ha3
 subst hpp
 have hb03:Below w1.heap.size w1 w3:=hb1.trans (hb3.mono hb1.size)
 have hcap:=bys_cap hB3
 have hz12:=hb1.size
 have hz23:=hb3.size
 clear ha3
 by_cases hu10:u.length ≤ 10
 ·obtain ⟨pg,rfl,hpg⟩:∃ pg,pa = some ⟨pg,0,none⟩ ∧ w2.heap.size ≤ pg ∧ pg < w3.heap.size:=by
   rcases hB3.2 with ⟨e,h0⟩ | ⟨g,cap,cur,hv,h1,_⟩
   ·omega
   ·simp only [Value.slice.injEq] at hv
    exact ⟨g,hv.1,h1,(hB3.lt g (by rw [hv.1];rfl)).2⟩
  have hcP:∀ i (hi:i < pb.length),w3.cell? ⟨pg,i,none⟩ = some (.int .u8 (pb[i].toNat:Int)):=fun i hi=>by
   have:=hB3.cells (g:=pg) rfl i (byteCell pb[i]) (by rw [List.getElem?_map,List.getElem?_eq_getElem hi];rfl)
   rw [rd_add _ _ rfl] at this
   simpa [byteCell] using this
  have HB3:=hid hB3
  have HCP:=hid hcP
  clear hB3 hcP
  obtain ⟨ul,HUL⟩:∃ ul,Hid (u.length = ul):=⟨_,hid rfl⟩
  rw [HUL.out] at hu10 hul
  rw [HUL.out]
  obtain ⟨pl,HPLn⟩:∃ pl,Hid (pb.length = pl):=⟨_,hid rfl⟩
  rw [HPLn.out] at hup hcap
  rw [HPLn.out]
  go_wp2_with fail
  go_loopg [11,12] 4 (fun gk x y wr=>∃ m:Nat,m + gk = 4 ∧ x = .int .i64 (off m:Nat) ∧ y = .int .i64 m ∧ Hid (wr.heap[w3.heap.size]? = some (.cells (endsA off m) 3 (0,0))) ∧ Below w3.heap.size w3 wr)
  case atStart=>exact ⟨0,by omega,by rw [PF.out.z];rfl,rfl,hid (heap_alloc_new w3 _),(Below.refl _ _).alloc (Nat.le_refl _) _⟩
  case round =>
   obtain ⟨m,hm,rfl,rfl,HA,hbr⟩:=hrel
   have hzr:=hbr.size
   have hlw:w3.heap.size < wr.heap.size:=(Array.getElem?_eq_some_iff.1 HA.out).1
   obtain ⟨w4,hw4⟩:∃ w4,w4 = wr:=⟨_,rfl⟩
   subst hw4
   obtain ⟨gk2,hgk2⟩:∃ g,g = gk:=⟨_,rfl⟩
   subst hgk2
   by_cases hm4:m < 4
   ·obtain ⟨hlt,c,hc,hoff⟩:=PF.out.s m hm4
    rw [HPLn.out] at hlt
    have hcc:w4.cell? ⟨pg,off m + 1,none⟩ = some (.int .u8 (c.toNat:Int)):=by
     rw [hbr.cell (p:=⟨pg,off m + 1,none⟩) hpg.2,HCP.out (off m + 1) (by rw [HPLn.out];exact hlt)]
     rw [List.getElem?_eq_getElem (by rw [HPLn.out];exact hlt),Option.some.injEq] at hc
     rw [hc]
    have hc255:=c.toNat_lt
    obtain ⟨xe,hce⟩:∃ x,w4.cell? ⟨w3.heap.size,m,none⟩ = some x:=by
     rw [cell_row HA.out]
     exact ⟨_,List.getElem?_eq_getElem (by simp [endsA];omega)⟩
    have hfe:w4.frozen? ⟨w3.heap.size,m,none⟩ = false:=frozen_row HA.out _
    have HOFF:=hid hoff
    have ho40:off m ≤ 40:=by omega
    clear hc hoff
    have hltI:(off m:Int) + 1 < (pl:Int):=by omega
    go_wp2_with fail
    go_roundg (gk2 - 1)
    case rel=>exact ⟨m + 1,by omega,by rw [HOFF.out];go_num,by go_num,hid (by rw [← endsA_step off m hm4,HOFF.out];exact heap_setCell_same w4 _ m _ _ _ HA.out),hbr.setCell (p:=⟨w3.heap.size,m,none⟩) (Nat.le_refl _) _⟩
    case measure=>omega
   ·obtain rfl:m = 4:=by omega
    clear hm4
    rw [show off 4 = pl by omega]
    go_wp2_with fail
    refine (HQ.out _).mono ?_;rintro e w5 ⟨rfl,hw5⟩
    have hb5:Below w4.heap.size w4 w5:=by rw [hw5];exact (Below.refl _ _).alloc (Nat.le_refl _) _
    have hh5:=(congrArg (fun x=>x.heap[w4.heap.size]?) hw5).trans (heap_alloc_new w4 _)
    have hf5:w4.heap.size < w5.heap.size:=by rw [hw5];simp
    have hcf:w5.cell? ⟨w4.heap.size,3,none⟩ = some (.int .i64 99):=(cell_row hh5 3).trans rfl
    have hce:w5.cell? ⟨w3.heap.size,3,none⟩ = some (.int .i64 (off 4:Nat)):=(hb5.cell (p:=⟨w3.heap.size,3,none⟩) hlw).trans ((cell_row HA.out 3).trans rfl)
    obtain ⟨eo,HEO⟩:∃ eo,Hid (off 4 = eo):=⟨_,hid rfl⟩
    have heo:2 ≤ eo ∧ eo ≤ pl:=by have:=HEO.out;omega
    rw [HEO.out] at hce
    have hpl40:pl ≤ 40:=by omega
    have hb35:Below w3.heap.size w3 w5:=hbr.trans (hb5.mono hzr)
    have hz35:=hb35.size
    have hb05:Below w1.heap.size w1 w5:=hb03.trans (hb35.mono hb03.size)
    have HR5:=hid (HB3.out.rd.later hb35)
    have HU5:=hid (HU.out.later hb05)
    rw [HPLn.out] at HR5
    rw [HUL.out] at HU5
    have hup2:=hid hup
    clear hw5 hh5 hbr hup HA
    obtain ⟨O1,HO1⟩:∃ O1,Hid ([] ++ pb.take eo = O1):=⟨_,hid rfl⟩
    obtain ⟨fb,HFB,hfb⟩:∃ c:UInt8,Hid (c = 99) ∧ (c.toNat:Int) = 99:=⟨99,hid rfl,rfl⟩
    obtain ⟨lb,HLB,hlb⟩:∃ c:UInt8,Hid (c = u.length.toUInt8) ∧ (c.toNat:Int) = (ul:Int):=⟨_,hid rfl,by rw [HUL.out];simp [Nat.toUInt8,UInt8.toNat_ofNat'];omega⟩
    obtain ⟨O2,HO2⟩:∃ O2,Hid (O1 ++ [fb,lb] = O2):=⟨_,hid rfl⟩
    obtain ⟨O3,HO3⟩:∃ O3,Hid (O2 ++ u = O3):=⟨_,hid rfl⟩
    obtain ⟨O4,HO4⟩:∃ O4,Hid (O3 ++ pb.drop eo = O4):=⟨_,hid rfl⟩
    have hl1:O1.length ≤ 40:=by rw [← HO1.out];simp;omega
    have HL1:=hid (show O1.length = eo by rw [← HO1.out,List.nil_append,List.length_take,HPLn.out];omega)
    have hl2:O2.length ≤ 42:=by rw [← HO2.out];simp;omega
    have hl3:O3.length ≤ 52:=by rw [← HO3.out,List.length_append,HUL.out];omega
    have hl4:O4.length ≤ 92:=by rw [← HO4.out,List.length_append,List.length_drop,HPLn.out];omega
    have hl4e:eo < O4.length:=by rw [← HO4.out,← HO3.out,← HO2.out];simp only [List.length_append,List.length_cons,List.length_nil,HL1.out];omega
    have hld:(pb.drop eo).length = pl - eo:=by rw [List.length_drop,HPLn.out]
    have HD4:=hid (show O4 = pb.take eo ++ (fb :: (lb :: (u ++ pb.drop eo))) by rw [← HO4.out,← HO3.out,← HO2.out,← HO1.out];simp)
    have HLD:=hid hld
    clear hld
    go_wp2_with (at_builtin;refine wpList_append_rd _ rfl (.tmp 85) (.tmp 91) rfl _ [] w5.heap.size rfl (World.ownsRow_nil _ _ _ _) _ (pb.take eo) rfl (rd_take HR5.out eo (by rw [HPLn.out];omega) (by rw [HPLn.out];omega)) O1 HO1.out (by simp only [List.length_nil,List.length_take];omega) (Nat.le_refl _) ?_)
    intro a6 c6 w6 hb6 hg6
    have hbel6:Below w5.heap.size w5 w6:=hg6.below (fun k hk=>by simp [Value.ownBlock] at hk) (Nat.le_refl _)
    have hz6:=hbel6.size
    have hcf6:=(hbel6.cell (p:=⟨w4.heap.size,3,none⟩) hf5).trans hcf
    have HB6:=hid hb6
    clear hb6 hg6
    go_wp2_with (at_builtin;refine wpList_append_rd _ rfl (.tmp 93) (.tmp 102) rfl _ O1 w5.heap.size rfl (HB6.out.same ((Below.refl _ _).alloc (Nat.le_refl _) _)) _ [fb,lb] rfl (two_bytes w6 fb lb _ _ (by omega) (by omega)).rd O2 HO2.out (by simp;omega) (by simp;omega) ?_)
    intro a7 c7 w7 hb7 hg7
    have hbel7:Below w5.heap.size w5 w7:=(hbel6.alloc hz6 _).trans (hg7.below (fun k hk=>(HB6.out.lt k hk).1) (by simp;omega))
    have hz7:=hbel7.size
    have HB7:=hid hb7
    have HU7:=hid (HU5.out.later hbel7)
    clear hb7 hg7 hcf6 hcf
    go_wp2_with (at_builtin;refine wpList_append_rd _ rfl (.tmp 104) (.tmp 105) rfl _ O2 w5.heap.size rfl HB7.out _ u rfl HU7.out O3 HO3.out (by rw [HUL.out];omega) hz7 ?_)
    intro a8 c8 w8 hb8 hg8
    have hbel8:Below w5.heap.size w5 w8:=hbel7.trans (hg8.below (fun k hk=>(HB7.out.lt k hk).1) hz7)
    have hz8:=hbel8.size
    have HB8:=hid hb8
    have hce8:=(hbel8.cell (p:=⟨w3.heap.size,3,none⟩) (by show w3.heap.size < w5.heap.size;omega)).trans hce
    have HR8:=hid (HR5.out.later hbel8)
    clear hb8 hg8
    by_cases hpc:pc = eo
    ·go_wp2_with (at_builtin;refine wpList_append_rd _ rfl (.tmp 107) (.tmp 113) rfl _ O3 w5.heap.size rfl HB8.out _ (pb.drop eo) rfl (rd_none (by apply List.eq_nil_of_length_eq_zero;rw [HLD.out];have:=HEO.out;have:=hup2.out;omega) (by have:=HEO.out;have:=hup2.out;omega)) O4 HO4.out (by rw [HLD.out];omega) hz8 ?_)
     intro a9 c9 w9 hb9 hg9
     have hbel9:Below w5.heap.size w5 w9:=hbel8.trans (hg9.below (fun k hk=>(HB8.out.lt k hk).1) hz8)
     have hz9:=hbel9.size
     have hb09:Below w1.heap.size w1 w9:=hb05.trans (hbel9.mono hb05.size)
     have HB9:=hid hb9
     clear hb9 hg9 hce8
     go_wp2_with fail
     refine (HDe.out _ _ _ O4 hb09 HB9.out.rdk (by omega)).mono ?_;rintro e w10 ⟨tt,E10,rfl,hb10,ha10⟩
     obtain ⟨rfl,htt⟩:=FO.out (by rw [HUL.out];exact hu10) E10 _ (by
      have:=HD4.out
      rw [HFB.out,HLB.out,← HEO.out] at this
      rw [this] at ha10
      exact ha10)
     have htv:tt = v:=ba_inj (htt.trans HVV.out.symm)
     subst htv
     have hbel10:Below w5.heap.size w5 w10:=hbel9.trans (hb10.mono hz9)
     have hce10:=(hbel10.cell (p:=⟨w3.heap.size,3,none⟩) (by show w3.heap.size < w5.heap.size;omega)).trans hce
     have HB10:=hid (HB9.out.same hb10)
     obtain ⟨og,rfl,hog,hco,hfo⟩:∃ og,a9 = some ⟨og,0,none⟩ ∧ w5.heap.size ≤ og ∧ (∃ x,w10.cell? ⟨og,eo,none⟩ = some x) ∧ w10.frozen? ⟨og,eo,none⟩ = false:=by
      rcases HB10.out.2 with ⟨e,h0⟩ | ⟨g,cap,cur,hv,h1,h2,h3,h4,h5,h6⟩
      ·omega
      ·simp only [Value.slice.injEq] at hv
       have hlt:eo < cur.toList.length:=by rw [Array.length_toList];omega
       exact ⟨g,hv.1,h1,⟨cur.toList[eo],by rw [cell_row h2,List.getElem?_eq_getElem hlt]⟩,frozen_row h2 _⟩
     obtain ⟨xo,hco⟩:=hco
     clear htt ha10
     go_wp2_with fail
     refine (HDe.out _ _ _ (O4.set eo 2) ((hb05.trans (hbel10.mono hb05.size)).setCell (p:=⟨og,eo,none⟩) (Nat.le_trans hb05.size hog) _) (bys_rdk (bys_set HB10.out rfl 2 2 rfl) (by simp)) (by simp;omega)).mono ?_;rintro e w11 ⟨t11,E11,rfl,hb11,ha11⟩
     obtain rfl:=FX.out (by rw [HUL.out];exact hu10) (lb :: (u ++ pb.drop eo)) E11 _ (by
      rw [HD4.out,set_mid _ _ _ _ _ (by rw [List.length_take,HPLn.out];omega),← HEO.out] at ha11
      rw [← HEO.out]
      exact ha11)
     have hb0:Below w1.heap.size w1 w11:=((hb05.trans (hbel10.mono hb05.size)).setCell (p:=⟨og,eo,none⟩) (Nat.le_trans hb05.size hog) (.int .u8 2)).trans (hb11.mono (by have:=hb05.size;have:=hbel10.size;simp;omega))
     go_wp2_with fail
     go_ret
     exact ⟨rfl,hb0⟩
    ·go_wp2_with (at_builtin;refine wpList_append_rd _ rfl (.tmp 107) (.tmp 113) rfl _ O3 w5.heap.size rfl HB8.out _ (pb.drop eo) rfl (rd_drop HR8.out eo (by rw [HPLn.out])) O4 HO4.out (by rw [HLD.out];omega) hz8 ?_)
     intro a9 c9 w9 hb9 hg9
     have hbel9:Below w5.heap.size w5 w9:=hbel8.trans (hg9.below (fun k hk=>(HB8.out.lt k hk).1) hz8)
     have hz9:=hbel9.size
     have hb09:Below w1.heap.size w1 w9:=hb05.trans (hbel9.mono hb05.size)
     have HB9:=hid hb9
     clear hb9 hg9 hce8
     go_wp2_with fail
     refine (HDe.out _ _ _ O4 hb09 HB9.out.rdk (by omega)).mono ?_;rintro e w10 ⟨tt,E10,rfl,hb10,ha10⟩
     obtain ⟨rfl,htt⟩:=FO.out (by rw [HUL.out];exact hu10) E10 _ (by
      have:=HD4.out
      rw [HFB.out,HLB.out,← HEO.out] at this
      rw [this] at ha10
      exact ha10)
     have htv:tt = v:=ba_inj (htt.trans HVV.out.symm)
     subst htv
     have hbel10:Below w5.heap.size w5 w10:=hbel9.trans (hb10.mono hz9)
     have hce10:=(hbel10.cell (p:=⟨w3.heap.size,3,none⟩) (by show w3.heap.size < w5.heap.size;omega)).trans hce
     have HB10:=hid (HB9.out.same hb10)
     obtain ⟨og,rfl,hog,hco,hfo⟩:∃ og,a9 = some ⟨og,0,none⟩ ∧ w5.heap.size ≤ og ∧ (∃ x,w10.cell? ⟨og,eo,none⟩ = some x) ∧ w10.frozen? ⟨og,eo,none⟩ = false:=by
      rcases HB10.out.2 with ⟨e,h0⟩ | ⟨g,cap,cur,hv,h1,h2,h3,h4,h5,h6⟩
      ·omega
      ·simp only [Value.slice.injEq] at hv
       have hlt:eo < cur.toList.length:=by rw [Array.length_toList];omega
       exact ⟨g,hv.1,h1,⟨cur.toList[eo],by rw [cell_row h2,List.getElem?_eq_getElem hlt]⟩,frozen_row h2 _⟩
     obtain ⟨xo,hco⟩:=hco
     clear htt ha10
     go_wp2_with fail
     refine (HDe.out _ _ _ (O4.set eo 2) ((hb05.trans (hbel10.mono hb05.size)).setCell (p:=⟨og,eo,none⟩) (Nat.le_trans hb05.size hog) _) (bys_rdk (bys_set HB10.out rfl 2 2 rfl) (by simp)) (by simp;omega)).mono ?_;rintro e w11 ⟨t11,E11,rfl,hb11,ha11⟩
     obtain rfl:=FX.out (by rw [HUL.out];exact hu10) (lb :: (u ++ pb.drop eo)) E11 _ (by
      rw [HD4.out,set_mid _ _ _ _ _ (by rw [List.length_take,HPLn.out];omega),← HEO.out] at ha11
      rw [← HEO.out]
      exact ha11)
     have hb0:Below w1.heap.size w1 w11:=((hb05.trans (hbel10.mono hb05.size)).setCell (p:=⟨og,eo,none⟩) (Nat.le_trans hb05.size hog) (.int .u8 2)).trans (hb11.mono (by have:=hb05.size;have:=hbel10.size;simp;omega))
     go_wp2_with fail
     go_ret
     exact ⟨rfl,hb0⟩
 ·go_wp2_with fail
  go_ret
  exact ⟨rfl,hb03⟩
end Go.Proofs.YtdgcamlmjmnpeaaGreatDoor
