/- The sum's two spellings: by bits, and by remainders. -/
import Derived.Test.YtopcgnjocklcoaaGreatDoorGFrA
import Derived.Test.YtopcgnjocklcoaaGreatDoorGFrB
namespace Go.Proofs.YtopcgnjocklcoaaGreatDoor
open Go.RowKit

theorem and_one (z : Int) (h : 0 ≤ z ∧ z < 4294967296) : bits BinOp.and IntKind.u32 z 1 = z % 2 := by
  obtain ⟨n, rfl⟩ : ∃ n : Nat, z = n := ⟨z.toNat, by omega⟩
  have hw : ∀ m : Nat, m < 4294967296 → IntKind.u32.wrap (m : Int) = m := fun m hm => by
    have e : IntKind.u32.wrap (m : Int) = (m : Int) % 4294967296 := by unfold IntKind.wrap; simp [IntKind.bits, IntKind.signed]
    rw [e]; omega
  have e : ((BitVec.ofInt 32 (n : Int)) &&& (BitVec.ofInt 32 1)).toNat = n % 2 := by
    rw [BitVec.toNat_and]
    have h1 : (BitVec.ofInt 32 (n : Int)).toNat = n := by
      rw [BitVec.toNat_ofInt]; omega
    have h2 : (BitVec.ofInt 32 1).toNat = 1 := by decide
    rw [h1, h2, Nat.and_one_is_mod]
  show IntKind.u32.wrap (((BitVec.ofInt 32 (n : Int)) &&& (BitVec.ofInt 32 1)).toNat : Int) = _
  rw [e, hw _ (by omega)]
  omega
theorem xor_max (z : Int) (h : 0 ≤ z ∧ z < 4294967296) : bits BinOp.xor IntKind.u32 IntKind.u32.max z = 4294967295 - z := by
  obtain ⟨n, rfl⟩ : ∃ n : Nat, z = n := ⟨z.toNat, by omega⟩
  have hw : ∀ m : Nat, m < 4294967296 → IntKind.u32.wrap (m : Int) = m := fun m hm => by
    have e : IntKind.u32.wrap (m : Int) = (m : Int) % 4294967296 := by unfold IntKind.wrap; simp [IntKind.bits, IntKind.signed]
    rw [e]; omega
  have e : ((BitVec.ofInt 32 4294967295) ^^^ (BitVec.ofInt 32 (n : Int))).toNat = 4294967295 - n := by
    have h1 : (BitVec.ofInt 32 (n : Int)).toNat = n := by
      rw [BitVec.toNat_ofInt]; omega
    have h2 : BitVec.ofInt 32 4294967295 = BitVec.allOnes 32 := by decide
    rw [h2, BitVec.allOnes_xor, BitVec.toNat_not, h1]
  have hm : IntKind.u32.max = 4294967295 := by decide
  rw [hm]
  show IntKind.u32.wrap (((BitVec.ofInt 32 4294967295) ^^^ (BitVec.ofInt 32 (n : Int))).toNat : Int) = _
  rw [e, hw _ (by omega)]
  omega
theorem crc1_mod {z : Int} (h : 0 ≤ z ∧ z < 4294967296) : crc1 z = bif (z % 2 == 1) then bits BinOp.xor IntKind.u32 (z / 2) 3988292384 else z / 2 := by
  unfold crc1; rw [and_one z h]
theorem sumI_sub (L : List UInt8) : sumI L = 4294967295 - crcL L := xor_max _ (crcL_bd L)
end Go.Proofs.YtopcgnjocklcoaaGreatDoor
/- Package courierref: its sum and its frames are the program's. -/
namespace Go.Proofs.YtopcgnjocklcoaaGreatDoor
open Go.RowKit

set_option maxRecDepth 100000 in
set_option maxHeartbeats 1000000 in
theorem refSmall_one (w : World) (lo : Nat) (v : Value) (L : List UInt8) (n : Nat) (h : Bys w lo v L) (hn : n < 128) (hl : L.length ≤ 1000000) (hlo : lo ≤ w.heap.size) :
    Calls Tryz.prog 57 #[v, .int .u64 n] w fun e w' => ∃ a c, e = .returned (.slice a (L ++ [n.toUInt8]).length c) ∧ Bys w' lo (.slice a (L ++ [n.toUInt8]).length c) (L ++ [n.toUInt8]) ∧ Grew w w' v (.slice a (L ++ [n.toUInt8]).length c) := by
  obtain ⟨la, lc, rfl⟩ := own_slice h
  have H := hid h
  clear h
  have hnI : ¬ (128 : Int) ≤ (n : Int) := by omega
  have hu8 : (n : Int) = (n.toUInt8.toNat : Int) := by simp [Nat.toUInt8, UInt8.toNat_ofNat']; omega
  obtain ⟨x, HX⟩ : ∃ x, Hid (n.toUInt8 = x) := ⟨_, hid rfl⟩
  rw [HX.out] at hu8 ⊢
  have HU := hid hu8
  clear hu8
  obtain ⟨M, HM⟩ : ∃ M, Hid (L ++ [x] = M) := ⟨_, hid rfl⟩
  rw [HM.out]
  go_enter Tryz.func57, Tryz.ntmps57
  go_wp2_with fail
  go_loopg [0, 1] 0 (fun gk dv nv wr => dv = .slice la L.length lc ∧ nv = .int .u64 n ∧ wr = w)
  case atStart => exact ⟨rfl, rfl, rfl⟩
  case round =>
    obtain ⟨rfl, rfl, rfl⟩ := hrel
    go_wp2_with (at_builtin; refine wpList_append_rd _ rfl _ _ rfl _ L lo rfl (H.out.same ((Below.refl _ _).alloc (Nat.le_refl _) _)) _ [x] rfl (bys_one _ _ _ (by have := HU.out; omega)).rd M HM.out (by simp; omega) (by simp; omega) ?_)
    intro a1 c1 w1 hb1 hg1
    have HB1 := hid hb1
    have HG1 := hid ((Grew.call ((Below.refl _ _).alloc (Nat.le_refl _) _)).trans hg1)
    clear hb1 hg1
    go_wp2_with fail
    go_ret
    exact ⟨a1, c1, rfl, HB1.out, HG1.out⟩
set_option maxRecDepth 100000 in
set_option maxHeartbeats 1000000 in
theorem refSized_one (w : World) (v : Value) (P : List UInt8) (h : Rd w v P) (hl : P.length ≤ 120) :
    Calls Tryz.prog 36 #[.slice none 0 0, v] w fun e w' => ∃ a c, e = .returned (.slice a ([P.length.toUInt8] ++ P).length c) ∧ Bys w' w.heap.size (.slice a ([P.length.toUInt8] ++ P).length c) ([P.length.toUInt8] ++ P) ∧ Below w.heap.size w w' := by
  obtain ⟨pa, pc, rfl⟩ := h.slice
  have H := hid h
  clear h
  obtain ⟨M, HM⟩ : ∃ M, Hid ([P.length.toUInt8] ++ P = M) := ⟨_, hid rfl⟩
  rw [HM.out]
  go_enter Tryz.func36, Tryz.ntmps36
  go_wp2_with fail
  refine (refSmall_one _ w.heap.size _ [] P.length (World.ownsRow_nil _ _ _ _) (by omega) (by simp) (Nat.le_refl _)).mono ?_; rintro e w1 ⟨a1, c1, rfl, hb1, hg1⟩
  have hbel1 : Below w.heap.size w w1 := hg1.below (fun k hk => by simp [Value.ownBlock] at hk) (Nat.le_refl _)
  have HB1 := hid hb1
  have hz1 := hbel1.size
  have HR1 := hid (H.out.later hbel1)
  obtain ⟨N, HN⟩ : ∃ N, Hid (([] : List UInt8) ++ [P.length.toUInt8] = N) := ⟨_, hid rfl⟩
  have hNl : N.length ≤ 1 := by rw [← HN.out]; simp
  rw [HN.out] at HB1 ⊢
  have HNM : Hid (N ++ P = M) := by rw [← HN.out, List.nil_append]; exact HM
  clear hb1 hg1
  go_wp2_with (at_builtin; refine wpList_append_rd _ rfl (.tmp 10) (.tmp 11) rfl _ N w.heap.size rfl HB1.out _ P rfl HR1.out M HNM.out (by omega) hz1 ?_)
  intro a2 c2 w2 hb2 hg2
  have HB2 := hid hb2
  have hbel2 := hbel1.trans (hg2.below (fun k hk => (HB1.out.lt k hk).1) hz1)
  clear hb2 hg2
  go_wp2_with fail
  go_ret
  exact ⟨a2, c2, rfl, HB2.out, hbel2⟩
set_option maxRecDepth 100000 in
set_option maxHeartbeats 1000000 in
theorem refSum_any (w : World) (v : Value) (L : List UInt8) (h : Rd w v L) (hl : L.length ≤ 1000000) :
    Calls Tryz.prog 37 #[v] w fun e w' => ∃ a c, e = .returned (.slice a (sumB L).length c) ∧ Bys w' w.heap.size (.slice a (sumB L).length c) (sumB L) ∧ Below w.heap.size w w' := by
  obtain ⟨a, c, rfl⟩ := h.slice
  have H := hid h
  clear h
  go_enter Tryz.func37, Tryz.ntmps37
  go_wp2
  go_loop [3, 4, 5, 6] (fun r i x5 x6 => ∃ k : Nat, k ≤ L.length ∧ i = .int .i64 k ∧ r = .int .u32 (crcL (L.take k))) (fun _ i _ _ => L.length - (intOf i).toNat)
  case atStart => exact ⟨0, Nat.zero_le _, rfl, rfl⟩
  case round =>
    obtain ⟨k, hk, rfl, rfl⟩ := hrel
    have hbd := crcL_bd (L.take k)
    by_cases hlt : k < L.length
    · obtain ⟨b, o, c', hv, hb, hc⟩ := H.out.at (by omega)
      obtain ⟨rfl, rfl⟩ : a = some ⟨b, o, none⟩ ∧ c = c' := by simpa using hv
      have hck := hc k hlt
      have HS := hid (show crcL (L.take (k + 1)) = crcB (crcL (L.take k)) L[k] by unfold crcL; rw [List.take_succ_eq_append_getElem hlt, List.foldl_append]; rfl)
      generalize crcL (L.take k) = z at *
      generalize L[k] = d at *
      clear hc
      go_wp2_with fail
      go_loop [3, 5, 6] (fun r j x6 => ∃ q : Nat, q ≤ 8 ∧ j = .int .i64 q ∧ r = .int .u32 (crcN q (bits BinOp.xor IntKind.u32 z ((d.toNat : Int) % 4294967296)))) (fun _ j _ => 8 - (intOf j).toNat)
      case atStart => exact ⟨0, Nat.zero_le _, rfl, rfl⟩
      case round =>
        obtain ⟨q, hq, rfl, rfl⟩ := hrel
        have hbq := crcN_bd q (bits_u32 BinOp.xor z ((d.toNat : Int) % 4294967296))
        by_cases hlt' : q < 8
        · have HQ := hid (show crcN (q + 1) (bits BinOp.xor IntKind.u32 z ((d.toNat : Int) % 4294967296)) = crc1 (crcN q (bits BinOp.xor IntKind.u32 z ((d.toNat : Int) % 4294967296))) from rfl)
          generalize crcN q (bits BinOp.xor IntKind.u32 z ((d.toNat : Int) % 4294967296)) = y at *
          have HC := hid (crc1_mod hbq)
          cases hodd : (y % 2 == 1) with
          | true =>
            have HD := hid hodd
            go_wp2_with fail
            go_round
            case rel => exact ⟨q + 1, by omega, by go_num, by rw [HQ.out, HC.out, HD.out]; rfl⟩
            case measure => simp [intOf]; omega
          | false =>
            have HD := hid hodd
            go_wp2_with fail
            go_round
            case rel => exact ⟨q + 1, by omega, by go_num, by rw [HQ.out, HC.out, HD.out]; rfl⟩
            case measure => simp [intOf]; omega
        · obtain rfl : q = 8 := by omega
          go_wp2_with fail
          go_round
          case rel => exact ⟨k + 1, by omega, by go_num, by rw [HS.out]; rfl⟩
          case measure => simp [intOf]; omega
    · have hT : crcL (L.take k) = crcL L := by rw [List.take_of_length_le (by omega)]
      have hbL := crcL_bd L
      rw [hT]
      have HSB := hid (show sumB L = [((4294967295 - crcL L) / 16777216).toNat.toUInt8, ((4294967295 - crcL L) / 65536).toNat.toUInt8, ((4294967295 - crcL L) / 256).toNat.toUInt8, (4294967295 - crcL L).toNat.toUInt8] by unfold sumB; rw [sumI_sub])
      generalize crcL L = z at *
      clear hbd hT
      go_wp2_with fail
      go_ret
      exact ⟨_, _, rfl, bys_lit _ (sumB L) _ (by rw [HSB.out]; simp [byteCell]; omega) (by rw [HSB.out]; simp), (Below.refl _ _).alloc (Nat.le_refl _) _⟩
set_option maxRecDepth 100000 in
set_option maxHeartbeats 1000000 in
theorem refFrame_any (w : World) (v : Value) (P : List UInt8) (h : Rd w v P) (hl : P.length ≤ maxLen) :
    Calls Tryz.prog 21 #[v] w (WrapPost w P) := by
  obtain ⟨pa, pc, rfl⟩ := h.slice
  unfold maxLen at hl
  have H := hid h
  clear h
  by_cases hok : okB P.length = true
  · have hb := okB_iff.1 hok
    have HO := hid hok
    have h1 : ¬ (P.length : Int) < 1 := by omega
    have h2 : ¬ (120 : Int) < (P.length : Int) := by omega
    clear hok
    go_enter Tryz.func21, Tryz.ntmps21
    go_wp2_with fail
    refine (refSized_one _ _ P H.out hb.2).mono ?_; rintro e w1 ⟨a1, c1, rfl, hb1, hbel1⟩
    have HB1 := hid hb1
    have HF := hid (show frameP sumB P = ([P.length.toUInt8] ++ P) ++ sumB ([P.length.toUInt8] ++ P) from rfl)
    have hMl : ([P.length.toUInt8] ++ P).length ≤ 121 := by simp; omega
    generalize [P.length.toUInt8] ++ P = M at *
    have hz1 := hbel1.size
    clear hb1
    go_wp2_with fail
    refine (refSum_any _ _ M HB1.out.rd (by omega)).mono ?_; rintro e w2 ⟨a2, c2, rfl, hb2, hbel2⟩
    have HB2 := hid hb2
    have HB12 := hid (HB1.out.same hbel2)
    have hz2 := hbel2.size
    have hbel12 := hbel1.trans (hbel2.mono hz1)
    have hSl := sumB_len M
    obtain ⟨S, HS⟩ : ∃ S, Hid (sumB M = S) := ⟨_, hid rfl⟩
    rw [HS.out] at HB2 hSl ⊢
    obtain ⟨FF, HFF⟩ : ∃ FF, Hid (M ++ S = FF) := ⟨_, hid rfl⟩
    have HF2 : Hid (frameP sumB P = FF) := by rw [HF.out, HS.out]; exact HFF
    have hS4 : S.length ≤ 4 := by omega
    clear hb2 hSl
    go_wp2_with (at_builtin; refine wpList_append_rd _ rfl (.tmp 18) (.tmp 19) rfl _ M w.heap.size rfl HB12.out _ S rfl HB2.out.rd FF HFF.out (by omega) (by omega) ?_)
    intro a3 c3 w3 hb3 hg3
    have HB3 := hid hb3
    have hbel3 := hbel12.trans (hg3.below (fun k hk => (HB12.out.lt k hk).1) (by omega))
    clear hb3 hg3
    go_wp2_with fail
    go_ret2
    refine ⟨hbel3, ?_⟩
    rw [HO.out, HF2.out]
    exact ⟨a3, c3, rfl, HB3.out⟩
  · have hno : okB P.length = false := by simpa using hok
    have hcond : ((P.length : Int) < 1) ∨ (¬ (P.length : Int) < 1 ∧ (120 : Int) < (P.length : Int)) := by
      have h1 : ¬ (1 ≤ P.length ∧ P.length ≤ 120) := fun h => hok (okB_iff.2 h)
      omega
    have HO := hid hno
    clear hok hno
    rcases hcond with h1 | ⟨h1, h2⟩
    all_goals
      go_enter Tryz.func21, Tryz.ntmps21
      go_wp2_with fail
      go_ret2
      refine ⟨Below.refl _ _, ?_⟩
      rw [HO.out]
      rfl
theorem drewN_two (w : World) (n m : Nat) : ∃ q, (w.drewN n).drewN m = w.drewN q := ⟨n + m, by simp [World.drewN, Nat.add_assoc]⟩
set_option maxRecDepth 100000 in
set_option maxHeartbeats 1000000 in
theorem sameBytes_any (w : World) (v v2 : Value) (L M : List UInt8) (h : Rd w v L) (h2 : Rd w v2 M) (hl : L.length ≤ 1000000000) (hm : M.length ≤ 1000000000) :
    Calls Tryz.prog 103 #[v, v2] w fun e w' => e = .returned (.bool (decide (L = M))) ∧ ∃ n, w' = w.drewN n := by
  obtain ⟨a, c, rfl⟩ := h.slice
  obtain ⟨a2, c2, rfl⟩ := h2.slice
  have H := hid h
  have H2 := hid h2
  clear h h2
  by_cases he : L.length = M.length
  · have heI : ((L.length : Int) != (M.length : Int)) = false := by rw [bne_eq_false_iff_eq]; omega
    go_enter Tryz.func103, Tryz.ntmps103
    have HE := hid he
    have hMl : M.length ≤ L.length ∧ L.length ≤ M.length := by omega
    clear he
    go_wp2_with fail
    go_loopg [5] L.length (fun gk i wr => ∃ k n : Nat, k + gk = L.length ∧ i = .int .i64 k ∧ wr = w.drewN n ∧ Hid (L.take k = M.take k))
    case atStart => exact ⟨0, 0, by omega, rfl, rfl, hid rfl⟩
    case round =>
      obtain ⟨k, n, hk, rfl, rfl, HT⟩ := hrel
      by_cases hlt : k < L.length
      · have hlm : k < M.length := by omega
        obtain ⟨b, o, c', hv, hb, hc⟩ := H.out.at (by omega)
        obtain ⟨rfl, rfl⟩ : a = some ⟨b, o, none⟩ ∧ c = c' := by simpa using hv
        obtain ⟨b2, o2, c2', hv2, hb2, hc2⟩ := H2.out.at (by omega)
        obtain ⟨rfl, rfl⟩ : a2 = some ⟨b2, o2, none⟩ ∧ c2 = c2' := by simpa using hv2
        have hck := hc k hlt
        have hck2 := hc2 k hlm
        have hI1 : (k : Int) < (L.length : Int) := by omega
        have hI2 : (k : Int) < (M.length : Int) := by omega
        have HX := hid (show L.take (k + 1) = L.take k ++ [L[k]] from List.take_succ_eq_append_getElem hlt)
        have HY := hid (show M.take (k + 1) = M.take k ++ [M[k]] from List.take_succ_eq_append_getElem hlm)
        have HN := hid (fun (hne : ¬ L[k] = M[k]) (hLM : L = M) => hne (by subst hLM; rfl))
        generalize L[k] = x at *
        generalize M[k] = y at *
        clear hc hc2 hv hv2
        by_cases hxy : x = y
        · subst hxy
          go_wp2_with fail
          go_quiet (fail)
          go_wp2_with fail
          go_roundg (gk - 1)
          case rel => exact ⟨k + 1, _, by omega, by go_num, rfl, hid (by rw [HX.out, HY.out, HT.out])⟩
          case measure => omega
        · have hxyI : ((x.toNat : Int) == (y.toNat : Int)) = false := by
            rw [beq_eq_false_iff_ne]; intro e; exact hxy (UInt8.toNat_inj.1 (by omega))
          have HD := hid (show decide (L = M) = false from by rw [decide_eq_false_iff_not]; exact HN.out hxy)
          clear hxy
          go_wp2_with fail
          go_quiet (fail)
          go_wp2_with fail
          go_ret
          exact ⟨ret_bool HD.out.symm, drewN_two _ _ _⟩
      · have hI1 : ¬ (k : Int) < (L.length : Int) := by omega
        have HD := hid (show decide (L = M) = true from by
          rw [decide_eq_true_iff]
          have := HT.out
          rwa [List.take_of_length_le (by omega), List.take_of_length_le (by omega)] at this)
        go_wp2_with fail
        go_ret
        exact ⟨ret_bool HD.out.symm, _, rfl⟩
  · have heI : ((L.length : Int) == (M.length : Int)) = false := by rw [beq_eq_false_iff_ne]; omega
    have HD := hid (show decide (L = M) = false from by rw [decide_eq_false_iff_not]; intro e; exact he (by rw [e]))
    clear he
    go_enter Tryz.func103, Tryz.ntmps103
    go_wp2_with fail
    go_ret
    exact ⟨ret_bool HD.out.symm, 0, rfl⟩
end Go.Proofs.YtopcgnjocklcoaaGreatDoor
