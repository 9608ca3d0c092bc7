/- spoilt of package courierkeep: with any one byte turned those ahead of it come, then ErrFrame for good. -/
import Derived.Test.YtpnkhmijciopeaaCFrZeros
namespace Go.Proofs.Ytpnkhmijciopeaa
open Go.RowKit

/-- texts in memory of their own -/
def Strs (w : World) (lo : Nat) (v : Value) (Ps : List (List UInt8)) : Prop := w.ownsRow lo 9 1 v Ps.length (Ps.map fun P => .string (strOf P))
theorem Strs.same {w w' : World} {lo : Nat} {v : Value} {Ps : List (List UInt8)} (h : Strs w lo v Ps) (hb : Below w.heap.size w w') : Strs w' lo v Ps :=
  own_same h (fun g hg => hb.block g (h.lt g hg).2)
theorem Strs.cell {w : World} {lo : Nat} {v : Value} {Ps : List (List UInt8)} (h : Strs w lo v Ps) (h0 : 0 < Ps.length) : ∃ g c, v = .slice (some ⟨g, 0, none⟩) Ps.length c ∧ g < w.heap.size ∧ ∀ i (hi : i < Ps.length), w.cell? ⟨g, i, none⟩ = some (.string (strOf Ps[i])) := by
  rcases h.2 with ⟨_, e⟩ | ⟨g, cap, cur, hv, r⟩
  · omega
  · refine ⟨g, cap, hv, (h.lt g (by rw [hv]; rfl)).2, fun i hi => ?_⟩
    have := h.cells (g := g) (by rw [hv]; rfl) i (.string (strOf Ps[i])) (by simp [List.getElem?_eq_getElem hi])
    rw [rd_add _ _ rfl] at this
    simpa using this
theorem bits_u8 (op : BinOp) (x y : Int) : 0 ≤ bits op IntKind.u8 x y ∧ bits op IntKind.u8 x y ≤ 255 := by
  unfold bits
  have : ∀ n : Int, 0 ≤ IntKind.u8.wrap n ∧ IntKind.u8.wrap n ≤ 255 := fun n => by
    have e : IntKind.u8.wrap n = n % 256 := by unfold IntKind.wrap; simp [IntKind.bits, IntKind.signed]
    rw [e]; omega
  exact this _
set_option maxRecDepth 100000 in
set_option maxHeartbeats 2000000 in
theorem spoilt_any (w : World) (lo lo2 : Nat) (va vw : Value) (Ps : List (List UInt8)) (at_ by_ : Int) (ha : Bys w lo va (framesP sumB Ps)) (hw : Strs w lo2 vw Ps) (hP : ∀ P ∈ Ps, okB P.length = true) (h0 : 0 < Ps.length) (hn : Ps.length ≤ 6) (hlen : (framesP sumB Ps).length ≤ 750)
    (hat : -9223372036854775808 ≤ at_ ∧ at_ ≤ 9223372036854775807) (hby : -9223372036854775808 ≤ by_ ∧ by_ ≤ 9223372036854775807) :
    Calls Try.prog 8 #[va, vw, .int .i64 at_, .int .i64 by_] w fun e w' => e = .returned (.bool true) ∧ Below w.heap.size w w' := by
  obtain ⟨aa, ac, rfl⟩ := own_slice ha
  obtain ⟨wg, wc, rfl, hwg, hwc⟩ := hw.cell h0
  have hFpos : 0 < (framesP sumB Ps).length := by
    rw [framesP_len sumB_len]
    cases Ps with
    | nil => simp at h0
    | cons P r => rw [offP_cons]; omega
  have HA := hid ha
  have HW := hid hw
  have HP := hid hP
  have HWC := hid hwc
  have HAT := hid hat
  have HBY := hid hby
  clear ha hw hP hwc hat hby
  obtain ⟨F, HF⟩ : ∃ F, Hid (framesP sumB Ps = F) := ⟨_, rfl⟩
  have hFl : F.length ≤ 750 := by rw [← HF.out]; exact hlen
  have hF0 : 0 < F.length := by rw [← HF.out]; exact hFpos
  rw [HF.out] at HA
  rw [HF.out]
  clear hlen hFpos
  go_enter Try.func8, Try.ntmps8
  go_wp2_with fail
  refine (pick_any at_ F.length _ hF0 (by unfold maxLen; omega) HAT.out).mono ?_; rintro e w1 ⟨rfl, rfl⟩
  have hil := pickN_lt at_ hF0
  generalize pickN at_ F.length = i at *
  go_wp2_with (at_builtin; refine wpList_append_rd _ rfl (.tmp 23) (.tmp 24) rfl _ [] w1.heap.size rfl (World.ownsRow_nil _ _ _ _) _ F rfl HA.out.rd F rfl (by simp; omega) (Nat.le_refl _) ?_)
  intro a1 c1 w2 hb1 hg1
  have hbel2 : Below w1.heap.size w1 w2 := (hg1.below (fun k hk => by simp [Value.ownBlock] at hk) (Nat.le_refl _))
  obtain ⟨gb, gc, hv, hgb, hcur⟩ : ∃ gb c, (Value.slice a1 F.length c1) = .slice (some ⟨gb, 0, none⟩) F.length c ∧ w1.heap.size ≤ gb ∧ ∃ cur, w2.heap[gb]? = some (.cells cur 5 (0, 0)) ∧ F.length ≤ c ∧ c ≤ maxLen ∧ cur.size = c ∧ cur.toList.take F.length = F.map byteCell := by
    rcases hb1.2 with ⟨_, e⟩ | ⟨g, cap, cur, hv, h1, h2, h3, h4, h5, h6⟩
    · omega
    · exact ⟨g, cap, hv, h1, cur, h2, h3, h4, by simpa using h5, by simpa using h6⟩
  obtain ⟨rfl, rfl⟩ : a1 = some ⟨gb, 0, none⟩ ∧ c1 = gc := by simpa using hv
  obtain ⟨cur, hcur1, hc1, hc2, hc3, hc4⟩ := hcur
  have hci : w2.cell? ⟨gb, i, none⟩ = some (.int .u8 (F[i].toNat : Int)) := by
    rw [cell_row hcur1]
    have : (cur.toList.take F.length)[i]? = some (byteCell F[i]) := by rw [hc4]; simp [List.getElem?_eq_getElem hil]
    rw [List.getElem?_take_of_lt hil] at this
    exact this
  have hfi : w2.frozen? ⟨gb, i, none⟩ = false := frozen_row hcur1 _
  have hiI : (i : Int) < (F.length : Int) := by omega
  have HCur := hid hcur1
  have HC4 := hid hc4
  clear hb1 hg1 hcur1 hc4 hv
  go_wp2_with fail
  go_region_with (go_at_call 6; refine (pick_any by_ 255 _ (by decide) (by unfold maxLen; omega) HBY.out).mono ?_; rintro e w' ⟨rfl, rfl⟩)
  all_goals
    have hzb := bits_u8 BinOp.xor (F[i].toNat : Int) (IntKind.u8.wrap (IntKind.i64.wrap (1 + (pickN by_ 255 : Int))))
    generalize bits BinOp.xor IntKind.u8 (F[i].toNat : Int) (IntKind.u8.wrap (IntKind.i64.wrap (1 + (pickN by_ 255 : Int)))) = z at hzb ⊢
    obtain ⟨c, hcz⟩ : ∃ c : UInt8, (c.toNat : Int) = z := ⟨z.toNat.toUInt8, by simp [Nat.toUInt8, UInt8.toNat_ofNat']; omega⟩
    obtain ⟨w3, hw3⟩ : ∃ w3, w3 = (w2.setCell ⟨gb, i, none⟩ (.int .u8 z)).drew := ⟨_, rfl⟩
    rw [← hw3]
    obtain ⟨F2, HF2⟩ : ∃ F2, Hid (F.set i c = F2) := ⟨_, rfl⟩
    have hF2 : F2.length = F.length := by rw [← HF2.out]; simp
    have HB3 : Hid (Bys w3 w1.heap.size (.slice (some ⟨gb, 0, none⟩) F.length c1) F2) := by
      rw [← hF2]
      refine ⟨by simp, .inr ⟨gb, c1, cur.setIfInBounds i (.int .u8 z), rfl, hgb, ?_, by omega, hc2, by simp; omega, ?_⟩⟩
      · rw [hw3]; exact heap_setCell_same w2 gb i cur _ _ HCur.out
      · rw [Array.toList_setIfInBounds, Nat.mul_one, hF2, ← HF2.out, List.take_set, HC4.out, List.map_set]
        congr 1
        rw [← hcz]; rfl
    have hbel3 : Below w1.heap.size w1 w3 := by
      rw [hw3]; exact (hbel2.setCell (p := ⟨gb, i, none⟩) hgb _).drew
    have hz3 := hbel3.size
    have HWC3 := hid (show ∀ q (hq : q < Ps.length), w3.cell? ⟨wg, q, none⟩ = some (.string (strOf Ps[q])) from fun q hq => (hbel3.cell (p := ⟨wg, q, none⟩) hwg).trans (HWC.out q hq))
    clear hw3 hzb hcz hci hfi
    go_wp2_with fail
    go_loop [11, 12] (fun x y => ∃ m : Nat, m ≤ Ps.length ∧ x = .int .i64 m ∧ y = .int .i64 (offP (Ps.take m)) ∧ offP (Ps.take m) ≤ i) (fun x _ => Ps.length - (intOf x).toNat)
    case atStart => exact ⟨0, Nat.zero_le _, rfl, by simp [offP], by simp [offP]⟩
    case round =>
      obtain ⟨m, hm, rfl, rfl, hoff⟩ := hrel
      by_cases hgo : ∃ h : m < Ps.length, offP (Ps.take m) + Ps[m].length + 5 ≤ i
      · obtain ⟨hlt, hle⟩ := hgo
        have hcm := HWC3.out m hlt
        have hsz := strOf_size Ps[m]
        have HO := hid (show offP (Ps.take (m + 1)) = offP (Ps.take m) + (Ps[m].length + 5) by rw [List.take_succ_eq_append_getElem hlt, offP_append]; simp [offP])
        have hleI : (offP (Ps.take m) : Int) + (Ps[m].length : Int) + 5 ≤ (i : Int) := by omega
        go_wp2_with fail
        go_round
        case rel => exact ⟨m + 1, by omega, by go_num, by rw [HO.out]; go_num, by rw [HO.out]; omega⟩
        case measure => simp [intOf]; omega
      · have HSP := hid (feed_spoilt sumB_len Ps HP.out m i c hoff)
        have hex : (¬ m < Ps.length) ∨ ∃ h : m < Ps.length, w3.cell? ⟨wg, m, none⟩ = some (.string (strOf Ps[m])) ∧ (strOf Ps[m]).size = Ps[m].length ∧ Ps[m].length ≤ 120 ∧ ¬ (offP (Ps.take m) : Int) + (Ps[m].length : Int) + 5 ≤ (i : Int) := by
          by_cases h : m < Ps.length
          · refine Or.inr ⟨h, HWC3.out m h, strOf_size _, (okB_iff.1 (HP.out Ps[m] (List.getElem_mem h))).2, fun hle => hgo ⟨h, by omega⟩⟩
          · exact Or.inl h
        clear hgo
        obtain ⟨M, HM⟩ : ∃ M, Hid (F2 ++ List.replicate 125 0 = M) := ⟨_, hid rfl⟩
        have hMl : M.length ≤ 900 := by rw [← HM.out, List.length_append, hF2, List.length_replicate]; omega
        have HSP2 : Hid (∃ l, feedF sumB (some []) M = (Ps.take m ++ l, none)) := by
          have := HSP.out
          rw [HF.out, HF2.out, HM.out] at this
          exact this
        clear HSP
        rcases hex with hlt | ⟨hlt, hcm, hsz, hPm, hleI⟩
        all_goals
          go_wp2_with (at_builtin; refine wpList_append_zeros _ rfl (.tmp 64) (.const (.int .i64 125)) rfl _ F2 w1.heap.size rfl HB3.out 125 rfl (by decide) (by decide) (by omega) (by omega) hz3 M HM.out ?_)
          intro a4 c4 w4 hb4 hg4
          have hbel4 : Below w1.heap.size w1 w4 := hbel3.trans (hg4.below (fun k hk => (HB3.out.lt k hk).1) hz3)
          have HB4 := hid hb4
          clear hb4 hg4
          go_wp2_with fail
          refine (newDeframer_any _).mono ?_; rintro e w5 ⟨rfl, hb5, hz5, hC5⟩
          have HC5 := hid hC5
          have HB5 := hid (HB4.out.same hb5)
          have hbel5 := hbel4.trans (hb5.mono hbel4.size)
          clear hC5
          go_wp2_with fail
          refine (feed_any _ w4.heap.size (some []) _ M HC5.out (Or.inl rfl) HB5.out.rd (by omega) (fun k hk => by have := (HB4.out.lt k hk).2; omega)).mono ?_; rintro e w6 ⟨a6, c6, vs, rfl, hg6, hC6, hL6⟩
          obtain ⟨l, hl⟩ := HSP2.out
          rw [hl] at hC6 hL6 ⊢
          have hbel6 : Below w1.heap.size w1 w6 := hbel5.trans ⟨hg6.os, hg6.tape, hg6.output, hg6.size, fun k hk => hg6.block k (by have := hbel5.size; omega) (fun e => by cases e; have := hbel4.size; omega)⟩
          have hLm : m ≤ (Ps.take m ++ l).length := by simp; omega
          have hLk : ∀ k (hk : k < m), (Ps.take m ++ l)[k]? = Ps[k]? := fun k hk => by
            rw [List.getElem?_append_left (by simp; omega), List.getElem?_take_of_lt hk]
          have HLk := hid hLk
          have HC6 := hid hC6
          have HL6 := hid hL6
          clear hC6 hL6 hl hLk HSP2
          simp only [feedErr]
          generalize Ps.take m ++ l = Ls at *
          go_wp2_with fail
          go_loopg [16] m (fun gk x wr => ∃ k n : Nat, k + gk = m ∧ x = .int .i64 k ∧ wr = w6.drewN n)
          case atStart => exact ⟨0, 0, by omega, rfl, rfl⟩
          case round =>
            obtain ⟨k, nn, hk, rfl, rfl⟩ := hrel
            have hbel7 : Below w6.heap.size w6 (w6.drewN nn) := below_drewN (Below.refl _ _) nn
            by_cases hkm : k < m
            · have hkL : k < Ls.length := by omega
              have hkP : k < Ps.length := by omega
              obtain ⟨u, hu, hBu⟩ := HL6.out.at hkL
              have e1 : Ls[k] = Ps[k] := by
                have := HLk.out k hkm
                rw [List.getElem?_eq_getElem hkL, List.getElem?_eq_getElem hkP] at this
                simpa using this
              rw [e1] at hBu
              obtain ⟨lg, lc, hLv, hlg⟩ : ∃ lg c, (Value.slice a6 Ls.length c6) = .slice (some ⟨lg, 0, none⟩) Ls.length c ∧ lg < w6.heap.size := by
                rcases HL6.out.own.2 with ⟨_, e⟩ | ⟨g, cap, cur, hv, _⟩
                · omega
                · exact ⟨g, cap, hv, (HL6.out.own.lt g (by rw [hv]; rfl)).2⟩
              obtain ⟨rfl, rfl⟩ : a6 = some ⟨lg, 0, none⟩ ∧ c6 = lc := by simpa using hLv
              have hcu : w6.cell? ⟨lg, k, none⟩ = some u := by
                have := HL6.out.own.cells (g := lg) rfl k u hu
                rw [rd_add _ _ rfl] at this
                simpa using this
              have hcw : w6.cell? ⟨wg, k, none⟩ = some (.string (strOf Ps[k])) := (hbel6.cell (p := ⟨wg, k, none⟩) hwg).trans (HWC.out k hkP)
              obtain ⟨ua, uc, rfl⟩ := own_slice hBu
              have hconv : ∀ q, (convert 24 9 (.slice ua Ps[k].length uc)).run Try.prog (w6.drewN q) = .ok (.string (strOf Ps[k])) (w6.drewN q) := fun q => (Bys.rd (hBu.same (below_drewN (Below.refl _ _) q))).conv
              have hkI : (k : Int) < (m : Int) := by omega
              have hkI2 : (k : Int) < (Ls.length : Int) := by omega
              have hkI3 : (k : Int) < (Ps.length : Int) := by omega
              clear hu hBu e1 hLv
              go_wp2_with fail
              go_quiet (fail)
              go_wp2_with fail
              go_roundg (gk - 1)
              case rel => exact ⟨k + 1, _, by omega, by go_num, by first | rfl | exact World.drewN_add _ _ _ | simp⟩
              case measure => omega
            · obtain rfl : k = m := by omega
              have HA7 := hid (show Rd (w6.drewN nn) (.slice aa F.length ac) F from (HA.out.same ((hbel6.trans (hbel7.mono hbel6.size)))).rd)
              have HC7 := hid (show Cut (w6.drewN nn) w4.heap.size none from HC6.out)
              have hz4 := hbel4.size
              have hbel17 := hbel6.trans (hbel7.mono hbel6.size)
              go_wp2_with fail
              refine (feed_any _ w4.heap.size none _ F HC7.out trivial HA7.out (by omega) (fun q hq => by have := (HA.out.lt q hq).2; omega)).mono ?_; rintro e w8 ⟨a8, c8, vs8, rfl, hg8, hC8, hL8⟩
              rw [feed_bad] at hC8 hL8 ⊢
              simp only [feedErr]
              have hbel8 : Below w1.heap.size w1 w8 := hbel17.trans ⟨hg8.os, hg8.tape, hg8.output, hg8.size, fun q hq => hg8.block q (by have := hbel17.size; omega) (fun e => by cases e; omega)⟩
              clear hC8 hL8 hg8
              go_wp2_with fail
              go_ret
              exact ⟨rfl, hbel8⟩
end Go.Proofs.Ytpnkhmijciopeaa
