/- Frames made: bytes.Clone, Wrap, Frame. -/
import Derived.Test.YtlgjlfobbpgklaaGreatDoorCFrSum
namespace Go.Proofs.YtlgjlfobbpgklaaGreatDoor
open Go.RowKit

/-- the four bytes of the sum -/
def sumB (L : List UInt8) : List UInt8 := [(sumI L / 16777216).toNat.toUInt8, (sumI L / 65536).toNat.toUInt8, (sumI L / 256).toNat.toUInt8, (sumI L).toNat.toUInt8]
theorem sumB_len (L : List UInt8) : (sumB L).length = 4 := rfl

/-- what Wrap answers -/
def WrapPost (w : World) (P : List UInt8) (e : Ending) (w' : World) : Prop :=
  Below w.heap.size w w' ∧ bif okB P.length then ∃ a c, e = .returned (.tuple #[.slice a (frameP sumB P).length c, .int .i64 0]) ∧ Bys w' w.heap.size (.slice a (frameP sumB P).length c) (frameP sumB P)
    else e = .returned (.tuple #[.slice none 0 0, .int .i64 7])

set_option maxRecDepth 100000 in
set_option maxHeartbeats 1000000 in
theorem bytesClone_any (w : World) (v : Value) (L : List UInt8) (h : Rd w v L) (h0 : 0 < L.length) (hl : L.length ≤ 1000000000) :
    Calls Tryz.prog 281 #[v] w fun e w' => ∃ a c, e = .returned (.slice a L.length c) ∧ Bys w' w.heap.size (.slice a L.length c) L ∧ Below w.heap.size w w' := by
  obtain ⟨b, o, c, rfl, hb, _⟩ := h.at h0
  have H := hid h
  clear h
  have hq := eql_nil (some ⟨b, o, none⟩) L.length c w
  go_enter Tryz.func281, Tryz.ntmps281
  go_wp2_with (at_builtin; refine wpList_append_rd _ rfl _ _ rfl _ [] w.heap.size rfl (bys_lit _ [] _ rfl (by simp)) _ L rfl (H.out.later ((Below.refl _ _).alloc (Nat.le_refl _) _)) L rfl (by simp; omega) (by simp) ?_)
  intro a1 c1 w1 hb1 hg1
  have hbel : Below w.heap.size w w1 := ((Below.refl _ _).alloc (Nat.le_refl _) _).trans (hg1.below (fun k hk => by simp [Value.ownBlock] at hk; omega) (by simp))
  go_wp2_with fail
  go_ret
  exact ⟨a1, c1, rfl, hb1, hbel⟩
set_option maxRecDepth 100000 in
set_option maxHeartbeats 1000000 in
theorem wrap_any (w : World) (v : Value) (P : List UInt8) (h : Rd w v P) (hl : P.length ≤ maxLen) :
    Calls Tryz.prog 95 #[v] w (WrapPost w P) := by
  obtain ⟨pa, pc, rfl⟩ := h.slice
  unfold maxLen at hl
  have H := hid h
  clear h
  by_cases hok : okB P.length = true
  · have hb := okB_iff.1 hok
    have hi : (decide (1 ≤ (P.length : Int)) && decide ((P.length : Int) ≤ 120)) = true := by simp; omega
    have HO := hid hok
    clear hok
    go_enter Tryz.func95, Tryz.ntmps95
    go_wp2_with fail
    refine (isCount_any _ _).mono ?_; rintro e w1 ⟨rfl, rfl⟩
    rw [hi]
    have hM0 : ([P.length.toUInt8] ++ P).length ≤ 121 := by simp; omega
    have HF0 := hid (show frameP sumB P = ([P.length.toUInt8] ++ P) ++ sumB ([P.length.toUInt8] ++ P) from rfl)
    obtain ⟨M, HM⟩ : ∃ M, Hid ([P.length.toUInt8] ++ P = M) := ⟨_, rfl⟩
    have hM : M.length ≤ 121 := by rw [← HM.out]; exact hM0
    have HF : Hid (frameP sumB P = M ++ sumB M) := by rw [← HM.out]; exact HF0
    clear hM0 HF0
    go_wp2_with (at_builtin; refine wpList_append_rd _ rfl (.tmp 13) (.tmp 14) rfl _ [P.length.toUInt8] w1.heap.size rfl (bys_one _ _ _ (by rw [toU8_ok hb.2])) _ P rfl (H.out.later ((Below.refl _ _).alloc (Nat.le_refl _) _)) M HM.out (by rw [List.length_singleton]; omega) (by simp) ?_)
    intro a1 c1 w2 hb2 hg2
    have hbel2 : Below w1.heap.size w1 w2 := ((Below.refl _ _).alloc (Nat.le_refl _) _).trans (hg2.below (fun k hk => by simp [Value.ownBlock] at hk; omega) (by simp))
    have hz2 := hbel2.size
    have HB2 := hid hb2
    clear hb2 hg2
    go_wp2_with fail
    refine (sumOf_any _ _ M HB2.out.rd (by omega)).mono ?_; rintro e w3 ⟨rfl, rfl⟩
    have hsb : 0 ≤ sumI M ∧ sumI M < 4294967296 := bits_u32 _ _ _
    have HS := hid (show sumB M = [(sumI M / 16777216).toNat.toUInt8, (sumI M / 65536).toNat.toUInt8, (sumI M / 256).toNat.toUInt8, (sumI M).toNat.toUInt8] from rfl)
    generalize sumI M = z at *
    obtain ⟨FF, HFF⟩ : ∃ FF, Hid (M ++ sumB M = FF) := ⟨_, rfl⟩
    have HF2 : Hid (frameP sumB P = FF) := HF.out.trans HFF.out
    go_wp2_with (at_builtin; refine wpList_append_rd _ rfl (.tmp 18) (.tmp 30) rfl _ M w1.heap.size rfl (HB2.out.same ((Below.refl _ _).alloc (Nat.le_refl _) _)) _ (sumB M) rfl (bys_lit _ (sumB M) _ (by rw [HS.out]; simp [byteCell]; omega) (by rw [HS.out]; simp)).rd FF HFF.out (by rw [HS.out]; simp; omega) (by simp; omega) ?_)
    intro a3 c3 w4 hb4 hg4
    have hbel4 : Below w1.heap.size w1 w4 := (hbel2.alloc hz2 _).trans (hg4.below (fun k hk => (HB2.out.lt k hk).1) (by simp; omega))
    have HB4 := hid hb4
    clear hb4 hg4
    go_wp2_with fail
    go_ret2
    refine ⟨hbel4, ?_⟩
    rw [HO.out, HF2.out]
    exact ⟨a3, c3, rfl, HB4.out⟩
  · have hno : okB P.length = false := by simpa using hok
    have hi : (decide (1 ≤ (P.length : Int)) && decide ((P.length : Int) ≤ 120)) = false := by
      rw [← hno]; unfold okB; rw [Bool.eq_iff_iff]; simp; omega
    have HO := hid hno
    clear hok hno
    go_enter Tryz.func95, Tryz.ntmps95
    go_wp2_with fail
    refine (isCount_any _ _).mono ?_; rintro e w1 ⟨rfl, rfl⟩
    rw [hi]
    go_wp2_with fail
    go_ret2
    refine ⟨Below.refl _ _, ?_⟩
    rw [HO.out]
    rfl
set_option maxRecDepth 100000 in
set_option maxHeartbeats 1000000 in
theorem frame_any (w : World) (v : Value) (P : List UInt8) (h : Rd w v P) (hl : P.length ≤ maxLen) :
    Calls Tryz.prog 42 #[v] w (WrapPost w P) := by
  have H := hid h
  clear h
  by_cases hok : okB P.length = true
  · have HO := hid hok
    clear hok
    go_enter Tryz.func42, Tryz.ntmps42
    go_wp2_with fail
    refine (wrap_any _ _ P H.out hl).mono ?_; rintro e w1 ⟨hbel, hq⟩
    rw [HO.out] at hq
    obtain ⟨a, c, rfl, hB⟩ := hq
    have HB := hid hB
    clear hB
    go_wp2_with fail
    go_ret2
    refine ⟨hbel, ?_⟩
    rw [HO.out]
    exact ⟨a, c, rfl, HB.out⟩
  · have hno : okB P.length = false := by simpa using hok
    have HO := hid hno
    clear hok hno
    go_enter Tryz.func42, Tryz.ntmps42
    go_wp2_with fail
    refine (wrap_any _ _ P H.out hl).mono ?_; rintro e w1 ⟨hbel, hq⟩
    rw [HO.out] at hq
    obtain rfl := hq
    go_wp2_with fail
    go_ret2
    refine ⟨hbel, ?_⟩
    rw [HO.out]
    rfl
end Go.Proofs.YtlgjlfobbpgklaaGreatDoor
