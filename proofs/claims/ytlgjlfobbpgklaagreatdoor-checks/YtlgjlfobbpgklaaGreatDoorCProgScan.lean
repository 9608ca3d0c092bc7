/- scan of package schemas: the next token from a place on. -/
import Derived.Test.YtlgjlfobbpgklaaGreatDoorGProgLeaf
import Derived.Deep.RegionWith
namespace Go.Proofs.YtlgjlfobbpgklaaGreatDoor
open Go.RowKit

structure PTok where
  kind : Nat
  text : ByteArray
  at_ : Nat
def ptCells (t : PTok) : List Value := [.int .i64 t.kind, .string t.text, .int .i64 t.at_]
/-- the first place from i on that is no blank -/
def blankEnd (s : ByteArray) : Nat → Nat → Nat
  | 0, i => i
  | f + 1, i => if i < s.size ∧ blankB (B s i) = true then blankEnd s f (i + 1) else i
def bEnd (s : ByteArray) (i : Nat) : Nat := blankEnd s s.size i
theorem blankEnd_fuel (s : ByteArray) : ∀ f g i, s.size ≤ f + i → s.size ≤ g + i → blankEnd s f i = blankEnd s g i
  | 0, g, i, h1, h2 => by
    cases g with
    | zero => rfl
    | succ g => unfold blankEnd; rw [if_neg (by omega)]
  | f + 1, 0, i, h1, h2 => by unfold blankEnd; rw [if_neg (by omega)]
  | f + 1, g + 1, i, h1, h2 => by
    unfold blankEnd; split
    · exact blankEnd_fuel s f g (i + 1) (by omega) (by omega)
    · rfl
theorem bEnd_step (s : ByteArray) (i : Nat) (h : i < s.size) (hr : blankB (B s i) = true) : bEnd s i = bEnd s (i + 1) := by
  unfold bEnd
  rw [blankEnd_fuel s s.size (s.size + 1) i (by omega) (by omega)]
  conv => lhs; unfold blankEnd
  rw [if_pos ⟨h, hr⟩]
theorem bEnd_stop (s : ByteArray) (i : Nat) (h : ¬ (i < s.size ∧ blankB (B s i) = true)) : bEnd s i = i := by
  unfold bEnd
  cases hs : s.size with
  | zero => rfl
  | succ n => unfold blankEnd; rw [if_neg h]
theorem bEnd_le (s : ByteArray) (i : Nat) (h : i ≤ s.size) : bEnd s i ≤ s.size := by
  unfold bEnd
  have : ∀ f i, i ≤ s.size → blankEnd s f i ≤ s.size := by
    intro f
    induction f with
    | zero => intro i h; exact h
    | succ f ih => intro i h; unfold blankEnd; split
                   · rename_i hh; exact ih (i + 1) hh.1
                   · exact h
  exact this _ _ h

def scanAt (s : ByteArray) (k : Nat) : PTok :=
  if k = s.size then ⟨0, ⟨#[]⟩, k⟩
  else if runEnd s s.size k = k then ⟨markK (B s k), s.extract k (k + 1), k⟩
  else ⟨runK (s.extract k (runEnd s s.size k)).toList, s.extract k (runEnd s s.size k), k⟩
def scanP (s : ByteArray) (i : Nat) : PTok := scanAt s (bEnd s i)

theorem run_first (s : ByteArray) (k j : Nat) (hk : k < j) (hj : j ≤ s.size) : ∃ h0 : 0 < (s.extract k j).size, (s.extract k j)[0] = s[k]'(by omega) := by
  have hz : (s.extract k j).size = j - k := by simp [ByteArray.size_extract]; omega
  exact ⟨by omega, by simp [ByteArray.getElem_extract]⟩

theorem run_char (s : ByteArray) (k j : Nat) (hk : k < s.size) (h : runEnd s s.size k = j) (hkj : k < j) : (s[k]'hk).toNat ≠ 43 ∧ (s[k]'hk).toNat ≠ 45 := by
  have hr : runB (B s k) = true := by
    cases hr : runB (B s k) with
    | true => rfl
    | false => have := runEnd_stop s k (by simp [hr]); omega
  have hb := B_at s k hk
  rw [← hb] at hr
  simp [runB, smallB, digitB] at hr
  omega
theorem pwrap_small (n : Int) (h1 : 0 ≤ n) (h2 : n ≤ 1000000) : IntKind.i64.wrap n = n := by rw [IntKind.wrap_i64]; omega
theorem tok_store {w0 : World} {b : Nat} {T : TypeId} {c0 c1 c2 : Value} (d0 d1 d2 : Value) (h : Seg w0 b T 0 [c0, c1, c2]) :
    (((w0.setCell ⟨b, 0, none⟩ d0).setCell ⟨b, 1, none⟩ d1).setCell ⟨b, 2, none⟩ d2).cell? ⟨b, 0, none⟩ = some d0 ∧
    (((w0.setCell ⟨b, 0, none⟩ d0).setCell ⟨b, 1, none⟩ d1).setCell ⟨b, 2, none⟩ d2).cell? ⟨b, 1, none⟩ = some d1 ∧
    (((w0.setCell ⟨b, 0, none⟩ d0).setCell ⟨b, 1, none⟩ d1).setCell ⟨b, 2, none⟩ d2).cell? ⟨b, 2, none⟩ = some d2 := by
  have h3 := ((h.set 0 d0).set 1 d1).set 2 d2
  simp only [Nat.zero_add] at h3
  have e0 := h3.cell (j := 0) (v := d0) rfl
  have e1 := h3.cell (j := 1) (v := d1) rfl
  have e2 := h3.cell (j := 2) (v := d2) rfl
  simp only [Nat.zero_add] at e0 e1 e2
  exact ⟨e0, e1, e2⟩
theorem below_store3 {w w0 : World} {b : Nat} (d0 d1 d2 : Value) (h : Below b w w0) : Below b w (((w0.setCell ⟨b, 0, none⟩ d0).setCell ⟨b, 1, none⟩ d1).setCell ⟨b, 2, none⟩ d2) :=
  ((h.setCell (p := ⟨b, 0, none⟩) (Nat.le_refl _) d0).setCell (p := ⟨b, 1, none⟩) (Nat.le_refl _) d1).setCell (p := ⟨b, 2, none⟩) (Nat.le_refl _) d2

set_option maxRecDepth 100000 in
set_option maxHeartbeats 4000000 in
theorem scan_any (s : ByteArray) (i : Nat) (w : World) (hv : Vars w) (hs : s.size ≤ 400) (hi : i ≤ s.size) :
    Calls Tryz.prog 188 #[.string s, .int .i64 i] w fun e w' => e = .returned (.agg #[.int .i64 (scanP s i).kind, .string (scanP s i).text, .int .i64 (scanP s i).at_]) ∧ Below w.heap.size w w' := by
  have HV := hid hv
  clear hv
  generalize hR : scanP s i = R
  have HR := hid hR
  clear hR
  go_enter Tryz.func188, Tryz.ntmps188
  go_wp2_with fail
  have hb0 : Below w.heap.size w (w.alloc (.cells #[.int .i64 0, .string ⟨#[]⟩, .int .i64 0] 216)) := (Below.refl _ _).alloc (Nat.le_refl _) _
  have hsg : Seg (w.alloc (.cells #[.int .i64 0, .string ⟨#[]⟩, .int .i64 0] 216)) w.heap.size 216 0 [.int .i64 0, .string ⟨#[]⟩, .int .i64 0] := ⟨_, heap_alloc_new w _, by simp, by simp⟩
  generalize hw0 : w.alloc (.cells #[.int .i64 0, .string ⟨#[]⟩, .int .i64 0] 216) = w0 at *
  clear hw0
  have r0 := hsg.cell (j := 0) rfl
  have r1 := hsg.cell (j := 1) rfl
  have r2 := hsg.cell (j := 2) rfl
  have rf : ∀ j, w0.frozen? ⟨w.heap.size, j, none⟩ = false := fun j => hsg.frozen j
  simp only [Nat.zero_add] at r0 r1 r2
  have HSG := hid hsg
  clear hsg
  go_loopg [5] (s.size - i) (fun gk a wr => ∃ k : Nat, k + gk = s.size ∧ a = .int .i64 k ∧ Hid (scanAt s (bEnd s k) = R) ∧ wr = w0)
  case atStart => exact ⟨i, by omega, rfl, hid HR.out, rfl⟩
  case round =>
    obtain ⟨k, hk, rfl, HK, rfl⟩ := hrel
    by_cases hlt : k < s.size
    · have HB := hid (B_at s k hlt)
      cases hbl : blankB (B s k) with
      | true =>
        have HK2 := hid (show scanAt s (bEnd s (k + 1)) = R by rw [← bEnd_step s k hlt hbl]; exact HK.out)
        go_wp2_with fail
        refine (isBlank_any _ _).mono ?_; rintro e w1 ⟨rfl, rfl⟩; rw [HB.out, hbl]
        go_wp2_with fail
        go_roundg (gk - 1)
        case rel => exact ⟨k + 1, by omega, by go_num, HK2, rfl⟩
        case measure => omega
      | false =>
        have HK2 := hid (show scanAt s k = R by rw [← HK.out, bEnd_stop s k (by simp [hbl])])
        have hne : ((k : Int) == (s.size : Int)) = false := by simp; omega
        go_wp2_with fail
        refine (isBlank_any _ _).mono ?_; rintro e w1 ⟨rfl, rfl⟩; rw [HB.out, hbl]
        go_wp2_with fail
        go_loopg [6] (s.size - k) (fun gk e wr => ∃ j : Nat, k ≤ j ∧ j + gk = s.size ∧ e = .int .i64 j ∧ Hid (runEnd s s.size k = runEnd s s.size j) ∧ wr = w1)
        case atStart => exact ⟨k, Nat.le_refl _, by omega, rfl, hid rfl, rfl⟩
        case round =>
          obtain ⟨j, hkj, hj, rfl, HE, rfl⟩ := hrel
          by_cases hjl : j < s.size
          · have HBJ := hid (B_at s j hjl)
            cases hsm : smallB (B s j) with
            | true =>
              have HE2 := hid (HE.out.trans (runEnd_step s j hjl (by simp [runB, hsm])))
              go_wp2_with fail
              refine (isLetter_any _ _).mono ?_; rintro e w2 ⟨rfl, rfl⟩; rw [HBJ.out, hsm]
              go_wp2_with fail
              go_roundg (gk - 1)
              case rel => exact ⟨j + 1, by omega, by omega, by go_num, HE2, rfl⟩
              case measure => omega
            | false =>
              cases hdg : digitB (B s j) with
              | true =>
                have HE2 := hid (HE.out.trans (runEnd_step s j hjl (by simp [runB, hdg])))
                go_wp2_with fail
                refine (isLetter_any _ _).mono ?_; rintro e w2 ⟨rfl, rfl⟩; rw [HBJ.out, hsm]
                go_wp2_with fail
                refine (pIsDigit_any _ _).mono ?_; rintro e w3 ⟨rfl, rfl⟩; rw [HBJ.out, hdg]
                go_wp2_with fail
                go_roundg (gk - 1)
                case rel => exact ⟨j + 1, by omega, by omega, by go_num, HE2, rfl⟩
                case measure => omega
              | false =>
                have HE2 := hid (HE.out.trans (runEnd_stop s j (by simp [runB, hsm, hdg])))
                go_wp2_with fail
                refine (isLetter_any _ _).mono ?_; rintro e w2 ⟨rfl, rfl⟩; rw [HBJ.out, hsm]
                go_wp2_with fail
                refine (pIsDigit_any _ _).mono ?_; rintro e w3 ⟨rfl, rfl⟩; rw [HBJ.out, hdg]
                by_cases hje : j = k
                · subst hje
                  have HF := hid (show R = ⟨markK (B s j), s.extract j (j + 1), j⟩ by rw [← HK2.out]; unfold scanAt; rw [if_neg (by omega), if_pos HE2.out])
                  have heq : ((j : Int) == (j : Int)) = true := by simp
                  have b1 : (0 : Int) ≤ (j : Int) + 1 := by omega
                  have b2 : (j : Int) + 1 ≤ (s.size : Int) := by omega
                  have b3 : (j : Int) ≤ (j : Int) + 1 := by omega
                  have hwrp : IntKind.i64.wrap ((j : Int) + 1) = (j : Int) + 1 := pwrap_small _ (by omega) (by omega)
                  obtain ⟨z0, z1, z2⟩ := tok_store (.int .i64 (markK (B s j) : Nat)) (.string (s.extract j (j + 1))) (.int .i64 (j : Nat)) HSG.out
                  go_wp2_with fail
                  go_region_with (go_at_call 263; refine (kindOfMark_any _ _).mono ?_; rintro e w4 ⟨rfl, rfl⟩; rw [HBJ.out])
                  all_goals
                    go_wp2_with fail
                    rw [HF.out]
                    refine bodyPost_ret (v := .agg #[.int .i64 (markK (B s j) : Nat), .string (s.extract j (j + 1)), .int .i64 (j : Nat)]) (by simp [results, Tryz.results188, go_sem, z0, z1, z2]) rfl ⟨rfl, (below_store3 _ _ _ hb0).drew⟩
                · have heq : ((j : Int) == (k : Int)) = false := by simp; omega
                  have hkj' : k < j := by omega
                  have hjs : j ≤ s.size := by omega
                  obtain ⟨hf0, hf1⟩ := run_first s k j hkj' hjs
                  have hfz : (s.extract k j).size ≤ 400 := by simp [ByteArray.size_extract]; omega
                  have HF := hid (show R = ⟨runK (s.extract k j).toList, s.extract k j, k⟩ by rw [← HK2.out]; unfold scanAt; rw [if_neg (by omega), if_neg (by rw [HE2.out]; omega), HE2.out])
                  have HRC := hid (show ((s.extract k j)[0]'hf0).toNat ≠ 43 ∧ ((s.extract k j)[0]'hf0).toNat ≠ 45 by
                    rw [hf1]; exact run_char s k j (by omega) HE2.out hkj')
                  have b1 : (0 : Int) ≤ (j : Int) := by omega
                  have b2 : (j : Int) ≤ (s.size : Int) := by omega
                  have b3 : (k : Int) ≤ (j : Int) := by omega
                  clear hf1
                  go_wp2_with fail
                  go_region_with (go_at_call 264; refine (kindOfRun_any _ _ ((HV.out.below hb0).below (Below.refl _ _).drew) hf0 hfz HRC.out).mono ?_; rintro e w4 ⟨rfl, hb4⟩; have hsg4 := HSG.out.same (hb4.block _ HSG.out.lt); have y0 := hsg4.cell (j := 0) rfl; have y1 := hsg4.cell (j := 1) rfl; have y2 := hsg4.cell (j := 2) rfl; have yf : ∀ j, w4.frozen? ⟨w.heap.size, j, none⟩ = false := fun j => hsg4.frozen j; simp only [Nat.zero_add] at y0 y1 y2)
                  all_goals
                    obtain ⟨z0, z1, z2⟩ := tok_store (.int .i64 (runK (s.extract k j).toList : Nat)) (.string (s.extract k j)) (.int .i64 (k : Nat)) hsg4
                    have hb04 := hb0.trans ((Below.refl _ _).drew.trans (hb4.mono (show w.heap.size ≤ _ from hb0.size)))
                    go_wp2_with fail
                    rw [HF.out]
                    refine bodyPost_ret (v := .agg #[.int .i64 (runK (s.extract k j).toList : Nat), .string (s.extract k j), .int .i64 (k : Nat)]) (by simp [results, Tryz.results188, go_sem, z0, z1, z2]) rfl ⟨rfl, below_store3 _ _ _ hb04⟩
          · have HE2 := hid (HE.out.trans (runEnd_stop s j (by omega)))
            have hje : j ≠ k := by omega
            have heq : ((j : Int) == (k : Int)) = false := by simp; omega
            have hkj' : k < j := by omega
            have hjs : j ≤ s.size := by omega
            obtain ⟨hf0, hf1⟩ := run_first s k j hkj' hjs
            have hfz : (s.extract k j).size ≤ 400 := by simp [ByteArray.size_extract]; omega
            have HF := hid (show R = ⟨runK (s.extract k j).toList, s.extract k j, k⟩ by rw [← HK2.out]; unfold scanAt; rw [if_neg (by omega), if_neg (by rw [HE2.out]; omega), HE2.out])
            have HRC := hid (show ((s.extract k j)[0]'hf0).toNat ≠ 43 ∧ ((s.extract k j)[0]'hf0).toNat ≠ 45 by
              rw [hf1]; exact run_char s k j (by omega) HE2.out hkj')
            have b1 : (0 : Int) ≤ (j : Int) := by omega
            have b2 : (j : Int) ≤ (s.size : Int) := by omega
            have b3 : (k : Int) ≤ (j : Int) := by omega
            clear hf1
            go_wp2_with fail
            go_region_with (go_at_call 264; refine (kindOfRun_any _ _ ((HV.out.below hb0).below (Below.refl _ _).drew) hf0 hfz HRC.out).mono ?_; rintro e w4 ⟨rfl, hb4⟩; have hsg4 := HSG.out.same (hb4.block _ HSG.out.lt); have y0 := hsg4.cell (j := 0) rfl; have y1 := hsg4.cell (j := 1) rfl; have y2 := hsg4.cell (j := 2) rfl; have yf : ∀ j, w4.frozen? ⟨w.heap.size, j, none⟩ = false := fun j => hsg4.frozen j; simp only [Nat.zero_add] at y0 y1 y2)
            all_goals
              obtain ⟨z0, z1, z2⟩ := tok_store (.int .i64 (runK (s.extract k j).toList : Nat)) (.string (s.extract k j)) (.int .i64 (k : Nat)) hsg4
              have hb04 := hb0.trans ((Below.refl _ _).drew.trans (hb4.mono (show w.heap.size ≤ _ from hb0.size)))
              go_wp2_with fail
              rw [HF.out]
              refine bodyPost_ret (v := .agg #[.int .i64 (runK (s.extract k j).toList : Nat), .string (s.extract k j), .int .i64 (k : Nat)]) (by simp [results, Tryz.results188, go_sem, z0, z1, z2]) rfl ⟨rfl, below_store3 _ _ _ hb04⟩
    · have hke : k = s.size := by omega
      have HK2 := hid (show R = ⟨0, ⟨#[]⟩, s.size⟩ by rw [← HK.out, bEnd_stop s k (by omega)]; simp [scanAt, hke])
      obtain ⟨z0, z1, z2⟩ := tok_store (.int .i64 0) (.string ⟨#[]⟩) (.int .i64 (s.size : Nat)) HSG.out
      subst hke
      have heq : ((s.size : Int) == (s.size : Int)) = true := by simp
      go_wp2_with fail
      rw [HK2.out]
      exact bodyPost_ret (v := .agg #[.int .i64 0, .string ⟨#[]⟩, .int .i64 (s.size : Nat)]) (by simp [results, Tryz.results188, go_sem, z0, z1, z2]) rfl ⟨rfl, below_store3 _ _ _ hb0⟩
end Go.Proofs.YtlgjlfobbpgklaaGreatDoor
