/- The numbers of package schemas: numberOf, kindOfRun, kindOfMark and the bytes' kinds. -/
import Derived.Test.YtopcgnjocklcoaaGreatDoorGKept
import Derived.Lib.AtoiAll
import Derived.Lib.SmallJoins
namespace Go.Proofs.YtopcgnjocklcoaaGreatDoor
open Go.RowKit

theorem pu_ge : ∀ (l : List UInt8) (acc u : Nat), Lib.parseUint10 acc l = .ok u → acc ≤ u
  | [], acc, u, h => by simp only [Lib.parseUint10] at h; injection h with h; omega
  | c :: r, acc, u, h => by
    simp only [Lib.parseUint10] at h
    split at h
    · split at h
      · cases h
      · split at h
        · cases h
        · have := pu_ge r _ u h; omega
    · cases h
theorem pu_step {c : UInt8} {r : List UInt8} {acc u : Nat} (h : Lib.parseUint10 acc (c :: r) = .ok u) : 48 ≤ c.toNat ∧ c.toNat ≤ 57 ∧ Lib.parseUint10 (acc * 10 + (c.toNat - 48)) r = .ok u := by
  simp only [Lib.parseUint10] at h
  split at h
  · rename_i hc
    split at h
    · cases h
    · split at h
      · cases h
      · exact ⟨hc.1, hc.2, h⟩
  · cases h
theorem u8_eq (c : UInt8) (n : Nat) (h : c.toNat = n) : c = UInt8.ofNat n := by
  subst h; simp
theorem atoiAll_num : ∀ k, k < 100 → 1 ≤ k → Lib.atoiAll (dec2 k) = .ok (k : Int) ∧ (dec2 k).head? ≠ some 48 := by decide

/-- a run is a NUMBER just where Atoi reads it, it does not begin with 0 and it is at most 99 -/
theorem num_iff {c : UInt8} {r : List UInt8} (hc : c.toNat ≠ 43 ∧ c.toNat ≠ 45) {v : Int} (h : Lib.atoiAll (c :: r) = .ok v) : ((c.toNat ≠ 48 ∧ v ≤ 99) ↔ numB (c :: r) = true) ∧ (numB (c :: r) = true → v = numI (c :: r)) := by
  have h' := h
  unfold Lib.atoiAll at h'
  simp only [hc.1, hc.2, or_self, if_false, Lib.parseMag, reduceCtorEq] at h'
  have key : c.toNat ≠ 48 → v ≤ 99 → ∃ k, 1 ≤ k ∧ k ≤ 99 ∧ c :: r = dec2 k := by
    intro hz hv
    rcases hp : Lib.parseUint10 0 (c :: r) with u | _ | _
    rotate_left
    · rw [hp] at h'; simp at h'
    · rw [hp] at h'; simp at h'
    · rw [hp] at h'
      have hu : (u : Int) = v := by
        simp only [not_false_eq_true, true_and, false_and, if_false] at h'
        split at h'
        · cases h'
        · injection h'
      obtain ⟨h1, h2, h3⟩ := pu_step hp
      cases r with
      | nil =>
        simp only [Lib.parseUint10] at h3; injection h3 with h3
        exact ⟨u, by omega, by omega, by unfold dec2; rw [if_pos (by omega)]; rw [u8_eq c (48 + u) (by omega)]⟩
      | cons d r' =>
        obtain ⟨h4, h5, h6⟩ := pu_step h3
        cases r' with
        | nil =>
          simp only [Lib.parseUint10] at h6; injection h6 with h6
          refine ⟨u, by omega, by omega, ?_⟩
          unfold dec2; rw [if_neg (by omega), u8_eq c (48 + u / 10) (by omega), u8_eq d (48 + u % 10) (by omega)]
        | cons e r'' =>
          obtain ⟨h7, h8, h9⟩ := pu_step h6
          have := pu_ge _ _ _ h9
          omega
  refine ⟨⟨fun ⟨a, b⟩ => ?_, fun hn => ?_⟩, fun hn => ?_⟩
  · obtain ⟨k, h1, h2, h3⟩ := key a b
    exact numB_hit h1 h2 (by rw [h3, dec2_eq k (by omega)])
  · obtain ⟨k, h1, h2, h3⟩ := numB_cases hn
    have hk := atoiAll_num k (by omega) h1
    rw [← h3, h] at hk
    have h4 := hk.1; injection h4 with h4
    refine ⟨?_, by omega⟩
    intro h48
    exact hk.2 (by simp; exact UInt8.toNat_inj.1 (by simpa using h48))
  · obtain ⟨k, h1, h2, h3⟩ := numB_cases hn
    have hk := atoiAll_num k (by omega) h1
    rw [← h3, h] at hk
    have h4 := hk.1; injection h4 with h4
    have ha := (atoi_dec2 k (by omega)).1
    rw [numI, h3, ha]; simpa using h4
theorem num_bad {l : List UInt8} (h : ∀ v, Lib.atoiAll l ≠ .ok v) : numB l = false := by
  cases hn : numB l with
  | false => rfl
  | true =>
    obtain ⟨k, h1, h2, h3⟩ := numB_cases hn
    exact absurd (by rw [h3]; exact (atoiAll_num k (by omega) h1).1) (h k)
end Go.Proofs.YtopcgnjocklcoaaGreatDoor
/- Package schemas: the kinds of bytes and runs. -/
namespace Go.Proofs.YtopcgnjocklcoaaGreatDoor
open Go.RowKit

/-- the two errors of strconv lie where the program lays them -/
structure Vars (w : World) : Prop where
  sx : ∃ te pe, w.cell? ⟨1, 0, none⟩ = some (.iface te pe)
  rg : ∃ te pe, w.cell? ⟨2, 0, none⟩ = some (.iface te pe)
  lt1 : 1 < w.heap.size
  lt2 : 2 < w.heap.size
theorem Vars.below {w w' : World} (h : Vars w) (hb : Below w.heap.size w w') : Vars w' := by
  obtain ⟨te, pe, h1⟩ := h.sx
  obtain ⟨tf, pf, h2⟩ := h.rg
  have l1 := h.lt1
  have l2 := h.lt2
  exact ⟨⟨te, pe, by rw [hb.cell l1]; exact h1⟩, ⟨tf, pf, by rw [hb.cell l2]; exact h2⟩, Nat.lt_of_lt_of_le l1 hb.size, Nat.lt_of_lt_of_le l2 hb.size⟩

set_option maxHeartbeats 400000 in
theorem isLetter_any (c : Int) (w : World) :
    Calls Tryz.prog 149 #[.int .u8 c] w fun e w' => e = .returned (.bool (smallB c)) ∧ w' = w := by
  go_enter Tryz.func149, Tryz.ntmps149
  go_wp2
  · have h : 97 ≤ c := by assumption
    go_ret
    exact ⟨ret_bool (by simp [smallB, h]), rfl⟩
  · have h : c < 97 := by assumption
    go_ret
    exact ⟨ret_bool (by simp [smallB]; omega), rfl⟩
set_option maxHeartbeats 400000 in
theorem pIsDigit_any (c : Int) (w : World) :
    Calls Tryz.prog 150 #[.int .u8 c] w fun e w' => e = .returned (.bool (digitB c)) ∧ w' = w := by
  go_enter Tryz.func150, Tryz.ntmps150
  go_wp2
  · have h : 48 ≤ c := by assumption
    go_ret
    exact ⟨ret_bool (by simp [digitB, h]), rfl⟩
  · have h : c < 48 := by assumption
    go_ret
    exact ⟨ret_bool (by simp [digitB]; omega), rfl⟩
def blankB (c : Int) : Bool := c == 32 || c == 10
set_option maxHeartbeats 400000 in
theorem isBlank_any (c : Int) (w : World) :
    Calls Tryz.prog 148 #[.int .u8 c] w fun e w' => e = .returned (.bool (blankB c)) ∧ w' = w := by
  go_enter Tryz.func148, Tryz.ntmps148
  cases h1 : (c == 32)
  all_goals
    go_wp2
    go_ret
    exact ⟨ret_bool (by simp [blankB, h1]), rfl⟩
def markK (c : Int) : Nat := if c = 123 then 4 else if c = 125 then 5 else 1
set_option maxHeartbeats 400000 in
theorem kindOfMark_any (c : Int) (w : World) :
    Calls Tryz.prog 151 #[.int .u8 c] w fun e w' => e = .returned (.int .i64 (markK c : Nat)) ∧ w' = w := by
  go_enter Tryz.func151, Tryz.ntmps151
  by_cases h1 : c = 123
  · have hb : (c == 123) = true := by simp [h1]
    have HM := hid (show markK c = 4 by simp [markK, h1])
    clear h1
    go_wp2
    go_ret
    exact ⟨by rw [HM.out]; rfl, rfl⟩
  · have hb : (c == 123) = false := by simp [h1]
    by_cases h2 : c = 125
    · have hb2 : (c == 125) = true := by simp [h2]
      have HM := hid (show markK c = 5 by simp [markK, h2])
      clear h1 h2
      go_wp2
      go_ret
      exact ⟨by rw [HM.out]; rfl, rfl⟩
    · have hb2 : (c == 125) = false := by simp [h2]
      have HM := hid (show markK c = 1 by simp [markK, h1, h2])
      clear h1 h2
      go_wp2
      go_ret
      exact ⟨by rw [HM.out]; rfl, rfl⟩

theorem first_of (s : ByteArray) (h : 0 < s.size) : ∃ r, s.toList = s[0] :: r := by
  obtain ⟨⟨l⟩⟩ := s
  rw [ByteArray.toList_eq]
  cases l with
  | nil => simp [ByteArray.size] at h
  | cons c r => exact ⟨r, rfl⟩

set_option maxRecDepth 100000 in
set_option maxHeartbeats 1000000 in
theorem numberOf_any (run : ByteArray) (w : World) (hv : Vars w) (h0 : 0 < run.size) (hs : run.size ≤ 400) (hc : (run[0]'h0).toNat ≠ 43 ∧ (run[0]'h0).toNat ≠ 45) :
    Calls Tryz.prog 179 #[.string run] w fun e w' => ∃ n : Int, e = .returned (.tuple #[.int .i64 n, .bool (numB run.toList)]) ∧ (numB run.toList = true → n = numI run.toList) ∧ Below w.heap.size w w' := by
  obtain ⟨r, hr⟩ := first_of run h0
  rcases hA : Lib.atoiAll run.data.toList with v | _ | _
  · have hN := num_iff hc (r := r) (v := v) (by rw [← hr, ByteArray.toList_eq]; exact hA)
    rw [← hr] at hN
    have HN := hid hN
    have HC := hid hc
    clear hN hr hc
    generalize numB run.toList = nb at *
    go_enter Tryz.func179, Tryz.ntmps179
    go_wp2_with fail
    refine (Tryz.strconv_Atoi_ok run (by omega) v hA _).mono ?_; rintro e w1 ⟨rfl, hw1⟩
    have hb1 : Below w.heap.size w w1 := by
      rcases hw1 with rfl | ⟨bt, rfl⟩
      · exact Below.refl _ _
      · exact Joins.below_bytesWorld _ _ _ _ (Nat.le_refl _)
    clear hw1 hA
    go_wp2_with fail
    · have h : ((run[0]'h0).toNat : Int) = 48 := by assumption
      have hnb : nb = false := by
        cases nb with
        | false => rfl
        | true => exact absurd (by omega) (HN.out.1.2 rfl).1
      subst hnb
      go_ret2
      exact ⟨v, rfl, HN.out.2, hb1⟩
    · have h : ¬ ((run[0]'h0).toNat : Int) = 48 := by assumption
      have hne : (((run[0]'h0).toNat : Int) != 48) = true := by simp; omega
      have hnb : nb = ((((run[0]'h0).toNat : Int) != 48) && decide (v ≤ 99)) := by
        rw [hne, Bool.true_and]
        by_cases hv9 : v ≤ 99
        · rw [HN.out.1.1 ⟨by omega, hv9⟩]; simp [hv9]
        · cases nb with
          | false => simp [hv9]
          | true => exact absurd (HN.out.1.2 rfl).2 hv9
      subst hnb
      go_ret2
      exact ⟨v, rfl, HN.out.2, hb1⟩
  · have HN := hid (num_bad (l := run.toList) (fun v hh => by rw [ByteArray.toList_eq, hA] at hh; cases hh))
    obtain ⟨te, pe, hsx⟩ := hv.sx
    go_enter Tryz.func179, Tryz.ntmps179
    go_wp2_with fail
    refine (Tryz.strconv_Atoi_no run (by omega) ⟨fun v hh => (by rw [hA] at hh; cases hh),fun hh => (by rw [hA] at hh; cases hh)⟩ _ _ hsx (Or.inr ⟨te, pe, rfl⟩)).mono ?_; rintro e w1 ⟨N, rfl, _, _, hb1⟩
    clear hA
    go_wp2_with fail
    go_ret2
    exact ⟨_, by rw [HN.out]; rfl, fun hh => (by rw [HN.out] at hh; cases hh), hb1⟩
  · have HN := hid (num_bad (l := run.toList) (fun v hh => by rw [ByteArray.toList_eq, hA] at hh; cases hh))
    obtain ⟨te, pe, hrg⟩ := hv.rg
    go_enter Tryz.func179, Tryz.ntmps179
    go_wp2_with fail
    refine (Tryz.strconv_Atoi_range run (by omega) hA _ _ hrg (Or.inr ⟨te, pe, rfl⟩)).mono ?_; rintro e w1 ⟨N, rfl, _, _, hb1⟩
    clear hA
    go_wp2_with fail
    go_ret2
    exact ⟨_, by rw [HN.out]; rfl, fun hh => (by rw [HN.out] at hh; cases hh), hb1⟩

def runK (l : List UInt8) : Nat := if nameB l = true then 2 else if numB l = true then 3 else 1
set_option maxRecDepth 100000 in
set_option maxHeartbeats 1000000 in
theorem kindOfRun_any (run : ByteArray) (w : World) (hv : Vars w) (h0 : 0 < run.size) (hs : run.size ≤ 400) (hc : (run[0]'h0).toNat ≠ 43 ∧ (run[0]'h0).toNat ≠ 45) :
    Calls Tryz.prog 152 #[.string run] w fun e w' => e = .returned (.int .i64 (runK run.toList : Nat)) ∧ Below w.heap.size w w' := by
  have hn := nameB_at run h0
  have HV := hid hv
  have HC := hid hc
  clear hv hc
  cases hsm : smallB ((run[0]'h0).toNat : Int) with
  | true =>
    by_cases h12 : (run.size : Int) ≤ 12
    · have HK := hid (show runK run.toList = 2 by unfold runK; rw [hn, hsm]; simp [h12])
      clear hn
      go_enter Tryz.func152, Tryz.ntmps152
      go_wp2_with fail
      refine (isLetter_any _ _).mono ?_; rintro e w1 ⟨rfl, rfl⟩; rw [hsm]
      go_wp2_with fail
      go_ret
      exact ⟨by rw [HK.out]; rfl, Below.refl _ _⟩
    · have HNM := hid (show nameB run.toList = false by rw [hn, hsm]; simp [h12])
      clear hn
      go_enter Tryz.func152, Tryz.ntmps152
      go_wp2_with fail
      refine (isLetter_any _ _).mono ?_; rintro e w1 ⟨rfl, rfl⟩; rw [hsm]
      go_wp2_with fail
      refine (numberOf_any run _ HV.out h0 hs HC.out).mono ?_; rintro e w2 ⟨n, rfl, _, hb2⟩
      cases hnb : numB run.toList with
      | true =>
        have HK := hid (show runK run.toList = 3 by unfold runK; rw [HNM.out, hnb]; rfl)
        go_wp2_with fail
        go_ret
        exact ⟨by rw [HK.out]; rfl, hb2⟩
      | false =>
        have HK := hid (show runK run.toList = 1 by unfold runK; rw [HNM.out, hnb]; rfl)
        go_wp2_with fail
        go_ret
        exact ⟨by rw [HK.out]; rfl, hb2⟩
  | false =>
    have HNM := hid (show nameB run.toList = false by rw [hn, hsm]; rfl)
    clear hn
    go_enter Tryz.func152, Tryz.ntmps152
    go_wp2_with fail
    refine (isLetter_any _ _).mono ?_; rintro e w1 ⟨rfl, rfl⟩; rw [hsm]
    go_wp2_with fail
    refine (numberOf_any run _ HV.out h0 hs HC.out).mono ?_; rintro e w2 ⟨n, rfl, _, hb2⟩
    cases hnb : numB run.toList with
    | true =>
      have HK := hid (show runK run.toList = 3 by unfold runK; rw [HNM.out, hnb]; rfl)
      go_wp2_with fail
      go_ret
      exact ⟨by rw [HK.out]; rfl, hb2⟩
    | false =>
      have HK := hid (show runK run.toList = 1 by unfold runK; rw [HNM.out, hnb]; rfl)
      go_wp2_with fail
      go_ret
      exact ⟨by rw [HK.out]; rfl, hb2⟩
end Go.Proofs.YtopcgnjocklcoaaGreatDoor
