/- Unwrap: the payload of bytes that are one frame. -/
import Derived.Test.YtlgjlfobbpgklaaGreatDoorCFrWrap
namespace Go.Proofs.YtlgjlfobbpgklaaGreatDoor
open Go.RowKit

/-- what Unwrap answers -/
def UnwrapPost (w : World) (F : List UInt8) (e : Ending) (w' : World) : Prop :=
  Below w.heap.size w w' ∧ match unwrapP sumB F with
    | some P => ∃ a c, e = .returned (.tuple #[.slice a P.length c, .bool true]) ∧ Bys w' w.heap.size (.slice a P.length c) P
    | none => e = .returned (.tuple #[.slice none 0 0, .bool false])
/-- a piece of bytes that can be read -/
theorem Rd.piece {w : World} {b o : Nat} {L : List UInt8} (h : ∀ j (hj : j < L.length), w.cell? ⟨b, o + j, none⟩ = some (.int .u8 (L[j].toNat : Int))) (i n c' : Nat) (hi : i + n ≤ L.length) : Rd w (.slice (some ⟨b, o + i, none⟩) n c') ((L.drop i).take n) := by
  have hlen : ((L.drop i).take n).length = n := by simp; omega
  refine Or.inr ⟨⟨b, o + i, none⟩, c', by rw [hlen], fun j u hu => ?_⟩
  have hj : j < n := by
    rcases Nat.lt_or_ge j n with h | h
    · exact h
    · rw [List.getElem?_eq_none (by simp; omega)] at hu; cases hu
  rw [rd_add _ _ rfl]
  have h1 := h (i + j) (by omega)
  have e : ((L.drop i).take n)[j]? = some L[i + j] := by
    rw [List.getElem?_take_of_lt hj, List.getElem?_drop, List.getElem?_eq_getElem (by omega)]
  rw [List.getElem?_map, e] at hu
  simp at hu
  subst hu
  rw [← Nat.add_assoc] at h1
  exact h1

set_option maxRecDepth 100000 in
set_option maxHeartbeats 1000000 in
theorem unwrap_any (w : World) (a : Option Addr) (c : Nat) (F : List UInt8) (h : Rd w (.slice a F.length c) F) (hl : F.length ≤ maxLen) (hcap : F.length ≤ c) :
    Calls Tryz.prog 231 #[.slice a F.length c] w (UnwrapPost w F) := by
  unfold maxLen at hl
  have H := hid h
  clear h
  by_cases hok : 5 ≤ F.length ∧ okB (F.length - 5) = true
  · have hb := okB_iff.1 hok.2
    obtain ⟨b, o, c', hv, hbl, hc⟩ := H.out.at (by omega)
    obtain ⟨rfl, rfl⟩ : a = some ⟨b, o, none⟩ ∧ c = c' := by simpa using hv
    have hRd := Rd.piece hc 1 (F.length - 5) (c - 1) (by omega)
    have hi : (decide (1 ≤ ((F.length - 5 : Nat) : Int)) && decide (((F.length - 5 : Nat) : Int) ≤ 120)) = true := by simp; omega
    have hn : F.length - 5 ≤ 120 := hb.2
    have hn1 : 1 ≤ F.length - 5 := hb.1
    have hFl : F.length = (F.length - 5) + 5 := by omega
    have HP := hid (show ((F.drop 1).take (F.length - 5)).length = F.length - 5 by simp; omega)
    have HU := hid (show unwrapP sumB F = if frameP sumB ((F.drop 1).take (F.length - 5)) = F then some ((F.drop 1).take (F.length - 5)) else none by
      unfold unwrapP; simp [hok.1, hok.2])
    generalize (F.drop 1).take (F.length - 5) = P at *
    have HRd := hid hRd
    clear hRd hv
    generalize F.length - 5 = n at *
    have HFl := hid hFl
    rw [hFl]
    have hs1 : 1 + (n : Int) ≤ (c : Int) := by omega
    have hs0 : 0 ≤ 1 + (n : Int) := by omega
    have hs2 : ¬ c = 1 := by omega
    clear hFl hl hok hb hc hcap
    go_enter Tryz.func231, Tryz.ntmps231
    go_wp2_with fail
    rw [show (n : Int) + 5 - 1 - 4 = (n : Int) by omega]
    refine (isCount_any _ _).mono ?_; rintro e w1 ⟨rfl, rfl⟩
    rw [hi]
    go_wp2_with fail
    have hz : (1 + (n : Int)).toNat - 1 = n := by omega
    first | rw [hz] | skip
    refine (bytesClone_any _ _ P (by first | exact HRd.out | (rw [HP.out]; exact HRd.out)) (by rw [HP.out]; omega) (by rw [HP.out]; omega)).mono ?_; rintro e w2 ⟨a2, c2, rfl, hB2, hbel2⟩
    have HB2 := hid hB2
    clear hB2
    have hPl : P.length ≤ maxLen := by rw [HP.out]; unfold maxLen; omega
    have hokP : okB P.length = true := by rw [HP.out]; exact okB_iff.2 ⟨hn1, hn⟩
    have HOK := hid hokP
    clear hokP
    go_wp2_with fail
    refine (wrap_any _ _ P HB2.out.rd hPl).mono ?_; rintro e w3 ⟨hbel3, hq⟩
    rw [HOK.out] at hq
    obtain ⟨a3, c3, rfl, hB3⟩ := hq
    have HB3 := hid hB3
    have hbel13 := hbel2.trans (hbel3.mono hbel2.size)
    have HF3 := hid (show Rd w3 (.slice (some ⟨b, o, none⟩) F.length c) F from H.out.later hbel13)
    have HB23 := hid (HB2.out.same hbel3)
    clear hB3
    rw [HFl.out] at HF3
    go_wp2_with fail
    refine (bytesEqual_any _ _ _ (frameP sumB P) F HB3.out.rd HF3.out).mono ?_; rintro e w4 ⟨rfl, rfl⟩
    by_cases hE : frameP sumB P = F
    · have HE := hid hE
      have hd : decide (frameP sumB P = F) = true := by simp [hE]
      rw [hd]
      clear hE hd
      go_wp2_with fail
      go_ret2
      refine ⟨hbel13, ?_⟩
      rw [HU.out, if_pos HE.out]
      exact ⟨a2, c2, rfl, HB23.out⟩
    · have HE := hid hE
      have hd : decide (frameP sumB P = F) = false := by simp [hE]
      rw [hd]
      clear hE hd
      go_wp2_with fail
      go_ret2
      refine ⟨hbel13, ?_⟩
      rw [HU.out, if_neg HE.out]
      rfl
  · have HU := hid (show unwrapP sumB F = none by
      unfold unwrapP; rw [if_neg]; intro h; exact hok ⟨h.1, h.2.1⟩)
    have hi : (decide (1 ≤ (F.length : Int) - 1 - 4) && decide ((F.length : Int) - 1 - 4 ≤ 120)) = false := by
      rcases Nat.lt_or_ge F.length 5 with h5 | h5
      · simp; omega
      · have : ¬ okB (F.length - 5) = true := fun h => hok ⟨h5, h⟩
        rw [okB_iff] at this
        simp; omega
    clear hok
    go_enter Tryz.func231, Tryz.ntmps231
    go_wp2_with fail
    refine (isCount_any _ _).mono ?_; rintro e w1 ⟨rfl, rfl⟩
    rw [hi]
    go_wp2_with fail
    go_ret2
    refine ⟨Below.refl _ _, ?_⟩
    rw [HU.out]
    rfl
end Go.Proofs.YtlgjlfobbpgklaaGreatDoor
