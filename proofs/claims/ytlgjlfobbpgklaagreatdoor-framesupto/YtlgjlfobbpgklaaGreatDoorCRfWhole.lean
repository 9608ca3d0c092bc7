/- Package courierref: the deframer that looks at all bytes each time. -/
import Derived.Test.YtlgjlfobbpgklaaGreatDoorCRfFrame
import Derived.Test.YtlgjlfobbpgklaaGreatDoorCFrWhole
namespace Go.Proofs.YtlgjlfobbpgklaaGreatDoor
open Go.RowKit

/-- payloads that can be read, their list in memory of its own -/
structure RLs (w : World) (lo B : Nat) (v : Value) (vs : List Value) (Ls : List (List UInt8)) : Prop where
  own : w.ownsRow lo 51 1 v Ls.length vs
  each : ∀ (i : Nat) (u : Value) (L : List UInt8), vs[i]? = some u → Ls[i]? = some L → Rd w u L ∧ ∀ k, u.ownBlock = some k → 0 < L.length → k < B
theorem RLs.nil (w : World) (lo B : Nat) : RLs w lo B (.slice none 0 0) [] [] := ⟨World.ownsRow_nil _ _ _ _, fun i u L h => by simp at h⟩
theorem RLs.push {w w2 : World} {lo B : Nat} {v v' u : Value} {vs : List Value} {Ls : List (List UInt8)} {P : List UInt8} (h : RLs w lo B v vs Ls) (hB : B ≤ lo) (hu : Rd w u P ∧ ∀ k, u.ownBlock = some k → 0 < P.length → k < B)
    (hown : w2.ownsRow lo 51 1 v' (Ls.length + 1) (vs ++ [u])) (hb : Below lo w w2) : RLs w2 lo B v' (vs ++ [u]) (Ls ++ [P]) := by
  have hl : vs.length = Ls.length := by have := h.own.1; omega
  refine ⟨by rw [List.length_append]; exact hown, fun i q L hq hL => ?_⟩
  rcases Nat.lt_or_ge i vs.length with hi | hi
  · rw [List.getElem?_append_left hi] at hq
    rw [List.getElem?_append_left (by omega)] at hL
    obtain ⟨h1, h2⟩ := h.each i q L hq hL
    exact ⟨h1.same hb (fun k hk h0 => by have := h2 k hk h0; omega), h2⟩
  · rw [List.getElem?_append_right hi] at hq
    rw [List.getElem?_append_right (by omega)] at hL
    have hi0 : i - vs.length = 0 := by
      rcases Nat.eq_zero_or_pos (i - vs.length) with e | e
      · exact e
      · rw [List.getElem?_eq_none (by simp; omega)] at hq; cases hq
    rw [hi0] at hq
    rw [show i - Ls.length = 0 by omega] at hL
    simp at hq hL
    subst hq hL
    exact ⟨hu.1.same hb (fun k hk h0 => by have := hu.2 k hk h0; omega), hu.2⟩
/-- what 'whole' answers -/
def WholePost (w : World) (W : List (List UInt8) × Bool) (e : Ending) (w' : World) : Prop :=
  ∃ la lc vs, e = .returned (.tuple #[.slice la W.1.length lc, .bool W.2]) ∧ Below w.heap.size w w' ∧ RLs w' w.heap.size w.heap.size (.slice la W.1.length lc) vs W.1
set_option maxRecDepth 100000 in
set_option maxHeartbeats 2000000 in
theorem whole_any (w : World) (a : Option Addr) (c : Nat) (L : List UInt8) (h : Rd w (.slice a L.length c) L) (hcap : L.length ≤ c) (hl : L.length ≤ 1000000000) :
    Calls Tryz.prog 120 #[.slice a L.length c] w (WholePost w (wholeP sumB L)) := by
  have H := hid h
  clear h
  obtain ⟨W, HW⟩ : ∃ W, Hid (wholeP sumB L = W) := ⟨_, hid rfl⟩
  rw [HW.out]
  go_enter Tryz.func120, Tryz.ntmps120
  go_wp2_with fail
  go_loopg [0, 4, 5, 6, 7, 8] L.length (fun gk bv lv x5 x6 x7 x8 wr => ∃ (R : List UInt8) (a' : Option Addr) (c' : Nat) (la : Option Addr) (lc : Nat) (vs : List Value) (Ls : List (List UInt8)), bv = .slice a' R.length c' ∧ R.length ≤ gk ∧ gk ≤ L.length ∧ R.length ≤ c' ∧ lv = .slice la Ls.length lc ∧ Ls.length + R.length ≤ L.length ∧
      Hid (Rd wr bv R ∧ ∀ k, bv.ownBlock = some k → 0 < R.length → k < w.heap.size) ∧ Hid (W = (Ls ++ (wholeP sumB R).1, (wholeP sumB R).2)) ∧ Hid (RLs wr w.heap.size w.heap.size lv vs Ls) ∧ Below w.heap.size w wr)
  case atStart => exact ⟨L, a, c, none, 0, [], [], rfl, Nat.le_refl _, Nat.le_refl _, hcap, rfl, by simp, hid ⟨H.out, H.out.lt⟩, hid (by rw [← HW.out]; rfl), hid (RLs.nil _ _ _), Below.refl _ _⟩
  case round =>
    obtain ⟨R, a', c', la, lc, vs, Ls, rfl, hRg, hgL, hRc, rfl, hLR, HR, HWd, HLs, hbel⟩ := hrel
    have hzr := hbel.size
    cases R with
    | nil =>
      have HWe := hid (show W = (Ls, true) by rw [HWd.out, wholeP_nil]; simp)
      go_wp2_with fail
      go_ret2
      exact ⟨la, lc, vs, by rw [HWe.out]; rfl, hbel, by rw [HWe.out]; exact HLs.out⟩
    | cons x r =>
      obtain ⟨b, o, c'', hv, hb, hc⟩ := HR.out.1.at (by simp)
      obtain ⟨rfl, rfl⟩ : a' = some ⟨b, o, none⟩ ∧ c' = c'' := by simpa using hv
      have hbw : b < w.heap.size := HR.out.2 b rfl (by simp)
      have hc0 : wr.cell? ⟨b, o, none⟩ = some (.int .u8 (x.toNat : Int)) := by have := hc 0 (by simp); simpa using this
      have hx255 : x.toNat ≤ 255 := by have := x.toNat_lt; omega
      have HC := hid hc
      have HBad := hid (fun h => wholeP_bad (sm := sumB) (c := x) (r := r) h)
      have HShort := hid (fun h1 h2 => wholeP_short (sm := sumB) (c := x) (r := r) h1 h2)
      have HNo := hid (fun h1 h2 h3 => wholeP_no (sm := sumB) (c := x) (r := r) h1 h2 h3)
      have HYes := hid (fun h1 h2 h3 => wholeP_yes (sm := sumB) (c := x) (r := r) h1 h2 h3)
      obtain ⟨n, HN⟩ : ∃ n, Hid (x.toNat = n) := ⟨_, hid rfl⟩
      rw [HN.out] at hc0 hx255 HBad HShort HNo HYes
      obtain ⟨R, HRe⟩ : ∃ R, Hid (x :: r = R) := ⟨_, hid rfl⟩
      have HRt : Hid (r = R.drop 1) := by rw [← HRe.out]; exact hid rfl
      rw [HRe.out] at HBad HShort HNo HYes
      rw [HRt.out] at HNo HYes
      rw [HRe.out] at HR HWd HC hRg hRc hLR ⊢
      have hR0 : 0 < R.length := by rw [← HRe.out]; simp
      clear hc hv
      by_cases hok : okB n = true
      · have hnb := okB_iff.1 hok
        have h1 : ¬ (n : Int) < 1 := by omega
        have h2 : ¬ (120 : Int) < (n : Int) := by omega
        have HOK := hid hok
        clear hok
        by_cases hsh : R.length < n + 5
        · have hshI : (R.length : Int) < (n : Int) + 5 := by omega
          have HWe := hid (show W = (Ls, true) by rw [HWd.out, HShort.out HOK.out hsh]; simp)
          go_wp2_with fail
          go_ret2
          exact ⟨la, lc, vs, by rw [HWe.out]; rfl, hbel, by rw [HWe.out]; exact HLs.out⟩
        · have hshI : ¬ (R.length : Int) < (n : Int) + 5 := by omega
          have hcI : (n : Int) + 1 ≤ (c' : Int) := by omega
          have hcI5 : (n : Int) + 5 ≤ (c' : Int) := by omega
          have hc1 : ¬ c' = 1 := by omega
          have HP1 := hid (Rd.piece HC.out 1 n (c' - 1) (by omega))
          have HP2 := hid (Rd.piece HC.out 0 (n + 5) c' (by omega))
          go_wp2_with fail
          have hnn : ((n : Int) + 1).toNat - 1 = n := by omega
          first | rw [hnn] | skip
          have hPl : ((R.drop 1).take n).length = n := by rw [List.length_take, List.length_drop]; omega
          have HPl := hid hPl
          refine (refFrame_any _ _ ((R.drop 1).take n) HP1.out (by rw [hPl]; unfold maxLen; omega)).mono ?_; rintro e w1 ⟨hbel1, hq1⟩
          rw [hPl, HOK.out] at hq1
          obtain ⟨a1, c1, rfl, hB1⟩ := hq1
          have HB1 := hid hB1
          have hfl := frameP_len sumB_len ((R.drop 1).take n)
          rw [hPl] at hfl
          have hbel01 := hbel.trans (hbel1.mono hzr)
          have HP21 := hid (HP2.out.later hbel1)
          have HP11 := hid (HP1.out.later hbel1)
          have hz1 := hbel1.size
          have HR1 := hid (HR.out.1.later hbel1)
          have HLs1 := hid (show RLs w1 w.heap.size w.heap.size (.slice la Ls.length lc) vs Ls from ⟨own_same HLs.out.own (fun g hg => hbel1.block g (HLs.out.own.lt g hg).2), fun i u P hu hP => ⟨(HLs.out.each i u P hu hP).1.later hbel1, (HLs.out.each i u P hu hP).2⟩⟩)
          obtain ⟨G, HG⟩ : ∃ G, Hid (frameP sumB ((R.drop 1).take n) = G) := ⟨_, hid rfl⟩
          rw [HG.out] at HB1 hfl HNo HYes ⊢
          have hGl : G.length ≤ 125 := by omega
          have hT5 : ((R.drop 0).take (n + 5)).length ≤ 125 := by rw [List.length_take]; omega
          clear hB1 hPl hfl
          go_wp2_with fail
          have hnn5 : ((n : Int) + 5).toNat = n + 5 := by omega
          first | rw [hnn5] | skip
          refine (sameBytes_any _ _ _ G ((R.drop 0).take (n + 5)) HB1.out.rd HP21.out (by omega) (by omega)).mono ?_; rintro e w2 ⟨rfl, q2, rfl⟩
          rw [List.drop_zero] at *
          by_cases hE : G = R.take (n + 5)
          · have HE := hid hE
            have hd : decide (G = R.take (n + 5)) = true := by simp [hE]
            rw [hd]
            clear hd hE
            have hbel2 := below_drewN hbel01 q2
            have HLs2 := hid (show RLs ((w1.drewN q2).alloc (.cells #[.slice (some ⟨b, o + 1, none⟩) n (c' - 1)] 51)) w.heap.size w.heap.size (.slice la Ls.length lc) vs Ls from
              ⟨World.ownsRow.alloc HLs1.out.own _, fun i u P hu hP => ⟨(HLs1.out.each i u P hu hP).1.later (((below_drewN (Below.refl _ _) q2)).alloc (Nat.le_refl _) _), (HLs1.out.each i u P hu hP).2⟩⟩)
            have HP12 := hid (show Rd ((w1.drewN q2).alloc (.cells #[.slice (some ⟨b, o + 1, none⟩) n (c' - 1)] 51)) (.slice (some ⟨b, o + 1, none⟩) n (c' - 1)) ((R.drop 1).take n) ∧ ∀ k, (Value.slice (some ⟨b, o + 1, none⟩) n (c' - 1)).ownBlock = some k → 0 < ((R.drop 1).take n).length → k < w.heap.size from
              ⟨HP11.out.later (((below_drewN (Below.refl _ _) q2)).alloc (Nat.le_refl _) _), fun k hk _ => by simp [Value.ownBlock] at hk; omega⟩)
            obtain ⟨A, hA, HRA, hAb⟩ : ∃ A, (if c' = n + 5 then some (⟨b, o, none⟩ : Addr) else some ⟨b, o + (n + 5), none⟩) = A ∧ Hid (Rd w1 (.slice A (R.drop (n + 5)).length (c' - (n + 5))) (R.drop (n + 5))) ∧ ∀ k, (Value.slice A (R.drop (n + 5)).length (c' - (n + 5))).ownBlock = some k → k = b := by
              by_cases hce : c' = n + 5
              · have h0 : R.drop (n + 5) = [] := List.drop_eq_nil_of_le (by omega)
                refine ⟨_, if_pos hce, ?_, fun k hk => by simp [Value.ownBlock] at hk; omega⟩
                rw [h0]; exact Or.inr ⟨_, _, rfl, fun j u hu => by simp at hu⟩
              · refine ⟨_, if_neg hce, ?_, fun k hk => by simp [Value.ownBlock] at hk; omega⟩
                have := Rd.piece (w := w1) (b := b) (o := o) (L := R) (fun j hj => (hbel1.cell (p := ⟨b, o + j, none⟩) (by show b < _; omega)).trans (HC.out j hj)) (n + 5) (R.length - (n + 5)) (c' - (n + 5)) (by omega)
                have e : (R.drop (n + 5)).take (R.length - (n + 5)) = R.drop (n + 5) := List.take_of_length_le (by rw [List.length_drop]; omega)
                rw [e] at this
                rw [List.length_drop]; exact this
            have hdl : (R.drop (n + 5)).length = R.length - (n + 5) := List.length_drop
            have HWn := hid (show W = ((Ls ++ [(R.drop 1).take n]) ++ (wholeP sumB (R.drop (n + 5))).1, (wholeP sumB (R.drop (n + 5))).2) by rw [HWd.out, HYes.out HOK.out hsh HE.out]; simp)
            obtain ⟨R2, HR2⟩ : ∃ R2, Hid (R.drop (n + 5) = R2) := ⟨_, hid rfl⟩
            rw [HR2.out] at HWn HRA hAb hdl
            have HDl := hid hdl
            have HAb := hid hAb
            clear hdl hAb
            go_wp2_with (at_builtin; refine wpList_append_gen _ rfl (.tmp 46) (.tmp 51) 137 51 _ 1 24 rfl Tryz.underlying137 Tryz.infoBytes rfl (by decide) _ Ls.length vs w.heap.size rfl HLs2.out.own _ 1 1 [.slice (some ⟨b, o + 1, none⟩) n (c' - 1)] rfl rfl (one_at _ _ _) one_slice (Ls.length + 1) rfl _ rfl (by unfold maxLen; omega) (by omega) (by simp; omega) ?_)
            intro a3 c3 w3 ho3 hg3
            have hbA : Below w.heap.size ((w1.drewN q2).alloc (.cells #[.slice (some ⟨b, o + 1, none⟩) n (c' - 1)] 51)) w3 := hg3.below (fun q hq => (HLs2.out.own.lt q hq).1) (by simp; omega)
            have HLs3 := hid (HLs2.out.push (Nat.le_refl _) HP12.out ho3 hbA)
            have hbel3 : Below w.heap.size w w3 := (hbel2.alloc (by simp; omega) _).trans hbA
            have HRA3 := hid (show Rd w3 (.slice A R2.length (c' - (n + 5))) R2 from (HRA.out.later (((below_drewN (Below.refl _ _) q2)).alloc (Nat.le_refl _) _)).same hbA (fun k hk _ => by have := HAb.out k hk; omega))
            clear ho3 hg3
            have hsb : (0 : Int) ≤ (n : Int) + 5 := by omega
            have hsb2 : (n : Int) + 5 ≤ (R.length : Int) := by omega
            go_wp2_with fail
            go_roundg (gk - 1)
            case rel =>
              have hdl := HDl.out
              refine ⟨R2, A, c' - (n + 5), a3, c3, vs ++ [.slice (some ⟨b, o + 1, none⟩) n (c' - 1)], Ls ++ [(R.drop 1).take n], by rw [hdl], by omega, by omega, by omega, by rw [List.length_append]; rfl, by rw [List.length_append, List.length_singleton]; omega, hid ⟨by have := HRA3.out; rwa [hdl] at this, fun k hk _ => by have := HAb.out k (by rw [hdl]; exact hk); omega⟩, HWn, ?_, hbel3⟩
              have := HLs3.out
              exact hid this
            case measure => omega
          · have HWe := hid (show W = (Ls, false) by rw [HWd.out, HNo.out HOK.out hsh hE]; simp)
            have hd : decide (G = R.take (n + 5)) = false := by simp [hE]
            rw [hd]
            have hbel2 := below_drewN hbel01 q2
            have HLs2 := hid (show RLs (w1.drewN q2) w.heap.size w.heap.size (.slice la Ls.length lc) vs Ls from ⟨HLs1.out.own, HLs1.out.each⟩)
            clear hd hE
            go_wp2_with fail
            go_ret2
            exact ⟨la, lc, vs, by rw [HWe.out]; rfl, hbel2, by rw [HWe.out]; exact HLs2.out⟩
      · have hcond : ((n : Int) < 1) ∨ (¬ (n : Int) < 1 ∧ (120 : Int) < (n : Int)) := by
          have h1 : ¬ (1 ≤ n ∧ n ≤ 120) := fun h => hok (okB_iff.2 h)
          omega
        have HWe := hid (show W = (Ls, false) by rw [HWd.out, HBad.out hok]; simp)
        clear hok
        rcases hcond with h1 | ⟨h1, h2⟩
        all_goals
          go_wp2_with fail
          go_ret2
          exact ⟨la, lc, vs, by rw [HWe.out]; rfl, hbel, by rw [HWe.out]; exact HLs.out⟩
end Go.Proofs.YtlgjlfobbpgklaaGreatDoor
