/- Framed of package courierkeep. -/
import Derived.Test.YtpnkhmijciopeaaCFrSpoilt
import Derived.Laws.Slices
namespace Go.Proofs.Ytpnkhmijciopeaa
open Go.RowKit

theorem own_cap {w : World} {lo : Nat} {e : TypeId} {size n m c : Nat} {a : Option Addr} {xs : List Value} (h : w.ownsRow lo e size (.slice a m c) n xs) : m = n ∧ n ≤ c := by
  rcases h.2 with ⟨h1, rfl⟩ | ⟨g, cap, cur, h1, _, _, h2, _⟩
  · simp at h1; omega
  · simp at h1; omega
/-- a piece of bytes of one's own -/
theorem slice_bys {w : World} {lo : Nat} {aa : Option Addr} {ac : Nat} {F : List UInt8} (h : Bys w lo (.slice aa F.length ac) F) (k n : Nat) (hk : k + n ≤ F.length) :
    ∃ A, (if ac = k then aa else Option.map (fun x => x.add k) aa) = A ∧ Rd w (.slice A n (ac - k)) ((F.drop k).take n) ∧ ∀ q, (Value.slice A n (ac - k)).ownBlock = some q → (Value.slice aa F.length ac).ownBlock = some q := by
  have hlen : ((F.drop k).take n).length = n := by simp; omega
  have hcap := (own_cap h).2
  refine ⟨_, rfl, ?_, ?_⟩
  · rcases h.2 with ⟨h1, h2⟩ | ⟨g, cap, cur, h1, _⟩
    · simp at h1
      obtain ⟨rfl, _, rfl⟩ := h1
      have : n = 0 := by omega
      subst this
      have : k = 0 := by omega
      subst this
      exact Or.inl ⟨rfl, by simp⟩
    · simp at h1
      obtain ⟨rfl, rfl⟩ := h1
      refine Or.inr ⟨if ac = k then ⟨g, 0, none⟩ else ⟨g, k, none⟩, ac - k, ?_, fun j u hu => ?_⟩
      · rw [hlen]
        by_cases hc : ac = k
        · simp [hc]
        · simp only [hc, if_false, Option.map_some]
          rw [rd_add _ _ rfl]; simp
      · have hj : j < n := by
          rcases Nat.lt_or_ge j n with h | h
          · exact h
          · rw [List.getElem?_eq_none (by simp; omega)] at hu; cases hu
        have hne : ¬ ac = k := by omega
        rw [if_neg hne, rd_add _ _ rfl]
        have e : ((F.drop k).take n)[j]? = F[k + j]? := by rw [List.getElem?_take_of_lt hj, List.getElem?_drop]
        rw [List.getElem?_map, e, ← List.getElem?_map] at hu
        have := h.cells (g := g) rfl (k + j) u hu
        rw [rd_add _ _ rfl] at this
        simpa using this
  · intro q hq
    by_cases hc : ac = k
    · rw [if_pos hc] at hq
      cases aa with
      | none => simp [Value.ownBlock] at hq
      | some x => simpa [Value.ownBlock] using hq
    · rw [if_neg hc] at hq
      cases aa with
      | none => simp [Value.ownBlock] at hq
      | some x =>
        have h2 : (x.add k).block = x.block := by unfold Addr.add; split <;> rfl
        simp [Value.ownBlock, h2] at hq ⊢
        exact hq
/-- the payloads that came in -/
def Pays (w : World) (pa : Option Addr) (Qs : List (List UInt8)) : Prop := 0 < Qs.length → ∃ b off, pa = some ⟨b, off, none⟩ ∧ b < w.heap.size ∧ ∀ i (hi : i < Qs.length), ∃ v, w.cell? ⟨b, off + i, none⟩ = some v ∧ Rd w v Qs[i] ∧ Qs[i].length ≤ maxLen
/-- the numbers that came in -/
def Nums (w : World) (ca : Option Addr) (n : Nat) : Prop := 0 < n → ∃ b off, ca = some ⟨b, off, none⟩ ∧ b < w.heap.size ∧ ∀ i, i < n → ∃ z : Int, w.cell? ⟨b, off + i, none⟩ = some (.int .i64 z) ∧ -9223372036854775808 ≤ z ∧ z ≤ 9223372036854775807
def goodP (Qs : List (List UInt8)) : List (List UInt8) := Qs.filter fun Q => okB Q.length
theorem goodP_ok (Qs : List (List UInt8)) : ∀ P ∈ goodP Qs, okB P.length = true := fun _ hP => (List.mem_filter.1 hP).2
theorem goodP_len (Qs : List (List UInt8)) : (goodP Qs).length ≤ Qs.length := List.length_filter_le _ _
theorem off_le : ∀ (Ps : List (List UInt8)), (∀ P ∈ Ps, okB P.length = true) → offP Ps ≤ 125 * Ps.length
  | [], _ => by simp [offP]
  | P :: r, h => by
    have := off_le r (fun Q hQ => h Q (by simp [hQ]))
    have := okB_iff.1 (h P (by simp))
    rw [offP_cons, List.length_cons]; omega
theorem goodP_yes {Qs : List (List UInt8)} {k : Nat} (hk : k < Qs.length) (h : okB Qs[k].length = true) : goodP (Qs.take (k + 1)) = goodP (Qs.take k) ++ [Qs[k]] := by
  unfold goodP; rw [List.take_succ_eq_append_getElem hk, List.filter_append]; simp [h]
theorem goodP_no {Qs : List (List UInt8)} {k : Nat} (hk : k < Qs.length) (h : okB Qs[k].length = false) : goodP (Qs.take (k + 1)) = goodP (Qs.take k) := by
  unfold goodP; rw [List.take_succ_eq_append_getElem hk, List.filter_append]; simp [h]
theorem one_str {t : ByteArray} : ∀ u ∈ [Value.string t], u.oneCell' = true := fun u hu => by simp at hu; subst hu; rfl
theorem Try.infoStr : (Try.prog.info? 9).map (fun i => (i.zero, i.size, i.bytes)) = some (some (.string ByteArray.empty), 1, 16) := by kernel_rfl

set_option maxRecDepth 100000 in
set_option maxHeartbeats 4000000 in
theorem framed_any (w : World) (pa ca : Option Addr) (pc cn cc : Nat) (Qs : List (List UInt8)) (at_ by_ : Int) (hp : Pays w pa Qs) (hq : Qs.length ≤ maxLen) (hc : Nums w ca cn) (hcn : cn ≤ 1000000000000000)
    (hat : -9223372036854775808 ≤ at_ ∧ at_ ≤ 9223372036854775807) (hby : -9223372036854775808 ≤ by_ ∧ by_ ≤ 9223372036854775807) :
    Calls Try.prog 3 #[.slice pa Qs.length pc, .slice ca cn cc, .int .i64 at_, .int .i64 by_] w fun e w' => e = .returned (.bool true) ∧ Below w.heap.size w w' := by
  unfold maxLen at hq
  have HPy := hid hp
  have HNm := hid hc
  have HAT := hid hat
  have HBY := hid hby
  clear hp hc hat hby
  go_enter Try.func3, Try.ntmps3
  go_wp2_with fail
  go_loopg [9, 10, 11, 12, 13] 6 (fun gk va vw i x12 x13 wr => ∃ k : Nat, k + gk = 6 ∧ k ≤ Qs.length ∧ i = .int .i64 k ∧ Hid (Bys wr w.heap.size va (framesP sumB (goodP (Qs.take k)))) ∧ Hid (Strs wr w.heap.size vw (goodP (Qs.take k))) ∧ Below w.heap.size w wr)
  case atStart => exact ⟨0, by omega, by omega, rfl, World.ownsRow_nil _ _ _ _, World.ownsRow_nil _ _ _ _, Below.refl _ _⟩
  case round =>
    obtain ⟨k, hk, hkQ, rfl, HB, HS, hbel⟩ := hrel
    by_cases hgo : k < Qs.length ∧ k < 6
    · obtain ⟨hlt, h6⟩ := hgo
      obtain ⟨b, off, rfl, hbw, hall⟩ := HPy.out (by omega)
      obtain ⟨v, hv, hRd, hQl⟩ := hall k hlt
      unfold maxLen at hQl
      obtain ⟨qa, qc, rfl⟩ := hRd.slice
      have hvr : wr.cell? ⟨b, off + k, none⟩ = some (.slice qa Qs[k].length qc) := (hbel.cell (p := ⟨b, off + k, none⟩) hbw).trans hv
      have HRd := hid (hRd.later hbel)
      obtain ⟨va, vc, rfl⟩ := own_slice HB.out
      obtain ⟨wa, wc, rfl⟩ := own_slice HS.out
      have hz := hbel.size
      have hltI : (k : Int) < (Qs.length : Int) := by omega
      have h6I : (k : Int) < 6 := by omega
      have hg1 := goodP_len (Qs.take k)
      have hg2 := off_le _ (goodP_ok (Qs.take k))
      have hgl := framesP_len sumB_len (goodP (Qs.take k))
      have hlk : (Qs.take k).length ≤ k := List.length_take_le _ _
      have HRd0 := hid hRd
      clear hv hRd hall
      by_cases hok : okB Qs[k].length = true
      · have hb := okB_iff.1 hok
        have HY := hid (goodP_yes hlt hok)
        have HOK := hid hok
        clear hok
        generalize goodP (Qs.take k) = Ps at *
        obtain ⟨F, HF⟩ : ∃ F, Hid (framesP sumB Ps = F) := ⟨_, hid rfl⟩
        have hFl : F.length ≤ 750 := by rw [← HF.out]; omega
        rw [HF.out] at HB ⊢
        have hq0 : ((Qs[k].length : Int) == 0) = false := by rw [beq_eq_false_iff_ne]; omega
        have hq1 : ¬ (120 : Int) < (Qs[k].length : Int) := by omega
        have hPs : Ps.length ≤ 6 := by omega
        clear hgl hg1 hg2
        go_wp2_with fail
        refine (frame_any _ _ Qs[k] HRd.out (by unfold maxLen; omega)).mono ?_; rintro e w1 ⟨hbel1, hq1⟩
        rw [HOK.out] at hq1
        obtain ⟨a1, c1, rfl, hB1⟩ := hq1
        have hvr1 : w1.cell? ⟨b, off + k, none⟩ = some (.slice qa Qs[k].length qc) := (hbel1.cell (p := ⟨b, off + k, none⟩) (by show b < _; omega)).trans hvr
        have hbel01 := hbel.trans (hbel1.mono hz)
        have hfl := frameP_len sumB_len Qs[k]
        have HFr := hid (show framesP sumB (goodP (Qs.take (k + 1))) = F ++ frameP sumB Qs[k] by rw [HY.out, framesP_append, HF.out]; simp [framesP])
        obtain ⟨G, HG⟩ : ∃ G, Hid (F ++ frameP sumB Qs[k] = G) := ⟨_, hid rfl⟩
        obtain ⟨R, HR⟩ : ∃ R, Hid (frameP sumB Qs[k] = R) := ⟨_, hid rfl⟩
        have hRl : ((R.length : Int) == (Qs[k].length : Int) + 5) = true := by rw [← HR.out, hfl]; simp
        have hRl2 : R.length ≤ 125 := by rw [← HR.out, hfl]; omega
        have HB1 : Hid (Bys w1 wr.heap.size (.slice a1 R.length c1) R) := by rw [← HR.out]; exact hB1
        have HG2 : Hid (F ++ R = G) := by rw [← HR.out]; exact HG.out
        have HRd1 := hid (HRd.out.later hbel1)
        have HBa := hid (HB.out.same hbel1)
        have HSa := hid (HS.out.same hbel1)
        have hz1 := hbel01.size
        rw [HR.out]
        clear hB1 hfl HRd hvr
        go_wp2_with (at_builtin; refine wpList_append_rd _ rfl (.tmp 74) (.tmp 75) rfl _ F w.heap.size rfl HBa.out _ R rfl HB1.out.rd G HG2.out (by omega) (by omega) ?_)
        intro a2 c2 w2 hb2 hg2
        have hbel2 : Below w.heap.size w w2 := hbel01.trans (hg2.below (fun q hq => (HBa.out.lt q hq).1) hz1)
        have hz2 := hg2.g.size
        have HS2 := hid (show Strs w2 w.heap.size (.slice wa Ps.length wc) Ps from own_same HSa.out (fun g hg => hg2.g.block g (HSa.out.lt g hg).2 (fun e => own_ne HSa.out HBa.out (by decide) hg e.symm rfl)))
        have hRd2 : Rd w2 (.slice qa Qs[k].length qc) Qs[k] := HRd0.out.later hbel2
        have hvr2 : w2.cell? ⟨b, off + k, none⟩ = some (.slice qa Qs[k].length qc) := (hbel2.cell (p := ⟨b, off + k, none⟩) hbw).trans ((hbel01.cell (p := ⟨b, off + k, none⟩) hbw).symm.trans hvr1)
        have hconv := hRd2.conv
        have HB2 := hid hb2
        clear hb2 hg2 hvr1 hRd2
        go_wp2_with (at_builtin; refine wpList_append_gen _ rfl (.tmp 77) (.tmp 83) 25 9 _ 1 16 rfl Try.underlying25 Try.infoStr rfl (by decide) _ Ps.length _ w.heap.size rfl (World.ownsRow.alloc HS2.out _) _ 1 1 [.string (strOf Qs[k])] rfl rfl (one_at _ _ _) one_str (Ps.length + 1) rfl _ rfl (by unfold maxLen; omega) (by omega) (by simp; omega) ?_)
        intro a3 c3 w3 ho3 hg3
        have hbel3 : Below w.heap.size w w3 := (hbel2.alloc (by omega) _).trans (hg3.below (fun q hq => (HS2.out.lt q hq).1) (by simp; omega))
        have HB3 := hid (show Bys w3 w.heap.size (.slice a2 G.length c2) G from by
          have h2 := World.ownsRow.alloc HB2.out (.cells #[.string (strOf Qs[k])] 9)
          exact own_same h2 (fun g hg => hg3.g.block g (h2.lt g hg).2 (fun e => own_ne h2 (World.ownsRow.alloc HS2.out _) (by decide) hg e.symm rfl)))
        have HS3 := hid (show Strs w3 w.heap.size (.slice a3 (Ps.length + 1) c3) (goodP (Qs.take (k + 1))) from by
          rw [HY.out]
          show w3.ownsRow _ _ _ _ _ _
          rw [List.map_append, List.length_append]
          exact ho3)
        clear ho3 hg3
        go_wp2_with fail
        go_roundg (gk - 1)
        case rel => exact ⟨k + 1, by omega, by omega, by go_num, by rw [HFr.out, HG.out]; exact HB3, HS3, hbel3⟩
        case measure => omega
      · have hno : okB Qs[k].length = false := by simpa using hok
        have HN := hid (goodP_no hlt hno)
        have HOK := hid hno
        have hcond : (((Qs[k].length : Int) == 0) = true) ∨ (((Qs[k].length : Int) == 0) = false ∧ (120 : Int) < (Qs[k].length : Int)) := by
          have h1 : ¬ (1 ≤ Qs[k].length ∧ Qs[k].length ≤ 120) := fun h => hok (okB_iff.2 h)
          rcases Nat.eq_zero_or_pos Qs[k].length with e | e
          · left; rw [beq_iff_eq]; omega
          · right; rw [beq_eq_false_iff_ne]; omega
        have hnn := neq_nil none 0 0
        generalize goodP (Qs.take k) = Ps at *
        clear hok hno hgl hg1 hg2
        rcases hcond with hq0 | ⟨hq0, hq1⟩
        all_goals
          go_wp2_with fail
          refine (frame_any _ _ Qs[k] HRd.out (by unfold maxLen; omega)).mono ?_; rintro e w1 ⟨hbel1, hq1'⟩
          rw [HOK.out] at hq1'
          obtain rfl := hq1'
          have hvr1 : w1.cell? ⟨b, off + k, none⟩ = some (.slice qa Qs[k].length qc) := (hbel1.cell (p := ⟨b, off + k, none⟩) (by show b < _; omega)).trans hvr
          have hbel01 := hbel.trans (hbel1.mono hz)
          have HBa := hid (HB.out.same hbel1)
          have HSa := hid (HS.out.same hbel1)
          go_wp2_with fail
          go_roundg (gk - 1)
          case rel => exact ⟨k + 1, by omega, by omega, by go_num, by rw [HN.out]; exact HBa, by rw [HN.out]; exact HSa, hbel01⟩
          case measure => omega
    · obtain ⟨w4, hw4⟩ : ∃ w4, w4 = wr := ⟨_, rfl⟩
      subst hw4
      have hout : (¬ (k : Int) < (Qs.length : Int)) ∨ ((k : Int) < (Qs.length : Int) ∧ ¬ (k : Int) < 6) := by omega
      obtain ⟨va, vc, rfl⟩ := own_slice HB.out
      obtain ⟨wa, wc, rfl⟩ := own_slice HS.out
      have hz := hbel.size
      have hg1 := goodP_len (Qs.take k)
      have HPok := hid (goodP_ok (Qs.take k))
      have hg2 := off_le _ (goodP_ok (Qs.take k))
      have hgl := framesP_len sumB_len (goodP (Qs.take k))
      have hlk : (Qs.take k).length ≤ k := List.length_take_le _ _
      generalize goodP (Qs.take k) = Ps at *
      have hPs : Ps.length ≤ 6 := by omega
      obtain ⟨F, HF⟩ : ∃ F, Hid (framesP sumB Ps = F) := ⟨_, hid rfl⟩
      have hFl : F.length ≤ 750 := by rw [← HF.out]; omega
      rw [HF.out] at HB ⊢
      clear hgl hg1 hg2 hlk hgo HPy
      have HFn := hid (show feedF sumB (some []) F = (Ps, some []) by rw [← HF.out]; exact feed_frames sumB_len Ps HPok.out)
      rcases hout with hnlt | ⟨hnlt, hn6⟩
      all_goals
        go_wp2_with fail
        refine (newDeframer_any _).mono ?_; rintro e w5 ⟨rfl, hb5, hz5, hC5⟩
        have HC5 := hid hC5
        have hbel5 := hbel.trans (hb5.mono hz)
        obtain ⟨d, hd⟩ : ∃ d, d = w4.heap.size := ⟨_, rfl⟩
        rw [← hd] at HC5 hb5 hz5 ⊢
        have HB5 := hid (HB.out.same (hd ▸ hb5))
        have HS5 := hid (HS.out.same (hd ▸ hb5))
        have hBd : ∀ q, (Value.slice va F.length vc).ownBlock = some q → q < d := fun q hq => by have := (HB.out.lt q hq).2; omega
        have hSd : ∀ q, (Value.slice wa Ps.length wc).ownBlock = some q → q < d := fun q hq => by have := (HS.out.lt q hq).2; omega
        have HBd := hid hBd
        have HSd := hid hSd
        have hwd : w.heap.size ≤ d := by omega
        clear hC5 hd HB HS hBd hSd
        go_wp2_with fail
        go_loopg [15, 16, 17, 18, 19, 20, 21, 22] (cn + 1) (fun gq xk xg xw xi x19 x20 x21 x22 wq => ∃ ci kk g : Nat, ∃ H : List UInt8, ci + gq = cn + 1 ∧ xi = .int .i64 ci ∧ xk = .int .i64 kk ∧ kk ≤ F.length ∧ (ci = cn + 1 → kk = F.length) ∧ xg = .int .i64 g ∧ g ≤ Ps.length ∧ xw = .int .i64 (offP (Ps.take g)) ∧ Hid (feedF sumB (some []) (F.take kk) = (Ps.take g, some H)) ∧ Hid (Cut wq d (some H)) ∧ Below d w5 wq)
        case atStart => exact ⟨0, 0, 0, [], by omega, rfl, rfl, by omega, fun h => by omega, rfl, by omega, by simp [offP], by rfl, HC5, Below.refl _ _⟩
        case round =>
          obtain ⟨ci, kk, g, H, hci, rfl, rfl, hkk, hkend, rfl, hgP, rfl, HFd, HCq, hbq⟩ := hrel
          obtain ⟨wq, hwq⟩ : ∃ wq, wq = wr := ⟨_, rfl⟩
          subst hwq
          obtain ⟨gq, hgq⟩ : ∃ gq, gq = gk := ⟨_, rfl⟩
          subst hgq
          by_cases hin : ci ≤ cn
          · have hzq := hbq.size
            by_cases hlast : ci < cn
            · obtain ⟨cb, co, rfl, hcb, hcall⟩ := HNm.out (by omega)
              obtain ⟨z, hcz, hz1, hz2⟩ := hcall ci hlast
              have hczq : wq.cell? ⟨cb, co + ci, none⟩ = some (.int .i64 z) := (hbq.cell (p := ⟨cb, co + ci, none⟩) (by show cb < d; omega)).trans ((hbel5.cell (p := ⟨cb, co + ci, none⟩) hcb).trans hcz)
              clear hcall hcz
              have hinI : (ci : Int) ≤ (cn : Int) := by omega
              have hlastI : (ci : Int) < (cn : Int) := by omega
              go_wp2_with fail
              rw [show (F.length : Int) - (kk : Int) + 1 = ((F.length - kk + 1 : Nat) : Int) by omega]
              refine (pick_any z (F.length - kk + 1) _ (by omega) (by unfold maxLen; omega) ⟨hz1, hz2⟩).mono ?_; rintro e wq ⟨rfl, rfl⟩
              have hnl := pickN_lt z (n := F.length - kk + 1) (by omega)
              generalize pickN z (F.length - kk + 1) = n at *
              have hvc := (own_cap HB5.out).2
              have hs1 : (kk : Int) + (n : Int) ≤ (vc : Int) := by omega
              obtain ⟨A, hA, hRA, hAb⟩ := slice_bys HB5.out kk n (by omega)
              have HRA := hid (hRA.same (B := d) hbq (fun q hq _ => HBd.out q (hAb q hq)))
              have HAb := hid hAb
              have hpl : ((F.drop kk).take n).length ≤ 750 := by rw [List.length_take]; omega
              have HokH := hid (show St.Ok (some H) from by have := fold_ok (sm := sumB) (F.take kk) ([], some []) (Or.inl rfl); have e : (feedF sumB (some []) (F.take kk)).2 = some H := by rw [HFd.out]
                                                            exact e ▸ this)
              obtain ⟨g', H', Ls, hX, hX2, hg', hgl', hLs, hnx⟩ := feed_more sumB_len Ps HPok.out F HF.out kk n g H HFd.out hgP (by omega)
              have HX := hid hX
              have HX2 := hid hX2
              have HLs := hid hLs
              have HNx := hid hnx
              clear hRA hAb hX hX2 hLs hnx
              go_wp2_with fail
              refine (feed_any _ d (some H) _ ((F.drop kk).take n) HCq.out HokH.out HRA.out (by omega) (fun q hq => by have := HBd.out q (HAb.out q hq); omega)).mono ?_; rintro e w7 ⟨a7, c7, vs, rfl, hg7, hC7, hL7⟩
              rw [HX.out] at hC7 hL7 ⊢
              simp only [feedErr]
              have hdq : d < wq.heap.size := (Array.getElem?_eq_some_iff.1 HCq.out.choose_spec.1).1
              have hb7 : Below d w5 w7 := hbq.trans ⟨hg7.os, hg7.tape, hg7.output, hg7.size, fun q hq => hg7.block q (by omega) (fun e => by cases e; omega)⟩
              have HC7 := hid hC7
              have HL7 := hid hL7
              have HS7 := hid (show Strs w7 w.heap.size (.slice wa Ps.length wc) Ps from own_same HS5.out (fun q hq => hb7.block q (HSd.out q hq)))
              have hz7 := hg7.size
              clear hC7 hL7 hg7
              go_wp2_with fail
              go_loopg [16, 17, 22] Ls.length (fun gj xg xw xj wz => ∃ j n2 : Nat, j + gj = Ls.length ∧ xj = .int .i64 j ∧ xg = .int .i64 ((g + j : Nat) : Int) ∧ xw = .int .i64 (offP (Ps.take (g + j))) ∧ wz = w7.drewN n2)
              case atStart => exact ⟨0, 0, by omega, rfl, rfl, rfl, rfl⟩
              case round =>
                obtain ⟨j, n2, hj, rfl, rfl, rfl, rfl⟩ := hrel
                have hofl : offP (Ps.take (g + j)) ≤ 750 := by
                  have h1 := off_le (Ps.take (g + j)) (fun P hP => HPok.out P (List.mem_of_mem_take hP))
                  have h2 : (Ps.take (g + j)).length ≤ Ps.length := by rw [List.length_take]; omega
                  omega
                by_cases hjl : j < Ls.length
                · have hgj : g + j < Ps.length := by omega
                  obtain ⟨u, hu, hBu⟩ := HL7.out.at hjl
                  have e1 : Ls[j] = Ps[g + j] := by
                    have := HLs.out j hjl
                    rw [List.getElem?_eq_getElem hjl, List.getElem?_eq_getElem hgj] at this
                    simpa using this
                  rw [e1] at hBu
                  obtain ⟨lg, lc, hLv, hlg⟩ : ∃ lg c, (Value.slice a7 Ls.length c7) = .slice (some ⟨lg, 0, none⟩) Ls.length c ∧ lg < w7.heap.size := by
                    rcases HL7.out.own.2 with ⟨_, e⟩ | ⟨q, cap, cur, hv, _⟩
                    · omega
                    · exact ⟨q, cap, hv, (HL7.out.own.lt q (by rw [hv]; rfl)).2⟩
                  obtain ⟨rfl, rfl⟩ : a7 = some ⟨lg, 0, none⟩ ∧ c7 = lc := by simpa using hLv
                  have hcu : w7.cell? ⟨lg, j, none⟩ = some u := by
                    have := HL7.out.own.cells (g := lg) rfl j u hu
                    rw [rd_add _ _ rfl] at this
                    simpa using this
                  obtain ⟨wg, wc', hwv, hwg, hwc⟩ := HS7.out.cell (by omega)
                  obtain ⟨rfl, rfl⟩ : wa = some ⟨wg, 0, none⟩ ∧ wc = wc' := by simpa using hwv
                  have hcw := hwc (g + j) hgj
                  obtain ⟨ua, uc, rfl⟩ := own_slice hBu
                  have hconv : ∀ q, (convert 24 9 (.slice ua Ps[g + j].length uc)).run Try.prog (w7.drewN q) = .ok (.string (strOf Ps[g + j])) (w7.drewN q) := fun q => (Bys.rd (hBu.same (below_drewN (Below.refl _ _) q))).conv
                  have hI1 : (j : Int) < (Ls.length : Int) := by omega
                  have hI2 : ((g + j : Nat) : Int) < (Ps.length : Int) := by omega
                  have hsz := strOf_size Ps[g + j]
                  have hPm := (okB_iff.1 (HPok.out Ps[g + j] (List.getElem_mem hgj))).2
                  have HO := hid (show offP (Ps.take (g + j + 1)) = offP (Ps.take (g + j)) + (Ps[g + j].length + 5) by rw [List.take_succ_eq_append_getElem hgj, offP_append]; simp [offP])
                  generalize Ps[g + j] = PP at *
                  clear hu hBu e1 hLv hwv hwc
                  generalize hE : g + j = gj at *
                  have HGJ := hid hE
                  clear hE
                  have hI3 : decide ((Ps.length : Int) ≤ (gj : Int)) = false := by rw [decide_eq_false_iff_not]; omega
                  go_wp2_with fail
                  go_quiet (fail)
                  go_wp2_with fail
                  go_roundg (gk - 1)
                  case rel => exact ⟨j + 1, _, by omega, by go_num, by rw [← Nat.add_assoc, HGJ.out]; go_num, by rw [← Nat.add_assoc, HGJ.out, HO.out]; go_num, rfl⟩
                  case measure => omega
                · obtain rfl : j = Ls.length := by omega
                  rw [hgl'] at *
                  have HC8 := hid (show Cut (w7.drewN n2) d (some H') from HC7.out)
                  have hb8 : Below d w5 (w7.drewN n2) := below_drewN hb7 n2
                  by_cases hmore : g' < Ps.length
                  · obtain ⟨wg, wc', hwv, hwg, hwc⟩ := HS7.out.cell (by omega)
                    obtain ⟨rfl, rfl⟩ : wa = some ⟨wg, 0, none⟩ ∧ wc = wc' := by simpa using hwv
                    have hcw := hwc g' hmore
                    have hsz := strOf_size Ps[g']
                    have hPm := (okB_iff.1 (HPok.out Ps[g'] (List.getElem_mem hmore))).2
                    have HO := hid (show offP (Ps.take (g' + 1)) = offP (Ps.take g') + (Ps[g'].length + 5) by rw [List.take_succ_eq_append_getElem hmore, offP_append]; simp [offP])
                    have hnle : ¬ (offP (Ps.take g') : Int) + (Ps[g'].length : Int) + 5 ≤ (kk : Int) + (n : Int) := by have := HNx.out hmore; rw [HO.out] at this; omega
                    generalize Ps[g'] = PP at *
                    have hI2 : (g' : Int) < (Ps.length : Int) := by omega
                    clear hwv hwc
                    go_wp2_with fail
                    go_roundg (gq - 1)
                    case rel => exact ⟨ci + 1, kk + n, g', H', by omega, by go_num, by go_num, by omega, fun h => by omega, rfl, hg', rfl, HX2, HC8, hb8⟩
                    case measure => omega
                  · have hI2 : ¬ (g' : Int) < (Ps.length : Int) := by omega
                    go_wp2_with fail
                    go_roundg (gq - 1)
                    case rel => exact ⟨ci + 1, kk + n, g', H', by omega, by go_num, by go_num, by omega, fun h => by omega, rfl, hg', rfl, HX2, HC8, hb8⟩
                    case measure => omega
            · have hinI : (ci : Int) ≤ (cn : Int) := by omega
              have hlastI : ¬ (ci : Int) < (cn : Int) := by omega
              obtain ⟨n, hn1, hn2, hnI⟩ : ∃ n : Nat, kk + n ≤ F.length ∧ F.length ≤ kk + n ∧ (F.length : Int) - (kk : Int) = (n : Int) := ⟨F.length - kk, by omega, by omega, by omega⟩
              have hvc := (own_cap HB5.out).2
              have hs1 : (kk : Int) + (n : Int) ≤ (vc : Int) := by omega
              obtain ⟨A, hA, hRA, hAb⟩ := slice_bys HB5.out kk n (by omega)
              have HRA := hid (hRA.same (B := d) hbq (fun q hq _ => HBd.out q (hAb q hq)))
              have HAb := hid hAb
              have hpl : ((F.drop kk).take n).length ≤ 750 := by rw [List.length_take]; omega
              have HokH := hid (show St.Ok (some H) from by have := fold_ok (sm := sumB) (F.take kk) ([], some []) (Or.inl rfl); have e : (feedF sumB (some []) (F.take kk)).2 = some H := by rw [HFd.out]
                                                            exact e ▸ this)
              obtain ⟨g', H', Ls, hX, hX2, hg', hgl', hLs, hnx⟩ := feed_more sumB_len Ps HPok.out F HF.out kk n g H HFd.out hgP (by omega)
              have HX := hid hX
              have HX2 := hid hX2
              have HLs := hid hLs
              have HNx := hid hnx
              clear hRA hAb hX hX2 hLs hnx
              go_wp2_with fail
              refine (feed_any _ d (some H) _ ((F.drop kk).take n) HCq.out HokH.out HRA.out (by omega) (fun q hq => by have := HBd.out q (HAb.out q hq); omega)).mono ?_; rintro e w7 ⟨a7, c7, vs, rfl, hg7, hC7, hL7⟩
              rw [HX.out] at hC7 hL7 ⊢
              simp only [feedErr]
              have hdq : d < wq.heap.size := (Array.getElem?_eq_some_iff.1 HCq.out.choose_spec.1).1
              have hb7 : Below d w5 w7 := hbq.trans ⟨hg7.os, hg7.tape, hg7.output, hg7.size, fun q hq => hg7.block q (by omega) (fun e => by cases e; omega)⟩
              have HC7 := hid hC7
              have HL7 := hid hL7
              have HS7 := hid (show Strs w7 w.heap.size (.slice wa Ps.length wc) Ps from own_same HS5.out (fun q hq => hb7.block q (HSd.out q hq)))
              have hz7 := hg7.size
              clear hC7 hL7 hg7
              go_wp2_with fail
              go_loopg [16, 17, 22] Ls.length (fun gj xg xw xj wz => ∃ j n2 : Nat, j + gj = Ls.length ∧ xj = .int .i64 j ∧ xg = .int .i64 ((g + j : Nat) : Int) ∧ xw = .int .i64 (offP (Ps.take (g + j))) ∧ wz = w7.drewN n2)
              case atStart => exact ⟨0, 0, by omega, rfl, rfl, rfl, rfl⟩
              case round =>
                obtain ⟨j, n2, hj, rfl, rfl, rfl, rfl⟩ := hrel
                have hofl : offP (Ps.take (g + j)) ≤ 750 := by
                  have h1 := off_le (Ps.take (g + j)) (fun P hP => HPok.out P (List.mem_of_mem_take hP))
                  have h2 : (Ps.take (g + j)).length ≤ Ps.length := by rw [List.length_take]; omega
                  omega
                by_cases hjl : j < Ls.length
                · have hgj : g + j < Ps.length := by omega
                  obtain ⟨u, hu, hBu⟩ := HL7.out.at hjl
                  have e1 : Ls[j] = Ps[g + j] := by
                    have := HLs.out j hjl
                    rw [List.getElem?_eq_getElem hjl, List.getElem?_eq_getElem hgj] at this
                    simpa using this
                  rw [e1] at hBu
                  obtain ⟨lg, lc, hLv, hlg⟩ : ∃ lg c, (Value.slice a7 Ls.length c7) = .slice (some ⟨lg, 0, none⟩) Ls.length c ∧ lg < w7.heap.size := by
                    rcases HL7.out.own.2 with ⟨_, e⟩ | ⟨q, cap, cur, hv, _⟩
                    · omega
                    · exact ⟨q, cap, hv, (HL7.out.own.lt q (by rw [hv]; rfl)).2⟩
                  obtain ⟨rfl, rfl⟩ : a7 = some ⟨lg, 0, none⟩ ∧ c7 = lc := by simpa using hLv
                  have hcu : w7.cell? ⟨lg, j, none⟩ = some u := by
                    have := HL7.out.own.cells (g := lg) rfl j u hu
                    rw [rd_add _ _ rfl] at this
                    simpa using this
                  obtain ⟨wg, wc', hwv, hwg, hwc⟩ := HS7.out.cell (by omega)
                  obtain ⟨rfl, rfl⟩ : wa = some ⟨wg, 0, none⟩ ∧ wc = wc' := by simpa using hwv
                  have hcw := hwc (g + j) hgj
                  obtain ⟨ua, uc, rfl⟩ := own_slice hBu
                  have hconv : ∀ q, (convert 24 9 (.slice ua Ps[g + j].length uc)).run Try.prog (w7.drewN q) = .ok (.string (strOf Ps[g + j])) (w7.drewN q) := fun q => (Bys.rd (hBu.same (below_drewN (Below.refl _ _) q))).conv
                  have hI1 : (j : Int) < (Ls.length : Int) := by omega
                  have hI2 : ((g + j : Nat) : Int) < (Ps.length : Int) := by omega
                  have hsz := strOf_size Ps[g + j]
                  have hPm := (okB_iff.1 (HPok.out Ps[g + j] (List.getElem_mem hgj))).2
                  have HO := hid (show offP (Ps.take (g + j + 1)) = offP (Ps.take (g + j)) + (Ps[g + j].length + 5) by rw [List.take_succ_eq_append_getElem hgj, offP_append]; simp [offP])
                  generalize Ps[g + j] = PP at *
                  clear hu hBu e1 hLv hwv hwc
                  generalize hE : g + j = gj at *
                  have HGJ := hid hE
                  clear hE
                  have hI3 : decide ((Ps.length : Int) ≤ (gj : Int)) = false := by rw [decide_eq_false_iff_not]; omega
                  go_wp2_with fail
                  go_quiet (fail)
                  go_wp2_with fail
                  go_roundg (gk - 1)
                  case rel => exact ⟨j + 1, _, by omega, by go_num, by rw [← Nat.add_assoc, HGJ.out]; go_num, by rw [← Nat.add_assoc, HGJ.out, HO.out]; go_num, rfl⟩
                  case measure => omega
                · obtain rfl : j = Ls.length := by omega
                  rw [hgl'] at *
                  have HC8 := hid (show Cut (w7.drewN n2) d (some H') from HC7.out)
                  have hb8 : Below d w5 (w7.drewN n2) := below_drewN hb7 n2
                  by_cases hmore : g' < Ps.length
                  · obtain ⟨wg, wc', hwv, hwg, hwc⟩ := HS7.out.cell (by omega)
                    obtain ⟨rfl, rfl⟩ : wa = some ⟨wg, 0, none⟩ ∧ wc = wc' := by simpa using hwv
                    have hcw := hwc g' hmore
                    have hsz := strOf_size Ps[g']
                    have hPm := (okB_iff.1 (HPok.out Ps[g'] (List.getElem_mem hmore))).2
                    have HO := hid (show offP (Ps.take (g' + 1)) = offP (Ps.take g') + (Ps[g'].length + 5) by rw [List.take_succ_eq_append_getElem hmore, offP_append]; simp [offP])
                    have hnle : ¬ (offP (Ps.take g') : Int) + (Ps[g'].length : Int) + 5 ≤ (kk : Int) + (n : Int) := by have := HNx.out hmore; rw [HO.out] at this; omega
                    generalize Ps[g'] = PP at *
                    have hI2 : (g' : Int) < (Ps.length : Int) := by omega
                    clear hwv hwc
                    go_wp2_with fail
                    go_roundg (gq - 1)
                    case rel => exact ⟨ci + 1, kk + n, g', H', by omega, by go_num, by go_num, by omega, fun h => by omega, rfl, hg', rfl, HX2, HC8, hb8⟩
                    case measure => omega
                  · have hI2 : ¬ (g' : Int) < (Ps.length : Int) := by omega
                    go_wp2_with fail
                    go_roundg (gq - 1)
                    case rel => exact ⟨ci + 1, kk + n, g', H', by omega, by go_num, by go_num, by omega, fun h => by omega, rfl, hg', rfl, HX2, HC8, hb8⟩
                    case measure => omega
          · have hinI : ¬ (ci : Int) ≤ (cn : Int) := by omega
            obtain rfl : kk = F.length := hkend (by omega)
            have hgE : g = Ps.length := by
              have h1 := HFd.out
              rw [List.take_length, HFn.out] at h1
              have h2 := congrArg (fun x => x.1.length) h1
              simp only [List.length_take] at h2
              omega
            subst hgE
            have hzq := hbq.size
            have hblq := hbel5.trans (hbq.mono hwd)
            have HBq := hid (show Bys wq w.heap.size (.slice va F.length vc) F from own_same HB5.out (fun q hq => hbq.block q (HBd.out q hq)))
            have HSq := hid (show Strs wq w.heap.size (.slice wa Ps.length wc) Ps from own_same HS5.out (fun q hq => hbq.block q (HSd.out q hq)))
            by_cases hF0 : F.length = 0
            · have hF0I : ((F.length : Int) == 0) = true := by rw [beq_iff_eq]; omega
              clear hF0
              go_wp2_with fail
              go_ret
              exact ⟨ret_bool (by simp), hblq⟩
            · have hF0I : ((F.length : Int) == 0) = false := by rw [beq_eq_false_iff_ne]; omega
              have hP0 : 0 < Ps.length := by
                rcases Nat.eq_zero_or_pos Ps.length with e | e
                · exfalso
                  have := List.eq_nil_of_length_eq_zero e
                  subst this
                  have h2 := congrArg List.length HF.out
                  simp [framesP] at h2
                  omega
                · exact e
              go_wp2_with fail
              have hcall := spoilt_any wq w.heap.size w.heap.size (.slice va F.length vc) (.slice wa Ps.length wc) Ps at_ by_ (by rw [HF.out]; exact HBq.out) HSq.out HPok.out hP0 hPs (by rw [HF.out]; omega) HAT.out HBY.out
              refine hcall.mono ?_; rintro e w9 ⟨rfl, hb9⟩
              have hbl9 := hblq.trans (hb9.mono hblq.size)
              go_wp2_with fail
              go_ret
              exact ⟨rfl, hbl9⟩
end Go.Proofs.Ytpnkhmijciopeaa
