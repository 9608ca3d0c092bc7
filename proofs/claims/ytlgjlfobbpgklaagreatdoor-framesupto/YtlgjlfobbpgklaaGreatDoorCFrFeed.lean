/- Feed: bytes one behind the other; the payloads that come out. -/
import Derived.Test.YtlgjlfobbpgklaaGreatDoorCFrAdd
namespace Go.Proofs.YtlgjlfobbpgklaaGreatDoor
open Go.RowKit

/-- lists of bytes in memory of their own, each in its own -/
structure Lst (w : World) (lo : Nat) (v : Value) (vs : List Value) (Ls : List (List UInt8)) : Prop where
  own : w.ownsRow lo 51 1 v Ls.length vs
  each : ∀ (i : Nat) (u : Value) (L : List UInt8), vs[i]? = some u → Ls[i]? = some L → Bys w lo u L
  apart : ∀ (i j : Nat) (u u' : Value), vs[i]? = some u → vs[j]? = some u' → i ≠ j → ∀ g, u.ownBlock = some g → u'.ownBlock = some g → False
theorem Lst.len {w : World} {lo : Nat} {v : Value} {vs : List Value} {Ls : List (List UInt8)} (h : Lst w lo v vs Ls) : vs.length = Ls.length := by have := h.own.1; omega
theorem Lst.nil (w : World) (lo : Nat) : Lst w lo (.slice none 0 0) [] [] := ⟨World.ownsRow_nil _ _ _ _, fun i u L h => by simp at h, fun i j u u' h => by simp at h⟩
theorem Lst.at {w : World} {lo : Nat} {v : Value} {vs : List Value} {Ls : List (List UInt8)} (h : Lst w lo v vs Ls) {i : Nat} (hi : i < Ls.length) : ∃ u, vs[i]? = some u ∧ Bys w lo u Ls[i] := by
  have hl := h.len
  exact ⟨vs[i], List.getElem?_eq_getElem (by omega), h.each i _ _ (List.getElem?_eq_getElem (by omega)) (List.getElem?_eq_getElem hi)⟩
/-- memory in which none of its blocks has turned -/
theorem Lst.same {w w' : World} {lo : Nat} {v : Value} {vs : List Value} {Ls : List (List UInt8)} (h : Lst w lo v vs Ls) (hs : ∀ k, lo ≤ k → k < w.heap.size → w'.heap[k]? = w.heap[k]?) : Lst w' lo v vs Ls :=
  ⟨own_same h.own (fun g hg => hs g (h.own.lt g hg).1 (h.own.lt g hg).2), fun i u L hu hL => own_same (h.each i u L hu hL) (fun g hg => hs g ((h.each i u L hu hL).lt g hg).1 ((h.each i u L hu hL).lt g hg).2), h.apart⟩
theorem Tryz.infoBytes : (Tryz.prog.info? 51).map (fun i => (i.zero, i.size, i.bytes)) = some (some (.slice none 0 0), 1, 24) := by kernel_rfl
/-- one payload more -/
theorem Lst.push {w w1 w2 : World} {lo : Nat} {v v' u : Value} {vs : List Value} {Ls : List (List UInt8)} {P : List UInt8} (h : Lst w lo v vs Ls) (hu : Bys w1 w.heap.size u P) (hs : ∀ k, lo ≤ k → k < w.heap.size → w1.heap[k]? = w.heap[k]?) (hlo : lo ≤ w.heap.size)
    (hown : w2.ownsRow lo 51 1 v' (Ls.length + 1) (vs ++ [u])) (hg : Grew w1 w2 v v') : Lst w2 lo v' (vs ++ [u]) (Ls ++ [P]) := by
  have h1 := h.same hs
  have hne : ∀ {u : Value} {L : List UInt8} {lo' : Nat}, Bys w1 lo' u L → ∀ g, u.ownBlock = some g → some g ≠ v.ownBlock := fun hB g hg' e => own_ne hB h1.own (by decide) hg' e.symm rfl
  have hl := h.len
  refine ⟨by rw [List.length_append]; exact hown, fun i q L hq hL => ?_, fun i j q q' hq hq' hij g hg1 hg2 => ?_⟩
  · rcases Nat.lt_or_ge i vs.length with hi | hi
    · rw [List.getElem?_append_left hi] at hq
      rw [List.getElem?_append_left (by omega)] at hL
      have hB := h1.each i q L hq hL
      exact own_same hB (fun g hg' => hg.g.block g (hB.lt g hg').2 (hne hB g hg'))
    · rw [List.getElem?_append_right hi] at hq
      rw [List.getElem?_append_right (by omega)] at hL
      have hi0 : i - vs.length = 0 := by
        rcases Nat.eq_zero_or_pos (i - vs.length) with e | e
        · exact e
        · rw [List.getElem?_eq_none (by simp; omega)] at hq; cases hq
      rw [hi0] at hq
      rw [show i - Ls.length = 0 by omega] at hL
      simp at hq hL
      subst hq hL
      exact Bys.lower (own_same hu (fun g hg' => hg.g.block g (hu.lt g hg').2 (hne hu g hg'))) hlo
  · have key : ∀ (i j : Nat) (q q' : Value), i < vs.length → vs.length ≤ j → (vs ++ [u])[i]? = some q → (vs ++ [u])[j]? = some q' → q.ownBlock = some g → q'.ownBlock = some g → False := fun i j q q' hi hj hq hq' hg1 hg2 => by
      rw [List.getElem?_append_left hi] at hq
      rw [List.getElem?_append_right hj] at hq'
      have hj0 : j - vs.length = 0 := by
        rcases Nat.eq_zero_or_pos (j - vs.length) with e | e
        · exact e
        · rw [List.getElem?_eq_none (by simp; omega)] at hq'; cases hq'
      rw [hj0] at hq'
      simp at hq'
      subst hq'
      have h2 := (hu.lt g hg2).1
      have h3 := ((h.each i q Ls[i] hq (List.getElem?_eq_getElem (by omega))).lt g hg1).2
      omega
    rcases Nat.lt_or_ge i vs.length with hi | hi <;> rcases Nat.lt_or_ge j vs.length with hj | hj
    · rw [List.getElem?_append_left hi] at hq
      rw [List.getElem?_append_left hj] at hq'
      exact h.apart i j q q' hq hq' hij g hg1 hg2
    · exact key i j q q' hi hj hq hq' hg1 hg2
    · exact key j i q' q hj hi hq' hq hg2 hg1
    · have := (List.getElem?_eq_some_iff.1 hq).1
      have := (List.getElem?_eq_some_iff.1 hq').1
      simp at *; omega
/-- what Feed answers -/
def feedErr : St → Int
  | .bad => 7
  | .held _ => 0
def FeedPost (w : World) (b : Nat) (s : St) (L : List UInt8) (e : Ending) (w' : World) : Prop :=
  ∃ a c vs, e = .returned (.tuple #[.slice a (feedF sumB s L).1.length c, .int .i64 (feedErr (feedF sumB s L).2)]) ∧ w.grownBy w' (some b) ∧ Cut w' b (feedF sumB s L).2 ∧ Lst w' w.heap.size (.slice a (feedF sumB s L).1.length c) vs (feedF sumB s L).1
theorem one_at (w : World) (u : Value) (T : TypeId) : ∀ j u', [u][j]? = some u' → (w.alloc (.cells #[u] T)).cell? ((⟨w.heap.size, 0, none⟩ : Addr).add j) = some u' := by
  intro j u' hj
  match j, hj with
  | 0, hj => simp at hj; subst hj; simp [Addr.add]
theorem one_slice {a : Option Addr} {n c : Nat} : ∀ u ∈ [Value.slice a n c], u.oneCell' = true := fun u hu => by simp at hu; subst hu; rfl
/-- a row of the call's own has grown: of what was there but block b nothing has turned -/
theorem grown_to {w w1 w2 : World} {b : Nat} {v v' : Value} {o : Obj} (h : w.grownBy w1 (some b)) (hg : Grew (w1.alloc o) w2 v v') (hv : ∀ q, v.ownBlock = some q → w.heap.size ≤ q) : w.grownBy w2 (some b) := by
  refine ⟨hg.g.os.trans h.os, hg.g.tape.trans h.tape, hg.g.output.trans h.output, ?_, fun q hq hne => ?_⟩
  · have := hg.g.size; have := h.size; simp at *; omega
  · have hq1 := h.size
    rw [hg.g.block q (by simp; omega) (fun e => by have := hv q e.symm; omega), Below.heap_alloc w1 _ q (by omega)]
    exact h.block q hq hne
/-- 'add''s answer in one form -/
theorem add_one (w : World) (b : Nat) (H : List UInt8) (x : UInt8) (h : Cut w b (.held H)) (hok : (St.held H).Ok) :
    Calls Tryz.prog 225 #[.pointer (some ⟨b, 0, none⟩), .int .u8 x.toNat] w fun e w' => ∃ a n c ok, e = .returned (.tuple #[.slice a n c, .bool ok]) ∧ Hid (w.grownBy w' (some b)) ∧ Hid (Cut w' b (addP sumB H x).1) ∧ Hid (match (addP sumB H x).2 with
      | some P => ok = true ∧ n = P.length ∧ Bys w' w.heap.size (.slice a n c) P
      | none => ok = false) := by
  refine (add_any w b H x h hok).mono ?_
  rintro e w' ⟨hg, hc, hq⟩
  cases hu : (addP sumB H x).2 with
  | some P =>
    rw [hu] at hq
    obtain ⟨a', c', rfl, hB⟩ := hq
    exact ⟨a', _, c', true, rfl, hg, hc, rfl, rfl, hB⟩
  | none =>
    rw [hu] at hq
    obtain rfl := hq
    exact ⟨none, 0, 0, false, rfl, hg, hc, rfl⟩
def stBad : St → Bool
  | .bad => true
  | .held _ => false
theorem cut_spoiled {w : World} {b : Nat} {s : St} (h : Cut w b s) (hok : s.Ok) : w.cell? ⟨b, 126, none⟩ = some (.bool (stBad s)) := by
  obtain ⟨cur, h1, h2⟩ := h
  rw [cell_row h1, h2]
  cases s with
  | bad => exact cut_flag (by simp)
  | held H =>
    refine cut_flag ?_
    rcases hok with rfl | ⟨h1, h2⟩
    · simp
    · have := okB_iff.1 h1; omega
theorem step_some {sm : List UInt8 → List UInt8} {Ls : List (List UInt8)} {H P : List UInt8} {x : UInt8} (h : (addP sm H x).2 = some P) : stepF sm (Ls, .held H) x = (Ls ++ [P], (addP sm H x).1) := by simp [stepF, h]
theorem step_none {sm : List UInt8 → List UInt8} {Ls : List (List UInt8)} {H : List UInt8} {x : UInt8} (h : (addP sm H x).2 = none) : stepF sm (Ls, .held H) x = (Ls, (addP sm H x).1) := by simp [stepF, h]
set_option maxRecDepth 100000 in
set_option maxHeartbeats 2000000 in
theorem cutFeed_any (w : World) (b : Nat) (s : St) (v : Value) (L : List UInt8) (h : Cut w b s) (hok : s.Ok) (hr : Rd w v L) (hl : L.length ≤ 1000000000) (hvb : ∀ k, v.ownBlock = some k → k ≠ b) :
    Calls Tryz.prog 159 #[.pointer (some ⟨b, 0, none⟩), v] w (FeedPost w b s L) := by
  obtain ⟨la, lc, rfl⟩ := hr.slice
  have HR := hid hr
  have HC := hid h
  have hblt : b < w.heap.size := (Array.getElem?_eq_some_iff.1 h.choose_spec.1).1
  clear h hr
  go_enter Tryz.func159, Tryz.ntmps159
  go_wp2_with fail
  go_loopg [6, 8, 9, 10, 13] L.length (fun gk pv x8 x9 x10 i wr => ∃ k : Nat, k + gk = L.length ∧ i = .int .i64 k ∧ ∃ a c vs, pv = .slice a (feedF sumB s (L.take k)).1.length c ∧ Hid (w.grownBy wr (some b)) ∧ Hid (Cut wr b (feedF sumB s (L.take k)).2) ∧ Hid (Lst wr w.heap.size pv vs (feedF sumB s (L.take k)).1))
  case atStart => exact ⟨0, by omega, rfl, none, 0, [], rfl, hid ⟨rfl, rfl, rfl, Nat.le_refl _, fun _ _ _ => rfl⟩, HC.out, Lst.nil _ _⟩
  case round =>
    obtain ⟨k, hk, rfl, a, c, vs, rfl, HG, HCr, HLs⟩ := hrel
    have hokr : (feedF sumB s (L.take k)).2.Ok := fold_ok _ _ hok
    have hsp := cut_spoiled HCr.out hokr
    have HX := hid (show feedF sumB s L = ((feedF sumB s (L.take k)).1 ++ (feedF sumB (feedF sumB s (L.take k)).2 (L.drop k)).1, (feedF sumB (feedF sumB s (L.take k)).2 (L.drop k)).2) by
      rw [← feed_append, List.take_append_drop])
    have hzr := HG.out.size
    by_cases hlt : k < L.length
    · obtain ⟨lb, o, c', hv, hb, hc⟩ := HR.out.at (by omega)
      obtain ⟨rfl, rfl⟩ : la = some ⟨lb, o, none⟩ ∧ lc = c' := by simpa using hv
      have hck : wr.cell? ⟨lb, o + k, none⟩ = some (.int .u8 (L[k].toNat : Int)) := by
        rw [World.cell?_of_block (w := w) (w' := wr) (a := ⟨lb, o + k, none⟩) (HG.out.block lb hb (fun e => hvb lb rfl (by cases e; rfl)))]
        exact hc k hlt
      have HS := hid (show feedF sumB s (L.take (k + 1)) = stepF sumB ((feedF sumB s (L.take k)).1, (feedF sumB s (L.take k)).2) L[k] by
        rw [List.take_succ_eq_append_getElem hlt, feed_snoc])
      have hn6 : (feedF sumB s (L.take k)).1.length ≤ k := by have := feed_count (sm := sumB) s (L.take k); rw [List.length_take] at this; omega
      generalize (feedF sumB s (L.take k)).1 = Ls at *
      generalize (feedF sumB s (L.take k)).2 = t at *
      generalize L[k] = x at *
      clear hc hv
      cases t with
      | bad =>
        have hsp' : wr.cell? ⟨b, 126, none⟩ = some (.bool true) := hsp
        have HX2 := hid (show feedF sumB s L = (Ls, .bad) by rw [HX.out, feed_bad]; simp)
        clear hsp HX
        go_wp2_with fail
        go_ret2
        refine ⟨a, c, vs, ?_, HG.out, ?_, ?_⟩
        · rw [HX2.out]; rfl
        · rw [HX2.out]; exact HCr.out
        · rw [HX2.out]; exact HLs.out
      | held H =>
        have hsp' : wr.cell? ⟨b, 126, none⟩ = some (.bool false) := hsp
        have HOK := hid hokr
        clear hsp HX hokr
        go_wp2_with fail
        refine (add_one _ _ H x HCr.out HOK.out).mono ?_; rintro e w1 ⟨a1, n1, c1, ok1, rfl, HG1, HC1, HA1⟩
        have HG01 := hid (grown_trans HG.out HG1.out)
        have hz1 := HG1.out.size
        cases hu : (addP sumB H x).2 with
        | none =>
          have hA := HA1.out
          rw [hu] at hA
          obtain rfl := hA
          have HS2 := hid (HS.out.trans (step_none hu))
          have HLs1 := hid (HLs.out.same (w' := w1) (fun q hq1 hq2 => HG1.out.block q hq2 (fun e => by cases e; omega)))
          clear hu HA1
          go_wp2_with fail
          go_roundg (gk - 1)
          case rel =>
            refine ⟨k + 1, by omega, by go_num, a, c, vs, ?_, HG01, ?_, ?_⟩
            · rw [HS2.out]
            · rw [HS2.out]; exact HC1
            · rw [HS2.out]; exact HLs1
          case measure => omega
        | some P =>
          have hA := HA1.out
          rw [hu] at hA
          obtain ⟨rfl, rfl, hB1⟩ := hA
          have HB1 := hid hB1
          have HS2 := hid (HS.out.trans (step_some (Ls := Ls) hu))
          have HLs1 := hid (HLs.out.same (w' := w1) (fun q hq1 hq2 => HG1.out.block q hq2 (fun e => by cases e; omega)))
          clear hu HA1 hB1
          go_wp2_with (at_builtin; refine wpList_append_gen _ rfl (.tmp 28) (.tmp 30) 137 51 _ 1 24 rfl Tryz.underlying137 Tryz.infoBytes rfl (by decide) _ Ls.length vs w.heap.size rfl (HLs1.out.own.alloc _) _ 1 1 [.slice a1 P.length c1] rfl rfl (one_at _ _ _) one_slice (Ls.length + 1) rfl _ rfl (by unfold maxLen; omega) (by omega) (by simp; omega) ?_)
          intro a2 c2 w2 ho2 hg2
          have HL2 := hid (HLs.out.push (HB1.out.alloc _) (fun q hq1 hq2 => (Below.heap_alloc w1 _ q (by omega)).trans (HG1.out.block q hq2 (fun e => by cases e; omega))) hzr ho2 hg2)
          have hbv : ∀ q, (Value.slice a Ls.length c).ownBlock = some q → q ≠ b := fun q hq => by have := (HLs.out.own.lt q hq).1; omega
          have HGr2 := hid (grown_to HG01.out hg2 (fun q hq => (HLs.out.own.lt q hq).1))
          have HC2 := hid (show Cut w2 b (addP sumB H x).1 from by
            obtain ⟨cur, e1, e2⟩ := HC1.out
            exact ⟨cur, (hg2.g.block b (by simp; omega) (fun e => hbv b e.symm rfl)).trans ((Below.heap_alloc w1 _ b (by omega)).trans e1), e2⟩)
          clear ho2 hg2
          go_wp2_with fail
          go_roundg (gk - 1)
          case rel =>
            refine ⟨k + 1, by omega, by go_num, a2, c2, vs ++ [.slice a1 P.length c1], ?_, HGr2, ?_, ?_⟩
            · rw [HS2.out]; simp
            · rw [HS2.out]; exact HC2
            · rw [HS2.out]; exact HL2
          case measure => omega
    · obtain rfl : k = L.length := by omega
      rw [List.take_length] at *
      generalize hF : feedF sumB s L = X at *
      obtain ⟨Ls, t⟩ := X
      have HF := hid hF
      clear hF HX
      cases t with
      | bad =>
        have hsp' : wr.cell? ⟨b, 126, none⟩ = some (.bool true) := hsp
        clear hsp
        go_wp2_with fail
        go_ret2
        refine ⟨a, c, vs, ?_, HG.out, ?_, ?_⟩
        · rw [HF.out]; rfl
        · rw [HF.out]; exact HCr.out
        · rw [HF.out]; exact HLs.out
      | held H =>
        have hsp' : wr.cell? ⟨b, 126, none⟩ = some (.bool false) := hsp
        clear hsp
        go_wp2_with fail
        go_ret2
        refine ⟨a, c, vs, ?_, HG.out, ?_, ?_⟩
        · rw [HF.out]; rfl
        · rw [HF.out]; exact HCr.out
        · rw [HF.out]; exact HLs.out
end Go.Proofs.YtlgjlfobbpgklaaGreatDoor
