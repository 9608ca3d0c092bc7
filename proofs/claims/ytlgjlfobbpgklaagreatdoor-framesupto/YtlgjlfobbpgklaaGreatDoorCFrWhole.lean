/- The deframer that looks at all bytes each time, on plain lists: it comes to the same. -/
import Derived.Test.YtlgjlfobbpgklaaGreatDoorCFrSpec
namespace Go.Proofs.YtlgjlfobbpgklaaGreatDoor

/-- the payloads of the frames that are whole; whether what is behind them can be the beginning of one -/
def wholeN (sm : List UInt8 → List UInt8) : Nat → List UInt8 → List (List UInt8) × Bool
  | 0, _ => ([], true)
  | _ + 1, [] => ([], true)
  | f + 1, c :: r =>
    if okB c.toNat = true then
      if (c :: r).length < c.toNat + 5 then ([], true)
      else if frameP sm (r.take c.toNat) = (c :: r).take (c.toNat + 5) then (r.take c.toNat :: (wholeN sm f ((c :: r).drop (c.toNat + 5))).1, (wholeN sm f ((c :: r).drop (c.toNat + 5))).2)
      else ([], false)
    else ([], false)
def wholeP (sm : List UInt8 → List UInt8) (L : List UInt8) : List (List UInt8) × Bool := wholeN sm L.length L
def stBadB : St → Bool
  | .bad => true
  | .held _ => false
section
variable {sm : List UInt8 → List UInt8}
theorem feed_held (c : UInt8) (r : List UInt8) (h : okB c.toNat = true) : ∀ k, k ≤ (c :: r).length → k < 5 + c.toNat → feedF sm (.held []) ((c :: r).take k) = ([], .held ((c :: r).take k))
  | 0, _, _ => rfl
  | k + 1, hk, hl => by
    have ih := feed_held c r h k (by omega) (by omega)
    have hlt : k < (c :: r).length := by omega
    have e : (c :: r).take (k + 1) = (c :: r).take k ++ [(c :: r)[k]] := List.take_succ_eq_append_getElem hlt
    rw [e, feed_snoc, ih]
    have hd : ((c :: r).take k ++ [(c :: r)[k]]).headD 0 = c := by rw [← e]; rfl
    have hlen : ((c :: r).take k ++ [(c :: r)[k]]).length = k + 1 := by rw [← e, List.length_take]; omega
    simp only [stepF, addP]
    rw [hd, if_pos h, hlen, if_pos (by omega)]
    rfl
theorem feed_one (c : UInt8) (r : List UInt8) (h : okB c.toNat = true) (hl : c.toNat + 5 ≤ (c :: r).length) :
    feedF sm (.held []) ((c :: r).take (c.toNat + 5)) = if frameP sm (r.take c.toNat) = (c :: r).take (c.toNat + 5) then ([r.take c.toNat], .held []) else ([], .bad) := by
  have ih := feed_held (sm := sm) c r h (c.toNat + 4) (by omega) (by omega)
  have hlt : c.toNat + 4 < (c :: r).length := by omega
  have e : (c :: r).take (c.toNat + 5) = (c :: r).take (c.toNat + 4) ++ [(c :: r)[c.toNat + 4]] := List.take_succ_eq_append_getElem hlt
  have hd : ((c :: r).take (c.toNat + 5)).headD 0 = c := rfl
  have hlen : ((c :: r).take (c.toNat + 5)).length = c.toNat + 5 := by rw [List.length_take]; omega
  have hpay : (((c :: r).take (c.toNat + 5)).drop 1).take (c.toNat + 5 - 5) = r.take c.toNat := by
    rw [show c.toNat + 5 = (c.toNat + 4) + 1 by omega, List.take_succ_cons, List.drop_succ_cons, List.drop_zero, List.take_take]
    congr 1; omega
  have key : feedF sm (.held []) ((c :: r).take (c.toNat + 4) ++ [(c :: r)[c.toNat + 4]]) = if frameP sm (r.take c.toNat) = (c :: r).take (c.toNat + 5) then ([r.take c.toNat], .held []) else ([], .bad) := by
    rw [feed_snoc, ih]
    simp only [stepF, addP]
    rw [← e, hd, if_pos h, hlen, if_neg (by omega)]
    unfold unwrapP
    rw [hlen, hpay]
    by_cases hf : frameP sm (r.take c.toNat) = (c :: r).take (c.toNat + 5)
    · rw [if_pos ⟨by omega, by rw [show c.toNat + 5 - 5 = c.toNat by omega]; exact h, hf⟩, if_pos hf]; rfl
    · rw [if_neg (fun hh => hf hh.2.2), if_neg hf]; rfl
  rw [← e] at key
  exact key
theorem whole_feed : ∀ (f : Nat) (L : List UInt8), L.length ≤ f → wholeN sm f L = ((feedF sm (.held []) L).1, !stBadB (feedF sm (.held []) L).2)
  | 0, L, h => by
    have : L = [] := List.eq_nil_of_length_eq_zero (by omega)
    subst this; rfl
  | f + 1, [], _ => rfl
  | f + 1, c :: r, h => by
    unfold wholeN
    by_cases hok : okB c.toNat = true
    · rw [if_pos hok]
      by_cases hs : (c :: r).length < c.toNat + 5
      · rw [if_pos hs]
        have := feed_held (sm := sm) c r hok (c :: r).length (Nat.le_refl _) (by omega)
        rw [List.take_length] at this
        rw [this]; rfl
      · rw [if_neg hs]
        have h1 := feed_one (sm := sm) c r hok (by omega)
        have e : feedF sm (.held []) (c :: r) = feedF sm (.held []) ((c :: r).take (c.toNat + 5) ++ (c :: r).drop (c.toNat + 5)) := by rw [List.take_append_drop]
        rw [e, feed_append, h1]
        by_cases hf : frameP sm (r.take c.toNat) = (c :: r).take (c.toNat + 5)
        · rw [if_pos hf, if_pos hf]
          have ih := whole_feed f ((c :: r).drop (c.toNat + 5)) (by rw [List.length_drop]; simp at h ⊢; omega)
          rw [ih]
          simp
        · rw [if_neg hf, if_neg hf, feed_bad]
          rfl
    · rw [if_neg hok]
      have h1 : feedF sm (.held []) (c :: r) = ([], .bad) := by
        show r.foldl (stepF sm) (stepF sm ([], .held []) c) = _
        have : stepF sm ([], .held []) c = ([], .bad) := by
          have ha : addP sm [] c = (.bad, none) := by
            unfold addP
            exact if_neg hok
          simp only [stepF, ha]
          rfl
        rw [this]
        exact feed_bad r
      rw [h1]; rfl
theorem wholeP_feed (L : List UInt8) : wholeP sm L = ((feedF sm (.held []) L).1, !stBadB (feedF sm (.held []) L).2) := whole_feed _ L (Nat.le_refl _)
theorem wholeN_any (f : Nat) (L : List UInt8) (h : L.length ≤ f) : wholeN sm f L = wholeP sm L := by rw [whole_feed f L h, wholeP_feed]
theorem wholeP_nil : wholeP sm [] = ([], true) := rfl
theorem wholeP_bad {c : UInt8} {r : List UInt8} (h : ¬ okB c.toNat = true) : wholeP sm (c :: r) = ([], false) := by
  show wholeN sm (r.length + 1) (c :: r) = _
  unfold wholeN; rw [if_neg h]
theorem wholeP_short {c : UInt8} {r : List UInt8} (h : okB c.toNat = true) (hl : (c :: r).length < c.toNat + 5) : wholeP sm (c :: r) = ([], true) := by
  show wholeN sm (r.length + 1) (c :: r) = _
  unfold wholeN; rw [if_pos h, if_pos hl]
theorem wholeP_no {c : UInt8} {r : List UInt8} (h : okB c.toNat = true) (hl : ¬ (c :: r).length < c.toNat + 5) (hf : ¬ frameP sm (r.take c.toNat) = (c :: r).take (c.toNat + 5)) : wholeP sm (c :: r) = ([], false) := by
  show wholeN sm (r.length + 1) (c :: r) = _
  unfold wholeN; rw [if_pos h, if_neg hl, if_neg hf]
theorem wholeP_yes {c : UInt8} {r : List UInt8} (h : okB c.toNat = true) (hl : ¬ (c :: r).length < c.toNat + 5) (hf : frameP sm (r.take c.toNat) = (c :: r).take (c.toNat + 5)) : wholeP sm (c :: r) = (r.take c.toNat :: (wholeP sm ((c :: r).drop (c.toNat + 5))).1, (wholeP sm ((c :: r).drop (c.toNat + 5))).2) := by
  have e : wholeP sm (c :: r) = (r.take c.toNat :: (wholeN sm r.length ((c :: r).drop (c.toNat + 5))).1, (wholeN sm r.length ((c :: r).drop (c.toNat + 5))).2) := by
    show wholeN sm (r.length + 1) (c :: r) = _
    conv => lhs; unfold wholeN
    rw [if_pos h, if_neg hl, if_pos hf]
  rw [e, wholeN_any _ _ (by rw [List.length_drop, List.length_cons]; omega)]
end
end Go.Proofs.YtlgjlfobbpgklaaGreatDoor
