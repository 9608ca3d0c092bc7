/- Frames and deframers, on plain lists of bytes: what a deframer answers to bytes that come in pieces. Nothing of the program; the sum is whichever four bytes. -/
import Derived.Below
namespace Go.Proofs.YtlgjlfobbpgklaaGreatDoor

/-- the frame of a payload, by a sum 'sm' -/
def frameP (sm : List UInt8 → List UInt8) (P : List UInt8) : List UInt8 := (P.length.toUInt8 :: P) ++ sm (P.length.toUInt8 :: P)
def okB (n : Nat) : Bool := decide (1 ≤ n) && decide (n ≤ 120)
theorem okB_iff {n : Nat} : okB n = true ↔ 1 ≤ n ∧ n ≤ 120 := by simp [okB]
/-- the payload of bytes that are one frame -/
def unwrapP (sm : List UInt8 → List UInt8) (F : List UInt8) : Option (List UInt8) :=
  if 5 ≤ F.length ∧ okB (F.length - 5) = true ∧ frameP sm ((F.drop 1).take (F.length - 5)) = F then some ((F.drop 1).take (F.length - 5)) else none
/-- a deframer: spoilt, or the beginning of a frame is held -/
inductive St where
  | bad
  | held (H : List UInt8)
/-- what it holds is short of a frame -/
def St.Ok : St → Prop
  | .bad => True
  | .held H => H = [] ∨ (okB (H.headD 0).toNat = true ∧ H.length < 5 + (H.headD 0).toNat)
/-- one byte more -/
def addP (sm : List UInt8 → List UInt8) (H : List UInt8) (b : UInt8) : St × Option (List UInt8) :=
  if okB ((H ++ [b]).headD 0).toNat = true then
    if (H ++ [b]).length < 5 + ((H ++ [b]).headD 0).toNat then (.held (H ++ [b]), none)
    else match unwrapP sm (H ++ [b]) with
      | some P => (.held [], some P)
      | none => (.bad, none)
  else (.bad, none)
def stepF (sm : List UInt8 → List UInt8) (x : List (List UInt8) × St) (b : UInt8) : List (List UInt8) × St :=
  match x.2 with
  | .bad => x
  | .held H => (x.1 ++ (addP sm H b).2.toList, (addP sm H b).1)
/-- bytes one behind the other -/
def feedF (sm : List UInt8 → List UInt8) (s : St) (L : List UInt8) : List (List UInt8) × St := L.foldl (stepF sm) ([], s)

section
variable {sm : List UInt8 → List UInt8}
theorem addP_ok (H : List UInt8) (b : UInt8) : (addP sm H b).1.Ok := by
  unfold addP
  split
  · rename_i h1
    split
    · rename_i h2
      exact Or.inr ⟨h1, h2⟩
    · split
      · exact Or.inl rfl
      · trivial
  · trivial
theorem stepF_ok {x : List (List UInt8) × St} (h : x.2.Ok) (b : UInt8) : (stepF sm x b).2.Ok := by
  obtain ⟨l, s⟩ := x
  cases s with
  | bad => exact h
  | held H => exact addP_ok H b
theorem fold_ok : ∀ (L : List UInt8) (x : List (List UInt8) × St), x.2.Ok → (L.foldl (stepF sm) x).2.Ok
  | [], _, h => h
  | b :: r, _, h => fold_ok r _ (stepF_ok h b)
theorem step_acc (a : List (List UInt8)) (s : St) (b : UInt8) : stepF sm (a, s) b = (a ++ (stepF sm ([], s) b).1, (stepF sm ([], s) b).2) := by
  cases s <;> simp [stepF]
theorem fold_acc : ∀ (L : List UInt8) (a : List (List UInt8)) (s : St), L.foldl (stepF sm) (a, s) = (a ++ (feedF sm s L).1, (feedF sm s L).2)
  | [], a, s => by simp [feedF]
  | b :: r, a, s => by
    have h1 := step_acc (sm := sm) a s b
    have h2 := fold_acc r (a ++ (stepF sm ([], s) b).1) (stepF sm ([], s) b).2
    have h3 := fold_acc r (stepF sm ([], s) b).1 (stepF sm ([], s) b).2
    show r.foldl (stepF sm) (stepF sm (a, s) b) = _
    have h4 : feedF sm s (b :: r) = r.foldl (stepF sm) (stepF sm ([], s) b) := rfl
    rw [h4, h1, h2]
    rw [show stepF sm ([], s) b = ((stepF sm ([], s) b).1, (stepF sm ([], s) b).2) from rfl, h3]
    simp
theorem fold_count : ∀ (L : List UInt8) (x : List (List UInt8) × St), (L.foldl (stepF sm) x).1.length ≤ x.1.length + L.length
  | [], x => Nat.le_refl _
  | b :: r, x => by
    have h := fold_count r (stepF sm x b)
    have h1 : (stepF sm x b).1.length ≤ x.1.length + 1 := by
      obtain ⟨l, s⟩ := x
      cases s with
      | bad => simp [stepF]
      | held H => cases hq : (addP sm H b).2 <;> simp [stepF, hq]
    simp only [List.foldl_cons, List.length_cons]
    omega
theorem feed_count (s : St) (L : List UInt8) : (feedF sm s L).1.length ≤ L.length := by
  have := fold_count (sm := sm) L ([], s)
  simpa [feedF] using this
theorem feed_append (s : St) (L M : List UInt8) : feedF sm s (L ++ M) = ((feedF sm s L).1 ++ (feedF sm (feedF sm s L).2 M).1, (feedF sm (feedF sm s L).2 M).2) := by
  unfold feedF
  rw [List.foldl_append]
  exact fold_acc M _ _
theorem feed_bad : ∀ (L : List UInt8), feedF sm .bad L = ([], .bad)
  | [] => rfl
  | _ :: r => feed_bad r
theorem feed_nil (s : St) : feedF sm s [] = ([], s) := rfl
theorem feed_snoc (s : St) (L : List UInt8) (b : UInt8) : feedF sm s (L ++ [b]) = stepF sm (feedF sm s L) b := by
  unfold feedF; rw [List.foldl_append]; rfl

variable (hsm : ∀ L, (sm L).length = 4)
include hsm
theorem frameP_len (P : List UInt8) : (frameP sm P).length = P.length + 5 := by simp [frameP, hsm]
omit hsm in
theorem frameP_head (P : List UInt8) : (frameP sm P).headD 0 = P.length.toUInt8 := by simp [frameP]
omit hsm in
theorem toU8_ok {n : Nat} (h : n ≤ 120) : n.toUInt8.toNat = n := by simp [Nat.toUInt8, UInt8.toNat_ofNat']; omega
theorem unwrap_frame (P : List UInt8) (h : okB P.length = true) : unwrapP sm (frameP sm P) = some P := by
  have hl := frameP_len hsm P
  have he : ((frameP sm P).drop 1).take ((frameP sm P).length - 5) = P := by
    rw [hl]; simp [frameP]
  unfold unwrapP
  rw [he, if_pos ⟨by omega, by rw [hl]; simpa using h, rfl⟩]
theorem feed_prefix (P : List UInt8) (h : okB P.length = true) : ∀ k, k < P.length + 5 → feedF sm (.held []) ((frameP sm P).take k) = ([], .held ((frameP sm P).take k))
  | 0, _ => rfl
  | k + 1, hk => by
    have hl := frameP_len hsm P
    have hh := frameP_head (sm := sm) P
    have ih := feed_prefix P h k (by omega)
    have hok := okB_iff.1 h
    have hlt : k < (frameP sm P).length := by omega
    have e : (frameP sm P).take (k + 1) = (frameP sm P).take k ++ [(frameP sm P)[k]] := List.take_succ_eq_append_getElem hlt
    rw [e, feed_snoc, ih]
    have hd : (((frameP sm P).take k ++ [(frameP sm P)[k]]).headD 0).toNat = P.length := by
      rw [← e]
      have : ((frameP sm P).take (k + 1)).headD 0 = (frameP sm P).headD 0 := by
        cases hF : frameP sm P with
        | nil => rw [hF] at hl; simp at hl
        | cons c r => rfl
      rw [this, hh]; exact toU8_ok hok.2
    have hlen : ((frameP sm P).take k ++ [(frameP sm P)[k]]).length = k + 1 := by rw [← e, List.length_take]; omega
    simp only [stepF, addP]
    rw [hd, if_pos h, hlen, if_pos (by omega)]
    rfl
theorem feed_frame (P : List UInt8) (h : okB P.length = true) : feedF sm (.held []) (frameP sm P) = ([P], .held []) := by
  have hl := frameP_len hsm P
  have hh := frameP_head (sm := sm) P
  have hok := okB_iff.1 h
  have ih := feed_prefix hsm P h (P.length + 4) (by omega)
  have hlt : P.length + 4 < (frameP sm P).length := by omega
  have e : frameP sm P = (frameP sm P).take (P.length + 4) ++ [(frameP sm P)[P.length + 4]] := by
    rw [← List.take_succ_eq_append_getElem hlt, List.take_of_length_le (by omega)]
  have key : feedF sm (.held []) ((frameP sm P).take (P.length + 4) ++ [(frameP sm P)[P.length + 4]]) = ([P], .held []) := by
    rw [feed_snoc, ih]
    simp only [stepF, addP]
    rw [← e, hh, toU8_ok hok.2, if_pos h, hl, if_neg (by omega), unwrap_frame hsm P h]
    rfl
  rw [← e] at key
  exact key
/-- frames one behind the other -/
def framesP (sm : List UInt8 → List UInt8) (Ps : List (List UInt8)) : List UInt8 := (Ps.map (frameP sm)).flatten
def offP (Ps : List (List UInt8)) : Nat := (Ps.map (fun P => P.length + 5)).sum
omit hsm in
theorem framesP_cons (P : List UInt8) (Ps : List (List UInt8)) : framesP sm (P :: Ps) = frameP sm P ++ framesP sm Ps := by simp [framesP]
omit hsm in
theorem framesP_append (Ps Qs : List (List UInt8)) : framesP sm (Ps ++ Qs) = framesP sm Ps ++ framesP sm Qs := by simp [framesP]
omit hsm in
theorem offP_append (Ps Qs : List (List UInt8)) : offP (Ps ++ Qs) = offP Ps + offP Qs := by simp [offP]
omit hsm in
theorem offP_cons (P : List UInt8) (Ps : List (List UInt8)) : offP (P :: Ps) = P.length + 5 + offP Ps := by simp [offP]
theorem framesP_len (Ps : List (List UInt8)) : (framesP sm Ps).length = offP Ps := by
  induction Ps with
  | nil => rfl
  | cons P r ih => rw [framesP_cons, List.length_append, frameP_len hsm, ih, offP_cons]
theorem feed_frames (Ps : List (List UInt8)) (h : ∀ P ∈ Ps, okB P.length = true) : feedF sm (.held []) (framesP sm Ps) = (Ps, .held []) := by
  induction Ps with
  | nil => rfl
  | cons P r ih =>
    rw [framesP_cons, feed_append, feed_frame hsm P (h P (by simp)), ih (fun Q hQ => h Q (by simp [hQ]))]
    simp
/-- any beginning of frames: those that are whole have come, the rest is held -/
theorem feed_take : ∀ (Ps : List (List UInt8)), (∀ P ∈ Ps, okB P.length = true) → ∀ k, k ≤ (framesP sm Ps).length → ∃ m H, m ≤ Ps.length ∧ feedF sm (.held []) ((framesP sm Ps).take k) = (Ps.take m, .held H) ∧ offP (Ps.take m) ≤ k ∧ (m < Ps.length → k < offP (Ps.take (m + 1)))
  | [], _, k, hk => ⟨0, [], Nat.le_refl _, by simp [framesP, feedF], by simp [offP], fun h => absurd h (by simp)⟩
  | P :: r, h, k, hk => by
    have hl := frameP_len hsm P
    rw [framesP_cons] at hk ⊢
    by_cases hlt : k < P.length + 5
    · refine ⟨0, (frameP sm P).take k, Nat.zero_le _, ?_, by simp [offP], fun _ => by simp [offP]; omega⟩
      rw [List.take_append_of_le_length (by omega), feed_prefix hsm P (h P (by simp)) k hlt]
      simp
    · obtain ⟨m, H, h1, h2, h3, h4⟩ := feed_take r (fun Q hQ => h Q (by simp [hQ])) (k - (P.length + 5)) (by rw [List.length_append] at hk; omega)
      refine ⟨m + 1, H, by simp; omega, ?_, ?_, fun hm => ?_⟩
      · rw [List.take_append, List.take_of_length_le (by omega), feed_append, feed_frame hsm P (h P (by simp)), hl, h2]
        simp
      · rw [List.take_succ_cons, offP_cons]; omega
      · have := h4 (by simp at hm; omega)
        rw [List.take_succ_cons, offP_cons]; omega
/-- from one beginning to a longer one -/
theorem feed_more (Ps : List (List UInt8)) (hok : ∀ P ∈ Ps, okB P.length = true) (F : List UInt8) (hF : framesP sm Ps = F) (kk n g : Nat) (H : List UInt8) (h : feedF sm (.held []) (F.take kk) = (Ps.take g, .held H)) (hg : g ≤ Ps.length) (hk : kk + n ≤ F.length) :
    ∃ g' H' Ls, feedF sm (.held H) ((F.drop kk).take n) = (Ls, .held H') ∧ feedF sm (.held []) (F.take (kk + n)) = (Ps.take g', .held H') ∧ g' ≤ Ps.length ∧ g + Ls.length = g' ∧ (∀ j, j < Ls.length → Ls[j]? = Ps[g + j]?) ∧ (g' < Ps.length → kk + n < offP (Ps.take (g' + 1))) := by
  subst hF
  obtain ⟨g', H', h1, h2, h3, h4⟩ := feed_take hsm Ps hok (kk + n) hk
  have e : (framesP sm Ps).take (kk + n) = (framesP sm Ps).take kk ++ ((framesP sm Ps).drop kk).take n := List.take_add
  have h5 := feed_append (sm := sm) (.held []) ((framesP sm Ps).take kk) (((framesP sm Ps).drop kk).take n)
  rw [← e, h2, h] at h5
  simp only [Prod.mk.injEq] at h5
  obtain ⟨h6, h7⟩ := h5
  have hl := congrArg List.length h6
  rw [List.length_append, List.length_take, List.length_take] at hl
  refine ⟨g', H', (feedF sm (.held H) (((framesP sm Ps).drop kk).take n)).1, Prod.ext rfl h7.symm, h2, h1, by omega, fun j hj => ?_, h4⟩
  have h8 : (Ps.take g')[g + j]? = (Ps.take g ++ (feedF sm (.held H) (((framesP sm Ps).drop kk).take n)).1)[g + j]? := by rw [← h6]
  rw [List.getElem?_append_right (by rw [List.length_take]; omega), List.getElem?_take_of_lt (by omega)] at h8
  rw [h8, List.length_take]
  congr 1
  omega
omit hsm in
/-- noughts: a frame that is longer than any, and then a length that is none -/
theorem feed_zeros : ∀ (j : Nat) (H : List UInt8), (St.held H).Ok → (H = [] → 1 ≤ j) → (H ≠ [] → 5 + (H.headD 0).toNat - H.length + 1 ≤ j) → (feedF sm (.held H) (List.replicate j 0)).2 = .bad
  | 0, H, hok, h0, h1 => by
    by_cases e : H = []
    · have := h0 e; omega
    · have := h1 e; omega
  | j + 1, H, hok, h0, h1 => by
    have e : List.replicate (j + 1) (0 : UInt8) = [0] ++ List.replicate j 0 := rfl
    rw [e, feed_append]
    show (feedF sm (feedF sm (.held H) [0]).2 (List.replicate j 0)).2 = .bad
    have e2 : (feedF sm (.held H) [0]).2 = (addP sm H 0).1 := rfl
    rw [e2]
    by_cases hH : H = []
    · subst hH
      have : addP sm [] 0 = (.bad, none) := by unfold addP; rw [if_neg (by decide)]
      rw [this, feed_bad]
    · have h1' := h1 hH
      rcases hok with hk | ⟨hk, hlen⟩
      · exact absurd hk hH
      have hd : (H ++ [0]).headD 0 = H.headD 0 := by cases H with
        | nil => exact absurd rfl hH
        | cons c r => rfl
      unfold addP
      rw [hd, if_pos hk, List.length_append, List.length_singleton]
      by_cases hlt : H.length + 1 < 5 + (H.headD 0).toNat
      · rw [if_pos hlt]
        refine feed_zeros j (H ++ [0]) (Or.inr ⟨by rw [hd]; exact hk, by rw [hd, List.length_append]; exact hlt⟩) (fun h => by simp at h) (fun _ => ?_)
        rw [hd, List.length_append, List.length_singleton]; omega
      · rw [if_neg hlt]
        split
        · exact feed_zeros j [] (Or.inl rfl) (fun _ => by omega) (fun h => absurd rfl h)
        · rw [feed_bad]
omit hsm in
theorem feed_ends (s : St) (hs : s.Ok) (X : List UInt8) : (feedF sm s (X ++ List.replicate 125 0)).2 = .bad := by
  rw [feed_append]
  dsimp only
  have hok : (feedF sm s X).2.Ok := fold_ok X _ hs
  generalize (feedF sm s X).2 = t at hok
  cases t with
  | bad => rw [feed_bad]
  | held H =>
    refine feed_zeros 125 H hok (fun _ => by omega) (fun hH => ?_)
    rcases hok with h | ⟨h1, h2⟩
    · exact absurd h hH
    · have := okB_iff.1 h1
      have : 1 ≤ H.length := by cases H with
        | nil => exact absurd rfl hH
        | cons c r => simp
      omega
/-- with one byte turned: those ahead of it come, and then the bytes are spoilt -/
theorem feed_spoilt (Ps : List (List UInt8)) (h : ∀ P ∈ Ps, okB P.length = true) (m : Nat) (i : Nat) (c : UInt8) (hm : offP (Ps.take m) ≤ i) :
    ∃ l, feedF sm (.held []) ((framesP sm Ps).set i c ++ List.replicate 125 0) = (Ps.take m ++ l, .bad) := by
  have hl : (framesP sm (Ps.take m)).length = offP (Ps.take m) := framesP_len hsm _
  have e : (framesP sm Ps).set i c = framesP sm (Ps.take m) ++ (framesP sm (Ps.drop m)).set (i - offP (Ps.take m)) c := by
    conv => lhs; rw [← List.take_append_drop m Ps, framesP_append]
    rw [List.set_append_right _ _ (by omega), hl]
  rw [e, List.append_assoc, feed_append, feed_frames hsm (Ps.take m) (fun P hP => h P (List.mem_of_mem_take hP))]
  refine ⟨_, Prod.ext rfl ?_⟩
  exact feed_ends (.held []) (Or.inl rfl) _
end
end Go.Proofs.YtlgjlfobbpgklaaGreatDoor
