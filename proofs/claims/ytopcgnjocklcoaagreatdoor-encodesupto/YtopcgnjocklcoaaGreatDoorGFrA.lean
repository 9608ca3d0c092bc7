/- Frames and deframers, on plain lists of bytes: what a deframer answers to bytes that come in pieces. Nothing of the program; the sum is whichever four bytes. -/
import Derived.Below
import Derived.Test.YtopcgnjocklcoaaGreatDoorCMemBase
import Derived.Laws.BytesArg
import Derived.Deep.CutRange
namespace Go.Proofs.YtopcgnjocklcoaaGreatDoor

/-- the frame of a payload, by a sum 'sm' -/
def frameP (sm : List UInt8 → List UInt8) (P : List UInt8) : List UInt8 := (P.length.toUInt8 :: P) ++ sm (P.length.toUInt8 :: P)
def okB (n : Nat) : Bool := decide (1 ≤ n) && decide (n ≤ 120)
theorem okB_iff {n : Nat} : okB n = true ↔ 1 ≤ n ∧ n ≤ 120 := by simp [okB]
/-- the payload of bytes that are one frame -/
def unwrapP (sm : List UInt8 → List UInt8) (F : List UInt8) : Option (List UInt8) :=
  if 5 ≤ F.length ∧ okB (F.length - 5) = true ∧ frameP sm ((F.drop 1).take (F.length - 5)) = F then some ((F.drop 1).take (F.length - 5)) else none
/-- a deframer: spoilt, or the beginning of a frame is held -/
abbrev St := Option (List UInt8)
/-- what it holds is short of a frame -/
def St.Ok : St → Prop
  | none => True
  | some H => H = [] ∨ (okB (H.headD 0).toNat = true ∧ H.length < 5 + (H.headD 0).toNat)
/-- one byte more -/
def addP (sm : List UInt8 → List UInt8) (H : List UInt8) (b : UInt8) : St × Option (List UInt8) :=
  if okB ((H ++ [b]).headD 0).toNat = true then
    if (H ++ [b]).length < 5 + ((H ++ [b]).headD 0).toNat then (some (H ++ [b]), none)
    else match unwrapP sm (H ++ [b]) with
      | some P => (some [], some P)
      | none => (none, none)
  else (none, none)
def stepF (sm : List UInt8 → List UInt8) (x : List (List UInt8) × St) (b : UInt8) : List (List UInt8) × St :=
  match x.2 with
  | none => x
  | some H => (x.1 ++ (addP sm H b).2.toList, (addP sm H b).1)
/-- bytes one behind the other -/
def feedF (sm : List UInt8 → List UInt8) (s : St) (L : List UInt8) : List (List UInt8) × St := L.foldl (stepF sm) ([], s)

section
variable {sm : List UInt8 → List UInt8}
theorem addP_ok (H : List UInt8) (b : UInt8) : (addP sm H b).1.Ok := by
  unfold addP
  split
  · rename_i h1
    split
    · rename_i h2
      exact Or.inr ⟨h1, h2⟩
    · split
      · exact Or.inl rfl
      · trivial
  · trivial
theorem stepF_ok {x : List (List UInt8) × St} (h : x.2.Ok) (b : UInt8) : (stepF sm x b).2.Ok := by
  obtain ⟨l, s⟩ := x
  cases s with
  | none => exact h
  | some H => exact addP_ok H b
theorem fold_ok : ∀ (L : List UInt8) (x : List (List UInt8) × St), x.2.Ok → (L.foldl (stepF sm) x).2.Ok
  | [], _, h => h
  | b :: r, _, h => fold_ok r _ (stepF_ok h b)
theorem step_acc (a : List (List UInt8)) (s : St) (b : UInt8) : stepF sm (a, s) b = (a ++ (stepF sm ([], s) b).1, (stepF sm ([], s) b).2) := by
  cases s <;> simp [stepF]
theorem fold_acc : ∀ (L : List UInt8) (a : List (List UInt8)) (s : St), L.foldl (stepF sm) (a, s) = (a ++ (feedF sm s L).1, (feedF sm s L).2)
  | [], a, s => by simp [feedF]
  | b :: r, a, s => by
    have h1 := step_acc (sm := sm) a s b
    have h2 := fold_acc r (a ++ (stepF sm ([], s) b).1) (stepF sm ([], s) b).2
    have h3 := fold_acc r (stepF sm ([], s) b).1 (stepF sm ([], s) b).2
    show r.foldl (stepF sm) (stepF sm (a, s) b) = _
    have h4 : feedF sm s (b :: r) = r.foldl (stepF sm) (stepF sm ([], s) b) := rfl
    rw [h4, h1, h2]
    rw [show stepF sm ([], s) b = ((stepF sm ([], s) b).1, (stepF sm ([], s) b).2) from rfl, h3]
    simp
theorem fold_count : ∀ (L : List UInt8) (x : List (List UInt8) × St), (L.foldl (stepF sm) x).1.length ≤ x.1.length + L.length
  | [], x => Nat.le_refl _
  | b :: r, x => by
    have h := fold_count r (stepF sm x b)
    have h1 : (stepF sm x b).1.length ≤ x.1.length + 1 := by
      obtain ⟨l, s⟩ := x
      cases s with
      | none => simp [stepF]
      | some H => cases hq : (addP sm H b).2 <;> simp [stepF, hq]
    simp only [List.foldl_cons, List.length_cons]
    omega
theorem feed_count (s : St) (L : List UInt8) : (feedF sm s L).1.length ≤ L.length := by
  have := fold_count (sm := sm) L ([], s)
  simpa [feedF] using this
theorem feed_append (s : St) (L M : List UInt8) : feedF sm s (L ++ M) = ((feedF sm s L).1 ++ (feedF sm (feedF sm s L).2 M).1, (feedF sm (feedF sm s L).2 M).2) := by
  unfold feedF
  rw [List.foldl_append]
  exact fold_acc M _ _
theorem feed_bad : ∀ (L : List UInt8), feedF sm none L = ([], none)
  | [] => rfl
  | _ :: r => feed_bad r
theorem feed_nil (s : St) : feedF sm s [] = ([], s) := rfl
theorem feed_snoc (s : St) (L : List UInt8) (b : UInt8) : feedF sm s (L ++ [b]) = stepF sm (feedF sm s L) b := by
  unfold feedF; rw [List.foldl_append]; rfl

theorem frameP_len (hsm : ∀ L, (sm L).length = 4) (P : List UInt8) : (frameP sm P).length = P.length + 5 := by simp [frameP, hsm]
theorem frameP_head (P : List UInt8) : (frameP sm P).headD 0 = P.length.toUInt8 := by simp [frameP]
theorem toU8_ok {n : Nat} (h : n ≤ 120) : n.toUInt8.toNat = n := by simp [Nat.toUInt8, UInt8.toNat_ofNat']; omega
theorem unwrap_frame (hsm : ∀ L, (sm L).length = 4) (P : List UInt8) (h : okB P.length = true) : unwrapP sm (frameP sm P) = some P := by
  have hl := frameP_len hsm P
  have he : ((frameP sm P).drop 1).take ((frameP sm P).length - 5) = P := by
    rw [hl]; simp [frameP]
  unfold unwrapP
  rw [he, if_pos ⟨by omega, by rw [hl]; simpa using h, rfl⟩]
theorem feed_prefix (hsm : ∀ L, (sm L).length = 4) (P : List UInt8) (h : okB P.length = true) : ∀ k, k < P.length + 5 → feedF sm (some []) ((frameP sm P).take k) = ([], some ((frameP sm P).take k))
  | 0, _ => rfl
  | k + 1, hk => by
    have hl := frameP_len hsm P
    have hh := frameP_head (sm := sm) P
    have ih := feed_prefix hsm P h k (by omega)
    have hok := okB_iff.1 h
    have hlt : k < (frameP sm P).length := by omega
    have e : (frameP sm P).take (k + 1) = (frameP sm P).take k ++ [(frameP sm P)[k]] := List.take_succ_eq_append_getElem hlt
    rw [e, feed_snoc, ih]
    have hd : (((frameP sm P).take k ++ [(frameP sm P)[k]]).headD 0).toNat = P.length := by
      rw [← e]
      have : ((frameP sm P).take (k + 1)).headD 0 = (frameP sm P).headD 0 := by
        cases hF : frameP sm P with
        | nil => rw [hF] at hl; simp at hl
        | cons c r => rfl
      rw [this, hh]; exact toU8_ok hok.2
    have hlen : ((frameP sm P).take k ++ [(frameP sm P)[k]]).length = k + 1 := by rw [← e, List.length_take]; omega
    simp only [stepF, addP]
    rw [hd, if_pos h, hlen, if_pos (by omega)]
    rfl
theorem feed_frame (hsm : ∀ L, (sm L).length = 4) (P : List UInt8) (h : okB P.length = true) : feedF sm (some []) (frameP sm P) = ([P], some []) := by
  have hl := frameP_len hsm P
  have hh := frameP_head (sm := sm) P
  have hok := okB_iff.1 h
  have ih := feed_prefix hsm P h (P.length + 4) (by omega)
  have hlt : P.length + 4 < (frameP sm P).length := by omega
  have e : frameP sm P = (frameP sm P).take (P.length + 4) ++ [(frameP sm P)[P.length + 4]] := by
    rw [← List.take_succ_eq_append_getElem hlt, List.take_of_length_le (by omega)]
  have key : feedF sm (some []) ((frameP sm P).take (P.length + 4) ++ [(frameP sm P)[P.length + 4]]) = ([P], some []) := by
    rw [feed_snoc, ih]
    simp only [stepF, addP]
    rw [← e, hh, toU8_ok hok.2, if_pos h, hl, if_neg (by omega), unwrap_frame hsm P h]
    rfl
  rw [← e] at key
  exact key
/-- frames one behind the other -/
def framesP (sm : List UInt8 → List UInt8) (Ps : List (List UInt8)) : List UInt8 := (Ps.map (frameP sm)).flatten
def offP (Ps : List (List UInt8)) : Nat := (Ps.map (fun P => P.length + 5)).sum
theorem framesP_cons (P : List UInt8) (Ps : List (List UInt8)) : framesP sm (P :: Ps) = frameP sm P ++ framesP sm Ps := by simp [framesP]
theorem framesP_append (Ps Qs : List (List UInt8)) : framesP sm (Ps ++ Qs) = framesP sm Ps ++ framesP sm Qs := by simp [framesP]
theorem offP_append (Ps Qs : List (List UInt8)) : offP (Ps ++ Qs) = offP Ps + offP Qs := by simp [offP]
theorem offP_cons (P : List UInt8) (Ps : List (List UInt8)) : offP (P :: Ps) = P.length + 5 + offP Ps := by simp [offP]
theorem framesP_len (hsm : ∀ L, (sm L).length = 4) (Ps : List (List UInt8)) : (framesP sm Ps).length = offP Ps := by
  induction Ps with
  | nil => rfl
  | cons P r ih => rw [framesP_cons, List.length_append, frameP_len hsm, ih, offP_cons]
theorem feed_frames (hsm : ∀ L, (sm L).length = 4) (Ps : List (List UInt8)) (h : ∀ P ∈ Ps, okB P.length = true) : feedF sm (some []) (framesP sm Ps) = (Ps, some []) := by
  induction Ps with
  | nil => rfl
  | cons P r ih =>
    rw [framesP_cons, feed_append, feed_frame hsm P (h P (by simp)), ih (fun Q hQ => h Q (by simp [hQ]))]
    simp
/-- any beginning of frames: those that are whole have come, the rest is held -/
theorem feed_take (hsm : ∀ L, (sm L).length = 4) : ∀ (Ps : List (List UInt8)), (∀ P ∈ Ps, okB P.length = true) → ∀ k, k ≤ (framesP sm Ps).length → ∃ m H, m ≤ Ps.length ∧ feedF sm (some []) ((framesP sm Ps).take k) = (Ps.take m, some H) ∧ offP (Ps.take m) ≤ k ∧ (m < Ps.length → k < offP (Ps.take (m + 1)))
  | [], _, k, hk => ⟨0, [], Nat.le_refl _, by simp [framesP, feedF], by simp [offP], fun h => absurd h (by simp)⟩
  | P :: r, h, k, hk => by
    have hl := frameP_len hsm P
    rw [framesP_cons] at hk ⊢
    by_cases hlt : k < P.length + 5
    · refine ⟨0, (frameP sm P).take k, Nat.zero_le _, ?_, by simp [offP], fun _ => by simp [offP]; omega⟩
      rw [List.take_append_of_le_length (by omega), feed_prefix hsm P (h P (by simp)) k hlt]
      simp
    · obtain ⟨m, H, h1, h2, h3, h4⟩ := feed_take hsm r (fun Q hQ => h Q (by simp [hQ])) (k - (P.length + 5)) (by rw [List.length_append] at hk; omega)
      refine ⟨m + 1, H, by simp; omega, ?_, ?_, fun hm => ?_⟩
      · rw [List.take_append, List.take_of_length_le (by omega), feed_append, feed_frame hsm P (h P (by simp)), hl, h2]
        simp
      · rw [List.take_succ_cons, offP_cons]; omega
      · have := h4 (by simp at hm; omega)
        rw [List.take_succ_cons, offP_cons]; omega
/-- from one beginning to a longer one -/
theorem feed_more (hsm : ∀ L, (sm L).length = 4) (Ps : List (List UInt8)) (hok : ∀ P ∈ Ps, okB P.length = true) (F : List UInt8) (hF : framesP sm Ps = F) (kk n g : Nat) (H : List UInt8) (h : feedF sm (some []) (F.take kk) = (Ps.take g, some H)) (hg : g ≤ Ps.length) (hk : kk + n ≤ F.length) :
    ∃ g' H' Ls, feedF sm (some H) ((F.drop kk).take n) = (Ls, some H') ∧ feedF sm (some []) (F.take (kk + n)) = (Ps.take g', some H') ∧ g' ≤ Ps.length ∧ g + Ls.length = g' ∧ (∀ j, j < Ls.length → Ls[j]? = Ps[g + j]?) ∧ (g' < Ps.length → kk + n < offP (Ps.take (g' + 1))) := by
  subst hF
  obtain ⟨g', H', h1, h2, h3, h4⟩ := feed_take hsm Ps hok (kk + n) hk
  have e : (framesP sm Ps).take (kk + n) = (framesP sm Ps).take kk ++ ((framesP sm Ps).drop kk).take n := List.take_add
  have h5 := feed_append (sm := sm) (some []) ((framesP sm Ps).take kk) (((framesP sm Ps).drop kk).take n)
  rw [← e, h2, h] at h5
  simp only [Prod.mk.injEq] at h5
  obtain ⟨h6, h7⟩ := h5
  have hl := congrArg List.length h6
  rw [List.length_append, List.length_take, List.length_take] at hl
  refine ⟨g', H', (feedF sm (some H) (((framesP sm Ps).drop kk).take n)).1, Prod.ext rfl h7.symm, h2, h1, by omega, fun j hj => ?_, h4⟩
  have h8 : (Ps.take g')[g + j]? = (Ps.take g ++ (feedF sm (some H) (((framesP sm Ps).drop kk).take n)).1)[g + j]? := by rw [← h6]
  rw [List.getElem?_append_right (by rw [List.length_take]; omega), List.getElem?_take_of_lt (by omega)] at h8
  rw [h8, List.length_take]
  congr 1
  omega
/-- noughts: a frame that is longer than any, and then a length that is none -/
theorem feed_zeros : ∀ (j : Nat) (H : List UInt8), St.Ok (some H) → (H = [] → 1 ≤ j) → (H ≠ [] → 5 + (H.headD 0).toNat - H.length + 1 ≤ j) → (feedF sm (some H) (List.replicate j 0)).2 = none
  | 0, H, hok, h0, h1 => by
    by_cases e : H = []
    · have := h0 e; omega
    · have := h1 e; omega
  | j + 1, H, hok, h0, h1 => by
    have e : List.replicate (j + 1) (0 : UInt8) = [0] ++ List.replicate j 0 := rfl
    rw [e, feed_append]
    show (feedF sm (feedF sm (some H) [0]).2 (List.replicate j 0)).2 = none
    have e2 : (feedF sm (some H) [0]).2 = (addP sm H 0).1 := rfl
    rw [e2]
    by_cases hH : H = []
    · subst hH
      have : addP sm [] 0 = (none, none) := by unfold addP; rw [if_neg (by decide)]
      rw [this, feed_bad]
    · have h1' := h1 hH
      rcases hok with hk | ⟨hk, hlen⟩
      · exact absurd hk hH
      have hd : (H ++ [0]).headD 0 = H.headD 0 := by cases H with
        | nil => exact absurd rfl hH
        | cons c r => rfl
      unfold addP
      rw [hd, if_pos hk, List.length_append, List.length_singleton]
      by_cases hlt : H.length + 1 < 5 + (H.headD 0).toNat
      · rw [if_pos hlt]
        refine feed_zeros j (H ++ [0]) (Or.inr ⟨by rw [hd]; exact hk, by rw [hd, List.length_append]; exact hlt⟩) (fun h => by simp at h) (fun _ => ?_)
        rw [hd, List.length_append, List.length_singleton]; omega
      · rw [if_neg hlt]
        split
        · exact feed_zeros j [] (Or.inl rfl) (fun _ => by omega) (fun h => absurd rfl h)
        · rw [feed_bad]
theorem feed_ends (s : St) (hs : s.Ok) (X : List UInt8) : (feedF sm s (X ++ List.replicate 125 0)).2 = none := by
  rw [feed_append]
  dsimp only
  have hok : (feedF sm s X).2.Ok := fold_ok X _ hs
  generalize (feedF sm s X).2 = t at hok
  cases t with
  | none => rw [feed_bad]
  | some H =>
    refine feed_zeros 125 H hok (fun _ => by omega) (fun hH => ?_)
    rcases hok with h | ⟨h1, h2⟩
    · exact absurd h hH
    · have := okB_iff.1 h1
      have : 1 ≤ H.length := by cases H with
        | nil => exact absurd rfl hH
        | cons c r => simp
      omega
/-- with one byte turned: those ahead of it come, and then the bytes are spoilt -/
theorem feed_spoilt (hsm : ∀ L, (sm L).length = 4) (Ps : List (List UInt8)) (h : ∀ P ∈ Ps, okB P.length = true) (m : Nat) (i : Nat) (c : UInt8) (hm : offP (Ps.take m) ≤ i) :
    ∃ l, feedF sm (some []) ((framesP sm Ps).set i c ++ List.replicate 125 0) = (Ps.take m ++ l, none) := by
  have hl : (framesP sm (Ps.take m)).length = offP (Ps.take m) := framesP_len hsm _
  have e : (framesP sm Ps).set i c = framesP sm (Ps.take m) ++ (framesP sm (Ps.drop m)).set (i - offP (Ps.take m)) c := by
    conv => lhs; rw [← List.take_append_drop m Ps, framesP_append]
    rw [List.set_append_right _ _ (by omega), hl]
  rw [e, List.append_assoc, feed_append, feed_frames hsm (Ps.take m) (fun P hP => h P (List.mem_of_mem_take hP))]
  refine ⟨_, Prod.ext rfl ?_⟩
  exact feed_ends (some []) (Or.inl rfl) _
end
end Go.Proofs.YtopcgnjocklcoaaGreatDoor
/- Bytes that can be read; the sum of frames; bytes.Clone, bytes.Equal and other leaves. -/
namespace Go.Proofs.YtopcgnjocklcoaaGreatDoor
open Go.RowKit

/-- bytes that can be read, wherever they lie -/
def Rd (w : World) (v : Value) (L : List UInt8) : Prop :=
  (v = .slice none 0 0 ∧ L = []) ∨ ∃ a c, v = .slice (some a) L.length c ∧ ∀ j u, (L.map byteCell)[j]? = some u → w.cell? (a.add j) = some u
theorem Rd.slice {w : World} {v : Value} {L : List UInt8} (h : Rd w v L) : ∃ a c, v = .slice a L.length c := by
  rcases h with ⟨rfl, rfl⟩ | ⟨a, c, rfl, _⟩
  · exact ⟨none, 0, rfl⟩
  · exact ⟨_, _, rfl⟩
theorem Bys.rd {w : World} {lo : Nat} {v : Value} {L : List UInt8} (h : Bys w lo v L) : Rd w v L := by
  rcases h.2 with ⟨rfl, h0⟩ | ⟨g, cap, cur, hv, r⟩
  · exact Or.inl ⟨rfl, List.eq_nil_of_length_eq_zero h0⟩
  · exact Or.inr ⟨_, _, hv, fun j u hu => h.cells (g := g) (by rw [hv]; rfl) j u hu⟩
theorem rd_add (a : Addr) (j : Nat) (h : a.spot = none) : a.add j = ⟨a.block, a.off + j, none⟩ := by
  obtain ⟨b, o, s⟩ := a
  simp only at h
  subst h
  unfold Addr.add
  split <;> simp_all
/-- bytes of which there are some: where they lie -/
theorem Rd.at {w : World} {v : Value} {L : List UInt8} (h : Rd w v L) (h0 : 0 < L.length) : ∃ b o c, v = .slice (some ⟨b, o, none⟩) L.length c ∧ b < w.heap.size ∧ ∀ j (hj : j < L.length), w.cell? ⟨b, o + j, none⟩ = some (.int .u8 (L[j].toNat : Int)) := by
  rcases h with ⟨_, rfl⟩ | ⟨a, c, rfl, hc⟩
  · simp at h0
  · obtain ⟨b, o, s⟩ := a
    have h1 := hc 0 (byteCell L[0]) (by simp [List.getElem?_eq_getElem h0])
    have h2 : (⟨b, o, s⟩ : Addr).add 0 = ⟨b, o, s⟩ := by unfold Addr.add; simp
    rw [h2] at h1
    have hs : s = none := World.cell?_spot h1
    subst hs
    refine ⟨b, o, c, rfl, World.block_lt_of_cell? _ _ h1, fun j hj => ?_⟩
    have := hc j (byteCell L[j]) (by simp [List.getElem?_eq_getElem hj])
    rw [rd_add _ _ rfl] at this
    exact this
theorem Rd.same {w w' : World} {v : Value} {L : List UInt8} (h : Rd w v L) {B : Nat} (hb : Below B w w') (hB : ∀ k, v.ownBlock = some k → 0 < L.length → k < B) : Rd w' v L := by
  rcases h with h | ⟨a, c, rfl, hc⟩
  · exact Or.inl h
  · refine Or.inr ⟨a, c, rfl, fun j u hu => ?_⟩
    have hl : 0 < L.length := by
      rcases Nat.eq_zero_or_pos L.length with e | e
      · have := List.eq_nil_of_length_eq_zero e; subst this; simp at hu
      · exact e
    have h1 := hc j u hu
    have h2 : (a.add j).block = a.block := by unfold Addr.add; split <;> rfl
    rw [hb.cell (p := a.add j) (by rw [h2]; exact hB a.block rfl hl)]
    exact h1
theorem Rd.lt {w : World} {v : Value} {L : List UInt8} (h : Rd w v L) : ∀ k, v.ownBlock = some k → 0 < L.length → k < w.heap.size := by
  intro k hk hl
  obtain ⟨b, o, c, rfl, hb, _⟩ := h.at hl
  simp [Value.ownBlock] at hk
  omega
theorem Rd.later {w w' : World} {v : Value} {L : List UInt8} (h : Rd w v L) (hb : Below w.heap.size w w') : Rd w' v L := h.same hb h.lt
/-- a text of these bytes -/
def strOf (L : List UInt8) : ByteArray := ⟨L.toArray⟩
theorem strOf_nums (L : List UInt8) : strOfNums (L.map fun c => (c.toNat : Int)) = strOf L := by
  unfold strOfNums strOf
  congr 2
  rw [List.map_map]
  conv => rhs; rw [← List.map_id L]
  apply List.map_congr_left
  intro c _
  simp
theorem strOf_toList (L : List UInt8) : (strOf L).toList = L := by rw [ByteArray.toList_eq]; rfl
theorem strOf_size (L : List UInt8) : (strOf L).size = L.length := rfl
/-- 'string(b)' -/
theorem Rd.conv {w : World} {v : Value} {L : List UInt8} (h : Rd w v L) : (convert 39 9 v).run Tryz.prog w = .ok (.string (strOf L)) w := by
  rcases h with ⟨rfl, rfl⟩ | ⟨a, c, rfl, hc⟩
  · exact run_convert_bytes_nil (P := Tryz.prog) w 39 5 Tryz.underlying39 Tryz.underlying5 0 0 9 Tryz.underlying9
  · have hl : (loadCells a L.length).run Tryz.prog w = .ok ((L.map fun c => (c.toNat : Int)).map (Value.int .u8)).toArray w := by
      have := run_loadCells_list (P := Tryz.prog) w a ((L.map fun c => (c.toNat : Int)).map (Value.int .u8)) (fun j u hj => hc j u (by rw [List.map_map] at hj; exact hj))
      simpa using this
    rw [run_convert_bytes_string w 39 9 5 _ L.length c Tryz.underlying39 Tryz.underlying5 Tryz.underlying9, run_bytesToString w _ L.length c _ hl, foldl_push_bytes]
    have e := strOf_nums L
    unfold strOfNums at e
    simp only [ByteArray.empty, ByteArray.emptyWithCapacity]
    rw [← e]
    simp
    rfl
/-- bytes that can be read put behind bytes in memory of their own -/
theorem wp_append_rd (w : World) {o : Oper} {a : Act} {K : Act → World → Prop} {Q : Exit → Act → World → Prop} (s x : Operand)
    (ho : o.op = .call { callee := .builtin .append, args := #[s, x], argTypes := #[39, 39] })
    (v : Value) (L : List UInt8) (lo : Nat) (hs : a.eval s = v) (hP : Bys w lo v L) (v2 : Value) (L2 : List UInt8) (hx : a.eval x = v2) (hP2 : Rd w v2 L2)
    (hlen : L.length + L2.length ≤ 100000000000) (hlo : lo ≤ w.heap.size)
    (h : ∀ a' c' w', Bys w' lo (.slice a' (L ++ L2).length c') (L ++ L2) → Grew w w' v (.slice a' (L ++ L2).length c') → K (a.put o.dst (.slice a' (L ++ L2).length c')) w') : o.wp Tryz.prog a w K Q := by
  obtain ⟨iI, hiI, hI0, hI1, hI2⟩ := info_parts Tryz.infoByte
  obtain ⟨v', w', hr, h2, h3⟩ : ∃ v' w', (Builtin.append_ #[39, 39] o.type #[v, v2]).run Tryz.prog w = .ok v' w' ∧ Bys w' lo v' (L ++ L2) ∧ Grew w w' v v' := by
    rcases hP2 with ⟨rfl, rfl⟩ | ⟨ad, cap, hv2, hc2⟩
    · exact ⟨v, w, run_append_owned_none w lo 39 o.type 5 iI 1 Tryz.underlying39 hiI v L.length _ hP, by simpa using hP, Grew.refl _ _⟩
    · subst hv2
      obtain ⟨v', w', hr, h2, h3, _, h5⟩ := run_append_own_at (P := Tryz.prog) w lo 39 o.type 5 iI (.int .u8 0) 1 1 Tryz.underlying39 hiI hI0 hI1 hI2 rfl (by decide) v L.length (L.map byteCell) hP ad L2.length cap (L2.map byteCell) (by simp) hc2 (fun u hu => by obtain ⟨q, _, rfl⟩ := List.mem_map.1 hu; rfl) (by unfold maxLen; omega) (by omega) hlo
      refine ⟨v', w', hr, ?_, h3, fun k hk => ?_⟩
      · show w'.ownsRow _ _ _ _ _ _
        rw [List.length_append, List.map_append]; exact h2
      · rcases h5 with h5 | h5
        · exact Or.inl (h5 ▸ hk)
        · rw [hk] at h5; cases h5; exact Or.inr (Nat.le_refl _)
  obtain ⟨a', c', hv'⟩ := own_slice h2
  subst hv'
  unfold Oper.wp execOp
  simp only [ho, resolve, invoke, builtin, Sem.run_bind, Sem.run_pure, Result.andThen_ok, List.map_toArray, List.map_cons, List.map_nil, hs, hx, hr]
  exact h a' c' w' h2 h3
theorem wpList_append_rd (w : World) {ops : Array Oper} {rest : List Oper} {o : Oper} {a : Act} {Q : Exit → Act → World → Prop} (hgd : o.guard = none) (s x : Operand)
    (ho : o.op = .call { callee := .builtin .append, args := #[s, x], argTypes := #[39, 39] })
    (v : Value) (L : List UInt8) (lo : Nat) (hs : a.eval s = v) (hP : Bys w lo v L) (v2 : Value) (L2 : List UInt8) (hx : a.eval x = v2) (hP2 : Rd w v2 L2) (M : List UInt8) (hM : L ++ L2 = M)
    (hlen : L.length + L2.length ≤ 100000000000) (hlo : lo ≤ w.heap.size)
    (h : ∀ a' c' w', Bys w' lo (.slice a' M.length c') M → Grew w w' v (.slice a' M.length c') → wpList Tryz.prog ops Q rest (a.put o.dst (.slice a' M.length c')) w') : wpList Tryz.prog ops Q (o :: rest) a w := by
  subst hM
  exact wpList_plain hgd fun _ hK => wp_append_rd w s x ho v L lo hs hP v2 L2 hx hP2 hlen hlo fun a' c' w' h2 h3 => hK _ _ (h a' c' w' h2 h3)
/-- a slice of bytes held against nil -/
theorem eql_nil (a : Option Addr) (l c : Nat) (w : World) : (binOp .eql 39 (.slice a l c) (.slice none 0 0)).run Tryz.prog w = .ok (.bool a.isNone) w := by
  have h1 : ∀ d : Nat, (Op.equalIn (d + 1) 39 (.slice a l c) (.slice none 0 0)).run Tryz.prog w = .ok a.isNone w := fun d => by cases a <;> simp [Op.equalIn, run_underlying Tryz.underlying39]
  have h2 : (Op.equal 39 (.slice a l c) (.slice none 0 0)).run Tryz.prog w = .ok a.isNone w := h1 9999
  simp [binOp, h2]
theorem neq_nil (a : Option Addr) (l c : Nat) (w : World) : (binOp .neq 39 (.slice a l c) (.slice none 0 0)).run Tryz.prog w = .ok (.bool (!a.isNone)) w := by
  have h1 : ∀ d : Nat, (Op.equalIn (d + 1) 39 (.slice a l c) (.slice none 0 0)).run Tryz.prog w = .ok a.isNone w := fun d => by cases a <;> simp [Op.equalIn, run_underlying Tryz.underlying39]
  have h2 : (Op.equal 39 (.slice a l c) (.slice none 0 0)).run Tryz.prog w = .ok a.isNone w := h1 9999
  simp [binOp, h2]
/-- bytes written out in a new block -/
theorem bys_lit (w : World) (L : List UInt8) (cs : Array Value) (h : cs.toList = L.map byteCell) (hm : L.length ≤ 100) : Bys (w.alloc (.cells cs 5)) w.heap.size (.slice (some ⟨w.heap.size, 0, none⟩) L.length L.length) L := by
  have := World.ownsRow_lit (base := w.heap.size) (e := 5) (size := 1) w cs L.length (Nat.le_refl _) (by unfold maxLen; omega) (by have := congrArg List.length h; simpa using this)
  rw [h] at this
  exact this
end Go.Proofs.YtopcgnjocklcoaaGreatDoor
/- Lists that are their owner's: bytes that are all one mark, and more of that mark put behind them. -/
namespace Go.Proofs.YtopcgnjocklcoaaGreatDoor
open Go.RowKit

/-- what holds the mark goes on holding it -/
def KeepM (m : UInt8) (w w' : World) : Prop := ∀ ad, w.cell? ad = some (byteCell m) → w'.cell? ad = some (byteCell m)
theorem KeepM.trans {m : UInt8} {a b c : World} (h : KeepM m a b) (k : KeepM m b c) : KeepM m a c := fun ad hd => k ad (h ad hd)
theorem KeepM.refl (m : UInt8) (w : World) : KeepM m w w := fun _ h => h
theorem keepM_below {m : UInt8} {w w' : World} (hb : Below w.heap.size w w') : KeepM m w w' := fun ad hd => (hb.cell (p := ad) (World.block_lt_of_cell? _ _ hd)).trans hd
theorem Rd.keep {m : UInt8} {n : Nat} {w w' : World} {v : Value} (h : Rd w v (List.replicate n m)) (k : KeepM m w w') : Rd w' v (List.replicate n m) := by
  rcases h with h | ⟨a, c, hv, hc⟩
  · exact Or.inl h
  · refine Or.inr ⟨a, c, hv, fun j u hu => ?_⟩
    have h1 := hc j u hu
    have e : u = byteCell m := by
      rw [List.map_replicate] at hu
      have := List.mem_of_getElem? hu
      simpa using (List.mem_replicate.1 this).2
    subst e
    exact k _ h1
theorem run_append_fill (w : World) (lo : Nat) (ty : TypeId) (v : Value) (n k : Nat) (m : UInt8) (hP : Bys w lo v (List.replicate n m)) (hk : 0 < k) (ad : Addr) (c : Nat) (hnews : ∀ j u, ((List.replicate k m).map byteCell)[j]? = some u → w.cell? (ad.add j) = some u)
    (hlen : n + k ≤ 100000000000) (hlo : lo ≤ w.heap.size) :
    ∃ v' w', (Builtin.append_ #[39, 39] ty #[v, .slice (some ad) k c]).run Tryz.prog w = .ok v' w' ∧ Bys w' lo v' (List.replicate (n + k) m) ∧ (KeepM m w w' ∧ Bys w' lo v (List.replicate n m)) ∧ Grew w w' v v' := by
  obtain ⟨iI, hiI, hI0, hI1, hI2⟩ := info_parts Tryz.infoByte
  have hn : (List.replicate n m).length = n := by simp
  have hkl : ((List.replicate k m).map byteCell).length = k := by simp
  have h1 : ∀ u ∈ (List.replicate k m).map byteCell, u.oneCell' = true := fun u hu => by obtain ⟨q, _, rfl⟩ := List.mem_map.1 hu; rfl
  have hP' : w.ownsRow lo 5 1 v n ((List.replicate n m).map byteCell) := by have := hP; unfold Bys at this; rwa [hn] at this
  obtain ⟨v', w', hr, h2, h3, _, h5⟩ := run_append_own_at (P := Tryz.prog) w lo 39 ty 5 iI (.int .u8 0) 1 1 Tryz.underlying39 hiI hI0 hI1 hI2 rfl (by decide) v n _ hP' ad k c ((List.replicate k m).map byteCell) (by simp) hnews h1 (by unfold maxLen; omega) (by omega) hlo
  refine ⟨v', w', hr, ?_, ?_, h3, fun q hq => ?_⟩
  · show w'.ownsRow _ _ _ _ _ _
    rw [List.length_replicate, ← List.replicate_append_replicate, List.map_append]
    exact h2
  · have alloc_keep : ∀ o, KeepM m w (w.drew.alloc o) ∧ Bys (w.drew.alloc o) lo v (List.replicate n m) := fun o => ⟨keepM_below (((Below.refl _ _).drew).alloc (Nat.le_refl _) o), hP.same (((Below.refl _ _).drew).alloc (Nat.le_refl _) o)⟩
    rcases hP'.2 with ⟨rfl, h0⟩ | ⟨g, cap, cur, rfl, hbg, hg, hnc, hcm, hcs, htake⟩
    · have hr2 := run_append_nil (P := Tryz.prog) w 39 ty 5 iI (.int .u8 0) Tryz.underlying39 hiI hI0 ad k c _ (by rw [hI1]; simp) hnews hk (by omega) (by rw [hI2]; omega)
      rw [hr2] at hr
      injection hr with e1 e2
      rw [← e2]
      exact alloc_keep _
    · rw [Nat.mul_one] at hcs htake
      by_cases hroom : n + k ≤ cap
      · have hr2 := run_append_room (P := Tryz.prog) w 39 ty 5 iI Tryz.underlying39 hiI g n cap cur hg ad k c _ (by rw [hI1]; simp) hnews h1 hroom (by rw [hI1]; simp; omega)
        rw [hr2] at hr
        injection hr with e1 e2
        rw [← e2, hI1, Nat.mul_one]
        refine ⟨?_, ⟨by simp, .inr ⟨g, cap, _, by rw [hn], hbg, setRow_heap w g cur _ 5 _ hg, by rw [hn]; exact hnc, hcm, ?_, ?_⟩⟩⟩
        case refine_2 =>
          simp only [List.size_toArray, List.length_append, List.length_take, List.length_drop, Array.length_toList, hkl]
          omega
        case refine_3 =>
          rw [hn, Nat.mul_one]
          show ((cur.toList.take n ++ (List.replicate k m).map byteCell) ++ cur.toList.drop (n + ((List.replicate k m).map byteCell).length)).take n = _
          rw [List.append_assoc, List.take_append_of_le_length (by rw [List.length_take, Array.length_toList]; omega), List.take_take, Nat.min_self, htake]
        intro x hx
        obtain ⟨xb, xo, xs⟩ := x
        have hs : xs = none := World.cell?_spot hx
        subst hs
        by_cases hxb : xb = g
        · subst hxb
          rw [cell_of_row w xb xo cur _ _ hg] at hx
          rw [cell_of_row _ xb xo _ _ _ (setRow_heap w xb cur _ 5 _ hg)]
          have hx' : cur.toList[xo]? = some (byteCell m) := by simpa using hx
          have hxl : xo < cur.toList.length := (List.getElem?_eq_some_iff.1 hx').1
          have goal : (cur.toList.take n ++ (List.replicate k m).map byteCell ++ cur.toList.drop (n + ((List.replicate k m).map byteCell).length))[xo]? = some (byteCell m) := by
            rw [hkl]
            have htl : (cur.toList.take n).length = n := by rw [List.length_take]; simp at hxl ⊢; omega
            rcases Nat.lt_or_ge xo n with h | h
            · rw [List.append_assoc, List.getElem?_append_left (by omega), List.getElem?_take_of_lt h]; exact hx'
            · rcases Nat.lt_or_ge xo (n + k) with h' | h'
              · rw [List.getElem?_append_left (by rw [List.length_append, htl, hkl]; omega), List.getElem?_append_right (by omega), htl, List.getElem?_map, List.getElem?_replicate]
                rw [if_pos (by omega)]; rfl
              · rw [List.getElem?_append_right (by rw [List.length_append, htl, hkl]; omega), List.length_append, htl, hkl, List.getElem?_drop, show n + k + (xo - (n + k)) = xo by omega]
                exact hx'
          simpa using goal
        · rw [World.cell?_of_block (w := w) (a := ⟨xb, xo, none⟩) (setRow_other w g xb _ hxb)]
          exact hx
      · have hr2 := run_append_grow (P := Tryz.prog) w 39 ty 5 iI (.int .u8 0) Tryz.underlying39 hiI hI0 ⟨g, 0, none⟩ n cap ((List.replicate n m).map byteCell) (by rw [hI1]; simp) (fun j u hu => hP'.cells (g := g) rfl j u hu) ad k c _ (by rw [hI1]; simp) hnews (by omega) (by omega) (by rw [hI2, Nat.mul_one]; have := nextslicecap_le (need := n + k) (old := cap) (by omega); omega)
        rw [hr2] at hr
        injection hr with e1 e2
        rw [← e2]
        exact alloc_keep _
  · rcases h5 with h5 | h5
    · exact Or.inl (h5 ▸ hq)
    · rw [hq] at h5; cases h5; exact Or.inr (Nat.le_refl _)
theorem wpList_append_fill (w : World) {ops : Array Oper} {rest : List Oper} {o : Oper} {a : Act} {Q : Exit → Act → World → Prop} (hgd : o.guard = none) (s x : Operand)
    (ho : o.op = .call { callee := .builtin .append, args := #[s, x], argTypes := #[39, 39] })
    (v : Value) (n k : Nat) (m : UInt8) (lo : Nat) (hs : a.eval s = v) (hP : Bys w lo v (List.replicate n m)) (hk : 0 < k) (ad : Addr) (c : Nat) (hx : a.eval x = .slice (some ad) k c) (hnews : ∀ j u, ((List.replicate k m).map byteCell)[j]? = some u → w.cell? (ad.add j) = some u)
    (hlen : n + k ≤ 100000000000) (hlo : lo ≤ w.heap.size) (N : Nat) (hN : n + k = N)
    (h : ∀ a' c' w', Bys w' lo (.slice a' N c') (List.replicate N m) → KeepM m w w' → Bys w' lo v (List.replicate n m) → Grew w w' v (.slice a' N c') → wpList Tryz.prog ops Q rest (a.put o.dst (.slice a' N c')) w') : wpList Tryz.prog ops Q (o :: rest) a w := by
  subst hN
  obtain ⟨v', w', hr, h2, h3, h4⟩ := run_append_fill w lo o.type v n k m hP hk ad c hnews hlen hlo
  obtain ⟨a', c', hv'⟩ := own_slice h2
  rw [List.length_replicate] at hv'
  subst hv'
  refine wpList_plain hgd fun _ hK => ?_
  unfold Oper.wp execOp
  simp only [ho, resolve, invoke, builtin, Sem.run_bind, Sem.run_pure, Result.andThen_ok, List.map_toArray, List.map_cons, List.map_nil, hs, hx, hr]
  exact hK _ _ (h a' c' w' h2 h3.1 h3.2 h4)
end Go.Proofs.YtopcgnjocklcoaaGreatDoor
/- The statement's own lists: 'own' makes a list its owner's, 'all' and 'looks' look at them. -/
namespace Go.Proofs.YtopcgnjocklcoaaGreatDoor
open Go.RowKit

theorem Rd.turn {w w' : World} {v : Value} {L : List UInt8} (h : Rd w v L) (hs : ∀ k, v.ownBlock = some k → 0 < L.length → w'.heap[k]? = w.heap[k]?) : Rd w' v L := by
  rcases h with h | ⟨a, c, rfl, hc⟩
  · exact Or.inl h
  · refine Or.inr ⟨a, c, rfl, fun j u hu => ?_⟩
    have hl : 0 < L.length := by
      rcases Nat.eq_zero_or_pos L.length with e | e
      · have := List.eq_nil_of_length_eq_zero e; subst this; simp at hu
      · exact e
    have h2 : (a.add j).block = a.block := by unfold Addr.add; split <;> rfl
    rw [World.cell?_of_block (w := w) (w' := w') (a := a.add j) (by rw [h2]; exact hs a.block rfl hl)]
    exact hc j u hu
/-- of what was there only blocks in S have turned -/
structure Turn (w w' : World) (S : Nat → Prop) : Prop where
  os : w'.os = w.os
  tape : w'.tape = w.tape
  output : w'.output = w.output
  size : w.heap.size ≤ w'.heap.size
  block : ∀ k, k < w.heap.size → ¬ S k → w'.heap[k]? = w.heap[k]?
theorem Turn.refl (w : World) (S : Nat → Prop) : Turn w w S := ⟨rfl, rfl, rfl, Nat.le_refl _, fun _ _ _ => rfl⟩
theorem Turn.trans {w w1 w2 : World} {S S' : Nat → Prop} (h : Turn w w1 S) (k : Turn w1 w2 S') (hS : ∀ q, q < w.heap.size → S' q → S q) : Turn w w2 S :=
  ⟨k.os.trans h.os, k.tape.trans h.tape, k.output.trans h.output, Nat.le_trans h.size k.size, fun q hq hn => (k.block q (Nat.lt_of_lt_of_le hq h.size) (fun hs => hn (hS q hq hs))).trans (h.block q hq hn)⟩
theorem Turn.weak {w w' : World} {S S' : Nat → Prop} (h : Turn w w' S) (hS : ∀ k, S k → S' k) : Turn w w' S' := ⟨h.os, h.tape, h.output, h.size, fun k hk hn => h.block k hk (fun hs => hn (hS k hs))⟩
theorem Turn.of_below {w w' : World} {S : Nat → Prop} (h : Below w.heap.size w w') : Turn w w' S := ⟨h.os, h.tape, h.output, h.size, fun k hk _ => h.block k hk⟩
theorem Turn.of_grew {w w' : World} {v v' : Value} (h : Grew w w' v v') : Turn w w' (fun k => v.ownBlock = some k) := ⟨h.g.os, h.g.tape, h.g.output, h.g.size, fun k hk hn => h.g.block k hk (fun e => hn e.symm)⟩
theorem Turn.setCell (w : World) (b i : Nat) (u : Value) : Turn w (w.setCell ⟨b, i, none⟩ u) (fun k => k = b) := ⟨rfl, rfl, rfl, by simp [World.setCell], fun k _ hn => Below.heap_setCell _ _ _ _ hn⟩
theorem Turn.below {w w' : World} {S : Nat → Prop} (h : Turn w w' S) {B : Nat} (hB : B ≤ w.heap.size) (hS : ∀ k, k < B → ¬ S k) : Below B w w' := ⟨h.os, h.tape, h.output, h.size, fun k hk => h.block k (by omega) (hS k hk)⟩
/-- one byte of bytes of one's own is written -/
theorem Bys.put {w : World} {lo g c : Nat} {L : List UInt8} (h : Bys w lo (.slice (some ⟨g, 0, none⟩) L.length c) L) (i : Nat) (m : UInt8) : Bys (w.setCell ⟨g, i, none⟩ (byteCell m)) lo (.slice (some ⟨g, 0, none⟩) (L.set i m).length c) (L.set i m) := by
  rcases h.2 with ⟨h0, _⟩ | ⟨g', cap, cur, hv, hb, hh, h1, h2, h3, h4⟩
  · simp at h0
  · simp at hv
    obtain ⟨rfl, rfl⟩ := hv
    refine ⟨by simp, .inr ⟨g, c, cur.setIfInBounds i (byteCell m), rfl, hb, ?_, by simpa using h1, h2, by simpa using h3, ?_⟩⟩
    · simp only [World.setCell, Array.getElem?_modify, hh]
      simp
    · rw [Array.toList_setIfInBounds, List.length_set, List.take_set, h4, List.map_set]
/-- a list that is its owner's, and three others begun at it -/
structure Ent where
  l : Value
  one : Value
  two : Value
  three : Value
  n : Nat
  m : UInt8
def entVals (x : Ent) : List Value := [x.l, x.one, x.two, x.three]
def entCells (x : Ent) : List Value := [x.l, x.one, x.two, x.three, .int .u8 x.m.toNat]
structure EntOk (w : World) (x : Ent) : Prop where
  l : Rd w x.l (List.replicate x.n x.m)
  one : Rd w x.one (List.replicate (x.n + 1) x.m)
  two : Rd w x.two (List.replicate (x.n + 2) x.m)
  three : Rd w x.three (List.replicate (x.n + 3) x.m)
  len : x.n ≤ 1000000000
  blk : ∀ u ∈ entVals x, ∀ k, u.ownBlock = some k → ∃ cur, w.heap[k]? = some (.cells cur 5 (0, 0))
theorem EntOk.turn {w w' : World} {x : Ent} (h : EntOk w x) (hs : ∀ u ∈ entVals x, ∀ k, u.ownBlock = some k → w'.heap[k]? = w.heap[k]?) : EntOk w' x :=
  ⟨h.l.turn (fun k hk _ => hs _ (by simp [entVals]) k hk), h.one.turn (fun k hk _ => hs _ (by simp [entVals]) k hk), h.two.turn (fun k hk _ => hs _ (by simp [entVals]) k hk), h.three.turn (fun k hk _ => hs _ (by simp [entVals]) k hk), h.len,
    fun u hu k hk => by rw [hs u hu k hk]; exact h.blk u hu k hk⟩
def WAt (w : World) (B : Nat) (dv ev bv : Value) : Prop := w.heap[B]? = some (.cells #[dv, ev, bv] 31 (0, 0))
structure Ents (w : World) (lo : Nat) (bv : Value) (X : List Ent) : Prop where
  own : w.ownsRow lo 54 5 bv X.length (X.flatMap entCells)
  ok : ∀ x ∈ X, EntOk w x
theorem Tryz.infoEnt : (Tryz.prog.info? 54).map (fun i => (i.zero, i.size, i.bytes)) = some (some (.agg #[.slice none 0 0, .slice none 0 0, .slice none 0 0, .slice none 0 0, .int .u8 0]), 5, 104) := by kernel_rfl

set_option maxRecDepth 100000 in
set_option maxHeartbeats 1000000 in
theorem all_any (w : World) (v : Value) (n : Nat) (m : UInt8) (h : Rd w v (List.replicate n m)) (hn : n ≤ 100000000000) :
    Calls Tryz.prog 24 #[v, .int .u8 m.toNat] w fun e w' => e = .returned (.bool true) ∧ w' = w := by
  obtain ⟨a, c, hv⟩ := h.slice
  rw [List.length_replicate] at hv
  subst hv
  have H := hid h
  clear h
  go_enter Tryz.func24, Tryz.ntmps24
  go_wp2_with fail
  go_loop [5] (fun i => ∃ k : Nat, k ≤ n ∧ i = .int .i64 k) (fun i => n - (intOf i).toNat)
  case atStart => exact ⟨0, Nat.zero_le _, rfl⟩
  case round =>
    obtain ⟨k, hk, rfl⟩ := hrel
    by_cases hlt : k < n
    · obtain ⟨b, o, c', hv, hb, hc⟩ := H.out.at (by simp; omega)
      rw [List.length_replicate] at hv
      obtain ⟨rfl, rfl⟩ : a = some ⟨b, o, none⟩ ∧ c = c' := by simpa using hv
      have hck := hc k (by simpa using hlt)
      rw [List.getElem_replicate] at hck
      have hltI : (k : Int) < (n : Int) := by omega
      clear hc hv
      go_wp2_with fail
      go_round
      case rel => exact ⟨k + 1, by omega, by go_num⟩
      case measure => simp [intOf]; omega
    · have hltI : ¬ (k : Int) < (n : Int) := by omega
      go_wp2_with fail
      go_ret
      exact ⟨rfl, rfl⟩
theorem flat_at : ∀ (X : List Ent) (k j : Nat) (hk : k < X.length), j < 5 → (X.flatMap entCells)[k * 5 + j]? = (entCells X[k])[j]?
  | x :: r, 0, j, _, hj => by
    rw [List.flatMap_cons, List.getElem?_append_left (by simp [entCells]; omega)]; simp
  | x :: r, k + 1, j, hk, hj => by
    have ih := flat_at r k j (by simpa using hk) hj
    rw [List.flatMap_cons, List.getElem?_append_right (by simp [entCells]; omega)]
    have e : (k + 1) * 5 + j - (entCells x).length = k * 5 + j := by simp [entCells]; omega
    rw [e, ih]; rfl
set_option maxRecDepth 100000 in
set_option maxHeartbeats 2000000 in
theorem looks_any (w : World) (B lo : Nat) (dv ev bv : Value) (X : List Ent) (hW : WAt w B dv ev bv) (hX : Ents w lo bv X) (hl : X.length ≤ 100000000) :
    Calls Tryz.prog 10 #[.pointer (some ⟨B, 0, none⟩)] w fun e w' => e = .returned (.bool true) ∧ Below w.heap.size w w' := by
  obtain ⟨ba, bc, rfl⟩ := own_slice hX.own
  have hB : B < w.heap.size := (Array.getElem?_eq_some_iff.1 hW).1
  have hc2 : w.cell? ⟨B, 2, none⟩ = some (.slice ba X.length bc) := by rw [cell_of_row w B 2 _ _ _ hW]; rfl
  have HX := hid hX
  clear hX hW
  go_enter Tryz.func10, Tryz.ntmps10
  go_wp2_with fail
  go_loopg [3, 4, 5, 6, 7, 8] X.length (fun gk i x4 x5 x6 x7 x8 wr => ∃ k : Nat, k + gk = X.length ∧ i = .int .i64 k ∧ Below w.heap.size w wr)
  case atStart => exact ⟨0, by omega, rfl, Below.refl _ _⟩
  case round =>
    obtain ⟨k, hk, rfl, hbel⟩ := hrel
    have hc2r : wr.cell? ⟨B, 2, none⟩ = some (.slice ba X.length bc) := (hbel.cell (p := ⟨B, 2, none⟩) hB).trans hc2
    have hzr := hbel.size
    by_cases hlt : k < X.length
    · have hltI : (k : Int) < (X.length : Int) := by omega
      obtain ⟨g, hg0⟩ : ∃ g, ba = some ⟨g, 0, none⟩ := by
        rcases HX.out.own.2 with ⟨_, e⟩ | ⟨g, cap, cur, hv, _⟩
        · omega
        · simp at hv; exact ⟨g, hv.1⟩
      subst hg0
      have hgw := (HX.out.own.lt g rfl).2
      have hcell : ∀ j, j < 5 → wr.cell? ⟨g, k * 5 + j, none⟩ = (entCells X[k])[j]? := fun j hj => by
        rw [hbel.cell (p := ⟨g, k * 5 + j, none⟩) hgw]
        have e := flat_at X k j hlt hj
        have hl5 : j < (entCells X[k]).length := by simp [entCells]; omega
        rw [List.getElem?_eq_getElem hl5] at e ⊢
        have := HX.out.own.cells (g := g) rfl (k * 5 + j) _ e
        rw [rd_add _ _ rfl] at this
        simpa using this
      have hok := HX.out.ok X[k] (List.getElem_mem hlt)
      obtain ⟨⟨xl, x1, x2, x3, xn, xm⟩, HXk⟩ : ∃ x, Hid (X[k] = x) := ⟨_, hid rfl⟩
      rw [HXk.out] at hcell hok
      have e0 : wr.cell? ⟨g, k * 5, none⟩ = some xl := by have := hcell 0 (by omega); simpa [entCells] using this
      have e1 : wr.cell? ⟨g, k * 5 + 1, none⟩ = some x1 := by have := hcell 1 (by omega); simpa [entCells] using this
      have e2 : wr.cell? ⟨g, k * 5 + 2, none⟩ = some x2 := by have := hcell 2 (by omega); simpa [entCells] using this
      have e3 : wr.cell? ⟨g, k * 5 + 3, none⟩ = some x3 := by have := hcell 3 (by omega); simpa [entCells] using this
      have e4 : wr.cell? ⟨g, k * 5 + 4, none⟩ = some (.int .u8 xm.toNat) := by have := hcell 4 (by omega); simpa [entCells] using this
      obtain ⟨al, cl, hvl⟩ := hok.l.slice
      obtain ⟨a1, c1, hv1⟩ := hok.one.slice
      obtain ⟨a2, c2, hv2⟩ := hok.two.slice
      obtain ⟨a3, c3, hv3⟩ := hok.three.slice
      simp only [List.length_replicate] at hvl hv1 hv2 hv3
      subst hvl hv1 hv2 hv3
      have HOK := hid hok
      have hxn := hok.len
      dsimp only at hxn
      clear hcell hok
      go_wp2_with fail
      refine (all_any _ _ xn xm (HOK.out.l.later (hbel.alloc hzr _)) (by omega)).mono ?_; rintro e w1 ⟨rfl, rfl⟩
      go_wp2_with fail
      refine (all_any _ _ (xn + 1) xm (HOK.out.one.later (hbel.alloc hzr _)) (by omega)).mono ?_; rintro e w1 ⟨rfl, rfl⟩
      go_wp2_with fail
      refine (all_any _ _ (xn + 2) xm (HOK.out.two.later (hbel.alloc hzr _)) (by omega)).mono ?_; rintro e w1 ⟨rfl, rfl⟩
      go_wp2_with fail
      refine (all_any _ _ (xn + 3) xm (HOK.out.three.later (hbel.alloc hzr _)) (by omega)).mono ?_; rintro e w1 ⟨rfl, rfl⟩
      go_wp2_with fail
      go_roundg (gk - 1)
      case rel => exact ⟨k + 1, by omega, by go_num, hbel.alloc hzr _⟩
      case measure => omega
    · have hltI : ¬ (k : Int) < (X.length : Int) := by omega
      go_wp2_with fail
      go_ret
      exact ⟨rfl, hbel⟩
end Go.Proofs.YtopcgnjocklcoaaGreatDoor
/- The sum of frames, bytes.Clone, bytes.Equal, isCount, pick. -/
namespace Go.Proofs.YtopcgnjocklcoaaGreatDoor
open Go.RowKit

set_option maxHeartbeats 400000 in
theorem isCount_any (n : Int) (w : World) :
    Calls Tryz.prog 66 #[.int .i64 n] w fun e w' => e = .returned (.bool (decide (1 ≤ n) && decide (n ≤ 120))) ∧ w' = w := by
  go_enter Tryz.func66, Tryz.ntmps66
  go_wp2
  · have h : 1 ≤ n := by assumption
    go_ret
    exact ⟨ret_bool (by simp [h]), rfl⟩
  · have h : n < 1 := by assumption
    go_ret
    exact ⟨ret_bool (by simp; omega), rfl⟩

set_option maxRecDepth 100000 in
set_option maxHeartbeats 1000000 in
theorem bytesEqual_any (w : World) (v v2 : Value) (L M : List UInt8) (h : Rd w v L) (h2 : Rd w v2 M) :
    Calls Tryz.prog 178 #[v, v2] w fun e w' => e = .returned (.bool (decide (L = M))) ∧ w' = w := by
  have hc := h.conv
  have hc2 := h2.conv
  go_enter Tryz.func178, Tryz.ntmps178
  go_wp2
  go_ret
  exact ⟨ret_bool (by rw [Bool.eq_iff_iff]; simp [strOf_toList]), rfl⟩

/-- one bit of the register -/
def crc1 (z : Int) : Int := bif (bits BinOp.and IntKind.u32 z 1 == 1) then bits BinOp.xor IntKind.u32 (z / 2) 3988292384 else z / 2
def crcN : Nat → Int → Int
  | 0, z => z
  | n + 1, z => crc1 (crcN n z)
def crcB (z : Int) (c : UInt8) : Int := crcN 8 (bits BinOp.xor IntKind.u32 z ((c.toNat : Int) % 4294967296))
def crcL (L : List UInt8) : Int := L.foldl crcB 4294967295
def sumI (L : List UInt8) : Int := bits BinOp.xor IntKind.u32 IntKind.u32.max (crcL L)
theorem bits_u32 (op : BinOp) (x y : Int) : 0 ≤ bits op IntKind.u32 x y ∧ bits op IntKind.u32 x y < 4294967296 := by
  unfold bits
  have : ∀ n : Int, 0 ≤ IntKind.u32.wrap n ∧ IntKind.u32.wrap n < 4294967296 := fun n => by
    have e : IntKind.u32.wrap n = n % 4294967296 := by unfold IntKind.wrap; simp [IntKind.bits, IntKind.signed]
    rw [e]; omega
  exact this _
theorem crc1_bd {z : Int} (h : 0 ≤ z ∧ z < 4294967296) : 0 ≤ crc1 z ∧ crc1 z < 4294967296 := by
  unfold crc1
  cases (bits BinOp.and IntKind.u32 z 1 == 1)
  · simp only [cond_false]; omega
  · rw [cond_true]; exact bits_u32 _ _ _
theorem crcN_bd : ∀ (n : Nat) {z : Int}, 0 ≤ z ∧ z < 4294967296 → 0 ≤ crcN n z ∧ crcN n z < 4294967296
  | 0, _, h => h
  | n + 1, _, h => crc1_bd (crcN_bd n h)
theorem crcB_bd (z : Int) (c : UInt8) : 0 ≤ crcB z c ∧ crcB z c < 4294967296 := crcN_bd 8 (bits_u32 _ _ _)
theorem crcL_bd (L : List UInt8) : 0 ≤ crcL L ∧ crcL L < 4294967296 := by
  unfold crcL
  rcases List.eq_nil_or_concat L with rfl | ⟨M, c, rfl⟩
  · simp
  · rw [List.concat_eq_append, List.foldl_append]; exact crcB_bd _ _

set_option maxRecDepth 100000 in
set_option maxHeartbeats 1000000 in
theorem sumOf_any (w : World) (v : Value) (L : List UInt8) (h : Rd w v L) (hl : L.length ≤ 1000000) :
    Calls Tryz.prog 67 #[v] w fun e w' => e = .returned (.int .u32 (sumI L)) ∧ w' = w := by
  obtain ⟨a, c, rfl⟩ := h.slice
  have H := hid h
  clear h
  go_enter Tryz.func67, Tryz.ntmps67
  go_wp2
  go_loop [3, 5, 6, 9] (fun r x5 x6 i => ∃ k : Nat, k ≤ L.length ∧ i = .int .i64 k ∧ r = .int .u32 (crcL (L.take k))) (fun _ _ _ i => L.length - (intOf i).toNat)
  case atStart => exact ⟨0, Nat.zero_le _, rfl, rfl⟩
  case round =>
    obtain ⟨k, hk, rfl, rfl⟩ := hrel
    have hbd := crcL_bd (L.take k)
    by_cases hlt : k < L.length
    · obtain ⟨b, o, c', hv, hb, hc⟩ := H.out.at (by omega)
      obtain ⟨rfl, rfl⟩ : a = some ⟨b, o, none⟩ ∧ c = c' := by simpa using hv
      have hck := hc k hlt
      have HS := hid (show crcL (L.take (k + 1)) = crcB (crcL (L.take k)) L[k] by unfold crcL; rw [List.take_succ_eq_append_getElem hlt, List.foldl_append]; rfl)
      generalize crcL (L.take k) = z at *
      generalize L[k] = d at *
      clear hc
      go_wp2_with fail
      go_loop [3, 6, 17] (fun r x6 j => ∃ q : Nat, q ≤ 8 ∧ j = .int .i64 q ∧ r = .int .u32 (crcN q (bits BinOp.xor IntKind.u32 z ((d.toNat : Int) % 4294967296)))) (fun _ _ j => 8 - (intOf j).toNat)
      case atStart => exact ⟨0, Nat.zero_le _, rfl, rfl⟩
      case round =>
        obtain ⟨q, hq, rfl, rfl⟩ := hrel
        have hbq := crcN_bd q (bits_u32 BinOp.xor z ((d.toNat : Int) % 4294967296))
        by_cases hlt' : q < 8
        · have HQ := hid (show crcN (q + 1) (bits BinOp.xor IntKind.u32 z ((d.toNat : Int) % 4294967296)) = crc1 (crcN q (bits BinOp.xor IntKind.u32 z ((d.toNat : Int) % 4294967296))) from rfl)
          generalize crcN q (bits BinOp.xor IntKind.u32 z ((d.toNat : Int) % 4294967296)) = y at *
          have HC := hid (show crc1 y = bif (bits BinOp.and IntKind.u32 y 1 == 1) then bits BinOp.xor IntKind.u32 (y / 2) 3988292384 else y / 2 from rfl)
          go_wp2_with fail
          · have ht : (bits BinOp.and IntKind.u32 y 1 == 1) = true := by assumption
            go_round
            case rel => exact ⟨q + 1, by omega, by go_num, by rw [HQ.out, HC.out, ht]; rfl⟩
            case measure => simp [intOf]; omega
          · have ht : (bits BinOp.and IntKind.u32 y 1 == 1) = false := by assumption
            go_round
            case rel => exact ⟨q + 1, by omega, by go_num, by rw [HQ.out, HC.out, ht]; rfl⟩
            case measure => simp [intOf]; omega
        · obtain rfl : q = 8 := by omega
          go_wp2_with fail
          go_round
          case rel => exact ⟨k + 1, by omega, by go_num, by rw [HS.out]; rfl⟩
          case measure => simp [intOf]; omega
    · go_wp2_with fail
      go_ret
      exact ⟨ret_int (by rw [List.take_of_length_le (by omega)]; rfl), rfl⟩
end Go.Proofs.YtopcgnjocklcoaaGreatDoor
/- Frames made: bytes.Clone, Wrap, Frame. -/
namespace Go.Proofs.YtopcgnjocklcoaaGreatDoor
open Go.RowKit

/-- the four bytes of the sum -/
def sumB (L : List UInt8) : List UInt8 := [(sumI L / 16777216).toNat.toUInt8, (sumI L / 65536).toNat.toUInt8, (sumI L / 256).toNat.toUInt8, (sumI L).toNat.toUInt8]
theorem sumB_len (L : List UInt8) : (sumB L).length = 4 := rfl

/-- what Wrap answers -/
def WrapPost (w : World) (P : List UInt8) (e : Ending) (w' : World) : Prop :=
  Below w.heap.size w w' ∧ bif okB P.length then ∃ a c, e = .returned (.tuple #[.slice a (frameP sumB P).length c, .int .i64 0]) ∧ Bys w' w.heap.size (.slice a (frameP sumB P).length c) (frameP sumB P)
    else e = .returned (.tuple #[.slice none 0 0, .int .i64 7])

set_option maxRecDepth 100000 in
set_option maxHeartbeats 1000000 in
theorem bytesClone_any (w : World) (v : Value) (L : List UInt8) (h : Rd w v L) (h0 : 0 < L.length) (hl : L.length ≤ 1000000000) :
    Calls Tryz.prog 177 #[v] w fun e w' => ∃ a c, e = .returned (.slice a L.length c) ∧ Bys w' w.heap.size (.slice a L.length c) L ∧ Below w.heap.size w w' := by
  obtain ⟨b, o, c, rfl, hb, _⟩ := h.at h0
  have H := hid h
  clear h
  have hq := eql_nil (some ⟨b, o, none⟩) L.length c w
  go_enter Tryz.func177, Tryz.ntmps177
  go_wp2_with (at_builtin; refine wpList_append_rd _ rfl _ _ rfl _ [] w.heap.size rfl (bys_lit _ [] _ rfl (by simp)) _ L rfl (H.out.later ((Below.refl _ _).alloc (Nat.le_refl _) _)) L rfl (by simp; omega) (by simp) ?_)
  intro a1 c1 w1 hb1 hg1
  have hbel : Below w.heap.size w w1 := ((Below.refl _ _).alloc (Nat.le_refl _) _).trans (hg1.below (fun k hk => by simp [Value.ownBlock] at hk; omega) (by simp))
  go_wp2_with fail
  go_ret
  exact ⟨a1, c1, rfl, hb1, hbel⟩
set_option maxRecDepth 100000 in
set_option maxHeartbeats 1000000 in
theorem wrap_any (w : World) (v : Value) (P : List UInt8) (h : Rd w v P) (hl : P.length ≤ maxLen) :
    Calls Tryz.prog 35 #[v] w (WrapPost w P) := by
  obtain ⟨pa, pc, rfl⟩ := h.slice
  unfold maxLen at hl
  have H := hid h
  clear h
  by_cases hok : okB P.length = true
  · have hb := okB_iff.1 hok
    have hi : (decide (1 ≤ (P.length : Int)) && decide ((P.length : Int) ≤ 120)) = true := by simp; omega
    have HO := hid hok
    clear hok
    go_enter Tryz.func35, Tryz.ntmps35
    go_wp2_with fail
    refine (isCount_any _ _).mono ?_; rintro e w1 ⟨rfl, rfl⟩
    rw [hi]
    have hM0 : ([P.length.toUInt8] ++ P).length ≤ 121 := by simp; omega
    have HF0 := hid (show frameP sumB P = ([P.length.toUInt8] ++ P) ++ sumB ([P.length.toUInt8] ++ P) from rfl)
    obtain ⟨M, HM⟩ : ∃ M, Hid ([P.length.toUInt8] ++ P = M) := ⟨_, rfl⟩
    have hM : M.length ≤ 121 := by rw [← HM.out]; exact hM0
    have HF : Hid (frameP sumB P = M ++ sumB M) := by rw [← HM.out]; exact HF0
    clear hM0 HF0
    go_wp2_with (at_builtin; refine wpList_append_rd _ rfl (.tmp 13) (.tmp 14) rfl _ [P.length.toUInt8] w1.heap.size rfl (bys_one _ _ _ (by rw [toU8_ok hb.2])) _ P rfl (H.out.later ((Below.refl _ _).alloc (Nat.le_refl _) _)) M HM.out (by rw [List.length_singleton]; omega) (by simp) ?_)
    intro a1 c1 w2 hb2 hg2
    have hbel2 : Below w1.heap.size w1 w2 := ((Below.refl _ _).alloc (Nat.le_refl _) _).trans (hg2.below (fun k hk => by simp [Value.ownBlock] at hk; omega) (by simp))
    have hz2 := hbel2.size
    have HB2 := hid hb2
    clear hb2 hg2
    go_wp2_with fail
    refine (sumOf_any _ _ M HB2.out.rd (by omega)).mono ?_; rintro e w3 ⟨rfl, rfl⟩
    have hsb : 0 ≤ sumI M ∧ sumI M < 4294967296 := bits_u32 _ _ _
    have HS := hid (show sumB M = [(sumI M / 16777216).toNat.toUInt8, (sumI M / 65536).toNat.toUInt8, (sumI M / 256).toNat.toUInt8, (sumI M).toNat.toUInt8] from rfl)
    generalize sumI M = z at *
    obtain ⟨FF, HFF⟩ : ∃ FF, Hid (M ++ sumB M = FF) := ⟨_, rfl⟩
    have HF2 : Hid (frameP sumB P = FF) := HF.out.trans HFF.out
    go_wp2_with (at_builtin; refine wpList_append_rd _ rfl (.tmp 18) (.tmp 30) rfl _ M w1.heap.size rfl (HB2.out.same ((Below.refl _ _).alloc (Nat.le_refl _) _)) _ (sumB M) rfl (bys_lit _ (sumB M) _ (by rw [HS.out]; simp [byteCell]; omega) (by rw [HS.out]; simp)).rd FF HFF.out (by rw [HS.out]; simp; omega) (by simp; omega) ?_)
    intro a3 c3 w4 hb4 hg4
    have hbel4 : Below w1.heap.size w1 w4 := (hbel2.alloc hz2 _).trans (hg4.below (fun k hk => (HB2.out.lt k hk).1) (by simp; omega))
    have HB4 := hid hb4
    clear hb4 hg4
    go_wp2_with fail
    go_ret2
    refine ⟨hbel4, ?_⟩
    rw [HO.out, HF2.out]
    exact ⟨a3, c3, rfl, HB4.out⟩
  · have hno : okB P.length = false := by simpa using hok
    have hi : (decide (1 ≤ (P.length : Int)) && decide ((P.length : Int) ≤ 120)) = false := by
      rw [← hno]; unfold okB; rw [Bool.eq_iff_iff]; simp; omega
    have HO := hid hno
    clear hok hno
    go_enter Tryz.func35, Tryz.ntmps35
    go_wp2_with fail
    refine (isCount_any _ _).mono ?_; rintro e w1 ⟨rfl, rfl⟩
    rw [hi]
    go_wp2_with fail
    go_ret2
    refine ⟨Below.refl _ _, ?_⟩
    rw [HO.out]
    rfl
set_option maxRecDepth 100000 in
set_option maxHeartbeats 1000000 in
theorem frame_any (w : World) (v : Value) (P : List UInt8) (h : Rd w v P) (hl : P.length ≤ maxLen) :
    Calls Tryz.prog 20 #[v] w (WrapPost w P) := by
  have H := hid h
  clear h
  by_cases hok : okB P.length = true
  · have HO := hid hok
    clear hok
    go_enter Tryz.func20, Tryz.ntmps20
    go_wp2_with fail
    refine (wrap_any _ _ P H.out hl).mono ?_; rintro e w1 ⟨hbel, hq⟩
    rw [HO.out] at hq
    obtain ⟨a, c, rfl, hB⟩ := hq
    have HB := hid hB
    clear hB
    go_wp2_with fail
    go_ret2
    refine ⟨hbel, ?_⟩
    rw [HO.out]
    exact ⟨a, c, rfl, HB.out⟩
  · have hno : okB P.length = false := by simpa using hok
    have HO := hid hno
    clear hok hno
    go_enter Tryz.func20, Tryz.ntmps20
    go_wp2_with fail
    refine (wrap_any _ _ P H.out hl).mono ?_; rintro e w1 ⟨hbel, hq⟩
    rw [HO.out] at hq
    obtain rfl := hq
    go_wp2_with fail
    go_ret2
    refine ⟨hbel, ?_⟩
    rw [HO.out]
    rfl
end Go.Proofs.YtopcgnjocklcoaaGreatDoor
/- Unwrap: the payload of bytes that are one frame. -/
namespace Go.Proofs.YtopcgnjocklcoaaGreatDoor
open Go.RowKit

/-- what Unwrap answers -/
def UnwrapPost (w : World) (F : List UInt8) (e : Ending) (w' : World) : Prop :=
  Below w.heap.size w w' ∧ match unwrapP sumB F with
    | some P => ∃ a c, e = .returned (.tuple #[.slice a P.length c, .bool true]) ∧ Bys w' w.heap.size (.slice a P.length c) P
    | none => e = .returned (.tuple #[.slice none 0 0, .bool false])
/-- a piece of bytes that can be read -/
theorem Rd.piece {w : World} {b o : Nat} {L : List UInt8} (h : ∀ j (hj : j < L.length), w.cell? ⟨b, o + j, none⟩ = some (.int .u8 (L[j].toNat : Int))) (i n c' : Nat) (hi : i + n ≤ L.length) : Rd w (.slice (some ⟨b, o + i, none⟩) n c') ((L.drop i).take n) := by
  have hlen : ((L.drop i).take n).length = n := by simp; omega
  refine Or.inr ⟨⟨b, o + i, none⟩, c', by rw [hlen], fun j u hu => ?_⟩
  have hj : j < n := by
    rcases Nat.lt_or_ge j n with h | h
    · exact h
    · rw [List.getElem?_eq_none (by simp; omega)] at hu; cases hu
  rw [rd_add _ _ rfl]
  have h1 := h (i + j) (by omega)
  have e : ((L.drop i).take n)[j]? = some L[i + j] := by
    rw [List.getElem?_take_of_lt hj, List.getElem?_drop, List.getElem?_eq_getElem (by omega)]
  rw [List.getElem?_map, e] at hu
  simp at hu
  subst hu
  rw [← Nat.add_assoc] at h1
  exact h1

set_option maxRecDepth 100000 in
set_option maxHeartbeats 1000000 in
theorem unwrap_any (w : World) (a : Option Addr) (c : Nat) (F : List UInt8) (h : Rd w (.slice a F.length c) F) (hl : F.length ≤ maxLen) (hcap : F.length ≤ c) :
    Calls Tryz.prog 147 #[.slice a F.length c] w (UnwrapPost w F) := by
  unfold maxLen at hl
  have H := hid h
  clear h
  by_cases hok : 5 ≤ F.length ∧ okB (F.length - 5) = true
  · have hb := okB_iff.1 hok.2
    obtain ⟨b, o, c', hv, hbl, hc⟩ := H.out.at (by omega)
    obtain ⟨rfl, rfl⟩ : a = some ⟨b, o, none⟩ ∧ c = c' := by simpa using hv
    have hRd := Rd.piece hc 1 (F.length - 5) (c - 1) (by omega)
    have hi : (decide (1 ≤ ((F.length - 5 : Nat) : Int)) && decide (((F.length - 5 : Nat) : Int) ≤ 120)) = true := by simp; omega
    have hn : F.length - 5 ≤ 120 := hb.2
    have hn1 : 1 ≤ F.length - 5 := hb.1
    have hFl : F.length = (F.length - 5) + 5 := by omega
    have HP := hid (show ((F.drop 1).take (F.length - 5)).length = F.length - 5 by simp; omega)
    have HU := hid (show unwrapP sumB F = if frameP sumB ((F.drop 1).take (F.length - 5)) = F then some ((F.drop 1).take (F.length - 5)) else none by
      unfold unwrapP; simp [hok.1, hok.2])
    generalize (F.drop 1).take (F.length - 5) = P at *
    have HRd := hid hRd
    clear hRd hv
    generalize F.length - 5 = n at *
    have HFl := hid hFl
    rw [hFl]
    have hs1 : 1 + (n : Int) ≤ (c : Int) := by omega
    have hs0 : 0 ≤ 1 + (n : Int) := by omega
    have hs2 : ¬ c = 1 := by omega
    clear hFl hl hok hb hc hcap
    go_enter Tryz.func147, Tryz.ntmps147
    go_wp2_with fail
    rw [show (n : Int) + 5 - 1 - 4 = (n : Int) by omega]
    refine (isCount_any _ _).mono ?_; rintro e w1 ⟨rfl, rfl⟩
    rw [hi]
    go_wp2_with fail
    have hz : (1 + (n : Int)).toNat - 1 = n := by omega
    first | rw [hz] | skip
    refine (bytesClone_any _ _ P (by first | exact HRd.out | (rw [HP.out]; exact HRd.out)) (by rw [HP.out]; omega) (by rw [HP.out]; omega)).mono ?_; rintro e w2 ⟨a2, c2, rfl, hB2, hbel2⟩
    have HB2 := hid hB2
    clear hB2
    have hPl : P.length ≤ maxLen := by rw [HP.out]; unfold maxLen; omega
    have hokP : okB P.length = true := by rw [HP.out]; exact okB_iff.2 ⟨hn1, hn⟩
    have HOK := hid hokP
    clear hokP
    go_wp2_with fail
    refine (wrap_any _ _ P HB2.out.rd hPl).mono ?_; rintro e w3 ⟨hbel3, hq⟩
    rw [HOK.out] at hq
    obtain ⟨a3, c3, rfl, hB3⟩ := hq
    have HB3 := hid hB3
    have hbel13 := hbel2.trans (hbel3.mono hbel2.size)
    have HF3 := hid (show Rd w3 (.slice (some ⟨b, o, none⟩) F.length c) F from H.out.later hbel13)
    have HB23 := hid (HB2.out.same hbel3)
    clear hB3
    rw [HFl.out] at HF3
    go_wp2_with fail
    refine (bytesEqual_any _ _ _ (frameP sumB P) F HB3.out.rd HF3.out).mono ?_; rintro e w4 ⟨rfl, rfl⟩
    by_cases hE : frameP sumB P = F
    · have HE := hid hE
      have hd : decide (frameP sumB P = F) = true := by simp [hE]
      rw [hd]
      clear hE hd
      go_wp2_with fail
      go_ret2
      refine ⟨hbel13, ?_⟩
      rw [HU.out, if_pos HE.out]
      exact ⟨a2, c2, rfl, HB23.out⟩
    · have HE := hid hE
      have hd : decide (frameP sumB P = F) = false := by simp [hE]
      rw [hd]
      clear hE hd
      go_wp2_with fail
      go_ret2
      refine ⟨hbel13, ?_⟩
      rw [HU.out, if_neg HE.out]
      rfl
  · have HU := hid (show unwrapP sumB F = none by
      unfold unwrapP; rw [if_neg]; intro h; exact hok ⟨h.1, h.2.1⟩)
    have hi : (decide (1 ≤ (F.length : Int) - 1 - 4) && decide ((F.length : Int) - 1 - 4 ≤ 120)) = false := by
      rcases Nat.lt_or_ge F.length 5 with h5 | h5
      · simp; omega
      · have : ¬ okB (F.length - 5) = true := fun h => hok ⟨h5, h⟩
        rw [okB_iff] at this
        simp; omega
    clear hok
    go_enter Tryz.func147, Tryz.ntmps147
    go_wp2_with fail
    refine (isCount_any _ _).mono ?_; rintro e w1 ⟨rfl, rfl⟩
    rw [hi]
    go_wp2_with fail
    go_ret2
    refine ⟨Below.refl _ _, ?_⟩
    rw [HU.out]
    rfl
end Go.Proofs.YtopcgnjocklcoaaGreatDoor
