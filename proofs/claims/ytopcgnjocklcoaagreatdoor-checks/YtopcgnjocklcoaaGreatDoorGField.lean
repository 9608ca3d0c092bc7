/- The parser of package schemas: field. -/
import Derived.Test.YtopcgnjocklcoaaGreatDoorGProgName
import Derived.Test.YtopcgnjocklcoaaGreatDoorGRead
namespace Go.Proofs.YtopcgnjocklcoaaGreatDoor
open Go.RowKit

theorem Wrote.wide {w w' : World} {pb nb no n fo m : Nat} (h : Wrote w w' pb nb no n) (h1 : fo ≤ no) (h2 : no + n ≤ fo + m) : Wrote w w' pb nb fo m :=
  ⟨h.os, h.tape, h.output, h.size, h.block, fun T p xs hp hs => h.seg T p xs (by omega) hs, h.len⟩
theorem Wrote.trans {a b c : World} {pb nb no n : Nat} (h : Wrote a b pb nb no n) (k : Wrote b c pb nb no n) : Wrote a c pb nb no n :=
  ⟨k.os.trans h.os, k.tape.trans h.tape, k.output.trans h.output, Nat.le_trans h.size k.size, fun i hi hp hn => (k.block i (Nat.lt_of_lt_of_le hi h.size) hp hn).trans (h.block i hi hp hn), fun T p xs hp hs => k.seg T p xs hp (h.seg T p xs hp hs), fun T cur hc => by
    obtain ⟨c', h1, h2⟩ := h.len T cur hc
    obtain ⟨c'', h3, h4⟩ := k.len T c' h1
    exact ⟨c'', h3, by omega⟩⟩
theorem Seg.join {w : World} {b : Nat} {T : TypeId} {o : Nat} {xs ys : List Value} (h : Seg w b T o xs) (k : Seg w b T (o + xs.length) ys) : Seg w b T o (xs ++ ys) := by
  obtain ⟨cur, hb, hs, ht⟩ := h
  obtain ⟨cur', hb', hs', ht'⟩ := k
  rw [hb] at hb'
  simp only [Option.some.injEq, Obj.cells.injEq, and_true, and_self] at hb'
  subst hb'
  refine ⟨cur, hb, by rw [List.length_append]; omega, ?_⟩
  rw [List.length_append, List.take_add, ht, List.drop_drop, ht']

/-- how far a field is read: whether it is one, and the token behind it or at fault -/
def fieldT (s : ByteArray) (t0 : PTok) : Bool × PTok :=
  if (t0.kind == 3) = true then
    if nameOk (nextP s t0) = true then
      if baseOk (afterT (shapeOk (nextP s (nextP s t0))) s (nextP s (nextP s t0))) = true then (true, nextP s (afterT (shapeOk (nextP s (nextP s t0))) s (nextP s (nextP s t0))))
      else (false, afterT (shapeOk (nextP s (nextP s t0))) s (nextP s (nextP s t0)))
    else (false, nextP s t0)
  else (false, t0)
structure PField where
  number : Int
  numberAt : Nat
  name : ByteArray
  nameAt : Nat
  shape : Nat
  base : ByteArray
  baseAt : Nat
def pfCells (f : PField) : List Value := [.int .i64 f.number, .int .i64 f.numberAt, .string f.name, .int .i64 f.nameAt, .int .i64 f.shape, .string f.base, .int .i64 f.baseAt]
def fieldV (s : ByteArray) (t0 : PTok) (n : Int) : PField :=
  ⟨n, t0.at_, (nextP s t0).text, (nextP s t0).at_, shapeP (nextP s (nextP s t0)), (afterT (shapeOk (nextP s (nextP s t0))) s (nextP s (nextP s t0))).text, (afterT (shapeOk (nextP s (nextP s t0))) s (nextP s (nextP s t0))).at_⟩

set_option maxRecDepth 100000 in
set_option maxHeartbeats 2000000 in
theorem field_any (w : World) (pb : Nat) (s : ByteArray) (t : PTok) (fb : Nat) (T : TypeId) (d0 d1 d2 d3 d4 d5 d6 : Value) (h : Ps w pb s t) (hn : Seg w fb T 0 [d0, d1, d2, d3, d4, d5, d6]) (hne : fb ≠ pb) (h1 : fb ≠ 1) (h2 : fb ≠ 2) :
    Calls Tryz.prog 113 #[.pointer (some ⟨pb, 0, none⟩), .pointer (some ⟨fb, 0, none⟩)] w fun e w' => e = .returned (.bool (fieldT s t).1) ∧ Ps w' pb s (fieldT s t).2 ∧ Wrote w w' pb fb 0 7 ∧ ((fieldT s t).1 = true → ∃ n : Int, (numB t.text.toList = true → n = numI t.text.toList) ∧ Seg w' fb T 0 (pfCells (fieldV s t n))) := by
  have a0 := hn.part 0 2 [d0, d1] rfl rfl (by omega)
  have a1 := hn.part 2 2 [d2, d3] rfl rfl (by omega)
  have a2 := hn.part 4 1 [d4] rfl rfl (by omega)
  have a3 := hn.part 5 2 [d5, d6] rfl rfl (by omega)
  simp only [Nat.zero_add] at a0 a1 a2 a3
  generalize hF : fieldT s t = F
  have HF := hid hF
  have H := hid h
  have A0 := hid a0
  have A1 := hid a1
  have A2 := hid a2
  have A3 := hid a3
  clear h hn hF a0 a1 a2 a3
  go_enter Tryz.func113, Tryz.ntmps113
  go_wp2_with fail
  refine (number_any _ pb s t fb 0 T d0 d1 H.out A0.out hne h1 h2).mono ?_; rintro e w1 ⟨n, rfl, hnum, hp1, hs1, hw1⟩
  have HNM := hid hnum
  have W1 := hid (hw1.wide (fo := 0) (m := 7) (by omega) (by omega))
  have B1 := hid (hw1.seg _ _ _ (Or.inr (by simp)) A1.out)
  have B2 := hid (hw1.seg _ _ _ (Or.inr (by simp)) A2.out)
  have B3 := hid (hw1.seg _ _ _ (Or.inr (by simp)) A3.out)
  have S1 := hid hs1
  have P1 := hid hp1
  clear hnum hw1 hs1 hp1 A0 A1 A2 A3
  cases hk : (t.kind == 3)
  case' false =>
    have HX := hid (show F = (false, t) by rw [← HF.out]; simp [fieldT, hk])
    rw [hk] at P1
    go_wp2_with fail
    go_ret
    exact ⟨by rw [HX.out]; rfl, by rw [HX.out]; exact P1.out, W1.out, fun hh => by rw [HX.out] at hh; cases hh⟩
  case' true =>
    rw [hk] at P1
    go_wp2_with fail
    refine (name_any _ pb s (nextP s t) fb 2 T d2 d3 P1.out B1.out hne h1 h2).mono ?_; rintro e w2 ⟨rfl, hp2, hs2, hw2⟩
    have W2 := hid (W1.out.trans (hw2.wide (fo := 0) (m := 7) (by omega) (by omega)))
    have C0 := hid (hw2.seg _ _ _ (Or.inl (by simp)) S1.out)
    have C2 := hid (hw2.seg _ _ _ (Or.inr (by simp)) B2.out)
    have C3 := hid (hw2.seg _ _ _ (Or.inr (by simp)) B3.out)
    have S2 := hid hs2
    have P2 := hid hp2
    clear hp2 hs2 hw2 B1 B2 B3 S1 P1 W1
    cases hno : nameOk (nextP s t)
    case' false =>
      have HX := hid (show F = (false, nextP s t) by rw [← HF.out]; simp [fieldT, hk, hno])
      rw [hno] at P2
      go_wp2_with fail
      go_ret
      exact ⟨by rw [HX.out]; rfl, by rw [HX.out]; exact P2.out, W2.out, fun hh => by rw [HX.out] at hh; cases hh⟩
    case' true =>
      rw [hno] at P2
      go_wp2_with fail
      refine (shape_any _ pb s (nextP s (nextP s t)) fb 4 T d4 P2.out C2.out hne h1 h2).mono ?_; rintro e w3 ⟨rfl, hp3, hs3, hw3⟩
      have W3 := hid (W2.out.trans (hw3.wide (fo := 0) (m := 7) (by omega) (by omega)))
      have D0 := hid (hw3.seg _ _ _ (Or.inl (by simp)) C0.out)
      have D1 := hid (hw3.seg _ _ _ (Or.inl (by simp [nameCells])) S2.out)
      have D3 := hid (hw3.seg _ _ _ (Or.inr (by simp)) C3.out)
      have S3 := hid hs3
      have P3 := hid hp3
      clear hp3 hs3 hw3 C0 C2 C3 S2 P2 W2
      go_wp2_with fail
      refine (base_any _ pb s (afterT (shapeOk (nextP s (nextP s t))) s (nextP s (nextP s t))) fb 5 T d5 d6 P3.out D3.out hne h1 h2).mono ?_; rintro e w4 ⟨rfl, hp4, hs4, hw4⟩
      have W4 := hid (W3.out.trans (hw4.wide (fo := 0) (m := 7) (by omega) (by omega)))
      have E0 := hid (hw4.seg _ _ _ (Or.inl (by simp)) D0.out)
      have E1 := hid (hw4.seg _ _ _ (Or.inl (by simp [nameCells])) D1.out)
      have E2 := hid (hw4.seg _ _ _ (Or.inl (by simp)) S3.out)
      have P4 := hid hp4
      have S4 := hid hs4
      clear hp4 hs4 hw4 D0 D1 D3 S3 P3 W3
      cases hbo : baseOk (afterT (shapeOk (nextP s (nextP s t))) s (nextP s (nextP s t)))
      case' false =>
        have HX := hid (show F = (false, afterT (shapeOk (nextP s (nextP s t))) s (nextP s (nextP s t))) by rw [← HF.out]; simp [fieldT, hk, hno, hbo])
        rw [hbo] at P4
        go_wp2_with fail
        go_ret
        exact ⟨by rw [HX.out]; rfl, by rw [HX.out]; exact P4.out, W4.out, fun hh => by rw [HX.out] at hh; cases hh⟩
      case' true =>
        have HX := hid (show F = (true, nextP s (afterT (shapeOk (nextP s (nextP s t))) s (nextP s (nextP s t)))) by rw [← HF.out]; simp [fieldT, hk, hno, hbo])
        rw [hbo] at P4
        go_wp2_with fail
        go_ret
        exact ⟨by rw [HX.out]; rfl, by rw [HX.out]; exact P4.out, W4.out, fun _ => ⟨n, HNM.out, ((E0.out.join E1.out).join E2.out).join S4.out⟩⟩
end Go.Proofs.YtopcgnjocklcoaaGreatDoor
/- Tokens that a scan gave: they go on, and a NUMBER is one (no walk). -/
namespace Go.Proofs.YtopcgnjocklcoaaGreatDoor
open Go.RowKit

def Tk (s : ByteArray) (t : PTok) : Prop := ∃ i, i ≤ s.size ∧ t = scanP s i
theorem bEnd_ge (s : ByteArray) (i : Nat) : i ≤ bEnd s i := by
  unfold bEnd
  have : ∀ f i, i ≤ blankEnd s f i := by
    intro f
    induction f with
    | zero => intro i; exact Nat.le_refl _
    | succ f ih => intro i; unfold blankEnd; split
                   · exact Nat.le_trans (Nat.le_succ i) (ih (i + 1))
                   · exact Nat.le_refl _
  exact this _ _
theorem Tk.fit {s : ByteArray} {t : PTok} (h : Tk s t) : t.at_ + t.text.size ≤ s.size := by
  obtain ⟨i, hi, rfl⟩ := h
  exact scanAt_fit s _ (bEnd_le s i hi)
theorem Tk.next {s : ByteArray} {t : PTok} (h : Tk s t) : Tk s (nextP s t) := ⟨_, h.fit, rfl⟩
theorem Tk.after {s : ByteArray} {t : PTok} (h : Tk s t) (b : Bool) : Tk s (afterT b s t) := by
  cases b
  · exact h
  · exact h.next
theorem scanAt_at (s : ByteArray) (k : Nat) : (scanAt s k).at_ = k := by
  unfold scanAt; split
  · rfl
  · split <;> rfl
theorem next_at (s : ByteArray) (t : PTok) : t.at_ + t.text.size ≤ (nextP s t).at_ := by
  unfold nextP scanP; rw [scanAt_at]; exact bEnd_ge s _
theorem after_at (s : ByteArray) (t : PTok) (b : Bool) : t.at_ ≤ (afterT b s t).at_ := by
  cases b
  · exact Nat.le_refl _
  · have := next_at s t; show t.at_ ≤ (nextP s t).at_; omega
theorem markK_cases (c : Int) : markK c = 4 ∨ markK c = 5 ∨ markK c = 1 := by
  unfold markK; split
  · simp
  · split <;> simp
theorem Tk.num {s : ByteArray} {t : PTok} (h : Tk s t) (hk : t.kind = 3) : numB t.text.toList = true := by
  obtain ⟨i, hi, rfl⟩ := h
  unfold scanP scanAt at *
  split at hk
  · simp at hk
  · split at hk
    · rename_i h1 h2
      rcases markK_cases (B s (bEnd s i)) with h | h | h <;> (simp only at hk; omega)
    · rename_i h1 h2
      rw [if_neg h1, if_neg h2]
      simp only [runK] at hk ⊢
      split at hk
      · omega
      · split at hk
        · assumption
        · omega
theorem Tk.pos {s : ByteArray} {t : PTok} (h : Tk s t) (hk : t.kind ≠ 0) : 1 ≤ t.text.size := by
  obtain ⟨i, hi, rfl⟩ := h
  have hb := bEnd_le s i hi
  unfold scanP scanAt at *
  split at hk
  · simp at hk
  · rename_i h1
    rw [if_neg h1]
    split
    · simp [ByteArray.size_extract]; omega
    · rename_i h2
      have h3 := runEnd_ge s s.size (bEnd s i)
      have h4 := runEnd_le s s.size (bEnd s i) hb
      simp [ByteArray.size_extract]; omega

theorem fieldT_tk {s : ByteArray} {t : PTok} (h : Tk s t) : Tk s (fieldT s t).2 := by
  unfold fieldT
  split
  · split
    · split
      · exact ((h.next.next).after _).next
      · exact (h.next.next).after _
    · exact h.next
  · exact h
theorem fieldT_at {s : ByteArray} {t : PTok} (h : Tk s t) (hf : (fieldT s t).1 = true) : t.at_ < (fieldT s t).2.at_ ∧ t.kind = 3 := by
  unfold fieldT at *
  split at hf
  · rename_i hk
    have hk3 : t.kind = 3 := eq_of_beq hk
    have hp := h.pos (by omega)
    split at hf
    · split at hf
      · rename_i h1 h2
        rw [if_pos hk, if_pos h1, if_pos h2]
        refine ⟨?_, hk3⟩
        have a1 := next_at s t
        have a2 := next_at s (nextP s t)
        have a3 := after_at s (nextP s (nextP s t)) (shapeOk (nextP s (nextP s t)))
        have a4 := next_at s (afterT (shapeOk (nextP s (nextP s t))) s (nextP s (nextP s t)))
        simp only
        omega
      · simp at hf
    · simp at hf
  · simp at hf

/-- the fields between braces: whether they are some, the token behind them or at fault, and what was read -/
def fieldsT (s : ByteArray) : Nat → PTok → List PField → Bool × PTok × List PField
  | 0, t, L => (false, t, L)
  | f + 1, t, L =>
    if (fieldT s t).1 = true then
      if ((fieldT s t).2.kind == 5) = true then (true, nextP s (fieldT s t).2, L ++ [fieldV s t (numI t.text.toList)])
      else fieldsT s f (fieldT s t).2 (L ++ [fieldV s t (numI t.text.toList)])
    else (false, (fieldT s t).2, L)
def blockF (s : ByteArray) (t : PTok) : Bool × PTok × List PField := if (t.kind == 4) = true then fieldsT s (s.size + 1) (nextP s t) [] else (false, t, [])
end Go.Proofs.YtopcgnjocklcoaaGreatDoor
