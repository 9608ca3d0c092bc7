/- The parser of package schemas: item. -/
import Derived.Test.YtlgjlfobbpgklaaGreatDoorGBlock
namespace Go.Proofs.YtlgjlfobbpgklaaGreatDoor
open Go.RowKit

structure PItem where
  kind : Nat
  name : PTok
  fields : List PField
  names : List PTok
  base : List Value
  answer : List Value
/-- an item, and the slices that hold its lists -/
structure PIV where
  it : PItem
  vf : Value
  vn : Value
def zeroName : List Value := [.string ⟨#[]⟩, .int .i64 0]
def pivCells (x : PIV) : List Value := [.int .i64 x.it.kind] ++ nameCells x.it.name ++ [x.vf] ++ [x.vn] ++ x.it.base ++ x.it.answer
def zeroItem : List Value := [.int .i64 0, .string ⟨#[]⟩, .int .i64 0, .slice none 0 0, .slice none 0 0, .string ⟨#[]⟩, .int .i64 0, .string ⟨#[]⟩, .int .i64 0]
structure PNest (w : World) (lo : Nat) (x : PIV) : Prop where
  f : w.ownsRow lo 291 7 x.vf x.it.fields.length (x.it.fields.flatMap pfCells)
  n : w.ownsRow lo 193 2 x.vn x.it.names.length (x.it.names.flatMap nameCells)
/-- an item: whether it is one, the token behind it or at fault, and what was read -/
def itemT (s : ByteArray) (t : PTok) : Bool × PTok × PItem :=
  if isWordT t wMessage = true then
    (if nameOk (nextP s t) = true then ((blockF s (nextP s (nextP s t))).1, (blockF s (nextP s (nextP s t))).2.1, ⟨0, nextP s t, (blockF s (nextP s (nextP s t))).2.2, [], zeroName, zeroName⟩) else (false, nextP s t, ⟨0, t, [], [], zeroName, zeroName⟩))
  else if isWordT t wEnum = true then
    (if nameOk (nextP s t) = true then ((blockN s (nextP s (nextP s t))).1, (blockN s (nextP s (nextP s t))).2.1, ⟨1, nextP s t, [], (blockN s (nextP s (nextP s t))).2.2, zeroName, zeroName⟩) else (false, nextP s t, ⟨1, t, [], [], zeroName, zeroName⟩))
  else if isWordT t wStream = true then
    (if nameOk (nextP s t) = true then (baseOk (nextP s (nextP s t)), afterT (baseOk (nextP s (nextP s t))) s (nextP s (nextP s t)), ⟨2, nextP s t, [], [], nameCells (nextP s (nextP s t)), zeroName⟩) else (false, nextP s t, ⟨2, t, [], [], zeroName, zeroName⟩))
  else if isWordT t wCall = true then
    (if nameOk (nextP s t) = true then
      (if baseOk (nextP s (nextP s t)) = true then (baseOk (nextP s (nextP s (nextP s t))), afterT (baseOk (nextP s (nextP s (nextP s t)))) s (nextP s (nextP s (nextP s t))), ⟨3, nextP s t, [], [], nameCells (nextP s (nextP s t)), nameCells (nextP s (nextP s (nextP s t)))⟩)
       else (false, nextP s (nextP s t), ⟨3, t, [], [], zeroName, zeroName⟩))
     else (false, nextP s t, ⟨3, t, [], [], zeroName, zeroName⟩))
  else (false, t, ⟨0, t, [], [], zeroName, zeroName⟩)
def ItemPost (w : World) (pb : Nat) (s : ByteArray) (t : PTok) (ib : Nat) (e : Ending) (w' : World) : Prop :=
  e = .returned (.bool (itemT s t).1) ∧ Ps w' pb s (itemT s t).2.1 ∧ Wrote w w' pb ib 0 9 ∧ ((itemT s t).1 = true → ∃ x : PIV, x.it = (itemT s t).2.2 ∧ Seg w' ib 197 0 (pivCells x) ∧ PNest w' w.heap.size x)

set_option maxRecDepth 100000 in
set_option maxHeartbeats 4000000 in
theorem item_message (w : World) (pb : Nat) (s : ByteArray) (t : PTok) (ib : Nat) (h : Ps w pb s t) (ht : Tk s t) (hn : Seg w ib 197 0 zeroItem) (hne : ib ≠ pb) (h1 : ib ≠ 0) (h2 : ib ≠ 1) (hw0 : isWordT t [109, 101, 115, 115, 97, 103, 101] = true) :
    Calls Tryz.prog 128 #[.pointer (some ⟨pb, 0, none⟩), .pointer (some ⟨ib, 0, none⟩)] w (ItemPost w pb s t ib) := by
  have hil := hn.lt
  have H := hid h
  have HT := hid ht
  have HN := hid hn
  clear h ht hn
  generalize hI : itemT s t = R
  have HI := hid hI
  unfold ItemPost
  rw [hI]
  clear hI
  go_enter Tryz.func128, Tryz.ntmps128
  go_wp2_with fail
  refine (word_any _ pb s t _ H.out).mono ?_; rintro e w0 ⟨rfl, hp0, hb0⟩
  have hx0 : isWordT t (ByteArray.mk #[109, 101, 115, 115, 97, 103, 101]).toList = true := by rw [ByteArray.toList_eq]; exact hw0
  rw [hx0] at hp0 ⊢
  have hbk := hb0
  have hsk := HN.out.same (hbk.block ib hil hne)
  have e0 := hsk.cell (j := 0) (v := .int .i64 0) rfl
  have ef : ∀ j, w0.frozen? ⟨ib, j, none⟩ = false := fun j => hsk.frozen j
  simp only [Nat.zero_add] at e0
  have HPK := hid hp0
  have HSK := hid hsk
  have HBK := hid hbk
  clear hsk hbk hp0
  go_wp2_with fail
  have hss := HSK.out.set 0 (.int .i64 0)
  simp only [Nat.zero_add] at hss
  have a0 := hss.part 0 1 [.int .i64 0] rfl rfl (by omega)
  have a1 := hss.part 1 2 zeroName rfl rfl (by omega)
  have a3 := hss.part 3 1 [.slice none 0 0] rfl rfl (by omega)
  have a4 := hss.part 4 1 [.slice none 0 0] rfl rfl (by omega)
  have a5 := hss.part 5 2 zeroName rfl rfl (by omega)
  have a7 := hss.part 7 2 zeroName rfl rfl (by omega)
  simp only [Nat.zero_add] at a0 a1 a3 a4 a5 a7
  have A0 := hid a0
  have A1 := hid a1
  have A3 := hid a3
  have A4 := hid a4
  have A5 := hid a5
  have A7 := hid a7
  have P0 := hid (HPK.out.store (nb := ib) hne h1 h2 0 (.int .i64 0))
  have W0 := hid ((Wrote.ofBut (no := 0) (n := 9) HBK.out hil hne).setCell 0 (by omega) (.int .i64 0))
  have hz0 := W0.out.size
  clear hss a0 a1 a3 a4 a5 a7 e0 ef
  have HT1 := hid HT.out.next
  refine (name_any _ pb s (nextP s t) ib 1 _ _ _ P0.out A1.out hne h1 h2).mono ?_; rintro e w5 ⟨rfl, hp5, hs5, hw5⟩
  have W5 := hid (W0.out.trans (hw5.wide (fo := 0) (m := 9) (by omega) (by omega)))
  have B0 := hid (hw5.seg _ _ _ (Or.inl (by simp)) A0.out)
  have B3 := hid (hw5.seg _ _ _ (Or.inr (by simp)) A3.out)
  have B4 := hid (hw5.seg _ _ _ (Or.inr (by simp)) A4.out)
  have B5 := hid (hw5.seg _ _ _ (Or.inr (by simp)) A5.out)
  have B7 := hid (hw5.seg _ _ _ (Or.inr (by simp)) A7.out)
  have S5 := hid hs5
  have P5 := hid hp5
  have hz5 := W5.out.size
  clear hp5 hs5 hw5 A0 A1 A3 A4 A5 A7 P0 W0
  cases hno : nameOk (nextP s t)
  case' false =>
    have HX := hid (show R.1 = false ∧ R.2.1 = nextP s t by rw [← HI.out]; simp [itemT, wMessage, hw0, hno])
    rw [hno] at P5
    go_wp2_with fail
    go_ret
    exact ⟨by rw [HX.out.1]; rfl, by rw [HX.out.2]; exact P5.out, W5.out, fun hh => (by rw [HX.out.1] at hh; cases hh)⟩
  case' true =>
    rw [hno] at P5
    go_wp2_with fail
    refine (blockF_any _ pb s (nextP s (nextP s t)) ib 3 _ P5.out HT1.out.next B3.out hne h1 h2).mono ?_; rintro e w6 ⟨v, rfl, hp6, hs6, ho6, _, hw6⟩
    have HX := hid (show R = ((blockF s (nextP s (nextP s t))).1, (blockF s (nextP s (nextP s t))).2.1, ⟨0, nextP s t, (blockF s (nextP s (nextP s t))).2.2, [], zeroName, zeroName⟩) by rw [← HI.out]; simp [itemT, wMessage, hw0, hno])
    have W6 := hid (W5.out.trans (hw6.wide (fo := 0) (m := 9) (by omega) (by omega)))
    have C0 := hid (hw6.seg _ _ _ (Or.inl (by simp)) B0.out)
    have C1 := hid (hw6.seg _ _ _ (Or.inl (by simp [nameCells])) S5.out)
    have C4 := hid (hw6.seg _ _ _ (Or.inr (by simp)) B4.out)
    have C5 := hid (hw6.seg _ _ _ (Or.inr (by simp)) B5.out)
    have C7 := hid (hw6.seg _ _ _ (Or.inr (by simp)) B7.out)
    have S6 := hid hs6
    have O6 := hid (own_base ho6 hz5)
    have P6 := hid hp6
    clear hp6 hs6 ho6 hw6
    generalize blockF s (nextP s (nextP s t)) = BB at *
    go_wp2_with fail
    go_ret
    exact ⟨by rw [HX.out]; rfl, by rw [HX.out]; exact P6.out, W6.out, fun _ => ⟨⟨⟨0, nextP s t, BB.2.2, [], zeroName, zeroName⟩, v, .slice none 0 0⟩, by rw [HX.out], (((((C0.out.join C1.out).join S6.out).join C4.out).join C5.out).join C7.out), ⟨O6.out, World.ownsRow_nil _ _ _ _⟩⟩⟩

set_option maxRecDepth 100000 in
set_option maxHeartbeats 4000000 in
theorem item_enum (w : World) (pb : Nat) (s : ByteArray) (t : PTok) (ib : Nat) (h : Ps w pb s t) (ht : Tk s t) (hn : Seg w ib 197 0 zeroItem) (hne : ib ≠ pb) (h1 : ib ≠ 0) (h2 : ib ≠ 1) (hw0 : isWordT t [109, 101, 115, 115, 97, 103, 101] = false) (hw1 : isWordT t [101, 110, 117, 109] = true) :
    Calls Tryz.prog 128 #[.pointer (some ⟨pb, 0, none⟩), .pointer (some ⟨ib, 0, none⟩)] w (ItemPost w pb s t ib) := by
  have hil := hn.lt
  have H := hid h
  have HT := hid ht
  have HN := hid hn
  clear h ht hn
  generalize hI : itemT s t = R
  have HI := hid hI
  unfold ItemPost
  rw [hI]
  clear hI
  go_enter Tryz.func128, Tryz.ntmps128
  go_wp2_with fail
  refine (word_any _ pb s t _ H.out).mono ?_; rintro e w0 ⟨rfl, hp0, hb0⟩
  have hx0 : isWordT t (ByteArray.mk #[109, 101, 115, 115, 97, 103, 101]).toList = false := by rw [ByteArray.toList_eq]; exact hw0
  rw [hx0] at hp0 ⊢
  go_wp2_with fail
  refine (word_any _ pb s t _ hp0).mono ?_; rintro e w1 ⟨rfl, hp1, hb1⟩
  have hx1 : isWordT t (ByteArray.mk #[101, 110, 117, 109]).toList = true := by rw [ByteArray.toList_eq]; exact hw1
  rw [hx1] at hp1 ⊢
  have hbk := (hb0.trans hb1)
  have hsk := HN.out.same (hbk.block ib hil hne)
  have e0 := hsk.cell (j := 0) (v := .int .i64 0) rfl
  have ef : ∀ j, w1.frozen? ⟨ib, j, none⟩ = false := fun j => hsk.frozen j
  simp only [Nat.zero_add] at e0
  have HPK := hid hp1
  have HSK := hid hsk
  have HBK := hid hbk
  clear hsk hbk hp1
  go_wp2_with fail
  have hss := HSK.out.set 0 (.int .i64 1)
  simp only [Nat.zero_add] at hss
  have a0 := hss.part 0 1 [.int .i64 1] rfl rfl (by omega)
  have a1 := hss.part 1 2 zeroName rfl rfl (by omega)
  have a3 := hss.part 3 1 [.slice none 0 0] rfl rfl (by omega)
  have a4 := hss.part 4 1 [.slice none 0 0] rfl rfl (by omega)
  have a5 := hss.part 5 2 zeroName rfl rfl (by omega)
  have a7 := hss.part 7 2 zeroName rfl rfl (by omega)
  simp only [Nat.zero_add] at a0 a1 a3 a4 a5 a7
  have A0 := hid a0
  have A1 := hid a1
  have A3 := hid a3
  have A4 := hid a4
  have A5 := hid a5
  have A7 := hid a7
  have P0 := hid (HPK.out.store (nb := ib) hne h1 h2 0 (.int .i64 1))
  have W0 := hid ((Wrote.ofBut (no := 0) (n := 9) HBK.out hil hne).setCell 0 (by omega) (.int .i64 1))
  have hz0 := W0.out.size
  clear hss a0 a1 a3 a4 a5 a7 e0 ef
  have HT1 := hid HT.out.next
  refine (name_any _ pb s (nextP s t) ib 1 _ _ _ P0.out A1.out hne h1 h2).mono ?_; rintro e w5 ⟨rfl, hp5, hs5, hw5⟩
  have W5 := hid (W0.out.trans (hw5.wide (fo := 0) (m := 9) (by omega) (by omega)))
  have B0 := hid (hw5.seg _ _ _ (Or.inl (by simp)) A0.out)
  have B3 := hid (hw5.seg _ _ _ (Or.inr (by simp)) A3.out)
  have B4 := hid (hw5.seg _ _ _ (Or.inr (by simp)) A4.out)
  have B5 := hid (hw5.seg _ _ _ (Or.inr (by simp)) A5.out)
  have B7 := hid (hw5.seg _ _ _ (Or.inr (by simp)) A7.out)
  have S5 := hid hs5
  have P5 := hid hp5
  have hz5 := W5.out.size
  clear hp5 hs5 hw5 A0 A1 A3 A4 A5 A7 P0 W0
  cases hno : nameOk (nextP s t)
  case' false =>
    have HX := hid (show R.1 = false ∧ R.2.1 = nextP s t by rw [← HI.out]; simp [itemT, wMessage, wEnum, hw0, hw1, hno])
    rw [hno] at P5
    go_wp2_with fail
    go_ret
    exact ⟨by rw [HX.out.1]; rfl, by rw [HX.out.2]; exact P5.out, W5.out, fun hh => (by rw [HX.out.1] at hh; cases hh)⟩
  case' true =>
    rw [hno] at P5
    go_wp2_with fail
    refine (blockN_any _ pb s (nextP s (nextP s t)) ib 4 _ P5.out HT1.out.next B4.out hne h1 h2).mono ?_; rintro e w6 ⟨v, rfl, hp6, hs6, ho6, _, hw6⟩
    have HX := hid (show R = ((blockN s (nextP s (nextP s t))).1, (blockN s (nextP s (nextP s t))).2.1, ⟨1, nextP s t, [], (blockN s (nextP s (nextP s t))).2.2, zeroName, zeroName⟩) by rw [← HI.out]; simp [itemT, wMessage, wEnum, hw0, hw1, hno])
    have W6 := hid (W5.out.trans (hw6.wide (fo := 0) (m := 9) (by omega) (by omega)))
    have C0 := hid (hw6.seg _ _ _ (Or.inl (by simp)) B0.out)
    have C1 := hid (hw6.seg _ _ _ (Or.inl (by simp [nameCells])) S5.out)
    have C3 := hid (hw6.seg _ _ _ (Or.inl (by simp)) B3.out)
    have C5 := hid (hw6.seg _ _ _ (Or.inr (by simp)) B5.out)
    have C7 := hid (hw6.seg _ _ _ (Or.inr (by simp)) B7.out)
    have S6 := hid hs6
    have O6 := hid (own_base ho6 hz5)
    have P6 := hid hp6
    clear hp6 hs6 ho6 hw6
    generalize blockN s (nextP s (nextP s t)) = BB at *
    go_wp2_with fail
    go_ret
    exact ⟨by rw [HX.out]; rfl, by rw [HX.out]; exact P6.out, W6.out, fun _ => ⟨⟨⟨1, nextP s t, [], BB.2.2, zeroName, zeroName⟩, .slice none 0 0, v⟩, by rw [HX.out], (((((C0.out.join C1.out).join C3.out).join S6.out).join C5.out).join C7.out), ⟨World.ownsRow_nil _ _ _ _, O6.out⟩⟩⟩

set_option maxRecDepth 100000 in
set_option maxHeartbeats 4000000 in
theorem item_stream (w : World) (pb : Nat) (s : ByteArray) (t : PTok) (ib : Nat) (h : Ps w pb s t) (ht : Tk s t) (hn : Seg w ib 197 0 zeroItem) (hne : ib ≠ pb) (h1 : ib ≠ 0) (h2 : ib ≠ 1) (hw0 : isWordT t [109, 101, 115, 115, 97, 103, 101] = false) (hw1 : isWordT t [101, 110, 117, 109] = false) (hw2 : isWordT t [115, 116, 114, 101, 97, 109] = true) :
    Calls Tryz.prog 128 #[.pointer (some ⟨pb, 0, none⟩), .pointer (some ⟨ib, 0, none⟩)] w (ItemPost w pb s t ib) := by
  have hil := hn.lt
  have H := hid h
  have HT := hid ht
  have HN := hid hn
  clear h ht hn
  generalize hI : itemT s t = R
  have HI := hid hI
  unfold ItemPost
  rw [hI]
  clear hI
  go_enter Tryz.func128, Tryz.ntmps128
  go_wp2_with fail
  refine (word_any _ pb s t _ H.out).mono ?_; rintro e w0 ⟨rfl, hp0, hb0⟩
  have hx0 : isWordT t (ByteArray.mk #[109, 101, 115, 115, 97, 103, 101]).toList = false := by rw [ByteArray.toList_eq]; exact hw0
  rw [hx0] at hp0 ⊢
  go_wp2_with fail
  refine (word_any _ pb s t _ hp0).mono ?_; rintro e w1 ⟨rfl, hp1, hb1⟩
  have hx1 : isWordT t (ByteArray.mk #[101, 110, 117, 109]).toList = false := by rw [ByteArray.toList_eq]; exact hw1
  rw [hx1] at hp1 ⊢
  go_wp2_with fail
  refine (word_any _ pb s t _ hp1).mono ?_; rintro e w2 ⟨rfl, hp2, hb2⟩
  have hx2 : isWordT t (ByteArray.mk #[115, 116, 114, 101, 97, 109]).toList = true := by rw [ByteArray.toList_eq]; exact hw2
  rw [hx2] at hp2 ⊢
  have hbk := ((hb0.trans hb1).trans hb2)
  have hsk := HN.out.same (hbk.block ib hil hne)
  have e0 := hsk.cell (j := 0) (v := .int .i64 0) rfl
  have ef : ∀ j, w2.frozen? ⟨ib, j, none⟩ = false := fun j => hsk.frozen j
  simp only [Nat.zero_add] at e0
  have HPK := hid hp2
  have HSK := hid hsk
  have HBK := hid hbk
  clear hsk hbk hp2
  go_wp2_with fail
  have hss := HSK.out.set 0 (.int .i64 2)
  simp only [Nat.zero_add] at hss
  have a0 := hss.part 0 1 [.int .i64 2] rfl rfl (by omega)
  have a1 := hss.part 1 2 zeroName rfl rfl (by omega)
  have a3 := hss.part 3 1 [.slice none 0 0] rfl rfl (by omega)
  have a4 := hss.part 4 1 [.slice none 0 0] rfl rfl (by omega)
  have a5 := hss.part 5 2 zeroName rfl rfl (by omega)
  have a7 := hss.part 7 2 zeroName rfl rfl (by omega)
  simp only [Nat.zero_add] at a0 a1 a3 a4 a5 a7
  have A0 := hid a0
  have A1 := hid a1
  have A3 := hid a3
  have A4 := hid a4
  have A5 := hid a5
  have A7 := hid a7
  have P0 := hid (HPK.out.store (nb := ib) hne h1 h2 0 (.int .i64 2))
  have W0 := hid ((Wrote.ofBut (no := 0) (n := 9) HBK.out hil hne).setCell 0 (by omega) (.int .i64 2))
  have hz0 := W0.out.size
  clear hss a0 a1 a3 a4 a5 a7 e0 ef
  have HT1 := hid HT.out.next
  refine (name_any _ pb s (nextP s t) ib 1 _ _ _ P0.out A1.out hne h1 h2).mono ?_; rintro e w5 ⟨rfl, hp5, hs5, hw5⟩
  have W5 := hid (W0.out.trans (hw5.wide (fo := 0) (m := 9) (by omega) (by omega)))
  have B0 := hid (hw5.seg _ _ _ (Or.inl (by simp)) A0.out)
  have B3 := hid (hw5.seg _ _ _ (Or.inr (by simp)) A3.out)
  have B4 := hid (hw5.seg _ _ _ (Or.inr (by simp)) A4.out)
  have B5 := hid (hw5.seg _ _ _ (Or.inr (by simp)) A5.out)
  have B7 := hid (hw5.seg _ _ _ (Or.inr (by simp)) A7.out)
  have S5 := hid hs5
  have P5 := hid hp5
  have hz5 := W5.out.size
  clear hp5 hs5 hw5 A0 A1 A3 A4 A5 A7 P0 W0
  cases hno : nameOk (nextP s t)
  case' false =>
    have HX := hid (show R.1 = false ∧ R.2.1 = nextP s t by rw [← HI.out]; simp [itemT, wMessage, wEnum, wStream, hw0, hw1, hw2, hno])
    rw [hno] at P5
    go_wp2_with fail
    go_ret
    exact ⟨by rw [HX.out.1]; rfl, by rw [HX.out.2]; exact P5.out, W5.out, fun hh => (by rw [HX.out.1] at hh; cases hh)⟩
  case' true =>
    rw [hno] at P5
    go_wp2_with fail
    refine (base_any _ pb s (nextP s (nextP s t)) ib 5 _ _ _ P5.out B5.out hne h1 h2).mono ?_; rintro e w6 ⟨rfl, hp6, hs6, hw6⟩
    have HX := hid (show R = (baseOk (nextP s (nextP s t)), afterT (baseOk (nextP s (nextP s t))) s (nextP s (nextP s t)), ⟨2, nextP s t, [], [], nameCells (nextP s (nextP s t)), zeroName⟩) by rw [← HI.out]; simp [itemT, wMessage, wEnum, wStream, hw0, hw1, hw2, hno])
    have W6 := hid (W5.out.trans (hw6.wide (fo := 0) (m := 9) (by omega) (by omega)))
    have C0 := hid (hw6.seg _ _ _ (Or.inl (by simp)) B0.out)
    have C1 := hid (hw6.seg _ _ _ (Or.inl (by simp [nameCells])) S5.out)
    have C3 := hid (hw6.seg _ _ _ (Or.inl (by simp)) B3.out)
    have C4 := hid (hw6.seg _ _ _ (Or.inl (by simp)) B4.out)
    have C7 := hid (hw6.seg _ _ _ (Or.inr (by simp)) B7.out)
    have S6 := hid hs6
    have P6 := hid hp6
    clear hp6 hs6 hw6
    go_wp2_with fail
    go_ret
    exact ⟨by rw [HX.out]; rfl, by rw [HX.out]; exact P6.out, W6.out, fun _ => ⟨⟨⟨2, nextP s t, [], [], nameCells (nextP s (nextP s t)), zeroName⟩, .slice none 0 0, .slice none 0 0⟩, by rw [HX.out], (((((C0.out.join C1.out).join C3.out).join C4.out).join S6.out).join C7.out), ⟨World.ownsRow_nil _ _ _ _, World.ownsRow_nil _ _ _ _⟩⟩⟩

set_option maxRecDepth 100000 in
set_option maxHeartbeats 4000000 in
theorem item_call (w : World) (pb : Nat) (s : ByteArray) (t : PTok) (ib : Nat) (h : Ps w pb s t) (ht : Tk s t) (hn : Seg w ib 197 0 zeroItem) (hne : ib ≠ pb) (h1 : ib ≠ 0) (h2 : ib ≠ 1) (hw0 : isWordT t [109, 101, 115, 115, 97, 103, 101] = false) (hw1 : isWordT t [101, 110, 117, 109] = false) (hw2 : isWordT t [115, 116, 114, 101, 97, 109] = false) (hw3 : isWordT t [99, 97, 108, 108] = true) :
    Calls Tryz.prog 128 #[.pointer (some ⟨pb, 0, none⟩), .pointer (some ⟨ib, 0, none⟩)] w (ItemPost w pb s t ib) := by
  have hil := hn.lt
  have H := hid h
  have HT := hid ht
  have HN := hid hn
  clear h ht hn
  generalize hI : itemT s t = R
  have HI := hid hI
  unfold ItemPost
  rw [hI]
  clear hI
  go_enter Tryz.func128, Tryz.ntmps128
  go_wp2_with fail
  refine (word_any _ pb s t _ H.out).mono ?_; rintro e w0 ⟨rfl, hp0, hb0⟩
  have hx0 : isWordT t (ByteArray.mk #[109, 101, 115, 115, 97, 103, 101]).toList = false := by rw [ByteArray.toList_eq]; exact hw0
  rw [hx0] at hp0 ⊢
  go_wp2_with fail
  refine (word_any _ pb s t _ hp0).mono ?_; rintro e w1 ⟨rfl, hp1, hb1⟩
  have hx1 : isWordT t (ByteArray.mk #[101, 110, 117, 109]).toList = false := by rw [ByteArray.toList_eq]; exact hw1
  rw [hx1] at hp1 ⊢
  go_wp2_with fail
  refine (word_any _ pb s t _ hp1).mono ?_; rintro e w2 ⟨rfl, hp2, hb2⟩
  have hx2 : isWordT t (ByteArray.mk #[115, 116, 114, 101, 97, 109]).toList = false := by rw [ByteArray.toList_eq]; exact hw2
  rw [hx2] at hp2 ⊢
  go_wp2_with fail
  refine (word_any _ pb s t _ hp2).mono ?_; rintro e w3 ⟨rfl, hp3, hb3⟩
  have hx3 : isWordT t (ByteArray.mk #[99, 97, 108, 108]).toList = true := by rw [ByteArray.toList_eq]; exact hw3
  rw [hx3] at hp3 ⊢
  have hbk := (((hb0.trans hb1).trans hb2).trans hb3)
  have hsk := HN.out.same (hbk.block ib hil hne)
  have e0 := hsk.cell (j := 0) (v := .int .i64 0) rfl
  have ef : ∀ j, w3.frozen? ⟨ib, j, none⟩ = false := fun j => hsk.frozen j
  simp only [Nat.zero_add] at e0
  have HPK := hid hp3
  have HSK := hid hsk
  have HBK := hid hbk
  clear hsk hbk hp3
  go_wp2_with fail
  have hss := HSK.out.set 0 (.int .i64 3)
  simp only [Nat.zero_add] at hss
  have a0 := hss.part 0 1 [.int .i64 3] rfl rfl (by omega)
  have a1 := hss.part 1 2 zeroName rfl rfl (by omega)
  have a3 := hss.part 3 1 [.slice none 0 0] rfl rfl (by omega)
  have a4 := hss.part 4 1 [.slice none 0 0] rfl rfl (by omega)
  have a5 := hss.part 5 2 zeroName rfl rfl (by omega)
  have a7 := hss.part 7 2 zeroName rfl rfl (by omega)
  simp only [Nat.zero_add] at a0 a1 a3 a4 a5 a7
  have A0 := hid a0
  have A1 := hid a1
  have A3 := hid a3
  have A4 := hid a4
  have A5 := hid a5
  have A7 := hid a7
  have P0 := hid (HPK.out.store (nb := ib) hne h1 h2 0 (.int .i64 3))
  have W0 := hid ((Wrote.ofBut (no := 0) (n := 9) HBK.out hil hne).setCell 0 (by omega) (.int .i64 3))
  have hz0 := W0.out.size
  clear hss a0 a1 a3 a4 a5 a7 e0 ef
  have HT1 := hid HT.out.next
  refine (name_any _ pb s (nextP s t) ib 1 _ _ _ P0.out A1.out hne h1 h2).mono ?_; rintro e w5 ⟨rfl, hp5, hs5, hw5⟩
  have W5 := hid (W0.out.trans (hw5.wide (fo := 0) (m := 9) (by omega) (by omega)))
  have B0 := hid (hw5.seg _ _ _ (Or.inl (by simp)) A0.out)
  have B3 := hid (hw5.seg _ _ _ (Or.inr (by simp)) A3.out)
  have B4 := hid (hw5.seg _ _ _ (Or.inr (by simp)) A4.out)
  have B5 := hid (hw5.seg _ _ _ (Or.inr (by simp)) A5.out)
  have B7 := hid (hw5.seg _ _ _ (Or.inr (by simp)) A7.out)
  have S5 := hid hs5
  have P5 := hid hp5
  have hz5 := W5.out.size
  clear hp5 hs5 hw5 A0 A1 A3 A4 A5 A7 P0 W0
  cases hno : nameOk (nextP s t)
  case' false =>
    have HX := hid (show R.1 = false ∧ R.2.1 = nextP s t by rw [← HI.out]; simp [itemT, wMessage, wEnum, wStream, wCall, hw0, hw1, hw2, hw3, hno])
    rw [hno] at P5
    go_wp2_with fail
    go_ret
    exact ⟨by rw [HX.out.1]; rfl, by rw [HX.out.2]; exact P5.out, W5.out, fun hh => (by rw [HX.out.1] at hh; cases hh)⟩
  case' true =>
    rw [hno] at P5
    go_wp2_with fail
    refine (base_any _ pb s (nextP s (nextP s t)) ib 5 _ _ _ P5.out B5.out hne h1 h2).mono ?_; rintro e w6 ⟨rfl, hp6, hs6, hw6⟩
    have W6 := hid (W5.out.trans (hw6.wide (fo := 0) (m := 9) (by omega) (by omega)))
    have C0 := hid (hw6.seg _ _ _ (Or.inl (by simp)) B0.out)
    have C1 := hid (hw6.seg _ _ _ (Or.inl (by simp [nameCells])) S5.out)
    have C3 := hid (hw6.seg _ _ _ (Or.inl (by simp)) B3.out)
    have C4 := hid (hw6.seg _ _ _ (Or.inl (by simp)) B4.out)
    have C7 := hid (hw6.seg _ _ _ (Or.inr (by simp)) B7.out)
    have S6 := hid hs6
    have P6 := hid hp6
    clear hp6 hs6 hw6 B0 B3 B4 B5 B7 S5 P5
    cases hbo : baseOk (nextP s (nextP s t))
    case' false =>
      have HX := hid (show R.1 = false ∧ R.2.1 = nextP s (nextP s t) by rw [← HI.out]; simp [itemT, wMessage, wEnum, wStream, wCall, hw0, hw1, hw2, hw3, hno, hbo])
      rw [hbo] at P6
      go_wp2_with fail
      go_ret
      exact ⟨by rw [HX.out.1]; rfl, by rw [HX.out.2]; exact P6.out, W6.out, fun hh => (by rw [HX.out.1] at hh; cases hh)⟩
    case' true =>
      rw [hbo] at P6
      have HX := hid (show R = (baseOk (nextP s (nextP s (nextP s t))), afterT (baseOk (nextP s (nextP s (nextP s t)))) s (nextP s (nextP s (nextP s t))), ⟨3, nextP s t, [], [], nameCells (nextP s (nextP s t)), nameCells (nextP s (nextP s (nextP s t)))⟩) by rw [← HI.out]; simp [itemT, wMessage, wEnum, wStream, wCall, hw0, hw1, hw2, hw3, hno, hbo])
      go_wp2_with fail
      refine (base_any _ pb s (nextP s (nextP s (nextP s t))) ib 7 _ _ _ P6.out C7.out hne h1 h2).mono ?_; rintro e w7 ⟨rfl, hp7, hs7, hw7⟩
      have W7 := hid (W6.out.trans (hw7.wide (fo := 0) (m := 9) (by omega) (by omega)))
      have D0 := hid (hw7.seg _ _ _ (Or.inl (by simp)) C0.out)
      have D1 := hid (hw7.seg _ _ _ (Or.inl (by simp [nameCells])) C1.out)
      have D3 := hid (hw7.seg _ _ _ (Or.inl (by simp)) C3.out)
      have D4 := hid (hw7.seg _ _ _ (Or.inl (by simp)) C4.out)
      have D5 := hid (hw7.seg _ _ _ (Or.inl (by simp [nameCells])) S6.out)
      have S7 := hid hs7
      have P7 := hid hp7
      clear hp7 hs7 hw7
      go_wp2_with fail
      go_ret
      exact ⟨by rw [HX.out]; rfl, by rw [HX.out]; exact P7.out, W7.out, fun _ => ⟨⟨⟨3, nextP s t, [], [], nameCells (nextP s (nextP s t)), nameCells (nextP s (nextP s (nextP s t)))⟩, .slice none 0 0, .slice none 0 0⟩, by rw [HX.out], (((((D0.out.join D1.out).join D3.out).join D4.out).join D5.out).join S7.out), ⟨World.ownsRow_nil _ _ _ _, World.ownsRow_nil _ _ _ _⟩⟩⟩

set_option maxRecDepth 100000 in
set_option maxHeartbeats 4000000 in
theorem item_none (w : World) (pb : Nat) (s : ByteArray) (t : PTok) (ib : Nat) (h : Ps w pb s t) (ht : Tk s t) (hn : Seg w ib 197 0 zeroItem) (hne : ib ≠ pb) (_h1 : ib ≠ 0) (_h2 : ib ≠ 1) (hw0 : isWordT t [109, 101, 115, 115, 97, 103, 101] = false) (hw1 : isWordT t [101, 110, 117, 109] = false) (hw2 : isWordT t [115, 116, 114, 101, 97, 109] = false) (hw3 : isWordT t [99, 97, 108, 108] = false) :
    Calls Tryz.prog 128 #[.pointer (some ⟨pb, 0, none⟩), .pointer (some ⟨ib, 0, none⟩)] w (ItemPost w pb s t ib) := by
  have hil := hn.lt
  have H := hid h
  have HT := hid ht
  have HN := hid hn
  clear h ht hn
  generalize hI : itemT s t = R
  have HI := hid hI
  unfold ItemPost
  rw [hI]
  clear hI
  have HX := hid (show R.1 = false ∧ R.2.1 = t by rw [← HI.out]; simp [itemT, wMessage, wEnum, wStream, wCall, hw0, hw1, hw2, hw3])
  go_enter Tryz.func128, Tryz.ntmps128
  go_wp2_with fail
  refine (word_any _ pb s t _ H.out).mono ?_; rintro e w0 ⟨rfl, hp0, hb0⟩
  have hx0 : isWordT t (ByteArray.mk #[109, 101, 115, 115, 97, 103, 101]).toList = false := by rw [ByteArray.toList_eq]; exact hw0
  rw [hx0] at hp0 ⊢
  go_wp2_with fail
  refine (word_any _ pb s t _ hp0).mono ?_; rintro e w1 ⟨rfl, hp1, hb1⟩
  have hx1 : isWordT t (ByteArray.mk #[101, 110, 117, 109]).toList = false := by rw [ByteArray.toList_eq]; exact hw1
  rw [hx1] at hp1 ⊢
  go_wp2_with fail
  refine (word_any _ pb s t _ hp1).mono ?_; rintro e w2 ⟨rfl, hp2, hb2⟩
  have hx2 : isWordT t (ByteArray.mk #[115, 116, 114, 101, 97, 109]).toList = false := by rw [ByteArray.toList_eq]; exact hw2
  rw [hx2] at hp2 ⊢
  go_wp2_with fail
  refine (word_any _ pb s t _ hp2).mono ?_; rintro e w3 ⟨rfl, hp3, hb3⟩
  have hx3 : isWordT t (ByteArray.mk #[99, 97, 108, 108]).toList = false := by rw [ByteArray.toList_eq]; exact hw3
  rw [hx3] at hp3 ⊢
  have hbk := ((hb0.trans hb1).trans hb2).trans hb3
  go_wp2_with fail
  go_ret
  exact ⟨by rw [HX.out.1]; rfl, by rw [HX.out.2]; exact hp3, Wrote.ofBut hbk hil hne, fun hh => (by rw [HX.out.1] at hh; cases hh)⟩

theorem item_any (w : World) (pb : Nat) (s : ByteArray) (t : PTok) (ib : Nat) (h : Ps w pb s t) (ht : Tk s t) (hn : Seg w ib 197 0 zeroItem) (hne : ib ≠ pb) (h1 : ib ≠ 0) (h2 : ib ≠ 1) :
    Calls Tryz.prog 128 #[.pointer (some ⟨pb, 0, none⟩), .pointer (some ⟨ib, 0, none⟩)] w (ItemPost w pb s t ib) := by
  cases e0 : isWordT t [109, 101, 115, 115, 97, 103, 101]
  · cases e1 : isWordT t [101, 110, 117, 109]
    · cases e2 : isWordT t [115, 116, 114, 101, 97, 109]
      · cases e3 : isWordT t [99, 97, 108, 108]
        · exact item_none w pb s t ib h ht hn hne h1 h2 e0 e1 e2 e3
        · exact item_call w pb s t ib h ht hn hne h1 h2 e0 e1 e2 e3
      · exact item_stream w pb s t ib h ht hn hne h1 h2 e0 e1 e2
    · exact item_enum w pb s t ib h ht hn hne h1 h2 e0 e1
  · exact item_message w pb s t ib h ht hn hne h1 h2 e0
end Go.Proofs.YtlgjlfobbpgklaaGreatDoor
