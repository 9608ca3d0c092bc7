/- The parser of package schemas: step, mark, word; isWord, IsBuiltin. -/
import Derived.Test.YtlgjlfobbpgklaaGreatDoorCProgScan
namespace Go.Proofs.YtlgjlfobbpgklaaGreatDoor
open Go.RowKit

/-- all that was there is as it was, but for one block -/
structure But (pb : Nat) (w w' : World) : Prop where
  os : w'.os = w.os
  tape : w'.tape = w.tape
  output : w'.output = w.output
  size : w.heap.size ≤ w'.heap.size
  block : ∀ k, k < w.heap.size → k ≠ pb → w'.heap[k]? = w.heap[k]?
theorem But.refl (pb : Nat) (w : World) : But pb w w := ⟨rfl, rfl, rfl, Nat.le_refl _, fun _ _ _ => rfl⟩
theorem But.trans {pb : Nat} {a b c : World} (h : But pb a b) (k : But pb b c) : But pb a c :=
  ⟨k.os.trans h.os, k.tape.trans h.tape, k.output.trans h.output, Nat.le_trans h.size k.size, fun i hi hp => (k.block i (Nat.lt_of_lt_of_le hi h.size) hp).trans (h.block i hi hp)⟩
theorem But.ofBelow {pb : Nat} {w w' : World} (h : Below w.heap.size w w') : But pb w w' := ⟨h.os, h.tape, h.output, h.size, fun k hk _ => h.block k hk⟩
theorem But.setCell {pb : Nat} {w w' : World} (h : But pb w w') (q : Nat) (v : Value) : But pb w (w'.setCell ⟨pb, q, none⟩ v) :=
  ⟨h.os, h.tape, h.output, by simpa [World.setCell] using h.size, fun k hk hp => (Below.heap_setCell _ _ _ _ hp).trans (h.block k hk hp)⟩
theorem But.drew {pb : Nat} {w w' : World} (h : But pb w w') : But pb w w'.drew := ⟨h.os, h.tape, h.output, h.size, h.block⟩
theorem Vars.but {pb : Nat} {w w' : World} (h : Vars w) (hb : But pb w w') (h1 : pb ≠ 0) (h2 : pb ≠ 1) : Vars w' := by
  obtain ⟨te, pe, e1⟩ := h.sx
  obtain ⟨tf, pf, e2⟩ := h.rg
  have l1 := h.lt1
  have l2 := h.lt2
  exact ⟨⟨te, pe, (World.cell?_of_block (w := w) (a := ⟨0, 0, none⟩) (hb.block _ l1 (Ne.symm h1))).trans e1⟩, ⟨tf, pf, (World.cell?_of_block (w := w) (a := ⟨1, 0, none⟩) (hb.block _ l2 (Ne.symm h2))).trans e2⟩, Nat.lt_of_lt_of_le l1 hb.size, Nat.lt_of_lt_of_le l2 hb.size⟩

/-- the parser, as it lies in memory -/
def psCells (s : ByteArray) (t : PTok) : List Value := [.string s, .int .i64 t.kind, .string t.text, .int .i64 t.at_]
structure Ps (w : World) (pb : Nat) (s : ByteArray) (t : PTok) : Prop where
  seg : Seg w pb 218 0 (psCells s t)
  vars : Vars w
  ne1 : pb ≠ 0
  ne2 : pb ≠ 1
  fit : t.at_ + t.text.size ≤ s.size
  sz : s.size ≤ 400
theorem Ps.below {w w' : World} {pb : Nat} {s : ByteArray} {t : PTok} (h : Ps w pb s t) (hb : Below w.heap.size w w') : Ps w' pb s t :=
  ⟨h.seg.same (hb.block pb h.seg.lt), h.vars.below hb, h.ne1, h.ne2, h.fit, h.sz⟩
/-- the next token -/
def nextP (s : ByteArray) (t : PTok) : PTok := scanP s (t.at_ + t.text.size)
def afterT (b : Bool) (s : ByteArray) (t : PTok) : PTok := match b with | true => nextP s t | false => t
theorem scanAt_fit (s : ByteArray) (k : Nat) (hk : k ≤ s.size) : (scanAt s k).at_ + (scanAt s k).text.size ≤ s.size := by
  unfold scanAt
  split
  · show k + 0 ≤ s.size; omega
  · split
    · simp [ByteArray.size_extract]; omega
    · have := runEnd_le s s.size k hk
      have := runEnd_ge s s.size k
      simp [ByteArray.size_extract]; omega
theorem nextP_fit {s : ByteArray} {t : PTok} (h : t.at_ + t.text.size ≤ s.size) : (nextP s t).at_ + (nextP s t).text.size ≤ s.size :=
  scanAt_fit s _ (bEnd_le s _ h)

set_option maxRecDepth 100000 in
set_option maxHeartbeats 2000000 in
theorem step_any (w : World) (pb : Nat) (s : ByteArray) (t : PTok) (h : Ps w pb s t) :
    Calls Tryz.prog 127 #[.pointer (some ⟨pb, 0, none⟩)] w fun e w' => e = .returned (.tuple #[]) ∧ Ps w' pb s (nextP s t) ∧ But pb w w' := by
  have c0 := h.seg.cell (j := 0) (v := .string s) rfl
  have c1 := h.seg.cell (j := 1) (v := .int .i64 t.kind) rfl
  have c2 := h.seg.cell (j := 2) (v := .string t.text) rfl
  have c3 := h.seg.cell (j := 3) (v := .int .i64 t.at_) rfl
  simp only [Nat.zero_add] at c0 c1 c2 c3
  have hfit := h.fit
  have hsz := h.sz
  have hwr : IntKind.i64.wrap ((t.at_ : Int) + (t.text.size : Int)) = (t.at_ : Int) + (t.text.size : Int) := pwrap_small _ (by omega) (by omega)
  have hcast : (t.at_ : Int) + (t.text.size : Int) = ((t.at_ + t.text.size : Nat) : Int) := by omega
  have HC := hid hcast
  have H := hid h
  clear h hcast
  go_enter Tryz.func127, Tryz.ntmps127
  go_wp2_with fail
  go_region_with (go_at_call 188; rw [HC.out]; refine (scan_any s (t.at_ + t.text.size) _ (H.out.vars.below (Below.refl _ _).drew) hsz hfit).mono ?_; rintro e w4 ⟨rfl, hb4⟩; have hp4 := (H.out.below (Below.refl _ _).drew).below hb4; have y1 := hp4.seg.cell (j := 1) (v := .int .i64 t.kind) rfl; have y2 := hp4.seg.cell (j := 2) (v := .string t.text) rfl; have y3 := hp4.seg.cell (j := 3) (v := .int .i64 t.at_) rfl; have yf : ∀ j, w4.frozen? ⟨pb, j, none⟩ = false := fun j => hp4.seg.frozen j; simp only [Nat.zero_add] at y1 y2 y3)
  all_goals
    go_wp2_with fail
    go_end0
    have hb5 : Below w.heap.size w w4 := ((Below.refl w.heap.size w).drew).trans hb4
    have hbut := (((But.ofBelow (pb := pb) hb5).setCell 1 (.int .i64 (scanP s (t.at_ + t.text.size)).kind)).setCell 2 (.string (scanP s (t.at_ + t.text.size)).text)).setCell 3 (.int .i64 (scanP s (t.at_ + t.text.size)).at_)
    have hseg := ((hp4.seg.set 1 (.int .i64 (scanP s (t.at_ + t.text.size)).kind)).set 2 (.string (scanP s (t.at_ + t.text.size)).text)).set 3 (.int .i64 (scanP s (t.at_ + t.text.size)).at_)
    simp only [Nat.zero_add] at hseg
    exact ⟨rfl, ⟨hseg, H.out.vars.but hbut H.out.ne1 H.out.ne2, H.out.ne1, H.out.ne2, nextP_fit hfit, hsz⟩, hbut⟩

set_option maxRecDepth 100000 in
set_option maxHeartbeats 1000000 in
theorem mark_any (w : World) (pb : Nat) (s : ByteArray) (t : PTok) (k : Nat) (h : Ps w pb s t) :
    Calls Tryz.prog 265 #[.pointer (some ⟨pb, 0, none⟩), .int .i64 k] w fun e w' => e = .returned (.bool (t.kind == k)) ∧ Ps w' pb s (afterT (t.kind == k) s t) ∧ But pb w w' := by
  have c1 := h.seg.cell (j := 1) (v := .int .i64 t.kind) rfl
  simp only [Nat.zero_add] at c1
  have H := hid h
  clear h
  cases hk : (t.kind == k) with
  | true =>
    have hne : ((t.kind : Int) != (k : Int)) = false := by have := eq_of_beq hk; simp; omega
    go_enter Tryz.func265, Tryz.ntmps265
    go_wp2_with fail
    refine (step_any _ pb s t H.out).mono ?_; rintro e w1 ⟨rfl, hp1, hb1⟩
    go_wp2_with fail
    go_ret
    exact ⟨rfl, hp1, hb1⟩
  | false =>
    have hne : ((t.kind : Int) != (k : Int)) = true := by have := ne_of_beq_false hk; simp; omega
    go_enter Tryz.func265, Tryz.ntmps265
    go_wp2_with fail
    go_ret
    exact ⟨rfl, H.out, But.refl _ _⟩

def isWordT (t : PTok) (l : List UInt8) : Bool := (t.text.toList == l) && (t.kind == 2)
set_option maxRecDepth 100000 in
set_option maxHeartbeats 1000000 in
theorem word_any (w : World) (pb : Nat) (s : ByteArray) (t : PTok) (l : ByteArray) (h : Ps w pb s t) :
    Calls Tryz.prog 189 #[.pointer (some ⟨pb, 0, none⟩), .string l] w fun e w' => e = .returned (.bool (isWordT t l.toList)) ∧ Ps w' pb s (afterT (isWordT t l.toList) s t) ∧ But pb w w' := by
  have c2 := h.seg.cell (j := 2) (v := .string t.text) rfl
  simp only [Nat.zero_add] at c2
  have H := hid h
  clear h
  generalize hI : isWordT t l.toList = b
  have HI := hid hI
  clear hI
  cases hw : (t.text.toList == l.toList) with
  | false =>
    have HW := hid (show b = false by rw [← HI.out]; simp only [isWordT, hw]; rfl)
    go_enter Tryz.func189, Tryz.ntmps189
    go_wp2_with fail
    go_ret
    exact ⟨ret_bool HW.out.symm, by rw [HW.out]; exact H.out, But.refl _ _⟩
  | true =>
    have HW := hid (show b = (t.kind == 2) by rw [← HI.out]; simp only [isWordT, hw]; rfl)
    go_enter Tryz.func189, Tryz.ntmps189
    go_wp2_with fail
    refine (mark_any _ pb s t 2 H.out).mono ?_; rintro e w1 ⟨rfl, hp1, hb1⟩
    rw [← HW.out] at hp1 ⊢
    go_wp2_with fail
    go_ret
    exact ⟨rfl, hp1, hb1⟩
end Go.Proofs.YtlgjlfobbpgklaaGreatDoor
