/- The statement's own lists: 'own' makes a list its owner's, 'all' and 'looks' look at them. -/
import Derived.Test.YtlgjlfobbpgklaaGreatDoorCLawFill
namespace Go.Proofs.YtlgjlfobbpgklaaGreatDoor
open Go.RowKit

theorem Rd.turn {w w' : World} {v : Value} {L : List UInt8} (h : Rd w v L) (hs : ∀ k, v.ownBlock = some k → 0 < L.length → w'.heap[k]? = w.heap[k]?) : Rd w' v L := by
  rcases h with h | ⟨a, c, rfl, hc⟩
  · exact Or.inl h
  · refine Or.inr ⟨a, c, rfl, fun j u hu => ?_⟩
    have hl : 0 < L.length := by
      rcases Nat.eq_zero_or_pos L.length with e | e
      · have := List.eq_nil_of_length_eq_zero e; subst this; simp at hu
      · exact e
    have h2 : (a.add j).block = a.block := by unfold Addr.add; split <;> rfl
    rw [World.cell?_of_block (w := w) (w' := w') (a := a.add j) (by rw [h2]; exact hs a.block rfl hl)]
    exact hc j u hu
/-- of what was there only blocks in S have turned -/
structure Turn (w w' : World) (S : Nat → Prop) : Prop where
  os : w'.os = w.os
  tape : w'.tape = w.tape
  output : w'.output = w.output
  size : w.heap.size ≤ w'.heap.size
  block : ∀ k, k < w.heap.size → ¬ S k → w'.heap[k]? = w.heap[k]?
theorem Turn.refl (w : World) (S : Nat → Prop) : Turn w w S := ⟨rfl, rfl, rfl, Nat.le_refl _, fun _ _ _ => rfl⟩
theorem Turn.trans {w w1 w2 : World} {S S' : Nat → Prop} (h : Turn w w1 S) (k : Turn w1 w2 S') (hS : ∀ q, q < w.heap.size → S' q → S q) : Turn w w2 S :=
  ⟨k.os.trans h.os, k.tape.trans h.tape, k.output.trans h.output, Nat.le_trans h.size k.size, fun q hq hn => (k.block q (Nat.lt_of_lt_of_le hq h.size) (fun hs => hn (hS q hq hs))).trans (h.block q hq hn)⟩
theorem Turn.weak {w w' : World} {S S' : Nat → Prop} (h : Turn w w' S) (hS : ∀ k, S k → S' k) : Turn w w' S' := ⟨h.os, h.tape, h.output, h.size, fun k hk hn => h.block k hk (fun hs => hn (hS k hs))⟩
theorem Turn.of_below {w w' : World} {S : Nat → Prop} (h : Below w.heap.size w w') : Turn w w' S := ⟨h.os, h.tape, h.output, h.size, fun k hk _ => h.block k hk⟩
theorem Turn.of_grew {w w' : World} {v v' : Value} (h : Grew w w' v v') : Turn w w' (fun k => v.ownBlock = some k) := ⟨h.g.os, h.g.tape, h.g.output, h.g.size, fun k hk hn => h.g.block k hk (fun e => hn e.symm)⟩
theorem Turn.setCell (w : World) (b i : Nat) (u : Value) : Turn w (w.setCell ⟨b, i, none⟩ u) (fun k => k = b) := ⟨rfl, rfl, rfl, by simp [World.setCell], fun k _ hn => Below.heap_setCell _ _ _ _ hn⟩
theorem Turn.below {w w' : World} {S : Nat → Prop} (h : Turn w w' S) {B : Nat} (hB : B ≤ w.heap.size) (hS : ∀ k, k < B → ¬ S k) : Below B w w' := ⟨h.os, h.tape, h.output, h.size, fun k hk => h.block k (by omega) (hS k hk)⟩
/-- one byte of bytes of one's own is written -/
theorem Bys.put {w : World} {lo g c : Nat} {L : List UInt8} (h : Bys w lo (.slice (some ⟨g, 0, none⟩) L.length c) L) (i : Nat) (m : UInt8) : Bys (w.setCell ⟨g, i, none⟩ (byteCell m)) lo (.slice (some ⟨g, 0, none⟩) (L.set i m).length c) (L.set i m) := by
  rcases h.2 with ⟨h0, _⟩ | ⟨g', cap, cur, hv, hb, hh, h1, h2, h3, h4⟩
  · simp at h0
  · simp at hv
    obtain ⟨rfl, rfl⟩ := hv
    refine ⟨by simp, .inr ⟨g, c, cur.setIfInBounds i (byteCell m), rfl, hb, ?_, by simpa using h1, h2, by simpa using h3, ?_⟩⟩
    · simp only [World.setCell, Array.getElem?_modify, hh]
      simp
    · rw [Array.toList_setIfInBounds, List.length_set, List.take_set, h4, List.map_set]
/-- a list that is its owner's, and three others begun at it -/
structure Ent where
  l : Value
  one : Value
  two : Value
  three : Value
  n : Nat
  m : UInt8
def entVals (x : Ent) : List Value := [x.l, x.one, x.two, x.three]
def entCells (x : Ent) : List Value := [x.l, x.one, x.two, x.three, .int .u8 x.m.toNat]
structure EntOk (w : World) (x : Ent) : Prop where
  l : Rd w x.l (List.replicate x.n x.m)
  one : Rd w x.one (List.replicate (x.n + 1) x.m)
  two : Rd w x.two (List.replicate (x.n + 2) x.m)
  three : Rd w x.three (List.replicate (x.n + 3) x.m)
  len : x.n ≤ 1000000000
  blk : ∀ u ∈ entVals x, ∀ k, u.ownBlock = some k → ∃ cur, w.heap[k]? = some (.cells cur 5 (0, 0))
theorem EntOk.turn {w w' : World} {x : Ent} (h : EntOk w x) (hs : ∀ u ∈ entVals x, ∀ k, u.ownBlock = some k → w'.heap[k]? = w.heap[k]?) : EntOk w' x :=
  ⟨h.l.turn (fun k hk _ => hs _ (by simp [entVals]) k hk), h.one.turn (fun k hk _ => hs _ (by simp [entVals]) k hk), h.two.turn (fun k hk _ => hs _ (by simp [entVals]) k hk), h.three.turn (fun k hk _ => hs _ (by simp [entVals]) k hk), h.len,
    fun u hu k hk => by rw [hs u hu k hk]; exact h.blk u hu k hk⟩
def WAt (w : World) (B : Nat) (dv ev bv : Value) : Prop := w.heap[B]? = some (.cells #[dv, ev, bv] 63 (0, 0))
structure Ents (w : World) (lo : Nat) (bv : Value) (X : List Ent) : Prop where
  own : w.ownsRow lo 100 5 bv X.length (X.flatMap entCells)
  ok : ∀ x ∈ X, EntOk w x
theorem Tryz.infoEnt : (Tryz.prog.info? 100).map (fun i => (i.zero, i.size, i.bytes)) = some (some (.agg #[.slice none 0 0, .slice none 0 0, .slice none 0 0, .slice none 0 0, .int .u8 0]), 5, 104) := by kernel_rfl

set_option maxRecDepth 100000 in
set_option maxHeartbeats 1000000 in
theorem all_any (w : World) (v : Value) (n : Nat) (m : UInt8) (h : Rd w v (List.replicate n m)) (hn : n ≤ 100000000000) :
    Calls Tryz.prog 46 #[v, .int .u8 m.toNat] w fun e w' => e = .returned (.bool true) ∧ w' = w := by
  obtain ⟨a, c, hv⟩ := h.slice
  rw [List.length_replicate] at hv
  subst hv
  have H := hid h
  clear h
  go_enter Tryz.func46, Tryz.ntmps46
  go_wp2_with fail
  go_loop [5] (fun i => ∃ k : Nat, k ≤ n ∧ i = .int .i64 k) (fun i => n - (intOf i).toNat)
  case atStart => exact ⟨0, Nat.zero_le _, rfl⟩
  case round =>
    obtain ⟨k, hk, rfl⟩ := hrel
    by_cases hlt : k < n
    · obtain ⟨b, o, c', hv, hb, hc⟩ := H.out.at (by simp; omega)
      rw [List.length_replicate] at hv
      obtain ⟨rfl, rfl⟩ : a = some ⟨b, o, none⟩ ∧ c = c' := by simpa using hv
      have hck := hc k (by simpa using hlt)
      rw [List.getElem_replicate] at hck
      have hltI : (k : Int) < (n : Int) := by omega
      clear hc hv
      go_wp2_with fail
      go_round
      case rel => exact ⟨k + 1, by omega, by go_num⟩
      case measure => simp [intOf]; omega
    · have hltI : ¬ (k : Int) < (n : Int) := by omega
      go_wp2_with fail
      go_ret
      exact ⟨rfl, rfl⟩
theorem flat_at : ∀ (X : List Ent) (k j : Nat) (hk : k < X.length), j < 5 → (X.flatMap entCells)[k * 5 + j]? = (entCells X[k])[j]?
  | x :: r, 0, j, _, hj => by
    rw [List.flatMap_cons, List.getElem?_append_left (by simp [entCells]; omega)]; simp
  | x :: r, k + 1, j, hk, hj => by
    have ih := flat_at r k j (by simpa using hk) hj
    rw [List.flatMap_cons, List.getElem?_append_right (by simp [entCells]; omega)]
    have e : (k + 1) * 5 + j - (entCells x).length = k * 5 + j := by simp [entCells]; omega
    rw [e, ih]; rfl
set_option maxRecDepth 100000 in
set_option maxHeartbeats 2000000 in
theorem looks_any (w : World) (B lo : Nat) (dv ev bv : Value) (X : List Ent) (hW : WAt w B dv ev bv) (hX : Ents w lo bv X) (hl : X.length ≤ 100000000) :
    Calls Tryz.prog 21 #[.pointer (some ⟨B, 0, none⟩)] w fun e w' => e = .returned (.bool true) ∧ Below w.heap.size w w' := by
  obtain ⟨ba, bc, rfl⟩ := own_slice hX.own
  have hB : B < w.heap.size := (Array.getElem?_eq_some_iff.1 hW).1
  have hc2 : w.cell? ⟨B, 2, none⟩ = some (.slice ba X.length bc) := by rw [cell_of_row w B 2 _ _ _ hW]; rfl
  have HX := hid hX
  clear hX hW
  go_enter Tryz.func21, Tryz.ntmps21
  go_wp2_with fail
  go_loopg [3, 4, 5, 6, 7, 8] X.length (fun gk i x4 x5 x6 x7 x8 wr => ∃ k : Nat, k + gk = X.length ∧ i = .int .i64 k ∧ Below w.heap.size w wr)
  case atStart => exact ⟨0, by omega, rfl, Below.refl _ _⟩
  case round =>
    obtain ⟨k, hk, rfl, hbel⟩ := hrel
    have hc2r : wr.cell? ⟨B, 2, none⟩ = some (.slice ba X.length bc) := (hbel.cell (p := ⟨B, 2, none⟩) hB).trans hc2
    have hzr := hbel.size
    by_cases hlt : k < X.length
    · have hltI : (k : Int) < (X.length : Int) := by omega
      obtain ⟨g, hg0⟩ : ∃ g, ba = some ⟨g, 0, none⟩ := by
        rcases HX.out.own.2 with ⟨_, e⟩ | ⟨g, cap, cur, hv, _⟩
        · omega
        · simp at hv; exact ⟨g, hv.1⟩
      subst hg0
      have hgw := (HX.out.own.lt g rfl).2
      have hcell : ∀ j, j < 5 → wr.cell? ⟨g, k * 5 + j, none⟩ = (entCells X[k])[j]? := fun j hj => by
        rw [hbel.cell (p := ⟨g, k * 5 + j, none⟩) hgw]
        have e := flat_at X k j hlt hj
        have hl5 : j < (entCells X[k]).length := by simp [entCells]; omega
        rw [List.getElem?_eq_getElem hl5] at e ⊢
        have := HX.out.own.cells (g := g) rfl (k * 5 + j) _ e
        rw [rd_add _ _ rfl] at this
        simpa using this
      have hok := HX.out.ok X[k] (List.getElem_mem hlt)
      obtain ⟨⟨xl, x1, x2, x3, xn, xm⟩, HXk⟩ : ∃ x, Hid (X[k] = x) := ⟨_, hid rfl⟩
      rw [HXk.out] at hcell hok
      have e0 : wr.cell? ⟨g, k * 5, none⟩ = some xl := by have := hcell 0 (by omega); simpa [entCells] using this
      have e1 : wr.cell? ⟨g, k * 5 + 1, none⟩ = some x1 := by have := hcell 1 (by omega); simpa [entCells] using this
      have e2 : wr.cell? ⟨g, k * 5 + 2, none⟩ = some x2 := by have := hcell 2 (by omega); simpa [entCells] using this
      have e3 : wr.cell? ⟨g, k * 5 + 3, none⟩ = some x3 := by have := hcell 3 (by omega); simpa [entCells] using this
      have e4 : wr.cell? ⟨g, k * 5 + 4, none⟩ = some (.int .u8 xm.toNat) := by have := hcell 4 (by omega); simpa [entCells] using this
      obtain ⟨al, cl, hvl⟩ := hok.l.slice
      obtain ⟨a1, c1, hv1⟩ := hok.one.slice
      obtain ⟨a2, c2, hv2⟩ := hok.two.slice
      obtain ⟨a3, c3, hv3⟩ := hok.three.slice
      simp only [List.length_replicate] at hvl hv1 hv2 hv3
      subst hvl hv1 hv2 hv3
      have HOK := hid hok
      have hxn := hok.len
      dsimp only at hxn
      clear hcell hok
      go_wp2_with fail
      refine (all_any _ _ xn xm (HOK.out.l.later (hbel.alloc hzr _)) (by omega)).mono ?_; rintro e w1 ⟨rfl, rfl⟩
      go_wp2_with fail
      refine (all_any _ _ (xn + 1) xm (HOK.out.one.later (hbel.alloc hzr _)) (by omega)).mono ?_; rintro e w1 ⟨rfl, rfl⟩
      go_wp2_with fail
      refine (all_any _ _ (xn + 2) xm (HOK.out.two.later (hbel.alloc hzr _)) (by omega)).mono ?_; rintro e w1 ⟨rfl, rfl⟩
      go_wp2_with fail
      refine (all_any _ _ (xn + 3) xm (HOK.out.three.later (hbel.alloc hzr _)) (by omega)).mono ?_; rintro e w1 ⟨rfl, rfl⟩
      go_wp2_with fail
      go_roundg (gk - 1)
      case rel => exact ⟨k + 1, by omega, by go_num, hbel.alloc hzr _⟩
      case measure => omega
    · have hltI : ¬ (k : Int) < (X.length : Int) := by omega
      go_wp2_with fail
      go_ret
      exact ⟨rfl, hbel⟩
end Go.Proofs.YtlgjlfobbpgklaaGreatDoor
