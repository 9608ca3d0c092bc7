/- A script in memory. -/
import Derived.Test.YtopcgnjocklcoaaGreatDoorCMemBase
namespace Go.Proofs.YtopcgnjocklcoaaGreatDoor
open Go.RowKit

structure OpV where
  K : Int
  A : Int
  B : Int
  C : Int
  D : Int
  S : ByteArray
  T : ByteArray
  V : ByteArray
/-- a step of the script, as it lies in memory -/
structure OpAt (w : World) (b o : Nat) (x : OpV) : Prop where
  c0 : w.cell? ⟨b, o, none⟩ = some (.int .i64 x.K)
  c1 : w.cell? ⟨b, o + 1, none⟩ = some (.int .i64 x.A)
  c2 : w.cell? ⟨b, o + 2, none⟩ = some (.int .i64 x.B)
  c3 : w.cell? ⟨b, o + 3, none⟩ = some (.int .i64 x.C)
  c4 : w.cell? ⟨b, o + 4, none⟩ = some (.int .i64 x.D)
  c5 : w.cell? ⟨b, o + 5, none⟩ = some (.string x.S)
  c6 : w.cell? ⟨b, o + 6, none⟩ = some (.string x.T)
  c7 : w.cell? ⟨b, o + 7, none⟩ = some (.string x.V)
  s : x.S.size ≤ maxLen
  t : x.T.size ≤ maxLen
  v : x.V.size ≤ maxLen
theorem OpAt.below {w w' : World} {b o : Nat} {x : OpV} {B : Nat} (h : OpAt w b o x) (hb : Below B w w') (hB : b < B) : OpAt w' b o x :=
  ⟨(hb.cell hB).trans h.c0, (hb.cell hB).trans h.c1, (hb.cell hB).trans h.c2, (hb.cell hB).trans h.c3, (hb.cell hB).trans h.c4, (hb.cell hB).trans h.c5, (hb.cell hB).trans h.c6, (hb.cell hB).trans h.c7, h.s, h.t, h.v⟩
/-- a script, step by step; how much its steps hold together -/
structure Scr (w : World) (sa : Option Addr) (L : List OpV) : Prop where
  at_ : 0 < L.length → ∃ b off, sa = some ⟨b, off, none⟩ ∧ b < w.heap.size ∧ ∀ k (hk : k < L.length), OpAt w b (off + k * 8) L[k]
  a : ∀ x ∈ L, -9223372036854775808 ≤ x.A ∧ x.A ≤ 9223372036854775807
  sum : (L.map fun x => x.V.size + 1).sum ≤ 3000000
theorem Scr.below {w w' : World} {sa : Option Addr} {L : List OpV} (h : Scr w sa L) (hb : Below w.heap.size w w') : Scr w' sa L :=
  ⟨fun h0 => by
    obtain ⟨b, off, e, hbl, hall⟩ := h.at_ h0
    exact ⟨b, off, e, Nat.lt_of_lt_of_le hbl hb.size, fun k hk => (hall k hk).below hb hbl⟩, h.a, h.sum⟩
def soFar (L : List OpV) (k : Nat) : Nat := ((L.take k).map fun x => x.V.size + 1).sum
theorem soFar_succ (L : List OpV) (k : Nat) (hk : k < L.length) : soFar L (k + 1) = soFar L k + (L[k].V.size + 1) := by
  unfold soFar
  rw [List.take_succ_eq_append_getElem hk, List.map_append, List.sum_append]; simp
theorem sum_take_le : ∀ (l : List Nat) (k : Nat), (l.take k).sum ≤ l.sum
  | [], k => by simp
  | x :: r, 0 => by simp
  | x :: r, k + 1 => by have := sum_take_le r k; simp; omega
theorem soFar_le (L : List OpV) (k : Nat) : soFar L k ≤ (L.map fun x => x.V.size + 1).sum := by
  unfold soFar; rw [List.map_take]; exact sum_take_le _ _
end Go.Proofs.YtopcgnjocklcoaaGreatDoor
