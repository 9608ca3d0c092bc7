/- A step of kind KFrame, KFresh or KFeed. -/
import Derived.Test.YtopcgnjocklcoaaGreatDoorCLawFrame
import Derived.Test.YtopcgnjocklcoaaGreatDoorCLawFed
namespace Go.Proofs.YtopcgnjocklcoaaGreatDoor
open Go.RowKit

/-- what a step leaves -/
def StepPost (w : World) (B lo : Nat) (n V : Nat) (e : Ending) (w' : World) : Prop :=
  e = .returned (.bool true) ∧ ∃ dv' ev' bv' X' Ds', Law w' B lo dv' ev' bv' X' Ds' ∧ X'.length ≤ n + V + 1 ∧ Ds'.length ≤ n + V + 1 ∧ (∀ d ∈ Ds', d.A.length ≤ n + V + 1) ∧ Below lo w w'
set_option maxRecDepth 100000 in
set_option maxHeartbeats 4000000 in
theorem stepFeed (w : World) (B lo : Nat) (dv ev bv : Value) (X : List Ent) (Ds : List DD) (n : Nat) (hI : Law w B lo dv ev bv X Ds) (oA oB oC oD : Int) (S T V : ByteArray) (hX : X.length ≤ n) (hD : Ds.length ≤ n) (hA : ∀ d ∈ Ds, d.A.length ≤ n) (hn : n + V.size ≤ 99999998) (hoA : -9223372036854775808 ≤ oA ∧ oA ≤ 9223372036854775807) :
    Calls Tryz.prog 9 #[.pointer (some ⟨B, 0, none⟩), .agg #[.int .i64 6, .int .i64 oA, .int .i64 oB, .int .i64 oC, .int .i64 oD, .string S, .string T, .string V]] w (StepPost w B lo n V.size) := by
  have hBw := hI.B_lt
  have hlow := hI.low.1
  obtain ⟨da, dc, rfl⟩ := own_slice hI.ds
  have HI := hid hI
  have HAb := hid hA
  have HOA := hid hoA
  have hcB : w.cell? ⟨B, 0, none⟩ = some (.slice da Ds.length dc) := by rw [cell_row hI.wat]; rfl
  have hb0 : Below w.heap.size w (w.alloc (.cells #[.int .i64 6, .int .i64 oA, .int .i64 oB, .int .i64 oC, .int .i64 oD, .string S, .string T, .string V] 34)) := (Below.refl _ _).alloc (Nat.le_refl _) _
  have HI0 := hid (hI.below hb0)
  clear hI hA hoA
  by_cases h0 : 0 < Ds.length
  · have h0I : (0 : Int) < (Ds.length : Int) := by omega
    go_enter Tryz.func9, Tryz.ntmps9
    go_wp2_with fail
    refine (fed_any _ B lo _ _ _ X Ds n HI0.out h0 6 oA oB oC oD S T V (by omega) (by omega) HAb.out (by omega) HOA.out).mono ?_; rintro e w1 ⟨rfl, bv', X', Ds', hI1, hX1, hD1, hA1, hb1⟩
    have HF := hid (show StepPost w B lo n V.size (.returned (.bool true)) w1 from ⟨rfl, _, _, _, _, _, hI1, by omega, by omega, fun d hd => by have := hA1 d hd; omega, (hb0.mono (by omega)).trans hb1⟩)
    clear hI1 hA1
    go_wp2_with fail
    go_ret
    exact HF.out
  · have h0I : ¬ (0 : Int) < (Ds.length : Int) := by omega
    have HF := hid (show StepPost w B lo n V.size (.returned (.bool true)) (w.alloc (.cells #[.int .i64 6, .int .i64 oA, .int .i64 oB, .int .i64 oC, .int .i64 oD, .string S, .string T, .string V] 34)) from ⟨rfl, _, _, _, _, _, HI0.out, by omega, by omega, fun d hd => by have := HAb.out d hd; omega, hb0.mono (by omega)⟩)
    go_enter Tryz.func9, Tryz.ntmps9
    go_wp2_with fail
    go_ret
    exact HF.out
/-- a step of one of the three kinds -/
theorem stepF_any (w : World) (B lo : Nat) (dv ev bv : Value) (X : List Ent) (Ds : List DD) (n : Nat) (hI : Law w B lo dv ev bv X Ds) (K oA oB oC oD : Int) (S T V : ByteArray) (hK : K = 4 ∨ K = 5 ∨ K = 6) (hX : X.length ≤ n) (hD : Ds.length ≤ n) (hA : ∀ d ∈ Ds, d.A.length ≤ n) (hn : n + V.size ≤ 99999998) (hoA : -9223372036854775808 ≤ oA ∧ oA ≤ 9223372036854775807) :
    Calls Tryz.prog 9 #[.pointer (some ⟨B, 0, none⟩), .agg #[.int .i64 K, .int .i64 oA, .int .i64 oB, .int .i64 oC, .int .i64 oD, .string S, .string T, .string V]] w (StepPost w B lo n V.size) := by
  rcases hK with rfl | rfl | rfl
  · refine (stepFrame w B lo dv ev bv X Ds hI (by omega) oA oB oC oD S T V (by omega)).mono ?_
    rintro e w' ⟨rfl, bv', x, h1, h2⟩
    exact ⟨rfl, _, _, _, _, _, h1, by rw [List.length_append, List.length_singleton]; omega, by omega, fun d hd => by have := hA d hd; omega, h2⟩
  · refine (stepFresh w B lo dv ev bv X Ds hI (by omega) oA oB oC oD S T V).mono ?_
    rintro e w' ⟨rfl, dv', ev', d, h1, h2, h3⟩
    refine ⟨rfl, _, _, _, _, _, h1, by omega, by rw [List.length_append, List.length_singleton]; omega, fun y hy => ?_, h3⟩
    rcases List.mem_append.1 hy with hy | hy
    · have := hA y hy; omega
    · simp only [List.mem_singleton] at hy
      subst hy
      rw [h2]; simp
  · exact stepFeed w B lo dv ev bv X Ds n hI oA oB oC oD S T V hX hD hA hn hoA
end Go.Proofs.YtopcgnjocklcoaaGreatDoor
