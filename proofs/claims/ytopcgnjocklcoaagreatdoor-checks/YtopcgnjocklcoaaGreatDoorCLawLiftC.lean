/- The row of courierlaw.Checks: its step. -/
import Derived.Test.YtopcgnjocklcoaaGreatDoorGLaw
import Derived.Test.YtopcgnjocklcoaaGreatDoorCLawVars
import Derived.Test.YtopcgnjocklcoaaGreatDoorCards
import Derived.Test.YtopcgnjocklcoaaGreatDoorTie
import Derived.ProofKit
import Derived.OpenShut
import Derived.LaidMore
import Derived.Lay
import Derived.SevenTiedAt
import Derived.Stop.Joined
import Derived.Carry
import Derived.Deep.Slices
namespace Go.Proofs.YtopcgnjocklcoaaGreatDoor
open Go.ChangeShapes Go.WideShapes Go.ChangeAt Go.RowKit Go.Deep

theorem ownKnobs : ownKnob Tryz.prog.godebug = none := by kernel_rfl
theorem laidOut : laidOutB Tryz.prog = true := by kernel_rfl

theorem plainLaid : (Rows.checksRow.laid.all fun x => x.2.handleName?.isNone) = true := by kernel_rfl
/-- what the row's list gives -/
theorem vars_of {W : World} (h : laidMetH Tryz.prog Rows.checksRow.laid W) : Vars W := by
  rw [MakeChecks.laidMetH_plain _ _ _ plainLaid] at h
  exact vars_in h (by unfold Rows.checksRow; simp only [List.mem_cons]; right; right; right; right; right; left; rfl) (by unfold Rows.checksRow; simp only [List.mem_cons]; right; right; right; right; left; rfl)

section
variable {H : Type} {enc : TypeId × Value → H}
theorem cellsOp : Tryz.prog.cellsOf 34 = 8 := by kernel_rfl
theorem cellsI : Tryz.prog.cellsOf 3 = 1 := by kernel_rfl
theorem cellsS : Tryz.prog.cellsOf 9 = 1 := by kernel_rfl
theorem int_of {W : World} {k : Nat} {v : Value} {y : DataW H × List MemPlace} (h : DataW.trod enc Tryz.prog W 0 (fun _ => true) true k 3 [v] = some y) : ∃ z, v = .int .i64 z := by
  obtain ⟨z, e, _⟩ := DataW.trod_int Tryz.underlying3 h
  exact ⟨z, by simpa using e⟩
theorem str_of {W : World} {k : Nat} {v : Value} {y : DataW H × List MemPlace} (h : DataW.trod enc Tryz.prog W 0 (fun _ => true) true k 9 [v] = some y) : ∃ s : ByteArray, v = .string s ∧ s.size ≤ maxLen := by
  obtain ⟨s, e, _, hs⟩ := DataW.trod_string Tryz.underlying9 h
  exact ⟨s, by simpa using e, hs⟩
set_option maxRecDepth 100000 in
/-- the script that came in -/
theorem script_of {W : World} {v : Value} {d : DataW H} {p : List MemPlace} (h : ∃ n, DataW.trod enc Tryz.prog W 0 (fun _ => true) true n 22 [v] = some (d, p)) : ∃ sa len cap, v = .slice sa len cap ∧ len ≤ maxLen ∧ Script W sa len := by
  obtain ⟨n, h⟩ := h
  rcases open_slice Tryz.underlying22 h with ⟨hc, _⟩ | ⟨a, len, cap, m, k, D, Pl, hc, _, hl, hm, hmm, _, hall⟩
  · simp only [List.cons.injEq, and_true] at hc
    exact ⟨none, 0, 0, hc, by unfold maxLen; omega, fun h0 => absurd h0 (by omega)⟩
  · simp only [List.cons.injEq, and_true] at hc
    simp only [if_true] at hmm
    subst hmm
    refine ⟨some a, len, m, hc, by omega, fun h0 => ?_⟩
    rw [cellsOp] at hall
    have each : ∀ i, i < m → ∃ cs', W.cells? 0 (a.add (i * 8)) 8 = some cs' ∧ DataW.trod enc Tryz.prog W 0 (fun _ => true) true k 34 cs' = some (D i, Pl i) := hall
    clear hall
    obtain ⟨b, off, spot⟩ := a
    have hspot : spot = none := by
      obtain ⟨cs', h1, _⟩ := each 0 (by omega)
      obtain ⟨_, hlen, hcell⟩ := World.cells?_some h1
      have := hcell 0 (by omega)
      rw [Addr.add, if_pos (by simp), Addr.add, if_pos (by simp)] at this
      exact World.cell?_spot (this.trans (List.getElem?_eq_getElem (by omega)))
    subst hspot
    have hone : ∀ i, i < m → ∃ x, OpAt W b (off + i * 8) x := fun i hi => by
      obtain ⟨cs', h1, h2⟩ := each i hi
      obtain ⟨_, hlen, hcell⟩ := World.cells?_some h1
      obtain ⟨xs, k', _, _, _, hxl, hf⟩ := DataW.trod_struct Tryz.underlying34 h2
      match cs', hlen with
      | [v0, v1, v2, v3, v4, v5, v6, v7], _ =>
        have hxl8 : xs.length = 8 := hxl
        match xs, hxl8 with
        | [y0, y1, y2, y3, y4, y5, y6, y7], _ =>
          have g0 := hf 0 _ rfl
          have g1 := hf 1 _ rfl
          have g2 := hf 2 _ rfl
          have g3 := hf 3 _ rfl
          have g4 := hf 4 _ rfl
          have g5 := hf 5 _ rfl
          have g6 := hf 6 _ rfl
          have g7 := hf 7 _ rfl
          simp [cellsI, cellsS] at g0 g1 g2 g3 g4 g5 g6 g7
          obtain ⟨z0, rfl⟩ := int_of g0
          obtain ⟨z1, rfl⟩ := int_of g1
          obtain ⟨z2, rfl⟩ := int_of g2
          obtain ⟨z3, rfl⟩ := int_of g3
          obtain ⟨z4, rfl⟩ := int_of g4
          obtain ⟨s5, rfl, h5⟩ := str_of g5
          obtain ⟨s6, rfl, h6⟩ := str_of g6
          obtain ⟨s7, rfl, h7⟩ := str_of g7
          rw [add_plain] at hcell
          have hc : ∀ j, j < 8 → W.cell? ⟨b, off + i * 8 + j, none⟩ = [Value.int .i64 z0, .int .i64 z1, .int .i64 z2, .int .i64 z3, .int .i64 z4, .string s5, .string s6, .string s7][j]? := fun j hj => by
            have := hcell j hj
            rw [add_plain] at this
            exact this
          exact ⟨⟨z0, z1, z2, z3, z4, s5, s6, s7⟩, hc 0 (by omega), hc 1 (by omega), hc 2 (by omega), hc 3 (by omega), hc 4 (by omega), hc 5 (by omega), hc 6 (by omega), hc 7 (by omega), h5, h6, h7⟩
    refine ⟨b, off, rfl, ?_, fun k' hk' => hone k' (by omega)⟩
    obtain ⟨x, hx⟩ := hone 0 (by omega)
    exact World.block_lt_of_cell? _ _ hx.c0
end

set_option maxRecDepth 100000 in
theorem lifted (os : Os) (started : os.Started) (H : Type) (enc : TypeId × Value → H) :
    ReturnsInHanded {} Tryz.checked os 3 .any (fun w args => (Rows.checksSpec.pre enc Tryz.prog Tryz.f3 Rows.checksRow.domain false w args ∧ laidMetH Tryz.prog Rows.checksRow.laid w) ∧ sizedMet enc Tryz.prog Tryz.f3 (OpenSpec.ofChange Rows.checksSpec) false w args)
      (Rows.checksSpec.post enc Tryz.prog Tryz.f3 false true false false) := by
  refine returnsInHanded_of_change_and (C := Tryz.checked) (X := fun w _ => laidMetH Tryz.prog Rows.checksRow.laid w) (fun _ _ _ hh h => h.of_heap hh) ownKnobs started (by kernel_rfl) Tryz.func3
    (ChangeSpec.witness_shaped (enc := enc) (C := Tryz.checked) (os := os) (X := fun w _ => laidMetH Tryz.prog Rows.checksRow.laid w) false (World.laidAll Tryz.prog os Rows.checksRow.laid) #[.slice none 0 0] 8 (World.laidAll_os _ _ _)
      (World.shaped_of_ZipB (by kernel_rfl) (by kernel_rfl)) (by kernel_rfl) (by kernel_rfl) (by kernel_rfl)
      (by rw [MakeChecks.laidMetH_plain _ _ _ plainLaid]; exact laidMet_laidAll _ (by kernel_rfl) (by kernel_rfl))) ?_
  intro W base args ds gs before hval0 hW _ _ hL _
  have hW' := hW
  obtain ⟨p, q, hA0, hV, rfl, _, _⟩ := hW
  have hA : DataW.TrodAll enc Tryz.prog W 0 (fun _ => true) true Tryz.f3.params.toList args.toList ds p := hA0
  have hval : ∀ (j : Nat) t v, Tryz.f3.params[j]? = some t → args[j]? = some v → Value.okWide Tryz.prog W .any base t v := hval0
  rw [Tryz.params3] at hA hval
  obtain ⟨v0, d0, rfl, rfl, h0⟩ := trodAll_one hA
  obtain ⟨rfl, rfl⟩ := trodVars_none hV
  simp only [List.append_nil] at hW'
  have hlt : ∀ x ∈ p, x.block < W.heap.size := fun x hx => hW'.lt x hx
  obtain ⟨a0, len0, cap0, rfl⟩ := okWide_slice Tryz.underlying22 (hval 0 22 v0 rfl rfl)
  obtain ⟨sa, len, cap, hv0, hl, hS⟩ := script_of (show ∃ n, DataW.trod enc Tryz.prog W 0 (fun _ => true) true n 22 [.slice a0 len0 cap0] = some (d0, p) from h0)
  obtain ⟨rfl, rfl, rfl⟩ : a0 = sa ∧ len0 = len ∧ cap0 = cap := by simpa using hv0
  refine (checks_any W a0 len0 cap0 hS hl (vars_of hL)).mono fun e W' ⟨he, hb⟩ => ?_
  subst he
  exact ⟨_, rfl, ⟨_, _, _, [], _, [], hW', trodAll_mk1 (shut_bool Tryz.underlying4 _), trodAll_mk1 (Below.trod laidOut (by kernel_rfl) (of_decide_eq_true (by kernel_rfl)) h0 hb hlt), rfl, hb.frame _, fun h => by cases h⟩⟩
end Go.Proofs.YtopcgnjocklcoaaGreatDoor
