/- The statement's own walk: a step of kind KCheck, and the look at the lists (there are none). -/
import Derived.Test.YtopcgnjocklcoaaGreatDoorGPRead
import Derived.Test.YtopcgnjocklcoaaGreatDoorGLawR
namespace Go.Proofs.YtopcgnjocklcoaaGreatDoor
open Go.RowKit

set_option maxRecDepth 100000 in
set_option maxHeartbeats 1000000 in
theorem stepCheck (w : World) (b : Nat) (A B C D : Int) (S T V : ByteArray) (hv : Vars w) (hs : S.size ≤ maxLen) :
    Calls Tryz.prog 9 #[.pointer (some ⟨b, 0, none⟩), .agg #[.int .i64 1, .int .i64 A, .int .i64 B, .int .i64 C, .int .i64 D, .string S, .string T, .string V]] w fun e w' => e = .returned (.bool true) ∧ Below w.heap.size w w' := by
  have HV := hid hv
  clear hv
  have hb0 : Below w.heap.size w (w.alloc (.cells #[.int .i64 1, .int .i64 A, .int .i64 B, .int .i64 C, .int .i64 D, .string S, .string T, .string V] 34)) := (Below.refl _ _).alloc (Nat.le_refl _) _
  go_enter Tryz.func9, Tryz.ntmps9
  go_wp2_with fail
  refine (check_any S _ (HV.out.below hb0) hs).mono ?_; rintro e w1 ⟨E1, P1, rfl, hb1, hA1⟩
  have hb01 := hb0.trans (hb1.mono hb0.size)
  have d5 : w1.cell? ⟨w.heap.size, 5, none⟩ = some (.string S) := by rw [hb1.cell (by simp)]; simp
  have HA1 := hid hA1
  clear hA1
  go_wp2_with fail
  refine (refCheck_any S _ hs).mono ?_; rintro e w2 ⟨E2, P2, rfl, hb2, hA2⟩
  obtain ⟨rfl, rfl⟩ := check_agree hA2 HA1.out
  have hb02 := hb01.trans (hb2.mono hb01.size)
  go_wp2_with fail
  go_ret
  exact ⟨rfl, hb02⟩

set_option maxRecDepth 100000 in
set_option maxHeartbeats 1000000 in
theorem looksNone (w : World) (b : Nat) (h2 : w.cell? ⟨b, 2, none⟩ = some (.slice none 0 0)) :
    Calls Tryz.prog 10 #[.pointer (some ⟨b, 0, none⟩)] w fun e w' => e = .returned (.bool true) ∧ w' = w := by
  go_enter Tryz.func10, Tryz.ntmps10
  go_wp2_with fail
  go_loopg [3] 0 (fun gk i wr => i = .int .i64 0 ∧ wr = w)
  case atStart => exact ⟨rfl, rfl⟩
  case round =>
    obtain ⟨rfl, rfl⟩ := hrel
    go_wp2_with fail
    go_ret
    exact ⟨rfl, rfl⟩
end Go.Proofs.YtopcgnjocklcoaaGreatDoor
/- The statement's own walk: plays, for the kind KCheck alone; Checks. -/
namespace Go.Proofs.YtopcgnjocklcoaaGreatDoor
open Go.RowKit

/-- the script -/
def Script (w : World) (sa : Option Addr) (len : Nat) : Prop := 0 < len → ∃ b off, sa = some ⟨b, off, none⟩ ∧ b < w.heap.size ∧ ∀ k, k < len → ∃ x, OpAt w b (off + k * 8) x

set_option maxRecDepth 100000 in
set_option maxHeartbeats 2000000 in
theorem playsCheck (w : World) (sa : Option Addr) (len cap kb : Nat) (hS : Script w sa len) (hl : len ≤ maxLen) (hk : w.cell? ⟨kb, 0, none⟩ = some (.int .i64 1)) (hkb : kb < w.heap.size) (hv : Vars w) :
    Calls Tryz.prog 8 #[.slice sa len cap, .slice (some ⟨kb, 0, none⟩) 1 1] w fun e w' => e = .returned (.bool true) ∧ Below w.heap.size w w' := by
  unfold maxLen at hl
  have HV := hid hv
  have HS := hid hS
  clear hv hS
  have hb0 : Below w.heap.size w (w.alloc (.cells #[.slice none 0 0, .slice none 0 0, .slice none 0 0] 31)) := (Below.refl _ _).alloc (Nat.le_refl _) _
  go_enter Tryz.func8, Tryz.ntmps8
  go_wp2_with fail
  refine (stepCheck _ _ _ _ _ _ _ _ _ (HV.out.below hb0) (by unfold maxLen; decide)).mono ?_; rintro e w1 ⟨rfl, hb1⟩
  have hb01 := hb0.trans (hb1.mono hb0.size)
  have d2 : w1.cell? ⟨w.heap.size, 2, none⟩ = some (.slice none 0 0) := by rw [hb1.cell (by simp)]; simp
  have hwl : w.heap.size < w1.heap.size := by have := hb1.size; simp at this; omega
  have HV1 := hid (HV.out.below hb01)
  clear hb1
  go_wp2_with fail
  go_loopg [6, 7, 8, 9] len (fun gk ok i x8 x9 wr => ∃ k : Nat, k + gk = len ∧ i = .int .i64 k ∧ Below w1.heap.size w1 wr)
  case atStart => exact ⟨0, by omega, rfl, Below.refl _ _⟩
  case round =>
    obtain ⟨k, hk2, rfl, hbel⟩ := hrel
    have hb0r := hb01.trans (hbel.mono hb01.size)
    have hzr := hbel.size
    by_cases hlt : k < len
    · obtain ⟨b, off, rfl, hbs, hall⟩ := HS.out (by omega)
      obtain ⟨⟨K, A, B, C, D, S, T, V⟩, hx⟩ := hall k hlt
      have hx' := hx.below hb0r hbs
      clear hall hx
      have c0 := hx'.c0
      have c1 := hx'.c1
      have c2 := hx'.c2
      have c3 := hx'.c3
      have c4 := hx'.c4
      have c5 := hx'.c5
      have c6 := hx'.c6
      have c7 := hx'.c7
      have hSs := hx'.s
      dsimp only at c0 c1 c2 c3 c4 c5 c6 c7 hSs
      clear hx'
      have hk' : wr.cell? ⟨kb, 0, none⟩ = some (.int .i64 1) := by rw [hb0r.cell hkb]; exact hk
      have d2' : wr.cell? ⟨w.heap.size, 2, none⟩ = some (.slice none 0 0) := by rw [hbel.cell hwl]; exact d2
      have HE := hid (show (K == (1 : Int)) = decide (K = 1) from by rw [Bool.eq_iff_iff]; simp)
      obtain ⟨w2, hw2⟩ : ∃ w2, w2 = wr := ⟨_, rfl⟩
      subst hw2
      obtain ⟨gk2, hgk2⟩ : ∃ g, g = gk := ⟨_, rfl⟩
      subst hgk2
      go_wp2_with fail
      go_loopg [8, 9] 1 (fun hk8 y8 y9 wq => (hk8 = 1 ∧ y8 = .bool false ∧ y9 = .int .i64 0 ∧ wq = w2) ∨ (hk8 = 0 ∧ y8 = .bool (K == 1) ∧ y9 = .int .i64 1 ∧ ∃ n, wq = w2.drewN n))
      case atStart => exact Or.inl ⟨rfl, rfl, rfl, rfl⟩
      case round =>
        rcases hrel with ⟨rfl, rfl, rfl, rfl⟩ | ⟨rfl, rfl, rfl, n, rfl⟩
        · go_wp2_with fail
          go_quiet (fail)
          go_wp2_with fail
          go_roundg 0
          case rel => exact Or.inr ⟨rfl, rfl, rfl, _, rfl⟩
          case measure => omega
        · have hbq : Below w1.heap.size w1 (w2.drewN n) := below_drewN hbel n
          by_cases hK : K = 1
          · subst hK
            have hk1 : ((1 : Int) == 1) = true := by decide
            rw [hk1]
            have hcell : ∀ ad : Addr, ad.block < w2.heap.size → (w2.drewN n).cell? ad = w2.cell? ad := fun ad had => (below_drewN (Below.refl w2.heap.size w2) n).cell had
            have hb2 : b < w2.heap.size := by omega
            rw [← hcell _ hb2] at c0 c1 c2 c3 c4 c5 c6 c7
            go_wp2_with fail
            refine (stepCheck _ _ _ _ _ _ _ _ _ (HV1.out.below hbq) hSs).mono ?_; rintro e w3 ⟨rfl, hb3⟩
            have hb13 := hbq.trans (hb3.mono hbq.size)
            have d3 : w3.cell? ⟨w.heap.size, 2, none⟩ = some (.slice none 0 0) := by rw [hb13.cell hwl]; exact d2
            clear hb3
            go_wp2_with fail
            refine (looksNone _ _ d3).mono ?_; rintro e w4 ⟨rfl, rfl⟩
            go_wp2_with fail
            go_roundg (gk2 - 1)
            case rel => exact ⟨k + 1, by omega, by go_num, hb13⟩
            case measure => omega
          · have hK' : (K == 1) = false := by simp [hK]
            rw [hK']
            go_wp2_with fail
            go_roundg (gk2 - 1)
            case rel => exact ⟨k + 1, by omega, by go_num, hbq⟩
            case measure => omega
    · go_wp2_with fail
      go_ret
      exact ⟨rfl, hb0r⟩

set_option maxRecDepth 100000 in
set_option maxHeartbeats 1000000 in
theorem checks_any (w : World) (sa : Option Addr) (len cap : Nat) (hS : Script w sa len) (hl : len ≤ maxLen) (hv : Vars w) :
    Calls Tryz.prog 3 #[.slice sa len cap] w fun e w' => e = .returned (.bool true) ∧ Below w.heap.size w w' := by
  have hb0 : Below w.heap.size w (w.alloc (.cells #[.int .i64 1] 3)) := (Below.refl _ _).alloc (Nat.le_refl _) _
  have HS := hid (show Script (w.alloc (.cells #[.int .i64 1] 3)) sa len from fun h0 => by
    obtain ⟨b, off, e, hb, hall⟩ := hS h0
    exact ⟨b, off, e, by simp; omega, fun k hk => by obtain ⟨x, hx⟩ := hall k hk; exact ⟨x, hx.below hb0 hb⟩⟩)
  have HV := hid hv
  clear hS hv
  go_enter Tryz.func3, Tryz.ntmps3
  go_wp2_with fail
  refine (playsCheck _ sa len cap _ HS.out hl (by simp) (by simp) (HV.out.below hb0)).mono ?_; rintro e w1 ⟨rfl, hb1⟩
  have hb2 := hb0.trans (hb1.mono hb0.size)
  go_wp2_with fail
  go_ret
  exact ⟨rfl, hb2⟩
end Go.Proofs.YtopcgnjocklcoaaGreatDoor
