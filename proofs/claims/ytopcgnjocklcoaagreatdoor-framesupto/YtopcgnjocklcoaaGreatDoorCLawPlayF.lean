/- The statement's own walk: plays, for the kinds KFrame, KFresh, KFeed; Frames. -/
import Derived.Test.YtopcgnjocklcoaaGreatDoorCLawStepF
import Derived.Test.YtopcgnjocklcoaaGreatDoorGLawR
namespace Go.Proofs.YtopcgnjocklcoaaGreatDoor
open Go.RowKit

theorem law_begin (w : World) : Law (w.alloc (.cells #[.slice none 0 0, .slice none 0 0, .slice none 0 0] 31)) w.heap.size w.heap.size (.slice none 0 0) (.slice none 0 0) (.slice none 0 0) [] [] :=
  ⟨heap_alloc_new w _, ⟨World.ownsRow_nil _ _ _ _, fun x hx => by simp at hx⟩, World.ownsRow_nil _ _ _ _, World.ownsRow_nil _ _ _ _, fun d hd => by simp at hd, fun d hd => by simp at hd, ⟨Nat.le_refl _, fun d hd => by simp at hd⟩, fun i j d d' h => by simp at h, fun x hx => by simp at hx, fun x hx => by simp at hx⟩
def in3 (K : Int) : Nat → Bool
  | 0 => false
  | 1 => (K == 4)
  | 2 => (K == 4) || (K == 5)
  | _ => (K == 4) || (K == 5) || (K == 6)
theorem in3_yes {K : Int} (h : in3 K 3 = true) : K = 4 ∨ K = 5 ∨ K = 6 := by
  simp [in3] at h
  rcases h with (h | h) | h
  · exact Or.inl h
  · exact Or.inr (Or.inl h)
  · exact Or.inr (Or.inr h)
theorem in3_succ (K : Int) : ∀ j, j < 3 → in3 K (j + 1) = (in3 K j || (K == 4 + (j : Int)))
  | 0, _ => by simp [in3]
  | 1, _ => by simp [in3]
  | 2, _ => by simp [in3]
  | j + 3, h => by omega
set_option maxRecDepth 100000 in
set_option maxHeartbeats 8000000 in
theorem playsFrames (w : World) (sa : Option Addr) (cap kb : Nat) (L : List OpV) (hS : Scr w sa L) (hl : L.length ≤ 3000000) (hk0 : w.cell? ⟨kb, 0, none⟩ = some (.int .i64 4)) (hk1 : w.cell? ⟨kb, 1, none⟩ = some (.int .i64 5)) (hk2 : w.cell? ⟨kb, 2, none⟩ = some (.int .i64 6)) (hkb : kb < w.heap.size) :
    Calls Tryz.prog 8 #[.slice sa L.length cap, .slice (some ⟨kb, 0, none⟩) 3 3] w fun e w' => e = .returned (.bool true) ∧ Below w.heap.size w w' := by
  have HS := hid hS
  clear hS
  have hb0 : Below w.heap.size w (w.alloc (.cells #[.slice none 0 0, .slice none 0 0, .slice none 0 0] 31)) := (Below.refl _ _).alloc (Nat.le_refl _) _
  go_enter Tryz.func8, Tryz.ntmps8
  go_wp2_with fail
  refine (stepF_any _ w.heap.size w.heap.size _ _ _ [] [] 0 (law_begin w) 4 _ _ _ _ _ _ _ (Or.inl rfl) (by simp) (by simp) (fun d hd => by simp at hd) (by decide) (by decide)).mono ?_; rintro e w1 ⟨rfl, dv1, ev1, bv1, X1, Ds1, hI1, hX1, hD1, hA1, hb1⟩
  have hb01 : Below w.heap.size w w1 := hb0.trans hb1
  have hX1' : X1.length ≤ 4 := hX1
  have hD1' : Ds1.length ≤ 4 := hD1
  have HI1 := hid hI1
  have HA1 := hid (show ∀ d ∈ Ds1, d.A.length ≤ 4 from hA1)
  clear hI1 hX1 hD1 hA1 hb1
  go_wp2_with fail
  go_loopg [6, 7, 8, 9] L.length (fun gk ok i x8 x9 wr => ∃ (k : Nat) (dv ev bv : Value) (X : List Ent) (Ds : List DD), k + gk = L.length ∧ i = .int .i64 k ∧ Hid (Law wr w.heap.size w.heap.size dv ev bv X Ds) ∧ X.length ≤ 4 + soFar L k ∧ Ds.length ≤ 4 + soFar L k ∧ Hid (∀ d ∈ Ds, d.A.length ≤ 4 + soFar L k) ∧ Below w.heap.size w wr)
  case atStart => exact ⟨0, dv1, ev1, bv1, X1, Ds1, by omega, rfl, HI1, by omega, by omega, hid (fun d hd => by have := HA1.out d hd; omega), hb01⟩
  case round =>
    obtain ⟨k, dv, ev, bv, X, Ds, hk, rfl, HI, hX, hD, HA, hbel⟩ := hrel
    have hzr := hbel.size
    have hup := soFar_le L k
    have hsum := HS.out.sum
    by_cases hlt : k < L.length
    · obtain ⟨b, off, rfl, hbs, hall⟩ := HS.out.at_ (by omega)
      have hx := (hall k hlt).below hbel hbs
      have hxA := HS.out.a L[k] (List.getElem_mem hlt)
      have hup1 := soFar_succ L k hlt
      have hup2 := soFar_le L (k + 1)
      obtain ⟨⟨K, A, B, C, D, S, T, V⟩, HXk⟩ : ∃ x, Hid (L[k] = x) := ⟨_, hid rfl⟩
      rw [HXk.out] at hx hxA hup1
      dsimp only at hxA hup1
      have c0 := hx.c0
      have c1 := hx.c1
      have c2 := hx.c2
      have c3 := hx.c3
      have c4 := hx.c4
      have c5 := hx.c5
      have c6 := hx.c6
      have c7 := hx.c7
      dsimp only at c0 c1 c2 c3 c4 c5 c6 c7
      have HUP := hid hup1
      have HXA := hid hxA
      have hkbw : kb < wr.heap.size := by omega
      have hk0' : wr.cell? ⟨kb, 0, none⟩ = some (.int .i64 4) := by rw [hbel.cell hkb]; exact hk0
      have hk1' : wr.cell? ⟨kb, 1, none⟩ = some (.int .i64 5) := by rw [hbel.cell hkb]; exact hk1
      have hk2' : wr.cell? ⟨kb, 2, none⟩ = some (.int .i64 6) := by rw [hbel.cell hkb]; exact hk2
      obtain ⟨w2, hw2⟩ : ∃ w2, w2 = wr := ⟨_, rfl⟩
      subst hw2
      obtain ⟨gk2, hgk2⟩ : ∃ g, g = gk := ⟨_, rfl⟩
      subst hgk2
      have hbs2 : b < w2.heap.size := by omega
      have hltI : (k : Int) < (L.length : Int) := by omega
      clear hall hx hup1 hxA
      go_wp2_with fail
      go_loopg [8, 9] 3 (fun hk8 y8 y9 wq => ∃ (j n : Nat), j + hk8 = 3 ∧ y8 = .bool (in3 K j) ∧ y9 = .int .i64 j ∧ wq = w2.drewN n)
      case atStart => exact ⟨0, 0, rfl, rfl, rfl, rfl⟩
      case round =>
        obtain ⟨j, nn, hj, rfl, rfl, rfl⟩ := hrel
        by_cases hj3 : j < 3
        · have hjI : (j : Int) < 3 := by omega
          have hkj : w2.cell? ⟨kb, j, none⟩ = some (.int .i64 (4 + (j : Int))) := by
            match j, hj3 with
            | 0, _ => exact hk0'
            | 1, _ => exact hk1'
            | 2, _ => exact hk2'
          have HIN := hid (in3_succ K j hj3)
          clear hk0' hk1' hk2'
          cases hin : in3 K j with
          | true =>
            have HT := hid (show in3 K (j + 1) = true by rw [HIN.out, hin]; rfl)
            clear hin
            go_wp2_with fail
            go_quiet (fail)
            go_wp2_with fail
            go_roundg (gk - 1)
            case rel => exact ⟨j + 1, _, by omega, by rw [HT.out], by go_num, rfl⟩
            case measure => omega
          | false =>
            have HT := hid (show in3 K (j + 1) = (K == 4 + (j : Int)) by rw [HIN.out, hin]; rfl)
            clear hin
            go_wp2_with fail
            go_quiet (fail)
            go_wp2_with fail
            go_roundg (gk - 1)
            case rel => exact ⟨j + 1, _, by omega, by rw [HT.out], by go_num, rfl⟩
            case measure => omega
        · obtain rfl : j = 3 := by omega
          have hbq : Below w2.heap.size w2 (w2.drewN nn) := below_drewN (Below.refl _ _) nn
          have hbq0 : Below w.heap.size w (w2.drewN nn) := hbel.trans (hbq.mono hzr)
          have HIq := hid (HI.out.below hbq)
          cases hin : in3 K 3 with
          | true =>
            have hK := in3_yes hin
            have HK := hid hK
            clear hin hK
            have hcell : ∀ ad : Addr, ad.block < w2.heap.size → (w2.drewN nn).cell? ad = w2.cell? ad := fun ad had => hbq.cell had
            rw [← hcell _ hbs2] at c0 c1 c2 c3 c4 c5 c6 c7
            clear hcell
            go_wp2_with fail
            refine (stepF_any _ w.heap.size w.heap.size dv ev bv X Ds (4 + soFar L k) HIq.out K A B C D S T V HK.out (by omega) (by omega) HA.out (by have := HUP.out; omega) HXA.out).mono ?_; rintro e w3 ⟨rfl, dv3, ev3, bv3, X3, Ds3, hI3, hX3, hD3, hA3, hb3⟩
            have HI3 := hid hI3
            have HA3 := hid hA3
            have hb03 : Below w.heap.size w w3 := hbq0.trans hb3
            have hX3' : X3.length ≤ 4 + soFar L (k + 1) := by rw [HUP.out]; omega
            have hD3' : Ds3.length ≤ 4 + soFar L (k + 1) := by rw [HUP.out]; omega
            clear hI3 hA3 hb3 hX3 hD3
            go_wp2_with fail
            refine (looks_any _ w.heap.size w.heap.size _ _ bv3 X3 HI3.out.wat HI3.out.ents (by omega)).mono ?_; rintro e w4 ⟨rfl, hb4⟩
            have HI4 := hid (HI3.out.below hb4)
            have hb04 : Below w.heap.size w w4 := hb03.trans (hb4.mono hb03.size)
            clear hb4
            go_wp2_with fail
            go_roundg (gk2 - 1)
            case rel => exact ⟨k + 1, dv3, ev3, bv3, X3, Ds3, by omega, by go_num, HI4, hX3', hD3', hid (fun d hd => by have h1 := HA3.out d hd; rw [HUP.out]; omega), hb04⟩
            case measure => omega
          | false =>
            have hmono : soFar L k ≤ soFar L (k + 1) := by rw [HUP.out]; omega
            clear hin
            go_wp2_with fail
            go_roundg (gk2 - 1)
            case rel => exact ⟨k + 1, dv, ev, bv, X, Ds, by omega, by go_num, HIq, by omega, by omega, hid (fun d hd => by have h1 := HA.out d hd; omega), hbq0⟩
            case measure => omega
    · have hltI : ¬ (k : Int) < (L.length : Int) := by omega
      go_wp2_with fail
      go_ret
      exact ⟨rfl, hbel⟩
set_option maxRecDepth 100000 in
set_option maxHeartbeats 1000000 in
theorem frames_any (w : World) (sa : Option Addr) (cap : Nat) (L : List OpV) (hS : Scr w sa L) (hl : L.length ≤ 3000000) :
    Calls Tryz.prog 6 #[.slice sa L.length cap] w fun e w' => e = .returned (.bool true) ∧ Below w.heap.size w w' := by
  have hb0 : Below w.heap.size w (w.alloc (.cells #[.int .i64 4, .int .i64 5, .int .i64 6] 3)) := (Below.refl _ _).alloc (Nat.le_refl _) _
  have HS := hid (hS.below hb0)
  clear hS
  go_enter Tryz.func6, Tryz.ntmps6
  go_wp2_with fail
  refine (playsFrames _ sa cap _ L HS.out hl (by simp) (by simp) (by simp) (by simp)).mono ?_; rintro e w1 ⟨rfl, hb1⟩
  have hb2 := hb0.trans (hb1.mono hb0.size)
  go_wp2_with fail
  go_ret
  exact ⟨rfl, hb2⟩
end Go.Proofs.YtopcgnjocklcoaaGreatDoor
