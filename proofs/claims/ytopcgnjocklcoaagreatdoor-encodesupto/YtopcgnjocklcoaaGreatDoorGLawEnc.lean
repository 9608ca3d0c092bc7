/- A step of kind KEncode. -/
import Derived.Test.YtopcgnjocklcoaaGreatDoorGHouse
import Derived.Test.YtopcgnjocklcoaaGreatDoorGPEncD
import Derived.Test.YtopcgnjocklcoaaGreatDoorCLawEnv
import Derived.Test.YtopcgnjocklcoaaGreatDoorGLawR
namespace Go.Proofs.YtopcgnjocklcoaaGreatDoor
open Go.RowKit

set_option maxRecDepth 100000 in
set_option maxHeartbeats 4000000 in
theorem stepEncode (w : World) (B lo : Nat) (dv ev bv : Value) (X : List Ent) (Ds : List DD) (hI : Law w B lo dv ev bv X Ds) (hX : X.length ≤ 99999999) (oA oB oC oD : Int) (S T V : ByteArray) (hS : S.size ≤ maxLen) (hV : V.size ≤ maxLen) (hE : Env w) (hO : ∀ cb, w.heap.size ≤ cb → Own cb) :
    Calls Tryz.prog 9 #[.pointer (some ⟨B, 0, none⟩), .agg #[.int .i64 2, .int .i64 oA, .int .i64 oB, .int .i64 oC, .int .i64 oD, .string S, .string T, .string V]] w fun e w' => e = .returned (.bool true) ∧ ∃ bv' x, Law w' B lo dv ev bv' (X ++ [x]) Ds ∧ Below lo w w' := by
  have hBw := hI.B_lt
  have hlow := hI.low.1
  have HI := hid hI
  have HE := hid hE
  have HO := hid hO
  clear hI hE hO
  have hb0 : Below w.heap.size w (w.alloc (.cells #[.int .i64 2, .int .i64 oA, .int .i64 oB, .int .i64 oC, .int .i64 oD, .string S, .string T, .string V] 34)) := (Below.refl _ _).alloc (Nat.le_refl _) _
  obtain ⟨w0, hw0⟩ : ∃ w0, w0 = w.alloc (.cells #[.int .i64 2, .int .i64 oA, .int .i64 oB, .int .i64 oC, .int .i64 oD, .string S, .string T, .string V] 34) := ⟨_, rfl⟩
  have hop : w0.heap[w.heap.size]? = some (.cells #[.int .i64 2, .int .i64 oA, .int .i64 oB, .int .i64 oC, .int .i64 oD, .string S, .string T, .string V] 34 (0, 0)) := by rw [hw0]; exact heap_alloc_new w _
  have hz0 : w0.heap.size = w.heap.size + 1 := by rw [hw0]; simp
  rw [← hw0] at hb0
  have HOP := hid hop
  have HW0 := hid hw0
  clear hop
  go_enter Tryz.func9, Tryz.ntmps9
  go_wp2_with fail
  rw [← HW0.out]
  refine (pEncode_any S T V w0 hS hV (HE.out.below hb0) (fun cb h => HO.out cb (by omega))).mono ?_; rintro e w1 ⟨la, lc, b, E, rfl, hb1, hB1, hnil, hans⟩
  have hz1 := hb1.size
  have HOP1 := hid ((hb1.block _ (by omega)).trans HOP.out)
  obtain ⟨d0, d1, d2, d3, d4, d5, d6, d7⟩ := op_cells HOP1.out
  have hbel01 := hb0.trans (hb1.mono (by omega))
  have HB1 := hid hB1
  have HN := hid hnil
  have HAN := hid hans
  clear hB1 hnil hans hw0
  go_wp2_with fail
  refine (refEncode_any S T V w1 hS hV (HE.out.below hbel01) (fun cb h => HO.out cb (by omega))).mono ?_; rintro e w2 ⟨ma, mc, b2, E2, rfl, hb2, hB2, hans2⟩
  obtain ⟨rfl, rfl⟩ := encode_agree HAN.out hans2
  have hrg := hans2.range
  have hz2 := hb2.size
  have hbel02 : Below w.heap.size w w2 := hbel01.trans (hb2.mono (by omega))
  have HBl := hid (HB1.out.same hb2)
  have HBm := hid hB2
  have hcl := HBl.out.rd.conv
  have hcm := HBm.out.rd.conv
  have HI2 := hid (HI.out.below hbel02)
  have hbl : b.length ≤ 64 := by rcases hrg with ⟨_, h⟩ | ⟨_, h⟩ <;> simp [h] <;> omega
  clear hB2 d0 d1 d2 d3 d4 d5 d6 d7 hans2
  rcases hrg with ⟨rfl, _⟩ | ⟨hE4, hbn⟩
  · go_wp2_with fail
    refine (own_any _ B lo w0.heap.size dv ev bv _ X b HI2.out.wat HI2.out.ents HBl.out (by omega) (by omega) (by omega) (by omega) (fun x hx u hu k hk e => by have h1 := (HI.out.ents.ok x hx).lt u hu k hk; have h2 := (HBl.out.lt k e).1; omega)).mono ?_; rintro e w6 hP6
    obtain ⟨rfl, bv', x, hI6, hbel6, _⟩ := HI2.out.own hP6 (fun k hk => ⟨by have h2 := (HBl.out.lt k hk).1; omega, own_type HBl.out hk, fun d hd e => by have h1 := ((HI.out.rdf d hd).2.lt k e).2; have h2 := (HBl.out.lt k hk).1; omega⟩)
    have HI6 := hid hI6
    have hb06 : Below lo w w6 := (hbel02.mono (by omega)).trans hbel6
    clear hI6 hP6 hcl hcm
    go_wp2_with fail
    go_ret
    exact ⟨rfl, bv', x, HI6.out, hb06⟩
  · obtain ⟨rfl, rfl⟩ := HN.out (by omega)
    subst hbn
    simp only [List.length_nil] at hcl hcm
    have hq := eql_nil none 0 0
    have hE0 : ¬ E = 0 := by omega
    have hE0B : (E == 0) = false := by simpa using hE0
    clear hE4
    go_wp2_with fail
    refine (own_any _ B lo w0.heap.size dv ev bv _ X [] HI2.out.wat HI2.out.ents HBl.out (by omega) (by simp) (by omega) (by omega) (fun x hx u hu k hk e => by simp [Value.ownBlock] at e)).mono ?_; rintro e w6 hP6
    obtain ⟨rfl, bv', x, hI6, hbel6, _⟩ := HI2.out.own hP6 (fun k hk => by simp [Value.ownBlock] at hk)
    have HI6 := hid hI6
    have hb06 : Below lo w w6 := (hbel02.mono (by omega)).trans hbel6
    clear hI6 hP6 hcl hcm
    go_wp2_with fail
    go_ret
    exact ⟨rfl, bv', x, HI6.out, hb06⟩
end Go.Proofs.YtopcgnjocklcoaaGreatDoor
/- The statement's own walk: plays, for the kind KEncode alone; Encodes. -/
namespace Go.Proofs.YtopcgnjocklcoaaGreatDoor
open Go.RowKit

theorem law_start (w : World) : Law (w.alloc (.cells #[.slice none 0 0, .slice none 0 0, .slice none 0 0] 31)) w.heap.size w.heap.size (.slice none 0 0) (.slice none 0 0) (.slice none 0 0) [] [] :=
  ⟨heap_alloc_new w _, ⟨World.ownsRow_nil _ _ _ _, fun x hx => by simp at hx⟩, World.ownsRow_nil _ _ _ _, World.ownsRow_nil _ _ _ _, fun d hd => by simp at hd, fun d hd => by simp at hd, ⟨Nat.le_refl _, fun d hd => by simp at hd⟩, fun i j d d' h => by simp at h, fun x hx => by simp at hx, fun x hx => by simp at hx⟩
set_option maxRecDepth 100000 in
set_option maxHeartbeats 8000000 in
theorem playsEncode (w : World) (sa : Option Addr) (cap kb : Nat) (L : List OpV) (hS : Scr w sa L) (hl : L.length ≤ 3000000) (hk0 : w.cell? ⟨kb, 0, none⟩ = some (.int .i64 2)) (hkb : kb < w.heap.size) (hE : Env w) :
    Calls Tryz.prog 8 #[.slice sa L.length cap, .slice (some ⟨kb, 0, none⟩) 1 1] w fun e w' => e = .returned (.bool true) ∧ Below w.heap.size w w' := by
  have HS := hid hS
  have HE := hid hE
  clear hS hE
  have hb0 : Below w.heap.size w (w.alloc (.cells #[.slice none 0 0, .slice none 0 0, .slice none 0 0] 31)) := (Below.refl _ _).alloc (Nat.le_refl _) _
  go_enter Tryz.func8, Tryz.ntmps8
  go_wp2_with fail
  refine (stepEncode _ w.heap.size w.heap.size _ _ _ [] [] (law_start w) (by simp) _ _ _ _ _ _ _ (by unfold maxLen; decide) (by unfold maxLen; decide) (HE.out.below hb0) (HE.out.below hb0).own).mono ?_; rintro e w1 ⟨rfl, bv1, x1, hI1, hb1⟩
  have hb01 : Below w.heap.size w w1 := hb0.trans hb1
  have HI1 := hid hI1
  clear hI1 hb1
  go_wp2_with fail
  go_loopg [6, 7, 8, 9] L.length (fun gk ok i x8 x9 wr => ∃ (k : Nat) (dv ev bv : Value) (X : List Ent), k + gk = L.length ∧ i = .int .i64 k ∧ Hid (Law wr w.heap.size w.heap.size dv ev bv X []) ∧ X.length ≤ 1 + k ∧ Below w.heap.size w wr)
  case atStart => exact ⟨0, _, _, bv1, [x1], by omega, rfl, hid (by simpa using HI1.out), by simp, hb01⟩
  case round =>
    obtain ⟨k, dv, ev, bv, X, hk, rfl, HI, hX, hbel⟩ := hrel
    have hzr := hbel.size
    by_cases hlt : k < L.length
    · obtain ⟨b, off, rfl, hbs, hall⟩ := HS.out.at_ (by omega)
      have hx := (hall k hlt).below hbel hbs
      obtain ⟨⟨K, A, B, C, D, S, T, V⟩, HXk⟩ : ∃ x, Hid (L[k] = x) := ⟨_, hid rfl⟩
      rw [HXk.out] at hx
      have c0 := hx.c0
      have c1 := hx.c1
      have c2 := hx.c2
      have c3 := hx.c3
      have c4 := hx.c4
      have c5 := hx.c5
      have c6 := hx.c6
      have c7 := hx.c7
      have HSs := hid hx.s
      have HVs := hid hx.v
      dsimp only at c0 c1 c2 c3 c4 c5 c6 c7 HSs HVs
      have hk' : wr.cell? ⟨kb, 0, none⟩ = some (.int .i64 2) := by rw [hbel.cell hkb]; exact hk0
      obtain ⟨w2, hw2⟩ : ∃ w2, w2 = wr := ⟨_, rfl⟩
      subst hw2
      obtain ⟨gk2, hgk2⟩ : ∃ g, g = gk := ⟨_, rfl⟩
      subst hgk2
      have hbs2 : b < w2.heap.size := by omega
      have hltI : (k : Int) < (L.length : Int) := by omega
      clear hall hx
      go_wp2_with fail
      go_loopg [8, 9] 1 (fun hk8 y8 y9 wq => (hk8 = 1 ∧ y8 = .bool false ∧ y9 = .int .i64 0 ∧ wq = w2) ∨ (hk8 = 0 ∧ y8 = .bool (K == 2) ∧ y9 = .int .i64 1 ∧ ∃ n, wq = w2.drewN n))
      case atStart => exact Or.inl ⟨rfl, rfl, rfl, rfl⟩
      case round =>
        rcases hrel with ⟨rfl, rfl, rfl, rfl⟩ | ⟨rfl, rfl, rfl, nn, rfl⟩
        · go_wp2_with fail
          go_quiet (fail)
          go_wp2_with fail
          go_roundg 0
          case rel => exact Or.inr ⟨rfl, rfl, rfl, _, rfl⟩
          case measure => omega
        · have hbq : Below w2.heap.size w2 (w2.drewN nn) := below_drewN (Below.refl _ _) nn
          have hbq0 : Below w.heap.size w (w2.drewN nn) := hbel.trans (hbq.mono hzr)
          have HIq := hid (HI.out.below hbq)
          by_cases hK : K = 2
          · subst hK
            have hk1 : ((2 : Int) == 2) = true := by decide
            rw [hk1]
            have hcell : ∀ ad : Addr, ad.block < w2.heap.size → (w2.drewN nn).cell? ad = w2.cell? ad := fun ad had => hbq.cell had
            rw [← hcell _ hbs2] at c0 c1 c2 c3 c4 c5 c6 c7
            clear hcell hk'
            go_wp2_with fail
            refine (stepEncode _ w.heap.size w.heap.size dv ev bv X [] HIq.out (by omega) A B C D S T V HSs.out HVs.out (HE.out.below hbq0) (HE.out.below hbq0).own).mono ?_; rintro e w3 ⟨rfl, bv3, x3, hI3, hb3⟩
            have HI3 := hid hI3
            have hb03 : Below w.heap.size w w3 := hbq0.trans hb3
            clear hI3 hb3
            go_wp2_with fail
            refine (looks_any _ w.heap.size w.heap.size _ _ bv3 (X ++ [x3]) HI3.out.wat HI3.out.ents (by rw [List.length_append, List.length_singleton]; omega)).mono ?_; rintro e w4 ⟨rfl, hb4⟩
            have HI4 := hid (HI3.out.below hb4)
            have hb04 : Below w.heap.size w w4 := hb03.trans (hb4.mono hb03.size)
            clear hb4
            go_wp2_with fail
            go_roundg (gk2 - 1)
            case rel => exact ⟨k + 1, dv, ev, bv3, X ++ [x3], by omega, by go_num, HI4, by rw [List.length_append, List.length_singleton]; omega, hb04⟩
            case measure => omega
          · have hK' : (K == 2) = false := by simp [hK]
            rw [hK']
            clear hk'
            go_wp2_with fail
            go_roundg (gk2 - 1)
            case rel => exact ⟨k + 1, dv, ev, bv, X, by omega, by go_num, HIq, by omega, hbq0⟩
            case measure => omega
    · have hltI : ¬ (k : Int) < (L.length : Int) := by omega
      go_wp2_with fail
      go_ret
      exact ⟨rfl, hbel⟩
set_option maxRecDepth 100000 in
set_option maxHeartbeats 1000000 in
theorem encodes_any (w : World) (sa : Option Addr) (cap : Nat) (L : List OpV) (hS : Scr w sa L) (hl : L.length ≤ 3000000) (hE : Env w) :
    Calls Tryz.prog 4 #[.slice sa L.length cap] w fun e w' => e = .returned (.bool true) ∧ Below w.heap.size w w' := by
  have hb0 : Below w.heap.size w (w.alloc (.cells #[.int .i64 2] 3)) := (Below.refl _ _).alloc (Nat.le_refl _) _
  have HS := hid (hS.below hb0)
  have HE := hid hE
  clear hS hE
  go_enter Tryz.func4, Tryz.ntmps4
  go_wp2_with fail
  refine (playsEncode _ sa cap _ L HS.out hl (by simp) (by simp) (HE.out.below hb0)).mono ?_; rintro e w1 ⟨rfl, hb1⟩
  have hb2 := hb0.trans (hb1.mono hb0.size)
  go_wp2_with fail
  go_ret
  exact ⟨rfl, hb2⟩
end Go.Proofs.YtopcgnjocklcoaaGreatDoor
