/- A step of kind KFrame. -/
import Derived.Test.YtopcgnjocklcoaaGreatDoorGHouse
namespace Go.Proofs.YtopcgnjocklcoaaGreatDoor
open Go.RowKit

set_option maxRecDepth 100000 in
set_option maxHeartbeats 4000000 in
theorem stepFrame (w : World) (B lo : Nat) (dv ev bv : Value) (X : List Ent) (Ds : List DD) (hI : Law w B lo dv ev bv X Ds) (hX : X.length ≤ 99999999) (oA oB oC oD : Int) (S T V : ByteArray) (hV : V.size ≤ 100000000) :
    Calls Tryz.prog 9 #[.pointer (some ⟨B, 0, none⟩), .agg #[.int .i64 4, .int .i64 oA, .int .i64 oB, .int .i64 oC, .int .i64 oD, .string S, .string T, .string V]] w fun e w' => e = .returned (.bool true) ∧ ∃ bv' x, Law w' B lo dv ev bv' (X ++ [x]) Ds ∧ Below lo w w' := by
  have hBw := hI.B_lt
  have hlow := hI.low.1
  have hVl : V.toList.length = V.size := by rw [ByteArray.toList_eq]; rfl
  have HI := hid hI
  clear hI
  have hb0 : Below w.heap.size w (w.alloc (.cells #[.int .i64 4, .int .i64 oA, .int .i64 oB, .int .i64 oC, .int .i64 oD, .string S, .string T, .string V] 34)) := (Below.refl _ _).alloc (Nat.le_refl _) _
  obtain ⟨w0, hw0⟩ : ∃ w0, w0 = w.alloc (.cells #[.int .i64 4, .int .i64 oA, .int .i64 oB, .int .i64 oC, .int .i64 oD, .string S, .string T, .string V] 34) := ⟨_, rfl⟩
  have hop : w0.heap[w.heap.size]? = some (.cells #[.int .i64 4, .int .i64 oA, .int .i64 oB, .int .i64 oC, .int .i64 oD, .string S, .string T, .string V] 34 (0, 0)) := by rw [hw0]; exact heap_alloc_new w _
  have hz0 : w0.heap.size = w.heap.size + 1 := by rw [hw0]; simp
  rw [← hw0] at hb0
  have HOP := hid hop
  have HW0 := hid hw0
  clear hop
  go_enter Tryz.func9, Tryz.ntmps9
  go_wp2_with fail
  rw [← HW0.out]
  refine (lent_any _ _ _ _ _ _ _ _ _ (by omega)).mono ?_; rintro e w1 ⟨v1, rfl, hL1, hbel1⟩
  have hz1 := hbel1.size
  have HOP1 := hid ((hbel1.block _ (by omega)).trans HOP.out)
  obtain ⟨d0, d1, d2, d3, d4, d5, d6, d7⟩ := op_cells HOP1.out
  have hbel01 := hb0.trans (hbel1.mono (by omega))
  have HL1 := hid hL1
  obtain ⟨va, vn, vc, hv1⟩ : ∃ a n c, v1 = .slice a n c := by obtain ⟨a, c, e⟩ := hL1.rd.slice; exact ⟨a, _, c, e⟩
  subst hv1
  clear hL1 hw0
  go_wp2_with fail
  refine (frame_any _ _ V.toList HL1.out.rd (by unfold maxLen; omega)).mono ?_; rintro e w2 ⟨hbel2, hq2⟩
  have hz2 := hbel2.size
  have HOP2 := hid ((hbel2.block _ (by omega)).trans HOP1.out)
  have HL2 := hid (HL1.out.turn (w' := w2) (fun k hk => hbel2.block k (HL1.out.lt k hk).2))
  have hv1b : ∀ k, (Value.slice va vn vc).ownBlock = some k → w0.heap.size ≤ k ∧ k < w1.heap.size := HL1.out.lt
  have HV1b := hid hv1b
  have hbel02 := hbel01.trans (hbel2.mono (by omega))
  clear d0 d1 d2 d3 d4 d5 d6 d7 hv1b
  obtain ⟨d0, d1, d2, d3, d4, d5, d6, d7⟩ := op_cells HOP2.out
  by_cases hok : okB V.toList.length = true
  · have HO := hid hok
    rw [hok] at hq2
    obtain ⟨la, lc, rfl, hB2⟩ := hq2
    have hfl := frameP_len sumB_len V.toList
    have h120 := (okB_iff.1 hok).2
    obtain ⟨F, HF⟩ : ∃ F, Hid (frameP sumB V.toList = F) := ⟨_, hid rfl⟩
    rw [HF.out] at hB2 hfl ⊢
    have hFl : F.length ≤ 125 := by omega
    have HB2 := hid hB2
    clear hok hB2 hfl
    go_wp2_with fail
    refine (back_any _ _ _ _ _ _ _ _ _ _ V HL2.out (by omega)).mono ?_; rintro e w3 ⟨rfl, hT3⟩
    have hz3 := hT3.size
    have hbel3 : Below w0.heap.size w2 w3 := hT3.below (by omega) (fun k hk hs => by have := (HV1b.out k hs).1; omega)
    have HOP3 := hid ((hbel3.block _ (by omega)).trans HOP2.out)
    have HB3 := hid (show Bys w3 w1.heap.size (.slice la F.length lc) F from own_same HB2.out (fun g hg => hT3.block g (HB2.out.lt g hg).2 (fun hs => by have h1 := (HV1b.out g hs).2; have h2 := (HB2.out.lt g hg).1; omega)))
    have hbel03 : Below w.heap.size w w3 := hbel02.trans (hbel3.mono (by omega))
    clear d0 d1 d2 d3 d4 d5 d6 d7 hT3
    obtain ⟨d0, d1, d2, d3, d4, d5, d6, d7⟩ := op_cells HOP3.out
    obtain ⟨ca, cc, w4, hconv, HR4, HB4⟩ := conv_bytes w3 V
    have hz4 := HB4.out.size
    go_wp2_with fail
    refine (refFrame_any _ _ V.toList HR4.out (by unfold maxLen; omega)).mono ?_; rintro e w5 ⟨hbel5, hq5⟩
    rw [HO.out] at hq5
    obtain ⟨ma, mc, rfl, hB5⟩ := hq5
    rw [HF.out] at hB5 ⊢
    have hz5 := hbel5.size
    have hbel05 : Below w.heap.size w w5 := (hbel03.trans (HB4.out.mono (by omega))).trans (hbel5.mono (by omega))
    have HBl5 := hid ((HB3.out.same HB4.out).same hbel5)
    have HBm5 := hid hB5
    have hcl := HBl5.out.rd.conv
    have hcm := HBm5.out.rd.conv
    have HI5 := hid (HI.out.below hbel05)
    clear hB5 hconv d0 d1 d2 d3 d4 d5 d6 d7
    go_wp2_with fail
    refine (own_any _ B lo w1.heap.size dv ev bv _ X F HI5.out.wat HI5.out.ents HBl5.out (by omega) (by omega) (by omega) (by omega) (fun x hx u hu k hk e => by have h1 := (HI.out.ents.ok x hx).lt u hu k hk; have h2 := (HBl5.out.lt k e).1; omega)).mono ?_; rintro e w6 hP6
    obtain ⟨rfl, bv', x, hI6, hbel6, _⟩ := HI5.out.own hP6 (fun k hk => ⟨by have h2 := (HBl5.out.lt k hk).1; omega, own_type HBl5.out hk, fun d hd e => by have h1 := ((HI.out.rdf d hd).2.lt k e).2; have h2 := (HBl5.out.lt k hk).1; omega⟩)
    have HI6 := hid hI6
    have hb06 : Below lo w w6 := (hbel05.mono (by omega)).trans hbel6
    clear hI6 hP6 hcl hcm
    go_wp2_with fail
    go_ret
    exact ⟨rfl, bv', x, HI6.out, hb06⟩
  · have hno : okB V.toList.length = false := by simpa using hok
    have HO := hid hno
    rw [hno] at hq2
    obtain rfl := hq2
    have hq := eql_nil none 0 0
    clear hok hno
    go_wp2_with fail
    refine (back_any _ _ _ _ _ _ _ _ _ _ V HL2.out (by omega)).mono ?_; rintro e w3 ⟨rfl, hT3⟩
    have hz3 := hT3.size
    have hbel3 : Below w0.heap.size w2 w3 := hT3.below (by omega) (fun k hk hs => by have := (HV1b.out k hs).1; omega)
    have HOP3 := hid ((hbel3.block _ (by omega)).trans HOP2.out)
    have hbel03 : Below w.heap.size w w3 := hbel02.trans (hbel3.mono (by omega))
    clear d0 d1 d2 d3 d4 d5 d6 d7 hT3
    obtain ⟨d0, d1, d2, d3, d4, d5, d6, d7⟩ := op_cells HOP3.out
    obtain ⟨ca, cc, w4, hconv, HR4, HB4⟩ := conv_bytes w3 V
    have hz4 := HB4.out.size
    go_wp2_with fail
    refine (refFrame_any _ _ V.toList HR4.out (by unfold maxLen; omega)).mono ?_; rintro e w5 ⟨hbel5, hq5⟩
    rw [HO.out] at hq5
    obtain rfl := hq5
    have hz5 := hbel5.size
    have hbel05 : Below w.heap.size w w5 := (hbel03.trans (HB4.out.mono (by omega))).trans (hbel5.mono (by omega))
    have HBl5 := hid (show Bys w5 w1.heap.size (.slice none 0 0) [] from World.ownsRow_nil _ _ _ _)
    have hcl := HBl5.out.rd.conv
    have HI5 := hid (HI.out.below hbel05)
    clear hconv d0 d1 d2 d3 d4 d5 d6 d7
    go_wp2_with fail
    refine (own_any _ B lo w1.heap.size dv ev bv _ X [] HI5.out.wat HI5.out.ents HBl5.out (by omega) (by simp) (by omega) (by omega) (fun x hx u hu k hk e => by simp [Value.ownBlock] at e)).mono ?_; rintro e w6 hP6
    obtain ⟨rfl, bv', x, hI6, hbel6, _⟩ := HI5.out.own hP6 (fun k hk => by simp [Value.ownBlock] at hk)
    have HI6 := hid hI6
    have hb06 : Below lo w w6 := (hbel05.mono (by omega)).trans hbel6
    clear hI6 hP6 hcl
    go_wp2_with fail
    go_ret
    exact ⟨rfl, bv', x, HI6.out, hb06⟩
end Go.Proofs.YtopcgnjocklcoaaGreatDoor
