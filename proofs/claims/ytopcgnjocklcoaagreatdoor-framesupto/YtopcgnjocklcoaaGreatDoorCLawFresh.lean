/- A step of kind KFresh: a deframer more. -/
import Derived.Test.YtopcgnjocklcoaaGreatDoorGHouse
import Derived.Test.YtopcgnjocklcoaaGreatDoorGFrB
namespace Go.Proofs.YtopcgnjocklcoaaGreatDoor
open Go.RowKit

theorem Tryz.infoPD : (Tryz.prog.info? 48).map (fun i => (i.zero, i.size, i.bytes)) = some (some (.pointer none), 1, 8) := by kernel_rfl
theorem Tryz.infoPE : (Tryz.prog.info? 50).map (fun i => (i.zero, i.size, i.bytes)) = some (some (.pointer none), 1, 8) := by kernel_rfl
theorem one_ptr {a : Option Addr} : ∀ u ∈ [Value.pointer a], u.oneCell' = true := fun u hu => by simp at hu; subst hu; rfl
/-- one deframer more has been laid down -/
theorem Law.fresh {w w' : World} {B lo : Nat} {dv ev bv dv' ev' : Value} {X : List Ent} {Ds : List DD} {db eb : Nat} (h : Law w B lo dv ev bv X Ds) (hW : WAt w' B dv' ev' bv)
    (hds : w'.ownsRow lo 48 1 dv' (Ds.length + 1) ((Ds.map fun d => .pointer (some ⟨d.db, 0, none⟩)) ++ [.pointer (some ⟨db, 0, none⟩)]))
    (hes : w'.ownsRow lo 50 1 ev' (Ds.length + 1) ((Ds.map fun d => .pointer (some ⟨d.eb, 0, none⟩)) ++ [.pointer (some ⟨eb, 0, none⟩)]))
    (hT : Turn w w' (fun k => k = B ∨ dv.ownBlock = some k ∨ ev.ownBlock = some k)) (hC : Cut w' db (some [])) (hR : w'.heap[eb]? = some (.cells #[.slice none 0 0, .int .i64 0, .bool false] 52 (0, 0))) (hdb : w.heap.size ≤ db) (heb : w.heap.size ≤ eb) :
    Law w' B lo dv' ev' bv X (Ds ++ [⟨db, eb, .slice none 0 0, []⟩]) ∧ Below lo w w' := by
  have hBlt := h.B_lt
  have hlow := h.low.1
  have hfree : ∀ (k : Nat) (T : TypeId) (cur : Array Value), w.heap[k]? = some (.cells cur T (0, 0)) → T ≠ 31 → T ≠ 48 → T ≠ 50 → w'.heap[k]? = w.heap[k]? := fun k T cur hk h1 h2 h3 => by
    refine hT.block k (Array.getElem?_eq_some_iff.1 hk).1 ?_
    rintro (rfl | hs | hs)
    · have := h.wat; unfold WAt at this; rw [hk] at this; simp at this; exact h1 this.2
    · obtain ⟨cur', hc'⟩ := own_type h.ds hs
      rw [hk] at hc'; simp at hc'; exact h2 hc'.2
    · obtain ⟨cur', hc'⟩ := own_type h.es hs
      rw [hk] at hc'; simp at hc'; exact h3 hc'.2
  refine ⟨⟨hW, ⟨own_same h.ents.own (fun g hg => ?_), fun x hx => (h.ents.ok x hx).turn (fun u hu k hk => ?_)⟩, by rw [List.length_append, List.map_append]; exact hds, by rw [List.length_append, List.map_append]; exact hes, fun d hd => ?_, fun d hd => ?_, ⟨hlow, fun d hd => ?_⟩, ?_, fun x hx u hu k hk d hd => ?_, h.lox⟩, hT.below (by omega) (fun k hk hs => ?_)⟩
  · obtain ⟨cur, hc⟩ := own_type h.ents.own hg
    exact hfree g _ cur hc (by decide) (by decide) (by decide)
  · obtain ⟨cur, hc⟩ := (h.ents.ok x hx).blk u hu k hk
    exact hfree k _ cur hc (by decide) (by decide) (by decide)
  · rcases List.mem_append.1 hd with hd | hd
    · obtain ⟨cur, hc, e⟩ := h.cut d hd
      exact ⟨cur, (hfree _ _ cur hc (by decide) (by decide) (by decide)).trans hc, e⟩
    · simp only [List.mem_singleton] at hd
      subst hd
      exact hC
  · rcases List.mem_append.1 hd with hd | hd
    · refine ⟨(hfree _ _ _ (h.rdf d hd).1 (by decide) (by decide) (by decide)).trans (h.rdf d hd).1, own_same (h.rdf d hd).2 (fun g hg => ?_)⟩
      obtain ⟨cur, hc⟩ := own_type (h.rdf d hd).2 hg
      exact hfree g _ cur hc (by decide) (by decide) (by decide)
    · simp only [List.mem_singleton] at hd
      subst hd
      exact ⟨hR, World.ownsRow_nil _ _ _ _⟩
  · rcases List.mem_append.1 hd with hd | hd
    · exact h.low.2 d hd
    · simp only [List.mem_singleton] at hd
      subst hd
      exact ⟨by show lo ≤ db; omega, by show lo ≤ eb; omega⟩
  · have key : ∀ (i : Nat) (d : DD), Ds[i]? = some d → d.db ≠ db ∧ d.eb ≠ eb := fun i d hd => by
      have hm := List.mem_of_getElem? hd
      have h1 := (h.cut d hm).lt
      have h2 := (h.rdf d hm).lt
      omega
    intro i j d d' hi hj hij
    rcases Nat.lt_or_ge i Ds.length with h1 | h1 <;> rcases Nat.lt_or_ge j Ds.length with h2 | h2
    · rw [List.getElem?_append_left h1] at hi
      rw [List.getElem?_append_left h2] at hj
      exact h.dne i j d d' hi hj hij
    · rw [List.getElem?_append_left h1] at hi
      rw [List.getElem?_append_right h2] at hj
      have hm := List.mem_of_getElem? hj
      simp only [List.mem_singleton] at hm
      subst hm
      obtain ⟨q1, q2⟩ := key i d hi
      exact ⟨q1, q2, fun k _ e => by simp [Value.ownBlock] at e⟩
    · rw [List.getElem?_append_right h1] at hi
      rw [List.getElem?_append_left h2] at hj
      have hm := List.mem_of_getElem? hi
      simp only [List.mem_singleton] at hm
      subst hm
      obtain ⟨q1, q2⟩ := key j d' hj
      exact ⟨fun e => q1 e.symm, fun e => q2 e.symm, fun k e _ => by simp [Value.ownBlock] at e⟩
    · have := (List.getElem?_eq_some_iff.1 hi).1
      have := (List.getElem?_eq_some_iff.1 hj).1
      simp at *; omega
  · rcases List.mem_append.1 hd with hd | hd
    · exact h.ape x hx u hu k hk d hd
    · simp only [List.mem_singleton] at hd
      subst hd
      simp [Value.ownBlock]
  · rcases hs with rfl | hs | hs
    · omega
    · have := (h.ds.lt k hs).1; omega
    · have := (h.es.lt k hs).1; omega
set_option maxRecDepth 100000 in
set_option maxHeartbeats 4000000 in
theorem stepFresh (w : World) (B lo : Nat) (dv ev bv : Value) (X : List Ent) (Ds : List DD) (hI : Law w B lo dv ev bv X Ds) (hD : Ds.length ≤ 99999999) (oA oB oC oD : Int) (S T V : ByteArray) :
    Calls Tryz.prog 9 #[.pointer (some ⟨B, 0, none⟩), .agg #[.int .i64 5, .int .i64 oA, .int .i64 oB, .int .i64 oC, .int .i64 oD, .string S, .string T, .string V]] w fun e w' => e = .returned (.bool true) ∧ ∃ dv' ev' d, Law w' B lo dv' ev' bv X (Ds ++ [d]) ∧ d.A = [] ∧ Below lo w w' := by
  have hBw := hI.B_lt
  have hlow := hI.low.1
  obtain ⟨da, dc, rfl⟩ := own_slice hI.ds
  obtain ⟨ea, ec, rfl⟩ := own_slice hI.es
  have HI := hid hI
  clear hI
  have hb0 : Below w.heap.size w (w.alloc (.cells #[.int .i64 5, .int .i64 oA, .int .i64 oB, .int .i64 oC, .int .i64 oD, .string S, .string T, .string V] 34)) := (Below.refl _ _).alloc (Nat.le_refl _) _
  obtain ⟨w0, hw0⟩ : ∃ w0, w0 = w.alloc (.cells #[.int .i64 5, .int .i64 oA, .int .i64 oB, .int .i64 oC, .int .i64 oD, .string S, .string T, .string V] 34) := ⟨_, rfl⟩
  have hz0 : w0.heap.size = w.heap.size + 1 := by rw [hw0]; simp
  rw [← hw0] at hb0
  have HW0 := hid hw0
  go_enter Tryz.func9, Tryz.ntmps9
  go_wp2_with fail
  rw [← HW0.out]
  refine (newDeframer_any _).mono ?_; rintro e w1 ⟨rfl, hb1, hz1, hC1⟩
  have hbel1 := hb0.trans (hb1.mono (by omega))
  obtain ⟨db, hdb⟩ : ∃ db, db = w0.heap.size := ⟨_, rfl⟩
  rw [← hdb] at hC1 ⊢
  have HC1 := hid hC1
  have HI1 := hid (HI.out.below hbel1)
  have hc0 : w1.cell? ⟨B, 0, none⟩ = some (.slice da Ds.length dc) := by rw [cell_row HI1.out.wat]; rfl
  have hdbz : w.heap.size ≤ db ∧ db < w1.heap.size := by omega
  have hz01 : w.heap.size + 1 ≤ w1.heap.size := by omega
  clear hC1 hw0 hb1 hdb hz0 hz1
  go_wp2_with (at_builtin; refine wpList_append_gen _ rfl (.tmp 187) (.tmp 189) 27 48 _ 1 8 rfl Tryz.underlying27 Tryz.infoPD rfl (by decide) _ Ds.length _ lo rfl (World.ownsRow.alloc HI1.out.ds _) _ 1 1 [.pointer (some ⟨db, 0, none⟩)] rfl rfl (one_at _ _ _) one_ptr (Ds.length + 1) rfl _ rfl (by unfold maxLen; omega) (by omega) (by simp; omega) ?_)
  intro a2 c2 w2 ho2 hg2
  have hT12 : Turn w1 w2 (fun q => (Value.slice da Ds.length dc).ownBlock = some q) := (Turn.of_below (S := fun q => (Value.slice da Ds.length dc).ownBlock = some q) ((Below.refl _ _).alloc (Nat.le_refl _) _)).trans (Turn.of_grew hg2) (fun q _ h => h)
  have hz2 := hT12.size
  have hB1 : B < w1.heap.size := by omega
  have hdB : (Value.slice da Ds.length dc).ownBlock ≠ some B := fun e => by
    obtain ⟨cur, hcur⟩ := own_type HI1.out.ds e
    have := HI1.out.wat; unfold WAt at this
    rw [this] at hcur; simp at hcur
  have hW2 : w2.heap[B]? = some (.cells #[.slice da Ds.length dc, .slice ea Ds.length ec, bv] 31 (0, 0)) := (hT12.block B hB1 hdB).trans HI1.out.wat
  have hc20 : w2.cell? ⟨B, 0, none⟩ = some (.slice da Ds.length dc) := by rw [cell_row hW2]; rfl
  have hf20 : w2.frozen? ⟨B, 0, none⟩ = false := frozen_row hW2 _
  have hc21 : w2.cell? ⟨B, 1, none⟩ = some (.slice ea Ds.length ec) := by rw [cell_row hW2]; rfl
  obtain ⟨w3, hw3⟩ : ∃ w3, w3 = w2.setCell ⟨B, 0, none⟩ (.slice a2 (Ds.length + 1) c2) := ⟨_, rfl⟩
  have hW3 : w3.heap[B]? = some (.cells #[.slice a2 (Ds.length + 1) c2, .slice ea Ds.length ec, bv] 31 (0, 0)) := by
    rw [hw3, heap_setCell_same w2 B 0 _ _ _ hW2]; rfl
  have hT23 : Turn w2 w3 (fun k => k = B) := by rw [hw3]; exact Turn.setCell _ _ _ _
  have hz3 := hT23.size
  have hneB : ∀ {T : TypeId} {v : Value} {n : Nat} {xs : List Value}, T ≠ 31 → w2.ownsRow lo T 1 v n xs → w3.ownsRow lo T 1 v n xs := fun {T v n xs} hTne ho => own_same ho (fun g hg => hT23.block g (ho.lt g hg).2 (fun e => by
    subst e
    obtain ⟨cur, hcur⟩ := own_type ho hg
    rw [hW2] at hcur; simp at hcur; exact hTne hcur.2.symm))
  have hds3 := hneB (by decide) ho2
  have hes2 : w2.ownsRow lo 50 1 (.slice ea Ds.length ec) Ds.length (Ds.map fun d => .pointer (some ⟨d.eb, 0, none⟩)) := own_same HI1.out.es (fun g hg => hT12.block g (HI1.out.es.lt g hg).2 (fun e => own_ne HI1.out.es HI1.out.ds (by decide) hg e rfl))
  have hes3 := hneB (by decide) hes2
  have hC3 : Cut w3 db (some []) := by
    obtain ⟨cur, hc, e⟩ := HC1.out
    refine ⟨cur, ?_, e⟩
    have e2 : w2.heap[db]? = w1.heap[db]? := hT12.block db hdbz.2 (fun e => by
      obtain ⟨cur', hcur'⟩ := own_type HI1.out.ds e
      rw [hc] at hcur'; simp at hcur')
    exact (hT23.block db (by omega) (fun e => by omega)).trans (e2.trans hc)
  have hT13 : Turn w1 w3 (fun k => k = B ∨ (Value.slice da Ds.length dc).ownBlock = some k) := (hT12.weak (fun k h => Or.inr h)).trans hT23 (fun q _ h => Or.inl h)
  have hc31 : w3.cell? ⟨B, 1, none⟩ = some (.slice ea Ds.length ec) := by rw [cell_row hW3]; rfl
  have HW3 := hid hW3
  have HD3 := hid hds3
  have HE3 := hid hes3
  have HC3 := hid hC3
  have HT13 := hid hT13
  have HW3e := hid hw3
  have hB3 : B < w3.heap.size := by omega
  clear ho2 hg2 hT12 hW2 hW3 hT23 hneB hds3 hes2 hes3 hC3 hT13 hw3
  obtain ⟨w4, hw4⟩ : ∃ w4, w4 = (w3.alloc (.cells #[.slice none 0 0, .int .i64 0, .bool false] 52)).alloc (.cells #[.pointer (some ⟨w2.heap.size, 0, none⟩)] 50) := ⟨_, rfl⟩
  have hsz3 : w3.heap.size = w2.heap.size := by rw [HW3e.out]; simp [World.setCell]
  have hn4 : ∀ j u, [Value.pointer (some ⟨w2.heap.size, 0, none⟩)][j]? = some u → w4.cell? ((⟨w2.heap.size + 1, 0, none⟩ : Addr).add j) = some u := by
    rw [hw4]
    have h1 := one_at (w3.alloc (.cells #[.slice none 0 0, .int .i64 0, .bool false] 52)) (.pointer (some ⟨w2.heap.size, 0, none⟩)) 50
    have h2 : (w3.alloc (.cells #[.slice none 0 0, .int .i64 0, .bool false] 52)).heap.size = w2.heap.size + 1 := by simp; exact hsz3
    rw [h2] at h1
    exact h1
  have hbel34 : Below w3.heap.size w3 w4 := by rw [hw4]; exact ((Below.refl _ _).alloc (Nat.le_refl _) _).alloc (by simp) _
  have hE4 : w4.ownsRow lo 50 1 (.slice ea Ds.length ec) Ds.length (Ds.map fun d => .pointer (some ⟨d.eb, 0, none⟩)) := own_same HE3.out (fun g hg => hbel34.block g (HE3.out.lt g hg).2)
  have hR4 : w4.heap[w2.heap.size]? = some (.cells #[.slice none 0 0, .int .i64 0, .bool false] 52 (0, 0)) := by
    rw [hw4, Below.heap_alloc _ _ _ (by simp; omega), ← hsz3]; exact heap_alloc_new w3 _
  have hz4 := hbel34.size
  have hz24 : w2.heap.size < w4.heap.size := by rw [hw4]; simp; omega
  have HN4 := hid hn4
  have HE4 := hid hE4
  have HR4 := hid hR4
  have HS3 := hid hsz3
  have HW4e := hid hw4
  clear hn4 hE4 hR4 hsz3 hw4
  go_wp2_with (at_builtin; refine wpList_append_gen _ rfl (.tmp 197) (.tmp 200) 28 50 _ 1 8 rfl Tryz.underlying28 Tryz.infoPE rfl (by decide) _ Ds.length _ lo rfl (by rw [← HW3e.out, ← HW4e.out]; exact HE4.out) ⟨w2.heap.size + 1, 0, none⟩ 1 1 [.pointer (some ⟨w2.heap.size, 0, none⟩)] rfl rfl (by rw [← HW3e.out, ← HW4e.out]; exact HN4.out) one_ptr (Ds.length + 1) rfl _ rfl (by unfold maxLen; omega) (by omega) (by rw [← HW3e.out, ← HW4e.out]; omega) ?_)
  intro a5 c5 w5 ho5 hg5
  rw [← HW3e.out, ← HW4e.out] at hg5
  have hT45 := Turn.of_grew hg5
  have hz5 := hT45.size
  have heB : (Value.slice ea Ds.length ec).ownBlock ≠ some B := fun e => by
    obtain ⟨cur, hcur⟩ := own_type HE3.out e
    rw [HW3.out] at hcur; simp at hcur
  have hW5 : w5.heap[B]? = some (.cells #[.slice a2 (Ds.length + 1) c2, .slice ea Ds.length ec, bv] 31 (0, 0)) := (hT45.block B (by omega) heB).trans ((hbel34.block B hB3).trans HW3.out)
  have hc51 : w5.cell? ⟨B, 1, none⟩ = some (.slice ea Ds.length ec) := by rw [cell_row hW5]; rfl
  have hf51 : w5.frozen? ⟨B, 1, none⟩ = false := frozen_row hW5 _
  obtain ⟨w6, hw6⟩ : ∃ w6, w6 = w5.setCell ⟨B, 1, none⟩ (.slice a5 (Ds.length + 1) c5) := ⟨_, rfl⟩
  have hT56 : Turn w5 w6 (fun k => k = B) := by rw [hw6]; exact Turn.setCell _ _ _ _
  have hfin : Law w6 B lo (.slice a2 (Ds.length + 1) c2) (.slice a5 (Ds.length + 1) c5) bv X (Ds ++ [⟨db, w2.heap.size, .slice none 0 0, []⟩]) ∧ Below lo w w6 := by
    have hT14 : Turn w1 w4 (fun k => k = B ∨ (Value.slice da Ds.length dc).ownBlock = some k) := HT13.out.trans (Turn.of_below (S := fun _ => False) hbel34) (fun _ _ h => h.elim)
    have hT16 : Turn w1 w6 (fun k => k = B ∨ (Value.slice da Ds.length dc).ownBlock = some k ∨ (Value.slice ea Ds.length ec).ownBlock = some k) :=
      ((hT14.weak (fun k h => h.imp id Or.inl)).trans hT45 (fun q _ h => Or.inr (Or.inr h))).trans hT56 (fun q _ h => Or.inl h)
    have hne5 : ∀ {T : TypeId} {v : Value} {n : Nat} {xs : List Value}, T ≠ 31 → w5.ownsRow lo T 1 v n xs → w6.ownsRow lo T 1 v n xs := fun {T v n xs} hTne ho => own_same ho (fun g hg => hT56.block g (ho.lt g hg).2 (fun e => by
      subst e
      obtain ⟨cur, hcur⟩ := own_type ho hg
      rw [hW5] at hcur; simp at hcur; exact hTne hcur.2.symm))
    have hds5 : w5.ownsRow lo 48 1 (.slice a2 (Ds.length + 1) c2) (Ds.length + 1) ((Ds.map fun d => .pointer (some ⟨d.db, 0, none⟩)) ++ [.pointer (some ⟨db, 0, none⟩)]) := by
      have h4 := own_same (w' := w4) HD3.out (fun g hg => hbel34.block g (HD3.out.lt g hg).2)
      exact own_same h4 (fun g hg => hT45.block g (h4.lt g hg).2 (fun e => own_ne h4 HE4.out (by decide) hg e rfl))
    have hT06 : Turn w w6 (fun k => k = B ∨ (Value.slice da Ds.length dc).ownBlock = some k ∨ (Value.slice ea Ds.length ec).ownBlock = some k) := (Turn.of_below (S := fun k => k = B ∨ (Value.slice da Ds.length dc).ownBlock = some k ∨ (Value.slice ea Ds.length ec).ownBlock = some k) hbel1).trans hT16 (fun q _ h => h)
    refine HI.out.fresh ?_ (hne5 (by decide) hds5) (hne5 (by decide) ho5) hT06 ?_ ?_ (by omega) (by omega)
    · show w6.heap[B]? = _
      rw [hw6, heap_setCell_same w5 B 1 _ _ _ hW5]; rfl
    · obtain ⟨cur, hc, e⟩ := HC3.out
      have hd3 : db < w3.heap.size := (Array.getElem?_eq_some_iff.1 hc).1
      refine ⟨cur, ?_, e⟩
      rw [hT56.block db (by omega) (fun e => by omega), hT45.block db (by omega) (fun e => by
        obtain ⟨cur', hcur'⟩ := own_type HE4.out e
        rw [(hbel34.block db hd3).trans hc] at hcur'; simp at hcur'), hbel34.block db hd3]
      exact hc
    · rw [hT56.block w2.heap.size (by omega) (fun e => by omega), hT45.block w2.heap.size (by omega) (fun e => by
        obtain ⟨cur', hcur'⟩ := own_type HE4.out e
        rw [HR4.out] at hcur'; simp at hcur')]
      exact HR4.out
  have HFin := hid hfin
  have HW6e := hid hw6
  clear hfin hT56 hT45 ho5 hg5 hW5 hw6
  go_wp2_with fail
  go_ret
  rw [← HW6e.out]
  exact ⟨rfl, _, _, _, HFin.out.1, rfl, HFin.out.2⟩
end Go.Proofs.YtopcgnjocklcoaaGreatDoor
