/- 'own': a list is made its owner's. -/
import Derived.Test.YtlgjlfobbpgklaaGreatDoorCLawOwn
import Derived.Test.YtlgjlfobbpgklaaGreatDoorCFrFeed
namespace Go.Proofs.YtlgjlfobbpgklaaGreatDoor
open Go.RowKit

theorem fill_set (L : List UInt8) (m : UInt8) (k : Nat) (hk : k < L.length) : (List.replicate k m ++ L.drop k).set k m = List.replicate (k + 1) m ++ L.drop (k + 1) := by
  rw [List.set_append_right _ _ (by simp), List.length_replicate, Nat.sub_self, List.drop_eq_getElem_cons hk, List.set_cons_zero, List.replicate_succ', List.append_assoc]
  rfl
theorem fill_len (L : List UInt8) (m : UInt8) (k : Nat) (hk : k ≤ L.length) : (List.replicate k m ++ L.drop k).length = L.length := by simp; omega
theorem five_at (w : World) (u0 u1 u2 u3 u4 : Value) (T : TypeId) : ∀ j u, [u0, u1, u2, u3, u4][j]? = some u → (w.alloc (.cells #[u0, u1, u2, u3, u4] T)).cell? ((⟨w.heap.size, 0, none⟩ : Addr).add j) = some u := by
  intro j u hj
  rw [rd_add _ _ rfl, cell_row (heap_alloc_new w _)]
  simpa using hj
theorem five_one {a0 a1 a2 a3 : Option Addr} {n0 n1 n2 n3 c0 c1 c2 c3 : Nat} {z : Int} : ∀ u ∈ [Value.slice a0 n0 c0, .slice a1 n1 c1, .slice a2 n2 c2, .slice a3 n3 c3, .int .u8 z], u.oneCell' = true := fun u hu => by
  simp only [List.mem_cons, List.not_mem_nil, or_false] at hu
  rcases hu with rfl | rfl | rfl | rfl | rfl <;> rfl
/-- what 'own' leaves -/
def OwnPost (w : World) (B lo : Nat) (dv ev bv lv : Value) (X : List Ent) (e : Ending) (w' : World) : Prop :=
  e = .returned (.tuple #[]) ∧ ∃ bv' x, WAt w' B dv ev bv' ∧ Ents w' lo bv' (X ++ [x]) ∧ Turn w w' (fun k => k = B ∨ bv.ownBlock = some k ∨ lv.ownBlock = some k) ∧
    (∀ k, bv'.ownBlock = some k → bv.ownBlock = some k ∨ w.heap.size ≤ k) ∧ ∀ u ∈ entVals x, ∀ k, u.ownBlock = some k → lv.ownBlock = some k ∨ w.heap.size ≤ k
set_option maxRecDepth 100000 in
set_option maxHeartbeats 4000000 in
theorem own_any (w : World) (B lo lo2 : Nat) (dv ev bv lv : Value) (X : List Ent) (L : List UInt8) (hW : WAt w B dv ev bv) (hX : Ents w lo bv X) (hL : Bys w lo2 lv L) (hn : X.length ≤ 100000000) (hl : L.length ≤ 1000000000) (hlo : lo ≤ w.heap.size) (hlo2 : lo2 ≤ w.heap.size)
    (hap : ∀ x ∈ X, ∀ u ∈ entVals x, ∀ k, u.ownBlock = some k → lv.ownBlock ≠ some k) :
    Calls Tryz.prog 38 #[.pointer (some ⟨B, 0, none⟩), lv] w (OwnPost w B lo dv ev bv lv X) := by
  obtain ⟨ba, bc, rfl⟩ := own_slice hX.own
  obtain ⟨la, lc, rfl⟩ := own_slice hL
  have hB : B < w.heap.size := (Array.getElem?_eq_some_iff.1 hW).1
  have hc2 : w.cell? ⟨B, 2, none⟩ = some (.slice ba X.length bc) := by rw [cell_row hW]; rfl
  obtain ⟨m, hm⟩ : ∃ m : UInt8, (m.toNat : Int) = (X.length : Int) % 251 := ⟨(X.length % 251).toUInt8, by simp [Nat.toUInt8, UInt8.toNat_ofNat']; omega⟩
  have HM := hid hm
  have HX := hid hX
  have HL := hid hL
  have HW := hid hW
  have HAP := hid hap
  clear hX hW hL hap hm
  go_enter Tryz.func38, Tryz.ntmps38
  go_wp2_with fail
  rw [← HM.out]
  go_loopg [5] L.length (fun gk i wr => ∃ k : Nat, k + gk = L.length ∧ i = .int .i64 k ∧ Hid (Bys wr lo2 (.slice la L.length lc) (List.replicate k m ++ L.drop k)) ∧ Hid (Turn w wr (fun q => (Value.slice la L.length lc).ownBlock = some q)))
  case atStart => exact ⟨0, by omega, rfl, hid (by simpa using HL.out), hid (Turn.refl _ _)⟩
  case round =>
    obtain ⟨k, hk, rfl, HBr, HTr⟩ := hrel
    by_cases hlt : k < L.length
    · have hltI : (k : Int) < (L.length : Int) := by omega
      obtain ⟨b, o, c', hv, hb, hc⟩ := HBr.out.rd.at (by simp; omega)
      rw [fill_len L m k (by omega)] at hv
      obtain ⟨g, hg0⟩ : ∃ g, la = some ⟨g, 0, none⟩ := by
        rcases HBr.out.2 with ⟨_, e⟩ | ⟨g, cap, cur, hv, _⟩
        · rw [fill_len L m k (by omega)] at e; omega
        · simp at hv; exact ⟨g, hv.1⟩
      subst hg0
      obtain ⟨⟨rfl, rfl⟩, rfl⟩ : (g = b ∧ 0 = o) ∧ lc = c' := by simpa using hv
      obtain ⟨old, hck⟩ : ∃ old : Int, wr.cell? ⟨g, k, none⟩ = some (.int .u8 old) := ⟨_, by have := hc k (by rw [fill_len L m k (by omega)]; omega); rwa [Nat.zero_add] at this⟩
      obtain ⟨cur, hcur⟩ := own_type HBr.out (g := g) rfl
      have hfk : wr.frozen? ⟨g, k, none⟩ = false := frozen_row hcur _
      have HB2 := hid (show Bys (wr.setCell ⟨g, k, none⟩ (.int .u8 m.toNat)) lo2 (.slice (some ⟨g, 0, none⟩) L.length lc) (List.replicate (k + 1) m ++ L.drop (k + 1)) from by
        have h1 : Bys wr lo2 (.slice (some ⟨g, 0, none⟩) (List.replicate k m ++ L.drop k).length lc) (List.replicate k m ++ L.drop k) := by rw [fill_len L m k (by omega)]; exact HBr.out
        have h2 := h1.put k m
        rw [fill_set L m k hlt, fill_len L m (k + 1) (by omega)] at h2
        exact h2)
      have HT2 := hid (show Turn w (wr.setCell ⟨g, k, none⟩ (.int .u8 m.toNat)) (fun q => (Value.slice (some ⟨g, 0, none⟩) L.length lc).ownBlock = some q) from HTr.out.trans (Turn.setCell wr g k _) (fun q _ h => by rw [h]; rfl))
      clear hc hv hcur
      go_wp2_with fail
      go_roundg (gk - 1)
      case rel => exact ⟨k + 1, by omega, by go_num, HB2, HT2⟩
      case measure => omega
    · have hltI : ¬ (k : Int) < (L.length : Int) := by omega
      obtain rfl : k = L.length := by omega
      have HBn := hid (show Bys wr lo2 (.slice la L.length lc) (List.replicate L.length m) from by have := HBr.out; rwa [List.drop_length, List.append_nil] at this)
      obtain ⟨w1, hw1⟩ : ∃ w1, w1 = wr := ⟨_, rfl⟩
      subst hw1
      obtain ⟨n, HNn⟩ : ∃ n, Hid (L.length = n) := ⟨_, hid rfl⟩
      have hz1 := HTr.out.size
      have hnl : n ≤ 1000000000 := by rw [← HNn.out]; exact hl
      rw [HNn.out] at HBn ⊢
      have hc2r : (Value.slice la n lc).ownBlock ≠ some B := fun e => by
        obtain ⟨cur, hcur⟩ := own_type HL.out (g := B) (by rw [HNn.out]; exact e)
        rw [HW.out] at hcur
        simp at hcur
      have hbne : ∀ q, (Value.slice ba X.length bc).ownBlock = some q → (Value.slice la n lc).ownBlock ≠ some q := fun q hq e => own_ne HX.out.own HL.out (by decide) hq (by rw [HNn.out]; exact e) rfl
      have HLB := hid hc2r
      have HBN := hid hbne
      have HTw : Hid (Turn w w1 (fun q => (Value.slice la n lc).ownBlock = some q)) := by have := HTr.out; rw [HNn.out] at this; exact this
      clear hc2r hbne HTr HBr
      go_wp2_with (at_builtin; refine wpList_append_fill _ rfl (.tmp 26) (.tmp 28) rfl _ n 1 m lo2 rfl (HBn.out.same ((Below.refl _ _).alloc (Nat.le_refl _) _)) (by decide) _ 1 rfl (fun j u hu => (bys_lit _ (List.replicate 1 m) _ rfl (by simp)).cells (g := w1.heap.size) rfl j u hu) (by omega) (by simp; omega) (n + 1) rfl ?_)
      intro a1 c1 w2 hb2 hk2 hl2 hg2
      have HT2 := hid (show Turn w w2 (fun q => (Value.slice la n lc).ownBlock = some q) from (HTw.out.trans (Turn.of_below (S := fun _ => False) ((Below.refl _ _).alloc (Nat.le_refl _) _)) (fun _ _ h => h.elim)).trans (Turn.of_grew hg2) (fun q _ h => h))
      have HL2 := hid hl2
      have HO2 := hid hb2.rd
      have HN2 := hid (show ∀ q, (Value.slice a1 (n + 1) c1).ownBlock = some q → (Value.slice la n lc).ownBlock = some q ∨ w.heap.size ≤ q from fun q hq => (hg2.b q hq).imp id (fun h => by simp at h; omega))
      have hz2 := HT2.out.size
      have HK2 := hid (fun q (hq : (Value.slice a1 (n + 1) c1).ownBlock = some q) => own_type hb2 hq)
      have HKl2 := hid (fun q (hq : (Value.slice la n lc).ownBlock = some q) => own_type hl2 hq)
      have HD2 := hid (show Turn w1 w2 (fun q => (Value.slice la n lc).ownBlock = some q) from (Turn.of_below (S := fun q => (Value.slice la n lc).ownBlock = some q) ((Below.refl _ _).alloc (Nat.le_refl _) _)).trans (Turn.of_grew hg2) (fun q _ h => h))
      clear hb2 hk2 hl2 hg2
      go_wp2_with (at_builtin; refine wpList_append_fill _ rfl (.tmp 30) (.tmp 33) rfl _ n 2 m lo2 rfl (HL2.out.same ((Below.refl _ _).alloc (Nat.le_refl _) _)) (by decide) _ 2 rfl (fun j u hu => (bys_lit _ (List.replicate 2 m) _ rfl (by simp)).cells (g := w2.heap.size) rfl j u hu) (by omega) (by simp; omega) (n + 2) rfl ?_)
      intro a2 c2 w3 hb3 hk3 hl3 hg3
      have HT3 := hid (show Turn w w3 (fun q => (Value.slice la n lc).ownBlock = some q) from (HT2.out.trans (Turn.of_below (S := fun _ => False) ((Below.refl _ _).alloc (Nat.le_refl _) _)) (fun _ _ h => h.elim)).trans (Turn.of_grew hg3) (fun q _ h => h))
      have HL3 := hid hl3
      have HO3 := hid ((HO2.out.later ((Below.refl _ _).alloc (Nat.le_refl _) _)).keep hk3)
      have HP3 := hid hb3.rd
      have HN3 := hid (show ∀ q, (Value.slice a2 (n + 2) c2).ownBlock = some q → (Value.slice la n lc).ownBlock = some q ∨ w.heap.size ≤ q from fun q hq => (hg3.b q hq).imp id (fun h => by simp at h; omega))
      have hz3 := HT3.out.size
      have HK3 := hid (fun q (hq : (Value.slice a2 (n + 2) c2).ownBlock = some q) => own_type hb3 hq)
      have HKl3 := hid (fun q (hq : (Value.slice la n lc).ownBlock = some q) => own_type hl3 hq)
      have HD3 := hid (show Turn w2 w3 (fun q => (Value.slice la n lc).ownBlock = some q) from (Turn.of_below (S := fun q => (Value.slice la n lc).ownBlock = some q) ((Below.refl _ _).alloc (Nat.le_refl _) _)).trans (Turn.of_grew hg3) (fun q _ h => h))
      clear hb3 hk3 hl3 hg3
      go_wp2_with (at_builtin; refine wpList_append_fill _ rfl (.tmp 35) (.tmp 39) rfl _ n 3 m lo2 rfl (HL3.out.same ((Below.refl _ _).alloc (Nat.le_refl _) _)) (by decide) _ 3 rfl (fun j u hu => (bys_lit _ (List.replicate 3 m) _ rfl (by simp)).cells (g := w3.heap.size) rfl j u hu) (by omega) (by simp; omega) (n + 3) rfl ?_)
      intro a3 c3 w4 hb4 hk4 hl4 hg4
      have HT4 := hid (show Turn w w4 (fun q => (Value.slice la n lc).ownBlock = some q) from (HT3.out.trans (Turn.of_below (S := fun _ => False) ((Below.refl _ _).alloc (Nat.le_refl _) _)) (fun _ _ h => h.elim)).trans (Turn.of_grew hg4) (fun q _ h => h))
      have HL4 := hid hl4.rd
      have HO4 := hid ((HO3.out.later ((Below.refl _ _).alloc (Nat.le_refl _) _)).keep hk4)
      have HP4 := hid ((HP3.out.later ((Below.refl _ _).alloc (Nat.le_refl _) _)).keep hk4)
      have HQ4 := hid hb4.rd
      have HN4 := hid (show ∀ q, (Value.slice a3 (n + 3) c3).ownBlock = some q → (Value.slice la n lc).ownBlock = some q ∨ w.heap.size ≤ q from fun q hq => (hg4.b q hq).imp id (fun h => by simp at h; omega))
      have hz4 := HT4.out.size
      have HK4 := hid (fun q (hq : (Value.slice a3 (n + 3) c3).ownBlock = some q) => own_type hb4 hq)
      have HKl4 := hid (fun q (hq : (Value.slice la n lc).ownBlock = some q) => own_type hl4 hq)
      have HD4 := hid (show Turn w3 w4 (fun q => (Value.slice la n lc).ownBlock = some q) from (Turn.of_below (S := fun q => (Value.slice la n lc).ownBlock = some q) ((Below.refl _ _).alloc (Nat.le_refl _) _)).trans (Turn.of_grew hg4) (fun q _ h => h))
      clear hb4 hk4 hl4 hg4
      have hW4 : w4.heap[B]? = some (.cells #[dv, ev, .slice ba X.length bc] 63 (0, 0)) := (HT4.out.block B hB HLB.out).trans HW.out
      have hX4 : w4.ownsRow lo 100 5 (.slice ba X.length bc) X.length (X.flatMap entCells) := own_same HX.out.own (fun q hq => HT4.out.block q (HX.out.own.lt q hq).2 (HBN.out q hq))
      have hc4 : w4.cell? ⟨B, 2, none⟩ = some (.slice ba X.length bc) := by rw [cell_row hW4]; rfl
      have HW4 := hid hW4
      have HX4 := hid hX4
      clear hW4 hX4
      go_wp2_with (at_builtin; refine wpList_append_gen _ rfl (.tmp 45) (.tmp 52) 61 100 _ 5 104 rfl Tryz.underlying61 Tryz.infoEnt rfl (by decide) _ X.length _ lo rfl (World.ownsRow.alloc HX4.out _) _ 1 1 [.slice la n lc, .slice a1 (n + 1) c1, .slice a2 (n + 2) c2, .slice a3 (n + 3) c3, .int .u8 m.toNat] rfl rfl (five_at _ _ _ _ _ _ _) five_one (X.length + 1) rfl _ rfl (by unfold maxLen; omega) (by omega) (by simp; omega) ?_)
      intro a5 c5 w5 ho5 hg5
      have hbB : (Value.slice ba X.length bc).ownBlock ≠ some B := fun e => by
        obtain ⟨cur, hcur⟩ := own_type HX.out.own e
        rw [HW.out] at hcur
        simp at hcur
      have hB4 : B < w4.heap.size := by omega
      have hW5 : w5.heap[B]? = some (.cells #[dv, ev, .slice ba X.length bc] 63 (0, 0)) := (hg5.g.block B (by simp; omega) (fun e => hbB e.symm)).trans ((Below.heap_alloc w4 _ B hB4).trans HW4.out)
      have hc5 : w5.cell? ⟨B, 2, none⟩ = some (.slice ba X.length bc) := by rw [cell_row hW5]; rfl
      have hf5 : w5.frozen? ⟨B, 2, none⟩ = false := frozen_row hW5 _
      have hT45 : Turn w4 w5 (fun q => (Value.slice ba X.length bc).ownBlock = some q) := (Turn.of_below (S := fun q => (Value.slice ba X.length bc).ownBlock = some q) ((Below.refl _ _).alloc (Nat.le_refl _) _)).trans (Turn.of_grew hg5) (fun q _ h => h)
      have ha5 : ∀ k, (Value.slice a5 (X.length + 1) c5).ownBlock = some k → (Value.slice ba X.length bc).ownBlock = some k ∨ w.heap.size ≤ k := fun k hk => (hg5.b k hk).imp id (fun h => by simp at h; omega)
      have HF := hid (show OwnPost w B lo dv ev (.slice ba X.length bc) (.slice la L.length lc) X (.returned (.tuple #[])) (w5.setCell ⟨B, 2, none⟩ (.slice a5 (X.length + 1) c5)) from by
        rw [HNn.out]
        have hT56 := Turn.setCell w5 B 2 (.slice a5 (X.length + 1) c5)
        have hT : Turn w (w5.setCell ⟨B, 2, none⟩ (.slice a5 (X.length + 1) c5)) (fun k => k = B ∨ (Value.slice ba X.length bc).ownBlock = some k ∨ (Value.slice la n lc).ownBlock = some k) :=
          (((HT4.out.weak (fun k h => Or.inr (Or.inr h))).trans hT45 (fun q _ h => Or.inr (Or.inl h)))).trans hT56 (fun q _ h => Or.inl h)
        have hT46 : Turn w4 (w5.setCell ⟨B, 2, none⟩ (.slice a5 (X.length + 1) c5)) (fun k => k = B ∨ (Value.slice ba X.length bc).ownBlock = some k) := (hT45.weak (fun k h => Or.inr h)).trans hT56 (fun q _ h => Or.inl h)
        refine ⟨rfl, .slice a5 (X.length + 1) c5, ⟨.slice la n lc, .slice a1 (n + 1) c1, .slice a2 (n + 2) c2, .slice a3 (n + 3) c3, n, m⟩, ?_, ⟨?_, ?_⟩, hT, ha5, ?_⟩
        · show (w5.setCell ⟨B, 2, none⟩ (.slice a5 (X.length + 1) c5)).heap[B]? = _
          rw [heap_setCell_same w5 B 2 _ _ _ hW5]; rfl
        · have e : (X ++ [(⟨.slice la n lc, .slice a1 (n + 1) c1, .slice a2 (n + 2) c2, .slice a3 (n + 3) c3, n, m⟩ : Ent)]).flatMap entCells = X.flatMap entCells ++ [.slice la n lc, .slice a1 (n + 1) c1, .slice a2 (n + 2) c2, .slice a3 (n + 3) c3, .int .u8 m.toNat] := by
            rw [List.flatMap_append]; rfl
          rw [e, List.length_append]
          exact own_same ho5 (fun g hg => Below.heap_setCell _ _ _ _ (fun eB => by
            subst eB
            obtain ⟨cur, hcur⟩ := own_type ho5 hg
            rw [hW5] at hcur
            simp at hcur))
        · -- the blocks of bytes are neither B nor the row of entries
          have hfree : ∀ k : Nat, (∃ cur, w4.heap[k]? = some (.cells cur 5 (0, 0))) → (w5.setCell ⟨B, 2, none⟩ (.slice a5 (X.length + 1) c5)).heap[k]? = w4.heap[k]? := fun k ⟨cur, hcur⟩ => by
            refine hT46.block k ((Array.getElem?_eq_some_iff.1 hcur).1) ?_
            rintro (rfl | hk)
            · rw [HW4.out] at hcur; simp at hcur
            · obtain ⟨cur', hcur'⟩ := own_type HX4.out hk
              rw [hcur'] at hcur; simp at hcur
          have hlt4 : ∀ k, (Value.slice la n lc).ownBlock = some k → ∃ cur, w4.heap[k]? = some (.cells cur 5 (0, 0)) := HKl4.out
          have h1t : ∀ k, (Value.slice a1 (n + 1) c1).ownBlock = some k → ∃ cur, w4.heap[k]? = some (.cells cur 5 (0, 0)) := fun k hk => by
            by_cases hl : (Value.slice la n lc).ownBlock = some k
            · exact hlt4 k hl
            · obtain ⟨cur, hcur⟩ := HK2.out k hk
              have hk2 := (Array.getElem?_eq_some_iff.1 hcur).1
              exact ⟨cur, (HD4.out.block k (Nat.lt_of_lt_of_le hk2 HD3.out.size) hl).trans ((HD3.out.block k hk2 hl).trans hcur)⟩
          have h2t : ∀ k, (Value.slice a2 (n + 2) c2).ownBlock = some k → ∃ cur, w4.heap[k]? = some (.cells cur 5 (0, 0)) := fun k hk => by
            by_cases hl : (Value.slice la n lc).ownBlock = some k
            · exact hlt4 k hl
            · obtain ⟨cur, hcur⟩ := HK3.out k hk
              have hk3 := (Array.getElem?_eq_some_iff.1 hcur).1
              exact ⟨cur, (HD4.out.block k hk3 hl).trans hcur⟩
          have h3t : ∀ k, (Value.slice a3 (n + 3) c3).ownBlock = some k → ∃ cur, w4.heap[k]? = some (.cells cur 5 (0, 0)) := HK4.out
          intro x hx
          rcases List.mem_append.1 hx with hx | hx
          · refine (HX.out.ok x hx).turn (fun u hu k hk => ?_)
            obtain ⟨cur, hcur⟩ := (HX.out.ok x hx).blk u hu k hk
            have hkl := (Array.getElem?_eq_some_iff.1 hcur).1
            have hne := HAP.out x hx u hu k hk
            rw [HNn.out] at hne
            have e4 := HT4.out.block k hkl hne
            exact (hfree k ⟨cur, e4.trans hcur⟩).trans e4
          · simp only [List.mem_singleton] at hx
            subst hx
            have hblk : ∀ u ∈ entVals ⟨.slice la n lc, .slice a1 (n + 1) c1, .slice a2 (n + 2) c2, .slice a3 (n + 3) c3, n, m⟩, ∀ k, u.ownBlock = some k → ∃ cur, w4.heap[k]? = some (.cells cur 5 (0, 0)) := fun u hu k hk => by
              simp only [entVals, List.mem_cons, List.not_mem_nil, or_false] at hu
              rcases hu with rfl | rfl | rfl | rfl
              · exact hlt4 k hk
              · exact h1t k hk
              · exact h2t k hk
              · exact h3t k hk
            have ok4 : EntOk w4 ⟨.slice la n lc, .slice a1 (n + 1) c1, .slice a2 (n + 2) c2, .slice a3 (n + 3) c3, n, m⟩ := ⟨HL4.out, HO4.out, HP4.out, HQ4.out, hnl, hblk⟩
            exact ok4.turn (fun u hu k hk => hfree k (hblk u hu k hk))
        · intro u hu k hk
          simp only [entVals, List.mem_cons, List.not_mem_nil, or_false] at hu
          rcases hu with rfl | rfl | rfl | rfl
          · exact Or.inl hk
          · exact HN2.out k hk
          · exact HN3.out k hk
          · exact HN4.out k hk)
      clear hT45 ha5 ho5 hg5 hW5
      go_wp2_with fail
      go_end0
      exact HF.out
end Go.Proofs.YtlgjlfobbpgklaaGreatDoor
