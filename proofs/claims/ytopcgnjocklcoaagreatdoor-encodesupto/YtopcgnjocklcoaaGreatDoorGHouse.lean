/- 'own': a list is made its owner's. -/
import Derived.Test.YtopcgnjocklcoaaGreatDoorGFrA
import Derived.Test.YtopcgnjocklcoaaGreatDoorGFrB
import Derived.Lib.AppendStr
import Derived.Test.YtopcgnjocklcoaaGreatDoorGRfW
import Derived.Lib.ConvBytes
namespace Go.Proofs.YtopcgnjocklcoaaGreatDoor
open Go.RowKit

theorem fill_set (L : List UInt8) (m : UInt8) (k : Nat) (hk : k < L.length) : (List.replicate k m ++ L.drop k).set k m = List.replicate (k + 1) m ++ L.drop (k + 1) := by
  rw [List.set_append_right _ _ (by simp), List.length_replicate, Nat.sub_self, List.drop_eq_getElem_cons hk, List.set_cons_zero, List.replicate_succ', List.append_assoc]
  rfl
theorem fill_len (L : List UInt8) (m : UInt8) (k : Nat) (hk : k ≤ L.length) : (List.replicate k m ++ L.drop k).length = L.length := by simp; omega
theorem five_at (w : World) (u0 u1 u2 u3 u4 : Value) (T : TypeId) : ∀ j u, [u0, u1, u2, u3, u4][j]? = some u → (w.alloc (.cells #[u0, u1, u2, u3, u4] T)).cell? ((⟨w.heap.size, 0, none⟩ : Addr).add j) = some u := by
  intro j u hj
  rw [rd_add _ _ rfl, cell_row (heap_alloc_new w _)]
  simpa using hj
theorem five_one {a0 a1 a2 a3 : Option Addr} {n0 n1 n2 n3 c0 c1 c2 c3 : Nat} {z : Int} : ∀ u ∈ [Value.slice a0 n0 c0, .slice a1 n1 c1, .slice a2 n2 c2, .slice a3 n3 c3, .int .u8 z], u.oneCell' = true := fun u hu => by
  simp only [List.mem_cons, List.not_mem_nil, or_false] at hu
  rcases hu with rfl | rfl | rfl | rfl | rfl <;> rfl
/-- what 'own' leaves -/
def OwnPost (w : World) (B lo : Nat) (dv ev bv lv : Value) (X : List Ent) (e : Ending) (w' : World) : Prop :=
  e = .returned (.tuple #[]) ∧ ∃ bv' x, WAt w' B dv ev bv' ∧ Ents w' lo bv' (X ++ [x]) ∧ Turn w w' (fun k => k = B ∨ bv.ownBlock = some k ∨ lv.ownBlock = some k) ∧
    (∀ k, bv'.ownBlock = some k → bv.ownBlock = some k ∨ w.heap.size ≤ k) ∧ ∀ u ∈ entVals x, ∀ k, u.ownBlock = some k → lv.ownBlock = some k ∨ w.heap.size ≤ k
set_option maxRecDepth 100000 in
set_option maxHeartbeats 4000000 in
theorem own_any (w : World) (B lo lo2 : Nat) (dv ev bv lv : Value) (X : List Ent) (L : List UInt8) (hW : WAt w B dv ev bv) (hX : Ents w lo bv X) (hL : Bys w lo2 lv L) (hn : X.length ≤ 100000000) (hl : L.length ≤ 1000000000) (hlo : lo ≤ w.heap.size) (hlo2 : lo2 ≤ w.heap.size)
    (hap : ∀ x ∈ X, ∀ u ∈ entVals x, ∀ k, u.ownBlock = some k → lv.ownBlock ≠ some k) :
    Calls Tryz.prog 15 #[.pointer (some ⟨B, 0, none⟩), lv] w (OwnPost w B lo dv ev bv lv X) := by
  obtain ⟨ba, bc, rfl⟩ := own_slice hX.own
  obtain ⟨la, lc, rfl⟩ := own_slice hL
  have hB : B < w.heap.size := (Array.getElem?_eq_some_iff.1 hW).1
  have hc2 : w.cell? ⟨B, 2, none⟩ = some (.slice ba X.length bc) := by rw [cell_row hW]; rfl
  obtain ⟨m, hm⟩ : ∃ m : UInt8, (m.toNat : Int) = (X.length : Int) % 251 := ⟨(X.length % 251).toUInt8, by simp [Nat.toUInt8, UInt8.toNat_ofNat']; omega⟩
  have HM := hid hm
  have HX := hid hX
  have HL := hid hL
  have HW := hid hW
  have HAP := hid hap
  clear hX hW hL hap hm
  go_enter Tryz.func15, Tryz.ntmps15
  go_wp2_with fail
  rw [← HM.out]
  go_loopg [5] L.length (fun gk i wr => ∃ k : Nat, k + gk = L.length ∧ i = .int .i64 k ∧ Hid (Bys wr lo2 (.slice la L.length lc) (List.replicate k m ++ L.drop k)) ∧ Hid (Turn w wr (fun q => (Value.slice la L.length lc).ownBlock = some q)))
  case atStart => exact ⟨0, by omega, rfl, hid (by simpa using HL.out), hid (Turn.refl _ _)⟩
  case round =>
    obtain ⟨k, hk, rfl, HBr, HTr⟩ := hrel
    by_cases hlt : k < L.length
    · have hltI : (k : Int) < (L.length : Int) := by omega
      obtain ⟨b, o, c', hv, hb, hc⟩ := HBr.out.rd.at (by simp; omega)
      rw [fill_len L m k (by omega)] at hv
      obtain ⟨g, hg0⟩ : ∃ g, la = some ⟨g, 0, none⟩ := by
        rcases HBr.out.2 with ⟨_, e⟩ | ⟨g, cap, cur, hv, _⟩
        · rw [fill_len L m k (by omega)] at e; omega
        · simp at hv; exact ⟨g, hv.1⟩
      subst hg0
      obtain ⟨⟨rfl, rfl⟩, rfl⟩ : (g = b ∧ 0 = o) ∧ lc = c' := by simpa using hv
      obtain ⟨old, hck⟩ : ∃ old : Int, wr.cell? ⟨g, k, none⟩ = some (.int .u8 old) := ⟨_, by have := hc k (by rw [fill_len L m k (by omega)]; omega); rwa [Nat.zero_add] at this⟩
      obtain ⟨cur, hcur⟩ := own_type HBr.out (g := g) rfl
      have hfk : wr.frozen? ⟨g, k, none⟩ = false := frozen_row hcur _
      have HB2 := hid (show Bys (wr.setCell ⟨g, k, none⟩ (.int .u8 m.toNat)) lo2 (.slice (some ⟨g, 0, none⟩) L.length lc) (List.replicate (k + 1) m ++ L.drop (k + 1)) from by
        have h1 : Bys wr lo2 (.slice (some ⟨g, 0, none⟩) (List.replicate k m ++ L.drop k).length lc) (List.replicate k m ++ L.drop k) := by rw [fill_len L m k (by omega)]; exact HBr.out
        have h2 := h1.put k m
        rw [fill_set L m k hlt, fill_len L m (k + 1) (by omega)] at h2
        exact h2)
      have HT2 := hid (show Turn w (wr.setCell ⟨g, k, none⟩ (.int .u8 m.toNat)) (fun q => (Value.slice (some ⟨g, 0, none⟩) L.length lc).ownBlock = some q) from HTr.out.trans (Turn.setCell wr g k _) (fun q _ h => by rw [h]; rfl))
      clear hc hv hcur
      go_wp2_with fail
      go_roundg (gk - 1)
      case rel => exact ⟨k + 1, by omega, by go_num, HB2, HT2⟩
      case measure => omega
    · have hltI : ¬ (k : Int) < (L.length : Int) := by omega
      obtain rfl : k = L.length := by omega
      have HBn := hid (show Bys wr lo2 (.slice la L.length lc) (List.replicate L.length m) from by have := HBr.out; rwa [List.drop_length, List.append_nil] at this)
      obtain ⟨w1, hw1⟩ : ∃ w1, w1 = wr := ⟨_, rfl⟩
      subst hw1
      obtain ⟨n, HNn⟩ : ∃ n, Hid (L.length = n) := ⟨_, hid rfl⟩
      have hz1 := HTr.out.size
      have hnl : n ≤ 1000000000 := by rw [← HNn.out]; exact hl
      rw [HNn.out] at HBn ⊢
      have hc2r : (Value.slice la n lc).ownBlock ≠ some B := fun e => by
        obtain ⟨cur, hcur⟩ := own_type HL.out (g := B) (by rw [HNn.out]; exact e)
        rw [HW.out] at hcur
        simp at hcur
      have hbne : ∀ q, (Value.slice ba X.length bc).ownBlock = some q → (Value.slice la n lc).ownBlock ≠ some q := fun q hq e => own_ne HX.out.own HL.out (by decide) hq (by rw [HNn.out]; exact e) rfl
      have HLB := hid hc2r
      have HBN := hid hbne
      have HTw : Hid (Turn w w1 (fun q => (Value.slice la n lc).ownBlock = some q)) := by have := HTr.out; rw [HNn.out] at this; exact this
      clear hc2r hbne HTr HBr
      go_wp2_with (at_builtin; refine wpList_append_fill _ rfl (.tmp 26) (.tmp 28) rfl _ n 1 m lo2 rfl (HBn.out.same ((Below.refl _ _).alloc (Nat.le_refl _) _)) (by decide) _ 1 rfl (fun j u hu => (bys_lit _ (List.replicate 1 m) _ rfl (by simp)).cells (g := w1.heap.size) rfl j u hu) (by omega) (by simp; omega) (n + 1) rfl ?_)
      intro a1 c1 w2 hb2 hk2 hl2 hg2
      have HT2 := hid (show Turn w w2 (fun q => (Value.slice la n lc).ownBlock = some q) from (HTw.out.trans (Turn.of_below (S := fun _ => False) ((Below.refl _ _).alloc (Nat.le_refl _) _)) (fun _ _ h => h.elim)).trans (Turn.of_grew hg2) (fun q _ h => h))
      have HL2 := hid hl2
      have HO2 := hid hb2.rd
      have HN2 := hid (show ∀ q, (Value.slice a1 (n + 1) c1).ownBlock = some q → (Value.slice la n lc).ownBlock = some q ∨ w.heap.size ≤ q from fun q hq => (hg2.b q hq).imp id (fun h => by simp at h; omega))
      have hz2 := HT2.out.size
      have HK2 := hid (fun q (hq : (Value.slice a1 (n + 1) c1).ownBlock = some q) => own_type hb2 hq)
      have HKl2 := hid (fun q (hq : (Value.slice la n lc).ownBlock = some q) => own_type hl2 hq)
      have HD2 := hid (show Turn w1 w2 (fun q => (Value.slice la n lc).ownBlock = some q) from (Turn.of_below (S := fun q => (Value.slice la n lc).ownBlock = some q) ((Below.refl _ _).alloc (Nat.le_refl _) _)).trans (Turn.of_grew hg2) (fun q _ h => h))
      clear hb2 hk2 hl2 hg2
      go_wp2_with (at_builtin; refine wpList_append_fill _ rfl (.tmp 30) (.tmp 33) rfl _ n 2 m lo2 rfl (HL2.out.same ((Below.refl _ _).alloc (Nat.le_refl _) _)) (by decide) _ 2 rfl (fun j u hu => (bys_lit _ (List.replicate 2 m) _ rfl (by simp)).cells (g := w2.heap.size) rfl j u hu) (by omega) (by simp; omega) (n + 2) rfl ?_)
      intro a2 c2 w3 hb3 hk3 hl3 hg3
      have HT3 := hid (show Turn w w3 (fun q => (Value.slice la n lc).ownBlock = some q) from (HT2.out.trans (Turn.of_below (S := fun _ => False) ((Below.refl _ _).alloc (Nat.le_refl _) _)) (fun _ _ h => h.elim)).trans (Turn.of_grew hg3) (fun q _ h => h))
      have HL3 := hid hl3
      have HO3 := hid ((HO2.out.later ((Below.refl _ _).alloc (Nat.le_refl _) _)).keep hk3)
      have HP3 := hid hb3.rd
      have HN3 := hid (show ∀ q, (Value.slice a2 (n + 2) c2).ownBlock = some q → (Value.slice la n lc).ownBlock = some q ∨ w.heap.size ≤ q from fun q hq => (hg3.b q hq).imp id (fun h => by simp at h; omega))
      have hz3 := HT3.out.size
      have HK3 := hid (fun q (hq : (Value.slice a2 (n + 2) c2).ownBlock = some q) => own_type hb3 hq)
      have HKl3 := hid (fun q (hq : (Value.slice la n lc).ownBlock = some q) => own_type hl3 hq)
      have HD3 := hid (show Turn w2 w3 (fun q => (Value.slice la n lc).ownBlock = some q) from (Turn.of_below (S := fun q => (Value.slice la n lc).ownBlock = some q) ((Below.refl _ _).alloc (Nat.le_refl _) _)).trans (Turn.of_grew hg3) (fun q _ h => h))
      clear hb3 hk3 hl3 hg3
      go_wp2_with (at_builtin; refine wpList_append_fill _ rfl (.tmp 35) (.tmp 39) rfl _ n 3 m lo2 rfl (HL3.out.same ((Below.refl _ _).alloc (Nat.le_refl _) _)) (by decide) _ 3 rfl (fun j u hu => (bys_lit _ (List.replicate 3 m) _ rfl (by simp)).cells (g := w3.heap.size) rfl j u hu) (by omega) (by simp; omega) (n + 3) rfl ?_)
      intro a3 c3 w4 hb4 hk4 hl4 hg4
      have HT4 := hid (show Turn w w4 (fun q => (Value.slice la n lc).ownBlock = some q) from (HT3.out.trans (Turn.of_below (S := fun _ => False) ((Below.refl _ _).alloc (Nat.le_refl _) _)) (fun _ _ h => h.elim)).trans (Turn.of_grew hg4) (fun q _ h => h))
      have HL4 := hid hl4.rd
      have HO4 := hid ((HO3.out.later ((Below.refl _ _).alloc (Nat.le_refl _) _)).keep hk4)
      have HP4 := hid ((HP3.out.later ((Below.refl _ _).alloc (Nat.le_refl _) _)).keep hk4)
      have HQ4 := hid hb4.rd
      have HN4 := hid (show ∀ q, (Value.slice a3 (n + 3) c3).ownBlock = some q → (Value.slice la n lc).ownBlock = some q ∨ w.heap.size ≤ q from fun q hq => (hg4.b q hq).imp id (fun h => by simp at h; omega))
      have hz4 := HT4.out.size
      have HK4 := hid (fun q (hq : (Value.slice a3 (n + 3) c3).ownBlock = some q) => own_type hb4 hq)
      have HKl4 := hid (fun q (hq : (Value.slice la n lc).ownBlock = some q) => own_type hl4 hq)
      have HD4 := hid (show Turn w3 w4 (fun q => (Value.slice la n lc).ownBlock = some q) from (Turn.of_below (S := fun q => (Value.slice la n lc).ownBlock = some q) ((Below.refl _ _).alloc (Nat.le_refl _) _)).trans (Turn.of_grew hg4) (fun q _ h => h))
      clear hb4 hk4 hl4 hg4
      have hW4 : w4.heap[B]? = some (.cells #[dv, ev, .slice ba X.length bc] 31 (0, 0)) := (HT4.out.block B hB HLB.out).trans HW.out
      have hX4 : w4.ownsRow lo 54 5 (.slice ba X.length bc) X.length (X.flatMap entCells) := own_same HX.out.own (fun q hq => HT4.out.block q (HX.out.own.lt q hq).2 (HBN.out q hq))
      have hc4 : w4.cell? ⟨B, 2, none⟩ = some (.slice ba X.length bc) := by rw [cell_row hW4]; rfl
      have HW4 := hid hW4
      have HX4 := hid hX4
      clear hW4 hX4
      go_wp2_with (at_builtin; refine wpList_append_gen _ rfl (.tmp 45) (.tmp 52) 29 54 _ 5 104 rfl Tryz.underlying29 Tryz.infoEnt rfl (by decide) _ X.length _ lo rfl (World.ownsRow.alloc HX4.out _) _ 1 1 [.slice la n lc, .slice a1 (n + 1) c1, .slice a2 (n + 2) c2, .slice a3 (n + 3) c3, .int .u8 m.toNat] rfl rfl (five_at _ _ _ _ _ _ _) five_one (X.length + 1) rfl _ rfl (by unfold maxLen; omega) (by omega) (by simp; omega) ?_)
      intro a5 c5 w5 ho5 hg5
      have hbB : (Value.slice ba X.length bc).ownBlock ≠ some B := fun e => by
        obtain ⟨cur, hcur⟩ := own_type HX.out.own e
        rw [HW.out] at hcur
        simp at hcur
      have hB4 : B < w4.heap.size := by omega
      have hW5 : w5.heap[B]? = some (.cells #[dv, ev, .slice ba X.length bc] 31 (0, 0)) := (hg5.g.block B (by simp; omega) (fun e => hbB e.symm)).trans ((Below.heap_alloc w4 _ B hB4).trans HW4.out)
      have hc5 : w5.cell? ⟨B, 2, none⟩ = some (.slice ba X.length bc) := by rw [cell_row hW5]; rfl
      have hf5 : w5.frozen? ⟨B, 2, none⟩ = false := frozen_row hW5 _
      have hT45 : Turn w4 w5 (fun q => (Value.slice ba X.length bc).ownBlock = some q) := (Turn.of_below (S := fun q => (Value.slice ba X.length bc).ownBlock = some q) ((Below.refl _ _).alloc (Nat.le_refl _) _)).trans (Turn.of_grew hg5) (fun q _ h => h)
      have ha5 : ∀ k, (Value.slice a5 (X.length + 1) c5).ownBlock = some k → (Value.slice ba X.length bc).ownBlock = some k ∨ w.heap.size ≤ k := fun k hk => (hg5.b k hk).imp id (fun h => by simp at h; omega)
      have HF := hid (show OwnPost w B lo dv ev (.slice ba X.length bc) (.slice la L.length lc) X (.returned (.tuple #[])) (w5.setCell ⟨B, 2, none⟩ (.slice a5 (X.length + 1) c5)) from by
        rw [HNn.out]
        have hT56 := Turn.setCell w5 B 2 (.slice a5 (X.length + 1) c5)
        have hT : Turn w (w5.setCell ⟨B, 2, none⟩ (.slice a5 (X.length + 1) c5)) (fun k => k = B ∨ (Value.slice ba X.length bc).ownBlock = some k ∨ (Value.slice la n lc).ownBlock = some k) :=
          (((HT4.out.weak (fun k h => Or.inr (Or.inr h))).trans hT45 (fun q _ h => Or.inr (Or.inl h)))).trans hT56 (fun q _ h => Or.inl h)
        have hT46 : Turn w4 (w5.setCell ⟨B, 2, none⟩ (.slice a5 (X.length + 1) c5)) (fun k => k = B ∨ (Value.slice ba X.length bc).ownBlock = some k) := (hT45.weak (fun k h => Or.inr h)).trans hT56 (fun q _ h => Or.inl h)
        refine ⟨rfl, .slice a5 (X.length + 1) c5, ⟨.slice la n lc, .slice a1 (n + 1) c1, .slice a2 (n + 2) c2, .slice a3 (n + 3) c3, n, m⟩, ?_, ⟨?_, ?_⟩, hT, ha5, ?_⟩
        · show (w5.setCell ⟨B, 2, none⟩ (.slice a5 (X.length + 1) c5)).heap[B]? = _
          rw [heap_setCell_same w5 B 2 _ _ _ hW5]; rfl
        · have e : (X ++ [(⟨.slice la n lc, .slice a1 (n + 1) c1, .slice a2 (n + 2) c2, .slice a3 (n + 3) c3, n, m⟩ : Ent)]).flatMap entCells = X.flatMap entCells ++ [.slice la n lc, .slice a1 (n + 1) c1, .slice a2 (n + 2) c2, .slice a3 (n + 3) c3, .int .u8 m.toNat] := by
            rw [List.flatMap_append]; rfl
          rw [e, List.length_append]
          exact own_same ho5 (fun g hg => Below.heap_setCell _ _ _ _ (fun eB => by
            subst eB
            obtain ⟨cur, hcur⟩ := own_type ho5 hg
            rw [hW5] at hcur
            simp at hcur))
        · -- the blocks of bytes are neither B nor the row of entries
          have hfree : ∀ k : Nat, (∃ cur, w4.heap[k]? = some (.cells cur 5 (0, 0))) → (w5.setCell ⟨B, 2, none⟩ (.slice a5 (X.length + 1) c5)).heap[k]? = w4.heap[k]? := fun k ⟨cur, hcur⟩ => by
            refine hT46.block k ((Array.getElem?_eq_some_iff.1 hcur).1) ?_
            rintro (rfl | hk)
            · rw [HW4.out] at hcur; simp at hcur
            · obtain ⟨cur', hcur'⟩ := own_type HX4.out hk
              rw [hcur'] at hcur; simp at hcur
          have hlt4 : ∀ k, (Value.slice la n lc).ownBlock = some k → ∃ cur, w4.heap[k]? = some (.cells cur 5 (0, 0)) := HKl4.out
          have h1t : ∀ k, (Value.slice a1 (n + 1) c1).ownBlock = some k → ∃ cur, w4.heap[k]? = some (.cells cur 5 (0, 0)) := fun k hk => by
            by_cases hl : (Value.slice la n lc).ownBlock = some k
            · exact hlt4 k hl
            · obtain ⟨cur, hcur⟩ := HK2.out k hk
              have hk2 := (Array.getElem?_eq_some_iff.1 hcur).1
              exact ⟨cur, (HD4.out.block k (Nat.lt_of_lt_of_le hk2 HD3.out.size) hl).trans ((HD3.out.block k hk2 hl).trans hcur)⟩
          have h2t : ∀ k, (Value.slice a2 (n + 2) c2).ownBlock = some k → ∃ cur, w4.heap[k]? = some (.cells cur 5 (0, 0)) := fun k hk => by
            by_cases hl : (Value.slice la n lc).ownBlock = some k
            · exact hlt4 k hl
            · obtain ⟨cur, hcur⟩ := HK3.out k hk
              have hk3 := (Array.getElem?_eq_some_iff.1 hcur).1
              exact ⟨cur, (HD4.out.block k hk3 hl).trans hcur⟩
          have h3t : ∀ k, (Value.slice a3 (n + 3) c3).ownBlock = some k → ∃ cur, w4.heap[k]? = some (.cells cur 5 (0, 0)) := HK4.out
          intro x hx
          rcases List.mem_append.1 hx with hx | hx
          · refine (HX.out.ok x hx).turn (fun u hu k hk => ?_)
            obtain ⟨cur, hcur⟩ := (HX.out.ok x hx).blk u hu k hk
            have hkl := (Array.getElem?_eq_some_iff.1 hcur).1
            have hne := HAP.out x hx u hu k hk
            rw [HNn.out] at hne
            have e4 := HT4.out.block k hkl hne
            exact (hfree k ⟨cur, e4.trans hcur⟩).trans e4
          · simp only [List.mem_singleton] at hx
            subst hx
            have hblk : ∀ u ∈ entVals ⟨.slice la n lc, .slice a1 (n + 1) c1, .slice a2 (n + 2) c2, .slice a3 (n + 3) c3, n, m⟩, ∀ k, u.ownBlock = some k → ∃ cur, w4.heap[k]? = some (.cells cur 5 (0, 0)) := fun u hu k hk => by
              simp only [entVals, List.mem_cons, List.not_mem_nil, or_false] at hu
              rcases hu with rfl | rfl | rfl | rfl
              · exact hlt4 k hk
              · exact h1t k hk
              · exact h2t k hk
              · exact h3t k hk
            have ok4 : EntOk w4 ⟨.slice la n lc, .slice a1 (n + 1) c1, .slice a2 (n + 2) c2, .slice a3 (n + 3) c3, n, m⟩ := ⟨HL4.out, HO4.out, HP4.out, HQ4.out, hnl, hblk⟩
            exact ok4.turn (fun u hu k hk => hfree k (hblk u hu k hk))
        · intro u hu k hk
          simp only [entVals, List.mem_cons, List.not_mem_nil, or_false] at hu
          rcases hu with rfl | rfl | rfl | rfl
          · exact Or.inl hk
          · exact HN2.out k hk
          · exact HN3.out k hk
          · exact HN4.out k hk)
      clear hT45 ha5 ho5 hg5 hW5
      go_wp2_with fail
      go_end0
      exact HF.out
end Go.Proofs.YtopcgnjocklcoaaGreatDoor
/- What the statement lends to the program: 'wide', 'still', 'lent', 'back'. -/
namespace Go.Proofs.YtopcgnjocklcoaaGreatDoor
open Go.RowKit

theorem strCells_bys (s : ByteArray) : Lib.strCells s = s.toList.map byteCell := by
  unfold Lib.strCells
  rw [ByteArray.toList_eq]
  rfl
/-- a text's bytes put behind nothing -/
theorem wpList_append_text (w : World) {ops : Array Oper} {rest : List Oper} {o : Oper} {a : Act} {Q : Exit → Act → World → Prop} (hgd : o.guard = none) (sl x : Operand)
    (ho : o.op = .call { callee := .builtin .append, args := #[sl, x], argTypes := #[39, 9] }) (hs : a.eval sl = .slice none 0 0) (s : ByteArray) (hx : a.eval x = .string s) (hl : s.size ≤ 1000000000) (L : List UInt8) (hL : s.toList = L)
    (h : ∀ a' c' w', Bys w' w.heap.size (.slice a' L.length c') L → Below w.heap.size w w' → wpList Tryz.prog ops Q rest (a.put o.dst (.slice a' L.length c')) w') : wpList Tryz.prog ops Q (o :: rest) a w := by
  obtain ⟨iI, hiI, hI0, hI1, hI2⟩ := info_parts Tryz.infoByte
  subst hL
  have hsl : s.toList.length = s.size := by rw [ByteArray.toList_eq]; rfl
  refine Lib.wpList_append_own_string w hgd sl x 39 9 ho w.heap.size 5 iI Tryz.underlying39 Tryz.underlying9 hiI hI0 hI1 hI2 _ 0 [] hs (World.ownsRow_nil _ _ _ _) s hx (by unfold maxLen; omega) (by omega) (Nat.le_refl _) ?_
  intro v' w' ho' hg' _
  rw [Nat.zero_add, List.nil_append, strCells_bys, ← hsl] at ho'
  obtain ⟨a', c', rfl⟩ := own_slice ho'
  exact h a' c' w' ho' ⟨hg'.os, hg'.tape, hg'.output, hg'.size, fun k hk => hg'.block k hk (by simp [Value.ownBlock])⟩
/-- bytes with one byte of spare room, in which 77 stands -/
def Wide (w : World) (lo : Nat) (v : Value) (L : List UInt8) : Prop := ∃ g c, v = .slice (some ⟨g, 0, none⟩) L.length c ∧ Bys w lo (.slice (some ⟨g, 0, none⟩) (L ++ [77]).length c) (L ++ [77])
theorem Wide.lower {w : World} {lo lo' : Nat} {v : Value} {L : List UInt8} (h : Wide w lo v L) (hl : lo' ≤ lo) : Wide w lo' v L := by
  obtain ⟨g, c, hv, hB⟩ := h
  exact ⟨g, c, hv, hB.lower hl⟩
theorem Wide.rd {w : World} {lo : Nat} {v : Value} {L : List UInt8} (h : Wide w lo v L) : Rd w v L := by
  obtain ⟨g, c, rfl, hB⟩ := h
  refine Or.inr ⟨⟨g, 0, none⟩, c, rfl, fun j u hu => ?_⟩
  have hj : j < L.length := by
    rcases Nat.lt_or_ge j L.length with h | h
    · exact h
    · rw [List.getElem?_eq_none (by simpa using h)] at hu; cases hu
  exact hB.cells (g := g) rfl j u (by rw [List.map_append, List.getElem?_append_left (by simpa using hj)]; exact hu)
set_option maxRecDepth 100000 in
set_option maxHeartbeats 1000000 in
theorem wide_any (w : World) (s : ByteArray) (hs : s.size ≤ 1000000000) :
    Calls Tryz.prog 31 #[.string s] w fun e w' => ∃ v, e = .returned v ∧ Wide w' w.heap.size v s.toList ∧ Below w.heap.size w w' := by
  have hsl : s.toList.length = s.size := by rw [ByteArray.toList_eq]; rfl
  obtain ⟨L, HL⟩ : ∃ L, Hid (s.toList = L) := ⟨_, hid rfl⟩
  rw [HL.out] at hsl ⊢
  have HSL := hid hsl
  have hLl : L.length ≤ 1000000000 := by omega
  obtain ⟨M, HM⟩ : ∃ M, Hid (L ++ [77] = M) := ⟨_, hid rfl⟩
  have hMl : M.length = L.length + 1 := by rw [← HM.out]; simp
  have HML := hid hMl
  clear hsl hMl
  go_enter Tryz.func31, Tryz.ntmps31
  go_wp2_with (at_builtin; refine wpList_append_text _ rfl (.tmp 4) (.tmp 5) rfl rfl s rfl hs L HL.out ?_)
  intro a1 c1 w1 hb1 hbel1
  have HB1 := hid hb1
  have hz1 := hbel1.size
  clear hb1
  go_wp2_with (at_builtin; refine wpList_append_rd _ rfl (.tmp 7) (.tmp 8) rfl _ L w.heap.size rfl (HB1.out.same ((Below.refl _ _).alloc (Nat.le_refl _) _)) _ [77] rfl (bys_one _ 77 _ rfl).rd M HM.out (by simp; omega) (by simp; omega) ?_)
  intro a2 c2 w2 hb2 hg2
  have hbel2 : Below w.heap.size w w2 := (hbel1.alloc hz1 _).trans (hg2.below (fun k hk => (HB1.out.lt k hk).1) (by simp; omega))
  obtain ⟨g, hg0⟩ : ∃ g, a2 = some ⟨g, 0, none⟩ := by
    rcases hb2.2 with ⟨_, e⟩ | ⟨g, cap, cur, hv, _⟩
    · have := HML.out; omega
    · simp at hv; exact ⟨g, hv.1⟩
  subst hg0
  have hcap : M.length ≤ c2 := by
    rcases hb2.2 with ⟨_, e⟩ | ⟨g, cap, cur, hv, _, _, h3, _⟩
    · have := HML.out; omega
    · simp at hv; omega
  have hcI : (s.size : Int) ≤ (c2 : Int) := by have h1 := HML.out; have h2 := HSL.out; omega
  have hc0 : ¬ c2 = 0 := by have h1 := HML.out; omega
  have HB2 := hid hb2
  clear hb2 hg2
  go_wp2_with fail
  go_ret
  refine ⟨_, rfl, ⟨g, c2, ?_, by rw [HM.out]; exact HB2.out⟩, hbel2⟩
  rw [HSL.out]; rfl
set_option maxRecDepth 100000 in
set_option maxHeartbeats 1000000 in
theorem still_any (w : World) (lo : Nat) (v : Value) (s : ByteArray) (h : Wide w lo v s.toList) (hs : s.size ≤ 1000000000) :
    Calls Tryz.prog 33 #[v, .string s] w fun e w' => e = .returned (.bool true) ∧ Turn w w' (fun k => v.ownBlock = some k) := by
  have hsl : s.toList.length = s.size := by rw [ByteArray.toList_eq]; rfl
  have hconv := h.rd.conv
  have HSO := hid (show (strOf s.toList).toList = s.toList from strOf_toList _)
  obtain ⟨g, c, rfl, hB⟩ := h
  rw [hsl] at hconv ⊢
  have hMl : (s.toList ++ [77]).length = s.size + 1 := by simp [hsl]
  have hcap : s.size + 1 ≤ c := by
    rcases hB.2 with ⟨_, e⟩ | ⟨g, cap, cur, hv, _, _, h3, _⟩
    · omega
    · simp at hv; omega
  have h77 : w.cell? ⟨g, s.size, none⟩ = some (.int .u8 77) := by
    have := hB.cells (g := g) rfl s.size (byteCell 77) (by rw [List.map_append, List.getElem?_append_right (by simp [hsl])]; simp [hsl])
    rw [rd_add _ _ rfl] at this
    simpa [byteCell] using this
  have hcI : (s.size : Int) + 1 ≤ (c : Int) := by omega
  have hc0 : ¬ c = 0 := by omega
  have HB := hid hB
  clear hB
  go_enter Tryz.func33, Tryz.ntmps33
  go_wp2_with fail
  have hrow : ∃ cur, w.heap[g]? = some (.cells cur 5 (0, 0)) ∧ cur.size = c := by
    rcases HB.out.2 with ⟨h0, _⟩ | ⟨g', cap, cur, hv, _, hh, _, _, h3, _⟩
    · simp at h0
    · simp at hv
      obtain ⟨rfl, rfl⟩ := hv
      exact ⟨cur, hh, by simpa using h3⟩
  go_loopg [7] (s.size + 1) (fun gk i wr => ∃ k : Nat, k + gk = s.size + 1 ∧ i = .int .i64 k ∧ Hid (∃ cur, wr.heap[g]? = some (.cells cur 5 (0, 0)) ∧ cur.size = c) ∧ Hid (Turn w wr (fun q => q = g)))
  case atStart => exact ⟨0, by omega, rfl, hid hrow, hid (Turn.refl _ _)⟩
  case round =>
    obtain ⟨k, hk, rfl, HR, HT⟩ := hrel
    by_cases hlt : k < s.size + 1
    · have hltI : (k : Int) < (s.size : Int) + 1 := by omega
      obtain ⟨cur, hcur, hcs⟩ := HR.out
      obtain ⟨old, hck⟩ : ∃ old, wr.cell? ⟨g, k, none⟩ = some old := by
        rw [cell_row hcur]
        exact ⟨_, List.getElem?_eq_getElem (by simp; omega)⟩
      have hfk : wr.frozen? ⟨g, k, none⟩ = false := frozen_row hcur _
      have HR2 := hid (show ∃ cur, (wr.setCell ⟨g, k, none⟩ (.int .u8 78)).heap[g]? = some (.cells cur 5 (0, 0)) ∧ cur.size = c from ⟨_, heap_setCell_same wr g k cur _ _ hcur, by simpa using hcs⟩)
      have HT2 := hid (HT.out.trans (Turn.setCell wr g k (.int .u8 78)) (fun q _ h => h))
      clear hcur hcs
      go_wp2_with fail
      go_roundg (gk - 1)
      case rel => exact ⟨k + 1, by omega, by go_num, HR2, HT2⟩
      case measure => omega
    · have hltI : ¬ (k : Int) < (s.size : Int) + 1 := by omega
      have HT2 := hid (HT.out.weak (S' := fun q => (Value.slice (some ⟨g, 0, none⟩) s.size c).ownBlock = some q) (fun q h => by rw [h]; rfl))
      go_wp2_with fail
      go_ret
      exact ⟨rfl, HT2.out⟩
/-- what 'lent' gives: wide bytes, or nil -/
def Lent (w : World) (lo : Nat) (v : Value) (L : List UInt8) : Prop := Wide w lo v L ∨ (v = .slice none 0 0 ∧ L = [])
theorem Lent.rd {w : World} {lo : Nat} {v : Value} {L : List UInt8} (h : Lent w lo v L) : Rd w v L := by
  rcases h with h | ⟨rfl, rfl⟩
  · exact h.rd
  · exact Or.inl ⟨rfl, rfl⟩
theorem Lent.turn {w w' : World} {lo : Nat} {v : Value} {L : List UInt8} (h : Lent w lo v L) (hs : ∀ k, v.ownBlock = some k → w'.heap[k]? = w.heap[k]?) : Lent w' lo v L := by
  rcases h with ⟨g, c, rfl, hB⟩ | h
  · exact Or.inl ⟨g, c, rfl, own_same hB (fun k hk => hs k hk)⟩
  · exact Or.inr h
theorem Lent.lt {w : World} {lo : Nat} {v : Value} {L : List UInt8} (h : Lent w lo v L) : ∀ k, v.ownBlock = some k → lo ≤ k ∧ k < w.heap.size := by
  rcases h with ⟨g, c, rfl, hB⟩ | ⟨rfl, _⟩
  · exact fun k hk => hB.lt k hk
  · exact fun k hk => by simp [Value.ownBlock] at hk
set_option maxRecDepth 100000 in
set_option maxHeartbeats 1000000 in
theorem lent_any (w : World) (K A B C D : Int) (S T V : ByteArray) (hs : V.size ≤ 1000000000) :
    Calls Tryz.prog 16 #[.agg #[.int .i64 K, .int .i64 A, .int .i64 B, .int .i64 C, .int .i64 D, .string S, .string T, .string V]] w fun e w' => ∃ v, e = .returned v ∧ Lent w' w.heap.size v V.toList ∧ Below w.heap.size w w' := by
  have hb0 : Below w.heap.size w (w.alloc (.cells #[.int .i64 K, .int .i64 A, .int .i64 B, .int .i64 C, .int .i64 D, .string S, .string T, .string V] 34)) := (Below.refl _ _).alloc (Nat.le_refl _) _
  by_cases hV : V.toList = []
  · have hV0 : V = ByteArray.empty := by
      apply ByteArray.ext
      apply Array.toList_inj.1
      have := hV
      rw [ByteArray.toList_eq] at this
      rw [this]; rfl
    subst hV0
    by_cases hA : A.tmod 2 = 0
    · have hAI : (A.tmod 2 == 0) = true := by simpa using hA
      clear hA
      go_enter Tryz.func16, Tryz.ntmps16
      go_wp2_with fail
      refine (wide_any _ ByteArray.empty hs).mono ?_; rintro e w1 ⟨v1, rfl, hW, hbel⟩
      have HW := hid hW
      have hbel1 := hb0.trans (hbel.mono hb0.size)
      clear hW
      go_wp2_with fail
      go_ret
      exact ⟨_, rfl, Or.inl (Wide.lower HW.out (by simp)), hbel1⟩
    · have hAI : (A.tmod 2 == 0) = false := by simpa using hA
      clear hA
      go_enter Tryz.func16, Tryz.ntmps16
      go_wp2_with fail
      go_ret
      exact ⟨_, rfl, Or.inr ⟨rfl, hV⟩, hb0⟩
  · have hVI : (V.toList == []) = false := by simpa using hV
    have hVE : V.toList.isEmpty = false := by simpa using hV
    clear hV
    go_enter Tryz.func16, Tryz.ntmps16
    go_wp2_with fail
    refine (wide_any _ V hs).mono ?_; rintro e w1 ⟨v1, rfl, hW, hbel⟩
    have HW := hid hW
    have hbel1 := hb0.trans (hbel.mono hb0.size)
    clear hW
    go_wp2_with fail
    go_ret
    exact ⟨_, rfl, Or.inl (Wide.lower HW.out (by simp)), hbel1⟩
set_option maxRecDepth 100000 in
set_option maxHeartbeats 1000000 in
theorem back_any (w : World) (lo : Nat) (v : Value) (K A B C D : Int) (S T V : ByteArray) (h : Lent w lo v V.toList) (hs : V.size ≤ 1000000000) :
    Calls Tryz.prog 18 #[.agg #[.int .i64 K, .int .i64 A, .int .i64 B, .int .i64 C, .int .i64 D, .string S, .string T, .string V], v] w fun e w' => e = .returned (.bool true) ∧ Turn w w' (fun k => v.ownBlock = some k) := by
  have hb0 : Below w.heap.size w (w.alloc (.cells #[.int .i64 K, .int .i64 A, .int .i64 B, .int .i64 C, .int .i64 D, .string S, .string T, .string V] 34)) := (Below.refl _ _).alloc (Nat.le_refl _) _
  rcases h with hW | ⟨rfl, hV⟩
  · have hVl : V.toList.length = V.size := by rw [ByteArray.toList_eq]; rfl
    obtain ⟨g, c, hv, hB⟩ := hW
    rw [hVl] at hv
    subst hv
    have HW := hid (show Wide (w.alloc (.cells #[.int .i64 K, .int .i64 A, .int .i64 B, .int .i64 C, .int .i64 D, .string S, .string T, .string V] 34)) lo (.slice (some ⟨g, 0, none⟩) V.size c) V.toList from ⟨g, c, by rw [hVl], hB.same hb0⟩)
    have hq := eql_nil (some ⟨g, 0, none⟩) V.size c
    clear hB hVl
    go_enter Tryz.func18, Tryz.ntmps18
    go_wp2_with fail
    refine (still_any _ lo _ V HW.out hs).mono ?_; rintro e w1 ⟨rfl, hT⟩
    have HT := hid ((Turn.of_below (S := fun k => (Value.slice (some ⟨g, 0, none⟩) V.size c).ownBlock = some k) hb0).trans hT (fun _ _ h => h))
    clear hT
    go_wp2_with fail
    go_ret
    exact ⟨rfl, HT.out⟩
  · have hq := eql_nil none 0 0
    go_enter Tryz.func18, Tryz.ntmps18
    go_wp2_with fail
    go_ret
    exact ⟨rfl, Turn.of_below hb0⟩
end Go.Proofs.YtopcgnjocklcoaaGreatDoor
/- What the statement's world holds: lists that are their owner's, deframers of both sides. -/
namespace Go.Proofs.YtopcgnjocklcoaaGreatDoor
open Go.RowKit

/-- a deframer of the program and the reference's beside it -/
structure DD where
  db : Nat
  eb : Nat
  av : Value
  A : List UInt8
def DD.st (d : DD) : St := (feedF sumB (some []) d.A).2
structure Law (w : World) (B lo : Nat) (dv ev bv : Value) (X : List Ent) (Ds : List DD) : Prop where
  wat : WAt w B dv ev bv
  ents : Ents w lo bv X
  ds : w.ownsRow lo 48 1 dv Ds.length (Ds.map fun d => .pointer (some ⟨d.db, 0, none⟩))
  es : w.ownsRow lo 50 1 ev Ds.length (Ds.map fun d => .pointer (some ⟨d.eb, 0, none⟩))
  cut : ∀ d ∈ Ds, Cut w d.db d.st
  rdf : ∀ d ∈ Ds, RDef w lo d.eb d.av d.A
  low : lo ≤ B ∧ ∀ d ∈ Ds, lo ≤ d.db ∧ lo ≤ d.eb
  dne : ∀ (i j : Nat) (d d' : DD), Ds[i]? = some d → Ds[j]? = some d' → i ≠ j → d.db ≠ d'.db ∧ d.eb ≠ d'.eb ∧ ∀ k, d.av.ownBlock = some k → d'.av.ownBlock ≠ some k
  ape : ∀ x ∈ X, ∀ u ∈ entVals x, ∀ k, u.ownBlock = some k → ∀ d ∈ Ds, d.av.ownBlock ≠ some k
  lox : ∀ x ∈ X, ∀ u ∈ entVals x, ∀ k, u.ownBlock = some k → lo ≤ k
theorem Law.B_lt {w : World} {B lo : Nat} {dv ev bv : Value} {X : List Ent} {Ds : List DD} (h : Law w B lo dv ev bv X Ds) : B < w.heap.size := (Array.getElem?_eq_some_iff.1 h.wat).1
theorem EntOk.lt {w : World} {x : Ent} (h : EntOk w x) : ∀ u ∈ entVals x, ∀ k, u.ownBlock = some k → k < w.heap.size := fun u hu k hk => by
  obtain ⟨cur, hc⟩ := h.blk u hu k hk
  exact (Array.getElem?_eq_some_iff.1 hc).1
theorem Cut.lt {w : World} {b : Nat} {s : St} (h : Cut w b s) : b < w.heap.size := by obtain ⟨cur, hc, _⟩ := h; exact (Array.getElem?_eq_some_iff.1 hc).1
theorem RDef.lt {w : World} {lo eb : Nat} {av : Value} {A : List UInt8} (h : RDef w lo eb av A) : eb < w.heap.size := (Array.getElem?_eq_some_iff.1 h.1).1
/-- what lies in memory that has not turned -/
theorem Law.below {w w' : World} {B lo : Nat} {dv ev bv : Value} {X : List Ent} {Ds : List DD} (h : Law w B lo dv ev bv X Ds) (hb : Below w.heap.size w w') : Law w' B lo dv ev bv X Ds :=
  ⟨(hb.block B h.B_lt).trans h.wat, ⟨own_same h.ents.own (fun g hg => hb.block g (h.ents.own.lt g hg).2), fun x hx => (h.ents.ok x hx).turn (fun u hu k hk => hb.block k ((h.ents.ok x hx).lt u hu k hk))⟩,
    own_same h.ds (fun g hg => hb.block g (h.ds.lt g hg).2), own_same h.es (fun g hg => hb.block g (h.es.lt g hg).2),
    fun d hd => by obtain ⟨cur, hc, e⟩ := h.cut d hd; exact ⟨cur, (hb.block _ (h.cut d hd).lt).trans hc, e⟩,
    fun d hd => ⟨(hb.block _ (h.rdf d hd).lt).trans (h.rdf d hd).1, (h.rdf d hd).2.same hb⟩, h.low, h.dne, h.ape, h.lox⟩
/-- 'own' has been called on a list that is none of what is kept -/
theorem Law.own {w w' : World} {B lo : Nat} {dv ev bv lv : Value} {X : List Ent} {Ds : List DD} {e : Ending} (h : Law w B lo dv ev bv X Ds) (hp : OwnPost w B lo dv ev bv lv X e w') (hl : ∀ k, lv.ownBlock = some k → lo ≤ k ∧ (∃ cur, w.heap[k]? = some (.cells cur 5 (0, 0))) ∧ ∀ d ∈ Ds, d.av.ownBlock ≠ some k) :
    e = .returned (.tuple #[]) ∧ ∃ bv' x, Law w' B lo dv ev bv' (X ++ [x]) Ds ∧ Below lo w w' ∧ Turn w w' (fun k => k = B ∨ bv.ownBlock = some k ∨ lv.ownBlock = some k) ∧ ∀ u ∈ entVals x, ∀ k, u.ownBlock = some k → lv.ownBlock = some k ∨ w.heap.size ≤ k := by
  obtain ⟨he, bv', x, hW, hX, hT, hbv, hx⟩ := hp
  refine ⟨he, bv', x, ?_, hT.below (by have := h.low.1; have := h.B_lt; omega) (fun k hk hs => ?_), hT, hx⟩
  · have hfree : ∀ k T cur, w.heap[k]? = some (.cells cur T (0, 0)) → T ≠ 31 → T ≠ 54 → (T = 5 → lv.ownBlock ≠ some k) → w'.heap[k]? = w.heap[k]? := fun k T cur hk h1 h2 h3 => by
      refine hT.block k (Array.getElem?_eq_some_iff.1 hk).1 ?_
      rintro (rfl | hs | hs)
      · have := h.wat; unfold WAt at this; rw [hk] at this; simp at this; exact h1 this.2
      · obtain ⟨cur', hc'⟩ := own_type h.ents.own hs
        rw [hk] at hc'; simp at hc'; exact h2 hc'.2
      · obtain ⟨_, ⟨cur', hc'⟩, _⟩ := hl k hs
        rw [hk] at hc'; simp at hc'
        exact h3 hc'.2 hs
    refine ⟨hW, hX, own_same h.ds (fun g hg => ?_), own_same h.es (fun g hg => ?_), fun d hd => ?_, fun d hd => ⟨?_, ?_⟩, h.low, h.dne, fun y hy u hu k hk d hd => ?_, fun y hy u hu k hk => ?_⟩
    · obtain ⟨cur, hc⟩ := own_type h.ds hg
      exact hfree g _ cur hc (by decide) (by decide) (fun e => absurd e (by decide))
    · obtain ⟨cur, hc⟩ := own_type h.es hg
      exact hfree g _ cur hc (by decide) (by decide) (fun e => absurd e (by decide))
    · obtain ⟨cur, hc, e⟩ := h.cut d hd
      exact ⟨cur, (hfree _ _ cur hc (by decide) (by decide) (fun e => absurd e (by decide))).trans hc, e⟩
    · exact (hfree _ _ _ (h.rdf d hd).1 (by decide) (by decide) (fun e => absurd e (by decide))).trans (h.rdf d hd).1
    · refine own_same (h.rdf d hd).2 (fun g hg => ?_)
      obtain ⟨cur, hc⟩ := own_type (h.rdf d hd).2 hg
      exact hfree g _ cur hc (by decide) (by decide) (fun _ e => (hl g e).2.2 d hd hg)
    · rcases List.mem_append.1 hy with hy | hy
      · exact h.ape y hy u hu k hk d hd
      · simp only [List.mem_singleton] at hy
        subst hy
        rcases hx u hu k hk with h1 | h1
        · exact (hl k h1).2.2 d hd
        · intro e
          have := ((h.rdf d hd).2.lt k e).2
          omega
    · rcases List.mem_append.1 hy with hy | hy
      · exact h.lox y hy u hu k hk
      · simp only [List.mem_singleton] at hy
        subst hy
        rcases hx u hu k hk with h1 | h1
        · exact (hl k h1).1
        · have := h.low.1; have := h.B_lt; omega
  · rcases hs with rfl | hs | hs
    · have := h.low.1; omega
    · have := (h.ents.own.lt k hs).1; omega
    · have := (hl k hs).1; omega
/-- a deframer of both sides has been fed -/
theorem Law.feed {w w' : World} {B lo : Nat} {dv ev bv av' : Value} {X : List Ent} {Ds : List DD} {i : Nat} {d : DD} {A' : List UInt8} (h : Law w B lo dv ev bv X Ds) (hi : Ds[i]? = some d)
    (hT : Turn w w' (fun k => k = d.db ∨ k = d.eb ∨ d.av.ownBlock = some k)) (hC : Cut w' d.db (feedF sumB (some []) A').2) (hR : RDef w' lo d.eb av' A') (hav : ∀ k, av'.ownBlock = some k → d.av.ownBlock = some k ∨ w.heap.size ≤ k) :
    Law w' B lo dv ev bv X (Ds.set i ⟨d.db, d.eb, av', A'⟩) ∧ Below lo w w' := by
  have hd := List.mem_of_getElem? hi
  have hBlt := h.B_lt
  have hlow := h.low.1
  have hil : i < Ds.length := (List.getElem?_eq_some_iff.1 hi).1
  obtain ⟨curd, hcd, _⟩ := h.cut d hd
  have hce := (h.rdf d hd).1
  have hfree : ∀ (k : Nat) (T : TypeId) (cur : Array Value), w.heap[k]? = some (.cells cur T (0, 0)) → (T = 80 → k ≠ d.db) → (T = 52 → k ≠ d.eb) → (T = 5 → d.av.ownBlock ≠ some k) → w'.heap[k]? = w.heap[k]? := fun k T cur hk h1 h2 h3 => by
    refine hT.block k (Array.getElem?_eq_some_iff.1 hk).1 ?_
    rintro (e | e | e)
    · subst e; rw [hcd] at hk; simp at hk; exact h1 hk.2.symm rfl
    · subst e; rw [hce] at hk; simp at hk; exact h2 hk.2.symm rfl
    · obtain ⟨cur', hc'⟩ := own_type (h.rdf d hd).2 e
      rw [hk] at hc'; simp at hc'; exact h3 hc'.2 e
  have hmap : ∀ (f : DD → Value), f ⟨d.db, d.eb, av', A'⟩ = f d → (Ds.set i ⟨d.db, d.eb, av', A'⟩).map f = Ds.map f := fun f hf => by
    rw [List.map_set, hf]
    apply List.ext_getElem?
    intro j
    by_cases hj : i = j
    · subst hj
      rw [List.getElem?_set_self (by simpa using hil), List.getElem?_map, hi]; rfl
    · rw [List.getElem?_set_ne hj]
  have hget : ∀ (j : Nat) (y : DD), (Ds.set i ⟨d.db, d.eb, av', A'⟩)[j]? = some y → (j = i ∧ y = ⟨d.db, d.eb, av', A'⟩) ∨ (j ≠ i ∧ Ds[j]? = some y) := fun j y hy => by
    by_cases hj : i = j
    · subst hj
      rw [List.getElem?_set_self hil] at hy
      exact Or.inl ⟨rfl, by simpa using hy.symm⟩
    · rw [List.getElem?_set_ne hj] at hy
      exact Or.inr ⟨fun e => hj e.symm, hy⟩
  have hmem : ∀ y ∈ Ds.set i ⟨d.db, d.eb, av', A'⟩, y = ⟨d.db, d.eb, av', A'⟩ ∨ ∃ j, j ≠ i ∧ Ds[j]? = some y := fun y hy => by
    obtain ⟨j, hj⟩ := List.mem_iff_getElem?.1 hy
    rcases hget j y hj with ⟨_, e⟩ | ⟨h1, h2⟩
    · exact Or.inl e
    · exact Or.inr ⟨j, h1, h2⟩
  have havlt : ∀ y ∈ Ds, ∀ k, y.av.ownBlock = some k → k < w.heap.size := fun y hy k hk => ((h.rdf y hy).2.lt k hk).2
  refine ⟨⟨(hfree B _ _ h.wat (fun e => absurd e (by decide)) (fun e => absurd e (by decide)) (fun e => absurd e (by decide))).trans h.wat, ⟨own_same h.ents.own (fun g hg => ?_), fun x hx => (h.ents.ok x hx).turn (fun u hu k hk => ?_)⟩, ?_, ?_, fun y hy => ?_, fun y hy => ?_, ⟨hlow, fun y hy => ?_⟩, ?_, fun x hx u hu k hk y hy => ?_, h.lox⟩, hT.below (by omega) (fun k hk hs => ?_)⟩
  · obtain ⟨cur, hc⟩ := own_type h.ents.own hg
    exact hfree g _ cur hc (fun e => absurd e (by decide)) (fun e => absurd e (by decide)) (fun e => absurd e (by decide))
  · obtain ⟨cur, hc⟩ := (h.ents.ok x hx).blk u hu k hk
    exact hfree k _ cur hc (fun e => absurd e (by decide)) (fun e => absurd e (by decide)) (fun _ => h.ape x hx u hu k hk d hd)
  · rw [List.length_set, hmap _ rfl]
    refine own_same h.ds (fun g hg => ?_)
    obtain ⟨cur, hc⟩ := own_type h.ds hg
    exact hfree g _ cur hc (fun e => absurd e (by decide)) (fun e => absurd e (by decide)) (fun e => absurd e (by decide))
  · rw [List.length_set, hmap _ rfl]
    refine own_same h.es (fun g hg => ?_)
    obtain ⟨cur, hc⟩ := own_type h.es hg
    exact hfree g _ cur hc (fun e => absurd e (by decide)) (fun e => absurd e (by decide)) (fun e => absurd e (by decide))
  · rcases hmem y hy with rfl | ⟨j, hj, hy2⟩
    · exact hC
    · have hym := List.mem_of_getElem? hy2
      obtain ⟨cur, hc, e⟩ := h.cut y hym
      exact ⟨cur, (hfree _ _ cur hc (fun _ => (h.dne j i y d hy2 hi hj).1) (fun e => absurd e (by decide)) (fun e => absurd e (by decide))).trans hc, e⟩
  · rcases hmem y hy with rfl | ⟨j, hj, hy2⟩
    · exact hR
    · have hym := List.mem_of_getElem? hy2
      refine ⟨(hfree _ _ _ (h.rdf y hym).1 (fun e => absurd e (by decide)) (fun _ => (h.dne j i y d hy2 hi hj).2.1) (fun e => absurd e (by decide))).trans (h.rdf y hym).1, own_same (h.rdf y hym).2 (fun g hg => ?_)⟩
      obtain ⟨cur, hc⟩ := own_type (h.rdf y hym).2 hg
      exact hfree g _ cur hc (fun e => absurd e (by decide)) (fun e => absurd e (by decide)) (fun _ => (h.dne j i y d hy2 hi hj).2.2 g hg)
  · rcases hmem y hy with rfl | ⟨j, hj, hy2⟩
    · exact h.low.2 d hd
    · exact h.low.2 y (List.mem_of_getElem? hy2)
  · intro j j' y y' hy hy' hjj
    rcases hget j y hy with ⟨rfl, rfl⟩ | ⟨h1, h2⟩ <;> rcases hget j' y' hy' with ⟨rfl, rfl⟩ | ⟨h1', h2'⟩
    · exact absurd rfl hjj
    · obtain ⟨q1, q2, q3⟩ := h.dne j j' d y' hi h2' hjj
      refine ⟨q1, q2, fun k hk => ?_⟩
      rcases hav k hk with e | e
      · exact q3 k e
      · intro e'
        have := havlt y' (List.mem_of_getElem? h2') k e'
        omega
    · obtain ⟨q1, q2, q3⟩ := h.dne j j' y d h2 hi hjj
      refine ⟨q1, q2, fun k hk e' => ?_⟩
      rcases hav k e' with e | e
      · exact q3 k hk e
      · have := havlt y (List.mem_of_getElem? h2) k hk
        omega
    · exact h.dne j j' y y' h2 h2' hjj
  · rcases hmem y hy with rfl | ⟨j, hj, hy2⟩
    · intro e
      rcases hav k e with e | e
      · exact h.ape x hx u hu k hk d hd e
      · have := (h.ents.ok x hx).lt u hu k hk
        omega
    · exact h.ape x hx u hu k hk y (List.mem_of_getElem? hy2)
  · have hl := h.low.2 d hd
    rcases hs with rfl | rfl | hs
    · omega
    · omega
    · have := ((h.rdf d hd).2.lt k hs).1; omega
/-- memory of another kind has turned -/
theorem Law.other {w w' : World} {B lo : Nat} {dv ev bv : Value} {X : List Ent} {Ds : List DD} {S : Nat → Prop} (h : Law w B lo dv ev bv X Ds) (hT : Turn w w' S) (hS : ∀ (k : Nat) (cur : Array Value) (T : TypeId), S k → w.heap[k]? = some (.cells cur T (0, 0)) → T = 39) : Law w' B lo dv ev bv X Ds := by
  have hfree : ∀ (k : Nat) (T : TypeId) (cur : Array Value), w.heap[k]? = some (.cells cur T (0, 0)) → T ≠ 39 → w'.heap[k]? = w.heap[k]? := fun k T cur hk h1 => hT.block k (Array.getElem?_eq_some_iff.1 hk).1 (fun hs => h1 (hS k cur T hs hk))
  refine ⟨(hfree B _ _ h.wat (by decide)).trans h.wat, ⟨own_same h.ents.own (fun g hg => ?_), fun x hx => (h.ents.ok x hx).turn (fun u hu k hk => ?_)⟩, own_same h.ds (fun g hg => ?_), own_same h.es (fun g hg => ?_), fun y hy => ?_, fun y hy => ⟨(hfree _ _ _ (h.rdf y hy).1 (by decide)).trans (h.rdf y hy).1, own_same (h.rdf y hy).2 (fun g hg => ?_)⟩, h.low, h.dne, h.ape, h.lox⟩
  · obtain ⟨cur, hc⟩ := own_type h.ents.own hg
    exact hfree g _ cur hc (by decide)
  · obtain ⟨cur, hc⟩ := (h.ents.ok x hx).blk u hu k hk
    exact hfree k _ cur hc (by decide)
  · obtain ⟨cur, hc⟩ := own_type h.ds hg
    exact hfree g _ cur hc (by decide)
  · obtain ⟨cur, hc⟩ := own_type h.es hg
    exact hfree g _ cur hc (by decide)
  · obtain ⟨cur, hc, e⟩ := h.cut y hy
    exact ⟨cur, (hfree _ _ cur hc (by decide)).trans hc, e⟩
  · obtain ⟨cur, hc⟩ := own_type (h.rdf y hy).2 hg
    exact hfree g _ cur hc (by decide)
/-- a step's cells -/
theorem op_cells {w : World} {b : Nat} {K A B C D : Int} {S T V : ByteArray} (h : w.heap[b]? = some (.cells #[.int .i64 K, .int .i64 A, .int .i64 B, .int .i64 C, .int .i64 D, .string S, .string T, .string V] 34 (0, 0))) :
    w.cell? ⟨b, 0, none⟩ = some (.int .i64 K) ∧ w.cell? ⟨b, 1, none⟩ = some (.int .i64 A) ∧ w.cell? ⟨b, 2, none⟩ = some (.int .i64 B) ∧ w.cell? ⟨b, 3, none⟩ = some (.int .i64 C) ∧ w.cell? ⟨b, 4, none⟩ = some (.int .i64 D) ∧ w.cell? ⟨b, 5, none⟩ = some (.string S) ∧ w.cell? ⟨b, 6, none⟩ = some (.string T) ∧ w.cell? ⟨b, 7, none⟩ = some (.string V) := by
  refine ⟨?_, ?_, ?_, ?_, ?_, ?_, ?_, ?_⟩ <;> (rw [cell_row h]; rfl)
/-- '[]byte(s)' -/
theorem conv_bytes (w : World) (s : ByteArray) : ∃ a c w', (convert 9 39 (.string s)).run Tryz.prog w = .ok (.slice (some a) s.size c) w' ∧ Hid (Rd w' (.slice (some a) s.size c) s.toList) ∧ Hid (Below w.heap.size w w') := by
  refine ⟨_, _, _, Lib.run_convert_string_bytes w 9 39 5 s Tryz.underlying9 Tryz.underlying39 Tryz.underlying5, ?_, ?_⟩
  · have hsl : s.toList.length = s.size := by rw [ByteArray.toList_eq]; rfl
    refine Or.inr ⟨⟨w.heap.size, 0, none⟩, _, by rw [hsl], fun j u hu => ?_⟩
    have hj : j < s.size := by
      rcases Nat.lt_or_ge j s.size with h | h
      · exact h
      · rw [List.getElem?_eq_none (by simp; omega)] at hu; cases hu
    rw [rd_add _ _ rfl, Nat.zero_add, Lib.bytesWorld_cell w _ s j hj]
    rw [List.getElem?_map, ByteArray.toList_eq, List.getElem?_eq_getElem (by rw [← ByteArray.toList_eq]; omega)] at hu
    simp only [Option.map_some, Option.some.injEq] at hu
    rw [← hu]
    simp only [byteCell, List.getD_eq_getElem?_getD]
    rw [List.getElem?_eq_getElem (by rw [← ByteArray.toList_eq]; omega)]
    rfl
  · exact ⟨rfl, rfl, rfl, by rw [Lib.bytesWorld_size]; omega, fun k hk => Lib.bytesWorld_at_old w _ s k hk⟩
end Go.Proofs.YtopcgnjocklcoaaGreatDoor
