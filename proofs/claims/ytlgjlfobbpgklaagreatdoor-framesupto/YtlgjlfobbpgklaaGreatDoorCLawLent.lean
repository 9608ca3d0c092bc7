/- What the statement lends to the program: 'wide', 'still', 'lent', 'back'. -/
import Derived.Test.YtlgjlfobbpgklaaGreatDoorCLawOwn
import Derived.Test.YtlgjlfobbpgklaaGreatDoorCFrFeed
import Derived.Lib.AppendStr
namespace Go.Proofs.YtlgjlfobbpgklaaGreatDoor
open Go.RowKit

theorem strCells_bys (s : ByteArray) : Lib.strCells s = s.toList.map byteCell := by
  unfold Lib.strCells
  rw [ByteArray.toList_eq]
  rfl
/-- a text's bytes put behind nothing -/
theorem wpList_append_text (w : World) {ops : Array Oper} {rest : List Oper} {o : Oper} {a : Act} {Q : Exit → Act → World → Prop} (hgd : o.guard = none) (sl x : Operand)
    (ho : o.op = .call { callee := .builtin .append, args := #[sl, x], argTypes := #[51, 9] }) (hs : a.eval sl = .slice none 0 0) (s : ByteArray) (hx : a.eval x = .string s) (hl : s.size ≤ 1000000000) (L : List UInt8) (hL : s.toList = L)
    (h : ∀ a' c' w', Bys w' w.heap.size (.slice a' L.length c') L → Below w.heap.size w w' → wpList Tryz.prog ops Q rest (a.put o.dst (.slice a' L.length c')) w') : wpList Tryz.prog ops Q (o :: rest) a w := by
  obtain ⟨iI, hiI, hI0, hI1, hI2⟩ := info_parts Tryz.infoByte
  subst hL
  have hsl : s.toList.length = s.size := by rw [ByteArray.toList_eq]; rfl
  refine Lib.wpList_append_own_string w hgd sl x 51 9 ho w.heap.size 5 iI Tryz.underlying51 Tryz.underlying9 hiI hI0 hI1 hI2 _ 0 [] hs (World.ownsRow_nil _ _ _ _) s hx (by unfold maxLen; omega) (by omega) (Nat.le_refl _) ?_
  intro v' w' ho' hg' _
  rw [Nat.zero_add, List.nil_append, strCells_bys, ← hsl] at ho'
  obtain ⟨a', c', rfl⟩ := own_slice ho'
  exact h a' c' w' ho' ⟨hg'.os, hg'.tape, hg'.output, hg'.size, fun k hk => hg'.block k hk (by simp [Value.ownBlock])⟩
/-- bytes with one byte of spare room, in which 77 stands -/
def Wide (w : World) (lo : Nat) (v : Value) (L : List UInt8) : Prop := ∃ g c, v = .slice (some ⟨g, 0, none⟩) L.length c ∧ Bys w lo (.slice (some ⟨g, 0, none⟩) (L ++ [77]).length c) (L ++ [77])
theorem Wide.lower {w : World} {lo lo' : Nat} {v : Value} {L : List UInt8} (h : Wide w lo v L) (hl : lo' ≤ lo) : Wide w lo' v L := by
  obtain ⟨g, c, hv, hB⟩ := h
  exact ⟨g, c, hv, hB.lower hl⟩
theorem Wide.rd {w : World} {lo : Nat} {v : Value} {L : List UInt8} (h : Wide w lo v L) : Rd w v L := by
  obtain ⟨g, c, rfl, hB⟩ := h
  refine Or.inr ⟨⟨g, 0, none⟩, c, rfl, fun j u hu => ?_⟩
  have hj : j < L.length := by
    rcases Nat.lt_or_ge j L.length with h | h
    · exact h
    · rw [List.getElem?_eq_none (by simpa using h)] at hu; cases hu
  exact hB.cells (g := g) rfl j u (by rw [List.map_append, List.getElem?_append_left (by simpa using hj)]; exact hu)
set_option maxRecDepth 100000 in
set_option maxHeartbeats 1000000 in
theorem wide_any (w : World) (s : ByteArray) (hs : s.size ≤ 1000000000) :
    Calls Tryz.prog 59 #[.string s] w fun e w' => ∃ v, e = .returned v ∧ Wide w' w.heap.size v s.toList ∧ Below w.heap.size w w' := by
  have hsl : s.toList.length = s.size := by rw [ByteArray.toList_eq]; rfl
  obtain ⟨L, HL⟩ : ∃ L, Hid (s.toList = L) := ⟨_, hid rfl⟩
  rw [HL.out] at hsl ⊢
  have HSL := hid hsl
  have hLl : L.length ≤ 1000000000 := by omega
  obtain ⟨M, HM⟩ : ∃ M, Hid (L ++ [77] = M) := ⟨_, hid rfl⟩
  have hMl : M.length = L.length + 1 := by rw [← HM.out]; simp
  have HML := hid hMl
  clear hsl hMl
  go_enter Tryz.func59, Tryz.ntmps59
  go_wp2_with (at_builtin; refine wpList_append_text _ rfl (.tmp 4) (.tmp 5) rfl rfl s rfl hs L HL.out ?_)
  intro a1 c1 w1 hb1 hbel1
  have HB1 := hid hb1
  have hz1 := hbel1.size
  clear hb1
  go_wp2_with (at_builtin; refine wpList_append_rd _ rfl (.tmp 7) (.tmp 8) rfl _ L w.heap.size rfl (HB1.out.same ((Below.refl _ _).alloc (Nat.le_refl _) _)) _ [77] rfl (bys_one _ 77 _ rfl).rd M HM.out (by simp; omega) (by simp; omega) ?_)
  intro a2 c2 w2 hb2 hg2
  have hbel2 : Below w.heap.size w w2 := (hbel1.alloc hz1 _).trans (hg2.below (fun k hk => (HB1.out.lt k hk).1) (by simp; omega))
  obtain ⟨g, hg0⟩ : ∃ g, a2 = some ⟨g, 0, none⟩ := by
    rcases hb2.2 with ⟨_, e⟩ | ⟨g, cap, cur, hv, _⟩
    · have := HML.out; omega
    · simp at hv; exact ⟨g, hv.1⟩
  subst hg0
  have hcap : M.length ≤ c2 := by
    rcases hb2.2 with ⟨_, e⟩ | ⟨g, cap, cur, hv, _, _, h3, _⟩
    · have := HML.out; omega
    · simp at hv; omega
  have hcI : (s.size : Int) ≤ (c2 : Int) := by have h1 := HML.out; have h2 := HSL.out; omega
  have hc0 : ¬ c2 = 0 := by have h1 := HML.out; omega
  have HB2 := hid hb2
  clear hb2 hg2
  go_wp2_with fail
  go_ret
  refine ⟨_, rfl, ⟨g, c2, ?_, by rw [HM.out]; exact HB2.out⟩, hbel2⟩
  rw [HSL.out]; rfl
set_option maxRecDepth 100000 in
set_option maxHeartbeats 1000000 in
theorem still_any (w : World) (lo : Nat) (v : Value) (s : ByteArray) (h : Wide w lo v s.toList) (hs : s.size ≤ 1000000000) :
    Calls Tryz.prog 62 #[v, .string s] w fun e w' => e = .returned (.bool true) ∧ Turn w w' (fun k => v.ownBlock = some k) := by
  have hsl : s.toList.length = s.size := by rw [ByteArray.toList_eq]; rfl
  have hconv := h.rd.conv
  have HSO := hid (show (strOf s.toList).toList = s.toList from strOf_toList _)
  obtain ⟨g, c, rfl, hB⟩ := h
  rw [hsl] at hconv ⊢
  have hMl : (s.toList ++ [77]).length = s.size + 1 := by simp [hsl]
  have hcap : s.size + 1 ≤ c := by
    rcases hB.2 with ⟨_, e⟩ | ⟨g, cap, cur, hv, _, _, h3, _⟩
    · omega
    · simp at hv; omega
  have h77 : w.cell? ⟨g, s.size, none⟩ = some (.int .u8 77) := by
    have := hB.cells (g := g) rfl s.size (byteCell 77) (by rw [List.map_append, List.getElem?_append_right (by simp [hsl])]; simp [hsl])
    rw [rd_add _ _ rfl] at this
    simpa [byteCell] using this
  have hcI : (s.size : Int) + 1 ≤ (c : Int) := by omega
  have hc0 : ¬ c = 0 := by omega
  have HB := hid hB
  clear hB
  go_enter Tryz.func62, Tryz.ntmps62
  go_wp2_with fail
  have hrow : ∃ cur, w.heap[g]? = some (.cells cur 5 (0, 0)) ∧ cur.size = c := by
    rcases HB.out.2 with ⟨h0, _⟩ | ⟨g', cap, cur, hv, _, hh, _, _, h3, _⟩
    · simp at h0
    · simp at hv
      obtain ⟨rfl, rfl⟩ := hv
      exact ⟨cur, hh, by simpa using h3⟩
  go_loopg [7] (s.size + 1) (fun gk i wr => ∃ k : Nat, k + gk = s.size + 1 ∧ i = .int .i64 k ∧ Hid (∃ cur, wr.heap[g]? = some (.cells cur 5 (0, 0)) ∧ cur.size = c) ∧ Hid (Turn w wr (fun q => q = g)))
  case atStart => exact ⟨0, by omega, rfl, hid hrow, hid (Turn.refl _ _)⟩
  case round =>
    obtain ⟨k, hk, rfl, HR, HT⟩ := hrel
    by_cases hlt : k < s.size + 1
    · have hltI : (k : Int) < (s.size : Int) + 1 := by omega
      obtain ⟨cur, hcur, hcs⟩ := HR.out
      obtain ⟨old, hck⟩ : ∃ old, wr.cell? ⟨g, k, none⟩ = some old := by
        rw [cell_row hcur]
        exact ⟨_, List.getElem?_eq_getElem (by simp; omega)⟩
      have hfk : wr.frozen? ⟨g, k, none⟩ = false := frozen_row hcur _
      have HR2 := hid (show ∃ cur, (wr.setCell ⟨g, k, none⟩ (.int .u8 78)).heap[g]? = some (.cells cur 5 (0, 0)) ∧ cur.size = c from ⟨_, heap_setCell_same wr g k cur _ _ hcur, by simpa using hcs⟩)
      have HT2 := hid (HT.out.trans (Turn.setCell wr g k (.int .u8 78)) (fun q _ h => h))
      clear hcur hcs
      go_wp2_with fail
      go_roundg (gk - 1)
      case rel => exact ⟨k + 1, by omega, by go_num, HR2, HT2⟩
      case measure => omega
    · have hltI : ¬ (k : Int) < (s.size : Int) + 1 := by omega
      have HT2 := hid (HT.out.weak (S' := fun q => (Value.slice (some ⟨g, 0, none⟩) s.size c).ownBlock = some q) (fun q h => by rw [h]; rfl))
      go_wp2_with fail
      go_ret
      exact ⟨rfl, HT2.out⟩
/-- what 'lent' gives: wide bytes, or nil -/
def Lent (w : World) (lo : Nat) (v : Value) (L : List UInt8) : Prop := Wide w lo v L ∨ (v = .slice none 0 0 ∧ L = [])
theorem Lent.rd {w : World} {lo : Nat} {v : Value} {L : List UInt8} (h : Lent w lo v L) : Rd w v L := by
  rcases h with h | ⟨rfl, rfl⟩
  · exact h.rd
  · exact Or.inl ⟨rfl, rfl⟩
theorem Lent.turn {w w' : World} {lo : Nat} {v : Value} {L : List UInt8} (h : Lent w lo v L) (hs : ∀ k, v.ownBlock = some k → w'.heap[k]? = w.heap[k]?) : Lent w' lo v L := by
  rcases h with ⟨g, c, rfl, hB⟩ | h
  · exact Or.inl ⟨g, c, rfl, own_same hB (fun k hk => hs k hk)⟩
  · exact Or.inr h
theorem Lent.lt {w : World} {lo : Nat} {v : Value} {L : List UInt8} (h : Lent w lo v L) : ∀ k, v.ownBlock = some k → lo ≤ k ∧ k < w.heap.size := by
  rcases h with ⟨g, c, rfl, hB⟩ | ⟨rfl, _⟩
  · exact fun k hk => hB.lt k hk
  · exact fun k hk => by simp [Value.ownBlock] at hk
set_option maxRecDepth 100000 in
set_option maxHeartbeats 1000000 in
theorem lent_any (w : World) (K A B C D : Int) (S T V : ByteArray) (hs : V.size ≤ 1000000000) :
    Calls Tryz.prog 39 #[.agg #[.int .i64 K, .int .i64 A, .int .i64 B, .int .i64 C, .int .i64 D, .string S, .string T, .string V]] w fun e w' => ∃ v, e = .returned v ∧ Lent w' w.heap.size v V.toList ∧ Below w.heap.size w w' := by
  have hb0 : Below w.heap.size w (w.alloc (.cells #[.int .i64 K, .int .i64 A, .int .i64 B, .int .i64 C, .int .i64 D, .string S, .string T, .string V] 66)) := (Below.refl _ _).alloc (Nat.le_refl _) _
  by_cases hV : V.toList = []
  · have hV0 : V = ByteArray.empty := by
      apply ByteArray.ext
      apply Array.toList_inj.1
      have := hV
      rw [ByteArray.toList_eq] at this
      rw [this]; rfl
    subst hV0
    by_cases hA : A.tmod 2 = 0
    · have hAI : (A.tmod 2 == 0) = true := by simpa using hA
      clear hA
      go_enter Tryz.func39, Tryz.ntmps39
      go_wp2_with fail
      refine (wide_any _ ByteArray.empty hs).mono ?_; rintro e w1 ⟨v1, rfl, hW, hbel⟩
      have HW := hid hW
      have hbel1 := hb0.trans (hbel.mono hb0.size)
      clear hW
      go_wp2_with fail
      go_ret
      exact ⟨_, rfl, Or.inl (Wide.lower HW.out (by simp)), hbel1⟩
    · have hAI : (A.tmod 2 == 0) = false := by simpa using hA
      clear hA
      go_enter Tryz.func39, Tryz.ntmps39
      go_wp2_with fail
      go_ret
      exact ⟨_, rfl, Or.inr ⟨rfl, hV⟩, hb0⟩
  · have hVI : (V.toList == []) = false := by simpa using hV
    have hVE : V.toList.isEmpty = false := by simpa using hV
    clear hV
    go_enter Tryz.func39, Tryz.ntmps39
    go_wp2_with fail
    refine (wide_any _ V hs).mono ?_; rintro e w1 ⟨v1, rfl, hW, hbel⟩
    have HW := hid hW
    have hbel1 := hb0.trans (hbel.mono hb0.size)
    clear hW
    go_wp2_with fail
    go_ret
    exact ⟨_, rfl, Or.inl (Wide.lower HW.out (by simp)), hbel1⟩
set_option maxRecDepth 100000 in
set_option maxHeartbeats 1000000 in
theorem back_any (w : World) (lo : Nat) (v : Value) (K A B C D : Int) (S T V : ByteArray) (h : Lent w lo v V.toList) (hs : V.size ≤ 1000000000) :
    Calls Tryz.prog 40 #[.agg #[.int .i64 K, .int .i64 A, .int .i64 B, .int .i64 C, .int .i64 D, .string S, .string T, .string V], v] w fun e w' => e = .returned (.bool true) ∧ Turn w w' (fun k => v.ownBlock = some k) := by
  have hb0 : Below w.heap.size w (w.alloc (.cells #[.int .i64 K, .int .i64 A, .int .i64 B, .int .i64 C, .int .i64 D, .string S, .string T, .string V] 66)) := (Below.refl _ _).alloc (Nat.le_refl _) _
  rcases h with hW | ⟨rfl, hV⟩
  · have hVl : V.toList.length = V.size := by rw [ByteArray.toList_eq]; rfl
    obtain ⟨g, c, hv, hB⟩ := hW
    rw [hVl] at hv
    subst hv
    have HW := hid (show Wide (w.alloc (.cells #[.int .i64 K, .int .i64 A, .int .i64 B, .int .i64 C, .int .i64 D, .string S, .string T, .string V] 66)) lo (.slice (some ⟨g, 0, none⟩) V.size c) V.toList from ⟨g, c, by rw [hVl], hB.same hb0⟩)
    have hq := eql_nil (some ⟨g, 0, none⟩) V.size c
    clear hB hVl
    go_enter Tryz.func40, Tryz.ntmps40
    go_wp2_with fail
    refine (still_any _ lo _ V HW.out hs).mono ?_; rintro e w1 ⟨rfl, hT⟩
    have HT := hid ((Turn.of_below (S := fun k => (Value.slice (some ⟨g, 0, none⟩) V.size c).ownBlock = some k) hb0).trans hT (fun _ _ h => h))
    clear hT
    go_wp2_with fail
    go_ret
    exact ⟨rfl, HT.out⟩
  · have hq := eql_nil none 0 0
    go_enter Tryz.func40, Tryz.ntmps40
    go_wp2_with fail
    go_ret
    exact ⟨rfl, Turn.of_below hb0⟩
end Go.Proofs.YtlgjlfobbpgklaaGreatDoor
