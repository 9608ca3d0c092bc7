/- Bytes that can be read; the sum of frames; bytes.Clone, bytes.Equal and other leaves. -/
import Derived.Test.YtlgjlfobbpgklaaGreatDoorCMemBase
import Derived.Test.YtlgjlfobbpgklaaGreatDoorCFrSpec
import Derived.Laws.BytesArg
import Derived.Deep.CutRange
namespace Go.Proofs.YtlgjlfobbpgklaaGreatDoor
open Go.RowKit

/-- bytes that can be read, wherever they lie -/
def Rd (w : World) (v : Value) (L : List UInt8) : Prop :=
  (v = .slice none 0 0 ∧ L = []) ∨ ∃ a c, v = .slice (some a) L.length c ∧ ∀ j u, (L.map byteCell)[j]? = some u → w.cell? (a.add j) = some u
theorem Rd.slice {w : World} {v : Value} {L : List UInt8} (h : Rd w v L) : ∃ a c, v = .slice a L.length c := by
  rcases h with ⟨rfl, rfl⟩ | ⟨a, c, rfl, _⟩
  · exact ⟨none, 0, rfl⟩
  · exact ⟨_, _, rfl⟩
theorem Bys.rd {w : World} {lo : Nat} {v : Value} {L : List UInt8} (h : Bys w lo v L) : Rd w v L := by
  rcases h.2 with ⟨rfl, h0⟩ | ⟨g, cap, cur, hv, r⟩
  · exact Or.inl ⟨rfl, List.eq_nil_of_length_eq_zero h0⟩
  · exact Or.inr ⟨_, _, hv, fun j u hu => h.cells (g := g) (by rw [hv]; rfl) j u hu⟩
theorem rd_add (a : Addr) (j : Nat) (h : a.spot = none) : a.add j = ⟨a.block, a.off + j, none⟩ := by
  obtain ⟨b, o, s⟩ := a
  simp only at h
  subst h
  unfold Addr.add
  split <;> simp_all
/-- bytes of which there are some: where they lie -/
theorem Rd.at {w : World} {v : Value} {L : List UInt8} (h : Rd w v L) (h0 : 0 < L.length) : ∃ b o c, v = .slice (some ⟨b, o, none⟩) L.length c ∧ b < w.heap.size ∧ ∀ j (hj : j < L.length), w.cell? ⟨b, o + j, none⟩ = some (.int .u8 (L[j].toNat : Int)) := by
  rcases h with ⟨_, rfl⟩ | ⟨a, c, rfl, hc⟩
  · simp at h0
  · obtain ⟨b, o, s⟩ := a
    have h1 := hc 0 (byteCell L[0]) (by simp [List.getElem?_eq_getElem h0])
    have h2 : (⟨b, o, s⟩ : Addr).add 0 = ⟨b, o, s⟩ := by unfold Addr.add; simp
    rw [h2] at h1
    have hs : s = none := World.cell?_spot h1
    subst hs
    refine ⟨b, o, c, rfl, World.block_lt_of_cell? _ _ h1, fun j hj => ?_⟩
    have := hc j (byteCell L[j]) (by simp [List.getElem?_eq_getElem hj])
    rw [rd_add _ _ rfl] at this
    exact this
theorem Rd.same {w w' : World} {v : Value} {L : List UInt8} (h : Rd w v L) {B : Nat} (hb : Below B w w') (hB : ∀ k, v.ownBlock = some k → 0 < L.length → k < B) : Rd w' v L := by
  rcases h with h | ⟨a, c, rfl, hc⟩
  · exact Or.inl h
  · refine Or.inr ⟨a, c, rfl, fun j u hu => ?_⟩
    have hl : 0 < L.length := by
      rcases Nat.eq_zero_or_pos L.length with e | e
      · have := List.eq_nil_of_length_eq_zero e; subst this; simp at hu
      · exact e
    have h1 := hc j u hu
    have h2 : (a.add j).block = a.block := by unfold Addr.add; split <;> rfl
    rw [hb.cell (p := a.add j) (by rw [h2]; exact hB a.block rfl hl)]
    exact h1
theorem Rd.lt {w : World} {v : Value} {L : List UInt8} (h : Rd w v L) : ∀ k, v.ownBlock = some k → 0 < L.length → k < w.heap.size := by
  intro k hk hl
  obtain ⟨b, o, c, rfl, hb, _⟩ := h.at hl
  simp [Value.ownBlock] at hk
  omega
theorem Rd.later {w w' : World} {v : Value} {L : List UInt8} (h : Rd w v L) (hb : Below w.heap.size w w') : Rd w' v L := h.same hb h.lt
/-- a text of these bytes -/
def strOf (L : List UInt8) : ByteArray := ⟨L.toArray⟩
theorem strOf_nums (L : List UInt8) : strOfNums (L.map fun c => (c.toNat : Int)) = strOf L := by
  unfold strOfNums strOf
  congr 2
  rw [List.map_map]
  conv => rhs; rw [← List.map_id L]
  apply List.map_congr_left
  intro c _
  simp
theorem strOf_toList (L : List UInt8) : (strOf L).toList = L := by rw [ByteArray.toList_eq]; rfl
theorem strOf_size (L : List UInt8) : (strOf L).size = L.length := rfl
/-- 'string(b)' -/
theorem Rd.conv {w : World} {v : Value} {L : List UInt8} (h : Rd w v L) : (convert 51 9 v).run Tryz.prog w = .ok (.string (strOf L)) w := by
  rcases h with ⟨rfl, rfl⟩ | ⟨a, c, rfl, hc⟩
  · exact run_convert_bytes_nil (P := Tryz.prog) w 51 5 Tryz.underlying51 Tryz.underlying5 0 0 9 Tryz.underlying9
  · have hl : (loadCells a L.length).run Tryz.prog w = .ok ((L.map fun c => (c.toNat : Int)).map (Value.int .u8)).toArray w := by
      have := run_loadCells_list (P := Tryz.prog) w a ((L.map fun c => (c.toNat : Int)).map (Value.int .u8)) (fun j u hj => hc j u (by rw [List.map_map] at hj; exact hj))
      simpa using this
    rw [run_convert_bytes_string w 51 9 5 _ L.length c Tryz.underlying51 Tryz.underlying5 Tryz.underlying9, run_bytesToString w _ L.length c _ hl, foldl_push_bytes]
    have e := strOf_nums L
    unfold strOfNums at e
    simp only [ByteArray.empty, ByteArray.emptyWithCapacity]
    rw [← e]
    simp
    rfl
/-- bytes that can be read put behind bytes in memory of their own -/
theorem wp_append_rd (w : World) {o : Oper} {a : Act} {K : Act → World → Prop} {Q : Exit → Act → World → Prop} (s x : Operand)
    (ho : o.op = .call { callee := .builtin .append, args := #[s, x], argTypes := #[51, 51] })
    (v : Value) (L : List UInt8) (lo : Nat) (hs : a.eval s = v) (hP : Bys w lo v L) (v2 : Value) (L2 : List UInt8) (hx : a.eval x = v2) (hP2 : Rd w v2 L2)
    (hlen : L.length + L2.length ≤ 100000000000) (hlo : lo ≤ w.heap.size)
    (h : ∀ a' c' w', Bys w' lo (.slice a' (L ++ L2).length c') (L ++ L2) → Grew w w' v (.slice a' (L ++ L2).length c') → K (a.put o.dst (.slice a' (L ++ L2).length c')) w') : o.wp Tryz.prog a w K Q := by
  obtain ⟨iI, hiI, hI0, hI1, hI2⟩ := info_parts Tryz.infoByte
  obtain ⟨v', w', hr, h2, h3⟩ : ∃ v' w', (Builtin.append_ #[51, 51] o.type #[v, v2]).run Tryz.prog w = .ok v' w' ∧ Bys w' lo v' (L ++ L2) ∧ Grew w w' v v' := by
    rcases hP2 with ⟨rfl, rfl⟩ | ⟨ad, cap, hv2, hc2⟩
    · exact ⟨v, w, run_append_owned_none w lo 51 o.type 5 iI 1 Tryz.underlying51 hiI v L.length _ hP, by simpa using hP, Grew.refl _ _⟩
    · subst hv2
      obtain ⟨v', w', hr, h2, h3, _, h5⟩ := run_append_own_at (P := Tryz.prog) w lo 51 o.type 5 iI (.int .u8 0) 1 1 Tryz.underlying51 hiI hI0 hI1 hI2 rfl (by decide) v L.length (L.map byteCell) hP ad L2.length cap (L2.map byteCell) (by simp) hc2 (fun u hu => by obtain ⟨q, _, rfl⟩ := List.mem_map.1 hu; rfl) (by unfold maxLen; omega) (by omega) hlo
      refine ⟨v', w', hr, ?_, h3, fun k hk => ?_⟩
      · show w'.ownsRow _ _ _ _ _ _
        rw [List.length_append, List.map_append]; exact h2
      · rcases h5 with h5 | h5
        · exact Or.inl (h5 ▸ hk)
        · rw [hk] at h5; cases h5; exact Or.inr (Nat.le_refl _)
  obtain ⟨a', c', hv'⟩ := own_slice h2
  subst hv'
  unfold Oper.wp execOp
  simp only [ho, resolve, invoke, builtin, Sem.run_bind, Sem.run_pure, Result.andThen_ok, List.map_toArray, List.map_cons, List.map_nil, hs, hx, hr]
  exact h a' c' w' h2 h3
theorem wpList_append_rd (w : World) {ops : Array Oper} {rest : List Oper} {o : Oper} {a : Act} {Q : Exit → Act → World → Prop} (hgd : o.guard = none) (s x : Operand)
    (ho : o.op = .call { callee := .builtin .append, args := #[s, x], argTypes := #[51, 51] })
    (v : Value) (L : List UInt8) (lo : Nat) (hs : a.eval s = v) (hP : Bys w lo v L) (v2 : Value) (L2 : List UInt8) (hx : a.eval x = v2) (hP2 : Rd w v2 L2) (M : List UInt8) (hM : L ++ L2 = M)
    (hlen : L.length + L2.length ≤ 100000000000) (hlo : lo ≤ w.heap.size)
    (h : ∀ a' c' w', Bys w' lo (.slice a' M.length c') M → Grew w w' v (.slice a' M.length c') → wpList Tryz.prog ops Q rest (a.put o.dst (.slice a' M.length c')) w') : wpList Tryz.prog ops Q (o :: rest) a w := by
  subst hM
  exact wpList_plain hgd fun _ hK => wp_append_rd w s x ho v L lo hs hP v2 L2 hx hP2 hlen hlo fun a' c' w' h2 h3 => hK _ _ (h a' c' w' h2 h3)
/-- a slice of bytes held against nil -/
theorem eql_nil (a : Option Addr) (l c : Nat) (w : World) : (binOp .eql 51 (.slice a l c) (.slice none 0 0)).run Tryz.prog w = .ok (.bool a.isNone) w := by
  have h1 : ∀ d : Nat, (Op.equalIn (d + 1) 51 (.slice a l c) (.slice none 0 0)).run Tryz.prog w = .ok a.isNone w := fun d => by cases a <;> simp [Op.equalIn, run_underlying Tryz.underlying51]
  have h2 : (Op.equal 51 (.slice a l c) (.slice none 0 0)).run Tryz.prog w = .ok a.isNone w := h1 9999
  simp [binOp, h2]
theorem neq_nil (a : Option Addr) (l c : Nat) (w : World) : (binOp .neq 51 (.slice a l c) (.slice none 0 0)).run Tryz.prog w = .ok (.bool (!a.isNone)) w := by
  have h1 : ∀ d : Nat, (Op.equalIn (d + 1) 51 (.slice a l c) (.slice none 0 0)).run Tryz.prog w = .ok a.isNone w := fun d => by cases a <;> simp [Op.equalIn, run_underlying Tryz.underlying51]
  have h2 : (Op.equal 51 (.slice a l c) (.slice none 0 0)).run Tryz.prog w = .ok a.isNone w := h1 9999
  simp [binOp, h2]
/-- bytes written out in a new block -/
theorem bys_lit (w : World) (L : List UInt8) (cs : Array Value) (h : cs.toList = L.map byteCell) (hm : L.length ≤ 100) : Bys (w.alloc (.cells cs 5)) w.heap.size (.slice (some ⟨w.heap.size, 0, none⟩) L.length L.length) L := by
  have := World.ownsRow_lit (base := w.heap.size) (e := 5) (size := 1) w cs L.length (Nat.le_refl _) (by unfold maxLen; omega) (by have := congrArg List.length h; simpa using this)
  rw [h] at this
  exact this
end Go.Proofs.YtlgjlfobbpgklaaGreatDoor
