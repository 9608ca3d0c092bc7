/- append(b, make([]byte, 125)...). -/
import Derived.Test.YtpnkhmijciopeaaGFrB
import Derived.Test.YtpnkhmijciopeaaCFrPick
import Derived.Lib.AppendZerosOnto
namespace Go.Proofs.Ytpnkhmijciopeaa
open Go.RowKit

theorem zeroCells_u8 (n : Nat) : (Builtin.zeroCells (Value.int .u8 0).cells n).toList = (List.replicate n (0 : UInt8)).map byteCell := by
  apply List.ext_getElem
  · simp [Builtin.zeroCells, Value.cells]
  · intro i h1 h2
    simp [Builtin.zeroCells, Value.cells, byteCell, Nat.mod_one]
theorem run_append_room_zeros {P : Program} (w : World) (t tn ty e : TypeId) (i : TypeInfo) (z : Value) (kq kn : IntKind) (ht : P.underlying t = some (.slice e)) (htn : P.underlying tn = some (.int kn)) (hi : P.info? e = some i) (hz : i.zero = some z)
    (g sLen sCap : Nat) (cur : Array Value) (hg : w.heap[g]? = some (.cells cur e (0, 0))) (k : Nat) (h0 : 0 < k) (hs : i.size = 1) (hb : i.bytes = 1) (hk : k ≤ 1000000) (news : List Value) (hnews : (Builtin.zeroCells z.cells k).toList = news) (hnl : news.length = k) (h1 : ∀ u ∈ news, u.oneCell' = true)
    (hroom : sLen + k ≤ sCap) (hfit : sLen + k ≤ cur.size) :
    (Builtin.append_ #[t, tn] ty #[.slice (some ⟨g, 0, none⟩) sLen sCap, .int kq k]).run P w =
      .ok (.slice (some ⟨g, 0, none⟩) (sLen + k) sCap) (w.setRow g (cur.toList.take sLen ++ news ++ cur.toList.drop (sLen + news.length)).toArray) := by
  have hk0 : k ≠ 0 := by omega
  have hw : IntKind.i64.wrap (k : Int) = k := by rw [IntKind.wrap_i64]; omega
  have h48i : ¬ (281474976710656 < (k : Int)) := by omega
  have hneg : ¬ ((k : Int) < 0) := by omega
  have hst := run_storeCells_at P g sLen e news 0 cur w hg (by omega) h1
  simp only [Nat.add_zero] at hst
  simp [Builtin.append_, run_underlying ht, run_underlying htn, sizeOf, typeInfo, zeroValue, hi, hz, hs, hb, asInt, asIntOf, hw, hk0, hneg, h48i, hroom, hnews, Addr.add_lit, hst]
theorem run_append_zeros (w : World) (lo : Nat) (ty : TypeId) (v : Value) (L : List UInt8) (hP : Bys w lo v L) (h0 : 0 < L.length) (hlen : L.length ≤ 1000000000) (hlo : lo ≤ w.heap.size) (k : Nat) (hk : 0 < k) (hk2 : k ≤ 1000000) :
    ∃ v' w', (Builtin.append_ #[24, 3] ty #[v, .int .i64 k]).run Try.prog w = .ok v' w' ∧ Bys w' lo v' (L ++ List.replicate k 0) ∧ Grew w w' v v' := by
  obtain ⟨iI, hiI, hI0, hI1, hI2⟩ := info_parts Try.infoByte
  have hl2 : (L ++ List.replicate k (0 : UInt8)).length = L.length + k := by simp
  have hzl : ((List.replicate k (0 : UInt8)).map byteCell).length = k := by simp
  rcases hP.2 with ⟨_, h⟩ | ⟨g, cap, cur, rfl, hbg, hg, hnc, hcm, hcs, htake⟩
  · omega
  · rw [Nat.mul_one] at hcs htake
    by_cases hroom : L.length + k ≤ cap
    · have hr := run_append_room_zeros (P := Try.prog) w 24 3 ty 5 iI (.int .u8 0) .i64 .i64 Try.underlying24 Try.underlying3 hiI hI0 g L.length cap cur hg k hk hI1 hI2 hk2 _ (zeroCells_u8 k) hzl (fun u hu => by obtain ⟨q, _, rfl⟩ := List.mem_map.1 hu; rfl) hroom (by omega)
      refine ⟨_, _, hr, ⟨by simp, .inr ⟨g, cap, _, by rw [hl2], hbg, setRow_heap w g cur _ 5 _ hg, by omega, hcm, ?_, ?_⟩⟩, ⟨rfl, rfl, rfl, by simp, fun q _ hq => setRow_other w g q _ (fun e => hq (by simp [Value.ownBlock, e]))⟩, fun q hq => Or.inl hq⟩
      · simp only [List.size_toArray, List.length_append, List.length_take, List.length_drop, Array.length_toList, hzl]
        omega
      · rw [hl2, Nat.mul_one, htake, List.map_append]
        have e : (L.map byteCell ++ (List.replicate k (0 : UInt8)).map byteCell).length = L.length + k := by rw [List.length_append, hzl, List.length_map]
        rw [show (L.map byteCell ++ (List.replicate k (0 : UInt8)).map byteCell ++ cur.toList.drop (L.length + ((List.replicate k (0 : UInt8)).map byteCell).length)).toArray.toList = (L.map byteCell ++ (List.replicate k (0 : UInt8)).map byteCell) ++ cur.toList.drop (L.length + ((List.replicate k (0 : UInt8)).map byteCell).length) from rfl, ← e]
        exact List.take_left
    · have hold : (Builtin.firstCells iI.size L.length (.slice (some ⟨g, 0, none⟩) L.length cap)).run Try.prog w.drew = .ok (L.map byteCell).toArray w.drew :=
        run_firstCells_some (P := Try.prog) w.drew iI.size L.length ⟨g, 0, none⟩ L.length cap (L.map byteCell) (by rw [hI1]; simp) (fun j u hu => (hP.cells (g := g) rfl j u hu))
      have hr := Lib.run_append_grow_zeros (P := Try.prog) w 24 3 ty 5 iI (.int .u8 0) .i64 .i64 Try.underlying24 Try.underlying3 hiI hI0 (some ⟨g, 0, none⟩) L.length cap (L.map byteCell) hold k hk (by omega) (by omega) (by omega) (by rw [hI2]; omega) (by rw [hI2, Nat.mul_one]; have := nextslicecap_le (need := L.length + k) (old := cap) (by omega); omega)
      refine ⟨_, _, hr, ⟨by simp, .inr ⟨w.heap.size, _, _, by rw [hl2], hlo, heap_alloc_new w.drew _, by rw [hl2]; exact grownCap_ge _ _ _ _, grownCap_le_maxLen _ _ _ _ (by unfold maxLen; omega), ?_, ?_⟩⟩, ⟨rfl, rfl, rfl, by simp, fun q hq _ => Below.heap_alloc w.drew _ q hq⟩, fun q hq => Or.inr ?_⟩
      · have := grownCap_ge w (L.length + k) cap 5
        simp only [Array.size_append, List.size_toArray, size_zeroCells, List.length_map, Value.cells, List.size_toArray, List.length_singleton]
        omega
      · rw [hl2, Nat.mul_one, Array.toList_append, Array.toList_append, List.map_append, zeroCells_u8]
        have e : (L.map byteCell ++ (List.replicate k (0 : UInt8)).map byteCell).length = L.length + k := by rw [List.length_append, hzl, List.length_map]
        rw [← e]
        exact List.take_left
      · simp [Value.ownBlock] at hq; omega
theorem wpList_append_zeros (w : World) {ops : Array Oper} {rest : List Oper} {o : Oper} {a : Act} {Q : Exit → Act → World → Prop} (hgd : o.guard = none) (s x : Operand)
    (ho : o.op = .call { callee := .builtin .append, args := #[s, x], argTypes := #[24, 3] })
    (v : Value) (L : List UInt8) (lo : Nat) (hs : a.eval s = v) (hP : Bys w lo v L) (k : Nat) (hx : a.eval x = .int .i64 k) (hk : 0 < k) (hk2 : k ≤ 1000000) (h0 : 0 < L.length) (hlen : L.length ≤ 1000000000) (hlo : lo ≤ w.heap.size) (M : List UInt8) (hM : L ++ List.replicate k 0 = M)
    (h : ∀ a' c' w', Bys w' lo (.slice a' M.length c') M → Grew w w' v (.slice a' M.length c') → wpList Try.prog ops Q rest (a.put o.dst (.slice a' M.length c')) w') : wpList Try.prog ops Q (o :: rest) a w := by
  subst hM
  obtain ⟨v', w', hr, h2, h3⟩ := run_append_zeros w lo o.type v L hP h0 hlen hlo k hk hk2
  obtain ⟨a', c', hv'⟩ := own_slice h2
  subst hv'
  refine wpList_plain hgd fun _ hK => ?_
  unfold Oper.wp execOp
  simp only [ho, resolve, invoke, builtin, Sem.run_bind, Sem.run_pure, Result.andThen_ok, List.map_toArray, List.map_cons, List.map_nil, hs, hx, hr]
  exact hK _ _ (h a' c' w' h2 h3)
end Go.Proofs.Ytpnkhmijciopeaa
