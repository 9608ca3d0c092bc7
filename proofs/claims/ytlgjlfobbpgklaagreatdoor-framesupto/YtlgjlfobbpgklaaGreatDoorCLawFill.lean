/- Lists that are their owner's: bytes that are all one mark, and more of that mark put behind them. -/
import Derived.Test.YtlgjlfobbpgklaaGreatDoorCFrLeaf
namespace Go.Proofs.YtlgjlfobbpgklaaGreatDoor
open Go.RowKit

/-- what holds the mark goes on holding it -/
def KeepM (m : UInt8) (w w' : World) : Prop := ∀ ad, w.cell? ad = some (byteCell m) → w'.cell? ad = some (byteCell m)
theorem KeepM.trans {m : UInt8} {a b c : World} (h : KeepM m a b) (k : KeepM m b c) : KeepM m a c := fun ad hd => k ad (h ad hd)
theorem KeepM.refl (m : UInt8) (w : World) : KeepM m w w := fun _ h => h
theorem keepM_below {m : UInt8} {w w' : World} (hb : Below w.heap.size w w') : KeepM m w w' := fun ad hd => (hb.cell (p := ad) (World.block_lt_of_cell? _ _ hd)).trans hd
theorem Rd.keep {m : UInt8} {n : Nat} {w w' : World} {v : Value} (h : Rd w v (List.replicate n m)) (k : KeepM m w w') : Rd w' v (List.replicate n m) := by
  rcases h with h | ⟨a, c, hv, hc⟩
  · exact Or.inl h
  · refine Or.inr ⟨a, c, hv, fun j u hu => ?_⟩
    have h1 := hc j u hu
    have e : u = byteCell m := by
      rw [List.map_replicate] at hu
      have := List.mem_of_getElem? hu
      simpa using (List.mem_replicate.1 this).2
    subst e
    exact k _ h1
theorem run_append_fill (w : World) (lo : Nat) (ty : TypeId) (v : Value) (n k : Nat) (m : UInt8) (hP : Bys w lo v (List.replicate n m)) (hk : 0 < k) (ad : Addr) (c : Nat) (hnews : ∀ j u, ((List.replicate k m).map byteCell)[j]? = some u → w.cell? (ad.add j) = some u)
    (hlen : n + k ≤ 100000000000) (hlo : lo ≤ w.heap.size) :
    ∃ v' w', (Builtin.append_ #[51, 51] ty #[v, .slice (some ad) k c]).run Tryz.prog w = .ok v' w' ∧ Bys w' lo v' (List.replicate (n + k) m) ∧ (KeepM m w w' ∧ Bys w' lo v (List.replicate n m)) ∧ Grew w w' v v' := by
  obtain ⟨iI, hiI, hI0, hI1, hI2⟩ := info_parts Tryz.infoByte
  have hn : (List.replicate n m).length = n := by simp
  have hkl : ((List.replicate k m).map byteCell).length = k := by simp
  have h1 : ∀ u ∈ (List.replicate k m).map byteCell, u.oneCell' = true := fun u hu => by obtain ⟨q, _, rfl⟩ := List.mem_map.1 hu; rfl
  have hP' : w.ownsRow lo 5 1 v n ((List.replicate n m).map byteCell) := by have := hP; unfold Bys at this; rwa [hn] at this
  obtain ⟨v', w', hr, h2, h3, _, h5⟩ := run_append_own_at (P := Tryz.prog) w lo 51 ty 5 iI (.int .u8 0) 1 1 Tryz.underlying51 hiI hI0 hI1 hI2 rfl (by decide) v n _ hP' ad k c ((List.replicate k m).map byteCell) (by simp) hnews h1 (by unfold maxLen; omega) (by omega) hlo
  refine ⟨v', w', hr, ?_, ?_, h3, fun q hq => ?_⟩
  · show w'.ownsRow _ _ _ _ _ _
    rw [List.length_replicate, ← List.replicate_append_replicate, List.map_append]
    exact h2
  · have alloc_keep : ∀ o, KeepM m w (w.drew.alloc o) ∧ Bys (w.drew.alloc o) lo v (List.replicate n m) := fun o => ⟨keepM_below (((Below.refl _ _).drew).alloc (Nat.le_refl _) o), hP.same (((Below.refl _ _).drew).alloc (Nat.le_refl _) o)⟩
    rcases hP'.2 with ⟨rfl, h0⟩ | ⟨g, cap, cur, rfl, hbg, hg, hnc, hcm, hcs, htake⟩
    · have hr2 := run_append_nil (P := Tryz.prog) w 51 ty 5 iI (.int .u8 0) Tryz.underlying51 hiI hI0 ad k c _ (by rw [hI1]; simp) hnews hk (by omega) (by rw [hI2]; omega)
      rw [hr2] at hr
      injection hr with e1 e2
      rw [← e2]
      exact alloc_keep _
    · rw [Nat.mul_one] at hcs htake
      by_cases hroom : n + k ≤ cap
      · have hr2 := run_append_room (P := Tryz.prog) w 51 ty 5 iI Tryz.underlying51 hiI g n cap cur hg ad k c _ (by rw [hI1]; simp) hnews h1 hroom (by rw [hI1]; simp; omega)
        rw [hr2] at hr
        injection hr with e1 e2
        rw [← e2, hI1, Nat.mul_one]
        refine ⟨?_, ⟨by simp, .inr ⟨g, cap, _, by rw [hn], hbg, setRow_heap w g cur _ 5 _ hg, by rw [hn]; exact hnc, hcm, ?_, ?_⟩⟩⟩
        case refine_2 =>
          simp only [List.size_toArray, List.length_append, List.length_take, List.length_drop, Array.length_toList, hkl]
          omega
        case refine_3 =>
          rw [hn, Nat.mul_one]
          show ((cur.toList.take n ++ (List.replicate k m).map byteCell) ++ cur.toList.drop (n + ((List.replicate k m).map byteCell).length)).take n = _
          rw [List.append_assoc, List.take_append_of_le_length (by rw [List.length_take, Array.length_toList]; omega), List.take_take, Nat.min_self, htake]
        intro x hx
        obtain ⟨xb, xo, xs⟩ := x
        have hs : xs = none := World.cell?_spot hx
        subst hs
        by_cases hxb : xb = g
        · subst hxb
          rw [cell_of_row w xb xo cur _ _ hg] at hx
          rw [cell_of_row _ xb xo _ _ _ (setRow_heap w xb cur _ 5 _ hg)]
          have hx' : cur.toList[xo]? = some (byteCell m) := by simpa using hx
          have hxl : xo < cur.toList.length := (List.getElem?_eq_some_iff.1 hx').1
          have goal : (cur.toList.take n ++ (List.replicate k m).map byteCell ++ cur.toList.drop (n + ((List.replicate k m).map byteCell).length))[xo]? = some (byteCell m) := by
            rw [hkl]
            have htl : (cur.toList.take n).length = n := by rw [List.length_take]; simp at hxl ⊢; omega
            rcases Nat.lt_or_ge xo n with h | h
            · rw [List.append_assoc, List.getElem?_append_left (by omega), List.getElem?_take_of_lt h]; exact hx'
            · rcases Nat.lt_or_ge xo (n + k) with h' | h'
              · rw [List.getElem?_append_left (by rw [List.length_append, htl, hkl]; omega), List.getElem?_append_right (by omega), htl, List.getElem?_map, List.getElem?_replicate]
                rw [if_pos (by omega)]; rfl
              · rw [List.getElem?_append_right (by rw [List.length_append, htl, hkl]; omega), List.length_append, htl, hkl, List.getElem?_drop, show n + k + (xo - (n + k)) = xo by omega]
                exact hx'
          simpa using goal
        · rw [World.cell?_of_block (w := w) (a := ⟨xb, xo, none⟩) (setRow_other w g xb _ hxb)]
          exact hx
      · have hr2 := run_append_grow (P := Tryz.prog) w 51 ty 5 iI (.int .u8 0) Tryz.underlying51 hiI hI0 ⟨g, 0, none⟩ n cap ((List.replicate n m).map byteCell) (by rw [hI1]; simp) (fun j u hu => hP'.cells (g := g) rfl j u hu) ad k c _ (by rw [hI1]; simp) hnews (by omega) (by omega) (by rw [hI2, Nat.mul_one]; have := nextslicecap_le (need := n + k) (old := cap) (by omega); omega)
        rw [hr2] at hr
        injection hr with e1 e2
        rw [← e2]
        exact alloc_keep _
  · rcases h5 with h5 | h5
    · exact Or.inl (h5 ▸ hq)
    · rw [hq] at h5; cases h5; exact Or.inr (Nat.le_refl _)
theorem wpList_append_fill (w : World) {ops : Array Oper} {rest : List Oper} {o : Oper} {a : Act} {Q : Exit → Act → World → Prop} (hgd : o.guard = none) (s x : Operand)
    (ho : o.op = .call { callee := .builtin .append, args := #[s, x], argTypes := #[51, 51] })
    (v : Value) (n k : Nat) (m : UInt8) (lo : Nat) (hs : a.eval s = v) (hP : Bys w lo v (List.replicate n m)) (hk : 0 < k) (ad : Addr) (c : Nat) (hx : a.eval x = .slice (some ad) k c) (hnews : ∀ j u, ((List.replicate k m).map byteCell)[j]? = some u → w.cell? (ad.add j) = some u)
    (hlen : n + k ≤ 100000000000) (hlo : lo ≤ w.heap.size) (N : Nat) (hN : n + k = N)
    (h : ∀ a' c' w', Bys w' lo (.slice a' N c') (List.replicate N m) → KeepM m w w' → Bys w' lo v (List.replicate n m) → Grew w w' v (.slice a' N c') → wpList Tryz.prog ops Q rest (a.put o.dst (.slice a' N c')) w') : wpList Tryz.prog ops Q (o :: rest) a w := by
  subst hN
  obtain ⟨v', w', hr, h2, h3, h4⟩ := run_append_fill w lo o.type v n k m hP hk ad c hnews hlen hlo
  obtain ⟨a', c', hv'⟩ := own_slice h2
  rw [List.length_replicate] at hv'
  subst hv'
  refine wpList_plain hgd fun _ hK => ?_
  unfold Oper.wp execOp
  simp only [ho, resolve, invoke, builtin, Sem.run_bind, Sem.run_pure, Result.andThen_ok, List.map_toArray, List.map_cons, List.map_nil, hs, hx, hr]
  exact hK _ _ (h a' c' w' h2 h3.1 h3.2 h4)
end Go.Proofs.YtlgjlfobbpgklaaGreatDoor
