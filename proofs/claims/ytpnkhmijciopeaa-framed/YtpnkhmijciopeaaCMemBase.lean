/- Bytes in memory, and what is put behind them: for the program's texts, the reference's and the statements'. -/
import Derived.Test.YtpnkhmijciopeaaRows
import Derived.WalkKit
import Derived.WalkSpells
import Derived.WalkLawsBesides
import Derived.Deep.LoopGhost
import Derived.Deep.QuietTactic
import Derived.BigQuiet
import Derived.Deep.AppendLies
import Derived.Maps.AppendAt
namespace Go.Proofs.Ytpnkhmijciopeaa
open Go.RowKit

theorem ret_int {k : IntKind} {a b : Int} (h : a = b) : Ending.returned (.int k a) = .returned (.int k b) := by rw [h]
theorem ret_bool {a b : Bool} (h : a = b) : Ending.returned (.bool a) = .returned (.bool b) := by rw [h]
theorem hid {p : Prop} (h : p) : Hid p := h
theorem bcell {W w1 : World} (hb : Below W.heap.size W w1) : (∀ b o, b < W.heap.size → w1.cell? ⟨b, o, none⟩ = W.cell? ⟨b, o, none⟩) ∧ (∀ b o, b < W.heap.size → w1.frozen? ⟨b, o, none⟩ = W.frozen? ⟨b, o, none⟩) :=
  ⟨fun b o h => hb.cell (p := ⟨b, o, none⟩) h, fun b o h => hb.frozen (p := ⟨b, o, none⟩) h⟩

theorem own_same {w w' : World} {lo : Nat} {e : TypeId} {size n : Nat} {v : Value} {xs : List Value} (h : w.ownsRow lo e size v n xs) (hs : ∀ g, v.ownBlock = some g → w'.heap[g]? = w.heap[g]?) : w'.ownsRow lo e size v n xs := by
  obtain ⟨h1, h2⟩ := h
  refine ⟨h1, ?_⟩
  rcases h2 with h2 | ⟨g, cap, cur, hv, hg, hh, r⟩
  · exact Or.inl h2
  · exact Or.inr ⟨g, cap, cur, hv, hg, by rw [hs g (by rw [hv]; rfl)]; exact hh, r⟩
theorem own_slice {w : World} {lo : Nat} {e : TypeId} {size n : Nat} {v : Value} {xs : List Value} (h : w.ownsRow lo e size v n xs) : ∃ a c, v = .slice a n c := by
  rcases h.2 with ⟨rfl, rfl⟩ | ⟨g, cap, cur, rfl, _⟩
  · exact ⟨none, 0, rfl⟩
  · exact ⟨_, _, rfl⟩

theorem own_type {w : World} {lo : Nat} {e : TypeId} {size n : Nat} {v : Value} {xs : List Value} (h : w.ownsRow lo e size v n xs) {g : Nat} (hg : v.ownBlock = some g) : ∃ cur, w.heap[g]? = some (.cells cur e (0, 0)) := by
  rcases h.2 with ⟨rfl, _⟩ | ⟨g', cap, cur, rfl, _, hh, _⟩
  · simp [Value.ownBlock] at hg
  · simp [Value.ownBlock] at hg; subst hg; exact ⟨cur, hh⟩
theorem own_ne {w : World} {lo lo' : Nat} {e e' : TypeId} {size size' n n' : Nat} {v v' : Value} {xs xs' : List Value} (h : w.ownsRow lo e size v n xs) (h' : w.ownsRow lo' e' size' v' n' xs') (he : e ≠ e') {g g' : Nat} (hg : v.ownBlock = some g) (hg' : v'.ownBlock = some g') : g ≠ g' := by
  intro hh; subst hh
  obtain ⟨c, hc⟩ := own_type h hg
  obtain ⟨c', hc'⟩ := own_type h' hg'
  rw [hc] at hc'; simp at hc'; exact he hc'.2
def byteCell (c : UInt8) : Value := .int .u8 c.toNat
/-- bytes that lie in memory of their own -/
def Bys (w : World) (lo : Nat) (v : Value) (L : List UInt8) : Prop := w.ownsRow lo 5 1 v L.length (L.map byteCell)
theorem Bys.same {w w' : World} {lo : Nat} {v : Value} {L : List UInt8} (h : Bys w lo v L) (hb : Below w.heap.size w w') : Bys w' lo v L :=
  own_same h (fun g hg => hb.block g (h.lt g hg).2)
/-- of what was there only the row of v has turned; v' lies there or in new memory -/
structure Grew (w w' : World) (v v' : Value) : Prop where
  g : w.grownBy w' v.ownBlock
  b : ∀ k, v'.ownBlock = some k → v.ownBlock = some k ∨ w.heap.size ≤ k
theorem Grew.refl (w : World) (v : Value) : Grew w w v v := ⟨World.grownBy.refl _ _, fun _ hk => Or.inl hk⟩
theorem Grew.trans {w w1 w2 : World} {v v1 v2 : Value} (h : Grew w w1 v v1) (k : Grew w1 w2 v1 v2) : Grew w w2 v v2 := by
  refine ⟨⟨k.g.os.trans h.g.os, k.g.tape.trans h.g.tape, k.g.output.trans h.g.output, Nat.le_trans h.g.size k.g.size, fun q hq hne => ?_⟩, fun q hq => ?_⟩
  · rw [k.g.block q (Nat.lt_of_lt_of_le hq h.g.size) (fun e => ?_), h.g.block q hq hne]
    rcases h.b q e.symm with e' | e'
    · exact hne e'.symm
    · omega
  · rcases k.b q hq with e | e
    · exact h.b q e
    · exact Or.inr (Nat.le_trans h.g.size e)
theorem Grew.call {w w' : World} {v : Value} (hb : Below w.heap.size w w') : Grew w w' v v := ⟨⟨hb.os, hb.tape, hb.output, hb.size, fun k hk _ => hb.block k hk⟩, fun _ hk => Or.inl hk⟩
theorem Grew.below {w w' : World} {v v' : Value} {B : Nat} (h : Grew w w' v v') (hB : ∀ k, v.ownBlock = some k → B ≤ k) (hw : B ≤ w.heap.size) : Below B w w' :=
  (Below.refl B w).grown h.g hw hB
theorem Try.infoByte : (Try.prog.info? 5).map (fun i => (i.zero, i.size, i.bytes)) = some (some (.int .u8 0), 1, 1) := by kernel_rfl
theorem wp_append_by (w : World) {o : Oper} {a : Act} {K : Act → World → Prop} {Q : Exit → Act → World → Prop} (s x : Operand)
    (ho : o.op = .call { callee := .builtin .append, args := #[s, x], argTypes := #[24, 24] })
    (v : Value) (L : List UInt8) (lo : Nat) (hs : a.eval s = v) (hP : Bys w lo v L) (v2 : Value) (L2 : List UInt8) (lo2 : Nat) (hx : a.eval x = v2) (hP2 : Bys w lo2 v2 L2)
    (hlen : L.length + L2.length ≤ 100000000000) (hlo : lo ≤ w.heap.size)
    (h : ∀ a' c' w', Bys w' lo (.slice a' (L ++ L2).length c') (L ++ L2) → Grew w w' v (.slice a' (L ++ L2).length c') → K (a.put o.dst (.slice a' (L ++ L2).length c')) w') : o.wp Try.prog a w K Q := by
  obtain ⟨iI, hiI, hI0, hI1, hI2⟩ := info_parts Try.infoByte
  obtain ⟨v', w', hr, h2, h3⟩ : ∃ v' w', (Builtin.append_ #[24, 24] o.type #[v, v2]).run Try.prog w = .ok v' w' ∧ Bys w' lo v' (L ++ L2) ∧ Grew w w' v v' := by
    rcases hP2.2 with ⟨rfl, h0⟩ | ⟨g, cap, cur, hv2, _⟩
    · have hL2 : L2 = [] := List.eq_nil_of_length_eq_zero h0
      subst hL2
      exact ⟨v, w, run_append_owned_none w lo 24 o.type 5 iI 1 Try.underlying24 hiI v L.length _ hP, by simpa using hP, Grew.refl _ _⟩
    · subst hv2
      obtain ⟨v', w', hr, h2, h3, _, h5⟩ := run_append_own_at (P := Try.prog) w lo 24 o.type 5 iI (.int .u8 0) 1 1 Try.underlying24 hiI hI0 hI1 hI2 rfl (by decide) v L.length (L.map byteCell) hP ⟨g, 0, none⟩ L2.length cap (L2.map byteCell) (by simp) (hP2.cells (g := g) rfl) (fun u hu => by obtain ⟨q, _, rfl⟩ := List.mem_map.1 hu; rfl) (by unfold maxLen; omega) (by omega) hlo
      refine ⟨v', w', hr, ?_, h3, fun k hk => ?_⟩
      · show w'.ownsRow _ _ _ _ _ _
        rw [List.length_append, List.map_append]; exact h2
      · rcases h5 with h5 | h5
        · exact Or.inl (h5 ▸ hk)
        · rw [hk] at h5; cases h5; exact Or.inr (Nat.le_refl _)
  obtain ⟨a', c', hv'⟩ := own_slice h2
  subst hv'
  unfold Oper.wp execOp
  simp only [ho, resolve, invoke, builtin, Sem.run_bind, Sem.run_pure, Result.andThen_ok, List.map_toArray, List.map_cons, List.map_nil, hs, hx, hr]
  exact h a' c' w' h2 h3
theorem wpList_append_by (w : World) {ops : Array Oper} {rest : List Oper} {o : Oper} {a : Act} {Q : Exit → Act → World → Prop} (hgd : o.guard = none) (s x : Operand)
    (ho : o.op = .call { callee := .builtin .append, args := #[s, x], argTypes := #[24, 24] })
    (v : Value) (L : List UInt8) (lo : Nat) (hs : a.eval s = v) (hP : Bys w lo v L) (v2 : Value) (L2 : List UInt8) (lo2 : Nat) (hx : a.eval x = v2) (hP2 : Bys w lo2 v2 L2)
    (hlen : L.length + L2.length ≤ 100000000000) (hlo : lo ≤ w.heap.size)
    (h : ∀ a' c' w', Bys w' lo (.slice a' (L ++ L2).length c') (L ++ L2) → Grew w w' v (.slice a' (L ++ L2).length c') → wpList Try.prog ops Q rest (a.put o.dst (.slice a' (L ++ L2).length c')) w') : wpList Try.prog ops Q (o :: rest) a w :=
  wpList_plain hgd fun _ hK => wp_append_by w s x ho v L lo hs hP v2 L2 lo2 hx hP2 hlen hlo fun a' c' w' h2 h3 => hK _ _ (h a' c' w' h2 h3)
theorem bys_one (w : World) (c : UInt8) (z : Int) (hz : z = (c.toNat : Int)) : Bys (w.alloc (.cells #[.int .u8 z] 5)) w.heap.size (.slice (some ⟨w.heap.size, 0, none⟩) 1 1) [c] := by
  subst hz
  exact World.ownsRow_lit (base := w.heap.size) (e := 5) (size := 1) w #[.int .u8 c.toNat] 1 (Nat.le_refl _) (by unfold maxLen; omega) rfl

/-- cells put behind a row in memory of its own, of whatever elements -/
theorem wp_append_gen (w : World) {o : Oper} {a : Act} {K : Act → World → Prop} {Q : Exit → Act → World → Prop} (s x : Operand) (t e : TypeId) (z : Value) (size bytes : Nat)
    (ho : o.op = .call { callee := .builtin .append, args := #[s, x], argTypes := #[t, t] }) (ht : Try.prog.underlying t = some (.slice e)) (hi : (Try.prog.info? e).map (fun i => (i.zero, i.size, i.bytes)) = some (some z, size, bytes))
    (hzs : z.cells.size = size) (hsz : 0 < size) (v : Value) (n : Nat) (xs : List Value) (lo : Nat) (hs : a.eval s = v) (hP : w.ownsRow lo e size v n xs) (ad : Addr) (m c : Nat) (news : List Value) (hx : a.eval x = .slice (some ad) m c)
    (hl : news.length = m * size) (hnews : ∀ j u, news[j]? = some u → w.cell? (ad.add j) = some u) (h1 : ∀ u ∈ news, u.oneCell' = true) (hlen : n + m ≤ maxLen) (hbytes : (n + m) * bytes ≤ 140737488355328) (hlo : lo ≤ w.heap.size)
    (h : ∀ a' c' w', w'.ownsRow lo e size (.slice a' (n + m) c') (n + m) (xs ++ news) → Grew w w' v (.slice a' (n + m) c') → K (a.put o.dst (.slice a' (n + m) c')) w') : o.wp Try.prog a w K Q := by
  obtain ⟨iI, hiI, hI0, hI1, hI2⟩ := info_parts hi
  obtain ⟨v', w', hr, h2, h3, _, h5⟩ := run_append_own_at (P := Try.prog) w lo t o.type e iI z size bytes ht hiI hI0 hI1 hI2 hzs hsz v n xs hP ad m c news hl hnews h1 hlen hbytes hlo
  obtain ⟨a', c', hv'⟩ := own_slice h2
  subst hv'
  have hG : Grew w w' v (.slice a' (n + m) c') := ⟨h3, fun k hk => by
    rcases h5 with h5 | h5
    · exact Or.inl (h5 ▸ hk)
    · rw [hk] at h5; cases h5; exact Or.inr (Nat.le_refl _)⟩
  unfold Oper.wp execOp
  simp only [ho, resolve, invoke, builtin, Sem.run_bind, Sem.run_pure, Result.andThen_ok, List.map_toArray, List.map_cons, List.map_nil, hs, hx, hr]
  exact h a' c' w' h2 hG
theorem wpList_append_gen (w : World) {ops : Array Oper} {rest : List Oper} {o : Oper} {a : Act} {Q : Exit → Act → World → Prop} (hgd : o.guard = none) (s x : Operand) (t e : TypeId) (z : Value) (size bytes : Nat)
    (ho : o.op = .call { callee := .builtin .append, args := #[s, x], argTypes := #[t, t] }) (ht : Try.prog.underlying t = some (.slice e)) (hi : (Try.prog.info? e).map (fun i => (i.zero, i.size, i.bytes)) = some (some z, size, bytes))
    (hzs : z.cells.size = size) (hsz : 0 < size) (v : Value) (n : Nat) (xs : List Value) (lo : Nat) (hs : a.eval s = v) (hP : w.ownsRow lo e size v n xs) (ad : Addr) (m c : Nat) (news : List Value) (hx : a.eval x = .slice (some ad) m c)
    (hl : news.length = m * size) (hnews : ∀ j u, news[j]? = some u → w.cell? (ad.add j) = some u) (h1 : ∀ u ∈ news, u.oneCell' = true) (N : Nat) (hN : n + m = N) (X : List Value) (hX : xs ++ news = X) (hlen : n + m ≤ maxLen) (hbytes : (n + m) * bytes ≤ 140737488355328) (hlo : lo ≤ w.heap.size)
    (h : ∀ a' c' w', w'.ownsRow lo e size (.slice a' N c') N X → Grew w w' v (.slice a' N c') → wpList Try.prog ops Q rest (a.put o.dst (.slice a' N c')) w') : wpList Try.prog ops Q (o :: rest) a w := by
  subst hN hX
  exact wpList_plain hgd fun _ hK => wp_append_gen w s x t e z size bytes ho ht hi hzs hsz v n xs lo hs hP ad m c news hx hl hnews h1 hlen hbytes hlo fun a' c' w' h2 h3 => hK _ _ (h a' c' w' h2 h3)
end Go.Proofs.Ytpnkhmijciopeaa
