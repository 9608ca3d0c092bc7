/- Package courierref: Feed. -/
import Derived.Test.YtlgjlfobbpgklaaGreatDoorCRfWhole
import Derived.Test.YtlgjlfobbpgklaaGreatDoorCLawOwn
namespace Go.Proofs.YtlgjlfobbpgklaaGreatDoor
open Go.RowKit

/-- the deframer of the reference, in memory -/
def RDef (w : World) (lo eb : Nat) (av : Value) (A : List UInt8) : Prop :=
  w.heap[eb]? = some (.cells #[av, .int .i64 ((feedF sumB (.held []) A).1.length : Int), .bool (stBadB (feedF sumB (.held []) A).2)] 98 (0, 0)) ∧ Bys w lo av A
/-- lists of bytes that can be read -/
def RdL (w : World) (v : Value) (Ls : List (List UInt8)) : Prop :=
  ∃ a c, v = .slice a Ls.length c ∧ (0 < Ls.length → ∃ b o, a = some ⟨b, o, none⟩ ∧ b < w.heap.size ∧ ∀ i (hi : i < Ls.length), ∃ u, w.cell? ⟨b, o + i, none⟩ = some u ∧ Rd w u Ls[i])
theorem Turn.trans' {w w1 w2 : World} {S S' : Nat → Prop} (h : Turn w w1 S) (k : Turn w1 w2 S') : Turn w w2 (fun q => S' q ∨ S q) :=
  ⟨k.os.trans h.os, k.tape.trans h.tape, k.output.trans h.output, Nat.le_trans h.size k.size, fun q hq hn => (k.block q (Nat.lt_of_lt_of_le hq h.size) (fun hs => hn (Or.inl hs))).trans (h.block q hq (fun hs => hn (Or.inr hs)))⟩
theorem own_cap' {w : World} {lo : Nat} {e : TypeId} {size n m c : Nat} {a : Option Addr} {xs : List Value} (h : w.ownsRow lo e size (.slice a m c) n xs) : m = n ∧ n ≤ c := by
  rcases h.2 with ⟨h1, rfl⟩ | ⟨g, cap, cur, h1, _, _, h2, _⟩
  · simp at h1; omega
  · simp at h1; omega
theorem rd_ne {w : World} {v : Value} {L : List UInt8} (h : Rd w v L) (h0 : 0 < L.length) {eb : Nat} {av : Value} {g : Int} {o : Bool} {T : TypeId} (he : w.heap[eb]? = some (.cells #[av, .int .i64 g, .bool o] T (0, 0))) (ha : ∀ n, av ≠ .int .u8 n) : ∀ k, v.ownBlock = some k → k ≠ eb := by
  intro k hk e
  subst e
  obtain ⟨b, off, c, rfl, _, hc⟩ := h.at h0
  simp [Value.ownBlock] at hk
  subst hk
  have h1 := hc 0 h0
  rw [cell_row he] at h1
  have hoff : off + 0 = 0 ∨ off + 0 = 1 ∨ off + 0 = 2 ∨ 3 ≤ off + 0 := by omega
  rcases hoff with h | h | h | h
  · rw [h] at h1; simp at h1; exact ha _ h1
  · rw [h] at h1; simp at h1
  · rw [h] at h1; simp at h1
  · rw [List.getElem?_eq_none (by simpa using h)] at h1; simp at h1
/-- what the reference's Feed answers -/
def RFeedPost (w : World) (lo eb : Nat) (av : Value) (A V : List UInt8) (e : Ending) (w' : World) : Prop :=
  ∃ v av' A', e = .returned (.tuple #[v, .int .i64 (feedErr (feedF sumB (feedF sumB (.held []) A).2 V).2)]) ∧ RdL w' v (feedF sumB (feedF sumB (.held []) A).2 V).1 ∧ RDef w' lo eb av' A' ∧ (feedF sumB (.held []) A').2 = (feedF sumB (feedF sumB (.held []) A).2 V).2 ∧ A'.length ≤ A.length + V.length ∧
    Turn w w' (fun k => k = eb ∨ av.ownBlock = some k) ∧ ∀ k, av'.ownBlock = some k → av.ownBlock = some k ∨ w.heap.size ≤ k
set_option maxRecDepth 100000 in
set_option maxHeartbeats 2000000 in
theorem refFeed_any (w : World) (lo eb : Nat) (av v : Value) (A V : List UInt8) (h : RDef w lo eb av A) (hr : Rd w v V) (hl : A.length + V.length ≤ 1000000000) (hlo : lo ≤ w.heap.size) :
    Calls Tryz.prog 69 #[.pointer (some ⟨eb, 0, none⟩), v] w (RFeedPost w lo eb av A V) := by
  obtain ⟨he, hA⟩ := h
  have heb : eb < w.heap.size := (Array.getElem?_eq_some_iff.1 he).1
  obtain ⟨aa, ac, rfl⟩ := own_slice hA
  have hc0 : w.cell? ⟨eb, 0, none⟩ = some (.slice aa A.length ac) := by rw [cell_row he]; rfl
  have hc1 : w.cell? ⟨eb, 1, none⟩ = some (.int .i64 ((feedF sumB (.held []) A).1.length : Int)) := by rw [cell_row he]; rfl
  have hc2 : w.cell? ⟨eb, 2, none⟩ = some (.bool (stBadB (feedF sumB (.held []) A).2)) := by rw [cell_row he]; rfl
  have HE := hid he
  have HA := hid hA
  have HR := hid hr
  clear he hA hr
  cases hst : (feedF sumB (.held []) A).2 with
  | bad =>
    have HST := hid hst
    rw [hst] at hc2
    have hc2' : w.cell? ⟨eb, 2, none⟩ = some (.bool true) := hc2
    clear hst hc2 hc1 hc0
    go_enter Tryz.func69, Tryz.ntmps69
    go_wp2_with fail
    go_ret2
    refine ⟨.slice none 0 0, _, A, ?_, ?_, ⟨HE.out, HA.out⟩, ?_, by omega, Turn.refl _ _, fun k hk => Or.inl hk⟩
    · rw [HST.out, feed_bad]; rfl
    · rw [HST.out, feed_bad]; exact ⟨none, 0, rfl, fun h0 => absurd h0 (by simp)⟩
    · rw [HST.out, feed_bad]
  | held H =>
    have HST := hid hst
    rw [hst] at hc2
    have hc2' : w.cell? ⟨eb, 2, none⟩ = some (.bool false) := hc2
    clear hst hc2
    have hf0 : w.frozen? ⟨eb, 0, none⟩ = false := frozen_row HE.out _
    obtain ⟨A', HA'⟩ : ∃ A', Hid (A ++ V = A') := ⟨_, hid rfl⟩
    have hl' : A'.length = A.length + V.length := by rw [← HA'.out, List.length_append]
    have HY := hid (show feedF sumB (.held []) A' = ((feedF sumB (.held []) A).1 ++ (feedF sumB (.held H) V).1, (feedF sumB (.held H) V).2) by rw [← HA'.out, feed_append, HST.out])
    have hl2 : A'.length ≤ 1000000000 := by omega
    have HL' := hid hl'
    clear hl'
    go_enter Tryz.func69, Tryz.ntmps69
    go_wp2_with (at_builtin; refine wpList_append_rd _ rfl (.tmp 17) (.tmp 18) rfl _ A lo rfl HA.out _ V rfl HR.out A' HA'.out (by omega) hlo ?_)
    intro a1 c1 w1 hb1 hg1
    have hne : (Value.slice aa A.length ac).ownBlock ≠ some eb := fun e => by
      obtain ⟨cur, hcur⟩ := own_type HA.out e
      rw [HE.out] at hcur
      simp at hcur
    have he1 := (hg1.g.block eb heb (fun e => hne e.symm)).trans HE.out
    have hd0 : w1.cell? ⟨eb, 0, none⟩ = some (.slice aa A.length ac) := by rw [cell_row he1]; rfl
    have hfr1 : w1.frozen? ⟨eb, 0, none⟩ = false := frozen_row he1 _
    have HE1 := hid he1
    have HB1 := hid hb1
    have HG1 := hid hg1
    clear hb1 hg1 he1
    go_wp2_with fail
    obtain ⟨w2, hw2⟩ : ∃ w2, w2 = w1.setCell ⟨eb, 0, none⟩ (.slice a1 A'.length c1) := ⟨_, rfl⟩
    rw [← hw2]
    obtain ⟨G, HGn⟩ : ∃ G, Hid ((feedF sumB (.held []) A).1.length = G) := ⟨_, hid rfl⟩
    have he2 : w2.heap[eb]? = some (.cells #[.slice a1 A'.length c1, .int .i64 (G : Int), .bool false] 98 (0, 0)) := by
      rw [hw2, heap_setCell_same w1 eb 0 _ _ _ HE1.out, HST.out, HGn.out]; rfl
    have hT2 : Turn w w2 (fun k => k = eb ∨ (Value.slice aa A.length ac).ownBlock = some k) := by
      rw [hw2]
      exact ((Turn.of_grew HG1.out).trans (S' := fun k => (Value.slice aa A.length ac).ownBlock = some k) (Turn.refl _ _) (fun _ _ h => h)).trans' (Turn.setCell w1 eb 0 _)
    have hne1 : (Value.slice a1 A'.length c1).ownBlock ≠ some eb := fun e => by
      obtain ⟨cur, hcur⟩ := own_type HB1.out e
      rw [HE1.out] at hcur
      simp at hcur
    have HB2 := hid (show Bys w2 lo (.slice a1 A'.length c1) A' from own_same HB1.out (fun g hg => by rw [hw2]; exact Below.heap_setCell _ _ _ _ (fun e => hne1 (by rw [hg, e]))))
    have heb2 : eb < w2.heap.size := (Array.getElem?_eq_some_iff.1 he2).1
    have HW := hid (wholeP_feed (sm := sumB) A')
    have HE2 := hid he2
    have HT2 := hid hT2
    clear hw2 he2 hT2 hd0 hfr1 hc0 hc1 hc2' hf0
    refine (whole_any _ a1 c1 A' HB2.out.rd (own_cap' HB2.out).2 (by omega)).mono ?_; rintro e w3 ⟨la, lc, vs, rfl, hbel3, hLs⟩
    have he3 := (hbel3.block eb heb2).trans HE2.out
    have d1 : w3.cell? ⟨eb, 1, none⟩ = some (.int .i64 (G : Int)) := by rw [cell_row he3]; rfl
    have d2 : w3.cell? ⟨eb, 2, none⟩ = some (.bool false) := by rw [cell_row he3]; rfl
    have df1 : w3.frozen? ⟨eb, 1, none⟩ = false := frozen_row he3 _
    have df2 : w3.frozen? ⟨eb, 2, none⟩ = false := frozen_row he3 _
    have hW1 : (wholeP sumB A').1 = (feedF sumB (.held []) A).1 ++ (feedF sumB (.held H) V).1 := by rw [HW.out, HY.out]
    have hW2 : (wholeP sumB A').2 = !stBadB (feedF sumB (.held H) V).2 := by rw [HW.out, HY.out]
    rw [hW1] at hLs
    rw [hW1, hW2]
    have HN := hid (show ((feedF sumB (.held []) A).1 ++ (feedF sumB (.held H) V).1).length = G + (feedF sumB (.held H) V).1.length by rw [List.length_append, HGn.out])
    generalize hLL : (feedF sumB (.held []) A).1 ++ (feedF sumB (.held H) V).1 = LL at *
    have hLLc : LL.length ≤ lc := (own_cap' hLs.own).2
    have hGn : G ≤ LL.length := by rw [HN.out]; omega
    have HE3 := hid he3
    have HLs := hid hLs
    have HLL := hid hLL
    clear he3 hLs hW1 hW2 hLL
    have hs1 : (G : Int) ≤ (LL.length : Int) := by omega
    obtain ⟨Q, hQ⟩ : ∃ Q, (if lc = G then la else Option.map (fun x => x.add G) la) = Q := ⟨_, rfl⟩
    generalize hbq : stBadB (feedF sumB (.held H) V).2 = bq at *
    have HBQ := hid hbq
    have fin : ∀ w5, w5.heap[eb]? = some (.cells #[.slice a1 A'.length c1, .int .i64 (LL.length : Int), .bool bq] 98 (0, 0)) → Turn w3 w5 (fun k => k = eb) →
        RFeedPost w lo eb (.slice aa A.length ac) A V (.returned (.tuple #[.slice Q (LL.length - G) (lc - G), .int .i64 (bif bq then 7 else 0)])) w5 := by
      intro w5 h5 t5
      have hXl : (feedF sumB (.held H) V).1.length = LL.length - G := by rw [HN.out]; omega
      have hY1 : (feedF sumB (.held []) A').1 = LL := by rw [HY.out]
      refine ⟨.slice Q (LL.length - G) (lc - G), .slice a1 A'.length c1, A', ?_, ?_, ⟨?_, ?_⟩, ?_, by rw [HL'.out]; exact Nat.le_refl _, ?_, ?_⟩
      · rw [HST.out]
        have : feedErr (feedF sumB (.held H) V).2 = bif bq then 7 else 0 := by rw [← HBQ.out]; cases (feedF sumB (.held H) V).2 <;> rfl
        rw [this]
      · rw [HST.out]
        refine ⟨Q, lc - G, by rw [hXl], fun h0 => ?_⟩
        have hvl : vs.length = LL.length := by have := HLs.out.own.1; omega
        obtain ⟨g, hla⟩ : ∃ g, la = some ⟨g, 0, none⟩ := by
          rcases HLs.out.own.2 with ⟨_, e⟩ | ⟨g, cap, cur, hv, _⟩
          · omega
          · simp at hv; exact ⟨g, hv.1⟩
        have hlg := HLs.out.own.lt g (by rw [hla]; rfl)
        have hgne : g ≠ eb := by omega
        have hQ2 : Q = some ⟨g, G, none⟩ := by
          rw [← hQ, if_neg (by omega), hla, Option.map_some, rd_add _ _ rfl]; first | rfl | simp
        refine ⟨g, G, hQ2, Nat.lt_of_lt_of_le hlg.2 t5.size, fun i hi => ?_⟩
        have hiL : G + i < LL.length := by omega
        have hLi : LL[G + i]? = some (feedF sumB (.held H) V).1[i] := by
          rw [← HLL.out, List.getElem?_append_right (by rw [HGn.out]; omega), HGn.out, show G + i - G = i by omega, List.getElem?_eq_getElem hi]
        have hvi : vs[G + i]? = some vs[G + i] := List.getElem?_eq_getElem (by omega)
        obtain ⟨hr, _⟩ := HLs.out.each (G + i) _ _ hvi hLi
        refine ⟨vs[G + i], ?_, hr.turn (fun k hk hl0 => t5.block k ?_ (rd_ne hr hl0 HE3.out (fun n => by simp) k hk))⟩
        · have hcell := HLs.out.own.cells (g := g) (by rw [hla]; rfl) (G + i) _ hvi
          rw [rd_add _ _ rfl] at hcell
          rw [World.cell?_of_block (w := w3) (w' := w5) (a := ⟨g, G + i, none⟩) (t5.block g hlg.2 hgne)]
          simpa using hcell
        · exact hr.lt k hk hl0
      · rw [hY1, h5, HY.out, HBQ.out]
      · exact own_same HB2.out (fun g hg => (t5.block g (Nat.lt_of_lt_of_le (HB2.out.lt g hg).2 hbel3.size) (fun e => hne1 (by rw [← e]; exact hg))).trans (hbel3.block g (HB2.out.lt g hg).2))
      · rw [HY.out, HST.out]
      · exact (HT2.out.trans (Turn.of_below (S := fun _ => False) hbel3) (fun _ _ h => h.elim)).trans t5 (fun q _ h => Or.inl h)
      · intro k hk
        exact HG1.out.b k hk
    have he4 : (w3.setCell ⟨eb, 1, none⟩ (.int .i64 (LL.length : Int))).heap[eb]? = some (.cells #[.slice a1 A'.length c1, .int .i64 (LL.length : Int), .bool false] 98 (0, 0)) := by
      rw [heap_setCell_same w3 eb 1 _ _ _ HE3.out]; rfl
    have FIN := hid fin
    have HE4 := hid he4
    clear fin he4 hbq
    cases bq with
    | true =>
      have HE5 := hid (show ((w3.setCell ⟨eb, 1, none⟩ (.int .i64 (LL.length : Int))).setCell ⟨eb, 2, none⟩ (.bool true)).heap[eb]? = some (.cells #[.slice a1 A'.length c1, .int .i64 (LL.length : Int), .bool true] 98 (0, 0)) from by
        rw [heap_setCell_same _ eb 2 _ _ _ HE4.out]; rfl)
      go_wp2_with fail
      go_ret2
      exact FIN.out _ HE5.out ((Turn.setCell _ _ _ _).trans (Turn.setCell _ _ _ _) (fun _ _ h => h))
    | false =>
      go_wp2_with fail
      go_ret2
      exact FIN.out _ HE4.out (Turn.setCell _ _ _ _)
end Go.Proofs.YtlgjlfobbpgklaaGreatDoor
