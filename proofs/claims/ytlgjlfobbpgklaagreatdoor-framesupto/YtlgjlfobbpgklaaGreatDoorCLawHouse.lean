/- What the statement's world holds: lists that are their owner's, deframers of both sides. -/
import Derived.Test.YtlgjlfobbpgklaaGreatDoorCLawOwn2
import Derived.Test.YtlgjlfobbpgklaaGreatDoorCLawLent
import Derived.Test.YtlgjlfobbpgklaaGreatDoorCRfFeed
import Derived.Lib.ConvBytes
namespace Go.Proofs.YtlgjlfobbpgklaaGreatDoor
open Go.RowKit

/-- a deframer of the program and the reference's beside it -/
structure DD where
  db : Nat
  eb : Nat
  av : Value
  A : List UInt8
def DD.st (d : DD) : St := (feedF sumB (.held []) d.A).2
structure Law (w : World) (B lo : Nat) (dv ev bv : Value) (X : List Ent) (Ds : List DD) : Prop where
  wat : WAt w B dv ev bv
  ents : Ents w lo bv X
  ds : w.ownsRow lo 94 1 dv Ds.length (Ds.map fun d => .pointer (some ⟨d.db, 0, none⟩))
  es : w.ownsRow lo 96 1 ev Ds.length (Ds.map fun d => .pointer (some ⟨d.eb, 0, none⟩))
  cut : ∀ d ∈ Ds, Cut w d.db d.st
  rdf : ∀ d ∈ Ds, RDef w lo d.eb d.av d.A
  low : lo ≤ B ∧ ∀ d ∈ Ds, lo ≤ d.db ∧ lo ≤ d.eb
  dne : ∀ (i j : Nat) (d d' : DD), Ds[i]? = some d → Ds[j]? = some d' → i ≠ j → d.db ≠ d'.db ∧ d.eb ≠ d'.eb ∧ ∀ k, d.av.ownBlock = some k → d'.av.ownBlock ≠ some k
  ape : ∀ x ∈ X, ∀ u ∈ entVals x, ∀ k, u.ownBlock = some k → ∀ d ∈ Ds, d.av.ownBlock ≠ some k
  lox : ∀ x ∈ X, ∀ u ∈ entVals x, ∀ k, u.ownBlock = some k → lo ≤ k
theorem Law.B_lt {w : World} {B lo : Nat} {dv ev bv : Value} {X : List Ent} {Ds : List DD} (h : Law w B lo dv ev bv X Ds) : B < w.heap.size := (Array.getElem?_eq_some_iff.1 h.wat).1
theorem EntOk.lt {w : World} {x : Ent} (h : EntOk w x) : ∀ u ∈ entVals x, ∀ k, u.ownBlock = some k → k < w.heap.size := fun u hu k hk => by
  obtain ⟨cur, hc⟩ := h.blk u hu k hk
  exact (Array.getElem?_eq_some_iff.1 hc).1
theorem Cut.lt {w : World} {b : Nat} {s : St} (h : Cut w b s) : b < w.heap.size := by obtain ⟨cur, hc, _⟩ := h; exact (Array.getElem?_eq_some_iff.1 hc).1
theorem RDef.lt {w : World} {lo eb : Nat} {av : Value} {A : List UInt8} (h : RDef w lo eb av A) : eb < w.heap.size := (Array.getElem?_eq_some_iff.1 h.1).1
/-- what lies in memory that has not turned -/
theorem Law.below {w w' : World} {B lo : Nat} {dv ev bv : Value} {X : List Ent} {Ds : List DD} (h : Law w B lo dv ev bv X Ds) (hb : Below w.heap.size w w') : Law w' B lo dv ev bv X Ds :=
  ⟨(hb.block B h.B_lt).trans h.wat, ⟨own_same h.ents.own (fun g hg => hb.block g (h.ents.own.lt g hg).2), fun x hx => (h.ents.ok x hx).turn (fun u hu k hk => hb.block k ((h.ents.ok x hx).lt u hu k hk))⟩,
    own_same h.ds (fun g hg => hb.block g (h.ds.lt g hg).2), own_same h.es (fun g hg => hb.block g (h.es.lt g hg).2),
    fun d hd => by obtain ⟨cur, hc, e⟩ := h.cut d hd; exact ⟨cur, (hb.block _ (h.cut d hd).lt).trans hc, e⟩,
    fun d hd => ⟨(hb.block _ (h.rdf d hd).lt).trans (h.rdf d hd).1, (h.rdf d hd).2.same hb⟩, h.low, h.dne, h.ape, h.lox⟩
/-- 'own' has been called on a list that is none of what is kept -/
theorem Law.own {w w' : World} {B lo : Nat} {dv ev bv lv : Value} {X : List Ent} {Ds : List DD} {e : Ending} (h : Law w B lo dv ev bv X Ds) (hp : OwnPost w B lo dv ev bv lv X e w') (hl : ∀ k, lv.ownBlock = some k → lo ≤ k ∧ (∃ cur, w.heap[k]? = some (.cells cur 5 (0, 0))) ∧ ∀ d ∈ Ds, d.av.ownBlock ≠ some k) :
    e = .returned (.tuple #[]) ∧ ∃ bv' x, Law w' B lo dv ev bv' (X ++ [x]) Ds ∧ Below lo w w' ∧ Turn w w' (fun k => k = B ∨ bv.ownBlock = some k ∨ lv.ownBlock = some k) ∧ ∀ u ∈ entVals x, ∀ k, u.ownBlock = some k → lv.ownBlock = some k ∨ w.heap.size ≤ k := by
  obtain ⟨he, bv', x, hW, hX, hT, hbv, hx⟩ := hp
  refine ⟨he, bv', x, ?_, hT.below (by have := h.low.1; have := h.B_lt; omega) (fun k hk hs => ?_), hT, hx⟩
  · have hfree : ∀ k T cur, w.heap[k]? = some (.cells cur T (0, 0)) → T ≠ 63 → T ≠ 100 → (T = 5 → lv.ownBlock ≠ some k) → w'.heap[k]? = w.heap[k]? := fun k T cur hk h1 h2 h3 => by
      refine hT.block k (Array.getElem?_eq_some_iff.1 hk).1 ?_
      rintro (rfl | hs | hs)
      · have := h.wat; unfold WAt at this; rw [hk] at this; simp at this; exact h1 this.2
      · obtain ⟨cur', hc'⟩ := own_type h.ents.own hs
        rw [hk] at hc'; simp at hc'; exact h2 hc'.2
      · obtain ⟨_, ⟨cur', hc'⟩, _⟩ := hl k hs
        rw [hk] at hc'; simp at hc'
        exact h3 hc'.2 hs
    refine ⟨hW, hX, own_same h.ds (fun g hg => ?_), own_same h.es (fun g hg => ?_), fun d hd => ?_, fun d hd => ⟨?_, ?_⟩, h.low, h.dne, fun y hy u hu k hk d hd => ?_, fun y hy u hu k hk => ?_⟩
    · obtain ⟨cur, hc⟩ := own_type h.ds hg
      exact hfree g _ cur hc (by decide) (by decide) (fun e => absurd e (by decide))
    · obtain ⟨cur, hc⟩ := own_type h.es hg
      exact hfree g _ cur hc (by decide) (by decide) (fun e => absurd e (by decide))
    · obtain ⟨cur, hc, e⟩ := h.cut d hd
      exact ⟨cur, (hfree _ _ cur hc (by decide) (by decide) (fun e => absurd e (by decide))).trans hc, e⟩
    · exact (hfree _ _ _ (h.rdf d hd).1 (by decide) (by decide) (fun e => absurd e (by decide))).trans (h.rdf d hd).1
    · refine own_same (h.rdf d hd).2 (fun g hg => ?_)
      obtain ⟨cur, hc⟩ := own_type (h.rdf d hd).2 hg
      exact hfree g _ cur hc (by decide) (by decide) (fun _ e => (hl g e).2.2 d hd hg)
    · rcases List.mem_append.1 hy with hy | hy
      · exact h.ape y hy u hu k hk d hd
      · simp only [List.mem_singleton] at hy
        subst hy
        rcases hx u hu k hk with h1 | h1
        · exact (hl k h1).2.2 d hd
        · intro e
          have := ((h.rdf d hd).2.lt k e).2
          omega
    · rcases List.mem_append.1 hy with hy | hy
      · exact h.lox y hy u hu k hk
      · simp only [List.mem_singleton] at hy
        subst hy
        rcases hx u hu k hk with h1 | h1
        · exact (hl k h1).1
        · have := h.low.1; have := h.B_lt; omega
  · rcases hs with rfl | hs | hs
    · have := h.low.1; omega
    · have := (h.ents.own.lt k hs).1; omega
    · have := (hl k hs).1; omega
/-- a deframer of both sides has been fed -/
theorem Law.feed {w w' : World} {B lo : Nat} {dv ev bv av' : Value} {X : List Ent} {Ds : List DD} {i : Nat} {d : DD} {A' : List UInt8} (h : Law w B lo dv ev bv X Ds) (hi : Ds[i]? = some d)
    (hT : Turn w w' (fun k => k = d.db ∨ k = d.eb ∨ d.av.ownBlock = some k)) (hC : Cut w' d.db (feedF sumB (.held []) A').2) (hR : RDef w' lo d.eb av' A') (hav : ∀ k, av'.ownBlock = some k → d.av.ownBlock = some k ∨ w.heap.size ≤ k) :
    Law w' B lo dv ev bv X (Ds.set i ⟨d.db, d.eb, av', A'⟩) ∧ Below lo w w' := by
  have hd := List.mem_of_getElem? hi
  have hBlt := h.B_lt
  have hlow := h.low.1
  have hil : i < Ds.length := (List.getElem?_eq_some_iff.1 hi).1
  obtain ⟨curd, hcd, _⟩ := h.cut d hd
  have hce := (h.rdf d hd).1
  have hfree : ∀ (k : Nat) (T : TypeId) (cur : Array Value), w.heap[k]? = some (.cells cur T (0, 0)) → (T = 189 → k ≠ d.db) → (T = 98 → k ≠ d.eb) → (T = 5 → d.av.ownBlock ≠ some k) → w'.heap[k]? = w.heap[k]? := fun k T cur hk h1 h2 h3 => by
    refine hT.block k (Array.getElem?_eq_some_iff.1 hk).1 ?_
    rintro (e | e | e)
    · subst e; rw [hcd] at hk; simp at hk; exact h1 hk.2.symm rfl
    · subst e; rw [hce] at hk; simp at hk; exact h2 hk.2.symm rfl
    · obtain ⟨cur', hc'⟩ := own_type (h.rdf d hd).2 e
      rw [hk] at hc'; simp at hc'; exact h3 hc'.2 e
  have hmap : ∀ (f : DD → Value), f ⟨d.db, d.eb, av', A'⟩ = f d → (Ds.set i ⟨d.db, d.eb, av', A'⟩).map f = Ds.map f := fun f hf => by
    rw [List.map_set, hf]
    apply List.ext_getElem?
    intro j
    by_cases hj : i = j
    · subst hj
      rw [List.getElem?_set_self (by simpa using hil), List.getElem?_map, hi]; rfl
    · rw [List.getElem?_set_ne hj]
  have hget : ∀ (j : Nat) (y : DD), (Ds.set i ⟨d.db, d.eb, av', A'⟩)[j]? = some y → (j = i ∧ y = ⟨d.db, d.eb, av', A'⟩) ∨ (j ≠ i ∧ Ds[j]? = some y) := fun j y hy => by
    by_cases hj : i = j
    · subst hj
      rw [List.getElem?_set_self hil] at hy
      exact Or.inl ⟨rfl, by simpa using hy.symm⟩
    · rw [List.getElem?_set_ne hj] at hy
      exact Or.inr ⟨fun e => hj e.symm, hy⟩
  have hmem : ∀ y ∈ Ds.set i ⟨d.db, d.eb, av', A'⟩, y = ⟨d.db, d.eb, av', A'⟩ ∨ ∃ j, j ≠ i ∧ Ds[j]? = some y := fun y hy => by
    obtain ⟨j, hj⟩ := List.mem_iff_getElem?.1 hy
    rcases hget j y hj with ⟨_, e⟩ | ⟨h1, h2⟩
    · exact Or.inl e
    · exact Or.inr ⟨j, h1, h2⟩
  have havlt : ∀ y ∈ Ds, ∀ k, y.av.ownBlock = some k → k < w.heap.size := fun y hy k hk => ((h.rdf y hy).2.lt k hk).2
  refine ⟨⟨(hfree B _ _ h.wat (fun e => absurd e (by decide)) (fun e => absurd e (by decide)) (fun e => absurd e (by decide))).trans h.wat, ⟨own_same h.ents.own (fun g hg => ?_), fun x hx => (h.ents.ok x hx).turn (fun u hu k hk => ?_)⟩, ?_, ?_, fun y hy => ?_, fun y hy => ?_, ⟨hlow, fun y hy => ?_⟩, ?_, fun x hx u hu k hk y hy => ?_, h.lox⟩, hT.below (by omega) (fun k hk hs => ?_)⟩
  · obtain ⟨cur, hc⟩ := own_type h.ents.own hg
    exact hfree g _ cur hc (fun e => absurd e (by decide)) (fun e => absurd e (by decide)) (fun e => absurd e (by decide))
  · obtain ⟨cur, hc⟩ := (h.ents.ok x hx).blk u hu k hk
    exact hfree k _ cur hc (fun e => absurd e (by decide)) (fun e => absurd e (by decide)) (fun _ => h.ape x hx u hu k hk d hd)
  · rw [List.length_set, hmap _ rfl]
    refine own_same h.ds (fun g hg => ?_)
    obtain ⟨cur, hc⟩ := own_type h.ds hg
    exact hfree g _ cur hc (fun e => absurd e (by decide)) (fun e => absurd e (by decide)) (fun e => absurd e (by decide))
  · rw [List.length_set, hmap _ rfl]
    refine own_same h.es (fun g hg => ?_)
    obtain ⟨cur, hc⟩ := own_type h.es hg
    exact hfree g _ cur hc (fun e => absurd e (by decide)) (fun e => absurd e (by decide)) (fun e => absurd e (by decide))
  · rcases hmem y hy with rfl | ⟨j, hj, hy2⟩
    · exact hC
    · have hym := List.mem_of_getElem? hy2
      obtain ⟨cur, hc, e⟩ := h.cut y hym
      exact ⟨cur, (hfree _ _ cur hc (fun _ => (h.dne j i y d hy2 hi hj).1) (fun e => absurd e (by decide)) (fun e => absurd e (by decide))).trans hc, e⟩
  · rcases hmem y hy with rfl | ⟨j, hj, hy2⟩
    · exact hR
    · have hym := List.mem_of_getElem? hy2
      refine ⟨(hfree _ _ _ (h.rdf y hym).1 (fun e => absurd e (by decide)) (fun _ => (h.dne j i y d hy2 hi hj).2.1) (fun e => absurd e (by decide))).trans (h.rdf y hym).1, own_same (h.rdf y hym).2 (fun g hg => ?_)⟩
      obtain ⟨cur, hc⟩ := own_type (h.rdf y hym).2 hg
      exact hfree g _ cur hc (fun e => absurd e (by decide)) (fun e => absurd e (by decide)) (fun _ => (h.dne j i y d hy2 hi hj).2.2 g hg)
  · rcases hmem y hy with rfl | ⟨j, hj, hy2⟩
    · exact h.low.2 d hd
    · exact h.low.2 y (List.mem_of_getElem? hy2)
  · intro j j' y y' hy hy' hjj
    rcases hget j y hy with ⟨rfl, rfl⟩ | ⟨h1, h2⟩ <;> rcases hget j' y' hy' with ⟨rfl, rfl⟩ | ⟨h1', h2'⟩
    · exact absurd rfl hjj
    · obtain ⟨q1, q2, q3⟩ := h.dne j j' d y' hi h2' hjj
      refine ⟨q1, q2, fun k hk => ?_⟩
      rcases hav k hk with e | e
      · exact q3 k e
      · intro e'
        have := havlt y' (List.mem_of_getElem? h2') k e'
        omega
    · obtain ⟨q1, q2, q3⟩ := h.dne j j' y d h2 hi hjj
      refine ⟨q1, q2, fun k hk e' => ?_⟩
      rcases hav k e' with e | e
      · exact q3 k hk e
      · have := havlt y (List.mem_of_getElem? h2) k hk
        omega
    · exact h.dne j j' y y' h2 h2' hjj
  · rcases hmem y hy with rfl | ⟨j, hj, hy2⟩
    · intro e
      rcases hav k e with e | e
      · exact h.ape x hx u hu k hk d hd e
      · have := (h.ents.ok x hx).lt u hu k hk
        omega
    · exact h.ape x hx u hu k hk y (List.mem_of_getElem? hy2)
  · have hl := h.low.2 d hd
    rcases hs with rfl | rfl | hs
    · omega
    · omega
    · have := ((h.rdf d hd).2.lt k hs).1; omega
/-- memory of another kind has turned -/
theorem Law.other {w w' : World} {B lo : Nat} {dv ev bv : Value} {X : List Ent} {Ds : List DD} {S : Nat → Prop} (h : Law w B lo dv ev bv X Ds) (hT : Turn w w' S) (hS : ∀ (k : Nat) (cur : Array Value) (T : TypeId), S k → w.heap[k]? = some (.cells cur T (0, 0)) → T = 51) : Law w' B lo dv ev bv X Ds := by
  have hfree : ∀ (k : Nat) (T : TypeId) (cur : Array Value), w.heap[k]? = some (.cells cur T (0, 0)) → T ≠ 51 → w'.heap[k]? = w.heap[k]? := fun k T cur hk h1 => hT.block k (Array.getElem?_eq_some_iff.1 hk).1 (fun hs => h1 (hS k cur T hs hk))
  refine ⟨(hfree B _ _ h.wat (by decide)).trans h.wat, ⟨own_same h.ents.own (fun g hg => ?_), fun x hx => (h.ents.ok x hx).turn (fun u hu k hk => ?_)⟩, own_same h.ds (fun g hg => ?_), own_same h.es (fun g hg => ?_), fun y hy => ?_, fun y hy => ⟨(hfree _ _ _ (h.rdf y hy).1 (by decide)).trans (h.rdf y hy).1, own_same (h.rdf y hy).2 (fun g hg => ?_)⟩, h.low, h.dne, h.ape, h.lox⟩
  · obtain ⟨cur, hc⟩ := own_type h.ents.own hg
    exact hfree g _ cur hc (by decide)
  · obtain ⟨cur, hc⟩ := (h.ents.ok x hx).blk u hu k hk
    exact hfree k _ cur hc (by decide)
  · obtain ⟨cur, hc⟩ := own_type h.ds hg
    exact hfree g _ cur hc (by decide)
  · obtain ⟨cur, hc⟩ := own_type h.es hg
    exact hfree g _ cur hc (by decide)
  · obtain ⟨cur, hc, e⟩ := h.cut y hy
    exact ⟨cur, (hfree _ _ cur hc (by decide)).trans hc, e⟩
  · obtain ⟨cur, hc⟩ := own_type (h.rdf y hy).2 hg
    exact hfree g _ cur hc (by decide)
/-- a step's cells -/
theorem op_cells {w : World} {b : Nat} {K A B C D : Int} {S T V : ByteArray} (h : w.heap[b]? = some (.cells #[.int .i64 K, .int .i64 A, .int .i64 B, .int .i64 C, .int .i64 D, .string S, .string T, .string V] 66 (0, 0))) :
    w.cell? ⟨b, 0, none⟩ = some (.int .i64 K) ∧ w.cell? ⟨b, 1, none⟩ = some (.int .i64 A) ∧ w.cell? ⟨b, 2, none⟩ = some (.int .i64 B) ∧ w.cell? ⟨b, 3, none⟩ = some (.int .i64 C) ∧ w.cell? ⟨b, 4, none⟩ = some (.int .i64 D) ∧ w.cell? ⟨b, 5, none⟩ = some (.string S) ∧ w.cell? ⟨b, 6, none⟩ = some (.string T) ∧ w.cell? ⟨b, 7, none⟩ = some (.string V) := by
  refine ⟨?_, ?_, ?_, ?_, ?_, ?_, ?_, ?_⟩ <;> (rw [cell_row h]; rfl)
/-- '[]byte(s)' -/
theorem conv_bytes (w : World) (s : ByteArray) : ∃ a c w', (convert 9 51 (.string s)).run Tryz.prog w = .ok (.slice (some a) s.size c) w' ∧ Hid (Rd w' (.slice (some a) s.size c) s.toList) ∧ Hid (Below w.heap.size w w') := by
  refine ⟨_, _, _, Lib.run_convert_string_bytes w 9 51 5 s Tryz.underlying9 Tryz.underlying51 Tryz.underlying5, ?_, ?_⟩
  · have hsl : s.toList.length = s.size := by rw [ByteArray.toList_eq]; rfl
    refine Or.inr ⟨⟨w.heap.size, 0, none⟩, _, by rw [hsl], fun j u hu => ?_⟩
    have hj : j < s.size := by
      rcases Nat.lt_or_ge j s.size with h | h
      · exact h
      · rw [List.getElem?_eq_none (by simp; omega)] at hu; cases hu
    rw [rd_add _ _ rfl, Nat.zero_add, Lib.bytesWorld_cell w _ s j hj]
    rw [List.getElem?_map, ByteArray.toList_eq, List.getElem?_eq_getElem (by rw [← ByteArray.toList_eq]; omega)] at hu
    simp only [Option.map_some, Option.some.injEq] at hu
    rw [← hu]
    simp only [byteCell, List.getD_eq_getElem?_getD]
    rw [List.getElem?_eq_getElem (by rw [← ByteArray.toList_eq]; omega)]
    rfl
  · exact ⟨rfl, rfl, rfl, by rw [Lib.bytesWorld_size]; omega, fun k hk => Lib.bytesWorld_at_old w _ s k hk⟩
end Go.Proofs.YtlgjlfobbpgklaaGreatDoor
