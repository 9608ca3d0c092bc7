/- Package schemas: holds, the pure part: what is reached by plain fields. -/
import Derived.Test.YtlgjlfobbpgklaaGreatDoorCProgRep
import Derived.Laws.OwnMore
import Derived.Maps.AppendAt
namespace Go.Proofs.YtlgjlfobbpgklaaGreatDoor
open Go.RowKit

/-- item i has a plain field whose type is item j -/
def Edge (X : List PIV) (i j : Nat) : Prop := ∃ x f, X[i]? = some x ∧ f ∈ x.it.fields ∧ f.shape = 0 ∧ pFindI X f.base.toList = (j : Int)
inductive Way (X : List PIV) : Nat → Nat → Prop
  | one {i j : Nat} : Edge X i j → Way X i j
  | more {i j k : Nat} : Edge X i j → Way X j k → Way X i k
def EdgeT (X : List PIV) (fs : List PField) (j k : Nat) : Prop := ∃ f ∈ fs.take j, f.shape = 0 ∧ pFindI X f.base.toList = (k : Int)
def bAt (b : List Bool) (j : Nat) : Bool := (b[j]?).getD false
structure HPart (X : List PIV) (whole : Nat) (b0 b : List Bool) (E : Nat → Prop) : Prop where
  mono : ∀ j, bAt b0 j = true → bAt b j = true
  new : ∀ j, bAt b j = true → bAt b0 j = false → j ≠ whole ∧ ∀ k, Edge X j k → bAt b k = true
  done : ∀ k, E k → bAt b k = true
def HPost (X : List PIV) (whole i : Nat) (b0 : List Bool) (r : Bool) (b : List Bool) : Prop := match r with | true => Way X i whole | false => HPart X whole b0 b (Edge X i)
theorem HPart.start (X : List PIV) (whole : Nat) (b : List Bool) (fs : List PField) : HPart X whole b b (EdgeT X fs 0) :=
  ⟨fun _ h => h, fun j h h' => by (rw [h] at h'; cases h'), fun k ⟨f, hf, _⟩ => by simp at hf⟩
theorem HPart.skip {X : List PIV} {whole : Nat} {b0 b : List Bool} {fs : List PField} {j : Nat} {f : PField} (h : HPart X whole b0 b (EdgeT X fs j)) (hf : fs[j]? = some f) (hs : f.shape ≠ 0 ∨ pFindI X f.base.toList < 0 ∨ ∃ k : Nat, pFindI X f.base.toList = (k : Int) ∧ bAt b k = true) : HPart X whole b0 b (EdgeT X fs (j + 1)) := by
  refine ⟨h.mono, h.new, fun k hk => ?_⟩
  obtain ⟨f', hm, h0, he⟩ := hk
  rw [List.take_add_one, hf] at hm
  simp only [Option.toList_some, List.mem_append, List.mem_singleton] at hm
  rcases hm with hm | rfl
  · exact h.done k ⟨f', hm, h0, he⟩
  · rcases hs with hs | hs | ⟨q, hq, hb⟩
    · exact absurd h0 hs
    · omega
    · rw [show k = q from by omega]; exact hb
theorem bAt_set {b : List Bool} {k : Nat} (hk : k < b.length) (j : Nat) : bAt (b.set k true) j = (if j = k then true else bAt b j) := by
  unfold bAt
  rw [List.getElem?_set]
  by_cases h : k = j
  · subst h; simp [hk]
  · rw [if_neg h, if_neg (fun e => h e.symm)]
theorem HPart.deep {X : List PIV} {whole : Nat} {b0 b b2 : List Bool} {fs : List PField} {j k : Nat} {f : PField} (h : HPart X whole b0 b (EdgeT X fs j)) (hf : fs[j]? = some f) (he : pFindI X f.base.toList = (k : Int)) (hw : k ≠ whole) (hk : k < b.length) (h2 : HPart X whole (b.set k true) b2 (Edge X k)) : HPart X whole b0 b2 (EdgeT X fs (j + 1)) := by
  have hm2 : ∀ q, bAt b q = true → bAt b2 q = true := fun q hq => h2.mono q (by rw [bAt_set hk]; split <;> simp_all)
  have hk2 : bAt b2 k = true := h2.mono k (by rw [bAt_set hk]; simp)
  refine ⟨fun q hq => hm2 q (h.mono q hq), fun q hq hq0 => ?_, fun q hq => ?_⟩
  · by_cases hqk : q = k
    · subst hqk; exact ⟨hw, h2.done⟩
    · cases hbq : bAt b q with
      | true => have := h.new q hbq hq0; exact ⟨this.1, fun r hr => hm2 r (this.2 r hr)⟩
      | false => exact h2.new q hq (by rw [bAt_set hk, if_neg hqk]; exact hbq)
  · obtain ⟨f', hm, h0, he'⟩ := hq
    rw [List.take_add_one, hf] at hm
    simp only [Option.toList_some, List.mem_append, List.mem_singleton] at hm
    rcases hm with hm | rfl
    · exact hm2 q (h.done q ⟨f', hm, h0, he'⟩)
    · rw [show q = k from by omega]; exact hk2
theorem HPart.all {X : List PIV} {whole i : Nat} {b0 b : List Bool} {x : PIV} {j : Nat} (hx : X[i]? = some x) (hj : x.it.fields.length ≤ j) (h : HPart X whole b0 b (EdgeT X x.it.fields j)) : HPart X whole b0 b (Edge X i) := by
  refine ⟨h.mono, h.new, fun k ⟨y, f, hy, hm, h0, he⟩ => h.done k ⟨f, ?_, h0, he⟩⟩
  rw [hx] at hy
  cases hy
  rw [List.take_of_length_le hj]; exact hm
def falses (b : List Bool) : Nat := b.count false
theorem falses_set : ∀ (b : List Bool) (k : Nat), b[k]? = some false → falses (b.set k true) < falses b
  | [], k, h => by simp at h
  | a :: r, 0, h => by simp at h; subst h; simp [falses]
  | a :: r, k + 1, h => by
    have := falses_set r k (by simpa using h)
    unfold falses at *
    rw [List.set_cons_succ, List.count_cons, List.count_cons]; omega
theorem falses_mono : ∀ (b b' : List Bool), b.length = b'.length → (∀ j, bAt b j = true → bAt b' j = true) → falses b' ≤ falses b
  | [], b', hl, _ => by
    have : b' = [] := by cases b' with | nil => rfl | cons a r => simp at hl
    subst this; exact Nat.le_refl _
  | a :: r, [], hl, _ => by simp at hl
  | a :: r, a' :: r', hl, h => by
    have := falses_mono r r' (by simpa using hl) (fun j hj => by have := h (j + 1); unfold bAt at this hj ⊢; simpa using this (by simpa using hj))
    have h0 := h 0
    unfold falses at *
    rw [List.count_cons, List.count_cons]
    cases a <;> cases a' <;> simp_all [bAt] <;> omega
theorem HPart.noWay {X : List PIV} {whole : Nat} {n : Nat} {b : List Bool} {E : Nat → Prop} (h : HPart X whole (List.replicate n false) b E) {i : Nat} (hi : ∀ k, Edge X i k → bAt b k = true) : ¬ Way X i whole := by
  have h0 : ∀ j, bAt (List.replicate n false) j = false := fun j => by
    unfold bAt; rw [List.getElem?_replicate]; split <;> rfl
  intro hw
  have hall : ∀ (a c : Nat), Way X a c → c = whole → (∀ k, Edge X a k → bAt b k = true) → False := by
    intro a c hw
    induction hw with
    | one e => intro hc hk; subst hc; exact (h.new _ (hk _ e) (h0 _)).1 rfl
    | more e _ ih => intro hc hk; exact ih hc (h.new _ (hk _ e) (h0 _)).2
  exact hall i whole hw rfl hi
theorem HPost.way {X : List PIV} {whole i n : Nat} {r : Bool} {b : List Bool} (h : HPost X whole i (List.replicate n false) r b) : r = true ↔ Way X i whole := by
  cases r with
  | true => exact ⟨fun _ => h, fun _ => rfl⟩
  | false => exact ⟨fun e => (by cases e), fun hw => absurd hw (HPart.noWay h h.done)⟩
end Go.Proofs.YtlgjlfobbpgklaaGreatDoor
/- Package schemas: holds. -/
namespace Go.Proofs.YtlgjlfobbpgklaaGreatDoor
open Go.RowKit

theorem bool_at {b : List Bool} {j : Nat} (hj : j < b.length) : (b.map Value.bool)[j]? = some (.bool (bAt b j)) := by
  rw [List.getElem?_map, List.getElem?_eq_getElem hj]
  simp [bAt, List.getElem?_eq_getElem hj]
theorem bAt_false {b : List Bool} {j : Nat} (hj : j < b.length) (h : bAt b j = false) : b[j]? = some false := by
  rw [List.getElem?_eq_getElem hj]
  unfold bAt at h
  rw [List.getElem?_eq_getElem hj] at h
  simpa using h
theorem bool_set (b : List Bool) (j : Nat) : (b.map Value.bool).set j (.bool true) = (b.set j true).map Value.bool := by rw [List.map_set]
theorem find_at {X : List PIV} {n : List UInt8} (h : ¬ pFindI X n < 0) : ∃ j : Nat, pFindI X n = (j : Int) ∧ j < X.length := by
  unfold pFindI at *
  cases hf : X.findIdx? (fun x => pMatchB n x.it) with
  | none => rw [hf] at h; simp at h
  | some j =>
    rw [List.findIdx?_eq_some_iff_getElem] at hf
    exact ⟨j, rfl, hf.1⟩

set_option maxRecDepth 100000 in
set_option maxHeartbeats 2000000 in
theorem pholds_any (n : Nat) : ∀ (w0 w : World) (lo : Nat) (lv : Value) (X : List PIV) (i whole bg : Nat) (been : List Bool), PIts w0 lo lv X → Nms X → X.length ≤ 400 → (∀ x ∈ X, x.it.fields.length ≤ 400) → Below w0.heap.size w0 w → w0.heap.size ≤ bg → Seg w bg 4 0 (been.map Value.bool) → been.length = X.length → i < X.length → whole < X.length → falses been = n →
    Calls Tryz.prog 134 #[lv, .int .i64 i, .int .i64 whole, .slice (some ⟨bg, 0, none⟩) X.length X.length] w fun e w' => ∃ b been', e = .returned (.bool b) ∧ Below bg w w' ∧ Seg w' bg 4 0 (been'.map Value.bool) ∧ been'.length = X.length ∧ HPost X whole i been b been' := by
  induction n using Nat.strongRecOn with
  | ind n ih =>
  intro w0 w lo lv X i whole bg been h hn hX hfl hb0 hbg hs hbl hi hw hfa
  obtain ⟨x, hx⟩ : ∃ x, X[i]? = some x := ⟨X[i], List.getElem?_eq_getElem hi⟩
  obtain ⟨la, lc, hlv⟩ : ∃ a c, lv = .slice a X.length c := own_slice h.own
  subst hlv
  obtain ⟨g, cap, hv, hgl, hgs⟩ := own_form h.own (by omega)
  obtain ⟨rfl, rfl⟩ : la = some ⟨g, 0, none⟩ ∧ lc = cap := by simpa using hv
  obtain ⟨m, hm⟩ := (h.below hb0).itemAt hn hx
  have hrow := (h.nest x (List.mem_of_getElem? hx)).f
  have hl4 := hfl x (List.mem_of_getElem? hx)
  have hbz := hs.lt
  rw [hm.vf] at hrow
  have hseg := hm.seg
  obtain ⟨fa, fc, na, nc, bb, ba, ab, aa⟩ := m
  dsimp only at hrow hseg
  have c3 := hseg.cell (j := 3) rfl
  have IH := hid ih
  have H := hid h
  have HN := hid hn
  have HX := hid hx
  have HROW := hid hrow
  have HFL := hid hfl
  have HS := hid hs
  have HB0 := hid hb0
  clear ih h hn hx hrow hfl hs hm hseg hv hb0
  generalize hfs : x.it.fields = fs at *
  have HFS := hid hfs
  clear hfs
  go_enter Tryz.func134, Tryz.ntmps134
  go_wp2_with fail
  go_loopg [10, 11, 18] fs.length (fun gk fb nx jj wr => ∃ (k : Nat) (b1 : List Bool), k + gk = fs.length ∧ jj = .int .i64 k ∧ Hid (Seg wr bg 4 0 (b1.map Value.bool)) ∧ b1.length = X.length ∧ Hid (HPart X whole been b1 (EdgeT X fs k)) ∧ Below bg w wr ∧ falses b1 ≤ n)
  case atStart => exact ⟨0, been, by omega, rfl, hid HS.out, hbl, hid (HPart.start _ _ _ _), Below.refl _ _, by omega⟩
  case round =>
    obtain ⟨k, b1, hk, rfl, HS1, hb1l, HP, hbel, hfn⟩ := hrel
    have hsz := hbel.size
    have hbgw : bg < wr.heap.size := HS1.out.lt
    have hbw : Below w0.heap.size w0 wr := HB0.out.trans (hbel.mono hbg)
    by_cases hlt : k < fs.length
    · obtain ⟨f, hf⟩ : ∃ f, fs[k]? = some f := ⟨fs[k], List.getElem?_eq_getElem hlt⟩
      obtain ⟨gf, capf, hvf, hgfl, hgfs, hsf⟩ := pfield_seg (own_same HROW.out (fun q hq => hbw.block q (HROW.out.lt q hq).2)) hf
      obtain ⟨rfl, rfl⟩ : fa = some ⟨gf, 0, none⟩ ∧ fc = capf := by simpa using hvf
      have e0 : wr.cell? ⟨gf, k * 7, none⟩ = some (.int .i64 f.number) := hsf.cell (j := 0) rfl
      have e1 : wr.cell? ⟨gf, k * 7 + 1, none⟩ = some (.int .i64 f.numberAt) := hsf.cell (j := 1) rfl
      have e2 : wr.cell? ⟨gf, k * 7 + 2, none⟩ = some (.string f.name) := hsf.cell (j := 2) rfl
      have e3 : wr.cell? ⟨gf, k * 7 + 3, none⟩ = some (.int .i64 f.nameAt) := hsf.cell (j := 3) rfl
      have e4 : wr.cell? ⟨gf, k * 7 + 4, none⟩ = some (.int .i64 f.shape) := hsf.cell (j := 4) rfl
      have e5 : wr.cell? ⟨gf, k * 7 + 5, none⟩ = some (.string f.base) := hsf.cell (j := 5) rfl
      have e6 : wr.cell? ⟨gf, k * 7 + 6, none⟩ = some (.int .i64 f.baseAt) := hsf.cell (j := 6) rfl
      have hbx : Below wr.heap.size wr (wr.alloc (.cells #[.int .i64 f.number, .int .i64 f.numberAt, .string f.name, .int .i64 f.nameAt, .int .i64 f.shape, .string f.base, .int .i64 f.baseAt] 291)) := (Below.refl _ _).alloc (Nat.le_refl _) _
      have HF := hid hf
      clear hsf hvf hf
      go_wp2_with fail
      refine (findType_any _ lo _ X f.base (H.out.below (hbw.trans (hbx.mono hbw.size))) HN.out hX).mono ?_; rintro e w1 ⟨rfl, hb1⟩
      have hb13 : Below wr.heap.size wr w1 := hbx.trans (hb1.mono hbx.size)
      have hz1 := hb13.size
      have hbe1 : Below bg w w1 := hbel.trans (hb13.mono (by omega))
      have HS1' := hid (HS1.out.same (hb13.block bg hbgw))
      have d4 : w1.cell? ⟨wr.heap.size, 4, none⟩ = some (.int .i64 f.shape) := by rw [hb1.cell (by simp)]; simp
      by_cases hsh : f.shape = 0
      · have hsh' : ((f.shape : Int) == 0) = true := by simp [hsh]
        by_cases hneg : pFindI X f.base.toList < 0
        · have HSK := hid (HP.out.skip HF.out (Or.inr (Or.inl hneg)))
          generalize pFindI X f.base.toList = fi at *
          go_wp2_with fail
          go_roundg (gk - 1)
          case rel => exact ⟨k + 1, b1, by omega, by go_num, hid HS1'.out, hb1l, hid HSK.out, hbe1, hfn⟩
          case measure => omega
        · obtain ⟨nx, hnx, hnxl⟩ := find_at hneg
          have HNX := hid hnx
          rw [hnx] at hneg ⊢
          have b0 := HS1'.out.cell (j := nx) (bool_at (by omega))
          simp only [Nat.zero_add] at b0
          have hfz := HS1'.out.frozen nx
          cases hbn : bAt b1 nx with
          | true =>
            rw [hbn] at b0
            have HSK := hid (HP.out.skip HF.out (Or.inr (Or.inr ⟨nx, hnx, hbn⟩)))
            clear hnx
            go_wp2_with fail
            go_roundg (gk - 1)
            case rel => exact ⟨k + 1, b1, by omega, by go_num, hid HS1'.out, hb1l, hid HSK.out, hbe1, hfn⟩
            case measure => omega
          | false =>
            rw [hbn] at b0
            have hfalse := bAt_false (by omega) hbn
            have hfs2 := falses_set b1 nx hfalse
            have hst := HS1'.out.set nx (.bool true)
            simp only [Nat.zero_add] at hst
            rw [bool_set] at hst
            have HST := hid hst
            have hbst : Below bg w (w1.setCell ⟨bg, nx, none⟩ (.bool true)) := hbe1.setCell (Nat.le_refl _) _
            have HED := hid (show Edge X i nx from ⟨x, f, HX.out, by rw [HFS.out]; exact List.mem_of_getElem? HF.out, hsh, hnx⟩)
            clear hnx hst
            by_cases hwh : nx = whole
            · subst hwh
              go_wp2_with fail
              go_ret
              exact ⟨true, b1.set nx true, rfl, hbst, HST.out, by simp [hb1l], .one HED.out⟩
            · have hwh' : ((nx : Int) == (whole : Int)) = false := by simp; omega
              have HWH := hid hwh
              clear hwh
              go_wp2_with fail
              refine (IH.out (falses (b1.set nx true)) (by omega) w0 _ lo _ X nx whole bg (b1.set nx true) H.out HN.out hX HFL.out (HB0.out.trans (hbst.mono hbg)) hbg HST.out (by simp [hb1l]) hnxl hw rfl).mono ?_; rintro e w2 ⟨r, been2, rfl, hb2, hs2, hl2, hp2⟩
              have hbe2 := hbst.trans hb2
              have HS2 := hid hs2
              have HP2 := hid hp2
              clear hs2 hp2
              cases r with
              | true =>
                go_wp2_with fail
                go_ret
                exact ⟨true, been2, rfl, hbe2, HS2.out, hl2, .more HED.out HP2.out⟩
              | false =>
                have hfm := falses_mono (b1.set nx true) been2 (by simp [hb1l, hl2]) HP2.out.mono
                have HDP := hid (HP.out.deep HF.out HNX.out HWH.out (by omega) HP2.out)
                go_wp2_with fail
                go_roundg (gk - 1)
                case rel => exact ⟨k + 1, been2, by omega, by go_num, hid HS2.out, hl2, hid HDP.out, hbe2, by omega⟩
                case measure => omega
      · have hsh' : ((f.shape : Int) == 0) = false := by simp [hsh]
        have HSK := hid (HP.out.skip HF.out (Or.inl hsh))
        generalize pFindI X f.base.toList = fi at *
        go_wp2_with fail
        go_roundg (gk - 1)
        case rel => exact ⟨k + 1, b1, by omega, by go_num, hid HS1'.out, hb1l, hid HSK.out, hbe1, hfn⟩
        case measure => omega
    · have HE := hid (HPart.all HX.out (j := k) (by rw [HFS.out]; omega) (by rw [HFS.out]; exact HP.out))
      go_wp2_with fail
      go_ret
      exact ⟨false, b1, rfl, hbel, HS1.out, hb1l, HE.out⟩
end Go.Proofs.YtlgjlfobbpgklaaGreatDoor
/- Places put behind places: append of a row of ints, be there some or none. -/
namespace Go.Proofs.YtlgjlfobbpgklaaGreatDoor
open Go.RowKit

theorem Tryz.infoIntAt : ∃ i, Tryz.prog.info? 3 = some i ∧ i.zero = some (.int .i64 0) ∧ i.size = 1 ∧ i.bytes = 8 := by
  obtain ⟨iI, hiI, hI0, hI1, hI2⟩ := info_parts Tryz.infoInt
  exact ⟨iI, hiI, hI0, hI1, hI2⟩
theorem wp_append_pl (w : World) {o : Oper} {a : Act} {K : Act → World → Prop} {Q : Exit → Act → World → Prop} (s x : Operand)
    (ho : o.op = .call { callee := .builtin .append, args := #[s, x], argTypes := #[24, 24] })
    (v : Value) (L : List Nat) (lo : Nat) (hs : a.eval s = v) (hP : Places w lo v L) (v2 : Value) (L2 : List Nat) (lo2 : Nat) (hx : a.eval x = v2) (hP2 : Places w lo2 v2 L2)
    (hlen : L.length + L2.length ≤ 1000000) (hlo : lo ≤ w.heap.size)
    (h : ∀ a' c' w', Places w' lo (.slice a' (L ++ L2).length c') (L ++ L2) → w.grownBy w' v.ownBlock → K (a.put o.dst (.slice a' (L ++ L2).length c')) w') : o.wp Tryz.prog a w K Q := by
  obtain ⟨iI, hiI, hI0, hI1, hI2⟩ := Tryz.infoIntAt
  obtain ⟨v', w', hr, h2, h3⟩ : ∃ v' w', (Builtin.append_ #[24, 24] o.type #[v, v2]).run Tryz.prog w = .ok v' w' ∧ Places w' lo v' (L ++ L2) ∧ w.grownBy w' v.ownBlock := by
    rcases hP2.2 with ⟨rfl, h0⟩ | ⟨g, cap, cur, hv2, _⟩
    · have hL2 : L2 = [] := List.eq_nil_of_length_eq_zero h0
      subst hL2
      exact ⟨v, w, run_append_owned_none w lo 24 o.type 3 iI 1 Tryz.underlying24 hiI v L.length _ hP, by simpa using hP, ⟨rfl, rfl, rfl, Nat.le_refl _, fun _ _ _ => rfl⟩⟩
    · subst hv2
      obtain ⟨v', w', hr, h2, h3, _⟩ := run_append_own_at (P := Tryz.prog) w lo 24 o.type 3 iI (.int .i64 0) 1 8 Tryz.underlying24 hiI hI0 hI1 hI2 rfl (by decide) v L.length (L.map natCell) hP ⟨g, 0, none⟩ L2.length cap (L2.map natCell) (by simp) (hP2.cells (g := g) rfl) (fun u hu => by obtain ⟨q, _, rfl⟩ := List.mem_map.1 hu; rfl) (by unfold maxLen; omega) (by omega) hlo
      refine ⟨v', w', hr, ?_, h3⟩
      show w'.ownsRow _ _ _ _ _ _
      rw [List.length_append, List.map_append]; exact h2
  obtain ⟨a', c', hv'⟩ := own_slice h2
  subst hv'
  unfold Oper.wp execOp
  simp only [ho, resolve, invoke, builtin, Sem.run_bind, Sem.run_pure, Result.andThen_ok, List.map_toArray, List.map_cons, List.map_nil, hs, hx, hr]
  exact h a' c' w' h2 h3
theorem wpList_append_pl (w : World) {ops : Array Oper} {rest : List Oper} {o : Oper} {a : Act} {Q : Exit → Act → World → Prop} (hgd : o.guard = none) (s x : Operand)
    (ho : o.op = .call { callee := .builtin .append, args := #[s, x], argTypes := #[24, 24] })
    (v : Value) (L : List Nat) (lo : Nat) (hs : a.eval s = v) (hP : Places w lo v L) (v2 : Value) (L2 : List Nat) (lo2 : Nat) (hx : a.eval x = v2) (hP2 : Places w lo2 v2 L2)
    (hlen : L.length + L2.length ≤ 1000000) (hlo : lo ≤ w.heap.size)
    (h : ∀ a' c' w', Places w' lo (.slice a' (L ++ L2).length c') (L ++ L2) → w.grownBy w' v.ownBlock → wpList Tryz.prog ops Q rest (a.put o.dst (.slice a' (L ++ L2).length c')) w') : wpList Tryz.prog ops Q (o :: rest) a w :=
  wpList_plain hgd fun _ hK => wp_append_pl w s x ho v L lo hs hP v2 L2 lo2 hx hP2 hlen hlo fun a' c' w' h2 h3 => hK _ _ (h a' c' w' h2 h3)
end Go.Proofs.YtlgjlfobbpgklaaGreatDoor
