/- Package values: the encoder's choice. -/
import Derived.Test.YtopcgnjocklcoaaGreatDoorGPEncA
import Derived.Laws.Bits64
namespace Go.Proofs.YtopcgnjocklcoaaGreatDoor
open Go.RowKit

theorem idx_find (x : ByteArray) : ∀ (zs : List ByteArray) (i : Nat), Lib.idxFromS zs x i = match (zs.map ByteArray.toList).findIdx? (fun n => n == x.toList) with | some j => ((i + j : Nat) : Int) | none => -1
  | [], i => by simp [Lib.idxFromS]
  | z :: zs, i => by
    unfold Lib.idxFromS
    rw [List.map_cons, List.findIdx?_cons]
    by_cases h : z = x
    · subst h; simp
    · have h' : (z.toList == x.toList) = false := by
        cases e : (z.toList == x.toList) with
        | false => rfl
        | true => exact absurd (list_inj (by simpa using e)) h
      rw [h']
      have := idx_find x zs (i + 1)
      simp only [Bool.false_eq_true, if_false]
      rw [if_neg (by first | exact h | (intro e; exact h e.symm) | simpa using h), this]
      cases (zs.map ByteArray.toList).findIdx? (fun n => n == x.toList) with
      | none => rfl
      | some j => simp only [Option.map_some]; congr 1; omega
theorem sIdx_any (w : World) (lo : Nat) (na : Option Addr) (nc : Nat) (names : List ByteArray) (r : ByteArray) (h : w.ownsRow lo 9 1 (.slice na names.length nc) names.length (names.map strCell)) (hnl : names.length ≤ 400) :
    Calls Tryz.prog 129 #[.slice na names.length nc, .string r] w fun e w' => e = .returned (.int .i64 (Lib.idxFromS names r 0)) ∧ w' = w := by
  by_cases h0 : 0 < names.length
  · obtain ⟨g, cap, hv, _, _⟩ := own_form h h0
    obtain ⟨rfl, rfl⟩ : na = some ⟨g, 0, none⟩ ∧ nc = cap := by simpa using hv
    refine (Tryz.y_slices_Index_string g 0 names.length nc names r w (Nat.le_refl _) (by omega) (fun j hj => ?_)).mono (fun e w' hh => ⟨by rw [hh.1, List.take_length]; rfl, hh.2⟩)
    have := h.cellAt j (by omega)
    rw [List.getElem?_map, List.getElem?_eq_getElem hj] at this
    rw [Nat.zero_add, List.getD_eq_getElem?_getD, List.getElem?_eq_getElem hj]
    exact this
  · have : names = [] := List.eq_nil_of_length_eq_zero (by omega)
    subst this
    exact Tryz.y_slices_Index_string_empty na nc r w
set_option maxRecDepth 100000 in
set_option maxHeartbeats 1000000 in
theorem choice_any (w : World) (eb lo : Nat) (la : Option Addr) (ll lc : Nat) (t : ByteArray) (nv : Value) (names : List ByteArray) (h : Pe w eb (.slice la ll lc) t) (hs : t.size ≤ 400) (hn : w.ownsRow lo 9 1 nv names.length (names.map strCell)) (hnl : names.length ≤ 400) (hne : ∀ n ∈ names, 1 ≤ n.size) :
    Calls Tryz.prog 88 #[.pointer (some ⟨eb, 0, none⟩), nv] w (PPost (choP nameC (names.map ByteArray.toList)) w eb (.slice la ll lc) t) := by
  unfold PPost
  obtain ⟨na, nc, hnv⟩ : ∃ a c, nv = .slice a names.length c := own_slice hn
  subst hnv
  have H := hid h
  have HN := hid hn
  have HNE := hid hne
  clear h hn hne
  go_enter Tryz.func88, Tryz.ntmps88
  go_wp2_with fail
  refine (runName_any w eb la ll lc t H.out hs).mono ?_; rintro e w1 ⟨r, t1, rfl, hb1, hp1, hr1, ht1⟩
  have HP1 := hid hp1
  have HR1 := hid hr1
  have HT1 := hid ht1
  have HN1 := hid (own_same HN.out (fun g hg => hb1.block g (HN.out.lt g hg).2 (own_seg_ne HN.out H.out (by decide) hg)))
  have hsz : r.size + t1.size = t.size := by
    rw [← size_list, ← size_list t1, ← size_list t, hr1, ht1, ← List.length_append, List.takeWhile_append_dropWhile]
  have hz1 := hb1.size
  clear hp1 hr1 ht1
  go_wp2_with fail
  refine (sIdx_any w1 lo na nc names r HN1.out hnl).mono ?_; rintro e w2 ⟨rfl, rfl⟩
  rw [idx_find]
  have HCH := hid (show choP nameC (names.map ByteArray.toList) t.toList = ((names.map ByteArray.toList).findIdx? (fun n => n == r.toList)).map fun i => (vint i, t1.toList) by unfold choP; rw [HR1.out, HT1.out])
  cases hf : (names.map ByteArray.toList).findIdx? (fun n => n == r.toList) with
  | none =>
    have HF := hid hf
    clear hf
    simp only
    go_wp2_with fail
    go_ret2
    exact ⟨none, 0, [], t1, false, rfl, World.ownsRow_nil _ _ _ _, hb1, HP1.out, by omega, by simp, by rw [HCH.out, HF.out]; rfl⟩
  | some j =>
    have HF := hid hf
    have hj : j < names.length := by
      have := (List.findIdx?_eq_some_iff_getElem.1 hf).1
      rw [List.length_map] at this; exact this
    have hrs : 1 ≤ r.size := by
      obtain ⟨h1, h2, _⟩ := List.findIdx?_eq_some_iff_getElem.1 hf
      rw [List.getElem_map] at h2
      have h3 : (names[j]'hj).toList = r.toList := by simpa using h2
      rw [← size_list, ← h3, size_list]
      exact HNE.out _ (List.getElem_mem hj)
    clear hf
    simp only [Nat.zero_add]
    go_wp2_with fail
    refine (numAppend_any w2 w.heap.size (.slice none 0 0) [] j (World.ownsRow_nil _ _ _ _) (by omega) (by simp) hz1).mono ?_; rintro e w5 ⟨a5, c5, rfl, hb5, hg5⟩
    have hbe5 : Below w2.heap.size w2 w5 := hg5.below (fun k hk => by cases hk) (Nat.le_refl _)
    rw [List.nil_append] at hb5 ⊢
    have HB5 := hid hb5
    have hvl : (vint j).length ≤ 2 := vint_len 1 j (by have : (128 : Nat) ^ (1 + 1) = 16384 := by decide
                                                       omega)
    clear hb5 hg5
    go_wp2_with fail
    go_ret2
    exact ⟨a5, c5, vint j, t1, true, rfl, HB5.out, hb1.trans (But.ofBelow hbe5), HP1.out.same (hbe5.block eb HP1.out.lt), by omega, by omega, by rw [HCH.out, HF.out]; rfl⟩
end Go.Proofs.YtopcgnjocklcoaaGreatDoor
/- Package values: the encoder's integer. -/
namespace Go.Proofs.YtopcgnjocklcoaaGreatDoor
open Go.RowKit

theorem not64 (b : Nat) (h : b < 18446744073709551616) : 18446744073709551615 ^^^ b = 18446744073709551615 - b := by
  have h1 := BitVec.toNat_xor (BitVec.allOnes 64) (BitVec.ofNat 64 b)
  rw [BitVec.allOnes_xor, BitVec.toNat_not, BitVec.toNat_allOnes, BitVec.toNat_ofNat, Nat.mod_eq_of_lt (show b < 2 ^ 64 by omega)] at h1
  exact h1.symm
theorem zig_neg {n : Int} (h : n < 0) (h1 : -9223372036854775808 ≤ n) : bits BinOp.xor IntKind.u64 IntKind.u64.max (IntKind.u64.wrap (IntKind.u64.wrap n * 2)) = (zigN n : Int) := by
  obtain ⟨b, hb⟩ : ∃ b : Nat, IntKind.u64.wrap (IntKind.u64.wrap n * 2) = (b : Int) ∧ (b : Int) = 2 * n + 18446744073709551616 := ⟨(2 * n + 18446744073709551616).toNat, by rw [IntKind.wrap_u64, IntKind.wrap_u64]; omega, by omega⟩
  rw [hb.1, show IntKind.u64.max = ((18446744073709551615 : Nat) : Int) by decide, bits_xor_u64_nat _ _ (by omega) (by omega), not64 b (by omega)]
  unfold zigN; rw [if_pos h]; omega
def okOf (l : List UInt8) : Option Int := match Lib.parseIntB 64 l with | .ok v => some v | _ => none
theorem parseInt_any (s : ByteArray) (w : World) (hs : s.size ≤ 400) (hE : Env w) :
    Calls Tryz.prog 127 #[.string s, .int .i64 10, .int .i64 64] w fun e w' => Below w.heap.size w w' ∧ ((∃ v, okOf s.toList = some v ∧ e = .returned (.tuple #[.int .i64 v, .nilIface])) ∨ (okOf s.toList = none ∧ ∃ (v : Int) (N : Nat) (T : TypeId), e = .returned (.tuple #[.int .i64 v, .iface T (.pointer (some ⟨N, 0, none⟩))]))) := by
  obtain ⟨te, pe, hsx⟩ := hE.v.sx
  obtain ⟨te2, pe2, hrg⟩ := hE.v.rg
  unfold okOf
  rw [ByteArray.toList_eq]
  cases h : Lib.parseIntB 64 s.data.toList with
  | ok v =>
    refine (Tryz.y_strconv_ParseInt_10_at64_ok s (by omega) v h w).mono ?_
    rintro e w1 ⟨rfl, hw1⟩
    refine ⟨?_, Or.inl ⟨v, rfl, rfl⟩⟩
    rcases hw1 with rfl | ⟨t, rfl⟩
    · exact Below.refl _ _
    · exact Joins.below_bytesWorld _ _ _ _ (Nat.le_refl _)
  | range =>
    refine (Tryz.y_strconv_ParseInt_10_at64_range s (by omega) h _ w hrg (Or.inr ⟨te2, pe2, rfl⟩)).mono ?_
    rintro e w1 ⟨N, rfl, _, _, hb⟩
    exact ⟨hb, Or.inr ⟨rfl, _, N, _, rfl⟩⟩
  | _ =>
    refine (Tryz.y_strconv_ParseInt_10_at64_no s (by omega) ⟨fun v hh => (by rw [h] at hh; cases hh),fun hh => (by rw [h] at hh; cases hh)⟩ _ w hsx (Or.inr ⟨te, pe, rfl⟩)).mono ?_
    rintro e w1 ⟨N, rfl, _, _, hb⟩
    exact ⟨hb, Or.inr ⟨rfl, _, N, _, rfl⟩⟩
set_option maxRecDepth 100000 in
set_option maxHeartbeats 1000000 in
theorem pinteger_any (w : World) (eb : Nat) (la : Option Addr) (ll lc : Nat) (t : ByteArray) (h : Pe w eb (.slice la ll lc) t) (hs : t.size ≤ 400) (hE : Env w) (hO : Own eb) :
    Calls Tryz.prog 87 #[.pointer (some ⟨eb, 0, none⟩)] w (PPost (intP intC) w eb (.slice la ll lc) t) := by
  unfold PPost
  have H := hid h
  have HE := hid hE
  clear h hE
  go_enter Tryz.func87, Tryz.ntmps87
  go_wp2_with fail
  refine (runInt_any w eb la ll lc t H.out hs).mono ?_; rintro e w1 ⟨r, t1, rfl, hb1, hp1, hr1, ht1⟩
  have HP1 := hid hp1
  have HSP := hid (show intP intC t.toList = (intOf r.toList).map fun n => (vint (zigN n), t1.toList) by unfold intP; rw [hr1, ht1])
  have hsz : r.size + t1.size = t.size := by
    rw [← size_list, ← size_list t1, ← size_list t, hr1, ht1, ← List.length_append, List.takeWhile_append_dropWhile]
  have HE1 := hid (HE.out.but hb1 hO)
  clear hp1 hr1 ht1
  go_wp2_with fail
  refine (parseInt_any r w1 (by omega) HE1.out).mono ?_
  rintro e w2 ⟨hb2, ⟨n, hok, rfl⟩ | ⟨hno, v, N, T, rfl⟩⟩
  · have HOK := hid hok
    have hb02 := hb1.trans (But.ofBelow hb2)
    have HP2 := hid (HP1.out.same (hb2.block eb HP1.out.lt))
    have HE2 := hid (HE1.out.below hb2)
    clear hok
    have hz2 := hb02.size
    have hin : In64 n := parse_in (t := r.toList) (by
      have := HOK.out
      unfold okOf at this
      cases h : Lib.parseIntB 64 r.toList with
      | ok v => rw [h] at this; simp only [Option.some.injEq] at this; rw [this]
      | range => rw [h] at this; cases this
      | _ => rw [h] at this; cases this)
    obtain ⟨hi1, hi2⟩ := hin
    go_wp2_with fail
    refine (Tryz.y_strconv_FormatInt_10 n hi1 hi2 _ HE2.out.t).mono ?_; rintro e w3 ⟨rfl, kk, os, hw3⟩
    have hbw3 : Below w2.heap.size w2 w3 := by rw [hw3]; exact below_grow _ _ _
    have HP3 := hid (HP2.out.same (hbw3.block eb HP2.out.lt))
    have hb3 := hb02.trans (But.ofBelow hbw3)
    have hz3 := hb3.size
    clear hw3 hbw3
    have hfl : (ByteArray.mk (Lib.itoa n).toArray).toList = Lib.itoa n := by rw [ByteArray.toList_eq]
    generalize ByteArray.mk (Lib.itoa n).toArray = fb at *
    have HIO := hid (show intOf r.toList = if Lib.itoa n = r.toList then some n else none from by
      have := HOK.out
      unfold okOf at this
      unfold intOf
      cases h : Lib.parseIntB 64 r.toList with
      | ok v => rw [h] at this; simp only [Option.some.injEq] at this; rw [this]
      | range => rw [h] at this; cases this
      | _ => rw [h] at this; cases this)
    rw [← hfl] at HIO
    cases heq : (fb.toList == r.toList) with
    | false =>
      have HS := hid (show intOf r.toList = none by rw [HIO.out, if_neg (by simpa using heq)])
      have hne : (fb.toList != r.toList) = true := by simpa using heq
      clear hfl
      go_wp2_with fail
      go_ret2
      exact ⟨none, 0, [], t1, false, rfl, World.ownsRow_nil _ _ _ _, hb3, HP3.out, by omega, by simp, by rw [HSP.out, HS.out]; rfl⟩
    | true =>
      have HS := hid (show intOf r.toList = some n by rw [HIO.out, if_pos (by simpa using heq)])
      have hne : (fb.toList != r.toList) = false := by simp at heq ⊢; exact heq
      have HSN := hid (show intP intC t.toList = some (vint (zigN n), t1.toList) by rw [HSP.out, HS.out]; rfl)
      have hlw := vint_int (n := n) hi1 hi2
      rw [intOf_some HS.out, size_list] at hlw
      clear hfl
      by_cases hn : n < 0
      · go_wp2_with fail
        rw [zig_neg hn hi1]
        have hz64 : zigN n < 18446744073709551616 := by unfold zigN; split <;> omega
        refine (numAppend_any _ w.heap.size _ [] (zigN n) (World.ownsRow_nil _ _ _ _) hz64 (by simp) hz3).mono ?_; rintro e w4 ⟨a4, c4, rfl, hb4, hg4⟩
        have hbe4 : Below w3.heap.size w3 w4 := hg4.below (fun k hk => by cases hk) (Nat.le_refl _)
        rw [List.nil_append] at hb4 ⊢
        have HB4 := hid hb4
        clear hb4 hg4
        generalize vint (zigN n) = out at *
        go_wp2_with fail
        go_ret2
        exact ⟨a4, c4, out, t1, true, rfl, HB4.out, hb3.trans (But.ofBelow hbe4), HP3.out.same (hbe4.block eb HP3.out.lt), by omega, by omega, HSN.out⟩
      · go_wp2_with fail
        rw [show n * 2 = (zigN n : Int) by unfold zigN; rw [if_neg (by omega)]; omega]
        have hz64 : zigN n < 18446744073709551616 := by unfold zigN; split <;> omega
        refine (numAppend_any _ w.heap.size _ [] (zigN n) (World.ownsRow_nil _ _ _ _) hz64 (by simp) hz3).mono ?_; rintro e w4 ⟨a4, c4, rfl, hb4, hg4⟩
        have hbe4 : Below w3.heap.size w3 w4 := hg4.below (fun k hk => by cases hk) (Nat.le_refl _)
        rw [List.nil_append] at hb4 ⊢
        have HB4 := hid hb4
        clear hb4 hg4
        generalize vint (zigN n) = out at *
        go_wp2_with fail
        go_ret2
        exact ⟨a4, c4, out, t1, true, rfl, HB4.out, hb3.trans (But.ofBelow hbe4), HP3.out.same (hbe4.block eb HP3.out.lt), by omega, by omega, HSN.out⟩
  · have HNO := hid (show intOf r.toList = none from by
      unfold okOf at hno; unfold intOf
      cases h : Lib.parseIntB 64 r.toList with
      | ok v => rw [h] at hno; cases hno
      | range => rfl
      | _ => rfl)
    clear hno
    go_wp2_with fail
    go_ret2
    exact ⟨none, 0, [], t1, false, rfl, World.ownsRow_nil _ _ _ _, hb1.trans (But.ofBelow hb2), HP1.out.same (hb2.block eb HP1.out.lt), by omega, by simp, by rw [HSP.out, HNO.out]; rfl⟩
end Go.Proofs.YtopcgnjocklcoaaGreatDoor
/- Package values: what the encoder is to do, by the program's items. -/
namespace Go.Proofs.YtopcgnjocklcoaaGreatDoor
open Go.RowKit

def fdP (f : PField) : FD := ⟨f.number.toNat, f.name.toList, f.shape, f.base.toList⟩
/-- the types of a schema, by the program's items -/
def tyP (X : List PIV) (base : List UInt8) : Option TD := match X[(pFindI X base).toNat]? with
  | none => none
  | some x => if pFindI X base < 0 then none else if x.it.kind = 0 then some (.inr (x.it.fields.map fdP)) else some (.inl (x.it.names.map fun t => t.text.toList))
abbrev encP (X : List PIV) (n : Nat) := encE intC nameC (tyP X) n
/-- what parse gives -/
structure XOk (X : List PIV) : Prop where
  nms : Nms X
  len : X.length ≤ 400
  n : ∀ x ∈ X, ∀ f ∈ x.it.fields, 0 ≤ f.number ∧ f.number ≤ 99
  s : ∀ x ∈ X, ∀ f ∈ x.it.fields, 1 ≤ f.name.size ∧ f.name.size ≤ 400
  fl : ∀ x ∈ X, x.it.fields.length ≤ 400
  nl : ∀ x ∈ X, x.it.names.length ≤ 400
  nn : ∀ x ∈ X, ∀ t ∈ x.it.names, 1 ≤ t.text.size ∧ t.text.size ≤ 400
/-- what value is to do where n levels may still be -/
def PVal (X : List PIV) (n : Nat) : Prop := ∀ (w : World) (eb lo : Nat) (la : Option Addr) (ll lc : Nat) (t base : ByteArray), PIts w lo (.slice la ll lc) X → Pe w eb (.slice la ll lc) t → Env w → Own eb → t.size ≤ 400 →
  Calls Tryz.prog 51 #[.pointer (some ⟨eb, 0, none⟩), .string base, .int .i64 ((7 : Int) - n)] w (PPost ((encP X n).1 base.toList) w eb (.slice la ll lc) t)
def PLst (X : List PIV) (n : Nat) : Prop := ∀ (w : World) (eb lo : Nat) (la : Option Addr) (ll lc : Nat) (t base : ByteArray), PIts w lo (.slice la ll lc) X → Pe w eb (.slice la ll lc) t → Env w → Own eb → t.size ≤ 400 →
  Calls Tryz.prog 167 #[.pointer (some ⟨eb, 0, none⟩), .string base, .int .i64 ((7 : Int) - n)] w (PPost ((encP X n).2 base.toList) w eb (.slice la ll lc) t)
theorem PIts.but {w w' : World} {lo eb : Nat} {lv : Value} {X : List PIV} {t : ByteArray} {lv2 : Value} (h : PIts w lo lv X) (hc : Pe w eb lv2 t) (hb : But eb w w') : PIts w' lo lv X := by
  have own : ∀ {e : TypeId} {size n : Nat} {v : Value} {ys : List Value}, e ≠ 106 → w.ownsRow lo e size v n ys → w'.ownsRow lo e size v n ys := fun he h1 => own_same h1 (fun g hg => hb.block g (h1.lt g hg).2 (own_seg_ne h1 hc he hg))
  refine ⟨own (by decide) h.own, fun x hx => ?_⟩
  have hx' := h.nest x hx
  exact { hx' with f := own (by decide) hx'.f, n := own (by decide) hx'.n }
def LSp (G : Got) (val : List UInt8 → Got) (T : List UInt8) (m : Nat) (out : List UInt8) : Prop := m ≤ 16 ∧ G = (listGo val (16 - m) (decide (m = 0)) T).map fun x => (out ++ x.1, x.2)
theorem LSp.shut {G : Got} {val : List UInt8 → Got} {T r : List UInt8} {m : Nat} {out : List UInt8} (h : LSp G val T m out) (he : eatP [93] T = some r) : G = some (out, r) := by
  rw [h.2, listGo_eq, he]; simp
theorem LSp.full {G : Got} {val : List UInt8 → Got} {T : List UInt8} {out : List UInt8} (h : LSp G val T 16 out) (he : eatP [93] T = none) : G = none := by
  rw [h.2, listGo_eq, he]; rfl
theorem LSp.noComma {G : Got} {val : List UInt8 → Got} {T : List UInt8} {m : Nat} {out : List UInt8} (h : LSp G val T m out) (he : eatP [93] T = none) (hm : m ≠ 0) (hc : eatP [44] T = none) : G = none := by
  rw [h.2, listGo_eq, he]
  cases 16 - m with
  | zero => rfl
  | succ q => simp [hm, hc]
theorem LSp.value {G : Got} {val : List UInt8 → Got} {T T1 : List UInt8} {m : Nat} {out : List UInt8} (h : LSp G val T m out) (he : eatP [93] T = none) (hm : m < 16) (h1 : (m = 0 ∧ T1 = T) ∨ (m ≠ 0 ∧ eatP [44] T = some T1)) :
    (val T1 = none → G = none) ∧ (∀ v T2, val T1 = some (v, T2) → LSp G val T2 (m + 1) (out ++ vsized v)) := by
  have h' := h.2
  rw [listGo_eq, he] at h'
  obtain ⟨q, hq⟩ : ∃ q, 16 - m = q + 1 := ⟨15 - m, by omega⟩
  rw [hq] at h'
  have ht : (if decide (m = 0) = true then some T else eatP [44] T) = some T1 := by
    rcases h1 with ⟨e1, e2⟩ | ⟨e1, e2⟩
    · simp [e1, e2]
    · simp [e1, e2]
  simp only [ht, Option.bind_some] at h'
  refine ⟨fun hv => by rw [h', hv]; rfl, fun v T2 hv => ⟨by omega, ?_⟩⟩
  rw [h', hv, show 16 - (m + 1) = q by omega, show decide (m + 1 = 0) = false by simp]
  simp only [Option.bind_some, Option.map_map]
  congr 1
  funext x
  simp
/-- what stands ahead of a field that is not the first -/
def btw : Bool → ByteArray
  | true => ⟨#[]⟩
  | false => ⟨#[44]⟩
theorem btw_list (b : Bool) : (btw b).toList = if b then [] else [44] := by
  cases b
  · simp only [btw]; rw [ByteArray.toList_eq]; rfl
  · simp only [btw]; rw [ByteArray.toList_eq]; rfl
def FSp (G : Got) (val lst : List UInt8 → List UInt8 → Got) (fs : List FD) (T : List UInt8) (j : Nat) (first : Bool) (out : List UInt8) : Prop := G = (fieldsGo val lst (fs.drop j) first T).map fun x => (out ++ x.1, x.2)
theorem FSp.shut {G : Got} {val lst : List UInt8 → List UInt8 → Got} {fs : List FD} {T : List UInt8} {j : Nat} {first : Bool} {out : List UInt8} (h : FSp G val lst fs T j first out) (hj : fs.length ≤ j) : G = (eatP [125] T).map fun r => (out, r) := by
  unfold FSp at h
  rw [h, List.drop_eq_nil_of_le hj]
  unfold fieldsGo
  cases eatP [125] T <;> simp
theorem FSp.skip {G : Got} {val lst : List UInt8 → List UInt8 → Got} {fs : List FD} {T : List UInt8} {j : Nat} {first : Bool} {out : List UInt8} {f : FD} (h : FSp G val lst fs T j first out) (hf : fs[j]? = some f) (he : eatP ((if first then [] else [44]) ++ f.name ++ [58]) T = none) (hs : f.shape = 1) : FSp G val lst fs T (j + 1) first out := by
  unfold FSp at h ⊢
  have hlt := at_lt hf
  rw [h, List.drop_eq_getElem_cons hlt]
  have e : fs[j] = f := by rw [List.getElem?_eq_getElem hlt] at hf; simpa using hf
  rw [e]
  conv => lhs; unfold fieldsGo
  rw [he]; simp only [if_pos hs]
theorem FSp.lack {G : Got} {val lst : List UInt8 → List UInt8 → Got} {fs : List FD} {T : List UInt8} {j : Nat} {first : Bool} {out : List UInt8} {f : FD} (h : FSp G val lst fs T j first out) (hf : fs[j]? = some f) (he : eatP ((if first then [] else [44]) ++ f.name ++ [58]) T = none) (hs : f.shape ≠ 1) : G = none := by
  unfold FSp at h
  have hlt := at_lt hf
  rw [h, List.drop_eq_getElem_cons hlt]
  have e : fs[j] = f := by rw [List.getElem?_eq_getElem hlt] at hf; simpa using hf
  rw [e]
  unfold fieldsGo
  rw [he]; simp only [if_neg hs]; rfl
theorem FSp.value {G : Got} {val lst : List UInt8 → List UInt8 → Got} {fs : List FD} {T T1 : List UInt8} {j : Nat} {first : Bool} {out : List UInt8} {f : FD} (h : FSp G val lst fs T j first out) (hf : fs[j]? = some f) (he : eatP ((if first then [] else [44]) ++ f.name ++ [58]) T = some T1) :
    ((if f.shape = 2 then lst f.base T1 else val f.base T1) = none → G = none) ∧ (∀ v T2, (if f.shape = 2 then lst f.base T1 else val f.base T1) = some (v, T2) → FSp G val lst fs T2 (j + 1) false ((out ++ vint f.number) ++ vsized v)) := by
  unfold FSp at h ⊢
  have hlt := at_lt hf
  rw [List.drop_eq_getElem_cons hlt] at h
  have e : fs[j] = f := by rw [List.getElem?_eq_getElem hlt] at hf; simpa using hf
  rw [e] at h
  unfold fieldsGo at h
  rw [he] at h
  refine ⟨fun hv => by rw [h]; simp only [hv]; rfl, fun v T2 hv => ?_⟩
  rw [h]
  simp only [hv, Option.bind_some, Option.map_map]
  congr 1
  funext x
  simp
end Go.Proofs.YtopcgnjocklcoaaGreatDoor
