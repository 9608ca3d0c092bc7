/- Package values: the encoder's take, next, isPlain, digit. -/
import Derived.Test.YtopcgnjocklcoaaGreatDoorGEncL
import Derived.Test.YtopcgnjocklcoaaGreatDoorShelf3
import Derived.Shelf.Strings.SlTrimAscii
namespace Go.Proofs.YtopcgnjocklcoaaGreatDoor
open Go.RowKit

/-- the encoder in memory -/
def Pe (w : World) (eb : Nat) (lv : Value) (t : ByteArray) : Prop := Seg w eb 106 0 [lv, .string t]
theorem Pe.lt {w : World} {eb : Nat} {lv : Value} {t : ByteArray} (h : Pe w eb lv t) : eb < w.heap.size := Seg.lt h
theorem Pe.same {w w' : World} {eb : Nat} {lv : Value} {t : ByteArray} (h : Pe w eb lv t) (hb : w'.heap[eb]? = w.heap[eb]?) : Pe w' eb lv t := Seg.same h hb
theorem Pe.put {w : World} {eb : Nat} {lv : Value} {t : ByteArray} (h : Pe w eb lv t) (u : ByteArray) : Pe (w.setCell ⟨eb, 1, none⟩ (.string u)) eb lv u := Seg.set h 1 (.string u)
theorem Pe.rest {w : World} {eb : Nat} {lv : Value} {t : ByteArray} (h : Pe w eb lv t) : w.cell? ⟨eb, 1, none⟩ = some (.string t) := Seg.cell h (j := 1) rfl
theorem Pe.items {w : World} {eb : Nat} {lv : Value} {t : ByteArray} (h : Pe w eb lv t) : w.cell? ⟨eb, 0, none⟩ = some lv := Seg.cell h (j := 0) rfl
theorem eat_prefix (p t : List UInt8) : (eatP p t).isSome = Lib.hasPrefix t p := by unfold eatP Lib.hasPrefix; cases p.isPrefixOf t <;> simp
theorem eat_trim (p t : List UInt8) : (eatP p t).getD t = Lib.trimPrefix t p := by unfold eatP Lib.trimPrefix Lib.hasPrefix; cases p.isPrefixOf t <;> simp
theorem cutPrefix_any (t p : ByteArray) (w : World) :
    Calls Tryz.prog 164 #[.string t, .string p] w fun e w' => ∃ t' : ByteArray, e = .returned (.tuple #[.string t', .bool (eatP p.toList t.toList).isSome]) ∧ w' = w ∧ t'.toList = (eatP p.toList t.toList).getD t.toList := by
  refine (Tryz.y_strings_CutPrefix t p w).mono ?_
  rintro e w1 ⟨rfl, rfl⟩
  refine ⟨⟨(Lib.trimPrefix t.data.toList p.data.toList).toArray⟩, ?_, rfl, ?_⟩
  · rw [eat_prefix, ByteArray.toList_eq, ByteArray.toList_eq]
  · rw [eat_trim, ByteArray.toList_eq, ByteArray.toList_eq, ByteArray.toList_eq]
set_option maxHeartbeats 400000 in
theorem isPlain_any (c : Int) (w : World) :
    Calls Tryz.prog 137 #[.int .u8 c] w fun e w' => e = .returned (.bool (plainI c)) ∧ w' = w := by
  unfold plainI
  by_cases h1 : 32 ≤ c
  · by_cases h2 : c ≤ 126
    · cases h3 : (c == 34) <;> cases h4 : (c == 92) <;>
      (go_enter Tryz.func137, Tryz.ntmps137
       go_wp2
       all_goals (go_ret; simp_all))
    · have hd : decide (c ≤ 126) = false := by simpa using h2
      rw [hd]
      go_enter Tryz.func137, Tryz.ntmps137
      go_wp2
      go_ret
      exact ⟨ret_bool (by simp), rfl⟩
  · have hd : decide (32 ≤ c) = false := by simpa using h1
    rw [hd]
    go_enter Tryz.func137, Tryz.ntmps137
    go_wp2
    go_ret
    exact ⟨ret_bool (by simp), rfl⟩
set_option maxRecDepth 100000 in
set_option maxHeartbeats 1000000 in
theorem take_any (w : World) (eb : Nat) (la : Option Addr) (ll lc : Nat) (t p : ByteArray) (h : Pe w eb (.slice la ll lc) t) :
    Calls Tryz.prog 130 #[.pointer (some ⟨eb, 0, none⟩), .string p] w fun e w' => ∃ t' : ByteArray, e = .returned (.bool (eatP p.toList t.toList).isSome) ∧ But eb w w' ∧ Pe w' eb (.slice la ll lc) t' ∧ t'.toList = (eatP p.toList t.toList).getD t.toList := by
  have c1 := h.rest
  have hf1 := Seg.frozen h 1
  have H := hid h
  have HC := hid (cutPrefix_any t p w)
  clear h
  generalize (eatP p.toList t.toList).isSome = r at *
  generalize (eatP p.toList t.toList).getD t.toList = T at *
  go_enter Tryz.func130, Tryz.ntmps130
  go_wp2_with fail
  refine HC.out.mono ?_; rintro e w1 ⟨t', rfl, rfl, ht'⟩
  have HT := hid ht'
  clear ht'
  go_wp2_with fail
  go_ret
  exact ⟨t', rfl, (But.refl _ _).setCell _ _, H.out.put t', HT.out⟩
set_option maxRecDepth 100000 in
set_option maxHeartbeats 1000000 in
theorem next_any (w : World) (eb : Nat) (la : Option Addr) (ll lc : Nat) (t : ByteArray) (h : Pe w eb (.slice la ll lc) t) :
    Calls Tryz.prog 166 #[.pointer (some ⟨eb, 0, none⟩)] w fun e w' => (t.toList = [] ∧ e = .returned (.tuple #[.int .u8 0, .bool false]) ∧ w' = w) ∨ ∃ (c : UInt8) (t' : ByteArray), t.toList = c :: t'.toList ∧ e = .returned (.tuple #[.int .u8 c.toNat, .bool true]) ∧ But eb w w' ∧ Pe w' eb (.slice la ll lc) t' := by
  have c1 := h.rest
  have hf1 := Seg.frozen h 1
  have H := hid h
  clear h
  by_cases h0 : t.size = 0
  · have hl : t.toList = [] := by rw [← List.length_eq_zero_iff, size_list]; exact h0
    have HL := hid hl
    have hem : t.toList.isEmpty = true := by rw [hl]; rfl
    clear hl
    go_enter Tryz.func166, Tryz.ntmps166
    go_wp2_with fail
    go_ret2
    exact Or.inl ⟨HL.out, rfl, rfl⟩
  · have hlt : 0 < t.size := by omega
    have hem : t.toList.isEmpty = false := by
      cases e : t.toList with
      | nil => have := size_list t; rw [e] at this; simp at this; omega
      | cons a r => rfl
    have HTL := hid (show t.toList = t[0] :: (t.extract 1 t.size).toList by
      have h1 := tail_cons t 0 hlt
      rw [tail_zero] at h1
      rw [h1, ext_list]
      unfold tailB
      rw [List.take_of_length_le (by rw [List.length_drop, size_list]; omega)])
    go_enter Tryz.func166, Tryz.ntmps166
    go_wp2_with fail
    go_ret2
    exact Or.inr ⟨t[0], t.extract 1 t.size, HTL.out, rfl, (But.refl _ _).setCell _ _, H.out.put _⟩
def hexL : List UInt8 := [48, 49, 50, 51, 52, 53, 54, 55, 56, 57, 97, 98, 99, 100, 101, 102]
theorem hex_index (c : UInt8) : Lib.indexByte hexL c = hexI (c.toNat : Int) := by
  have all : ∀ a : Fin 256, Lib.indexByte hexL (UInt8.ofNat a.val) = hexI ((UInt8.ofNat a.val).toNat : Int) := by decide +kernel
  have := all ⟨c.toNat, c.toNat_lt⟩
  simpa using this
theorem hexIdx_any (c : UInt8) (z : Int) (hz : z = (c.toNat : Int)) (w : World) :
    Calls Tryz.prog 188 #[.string ⟨#[48, 49, 50, 51, 52, 53, 54, 55, 56, 57, 97, 98, 99, 100, 101, 102]⟩, .int .u8 z] w fun e w' => e = .returned (.int .i64 (hexI (c.toNat : Int))) ∧ w' = w := by
  refine (Tryz.y_strings_IndexByte _ z w).mono ?_
  rintro e w1 ⟨rfl, rfl⟩
  refine ⟨?_, rfl⟩
  rw [← hex_index, hz]
  simp [hexL]
/-- what a digit that stands there is -/
def digP (t : List UInt8) : Option (Nat × List UInt8) := match t with | [] => none | c :: r => (hexV c).map fun h => (h, r)
theorem hexV_lt {c : UInt8} {h : Nat} (e : hexV c = some h) : h ≤ 15 := by
  have := hex_eq c
  rw [e] at this
  rcases hexI_range (c.toNat : Int) with k | k
  · simp only at this; omega
  · simp only at this; omega
set_option maxRecDepth 100000 in
set_option maxHeartbeats 1000000 in
theorem pdigit_any (w : World) (eb : Nat) (la : Option Addr) (ll lc : Nat) (t : ByteArray) (h : Pe w eb (.slice la ll lc) t) :
    Calls Tryz.prog 165 #[.pointer (some ⟨eb, 0, none⟩)] w fun e w' => ∃ (b : Nat) (ok : Bool) (t' : ByteArray), e = .returned (.tuple #[.int .u8 b, .bool ok]) ∧ b ≤ 255 ∧ But eb w w' ∧ Pe w' eb (.slice la ll lc) t' ∧ t'.size ≤ t.size ∧ (match ok with | true => digP t.toList = some (b, t'.toList) ∧ b ≤ 15 | false => digP t.toList = none) := by
  have H := hid h
  clear h
  go_enter Tryz.func165, Tryz.ntmps165
  go_wp2_with fail
  refine (next_any w eb la ll lc t H.out).mono ?_
  rintro e w1 (⟨hnil, rfl, rfl⟩ | ⟨c, t', htl, rfl, hb1, hp1⟩)
  · have HN := hid hnil
    clear hnil
    go_wp2_with fail
    refine (hexIdx_any 0 0 rfl _).mono ?_; rintro e w2 ⟨rfl, rfl⟩
    rw [show hexI (((0 : UInt8).toNat : Nat) : Int) = -1 by decide]
    go_wp2_with fail
    go_ret2
    exact ⟨255, false, t, rfl, by omega, But.refl _ _, H.out, Nat.le_refl _, by rw [HN.out]; rfl⟩
  · have HTL := hid htl
    have HP1 := hid hp1
    have hsz : t'.size ≤ t.size := by rw [← size_list, ← size_list, htl]; simp
    clear htl hp1
    go_wp2_with fail
    refine (hexIdx_any c (c.toNat : Int) rfl _).mono ?_; rintro e w2 ⟨rfl, rfl⟩
    have hx := hex_eq c
    cases hv : hexV c with
    | none =>
      rw [hv] at hx
      simp only at hx
      rw [← hx]
      have HV := hid hv
      clear hv hx
      go_wp2_with fail
      go_ret2
      exact ⟨255, false, t', rfl, by omega, hb1, HP1.out, hsz, by rw [HTL.out]; simp [digP, HV.out]⟩
    | some q =>
      have hq := hexV_lt hv
      rw [hv] at hx
      simp only at hx
      rw [← hx]
      have HV := hid hv
      clear hv hx
      go_wp2_with fail
      go_ret2
      exact ⟨q, true, t', rfl, by omega, hb1, HP1.out, hsz, by rw [HTL.out]; simp [digP, HV.out], hq⟩
end Go.Proofs.YtopcgnjocklcoaaGreatDoor
/- Package values: the encoder's letter and letters. -/
namespace Go.Proofs.YtopcgnjocklcoaaGreatDoor
open Go.RowKit

def letP (t : List UInt8) : Option (UInt8 × List UInt8) := match t with
  | [] => none
  | c :: r => if c = 92 then (digP r).bind fun x => (digP x.2).bind fun y => if plainC (16 * x.1 + y.1).toUInt8 then none else some ((16 * x.1 + y.1).toUInt8, y.2)
    else if plainC c then some (c, r) else none
def LetPost (w : World) (eb : Nat) (lv : Value) (t : ByteArray) (e : Ending) (w' : World) : Prop :=
  ∃ (bv : Value) (ok : Bool) (t' : ByteArray), e = .returned (.tuple #[bv, .bool ok]) ∧ But eb w w' ∧ Pe w' eb lv t' ∧ t'.size ≤ t.size ∧ (match ok with | true => ∃ c : UInt8, bv = .int .u8 c.toNat ∧ letP t.toList = some (c, t'.toList) ∧ t'.size < t.size | false => letP t.toList = none)
theorem list_inj {a b : ByteArray} (h : a.toList = b.toList) : a = b := by rw [text_eq h, ← text_eq (rfl : b.toList = b.toList)]
theorem take_true {c : UInt8} {t t1 : ByteArray} (h : (eatP [c] t.toList).isSome = true) (h1 : t1.toList = (eatP [c] t.toList).getD t.toList) : t.toList = c :: t1.toList := by
  cases e : eatP [c] t.toList with
  | none => rw [e] at h; cases h
  | some r =>
    have := eatP_some e
    rw [e] at h1
    simp only [Option.getD_some] at h1
    rw [this, h1]; rfl
theorem take_false {p : List UInt8} {t t1 : ByteArray} (h : (eatP p t.toList).isSome = false) (h1 : t1.toList = (eatP p t.toList).getD t.toList) : t1 = t := by
  rw [eat_none h] at h1; exact list_inj h1
theorem take_not {c : UInt8} {t : List UInt8} (h : (eatP [c] t).isSome = false) (r : List UInt8) : t ≠ c :: r := by
  intro e; subst e; simp [eatP, List.isPrefixOf] at h
theorem or16 {a b : Nat} (ha : a ≤ 15) (hb : b ≤ 15) : bits BinOp.or IntKind.u8 ((a : Int) * 16) (b : Int) = (((16 * a + b).toUInt8).toNat : Int) := by
  have all : ∀ a b : Fin 16, bits BinOp.or IntKind.u8 ((a.val : Int) * 16) (b.val : Int) = (((16 * a.val + b.val).toUInt8).toNat : Int) := by decide +kernel
  exact all ⟨a, by omega⟩ ⟨b, by omega⟩
theorem slashB : (ByteArray.mk #[92]).toList = [92] := by rw [ByteArray.toList_eq]
set_option maxRecDepth 100000 in
set_option maxHeartbeats 1000000 in
theorem letter_any (w : World) (eb : Nat) (la : Option Addr) (ll lc : Nat) (t : ByteArray) (h : Pe w eb (.slice la ll lc) t) :
    Calls Tryz.prog 131 #[.pointer (some ⟨eb, 0, none⟩)] w (LetPost w eb (.slice la ll lc) t) := by
  unfold LetPost
  have H := hid h
  clear h
  go_enter Tryz.func131, Tryz.ntmps131
  go_wp2_with fail
  refine (take_any w eb la ll lc t (ByteArray.mk #[92]) H.out).mono ?_; rintro e w1 ⟨t1, rfl, hb1, hp1, ht1⟩
  rw [slashB] at ht1 ⊢
  have HP1 := hid hp1
  have HT1 := hid ht1
  clear hp1 ht1
  cases hr : (eatP [92] t.toList).isSome with
  | true =>
    have HR := hid hr
    clear hr
    go_wp2_with fail
    refine (pdigit_any w1 eb la ll lc t1 HP1.out).mono ?_; rintro e w2 ⟨b2, ok2, t2, rfl, hb2l, hb2, hp2, hs2, hm2⟩
    have HP2 := hid hp2
    have HM2 := hid hm2
    clear hp2 hm2
    go_wp2_with fail
    refine (pdigit_any w2 eb la ll lc t2 HP2.out).mono ?_; rintro e w3 ⟨b3, ok3, t3, rfl, hb3l, hb3, hp3, hs3, hm3⟩
    have HP3 := hid hp3
    have HM3 := hid hm3
    clear hp3 hm3
    have HTT := hid (take_true HR.out HT1.out)
    have hs1 : t1.size < t.size := by rw [← size_list, ← size_list t, HTT.out]; simp
    have hbut := (hb1.trans hb2).trans hb3
    cases ok2 with
    | false =>
      go_wp2_with fail
      go_ret2
      exact ⟨_, false, t3, rfl, hbut, HP3.out, by omega, by rw [HTT.out]; simp [letP, show digP t1.toList = none from HM2.out]⟩
    | true =>
      have hd2 : digP t1.toList = some (b2, t2.toList) ∧ b2 ≤ 15 := HM2.out
      have HD2 := hid hd2.1
      have hb15 := hd2.2
      clear hd2
      cases ok3 with
      | false =>
        go_wp2_with fail
        go_ret2
        exact ⟨_, false, t3, rfl, hbut, HP3.out, by omega, by rw [HTT.out]; simp [letP, HD2.out, show digP t2.toList = none from HM3.out]⟩
      | true =>
        have hd3 : digP t2.toList = some (b3, t3.toList) ∧ b3 ≤ 15 := HM3.out
        have HD3 := hid hd3.1
        have hb15' := hd3.2
        clear hd3
        go_wp2_with fail
        rw [or16 hb15 hb15']
        have HLP := hid (show letP t.toList = if plainC (16 * b2 + b3).toUInt8 then none else some ((16 * b2 + b3).toUInt8, t3.toList) by rw [HTT.out]; simp [letP, HD2.out, HD3.out])
        generalize (16 * b2 + b3).toUInt8 = c at *
        refine (isPlain_any _ _).mono ?_; rintro e w4 ⟨rfl, rfl⟩
        rw [← plain_eq]
        cases hp : plainC c with
        | true =>
          have HPL := hid hp
          clear hp
          go_wp2_with fail
          go_ret2
          exact ⟨_, false, t3, rfl, hbut, HP3.out, by omega, by show letP t.toList = none; rw [HLP.out, HPL.out]; rfl⟩
        | false =>
          have HPL := hid hp
          clear hp
          go_wp2_with fail
          go_ret2
          exact ⟨_, true, t3, rfl, hbut, HP3.out, by omega, c, rfl, by rw [HLP.out, HPL.out]; rfl, by omega⟩
  | false =>
    have HR := hid hr
    clear hr
    go_wp2_with fail
    refine (next_any w1 eb la ll lc t1 HP1.out).mono ?_
    have hte : t1 = t := take_false HR.out HT1.out
    subst hte
    rintro e w2 (⟨hnil, rfl, rfl⟩ | ⟨c, t2, htl, rfl, hb2, hp2⟩)
    · have HN := hid hnil
      clear hnil
      go_wp2_with fail
      go_ret2
      exact ⟨_, false, t1, rfl, hb1, HP1.out, Nat.le_refl _, by show letP t1.toList = none; rw [HN.out]; rfl⟩
    · have HTL := hid htl
      have HP2 := hid hp2
      have hs2 : t2.size < t1.size := by rw [← size_list, ← size_list t1, htl]; simp
      have HC := hid (show c ≠ 92 from fun e => take_not HR.out t2.toList (by rw [htl, e]))
      have HLP := hid (show letP t1.toList = if plainC c then some (c, t2.toList) else none by rw [htl]; unfold letP; simp only; rw [if_neg HC.out])
      clear htl hp2
      go_wp2_with fail
      refine (isPlain_any _ _).mono ?_; rintro e w4 ⟨rfl, rfl⟩
      rw [← plain_eq]
      cases hp : plainC c with
      | true =>
        have HPL := hid hp
        clear hp
        go_wp2_with fail
        go_ret2
        exact ⟨_, true, t2, rfl, hb1.trans hb2, HP2.out, by omega, c, rfl, by rw [HLP.out, HPL.out]; rfl, by omega⟩
      | false =>
        have HPL := hid hp
        clear hp
        go_wp2_with fail
        go_ret2
        exact ⟨_, false, t2, rfl, hb1.trans hb2, HP2.out, by omega, by show letP t1.toList = none; rw [HLP.out, HPL.out]; rfl⟩
end Go.Proofs.YtopcgnjocklcoaaGreatDoor
/- Package values: the encoder's letters. -/
namespace Go.Proofs.YtopcgnjocklcoaaGreatDoor
open Go.RowKit

/-- what the reading of a value leaves -/
def PPost (spec : List UInt8 → Got) (w : World) (eb : Nat) (lv : Value) (t : ByteArray) (e : Ending) (w' : World) : Prop :=
  ∃ (a : Option Addr) (c : Nat) (out : List UInt8) (t' : ByteArray) (ok : Bool), e = .returned (.tuple #[.slice a out.length c, .bool ok]) ∧ Bys w' w.heap.size (.slice a out.length c) out ∧ But eb w w' ∧ Pe w' eb lv t' ∧ t'.size ≤ t.size ∧ out.length ≤ 2 * (t.size - t'.size) ∧
    spec t.toList = (match ok with | true => some (out, t'.toList) | false => none)
theorem Pe.grew {w wx w' : World} {eb : Nat} {lv : Value} {t : ByteArray} {lo : Nat} {v v' : Value} {L : List UInt8} (h : Pe w eb lv t) (hb : Below w.heap.size w wx) (hB : Bys w lo v L) (hg : Grew wx w' v v') : Pe w' eb lv t :=
  h.same ((hg.g.block eb (Nat.lt_of_lt_of_le h.lt hb.size) (fun e => own_seg_ne hB h (by decide) e.symm rfl)).trans (hb.block eb h.lt))
theorem lettersG_step {t : List UInt8} (h : ∀ r, t ≠ 34 :: r) : lettersG t = (letP t).bind fun x => (lettersG x.2).map fun z => (x.1 :: z.1, z.2) := by
  match t, h with
  | [], _ => rw [lettersG_nil]; rfl
  | c :: r, h =>
    have h34 : c ≠ 34 := fun e => h r (by rw [e])
    by_cases h92 : c = 92
    · subst h92
      match r with
      | [] => rw [lettersG_short _ (by simp)]; rfl
      | [a] =>
        rw [lettersG_short _ (by simp)]
        cases hv : hexV a <;> simp [letP, digP, hv]
      | a :: b :: r' =>
        rw [lettersG_hex]
        cases ha : hexV a with
        | none => simp [letP, digP, ha]
        | some x =>
          cases hb : hexV b with
          | none => simp [letP, digP, ha, hb]
          | some y =>
            simp only [letP, digP, ha, hb, ↓reduceIte, Option.map_some, Option.bind_some]
            generalize (16 * x + y).toUInt8 = z
            cases plainC z <;> simp
    · cases hp : plainC c with
      | true => rw [lettersG_plain _ hp]; simp [letP, h92, hp]
      | false => rw [lettersG_bad _ hp h34 h92]; simp [letP, h92, hp]
set_option maxRecDepth 100000 in
set_option maxHeartbeats 1000000 in
theorem letters_any (w : World) (eb : Nat) (la : Option Addr) (ll lc : Nat) (t : ByteArray) (h : Pe w eb (.slice la ll lc) t) (hs : t.size ≤ 400) :
    Calls Tryz.prog 89 #[.pointer (some ⟨eb, 0, none⟩)] w (PPost textP w eb (.slice la ll lc) t) := by
  unfold PPost
  have H := hid h
  clear h
  go_enter Tryz.func89, Tryz.ntmps89
  go_wp2_with fail
  refine (take_any w eb la ll lc t (ByteArray.mk #[34]) H.out).mono ?_; rintro e w1 ⟨t1, rfl, hb1, hp1, ht1⟩
  rw [quoteB] at ht1 ⊢
  have HP1 := hid hp1
  have HT1 := hid ht1
  clear hp1 ht1
  cases hr : (eatP [34] t.toList).isSome with
  | false =>
    have HR := hid hr
    clear hr
    have hte : t1 = t := take_false HR.out HT1.out
    subst hte
    go_wp2_with fail
    go_ret2
    exact ⟨none, 0, [], t1, false, rfl, World.ownsRow_nil _ _ _ _, hb1, HP1.out, Nat.le_refl _, by simp, by unfold textP; rw [eat_none HR.out]; rfl⟩
  | true =>
    have HR := hid hr
    clear hr
    have HTT := hid (take_true HR.out HT1.out)
    have hs1 : t1.size < t.size := by rw [← size_list, ← size_list t, HTT.out]; simp
    have HG := hid (show textP t.toList = lettersG t1.toList by unfold textP; rw [HTT.out]; rfl)
    have hz1 := hb1.size
    go_wp2_with fail
    go_loopg [4, 5, 6] (t1.size + 1) (fun gk d4 b5 o6 wr => ∃ (out : List UInt8) (tr : ByteArray), tr.size < gk ∧ tr.size ≤ t1.size ∧ out.length + tr.size ≤ t1.size ∧ Hid (Pe wr eb (.slice la ll lc) tr) ∧ Hid (Bys wr w.heap.size d4 out) ∧ But eb w wr ∧ Hid (textP t.toList = (lettersG tr.toList).map fun z => (out ++ z.1, z.2)))
    case atStart => exact ⟨[], t1, by omega, Nat.le_refl _, by simp, hid HP1.out, hid (World.ownsRow_nil _ _ _ _), hb1, hid (by rw [HG.out]; simp)⟩
    case round =>
      obtain ⟨out, tr, hm, hle, hol, HP, HB, hbut, HS⟩ := hrel
      obtain ⟨oa, oc, hov⟩ : ∃ a c, u4 = .slice a out.length c := own_slice HB.out
      subst hov
      go_wp2_with fail
      refine (take_any _ eb la ll lc tr (ByteArray.mk #[34]) HP.out).mono ?_; rintro e w2 ⟨t2, rfl, hb2, hp2, ht2⟩
      rw [quoteB] at ht2 ⊢
      have HP2 := hid hp2
      have HT2 := hid ht2
      have HB2 := hid (HB.out.but (show Seg _ _ _ _ _ from HP.out) (by decide) hb2)
      have hbut2 := hbut.trans hb2
      clear hp2 ht2
      cases hr2 : (eatP [34] tr.toList).isSome with
      | true =>
        have HTT2 := hid (take_true hr2 HT2.out)
        have hs2 : t2.size < tr.size := by rw [← size_list, ← size_list tr, HTT2.out]; simp
        clear hr2
        go_wp2_with fail
        go_ret2
        exact ⟨oa, oc, out, t2, true, rfl, HB2.out, hbut2, HP2.out, by omega, by omega, by rw [HS.out, HTT2.out, lettersG_end]; simp⟩
      | false =>
        have hte : t2 = tr := take_false hr2 HT2.out
        subst hte
        have HST := hid (lettersG_step (take_not hr2))
        clear hr2
        go_wp2_with fail
        refine (letter_any _ eb la ll lc t2 HP2.out).mono ?_; rintro e w3 ⟨bv, ok3, t3, rfl, hb3, hp3, hs3, hm3⟩
        have HP3 := hid hp3
        have HM3 := hid hm3
        have HB3 := hid (HB2.out.but (show Seg _ _ _ _ _ from HP2.out) (by decide) hb3)
        have hbut3 := hbut2.trans hb3
        clear hp3 hm3
        cases ok3 with
        | false =>
          go_wp2_with fail
          go_ret2
          exact ⟨none, 0, [], t3, false, rfl, World.ownsRow_nil _ _ _ _, hbut3, HP3.out, by omega, by simp, by rw [HS.out, HST.out, show letP t2.toList = none from HM3.out]; rfl⟩
        | true =>
          obtain ⟨c, rfl, hlp, hlt⟩ : ∃ c : UInt8, bv = .int .u8 c.toNat ∧ letP t2.toList = some (c, t3.toList) ∧ t3.size < t2.size := HM3.out
          have HLP := hid hlp
          clear hlp HM3
          have hz3 := hbut3.size
          go_wp2_with (at_builtin; refine wpList_append_by _ rfl _ _ rfl _ out w.heap.size rfl (HB3.out.same ((Below.refl _ _).alloc (Nat.le_refl _) _)) _ [c] _ rfl (bys_one _ _ _ rfl) (by simp; omega) (by simp; omega) ?_)
          intro a4 c4 w4 hb4 hg4
          have HP4 := hid (HP3.out.grew ((Below.refl _ _).alloc (Nat.le_refl _) _) HB3.out hg4)
          have hbut4 := hbut3.grew ((Below.refl _ _).alloc (Nat.le_refl _) _) HB3.out hg4
          have HB4 := hid hb4
          clear hb4 hg4
          go_wp2_with fail
          go_roundg (gk - 1)
          case rel => exact ⟨out ++ [c], t3, by omega, by omega, by rw [List.length_append, List.length_singleton]; omega, hid HP4.out, hid (by simpa using HB4.out), hbut4, hid (by rw [HS.out, HST.out, HLP.out]; simp [Option.map_map, Function.comp_def])⟩
          case measure => omega
end Go.Proofs.YtopcgnjocklcoaaGreatDoor
/- Package values: the encoder's run. -/
namespace Go.Proofs.YtopcgnjocklcoaaGreatDoor
open Go.RowKit

theorem trimLeft_any (s cut : ByteArray) (w : World) (hcs : cut.size < 4294967281) (hascii : ∀ (j : Nat) b, cut.data.toList[j]? = some b → b.toNat < 128) :
    Calls Tryz.prog 163 #[.string s, .string cut] w fun e w' => e = .returned (.string ⟨(Lib.trimLeftS s.data.toList cut.data.toList).toArray⟩) ∧ Below w.heap.size w w' :=
  Any.strings_TrimLeft_laid Tryz.z_lays161 (by kernel_rfl) s cut w hcs hascii
theorem dropWhile_len {p : UInt8 → Bool} (l : List UInt8) : (l.dropWhile p).length = l.length - (l.takeWhile p).length := by
  have := congrArg List.length (List.takeWhile_append_dropWhile (p := p) (l := l))
  rw [List.length_append] at this; omega
set_option maxRecDepth 100000 in
set_option maxHeartbeats 1000000 in
theorem prun_any (w : World) (eb : Nat) (la : Option Addr) (ll lc : Nat) (t cut : ByteArray) (p : UInt8 → Bool) (h : Pe w eb (.slice la ll lc) t) (hs : t.size ≤ 400) (hcs : cut.size < 4294967281) (hascii : ∀ (j : Nat) b, cut.data.toList[j]? = some b → b.toNat < 128) (hp : ∀ c, cut.data.toList.contains c = p c) :
    Calls Tryz.prog 126 #[.pointer (some ⟨eb, 0, none⟩), .string cut] w fun e w' => ∃ r t' : ByteArray, e = .returned (.string r) ∧ But eb w w' ∧ Pe w' eb (.slice la ll lc) t' ∧ r.toList = t.toList.takeWhile p ∧ t'.toList = t.toList.dropWhile p := by
  have c1 := h.rest
  have hf1 := Seg.frozen h 1
  have hel := h.lt
  have H := hid h
  clear h
  obtain ⟨k, hk⟩ : ∃ k, (t.toList.takeWhile p).length = k := ⟨_, rfl⟩
  have hkt : k ≤ t.size := by rw [← hk, ← size_list]; exact (List.takeWhile_sublist (p := p)).length_le
  have HTW := hid (show (t.extract 0 k).toList = t.toList.takeWhile p by rw [ext_list, ← hk]; simpa using (takeWhile_take (p := p) t.toList).1)
  have HDW := hid (show (t.extract k t.size).toList = t.toList.dropWhile p by rw [ext_list, ← hk, (takeWhile_take (p := p) t.toList).2, List.take_of_length_le (by rw [dropWhile_len, size_list]; omega)])
  obtain ⟨m, hm⟩ : ∃ m, t.size - k = m := ⟨_, rfl⟩
  have HTM := hid (show ∀ w', Below w.heap.size w w' → Calls Tryz.prog 163 #[.string t, .string cut] w' (fun e w'' => ∃ u : ByteArray, e = .returned (.string u) ∧ u.size = m ∧ Below w.heap.size w w'') from fun w' hw' => (trimLeft_any t cut w' hcs hascii).mono (fun e w'' hh => ⟨_, hh.1, by
    have hpp : (cut.data.toList.contains ·) = p := funext hp
    show (Lib.trimLeftS t.data.toList cut.data.toList).toArray.size = _
    unfold Lib.trimLeftS
    rw [List.size_toArray, hpp, ← ByteArray.toList_eq, dropWhile_len, size_list, hk, hm], hw'.trans (hh.2.mono hw'.size)⟩))
  have HKP := hid (show ∀ w', Below w.heap.size w w' → w'.cell? ⟨eb, 1, none⟩ = some (.string t) from fun w' hw' => (World.cell?_of_block (w := w) (hw'.block eb hel)).trans c1)
  have hx1 : (t.size : Int) - (m : Int) = (k : Int) := by omega
  have hx3 : (0 : Int) ≤ (k : Int) := by omega
  have hx4 : (k : Int) ≤ (t.size : Int) := by omega
  have hx5 : k ≤ 400 := by omega
  have hw1 : IntKind.i64.wrap (k : Int) = (k : Int) := by rw [IntKind.wrap_i64]; omega
  have hw2 : IntKind.i64.wrap ((t.size : Int) - (m : Int)) = (k : Int) := by rw [IntKind.wrap_i64]; omega
  clear hk hp hascii hcs hm
  go_enter Tryz.func126, Tryz.ntmps126
  go_wp2_with fail
  go_region_held3 (fun w' => w'.cell? ⟨eb, 1, none⟩ = some (.string t))
    (exact HKP.out _ (by repeat (first | with_reducible assumption | with_reducible exact Below.refl _ _ | with_reducible apply Below.drew)))
    (first | (go_at_call 163; refine (HTM.out _ (by repeat (first | with_reducible assumption | with_reducible exact Below.refl _ _ | with_reducible apply Below.drew))).mono ?_; rintro e w1 ⟨u, rfl, hu, hb1⟩; have hw3 : IntKind.i64.wrap ((t.size : Int) - (u.size : Int)) = (k : Int) := (by rw [hu]; exact hw2)))
  have HP1 := hid (H.out.same (hb1.block eb hel))
  have f1 := HP1.out.rest
  have ff1 := Seg.frozen HP1.out 1
  have hex : (t.extract 0 k).size = k := by rw [ByteArray.size_extract]; omega
  generalize t.extract 0 k = r at HTW hex ⊢
  clear c1 hf1
  go_wp2_with fail
  go_ret
  exact ⟨r, t.extract k t.size, rfl, (But.ofBelow hb1).setCell _ _, HP1.out.put _, HTW.out, HDW.out⟩
def intS : ByteArray := ⟨#[45, 48, 49, 50, 51, 52, 53, 54, 55, 56, 57]⟩
def nameS : ByteArray := ⟨#[97, 98, 99, 100, 101, 102, 103, 104, 105, 106, 107, 108, 109, 110, 111, 112, 113, 114, 115, 116, 117, 118, 119, 120, 121, 122, 48, 49, 50, 51, 52, 53, 54, 55, 56, 57]⟩
theorem intS_has (c : UInt8) : intS.data.toList.contains c = intC c := by
  have all : ∀ a : Fin 256, intS.data.toList.contains (UInt8.ofNat a.val) = intC (UInt8.ofNat a.val) := by decide +kernel
  have := all ⟨c.toNat, c.toNat_lt⟩
  simpa using this
theorem nameS_has (c : UInt8) : nameS.data.toList.contains c = nameC c := by
  have all : ∀ a : Fin 256, nameS.data.toList.contains (UInt8.ofNat a.val) = nameC (UInt8.ofNat a.val) := by decide +kernel
  have := all ⟨c.toNat, c.toNat_lt⟩
  simpa using this
theorem runInt_any (w : World) (eb : Nat) (la : Option Addr) (ll lc : Nat) (t : ByteArray) (h : Pe w eb (.slice la ll lc) t) (hs : t.size ≤ 400) :
    Calls Tryz.prog 126 #[.pointer (some ⟨eb, 0, none⟩), .string intS] w fun e w' => ∃ r t' : ByteArray, e = .returned (.string r) ∧ But eb w w' ∧ Pe w' eb (.slice la ll lc) t' ∧ r.toList = t.toList.takeWhile intC ∧ t'.toList = t.toList.dropWhile intC :=
  prun_any w eb la ll lc t intS intC h hs (by decide) (ascii_of_all (by decide)) intS_has
theorem runName_any (w : World) (eb : Nat) (la : Option Addr) (ll lc : Nat) (t : ByteArray) (h : Pe w eb (.slice la ll lc) t) (hs : t.size ≤ 400) :
    Calls Tryz.prog 126 #[.pointer (some ⟨eb, 0, none⟩), .string nameS] w fun e w' => ∃ r t' : ByteArray, e = .returned (.string r) ∧ But eb w w' ∧ Pe w' eb (.slice la ll lc) t' ∧ r.toList = t.toList.takeWhile nameC ∧ t'.toList = t.toList.dropWhile nameC :=
  prun_any w eb la ll lc t nameS nameC h hs (by decide) (ascii_of_all (by decide)) nameS_has
end Go.Proofs.YtopcgnjocklcoaaGreatDoor
