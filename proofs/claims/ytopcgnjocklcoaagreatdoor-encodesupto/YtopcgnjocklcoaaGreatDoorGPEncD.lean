/- Package values: Encode; package courier: Encode; and that the reference answers the same. -/
import Derived.Test.YtopcgnjocklcoaaGreatDoorGPEncV
namespace Go.Proofs.YtopcgnjocklcoaaGreatDoor
open Go.RowKit

theorem XOk.of {s : ByteArray} {X : List PIV} (hs : s.size ≤ 400) (h : (parseP s).1 = some (X.map (fun x => x.it))) (hl : X.length ≤ 400) : XOk X := by
  obtain ⟨_, _, _, hin4⟩ := parseP_in h
  have hsm := small_of (facts_of h) hs
  have src : ∀ x ∈ X, ISrc s x.it := fun x hx => parseP_src h _ (List.mem_map.2 ⟨x, hx, rfl⟩)
  refine ⟨fun x hx => hin4 x.it (List.mem_map.2 ⟨x, hx, rfl⟩), hl, fun x hx f hf => ?_, fun x hx f hf => ?_, hsm.f, hsm.n, fun x hx t ht => ((src x hx).n t ht).size hs⟩
  · have := ((src x hx).f f hf).num; exact ⟨by omega, this.2⟩
  · obtain ⟨t, ht, e⟩ := ((src x hx).f f hf).name
    rw [e]; exact ht.size hs
/-- what values.Encode is to answer -/
def PEncA (X : List PIV) (base v : ByteArray) (E : Int) (b : List UInt8) : Prop :=
  (E = 4 ∧ b = [] ∧ hasB X base = false) ∨ (hasB X base = true ∧
    ((400 < v.size ∧ E = 1 ∧ b = []) ∨ (v.size ≤ 400 ∧
      (((∀ x, (encP X 6).1 base.toList v.toList ≠ some (x, [])) ∧ E = 5 ∧ b = []) ∨ ∃ x, (encP X 6).1 base.toList v.toList = some (x, []) ∧ ((64 < x.length ∧ E = 1 ∧ b = []) ∨ (x.length ≤ 64 ∧ E = 0 ∧ b = x))))))
def PEncPost (A : Int → List UInt8 → Prop) (w : World) (e : Ending) (w' : World) : Prop := ∃ (a : Option Addr) (c : Nat) (b : List UInt8) (E : Int), e = .returned (.tuple #[.slice a b.length c, .int .i64 E]) ∧ Below w.heap.size w w' ∧ Bys w' w.heap.size (.slice a b.length c) b ∧ (E ≠ 0 → a = none ∧ c = 0) ∧ A E b
theorem list_nil {t : ByteArray} : t.toList = [] ↔ t.size = 0 := by rw [← List.length_eq_zero_iff, size_list]
set_option maxRecDepth 100000 in
set_option maxHeartbeats 2000000 in
theorem vEncode_any (w : World) (lo : Nat) (la : Option Addr) (ll lc : Nat) (X : List PIV) (base v : ByteArray) (hI : PIts w lo (.slice la ll lc) X) (hX : XOk X) (hE : Env w) (hO : ∀ cb, w.heap.size ≤ cb → Own cb) (hv : v.size ≤ maxLen) :
    Calls Tryz.prog 28 #[.slice la ll lc, .string base, .string v] w (PEncPost (PEncA X base v) w) := by
  unfold PEncPost
  unfold maxLen at hv
  have HI := hid hI
  have HX := hid hX
  have HE := hid hE
  have HO := hid hO
  clear hI hX hE hO
  go_enter Tryz.func28, Tryz.ntmps28
  go_wp2_with fail
  refine (hasBase_any w lo _ X base HI.out HX.out.nms HX.out.len).mono ?_; rintro e w1 ⟨rfl, hb1⟩
  have hz1 := hb1.size
  cases hh : hasB X base with
  | false =>
    have HH := hid hh
    clear hh
    go_wp2_with fail
    go_ret2
    exact ⟨none, 0, [], 4, rfl, hb1, World.ownsRow_nil _ _ _ _, fun _ => ⟨rfl, rfl⟩, Or.inl ⟨rfl, rfl, HH.out⟩⟩
  | true =>
    have HH := hid hh
    clear hh
    by_cases h4 : v.size ≤ 400
    · have h4I : ¬ (400 : Int) < (v.size : Int) := by omega
      have h4D : decide ((400 : Int) < (v.size : Int)) = false := by simp; omega
      have hbW : Below w.heap.size w (w1.alloc (.cells #[.slice la ll lc, .string v] 106)) := hb1.alloc hb1.size _
      have HPW := hid (show Pe (w1.alloc (.cells #[.slice la ll lc, .string v] 106)) w1.heap.size (.slice la ll lc) v from seg_made w1 _ _)
      have HIW := hid (HI.out.below hbW)
      have HEW := hid (HE.out.below hbW)
      have hzW := hbW.size
      go_wp2_with fail
      generalize (w1.alloc (.cells #[.slice la ll lc, .string v] 106)) = wW at *
      refine ((plevels HX.out 6 (Nat.le_refl _)).1 wW w1.heap.size lo la ll lc v base HIW.out HPW.out HEW.out (HO.out _ hz1) h4).mono ?_
      rintro e w2 ⟨a2, c2, out, t2, ok, rfl, hb2, hbut2, hp2, hs2, hl2, hsp⟩
      have hble := hbut2.below hbW hz1 (Nat.le_refl _)
      have HB2 := hid (own_base hb2 hzW : Bys w2 w.heap.size _ out)
      have HSP := hid hsp
      have f1 := hp2.rest
      clear hb2 hsp hp2 hbut2 hl2
      cases ok with
      | false =>
        go_wp2_with fail
        go_ret2
        refine ⟨none, 0, [], 5, rfl, hble, World.ownsRow_nil _ _ _ _, fun _ => ⟨rfl, rfl⟩, Or.inr ⟨HH.out, Or.inr ⟨h4, Or.inl ⟨fun x hx => ?_, rfl, rfl⟩⟩⟩⟩
        rw [HSP.out] at hx; cases hx
      | true =>
        cases hem : t2.toList.isEmpty with
        | true =>
          have HSP2 := hid (show (encP X 6).1 base.toList v.toList = some (out, []) from by rw [HSP.out]; simp only [List.isEmpty_iff.1 hem])
          by_cases h64 : out.length ≤ 64
          · have h64I : ¬ (64 : Int) < (out.length : Int) := by omega
            have h64D : decide ((64 : Int) < (out.length : Int)) = false := by simp; omega
            go_wp2_with fail
            go_ret2
            exact ⟨a2, c2, out, 0, rfl, hble, HB2.out, fun h => absurd rfl h, Or.inr ⟨HH.out, Or.inr ⟨h4, Or.inr ⟨out, HSP2.out, Or.inr ⟨h64, rfl, rfl⟩⟩⟩⟩⟩
          · have h64I : (64 : Int) < (out.length : Int) := by omega
            go_wp2_with fail
            go_ret2
            exact ⟨none, 0, [], 1, rfl, hble, World.ownsRow_nil _ _ _ _, fun _ => ⟨rfl, rfl⟩, Or.inr ⟨HH.out, Or.inr ⟨h4, Or.inr ⟨out, HSP2.out, Or.inl ⟨by omega, rfl, rfl⟩⟩⟩⟩⟩
        | false =>
          go_wp2_with fail
          go_ret2
          refine ⟨none, 0, [], 5, rfl, hble, World.ownsRow_nil _ _ _ _, fun _ => ⟨rfl, rfl⟩, Or.inr ⟨HH.out, Or.inr ⟨h4, Or.inl ⟨fun x hx => ?_, rfl, rfl⟩⟩⟩⟩
          rw [HSP.out] at hx
          simp only [Option.some.injEq, Prod.mk.injEq] at hx
          rw [hx.2] at hem; cases hem
    · have h4I : (400 : Int) < (v.size : Int) := by omega
      go_wp2_with fail
      go_ret2
      exact ⟨none, 0, [], 1, rfl, hb1, World.ownsRow_nil _ _ _ _, fun _ => ⟨rfl, rfl⟩, Or.inr ⟨HH.out, Or.inl ⟨by omega, rfl, rfl⟩⟩⟩
/-- what courier.Encode is to answer -/
def PEncAns (s base v : ByteArray) (E : Int) (b : List UInt8) : Prop :=
  (E = 8 ∧ b = [] ∧ ∃ E0 P0, ProgAns s E0 P0 ∧ E0 ≠ 0) ∨ ∃ X, ProgAns s 0 0 ∧ s.size ≤ 400 ∧ (parseP s).1 = some (X.map (fun x => x.it)) ∧ PEncA X base v E b
theorem ProgAns.zero {s : ByteArray} {P : Int} (h : ProgAns s 0 P) : s.size ≤ 400 ∧ P = 0 := by
  rcases h with ⟨_, e, _⟩ | ⟨h4, ⟨_, e, _⟩ | ⟨X, _, ⟨m, _, _, e, _⟩ | ⟨_, _, e⟩⟩⟩
  · omega
  · omega
  · omega
  · exact ⟨h4, e⟩
theorem ProgAns.range {s : ByteArray} {E P : Int} (h : ProgAns s E P) : 0 ≤ E ∧ E ≤ 3 := by
  rcases h with ⟨_, e, _⟩ | ⟨h4, ⟨_, e, _⟩ | ⟨X, _, ⟨m, _, _, e, _⟩ | ⟨_, e, _⟩⟩⟩ <;> omega
set_option maxRecDepth 100000 in
set_option maxHeartbeats 2000000 in
theorem pEncode_any (s base v : ByteArray) (w : World) (hs : s.size ≤ maxLen) (hv : v.size ≤ maxLen) (hE : Env w) (hO : ∀ cb, w.heap.size ≤ cb → Own cb) :
    Calls Tryz.prog 13 #[.string s, .string base, .string v] w (PEncPost (PEncAns s base v) w) := by
  have HE := hid hE
  have HO := hid hO
  clear hE hO
  unfold PEncPost
  go_enter Tryz.func13, Tryz.ntmps13
  go_wp2_with fail
  refine (read_any s w HE.out.v hs).mono ?_; rintro e w1 ⟨lv, la, ll, lc, E, P, rfl, rfl, hb1, hA, hR⟩
  have hz1 := hb1.size
  by_cases hE0 : E = 0
  · subst hE0
    obtain ⟨h4, rfl⟩ := hA.zero
    obtain ⟨X, hp, hits, hl, _⟩ := hR rfl
    have HA := hid hA
    have HP := hid hp
    have HXO := hid (XOk.of h4 hp hl)
    have HI := hid hits
    clear hA hR hp hits
    go_wp2_with fail
    refine (vEncode_any w1 _ la ll lc X base v HI.out HXO.out (HE.out.below hb1) (fun cb h => HO.out cb (by omega)) hv).mono ?_
    rintro e w2 ⟨a2, c2, b2, E2, rfl, hb2, hB2, hnil, hans⟩
    have HB2 := hid (own_base hB2 hz1 : Bys w2 w.heap.size _ b2)
    have HN := hid hnil
    have HAN := hid (show PEncAns s base v E2 b2 from Or.inr ⟨X, HA.out, h4, HP.out, hans⟩)
    have hb3 := hb1.trans (hb2.mono hz1)
    clear hB2 hnil hans
    go_wp2_with fail
    go_ret2
    exact ⟨a2, c2, b2, E2, rfl, hb3, HB2.out, HN.out, HAN.out⟩
  · have HA := hid (show ∃ E0 P0, ProgAns s E0 P0 ∧ E0 ≠ 0 from ⟨E, P, hA, hE0⟩)
    obtain ⟨hr1, hr2⟩ := hA.range
    have hEB : (E != 0) = true := by simpa using hE0
    clear hA hR
    go_wp2_with fail
    go_ret2
    exact ⟨none, 0, [], 8, rfl, hb1, World.ownsRow_nil _ _ _ _, fun _ => ⟨rfl, rfl⟩, Or.inl ⟨rfl, rfl, HA.out⟩⟩
end Go.Proofs.YtopcgnjocklcoaaGreatDoor
/- Encode answers as the reference does (no walk). -/
namespace Go.Proofs.YtopcgnjocklcoaaGreatDoor

theorem fdR_toRF {f : PField} (h : f.shape ≤ 2) : fdR (toRF f) = fdP f := by
  have : f.shape = 0 ∨ f.shape = 1 ∨ f.shape = 2 := by omega
  unfold fdR toRF fdP
  rcases this with e | e | e <;> simp only [e] <;> unfold shapeTxt isW <;> simp [ByteArray.toList_eq, emptyB, wOpt, wList]
theorem ty_twin {X : List PIV} {Y : List IV} (h : Twin X Y) (hs : ∀ x ∈ X, ∀ f ∈ x.it.fields, f.shape ≤ 2) : tyR Y = tyP X := by
  funext b
  unfold tyR tyP
  rw [h.find b]
  cases hx : X[(pFindI X b).toNat]? with
  | none =>
    cases hy : Y[(pFindI X b).toNat]? with
    | none => rfl
    | some y => obtain ⟨x, hx', _⟩ := h.atR hy; rw [hx] at hx'; cases hx'
  | some x =>
    obtain ⟨y, hy, e⟩ := h.atP hx
    rw [hy]
    simp only
    have hk : isW y.it.kind wMessage = (x.it.kind == 0) := by rw [e]; exact kindTxt_msg _
    have hf : y.it.fields.map fdR = x.it.fields.map fdP := by
      rw [e]
      show (x.it.fields.map toRF).map fdR = _
      rw [List.map_map]
      apply List.map_congr_left
      intro f hf
      exact fdR_toRF (hs x (List.mem_of_getElem? hx) f hf)
    have hn : y.it.names.map ByteArray.toList = x.it.names.map (fun t => t.text.toList) := by
      rw [e]
      show (x.it.names.map PTok.text).map ByteArray.toList = _
      rw [List.map_map]; rfl
    rw [hk, hf, hn]
    by_cases h0 : x.it.kind = 0 <;> simp [h0]
/-- ENCODE ANSWERS AS THE REFERENCE DOES -/
theorem encode_agree {s base v : ByteArray} {E E' : Int} {b b' : List UInt8} (hp : PEncAns s base v E b) (hr : EncAns s base v E' b') : E = E' ∧ b = b' := by
  rcases hp with ⟨e1, e2, E0, P0, hA, hne⟩ | ⟨X, hA, h4, hX, hp⟩
  · rcases hr with ⟨f1, f2, _⟩ | ⟨Y, hR, _⟩
    · exact ⟨by rw [e1, f1], by rw [e2, f2]⟩
    · exact absurd (check_agree hR hA).1.symm hne
  · rcases hr with ⟨f1, f2, E0, P0, hR, hne⟩ | ⟨Y, hR, hS, hr⟩
    · exact absurd (check_agree hR hA).1 hne
    · have hq := parse_eq s
      rw [hX] at hq
      simp only at hq
      have hT : Twin X Y := by
        have := hS.go
        rw [hq] at this
        unfold Twin
        simp only [Option.some.injEq] at this
        rw [← this, List.map_map]; rfl
      have hF := facts_of hX
      have hty := ty_twin hT hF.shapes
      have hB := typeB_has hT base
      have hN : NamesOk (tyP X) := by rw [← hty]; exact hS.names
      have hsame : ∀ x, (encP X 6).1 base.toList v.toList = some (x, []) ↔ (encR Y 6).1 base.toList v.toList = some (x, []) := fun x => by
        show _ ↔ (encE wideC wideC (tyR Y) 6).1 _ _ = _
        rw [hty]; exact enc_same hN 6 base.toList v.toList x
      rcases hp with ⟨e1, e2, hp⟩ | ⟨hp, hp2⟩
      · rcases hr with ⟨f1, f2, _⟩ | ⟨hr, _⟩
        · exact ⟨by rw [e1, f1], by rw [e2, f2]⟩
        · rw [hB, hp] at hr; cases hr
      · rcases hr with ⟨f1, f2, hr⟩ | ⟨hr, hr2⟩
        · rw [hB, hp] at hr; cases hr
        · rcases hp2 with ⟨g1, e1, e2⟩ | ⟨g1, hp3⟩
          · rcases hr2 with ⟨_, f1, f2⟩ | ⟨g2, _⟩
            · exact ⟨by rw [e1, f1], by rw [e2, f2]⟩
            · omega
          · rcases hr2 with ⟨g2, _⟩ | ⟨_, hr3⟩
            · omega
            · rcases hp3 with ⟨hno, e1, e2⟩ | ⟨x, hx, hp4⟩
              · rcases hr3 with ⟨_, f1, f2⟩ | ⟨y, hy, _⟩
                · exact ⟨by rw [e1, f1], by rw [e2, f2]⟩
                · exact absurd ((hsame y).2 hy) (hno y)
              · rcases hr3 with ⟨hno, _⟩ | ⟨y, hy, hr4⟩
                · exact absurd ((hsame x).1 hx) (hno x)
                · have hxy : x = y := by
                    have := (hsame x).1 hx
                    rw [hy] at this; simpa using this.symm
                  subst hxy
                  rcases hp4 with ⟨q1, e1, e2⟩ | ⟨q1, e1, e2⟩ <;> rcases hr4 with ⟨q2, f1, f2⟩ | ⟨q2, f1, f2⟩
                  · exact ⟨by rw [e1, f1], by rw [e2, f2]⟩
                  · omega
                  · omega
                  · exact ⟨by rw [e1, f1], by rw [e2, f2]⟩
theorem EncAns.range {s base v : ByteArray} {E : Int} {b : List UInt8} (h : EncAns s base v E b) : (E = 0 ∧ b.length ≤ 64) ∨ ((E = 1 ∨ E = 4 ∨ E = 5 ∨ E = 8) ∧ b = []) := by
  rcases h with ⟨e, hb, _⟩ | ⟨Y, _, _, ⟨e, hb, _⟩ | ⟨_, ⟨_, e, hb⟩ | ⟨_, ⟨_, e, hb⟩ | ⟨x, _, ⟨_, e, hb⟩ | ⟨hl, e, hb⟩⟩⟩⟩⟩
  · exact Or.inr ⟨by omega, hb⟩
  · exact Or.inr ⟨by omega, hb⟩
  · exact Or.inr ⟨by omega, hb⟩
  · exact Or.inr ⟨by omega, hb⟩
  · exact Or.inr ⟨by omega, hb⟩
  · exact Or.inl ⟨e, by rw [hb]; exact hl⟩
end Go.Proofs.YtopcgnjocklcoaaGreatDoor
