/- Package schemas: repeats, with a map of the call's own. -/
import Derived.Test.YtlgjlfobbpgklaaGreatDoorGNames
import Derived.Maps.OwnOps
import Derived.Maps.Views
namespace Go.Proofs.YtlgjlfobbpgklaaGreatDoor
open Go.RowKit Go.Maps

theorem own_map_ne {H : Type} {w : World} {lo : Nat} {e : TypeId} {size n : Nat} {v : Value} {xs : List Value} {P : Program} {k : TypeId} {R : Value → Option (DataW H × List MemPlace)} {b m : Nat} {D : DataW H}
    (h : w.ownsRow lo e size v n xs) (hm : w.ownsMap P k R b m D) : some b ≠ v.ownBlock := by
  obtain ⟨es, clock, hb, _⟩ := hm
  rcases h.2 with ⟨h', _⟩ | ⟨g', cap', cur, h', _, hg, _⟩
  · subst h'; simp [Value.ownBlock]
  · subst h'
    intro hh
    have : b = g' := by simpa [Value.ownBlock] using hh
    subst this
    rw [hb] at hg; cases hg
def repAt (ts : List PTok) (k : Nat) : List Nat := match ts[k]? with | some t => popt ((ts.take k).any (fun g => g.text.toList == t.text.toList)) t.at_ | none => []
def repTo (ts : List PTok) (k : Nat) : List Nat := (List.range k).flatMap (repAt ts)
def repP (gs : List (List PTok)) : List Nat := gs.flatMap (fun ts => repTo ts ts.length)
theorem repTo_succ (ts : List PTok) (k : Nat) : repTo ts (k + 1) = repTo ts k ++ repAt ts k := by unfold repTo; rw [List.range_succ, List.flatMap_append]; simp
theorem repTo_len (ts : List PTok) : ∀ k, (repTo ts k).length ≤ k
  | 0 => by simp [repTo]
  | k + 1 => by
    have := repTo_len ts k
    have h2 : (repAt ts k).length ≤ 1 := by
      unfold repAt; split
      · exact popt_len _ _
      · simp
    rw [repTo_succ, List.length_append]; omega
def cntP (ts : List PTok) (l : List UInt8) : Nat := (ts.filter (fun t => t.text.toList == l)).length
theorem cntP_le (ts : List PTok) (l : List UInt8) : cntP ts l ≤ ts.length := List.length_filter_le _ _
theorem cntP_snoc (ts : List PTok) (t : PTok) (l : List UInt8) : cntP (ts ++ [t]) l = cntP ts l + if t.text.toList == l then 1 else 0 := by
  unfold cntP; rw [List.filter_append]; cases h : (t.text.toList == l) <;> simp [h]
theorem cntP_pos (ts : List PTok) (l : List UInt8) : ts.any (fun g => g.text.toList == l) = decide (0 < cntP ts l) := by
  rw [Bool.eq_iff_iff]
  simp [cntP, List.length_pos_iff_exists_mem]
theorem Tryz.mapLaw : Keyed Tryz.prog 9 := string_keyed Tryz.underlying9
theorem Tryz.zeroInt (w : World) : (zeroValue 3).run Tryz.prog w = .ok (.int .i64 0) w := by kernel_rfl
/-- the map counts the names of ts -/
def Counts (w : World) (b n : Nat) (ts : List PTok) : Prop := ∃ D : DataW Unit, w.ownsMap Tryz.prog 9 (plainElem Tryz.prog 3) b n D ∧ IsMap D ∧ ∀ l : List UInt8, D.atKey (.string l) (.lit (.int .i64 0)) = .lit (.int .i64 (cntP ts l))
structure Groups (w : World) (lo : Nat) (gv : Value) (Gs : List (Value × List PTok)) : Prop where
  own : w.ownsRow lo 195 1 gv Gs.length (Gs.map (fun p => p.1))
  each : ∀ p ∈ Gs, w.ownsRow lo 193 2 p.1 p.2.length (p.2.flatMap nameCells)
  len : ∀ p ∈ Gs, p.2.length ≤ 400
  txt : ∀ p ∈ Gs, ∀ t ∈ p.2, t.text.size ≤ 400


theorem key_str {t : PTok} (h : t.text.size ≤ 400) : keyOf Tryz.prog 9 (.string t.text) = some (.string t.text.toList) := by
  rw [ByteArray.toList_eq]
  exact Go.WideMaps.keyOf_string_mk Tryz.underlying9 (by unfold maxLen; omega)
theorem Counts.start (w : World) : Counts (w.alloc (.map #[] 0)) w.heap.size 0 [] :=
  ⟨.map [], World.ownsMap_made _ _ _ _, isMap_empty, fun l => by simp [cntP, DataW.atKey]⟩
theorem Counts.put {w : World} {b n : Nat} {ts : List PTok} {t : PTok} {D : DataW Unit} {c : Int} (hm : w.ownsMap Tryz.prog 9 (plainElem Tryz.prog 3) b n (D.put (.string t.text.toList) (.lit (.int .i64 c)))) (hD : IsMap D)
    (hat : ∀ l : List UInt8, D.atKey (.string l) (.lit (.int .i64 0)) = .lit (.int .i64 (cntP ts l))) (hc : c = (cntP ts t.text.toList : Int) + 1) : Counts w b n (ts ++ [t]) := by
  refine ⟨_, hm, hD.put _ _, fun l => ?_⟩
  rw [cntP_snoc]
  by_cases he : l = t.text.toList
  · subst he
    rw [atKey_put_same hD (show WideAt.IsKeyLit (.string _) from trivial), hc]; simp
  · rw [atKey_put_other (by simpa using he), hat l]
    have : (t.text.toList == l) = false := by simpa using fun hh => he hh.symm
    rw [this]; simp
theorem Counts.grown {w w0 w1 : World} {b n lo e size m : Nat} {ts : List PTok} {v : Value} {xs : List Value} (h : Counts w b n ts) (hv : w.ownsRow lo e size v m xs) (hb : Below w.heap.size w w0) (hg : w0.grownBy w1 v.ownBlock) : Counts w1 b n ts := by
  obtain ⟨D, hm, hD, hat⟩ := h
  have hne := own_map_ne hv hm
  have hlt := hm.lt
  obtain ⟨es, clock, hbk, F, hs, hDD⟩ := hm
  exact ⟨D, ⟨es, clock, ((hg.block b (Nat.lt_of_lt_of_le hlt hb.size) hne).trans (hb.block b hlt)).trans hbk, F, hs, hDD⟩, hD, hat⟩
theorem repP_snoc (gs : List (List PTok)) (ts : List PTok) : repP (gs ++ [ts]) = repP gs ++ repTo ts ts.length := by simp [repP]
theorem repP_len (gs : List (List PTok)) (h : ∀ ts ∈ gs, ts.length ≤ 400) : (repP gs).length ≤ gs.length * 400 := by
  induction gs with
  | nil => simp [repP]
  | cons a r ih =>
    have h1 := ih (fun ts hts => h ts (by simp [hts]))
    have h2 := repTo_len a a.length
    have h3 := h a (by simp)
    have e : repP (a :: r) = repTo a a.length ++ repP r := by simp [repP]
    rw [e, List.length_append, List.length_cons]; omega
theorem later_cell' {w w' : World} {a : Addr} {v : Value} (hb : Below w.heap.size w w') (h : w.cell? a = some v) (hlt : a.block < w.heap.size) : w'.cell? a = some v := (hb.cell hlt).trans h
theorem cell1_at {w : World} {lo : Nat} {g cap : Nat} {Gs : List (Value × List PTok)} (h : w.ownsRow lo 195 1 (.slice (some ⟨g, 0, none⟩) Gs.length cap) Gs.length (Gs.map (fun p => p.1))) {q : Nat} {p : Value × List PTok} (hq : Gs[q]? = some p) : w.cell? ⟨g, q, none⟩ = some p.1 := by
  have := at_lt hq
  rw [h.cellAt q (by omega), List.getElem?_map, hq]; rfl

set_option maxRecDepth 100000 in
set_option maxHeartbeats 1000000 in
theorem repeats_any (w : World) (lo : Nat) (gv : Value) (Gs : List (Value × List PTok)) (h : Groups w lo gv Gs) (hl : Gs.length ≤ 2) :
    Calls Tryz.prog 129 #[gv] w fun e w' => ∃ nv, e = .returned nv ∧ Places w' w.heap.size nv (repP (Gs.map (fun p => p.2))) ∧ Below w.heap.size w w' := by
  have hmm := @run_makeMap Tryz.prog
  obtain ⟨iI, hiI, hI0, hI1, hI2⟩ := info_parts Tryz.infoInt
  obtain ⟨la, lc, hlv⟩ : ∃ a c, gv = .slice a Gs.length c := own_slice h.own
  subst hlv
  have H := hid h
  clear h
  go_enter Tryz.func129, Tryz.ntmps129
  go_wp2_with fail
  go_loopg [3, 5, 6, 8, 11] Gs.length (fun gk nv x5 x6 x8 i wr => ∃ q : Nat, q + gk = Gs.length ∧ i = .int .i64 q ∧ Hid (Places wr w.heap.size nv (repP ((Gs.take q).map (fun p => p.2)))) ∧ Below w.heap.size w wr)
  case atStart => exact ⟨0, by omega, rfl, hid (World.ownsRow_nil _ _ _ _), Below.refl _ _⟩
  case round =>
    obtain ⟨q, hq, rfl, HO, hbel⟩ := hrel
    have hsz := hbel.size
    by_cases hlt : q < Gs.length
    · obtain ⟨p, hp⟩ : ∃ p, Gs[q]? = some p := ⟨Gs[q], List.getElem?_eq_getElem hlt⟩
      obtain ⟨g, cap, hv, hgl, hgs⟩ := own_form H.out.own (by omega)
      obtain ⟨rfl, rfl⟩ : la = some ⟨g, 0, none⟩ ∧ lc = cap := by simpa using hv
      have c0 := later_cell' hbel (cell1_at H.out.own hp) hgs
      have HG := hid (H.out.each p (List.mem_of_getElem? hp))
      have hts := H.out.len p (List.mem_of_getElem? hp)
      have HTX := hid (H.out.txt p (List.mem_of_getElem? hp))
      have HE := hid (show (Gs.take (q + 1)).map (fun p => p.2) = (Gs.take q).map (fun p => p.2) ++ [p.2] by rw [List.take_add_one, hp]; simp)
      have hal : (repP ((Gs.take q).map (fun p => p.2))).length ≤ 800 := by
        have := repP_len ((Gs.take q).map (fun p => p.2)) (fun ts hts => by
          obtain ⟨r, hr, rfl⟩ := List.mem_map.1 hts
          exact H.out.len r (List.mem_of_mem_take hr))
        rw [List.length_map, List.length_take] at this; omega
      obtain ⟨pv, ts⟩ := p
      dsimp only at *
      generalize hA : repP ((Gs.take q).map (fun p => p.2)) = A at *
      have HA := hid hA
      clear hA hv hp
      obtain ⟨na, nc, hnv⟩ : ∃ a c, u3 = .slice a A.length c := own_slice HO.out
      obtain ⟨pa, pc, hpv⟩ : ∃ a c, pv = .slice a ts.length c := own_slice HG.out
      subst hnv hpv
      obtain ⟨w0, hw0⟩ : ∃ w0, w0 = wr := ⟨_, rfl⟩
      obtain ⟨gk_1, hg1⟩ : ∃ g, g = gk := ⟨_, rfl⟩
      subst hw0 hg1
      go_wp2_with fail
      go_loopg [3, 8, 18] ts.length (fun g2 nv b i w2 => ∃ k : Nat, k + g2 = ts.length ∧ i = .int .i64 k ∧ Hid (Places w2 w.heap.size nv (A ++ repTo ts k)) ∧ Hid (Counts w2 w0.heap.size k (ts.take k)) ∧ Below w.heap.size w w2)
      case atStart => exact ⟨0, by omega, rfl, hid (by have := HO.out.alloc (.map #[] 0); simpa [repTo, Places] using this), hid (Counts.start w0), hbel.alloc hsz _⟩
      case round =>
        obtain ⟨k, hk, rfl, HP, HC, hbe2⟩ := hrel
        have hsz2 := hbe2.size
        have hrl := repTo_len ts k
        have hlen2 : (A ++ repTo ts k).length ≤ 1200 := by rw [List.length_append]; omega
        have HBK := hid (show A ++ repTo ts (k + 1) = (A ++ repTo ts k) ++ repAt ts k by rw [repTo_succ]; simp)
        have HBE := hid (show k = ts.length → A ++ repTo ts k = A ++ repTo ts ts.length from fun e => by rw [e])
        generalize A ++ repTo ts k = L at *
        obtain ⟨na2, nc2, hnv⟩ : ∃ a c, u3 = .slice a L.length c := own_slice HP.out
        subst hnv
        by_cases hkl : k < ts.length
        · obtain ⟨t, ht⟩ : ∃ t, ts[k]? = some t := ⟨ts[k], List.getElem?_eq_getElem hkl⟩
          obtain ⟨tg, tcap, htv, htl, hts2, hs⟩ := pname_seg (own_same HG.out (fun g hg => hbe2.block g (HG.out.lt g hg).2)) ht
          obtain ⟨rfl, rfl⟩ : pa = some ⟨tg, 0, none⟩ ∧ pc = tcap := by simpa using htv
          have e0 : wr.cell? ⟨tg, k * 2, none⟩ = some (.string t.text) := hs.cell (j := 0) rfl
          have e1 : wr.cell? ⟨tg, k * 2 + 1, none⟩ = some (.int .i64 t.at_) := hs.cell (j := 1) rfl
          have hkey := key_str (HTX.out t (List.mem_of_getElem? ht))
          have HK := hid (show ts.take (k + 1) = ts.take k ++ [t] by rw [List.take_add_one, ht]; rfl)
          have HR := hid (show repAt ts k = popt (decide (0 < cntP (ts.take k) t.text.toList)) t.at_ by
            unfold repAt; rw [ht]; simp only [cntP_pos])
          have hcle := cntP_le (ts.take k) t.text.toList
          rw [List.length_take] at hcle
          obtain ⟨D, hown, hD, hat⟩ := HC.out
          have HHD := hid hD
          have HAT := hid hat
          have hown0 := hown.alloc (.cells #[.string t.text, .int .i64 t.at_] 193)
          have HHO := hid hown
          clear hs htv ht hD hat hown
          have HPA := hid (HP.out.alloc (.cells #[.string t.text, .int .i64 t.at_] 193))
          go_wp2_with (first
            | (at_lookup; refine wpList_lookup_own_int _ rfl _ _ 297 rfl 9 3 .i64 Tryz.mapLaw Tryz.underlying297 Tryz.underlying3 (Tryz.zeroInt _) w0.heap.size k _ rfl hown0 _ _ rfl hkey ?_; intro c hc hwc; rw [HAT.out] at hc; obtain rfl : ((cntP (ts.take k) t.text.toList : Nat) : Int) = c := (by simpa using hc); clear hc hwc)
            | (at_mapUpdate; refine wpList_mapUpdate_own _ rfl _ _ _ 297 rfl 9 3 Tryz.mapLaw Tryz.underlying297 _ w0.heap.size k _ rfl hown0 (by unfold maxLen; omega) _ _ _ rfl rfl hkey _ [] (plainElem_int Tryz.underlying3 (WalkArith.wf_i64 (by omega))) ?_)
            | fail)
          intro w1 hown1 hgrow1
          have hmb := HHO.out.lt
          have HB1 := hid (show Below w.heap.size w w1 from (hbe2.alloc hsz2 _).grown hgrow1 (by simp; omega) (fun j hj => by cases hj; exact hsz))
          have hz1 : wr.heap.size + 1 ≤ w1.heap.size := by have := hgrow1.size; simpa using this
          have d0 : w1.cell? ⟨wr.heap.size, 0, none⟩ = some (.string t.text) := by
            rw [World.cell?_of_block (hgrow1.block wr.heap.size (by simp) (by simp; omega))]; simp
          have d1 : w1.cell? ⟨wr.heap.size, 1, none⟩ = some (.int .i64 t.at_) := by
            rw [World.cell?_of_block (hgrow1.block wr.heap.size (by simp) (by simp; omega))]; simp
          have HP1 := hid (show Places w1 w.heap.size (.slice na2 L.length nc2) L from own_same HPA.out (fun g hg => hgrow1.block g (HPA.out.lt g hg).2 (fun hh => own_map_ne HPA.out hown0 (by rw [hg]; exact hh.symm))))
          have HC1 := hid (show Counts w1 w0.heap.size (k + 1) (ts.take (k + 1)) by rw [HK.out]; exact Counts.put hown1 HHD.out HAT.out rfl)
          have HCN := hid (show cntP (ts.take (k + 1)) t.text.toList = cntP (ts.take k) t.text.toList + 1 by rw [HK.out, cntP_snoc]; simp)
          obtain ⟨D1, hm1, hD1, hat1⟩ := HC1.out
          have HAT1 := hid hat1
          clear hown1 hgrow1 hat1 hD1 HAT HHD HHO hown0 HPA e0 e1 hmb
          have HBK2 := hid (HBK.out.trans (by rw [HR.out]))
          generalize hcn : cntP (ts.take k) t.text.toList = cn at *
          cases hdup : decide (0 < cn) with
          | false =>
            have hdup' : ¬ (1 : Int) < (cn : Int) + 1 := by simp at hdup; omega
            have HL := hid (show A ++ repTo ts (k + 1) = L by rw [HBK2.out, hdup]; simp [popt])
            go_wp2_with (first
              | (at_lookup; refine wpList_lookup_own_int _ rfl _ _ 297 rfl 9 3 .i64 Tryz.mapLaw Tryz.underlying297 Tryz.underlying3 (Tryz.zeroInt _) w0.heap.size (k + 1) _ rfl hm1 _ _ rfl hkey ?_; intro c hc hwc; rw [HAT1.out, HCN.out] at hc; obtain rfl : ((cn : Nat) : Int) + 1 = c := (by simpa using hc); clear hc hwc)
              | fail)
            go_roundg (gk - 1)
            case rel => exact ⟨k + 1, by omega, by go_num, hid (by rw [HL.out]; exact HP1.out), HC1, HB1.out⟩
            case measure => omega
          | true =>
            have hdup' : (1 : Int) < (cn : Int) + 1 := by simp at hdup; omega
            have HL := hid (show A ++ repTo ts (k + 1) = L ++ [t.at_] by rw [HBK2.out, hdup]; simp [popt])
            go_wp2_with (first
              | (at_lookup; refine wpList_lookup_own_int _ rfl _ _ 297 rfl 9 3 .i64 Tryz.mapLaw Tryz.underlying297 Tryz.underlying3 (Tryz.zeroInt _) w0.heap.size (k + 1) _ rfl hm1 _ _ rfl hkey ?_; intro c hc hwc; rw [HAT1.out, HCN.out] at hc; obtain rfl : ((cn : Nat) : Int) + 1 = c := (by simpa using hc); clear hc hwc)
              | (at_builtin; refine wpList_append_lies _ rfl _ _ 24 rfl w.heap.size 3 iI _ 1 8 Tryz.underlying24 hiI hI0 hI1 hI2 rfl (by decide) _ _ _ rfl (HP1.out.alloc _) ⟨_, 0, none⟩ 1 1 [natCell t.at_] rfl rfl (cells_new_at _ _ (by simp) #[.int .i64 t.at_] _) (by simp [natCell, Value.oneCell']) (by omega) (by unfold maxLen; omega) (by omega) (by simp; omega) _ rfl ?_)
              | fail)
            intro g5 cp5 w5 hown5 hgrow5 _ _
            have hb5 := pgrow_below HB1.out (by omega) HP1.out (Nat.le_refl _) hgrow5
            have HC5 := hid (show Counts w5 w0.heap.size (k + 1) (ts.take (k + 1)) from HC1.out.grown HP1.out ((Below.refl _ _).alloc (Nat.le_refl _) _) hgrow5)
            clear hgrow5
            go_wp2_with fail
            go_roundg (gk - 1)
            case rel => exact ⟨k + 1, by omega, by go_num, hid (by show World.ownsRow _ _ _ _ _ _ _; rw [HL.out]; simpa using hown5), HC5, hb5⟩
            case measure => omega
        · have HL := hid (show repP ((Gs.take (q + 1)).map (fun p => p.2)) = L by rw [HE.out, repP_snoc, HA.out, HBE.out (by omega)])
          go_wp2_with fail
          go_roundg (gk_1 - 1)
          case rel => exact ⟨q + 1, by omega, by go_num, hid (by rw [HL.out]; exact HP.out), hbe2⟩
          case measure => omega
    · have HL := hid (show Gs.take q = Gs from List.take_of_length_le (by omega))
      go_wp2_with fail
      go_ret
      exact ⟨_, rfl, by have := HO.out; rw [HL.out] at this; exact this, hbel⟩
end Go.Proofs.YtlgjlfobbpgklaaGreatDoor
