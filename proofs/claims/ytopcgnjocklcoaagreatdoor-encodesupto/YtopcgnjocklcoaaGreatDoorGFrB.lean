/- A deframer in memory, and one byte more for it. -/
import Derived.Test.YtopcgnjocklcoaaGreatDoorGFrA
import Derived.Deep.MidRow
import Derived.Deep.RegionWith
namespace Go.Proofs.YtopcgnjocklcoaaGreatDoor
open Go.RowKit

/-- the cells of a deframer -/
def cutCells (H : List UInt8) (bad : Bool) : List Value := (H ++ List.replicate (125 - H.length) 0).map byteCell ++ [.int .i64 H.length, .bool bad]
/-- the cells of a deframer, by its state -/
def stCells : St → List Value
  | none => cutCells [] true
  | some H => cutCells H false
def Cut (w : World) (b : Nat) (s : St) : Prop := ∃ cur, w.heap[b]? = some (.cells cur 80 (0, 0)) ∧ cur.toList = stCells s
theorem cutCells_len {H : List UInt8} {bad : Bool} (h : H.length ≤ 125) : (cutCells H bad).length = 127 := by simp [cutCells]; omega
theorem cell_row {w : World} {b : Nat} {cur : Array Value} {T : TypeId} (h : w.heap[b]? = some (.cells cur T (0, 0))) (i : Nat) : w.cell? ⟨b, i, none⟩ = cur.toList[i]? := by
  rw [cell_of_row w b i cur T (0, 0) h]; simp
theorem frozen_row {w : World} {b : Nat} {cur : Array Value} {T : TypeId} (h : w.heap[b]? = some (.cells cur T (0, 0))) (i : Nat) : w.frozen? ⟨b, i, none⟩ = false := by
  simp [World.frozen?, h]
theorem cut_count {H : List UInt8} {bad : Bool} (h : H.length ≤ 125) : (cutCells H bad)[125]? = some (.int .i64 H.length) := by
  unfold cutCells
  have e : ((H ++ List.replicate (125 - H.length) 0).map byteCell).length = 125 := by simp; omega
  rw [List.getElem?_append_right (by omega), e]; rfl
theorem cut_flag {H : List UInt8} {bad : Bool} (h : H.length ≤ 125) : (cutCells H bad)[126]? = some (.bool bad) := by
  unfold cutCells
  have e : ((H ++ List.replicate (125 - H.length) 0).map byteCell).length = 125 := by simp; omega
  rw [List.getElem?_append_right (by omega), e]; rfl
theorem cut_at {H : List UInt8} {bad : Bool} (h : H.length ≤ 125) {i : Nat} (hi : i < H.length) : (cutCells H bad)[i]? = some (.int .u8 (H[i].toNat : Int)) := by
  unfold cutCells
  have e : ((H ++ List.replicate (125 - H.length) 0).map byteCell).length = 125 := by simp; omega
  rw [List.getElem?_append_left (by omega), List.getElem?_map, List.getElem?_append_left hi, List.getElem?_eq_getElem hi]; rfl
theorem cut_push (H : List UInt8) (x : UInt8) (h : H.length < 125) : ((cutCells H false).set H.length (byteCell x)).set 125 (.int .i64 ((H.length : Int) + 1)) = cutCells (H ++ [x]) false := by
  unfold cutCells
  have e : ((H ++ List.replicate (125 - H.length) 0).map byteCell).length = 125 := by simp; omega
  rw [List.set_append_left _ _ (by omega), List.set_append_right _ _ (by rw [List.length_set]; omega), List.length_set, e]
  have hr : List.replicate (125 - H.length) (0 : UInt8) = 0 :: List.replicate (125 - (H.length + 1)) 0 := by
    rw [show 125 - H.length = (125 - (H.length + 1)) + 1 by omega]; rfl
  rw [hr, List.map_append, List.set_append_right _ _ (by simp)]
  simp [byteCell]
theorem setCells_row {b : Nat} {T : TypeId} : ∀ (vs : List Value) (o : Nat) (w : World) (cur : Array Value), w.heap[b]? = some (.cells cur T (0, 0)) → o + vs.length ≤ cur.size →
    ∃ cur', (w.setCells b o vs).heap[b]? = some (.cells cur' T (0, 0)) ∧ cur'.toList = cur.toList.take o ++ vs ++ cur.toList.drop (o + vs.length)
  | [], o, w, cur, h, _ => ⟨cur, h, by simp⟩
  | v :: r, o, w, cur, h, hl => by
    simp only [List.length_cons] at hl
    obtain ⟨cur', h1, h2⟩ := setCells_row r (o + 1) (w.setCell ⟨b, o, none⟩ v) (cur.setIfInBounds o v) (heap_setCell_same w b o cur T v h) (by simp; omega)
    refine ⟨cur', h1, ?_⟩
    rw [h2, Array.toList_setIfInBounds]
    have e1 : (cur.toList.set o v).take (o + 1) = cur.toList.take o ++ [v] := by
      rw [List.take_succ_eq_append_getElem (by simp; omega), List.take_set_of_le (Nat.le_refl _)]
      simp
    rw [e1, List.drop_set_of_lt (by omega), show o + 1 + r.length = o + (v :: r).length by rw [List.length_cons]; omega]
    simp
theorem setCells_other {b : Nat} : ∀ (vs : List Value) (o : Nat) (w : World) (k : Nat), k ≠ b → (w.setCells b o vs).heap[k]? = w.heap[k]?
  | [], _, _, _, _ => rfl
  | v :: r, o, w, k, hk => (setCells_other r (o + 1) (w.setCell ⟨b, o, none⟩ v) k hk).trans (Below.heap_setCell _ _ _ _ hk)
theorem setCells_rest {b : Nat} : ∀ (vs : List Value) (o : Nat) (w : World), (w.setCells b o vs).os = w.os ∧ (w.setCells b o vs).tape = w.tape ∧ (w.setCells b o vs).output = w.output ∧ (w.setCells b o vs).heap.size = w.heap.size
  | [], _, _ => ⟨rfl, rfl, rfl, rfl⟩
  | v :: r, o, w => by
    obtain ⟨h1, h2, h3, h4⟩ := setCells_rest (b := b) r (o + 1) (w.setCell ⟨b, o, none⟩ v)
    exact ⟨h1, h2, h3, h4.trans (by simp [World.setCell])⟩
theorem Tryz.infoCut : (Tryz.prog.info? 78).map (fun i => (i.zero, i.size)) = some (some (.agg (cutCells [] false).toArray), 127) := by kernel_rfl
theorem zero_of {P : Program} {t : TypeId} {v : Value} {n : Nat} (h : (P.info? t).map (fun i => (i.zero, i.size)) = some (some v, n)) (w : World) : (zeroValue t).run P w = .ok v w := by
  cases hq : P.info? t with
  | none => rw [hq] at h; simp at h
  | some i =>
    rw [hq] at h
    simp only [Option.map_some, Option.some.injEq, Prod.mk.injEq] at h
    simp [zeroValue, typeInfo, hq, h.1]
theorem zeroCut (w : World) : (zeroValue 78).run Tryz.prog w = .ok (.agg (cutCells [] false).toArray) w := zero_of Tryz.infoCut w
theorem cut_bad : ((cutCells [] false).toArray.setIfInBounds 126 (.bool true)).toList = stCells none := by
  rw [Array.toList_setIfInBounds]
  show (cutCells [] false).set 126 (.bool true) = cutCells [] true
  unfold cutCells
  rw [List.set_append_right _ _ (by simp)]
  simp
theorem cut_good : ((cutCells [] false).toArray.setIfInBounds 126 (.bool false)).toList = stCells (some []) := by
  rw [Array.toList_setIfInBounds]
  show (cutCells [] false).set 126 (.bool false) = cutCells [] false
  unfold cutCells
  rw [List.set_append_right _ _ (by simp)]
  simp
theorem cut_one {H : List UInt8} {bad : Bool} : ∀ v ∈ cutCells H bad, v.oneCell' = true := by
  intro v hv
  unfold cutCells at hv
  simp only [List.mem_append, List.mem_map, List.mem_cons, List.not_mem_nil, or_false] at hv
  rcases hv with ⟨c, _, rfl⟩ | rfl | rfl <;> rfl
theorem grown_trans {w w1 w2 : World} {row : Option Nat} (h : w.grownBy w1 row) (k : w1.grownBy w2 row) : w.grownBy w2 row :=
  ⟨k.os.trans h.os, k.tape.trans h.tape, k.output.trans h.output, Nat.le_trans h.size k.size, fun q hq hne => (k.block q (Nat.lt_of_lt_of_le hq h.size) hne).trans (h.block q hq hne)⟩
theorem grown_of_below {w w' : World} {row : Option Nat} (h : Below w.heap.size w w') : w.grownBy w' row := ⟨h.os, h.tape, h.output, h.size, fun k hk _ => h.block k hk⟩
theorem Bys.lower {w : World} {lo lo' : Nat} {v : Value} {L : List UInt8} (h : Bys w lo v L) (hl : lo' ≤ lo) : Bys w lo' v L := by
  obtain ⟨h1, h2⟩ := h
  refine ⟨h1, ?_⟩
  rcases h2 with h2 | ⟨g, cap, cur, hv, hg, r⟩
  · exact Or.inl h2
  · exact Or.inr ⟨g, cap, cur, hv, Nat.le_trans hl hg, r⟩
theorem Bys.grown {w w' : World} {lo b : Nat} {v : Value} {L : List UInt8} (h : Bys w lo v L) (hg : w.grownBy w' (some b)) (hb : b < lo) : Bys w' lo v L :=
  own_same h (fun g hg' => hg.block g (h.lt g hg').2 (fun e => by have := (h.lt g hg').1; cases e; omega))
/-- Unwrap's answer in one form -/
theorem unwrap_one (w : World) (a : Option Addr) (n c : Nat) (F : List UInt8) (hn : n = F.length) (h : Rd w (.slice a F.length c) F) (hl : F.length ≤ maxLen) (hcap : F.length ≤ c) :
    Calls Tryz.prog 147 #[.slice a n c] w fun e w' => ∃ v ok, e = .returned (.tuple #[v, .bool ok]) ∧ Hid (Below w.heap.size w w') ∧ Hid (match unwrapP sumB F with
      | some P => ok = true ∧ ∃ a c, v = .slice a P.length c ∧ Bys w' w.heap.size (.slice a P.length c) P
      | none => ok = false ∧ v = .slice none 0 0) := by
  subst hn
  refine (unwrap_any w a c F h hl hcap).mono ?_
  rintro e w' ⟨hb, hq⟩
  cases hu : unwrapP sumB F with
  | some P =>
    rw [hu] at hq
    obtain ⟨a', c', rfl, hB⟩ := hq
    exact ⟨_, true, rfl, hb, rfl, a', c', rfl, hB⟩
  | none =>
    rw [hu] at hq
    obtain rfl := hq
    exact ⟨_, false, rfl, hb, rfl, rfl⟩
/-- what 'add' answers -/
def AddPost (w : World) (b : Nat) (H : List UInt8) (x : UInt8) (e : Ending) (w' : World) : Prop :=
  w.grownBy w' (some b) ∧ Cut w' b (addP sumB H x).1 ∧ match (addP sumB H x).2 with
    | some P => ∃ a c, e = .returned (.tuple #[.slice a P.length c, .bool true]) ∧ Bys w' w.heap.size (.slice a P.length c) P
    | none => e = .returned (.tuple #[.slice none 0 0, .bool false])
/-- the deframer is written anew, whole -/
theorem cut_store {w : World} {b : Nat} {cur : Array Value} {cs : Array Value} {s : St} (h : w.heap[b]? = some (.cells cur 80 (0, 0))) (hc : cur.size = 127) (hs : cs.toList = stCells s) (hl : cs.size = 127) :
    Cut (w.setCells b 0 cs.toList) b s ∧ w.grownBy (w.setCells b 0 cs.toList) (some b) := by
  obtain ⟨cur', h1, h2⟩ := setCells_row cs.toList 0 w cur h (by simp; omega)
  refine ⟨⟨cur', h1, ?_⟩, ?_⟩
  · rw [h2, ← hs]
    have : cur.toList.drop (0 + cs.toList.length) = [] := List.drop_eq_nil_of_le (by simp; omega)
    rw [this]; simp
  · obtain ⟨r1, r2, r3, r4⟩ := setCells_rest (b := b) cs.toList 0 w
    exact ⟨r1, r2, r3, by omega, fun k _ hne => setCells_other _ _ _ _ (fun e => hne (by rw [e]))⟩
theorem run_cut_store {w : World} {b : Nat} {cur : Array Value} {s : St} (h : w.heap[b]? = some (.cells cur 80 (0, 0))) (hc : cur.size = 127) (vs : List Value) (hs : vs = stCells s) (hl : vs.length = 127) :
    ∃ w', (storeCells ⟨b, 0, none⟩ vs).run Tryz.prog w = .ok () w' ∧ Hid (Cut w' b s) ∧ Hid (w.grownBy w' (some b)) := by
  obtain ⟨h1, h2⟩ := cut_store (cs := vs.toArray) h hc hs (by simpa using hl)
  refine ⟨w.setCells b 0 vs, ?_, h1, h2⟩
  have := run_storeCells_cells (P := Tryz.prog) b 0 vs 0 w (fun j hj => by rw [cell_row h]; simp; omega) (fun j _ => frozen_row h _) (fun v hv => by
    subst hs
    cases s with
    | none => exact cut_one v hv
    | some H => exact cut_one v hv)
  exact this
set_option maxRecDepth 100000 in
set_option maxHeartbeats 1000000 in
theorem add_any (w : World) (b : Nat) (H : List UInt8) (x : UInt8) (h : Cut w b (some H)) (hok : St.Ok (some H)) :
    Calls Tryz.prog 108 #[.pointer (some ⟨b, 0, none⟩), .int .u8 x.toNat] w (AddPost w b H x) := by
  have hl : H.length < 125 := by
    rcases hok with rfl | ⟨h1, h2⟩
    · simp
    · have := okB_iff.1 h1; omega
  obtain ⟨cur, hcur, hcells⟩ := h
  have hc125 : w.cell? ⟨b, 125, none⟩ = some (.int .i64 H.length) := by
    rw [cell_row hcur, hcells]; exact cut_count (by omega)
  have hcH : ∃ v, w.cell? ⟨b, H.length, none⟩ = some v := by
    rw [cell_row hcur, hcells]
    exact ⟨_, List.getElem?_eq_getElem (by unfold stCells; rw [cutCells_len (by omega)]; omega)⟩
  obtain ⟨v0, hcH⟩ := hcH
  have hfz : w.frozen? ⟨b, H.length, none⟩ = false := frozen_row hcur _
  have hlI : (H.length : Int) < 125 := by omega
  go_enter Tryz.func108, Tryz.ntmps108
  go_wp2_with fail
  go_region
  obtain ⟨w1, hw1⟩ : ∃ w1, w1 = (w.setCell ⟨b, H.length, none⟩ (.int .u8 x.toNat)).drew := ⟨_, rfl⟩
  rw [← hw1]
  have hcur1 : w1.heap[b]? = some (.cells (cur.setIfInBounds H.length (.int .u8 x.toNat)) 80 (0, 0)) := by
    rw [hw1]; exact heap_setCell_same w b H.length cur _ _ hcur
  have d125 : w1.cell? ⟨b, 125, none⟩ = some (.int .i64 H.length) := by
    rw [cell_row hcur1, Array.toList_setIfInBounds, List.getElem?_set_ne (by omega), hcells]; exact cut_count (by omega)
  have df125 : w1.frozen? ⟨b, 125, none⟩ = false := frozen_row hcur1 _
  obtain ⟨n0, HH⟩ : ∃ n0 : Nat, Hid (((H ++ [x]).headD 0).toNat = n0) := ⟨_, rfl⟩
  have hn0 : n0 ≤ 255 := by rw [← HH.out]; have := ((H ++ [x]).headD 0).toNat_lt; omega
  have d0 : w1.cell? ⟨b, 0, none⟩ = some (.int .u8 n0) := by
    rw [cell_row hcur1, Array.toList_setIfInBounds, hcells, ← HH.out]
    cases H with
    | nil => rfl
    | cons c r => rw [List.getElem?_set_ne (by simp)]; exact cut_at (bad := false) (by omega) (i := 0) (by simp)
  have HW1 := hid hw1
  have HC := hid hcur
  have HC1 := hid hcur1
  have HL := hid hcells
  clear hc125 hcH hfz hw1 hcur hcur1 hcells
  go_wp2_with fail
  obtain ⟨w2, hw2⟩ : ∃ w2, w2 = w1.setCell ⟨b, 125, none⟩ (.int .i64 ((H.length : Int) + 1)) := ⟨_, rfl⟩
  rw [← hw2]
  obtain ⟨cur2, hcur2, hcells2⟩ : ∃ cur2, w2.heap[b]? = some (.cells cur2 80 (0, 0)) ∧ cur2.toList = cutCells (H ++ [x]) false := by
    refine ⟨_, by rw [hw2]; exact heap_setCell_same w1 b 125 _ _ _ HC1.out, ?_⟩
    rw [Array.toList_setIfInBounds, Array.toList_setIfInBounds, HL.out]
    exact cut_push H x hl
  have hg2 : w.grownBy w2 (some b) := by
    rw [hw2, HW1.out]
    exact ⟨rfl, rfl, rfl, by simp [World.setCell], fun k _ hne => (Below.heap_setCell _ _ _ _ (fun e => hne (by rw [e]))).trans (Below.heap_setCell _ _ _ _ (fun e => hne (by rw [e])))⟩
  have HG2 := hid hg2
  have HC2 := hid hcur2
  have HL2 := hid hcells2
  clear hw2 hcur2 hcells2 hg2 HC HC1 HL HW1 d125 df125 d0
  refine (isCount_any _ _).mono ?_; rintro e w2' ⟨rfl, rfl⟩
  by_cases hok0 : okB n0 = true
  · have hi : (decide (1 ≤ (n0 : Int)) && decide ((n0 : Int) ≤ 120)) = true := by have := okB_iff.1 hok0; simp; omega
    rw [hi]
    have d125 : w2'.cell? ⟨b, 125, none⟩ = some (.int .i64 ((H.length : Int) + 1)) := by
      rw [cell_row HC2.out, HL2.out, cut_count (by simp; omega)]; simp
    have hb120 := okB_iff.1 hok0
    by_cases hsh : H.length + 1 < 5 + n0
    · have HA := hid (show addP sumB H x = (some (H ++ [x]), none) by unfold addP; rw [HH.out, if_pos hok0, if_pos (by simp; omega)])
      have hcond : (H.length : Int) + 1 < 1 + (n0 : Int) + 4 := by omega
      clear hok0
      go_wp2_with fail
      go_ret2
      refine ⟨HG2.out, ?_, ?_⟩
      · rw [HA.out]; exact ⟨_, HC2.out, HL2.out⟩
      · rw [HA.out]; rfl
    · have hcond : ¬ (H.length : Int) + 1 < 1 + (n0 : Int) + 4 := by omega
      have hlF : (H ++ [x]).length = H.length + 1 := by simp
      obtain ⟨F, HF⟩ : ∃ F, Hid (H ++ [x] = F) := ⟨_, rfl⟩
      have hF : F.length = H.length + 1 := by rw [← HF.out]; exact hlF
      have HRd := hid (show Rd w2' (.slice (some ⟨b, 0, none⟩) F.length 125) F from Or.inr ⟨_, _, rfl, fun j u hu => by
        rw [rd_add _ _ rfl, cell_row HC2.out, HL2.out, HF.out]
        have hj : j < F.length := by
          rcases Nat.lt_or_ge j F.length with h | h
          · exact h
          · rw [List.getElem?_eq_none (by simp; omega)] at hu; cases hu
        rw [Nat.zero_add, cut_at (by omega) hj]
        simp [List.getElem?_eq_getElem hj] at hu
        rw [← hu]; rfl⟩)
      have hh0 : (0 : Int) ≤ (H.length : Int) + 1 := by omega
      have hh1 : (H.length : Int) + 1 ≤ 125 := by omega
      go_wp2_with fail
      have hnF : ((H.length : Int) + 1).toNat = F.length := by omega
      have HnF := hid hnF
      have HlF := hid hF
      clear hnF hF hlF
      go_region_with (go_at_call 147; refine (unwrap_one _ _ _ _ F (by first | exact HnF.out | (have := HlF.out; omega)) (HRd.out.later (Below.refl _ _).drew) (by unfold maxLen; have := HlF.out; omega) (by have := HlF.out; omega)).mono ?_; rintro e w3 ⟨v3, ok3, rfl, HB3, HU3⟩)
      all_goals
        have hbel : Below w2'.heap.size w2' w3 := (Below.refl _ _).drew.trans HB3.out
        have hblt : b < w2'.heap.size := (Array.getElem?_eq_some_iff.1 HC2.out).1
        have HC3 := hid (show w3.heap[b]? = some (.cells cur2 80 (0, 0)) from (hbel.block b hblt).trans HC2.out)
        have HG3 := hid (grown_trans HG2.out (grown_of_below (row := some b) hbel))
        obtain ⟨Z, hZ, hzs, HZ⟩ : ∃ Z : Array Value, (∀ w, (zeroValue 78).run Tryz.prog w = .ok (.agg Z) w) ∧ Z.size = 127 ∧ Hid (Z = (cutCells [] false).toArray) := ⟨_, zeroCut, rfl, rfl⟩
        have hcs : cur2.size = 127 := by rw [← Array.length_toList, HL2.out]; exact cutCells_len (by simp; omega)
        have hsz : w.heap.size ≤ w2'.heap.size := HG2.out.size
        have HHF := hid (show (F.headD 0).toNat = n0 by rw [← HF.out]; exact HH.out)
        have HAd := hid (show addP sumB H x = match unwrapP sumB F with | some P => (some [], some P) | none => (none, none) by unfold addP; rw [HF.out, HHF.out, if_pos hok0, if_neg (by have := HlF.out; omega)]; rfl)
        clear HB3 hok0
        cases hu : unwrapP sumB F with
        | some P =>
          have hU := HU3.out
          have hA := HAd.out
          rw [hu] at hU hA
          obtain ⟨rfl, a3, c3, rfl, hB3⟩ := hU
          have HA := hid hA
          have HB3 := hid hB3
          clear hA hB3 HU3 HAd hu
          obtain ⟨w4, hst, HC4, HG4⟩ := run_cut_store (s := some []) HC3.out hcs (Z.toList.set 126 (.bool false)) (by rw [HZ.out]; exact cut_good) (by simp; omega)
          go_wp2_with fail
          go_ret2
          refine ⟨grown_trans HG3.out HG4.out, ?_, ?_⟩
          · rw [HA.out]; exact HC4.out
          · rw [HA.out]
            exact ⟨a3, c3, rfl, (HB3.out.grown HG4.out hblt).lower hsz⟩
        | none =>
          have hU := HU3.out
          have hA := HAd.out
          rw [hu] at hU hA
          obtain ⟨rfl, rfl⟩ := hU
          have HA := hid hA
          clear hA HU3 HAd hu
          obtain ⟨w4, hst, HC4, HG4⟩ := run_cut_store (s := none) HC3.out hcs (Z.toList.set 126 (.bool true)) (by rw [HZ.out]; exact cut_bad) (by simp; omega)
          go_wp2_with fail
          go_ret2
          refine ⟨grown_trans HG3.out HG4.out, ?_, ?_⟩
          · rw [HA.out]; exact HC4.out
          · rw [HA.out]; rfl
  · have hi : (decide (1 ≤ (n0 : Int)) && decide ((n0 : Int) ≤ 120)) = false := by
      have h120 : ¬ (1 ≤ n0 ∧ n0 ≤ 120) := fun h => hok0 (okB_iff.2 h)
      simp; omega
    rw [hi]
    obtain ⟨Z, hZ, hzs, HZ⟩ : ∃ Z : Array Value, (∀ w, (zeroValue 78).run Tryz.prog w = .ok (.agg Z) w) ∧ Z.size = 127 ∧ Hid (Z = (cutCells [] false).toArray) := ⟨_, zeroCut, rfl, rfl⟩
    obtain ⟨w3, hst, HC3, HG3⟩ := run_cut_store (s := none) HC2.out (by rw [← Array.length_toList, HL2.out]; exact cutCells_len (by simp; omega)) (Z.toList.set 126 (.bool true)) (by rw [HZ.out]; exact cut_bad) (by simp; omega)
    have HA := hid (show addP sumB H x = (none, none) by unfold addP; rw [HH.out, if_neg hok0])
    clear hok0
    go_wp2_with fail
    go_ret2
    refine ⟨?_, ?_, ?_⟩
    · exact grown_trans HG2.out HG3.out
    · rw [HA.out]; exact HC3.out
    · rw [HA.out]; rfl
end Go.Proofs.YtopcgnjocklcoaaGreatDoor
/- Feed: bytes one behind the other; the payloads that come out. -/
namespace Go.Proofs.YtopcgnjocklcoaaGreatDoor
open Go.RowKit

/-- lists of bytes in memory of their own, each in its own -/
structure Lst (w : World) (lo : Nat) (v : Value) (vs : List Value) (Ls : List (List UInt8)) : Prop where
  own : w.ownsRow lo 39 1 v Ls.length vs
  each : ∀ (i : Nat) (u : Value) (L : List UInt8), vs[i]? = some u → Ls[i]? = some L → Bys w lo u L
  apart : ∀ (i j : Nat) (u u' : Value), vs[i]? = some u → vs[j]? = some u' → i ≠ j → ∀ g, u.ownBlock = some g → u'.ownBlock = some g → False
theorem Lst.len {w : World} {lo : Nat} {v : Value} {vs : List Value} {Ls : List (List UInt8)} (h : Lst w lo v vs Ls) : vs.length = Ls.length := by have := h.own.1; omega
theorem Lst.nil (w : World) (lo : Nat) : Lst w lo (.slice none 0 0) [] [] := ⟨World.ownsRow_nil _ _ _ _, fun i u L h => by simp at h, fun i j u u' h => by simp at h⟩
theorem Lst.at {w : World} {lo : Nat} {v : Value} {vs : List Value} {Ls : List (List UInt8)} (h : Lst w lo v vs Ls) {i : Nat} (hi : i < Ls.length) : ∃ u, vs[i]? = some u ∧ Bys w lo u Ls[i] := by
  have hl := h.len
  exact ⟨vs[i], List.getElem?_eq_getElem (by omega), h.each i _ _ (List.getElem?_eq_getElem (by omega)) (List.getElem?_eq_getElem hi)⟩
/-- memory in which none of its blocks has turned -/
theorem Lst.same {w w' : World} {lo : Nat} {v : Value} {vs : List Value} {Ls : List (List UInt8)} (h : Lst w lo v vs Ls) (hs : ∀ k, lo ≤ k → k < w.heap.size → w'.heap[k]? = w.heap[k]?) : Lst w' lo v vs Ls :=
  ⟨own_same h.own (fun g hg => hs g (h.own.lt g hg).1 (h.own.lt g hg).2), fun i u L hu hL => own_same (h.each i u L hu hL) (fun g hg => hs g ((h.each i u L hu hL).lt g hg).1 ((h.each i u L hu hL).lt g hg).2), h.apart⟩
theorem Tryz.infoBytes : (Tryz.prog.info? 39).map (fun i => (i.zero, i.size, i.bytes)) = some (some (.slice none 0 0), 1, 24) := by kernel_rfl
/-- one payload more -/
theorem Lst.push {w w1 w2 : World} {lo : Nat} {v v' u : Value} {vs : List Value} {Ls : List (List UInt8)} {P : List UInt8} (h : Lst w lo v vs Ls) (hu : Bys w1 w.heap.size u P) (hs : ∀ k, lo ≤ k → k < w.heap.size → w1.heap[k]? = w.heap[k]?) (hlo : lo ≤ w.heap.size)
    (hown : w2.ownsRow lo 39 1 v' (Ls.length + 1) (vs ++ [u])) (hg : Grew w1 w2 v v') : Lst w2 lo v' (vs ++ [u]) (Ls ++ [P]) := by
  have h1 := h.same hs
  have hne : ∀ {u : Value} {L : List UInt8} {lo' : Nat}, Bys w1 lo' u L → ∀ g, u.ownBlock = some g → some g ≠ v.ownBlock := fun hB g hg' e => own_ne hB h1.own (by decide) hg' e.symm rfl
  have hl := h.len
  refine ⟨by rw [List.length_append]; exact hown, fun i q L hq hL => ?_, fun i j q q' hq hq' hij g hg1 hg2 => ?_⟩
  · rcases Nat.lt_or_ge i vs.length with hi | hi
    · rw [List.getElem?_append_left hi] at hq
      rw [List.getElem?_append_left (by omega)] at hL
      have hB := h1.each i q L hq hL
      exact own_same hB (fun g hg' => hg.g.block g (hB.lt g hg').2 (hne hB g hg'))
    · rw [List.getElem?_append_right hi] at hq
      rw [List.getElem?_append_right (by omega)] at hL
      have hi0 : i - vs.length = 0 := by
        rcases Nat.eq_zero_or_pos (i - vs.length) with e | e
        · exact e
        · rw [List.getElem?_eq_none (by simp; omega)] at hq; cases hq
      rw [hi0] at hq
      rw [show i - Ls.length = 0 by omega] at hL
      simp at hq hL
      subst hq hL
      exact Bys.lower (own_same hu (fun g hg' => hg.g.block g (hu.lt g hg').2 (hne hu g hg'))) hlo
  · have key : ∀ (i j : Nat) (q q' : Value), i < vs.length → vs.length ≤ j → (vs ++ [u])[i]? = some q → (vs ++ [u])[j]? = some q' → q.ownBlock = some g → q'.ownBlock = some g → False := fun i j q q' hi hj hq hq' hg1 hg2 => by
      rw [List.getElem?_append_left hi] at hq
      rw [List.getElem?_append_right hj] at hq'
      have hj0 : j - vs.length = 0 := by
        rcases Nat.eq_zero_or_pos (j - vs.length) with e | e
        · exact e
        · rw [List.getElem?_eq_none (by simp; omega)] at hq'; cases hq'
      rw [hj0] at hq'
      simp at hq'
      subst hq'
      have h2 := (hu.lt g hg2).1
      have h3 := ((h.each i q Ls[i] hq (List.getElem?_eq_getElem (by omega))).lt g hg1).2
      omega
    rcases Nat.lt_or_ge i vs.length with hi | hi <;> rcases Nat.lt_or_ge j vs.length with hj | hj
    · rw [List.getElem?_append_left hi] at hq
      rw [List.getElem?_append_left hj] at hq'
      exact h.apart i j q q' hq hq' hij g hg1 hg2
    · exact key i j q q' hi hj hq hq' hg1 hg2
    · exact key j i q' q hj hi hq' hq hg2 hg1
    · have := (List.getElem?_eq_some_iff.1 hq).1
      have := (List.getElem?_eq_some_iff.1 hq').1
      simp at *; omega
/-- what Feed answers -/
def feedErr : St → Int
  | none => 7
  | some _ => 0
def FeedPost (w : World) (b : Nat) (s : St) (L : List UInt8) (e : Ending) (w' : World) : Prop :=
  ∃ a c vs, e = .returned (.tuple #[.slice a (feedF sumB s L).1.length c, .int .i64 (feedErr (feedF sumB s L).2)]) ∧ w.grownBy w' (some b) ∧ Cut w' b (feedF sumB s L).2 ∧ Lst w' w.heap.size (.slice a (feedF sumB s L).1.length c) vs (feedF sumB s L).1
theorem one_at (w : World) (u : Value) (T : TypeId) : ∀ j u', [u][j]? = some u' → (w.alloc (.cells #[u] T)).cell? ((⟨w.heap.size, 0, none⟩ : Addr).add j) = some u' := by
  intro j u' hj
  match j, hj with
  | 0, hj => simp at hj; subst hj; simp [Addr.add]
theorem one_slice {a : Option Addr} {n c : Nat} : ∀ u ∈ [Value.slice a n c], u.oneCell' = true := fun u hu => by simp at hu; subst hu; rfl
/-- a row of the call's own has grown: of what was there but block b nothing has turned -/
theorem grown_to {w w1 w2 : World} {b : Nat} {v v' : Value} {o : Obj} (h : w.grownBy w1 (some b)) (hg : Grew (w1.alloc o) w2 v v') (hv : ∀ q, v.ownBlock = some q → w.heap.size ≤ q) : w.grownBy w2 (some b) := by
  refine ⟨hg.g.os.trans h.os, hg.g.tape.trans h.tape, hg.g.output.trans h.output, ?_, fun q hq hne => ?_⟩
  · have := hg.g.size; have := h.size; simp at *; omega
  · have hq1 := h.size
    rw [hg.g.block q (by simp; omega) (fun e => by have := hv q e.symm; omega), Below.heap_alloc w1 _ q (by omega)]
    exact h.block q hq hne
/-- 'add''s answer in one form -/
theorem add_one (w : World) (b : Nat) (H : List UInt8) (x : UInt8) (h : Cut w b (some H)) (hok : St.Ok (some H)) :
    Calls Tryz.prog 108 #[.pointer (some ⟨b, 0, none⟩), .int .u8 x.toNat] w fun e w' => ∃ a n c ok, e = .returned (.tuple #[.slice a n c, .bool ok]) ∧ Hid (w.grownBy w' (some b)) ∧ Hid (Cut w' b (addP sumB H x).1) ∧ Hid (match (addP sumB H x).2 with
      | some P => ok = true ∧ n = P.length ∧ Bys w' w.heap.size (.slice a n c) P
      | none => ok = false) := by
  refine (add_any w b H x h hok).mono ?_
  rintro e w' ⟨hg, hc, hq⟩
  cases hu : (addP sumB H x).2 with
  | some P =>
    rw [hu] at hq
    obtain ⟨a', c', rfl, hB⟩ := hq
    exact ⟨a', _, c', true, rfl, hg, hc, rfl, rfl, hB⟩
  | none =>
    rw [hu] at hq
    obtain rfl := hq
    exact ⟨none, 0, 0, false, rfl, hg, hc, rfl⟩
def stBad : St → Bool
  | none => true
  | some _ => false
theorem cut_spoiled {w : World} {b : Nat} {s : St} (h : Cut w b s) (hok : s.Ok) : w.cell? ⟨b, 126, none⟩ = some (.bool (stBad s)) := by
  obtain ⟨cur, h1, h2⟩ := h
  rw [cell_row h1, h2]
  cases s with
  | none => exact cut_flag (by simp)
  | some H =>
    refine cut_flag ?_
    rcases hok with rfl | ⟨h1, h2⟩
    · simp
    · have := okB_iff.1 h1; omega
theorem step_some {sm : List UInt8 → List UInt8} {Ls : List (List UInt8)} {H P : List UInt8} {x : UInt8} (h : (addP sm H x).2 = some P) : stepF sm (Ls, some H) x = (Ls ++ [P], (addP sm H x).1) := by simp [stepF, h]
theorem step_none {sm : List UInt8 → List UInt8} {Ls : List (List UInt8)} {H : List UInt8} {x : UInt8} (h : (addP sm H x).2 = none) : stepF sm (Ls, some H) x = (Ls, (addP sm H x).1) := by simp [stepF, h]
set_option maxRecDepth 100000 in
set_option maxHeartbeats 2000000 in
theorem cutFeed_any (w : World) (b : Nat) (s : St) (v : Value) (L : List UInt8) (h : Cut w b s) (hok : s.Ok) (hr : Rd w v L) (hl : L.length ≤ 1000000000) (hvb : ∀ k, v.ownBlock = some k → k ≠ b) :
    Calls Tryz.prog 68 #[.pointer (some ⟨b, 0, none⟩), v] w (FeedPost w b s L) := by
  obtain ⟨la, lc, rfl⟩ := hr.slice
  have HR := hid hr
  have HC := hid h
  have hblt : b < w.heap.size := (Array.getElem?_eq_some_iff.1 h.choose_spec.1).1
  clear h hr
  go_enter Tryz.func68, Tryz.ntmps68
  go_wp2_with fail
  go_loopg [6, 8, 9, 10, 13] L.length (fun gk pv x8 x9 x10 i wr => ∃ k : Nat, k + gk = L.length ∧ i = .int .i64 k ∧ ∃ a c vs, pv = .slice a (feedF sumB s (L.take k)).1.length c ∧ Hid (w.grownBy wr (some b)) ∧ Hid (Cut wr b (feedF sumB s (L.take k)).2) ∧ Hid (Lst wr w.heap.size pv vs (feedF sumB s (L.take k)).1))
  case atStart => exact ⟨0, by omega, rfl, none, 0, [], rfl, hid ⟨rfl, rfl, rfl, Nat.le_refl _, fun _ _ _ => rfl⟩, HC.out, Lst.nil _ _⟩
  case round =>
    obtain ⟨k, hk, rfl, a, c, vs, rfl, HG, HCr, HLs⟩ := hrel
    have hokr : (feedF sumB s (L.take k)).2.Ok := fold_ok _ _ hok
    have hsp := cut_spoiled HCr.out hokr
    have HX := hid (show feedF sumB s L = ((feedF sumB s (L.take k)).1 ++ (feedF sumB (feedF sumB s (L.take k)).2 (L.drop k)).1, (feedF sumB (feedF sumB s (L.take k)).2 (L.drop k)).2) by
      rw [← feed_append, List.take_append_drop])
    have hzr := HG.out.size
    by_cases hlt : k < L.length
    · obtain ⟨lb, o, c', hv, hb, hc⟩ := HR.out.at (by omega)
      obtain ⟨rfl, rfl⟩ : la = some ⟨lb, o, none⟩ ∧ lc = c' := by simpa using hv
      have hck : wr.cell? ⟨lb, o + k, none⟩ = some (.int .u8 (L[k].toNat : Int)) := by
        rw [World.cell?_of_block (w := w) (w' := wr) (a := ⟨lb, o + k, none⟩) (HG.out.block lb hb (fun e => hvb lb rfl (by cases e; rfl)))]
        exact hc k hlt
      have HS := hid (show feedF sumB s (L.take (k + 1)) = stepF sumB ((feedF sumB s (L.take k)).1, (feedF sumB s (L.take k)).2) L[k] by
        rw [List.take_succ_eq_append_getElem hlt, feed_snoc])
      have hn6 : (feedF sumB s (L.take k)).1.length ≤ k := by have := feed_count (sm := sumB) s (L.take k); rw [List.length_take] at this; omega
      generalize (feedF sumB s (L.take k)).1 = Ls at *
      generalize (feedF sumB s (L.take k)).2 = t at *
      generalize L[k] = x at *
      clear hc hv
      cases t with
      | none =>
        have hsp' : wr.cell? ⟨b, 126, none⟩ = some (.bool true) := hsp
        have HX2 := hid (show feedF sumB s L = (Ls, none) by rw [HX.out, feed_bad]; simp)
        clear hsp HX
        go_wp2_with fail
        go_ret2
        refine ⟨a, c, vs, ?_, HG.out, ?_, ?_⟩
        · rw [HX2.out]; rfl
        · rw [HX2.out]; exact HCr.out
        · rw [HX2.out]; exact HLs.out
      | some H =>
        have hsp' : wr.cell? ⟨b, 126, none⟩ = some (.bool false) := hsp
        have HOK := hid hokr
        clear hsp HX hokr
        go_wp2_with fail
        refine (add_one _ _ H x HCr.out HOK.out).mono ?_; rintro e w1 ⟨a1, n1, c1, ok1, rfl, HG1, HC1, HA1⟩
        have HG01 := hid (grown_trans HG.out HG1.out)
        have hz1 := HG1.out.size
        cases hu : (addP sumB H x).2 with
        | none =>
          have hA := HA1.out
          rw [hu] at hA
          obtain rfl := hA
          have HS2 := hid (HS.out.trans (step_none hu))
          have HLs1 := hid (HLs.out.same (w' := w1) (fun q hq1 hq2 => HG1.out.block q hq2 (fun e => by cases e; omega)))
          clear hu HA1
          go_wp2_with fail
          go_roundg (gk - 1)
          case rel =>
            refine ⟨k + 1, by omega, by go_num, a, c, vs, ?_, HG01, ?_, ?_⟩
            · rw [HS2.out]
            · rw [HS2.out]; exact HC1
            · rw [HS2.out]; exact HLs1
          case measure => omega
        | some P =>
          have hA := HA1.out
          rw [hu] at hA
          obtain ⟨rfl, rfl, hB1⟩ := hA
          have HB1 := hid hB1
          have HS2 := hid (HS.out.trans (step_some (Ls := Ls) hu))
          have HLs1 := hid (HLs.out.same (w' := w1) (fun q hq1 hq2 => HG1.out.block q hq2 (fun e => by cases e; omega)))
          clear hu HA1 hB1
          go_wp2_with (at_builtin; refine wpList_append_gen _ rfl (.tmp 28) (.tmp 30) 82 39 _ 1 24 rfl Tryz.underlying82 Tryz.infoBytes rfl (by decide) _ Ls.length vs w.heap.size rfl (HLs1.out.own.alloc _) _ 1 1 [.slice a1 P.length c1] rfl rfl (one_at _ _ _) one_slice (Ls.length + 1) rfl _ rfl (by unfold maxLen; omega) (by omega) (by simp; omega) ?_)
          intro a2 c2 w2 ho2 hg2
          have HL2 := hid (HLs.out.push (HB1.out.alloc _) (fun q hq1 hq2 => (Below.heap_alloc w1 _ q (by omega)).trans (HG1.out.block q hq2 (fun e => by cases e; omega))) hzr ho2 hg2)
          have hbv : ∀ q, (Value.slice a Ls.length c).ownBlock = some q → q ≠ b := fun q hq => by have := (HLs.out.own.lt q hq).1; omega
          have HGr2 := hid (grown_to HG01.out hg2 (fun q hq => (HLs.out.own.lt q hq).1))
          have HC2 := hid (show Cut w2 b (addP sumB H x).1 from by
            obtain ⟨cur, e1, e2⟩ := HC1.out
            exact ⟨cur, (hg2.g.block b (by simp; omega) (fun e => hbv b e.symm rfl)).trans ((Below.heap_alloc w1 _ b (by omega)).trans e1), e2⟩)
          clear ho2 hg2
          go_wp2_with fail
          go_roundg (gk - 1)
          case rel =>
            refine ⟨k + 1, by omega, by go_num, a2, c2, vs ++ [.slice a1 P.length c1], ?_, HGr2, ?_, ?_⟩
            · rw [HS2.out]; simp
            · rw [HS2.out]; exact HC2
            · rw [HS2.out]; exact HL2
          case measure => omega
    · obtain rfl : k = L.length := by omega
      rw [List.take_length] at *
      generalize hF : feedF sumB s L = X at *
      obtain ⟨Ls, t⟩ := X
      have HF := hid hF
      clear hF HX
      cases t with
      | none =>
        have hsp' : wr.cell? ⟨b, 126, none⟩ = some (.bool true) := hsp
        clear hsp
        go_wp2_with fail
        go_ret2
        refine ⟨a, c, vs, ?_, HG.out, ?_, ?_⟩
        · rw [HF.out]; rfl
        · rw [HF.out]; exact HCr.out
        · rw [HF.out]; exact HLs.out
      | some H =>
        have hsp' : wr.cell? ⟨b, 126, none⟩ = some (.bool false) := hsp
        clear hsp
        go_wp2_with fail
        go_ret2
        refine ⟨a, c, vs, ?_, HG.out, ?_, ?_⟩
        · rw [HF.out]; rfl
        · rw [HF.out]; exact HCr.out
        · rw [HF.out]; exact HLs.out
end Go.Proofs.YtopcgnjocklcoaaGreatDoor
/- NewDeframer and Feed of package courier. -/
namespace Go.Proofs.YtopcgnjocklcoaaGreatDoor
open Go.RowKit

theorem Tryz.infoDef : (Tryz.prog.info? 80).map (fun i => (i.zero, i.size)) = some (some (.agg (cutCells [] false).toArray), 127) := by kernel_rfl
set_option maxRecDepth 100000 in
set_option maxHeartbeats 1000000 in
theorem newDeframer_any (w : World) :
    Calls Tryz.prog 22 #[] w fun e w' => e = .returned (.pointer (some ⟨w.heap.size, 0, none⟩)) ∧ Below w.heap.size w w' ∧ w'.heap.size = w.heap.size + 1 ∧ Cut w' w.heap.size (some []) := by
  obtain ⟨Z, hZ, hzs, HZ⟩ : ∃ Z : Array Value, (∀ w, (zeroValue 80).run Tryz.prog w = .ok (.agg Z) w) ∧ Z.size = 127 ∧ Hid (Z = (cutCells [] false).toArray) := ⟨_, zero_of Tryz.infoDef, rfl, rfl⟩
  go_enter Tryz.func22, Tryz.ntmps22
  go_wp2_with fail
  go_ret
  refine ⟨rfl, (Below.refl _ _).alloc (Nat.le_refl _) _, by simp, Z, heap_alloc_new w _, ?_⟩
  rw [HZ.out]; rfl
set_option maxRecDepth 100000 in
set_option maxHeartbeats 1000000 in
theorem feed_any (w : World) (b : Nat) (s : St) (v : Value) (L : List UInt8) (h : Cut w b s) (hok : s.Ok) (hr : Rd w v L) (hl : L.length ≤ 1000000000) (hvb : ∀ k, v.ownBlock = some k → k ≠ b) :
    Calls Tryz.prog 39 #[.pointer (some ⟨b, 0, none⟩), v] w (FeedPost w b s L) := by
  have HC := hid h
  have HR := hid hr
  clear h hr
  go_enter Tryz.func39, Tryz.ntmps39
  go_wp2_with fail
  refine (cutFeed_any _ b s _ L HC.out hok HR.out hl hvb).mono ?_; rintro e w1 ⟨a1, c1, vs, rfl, hg, hc, hL⟩
  have H1 := hid hg
  have H2 := hid hc
  have H3 := hid hL
  clear hg hc hL
  go_wp2_with fail
  go_ret2
  exact ⟨a1, c1, vs, rfl, H1.out, H2.out, H3.out⟩
def pickN (c : Int) (n : Nat) : Nat := ((if c < 0 then -(c + 1) else c) % n).toNat
theorem mod_lt {a : Int} {n : Nat} (h : 0 < n) : 0 ≤ a % (n : Int) ∧ a % (n : Int) < n := ⟨Int.emod_nonneg _ (by omega), Int.emod_lt_of_pos _ (by omega)⟩
theorem pickN_lt (c : Int) {n : Nat} (h : 0 < n) : pickN c n < n := by
  unfold pickN
  have := mod_lt (a := if c < 0 then -(c + 1) else c) h
  omega
theorem pickN_neg {c : Int} {n : Nat} (h0 : 0 < n) (h : c < 0) : ((pickN c n : Nat) : Int) = -((c + 1).tmod n) := by
  unfold pickN
  rw [if_pos h, ← Int.neg_tmod, Int.tmod_eq_emod_of_nonneg (by omega)]
  have := mod_lt (a := -(c + 1)) h0
  omega
theorem pickN_pos {c : Int} {n : Nat} (h0 : 0 < n) (h : ¬ c < 0) : ((pickN c n : Nat) : Int) = c % n := by
  unfold pickN
  rw [if_neg h]
  have := mod_lt (a := c) h0
  omega
end Go.Proofs.YtopcgnjocklcoaaGreatDoor
