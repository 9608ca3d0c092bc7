/- A deframer in memory, and one byte more for it. -/
import Derived.Test.YtlgjlfobbpgklaaGreatDoorCFrUnwrap
import Derived.Deep.MidRow
import Derived.Deep.RegionWith
namespace Go.Proofs.YtlgjlfobbpgklaaGreatDoor
open Go.RowKit

/-- the cells of a deframer -/
def cutCells (H : List UInt8) (bad : Bool) : List Value := (H ++ List.replicate (125 - H.length) 0).map byteCell ++ [.int .i64 H.length, .bool bad]
/-- the cells of a deframer, by its state -/
def stCells : St → List Value
  | .bad => cutCells [] true
  | .held H => cutCells H false
def Cut (w : World) (b : Nat) (s : St) : Prop := ∃ cur, w.heap[b]? = some (.cells cur 189 (0, 0)) ∧ cur.toList = stCells s
theorem cutCells_len {H : List UInt8} {bad : Bool} (h : H.length ≤ 125) : (cutCells H bad).length = 127 := by simp [cutCells]; omega
theorem cell_row {w : World} {b : Nat} {cur : Array Value} {T : TypeId} (h : w.heap[b]? = some (.cells cur T (0, 0))) (i : Nat) : w.cell? ⟨b, i, none⟩ = cur.toList[i]? := by
  rw [cell_of_row w b i cur T (0, 0) h]; simp
theorem frozen_row {w : World} {b : Nat} {cur : Array Value} {T : TypeId} (h : w.heap[b]? = some (.cells cur T (0, 0))) (i : Nat) : w.frozen? ⟨b, i, none⟩ = false := by
  simp [World.frozen?, h]
theorem cut_count {H : List UInt8} {bad : Bool} (h : H.length ≤ 125) : (cutCells H bad)[125]? = some (.int .i64 H.length) := by
  unfold cutCells
  have e : ((H ++ List.replicate (125 - H.length) 0).map byteCell).length = 125 := by simp; omega
  rw [List.getElem?_append_right (by omega), e]; rfl
theorem cut_flag {H : List UInt8} {bad : Bool} (h : H.length ≤ 125) : (cutCells H bad)[126]? = some (.bool bad) := by
  unfold cutCells
  have e : ((H ++ List.replicate (125 - H.length) 0).map byteCell).length = 125 := by simp; omega
  rw [List.getElem?_append_right (by omega), e]; rfl
theorem cut_at {H : List UInt8} {bad : Bool} (h : H.length ≤ 125) {i : Nat} (hi : i < H.length) : (cutCells H bad)[i]? = some (.int .u8 (H[i].toNat : Int)) := by
  unfold cutCells
  have e : ((H ++ List.replicate (125 - H.length) 0).map byteCell).length = 125 := by simp; omega
  rw [List.getElem?_append_left (by omega), List.getElem?_map, List.getElem?_append_left hi, List.getElem?_eq_getElem hi]; rfl
theorem cut_push (H : List UInt8) (x : UInt8) (h : H.length < 125) : ((cutCells H false).set H.length (byteCell x)).set 125 (.int .i64 ((H.length : Int) + 1)) = cutCells (H ++ [x]) false := by
  unfold cutCells
  have e : ((H ++ List.replicate (125 - H.length) 0).map byteCell).length = 125 := by simp; omega
  rw [List.set_append_left _ _ (by omega), List.set_append_right _ _ (by rw [List.length_set]; omega), List.length_set, e]
  have hr : List.replicate (125 - H.length) (0 : UInt8) = 0 :: List.replicate (125 - (H.length + 1)) 0 := by
    rw [show 125 - H.length = (125 - (H.length + 1)) + 1 by omega]; rfl
  rw [hr, List.map_append, List.set_append_right _ _ (by simp)]
  simp [byteCell]
theorem setCells_row {b : Nat} {T : TypeId} : ∀ (vs : List Value) (o : Nat) (w : World) (cur : Array Value), w.heap[b]? = some (.cells cur T (0, 0)) → o + vs.length ≤ cur.size →
    ∃ cur', (w.setCells b o vs).heap[b]? = some (.cells cur' T (0, 0)) ∧ cur'.toList = cur.toList.take o ++ vs ++ cur.toList.drop (o + vs.length)
  | [], o, w, cur, h, _ => ⟨cur, h, by simp⟩
  | v :: r, o, w, cur, h, hl => by
    simp only [List.length_cons] at hl
    obtain ⟨cur', h1, h2⟩ := setCells_row r (o + 1) (w.setCell ⟨b, o, none⟩ v) (cur.setIfInBounds o v) (heap_setCell_same w b o cur T v h) (by simp; omega)
    refine ⟨cur', h1, ?_⟩
    rw [h2, Array.toList_setIfInBounds]
    have e1 : (cur.toList.set o v).take (o + 1) = cur.toList.take o ++ [v] := by
      rw [List.take_succ_eq_append_getElem (by simp; omega), List.take_set_of_le (Nat.le_refl _)]
      simp
    rw [e1, List.drop_set_of_lt (by omega), show o + 1 + r.length = o + (v :: r).length by rw [List.length_cons]; omega]
    simp
theorem setCells_other {b : Nat} : ∀ (vs : List Value) (o : Nat) (w : World) (k : Nat), k ≠ b → (w.setCells b o vs).heap[k]? = w.heap[k]?
  | [], _, _, _, _ => rfl
  | v :: r, o, w, k, hk => (setCells_other r (o + 1) (w.setCell ⟨b, o, none⟩ v) k hk).trans (Below.heap_setCell _ _ _ _ hk)
theorem setCells_rest {b : Nat} : ∀ (vs : List Value) (o : Nat) (w : World), (w.setCells b o vs).os = w.os ∧ (w.setCells b o vs).tape = w.tape ∧ (w.setCells b o vs).output = w.output ∧ (w.setCells b o vs).heap.size = w.heap.size
  | [], _, _ => ⟨rfl, rfl, rfl, rfl⟩
  | v :: r, o, w => by
    obtain ⟨h1, h2, h3, h4⟩ := setCells_rest (b := b) r (o + 1) (w.setCell ⟨b, o, none⟩ v)
    exact ⟨h1, h2, h3, h4.trans (by simp [World.setCell])⟩
theorem Tryz.infoCut : (Tryz.prog.info? 187).map (fun i => (i.zero, i.size)) = some (some (.agg (cutCells [] false).toArray), 127) := by kernel_rfl
theorem zero_of {P : Program} {t : TypeId} {v : Value} {n : Nat} (h : (P.info? t).map (fun i => (i.zero, i.size)) = some (some v, n)) (w : World) : (zeroValue t).run P w = .ok v w := by
  cases hq : P.info? t with
  | none => rw [hq] at h; simp at h
  | some i =>
    rw [hq] at h
    simp only [Option.map_some, Option.some.injEq, Prod.mk.injEq] at h
    simp [zeroValue, typeInfo, hq, h.1]
theorem zeroCut (w : World) : (zeroValue 187).run Tryz.prog w = .ok (.agg (cutCells [] false).toArray) w := zero_of Tryz.infoCut w
theorem cut_bad : ((cutCells [] false).toArray.setIfInBounds 126 (.bool true)).toList = stCells .bad := by
  rw [Array.toList_setIfInBounds]
  show (cutCells [] false).set 126 (.bool true) = cutCells [] true
  unfold cutCells
  rw [List.set_append_right _ _ (by simp)]
  simp
theorem cut_good : ((cutCells [] false).toArray.setIfInBounds 126 (.bool false)).toList = stCells (.held []) := by
  rw [Array.toList_setIfInBounds]
  show (cutCells [] false).set 126 (.bool false) = cutCells [] false
  unfold cutCells
  rw [List.set_append_right _ _ (by simp)]
  simp
theorem cut_one {H : List UInt8} {bad : Bool} : ∀ v ∈ cutCells H bad, v.oneCell' = true := by
  intro v hv
  unfold cutCells at hv
  simp only [List.mem_append, List.mem_map, List.mem_cons, List.not_mem_nil, or_false] at hv
  rcases hv with ⟨c, _, rfl⟩ | rfl | rfl <;> rfl
theorem grown_trans {w w1 w2 : World} {row : Option Nat} (h : w.grownBy w1 row) (k : w1.grownBy w2 row) : w.grownBy w2 row :=
  ⟨k.os.trans h.os, k.tape.trans h.tape, k.output.trans h.output, Nat.le_trans h.size k.size, fun q hq hne => (k.block q (Nat.lt_of_lt_of_le hq h.size) hne).trans (h.block q hq hne)⟩
theorem grown_of_below {w w' : World} {row : Option Nat} (h : Below w.heap.size w w') : w.grownBy w' row := ⟨h.os, h.tape, h.output, h.size, fun k hk _ => h.block k hk⟩
theorem Bys.lower {w : World} {lo lo' : Nat} {v : Value} {L : List UInt8} (h : Bys w lo v L) (hl : lo' ≤ lo) : Bys w lo' v L := by
  obtain ⟨h1, h2⟩ := h
  refine ⟨h1, ?_⟩
  rcases h2 with h2 | ⟨g, cap, cur, hv, hg, r⟩
  · exact Or.inl h2
  · exact Or.inr ⟨g, cap, cur, hv, Nat.le_trans hl hg, r⟩
theorem Bys.grown {w w' : World} {lo b : Nat} {v : Value} {L : List UInt8} (h : Bys w lo v L) (hg : w.grownBy w' (some b)) (hb : b < lo) : Bys w' lo v L :=
  own_same h (fun g hg' => hg.block g (h.lt g hg').2 (fun e => by have := (h.lt g hg').1; cases e; omega))
/-- Unwrap's answer in one form -/
theorem unwrap_one (w : World) (a : Option Addr) (n c : Nat) (F : List UInt8) (hn : n = F.length) (h : Rd w (.slice a F.length c) F) (hl : F.length ≤ maxLen) (hcap : F.length ≤ c) :
    Calls Tryz.prog 231 #[.slice a n c] w fun e w' => ∃ v ok, e = .returned (.tuple #[v, .bool ok]) ∧ Hid (Below w.heap.size w w') ∧ Hid (match unwrapP sumB F with
      | some P => ok = true ∧ ∃ a c, v = .slice a P.length c ∧ Bys w' w.heap.size (.slice a P.length c) P
      | none => ok = false ∧ v = .slice none 0 0) := by
  subst hn
  refine (unwrap_any w a c F h hl hcap).mono ?_
  rintro e w' ⟨hb, hq⟩
  cases hu : unwrapP sumB F with
  | some P =>
    rw [hu] at hq
    obtain ⟨a', c', rfl, hB⟩ := hq
    exact ⟨_, true, rfl, hb, rfl, a', c', rfl, hB⟩
  | none =>
    rw [hu] at hq
    obtain rfl := hq
    exact ⟨_, false, rfl, hb, rfl, rfl⟩
/-- what 'add' answers -/
def AddPost (w : World) (b : Nat) (H : List UInt8) (x : UInt8) (e : Ending) (w' : World) : Prop :=
  w.grownBy w' (some b) ∧ Cut w' b (addP sumB H x).1 ∧ match (addP sumB H x).2 with
    | some P => ∃ a c, e = .returned (.tuple #[.slice a P.length c, .bool true]) ∧ Bys w' w.heap.size (.slice a P.length c) P
    | none => e = .returned (.tuple #[.slice none 0 0, .bool false])
/-- the deframer is written anew, whole -/
theorem cut_store {w : World} {b : Nat} {cur : Array Value} {cs : Array Value} {s : St} (h : w.heap[b]? = some (.cells cur 189 (0, 0))) (hc : cur.size = 127) (hs : cs.toList = stCells s) (hl : cs.size = 127) :
    Cut (w.setCells b 0 cs.toList) b s ∧ w.grownBy (w.setCells b 0 cs.toList) (some b) := by
  obtain ⟨cur', h1, h2⟩ := setCells_row cs.toList 0 w cur h (by simp; omega)
  refine ⟨⟨cur', h1, ?_⟩, ?_⟩
  · rw [h2, ← hs]
    have : cur.toList.drop (0 + cs.toList.length) = [] := List.drop_eq_nil_of_le (by simp; omega)
    rw [this]; simp
  · obtain ⟨r1, r2, r3, r4⟩ := setCells_rest (b := b) cs.toList 0 w
    exact ⟨r1, r2, r3, by omega, fun k _ hne => setCells_other _ _ _ _ (fun e => hne (by rw [e]))⟩
theorem run_cut_store {w : World} {b : Nat} {cur : Array Value} {s : St} (h : w.heap[b]? = some (.cells cur 189 (0, 0))) (hc : cur.size = 127) (vs : List Value) (hs : vs = stCells s) (hl : vs.length = 127) :
    ∃ w', (storeCells ⟨b, 0, none⟩ vs).run Tryz.prog w = .ok () w' ∧ Hid (Cut w' b s) ∧ Hid (w.grownBy w' (some b)) := by
  obtain ⟨h1, h2⟩ := cut_store (cs := vs.toArray) h hc hs (by simpa using hl)
  refine ⟨w.setCells b 0 vs, ?_, h1, h2⟩
  have := run_storeCells_cells (P := Tryz.prog) b 0 vs 0 w (fun j hj => by rw [cell_row h]; simp; omega) (fun j _ => frozen_row h _) (fun v hv => by
    subst hs
    cases s with
    | bad => exact cut_one v hv
    | held H => exact cut_one v hv)
  exact this
set_option maxRecDepth 100000 in
set_option maxHeartbeats 1000000 in
theorem add_any (w : World) (b : Nat) (H : List UInt8) (x : UInt8) (h : Cut w b (.held H)) (hok : (St.held H).Ok) :
    Calls Tryz.prog 225 #[.pointer (some ⟨b, 0, none⟩), .int .u8 x.toNat] w (AddPost w b H x) := by
  have hl : H.length < 125 := by
    rcases hok with rfl | ⟨h1, h2⟩
    · simp
    · have := okB_iff.1 h1; omega
  obtain ⟨cur, hcur, hcells⟩ := h
  have hc125 : w.cell? ⟨b, 125, none⟩ = some (.int .i64 H.length) := by
    rw [cell_row hcur, hcells]; exact cut_count (by omega)
  have hcH : ∃ v, w.cell? ⟨b, H.length, none⟩ = some v := by
    rw [cell_row hcur, hcells]
    exact ⟨_, List.getElem?_eq_getElem (by unfold stCells; rw [cutCells_len (by omega)]; omega)⟩
  obtain ⟨v0, hcH⟩ := hcH
  have hfz : w.frozen? ⟨b, H.length, none⟩ = false := frozen_row hcur _
  have hlI : (H.length : Int) < 125 := by omega
  go_enter Tryz.func225, Tryz.ntmps225
  go_wp2_with fail
  go_region
  obtain ⟨w1, hw1⟩ : ∃ w1, w1 = (w.setCell ⟨b, H.length, none⟩ (.int .u8 x.toNat)).drew := ⟨_, rfl⟩
  rw [← hw1]
  have hcur1 : w1.heap[b]? = some (.cells (cur.setIfInBounds H.length (.int .u8 x.toNat)) 189 (0, 0)) := by
    rw [hw1]; exact heap_setCell_same w b H.length cur _ _ hcur
  have d125 : w1.cell? ⟨b, 125, none⟩ = some (.int .i64 H.length) := by
    rw [cell_row hcur1, Array.toList_setIfInBounds, List.getElem?_set_ne (by omega), hcells]; exact cut_count (by omega)
  have df125 : w1.frozen? ⟨b, 125, none⟩ = false := frozen_row hcur1 _
  obtain ⟨n0, HH⟩ : ∃ n0 : Nat, Hid (((H ++ [x]).headD 0).toNat = n0) := ⟨_, rfl⟩
  have hn0 : n0 ≤ 255 := by rw [← HH.out]; have := ((H ++ [x]).headD 0).toNat_lt; omega
  have d0 : w1.cell? ⟨b, 0, none⟩ = some (.int .u8 n0) := by
    rw [cell_row hcur1, Array.toList_setIfInBounds, hcells, ← HH.out]
    cases H with
    | nil => rfl
    | cons c r => rw [List.getElem?_set_ne (by simp)]; exact cut_at (bad := false) (by omega) (i := 0) (by simp)
  have HW1 := hid hw1
  have HC := hid hcur
  have HC1 := hid hcur1
  have HL := hid hcells
  clear hc125 hcH hfz hw1 hcur hcur1 hcells
  go_wp2_with fail
  obtain ⟨w2, hw2⟩ : ∃ w2, w2 = w1.setCell ⟨b, 125, none⟩ (.int .i64 ((H.length : Int) + 1)) := ⟨_, rfl⟩
  rw [← hw2]
  obtain ⟨cur2, hcur2, hcells2⟩ : ∃ cur2, w2.heap[b]? = some (.cells cur2 189 (0, 0)) ∧ cur2.toList = cutCells (H ++ [x]) false := by
    refine ⟨_, by rw [hw2]; exact heap_setCell_same w1 b 125 _ _ _ HC1.out, ?_⟩
    rw [Array.toList_setIfInBounds, Array.toList_setIfInBounds, HL.out]
    exact cut_push H x hl
  have hg2 : w.grownBy w2 (some b) := by
    rw [hw2, HW1.out]
    exact ⟨rfl, rfl, rfl, by simp [World.setCell], fun k _ hne => (Below.heap_setCell _ _ _ _ (fun e => hne (by rw [e]))).trans (Below.heap_setCell _ _ _ _ (fun e => hne (by rw [e])))⟩
  have HG2 := hid hg2
  have HC2 := hid hcur2
  have HL2 := hid hcells2
  clear hw2 hcur2 hcells2 hg2 HC HC1 HL HW1 d125 df125 d0
  refine (isCount_any _ _).mono ?_; rintro e w2' ⟨rfl, rfl⟩
  by_cases hok0 : okB n0 = true
  · have hi : (decide (1 ≤ (n0 : Int)) && decide ((n0 : Int) ≤ 120)) = true := by have := okB_iff.1 hok0; simp; omega
    rw [hi]
    have d125 : w2'.cell? ⟨b, 125, none⟩ = some (.int .i64 ((H.length : Int) + 1)) := by
      rw [cell_row HC2.out, HL2.out, cut_count (by simp; omega)]; simp
    have hb120 := okB_iff.1 hok0
    by_cases hsh : H.length + 1 < 5 + n0
    · have HA := hid (show addP sumB H x = (.held (H ++ [x]), none) by unfold addP; rw [HH.out, if_pos hok0, if_pos (by simp; omega)])
      have hcond : (H.length : Int) + 1 < 1 + (n0 : Int) + 4 := by omega
      clear hok0
      go_wp2_with fail
      go_ret2
      refine ⟨HG2.out, ?_, ?_⟩
      · rw [HA.out]; exact ⟨_, HC2.out, HL2.out⟩
      · rw [HA.out]; rfl
    · have hcond : ¬ (H.length : Int) + 1 < 1 + (n0 : Int) + 4 := by omega
      have hlF : (H ++ [x]).length = H.length + 1 := by simp
      obtain ⟨F, HF⟩ : ∃ F, Hid (H ++ [x] = F) := ⟨_, rfl⟩
      have hF : F.length = H.length + 1 := by rw [← HF.out]; exact hlF
      have HRd := hid (show Rd w2' (.slice (some ⟨b, 0, none⟩) F.length 125) F from Or.inr ⟨_, _, rfl, fun j u hu => by
        rw [rd_add _ _ rfl, cell_row HC2.out, HL2.out, HF.out]
        have hj : j < F.length := by
          rcases Nat.lt_or_ge j F.length with h | h
          · exact h
          · rw [List.getElem?_eq_none (by simp; omega)] at hu; cases hu
        rw [Nat.zero_add, cut_at (by omega) hj]
        simp [List.getElem?_eq_getElem hj] at hu
        rw [← hu]; rfl⟩)
      have hh0 : (0 : Int) ≤ (H.length : Int) + 1 := by omega
      have hh1 : (H.length : Int) + 1 ≤ 125 := by omega
      go_wp2_with fail
      have hnF : ((H.length : Int) + 1).toNat = F.length := by omega
      have HnF := hid hnF
      have HlF := hid hF
      clear hnF hF hlF
      go_region_with (go_at_call 231; refine (unwrap_one _ _ _ _ F (by first | exact HnF.out | (have := HlF.out; omega)) (HRd.out.later (Below.refl _ _).drew) (by unfold maxLen; have := HlF.out; omega) (by have := HlF.out; omega)).mono ?_; rintro e w3 ⟨v3, ok3, rfl, HB3, HU3⟩)
      all_goals
        have hbel : Below w2'.heap.size w2' w3 := (Below.refl _ _).drew.trans HB3.out
        have hblt : b < w2'.heap.size := (Array.getElem?_eq_some_iff.1 HC2.out).1
        have HC3 := hid (show w3.heap[b]? = some (.cells cur2 189 (0, 0)) from (hbel.block b hblt).trans HC2.out)
        have HG3 := hid (grown_trans HG2.out (grown_of_below (row := some b) hbel))
        obtain ⟨Z, hZ, hzs, HZ⟩ : ∃ Z : Array Value, (∀ w, (zeroValue 187).run Tryz.prog w = .ok (.agg Z) w) ∧ Z.size = 127 ∧ Hid (Z = (cutCells [] false).toArray) := ⟨_, zeroCut, rfl, rfl⟩
        have hcs : cur2.size = 127 := by rw [← Array.length_toList, HL2.out]; exact cutCells_len (by simp; omega)
        have hsz : w.heap.size ≤ w2'.heap.size := HG2.out.size
        have HHF := hid (show (F.headD 0).toNat = n0 by rw [← HF.out]; exact HH.out)
        have HAd := hid (show addP sumB H x = match unwrapP sumB F with | some P => (.held [], some P) | none => (.bad, none) by unfold addP; rw [HF.out, HHF.out, if_pos hok0, if_neg (by have := HlF.out; omega)]; rfl)
        clear HB3 hok0
        cases hu : unwrapP sumB F with
        | some P =>
          have hU := HU3.out
          have hA := HAd.out
          rw [hu] at hU hA
          obtain ⟨rfl, a3, c3, rfl, hB3⟩ := hU
          have HA := hid hA
          have HB3 := hid hB3
          clear hA hB3 HU3 HAd hu
          obtain ⟨w4, hst, HC4, HG4⟩ := run_cut_store (s := .held []) HC3.out hcs (Z.toList.set 126 (.bool false)) (by rw [HZ.out]; exact cut_good) (by simp; omega)
          go_wp2_with fail
          go_ret2
          refine ⟨grown_trans HG3.out HG4.out, ?_, ?_⟩
          · rw [HA.out]; exact HC4.out
          · rw [HA.out]
            exact ⟨a3, c3, rfl, (HB3.out.grown HG4.out hblt).lower hsz⟩
        | none =>
          have hU := HU3.out
          have hA := HAd.out
          rw [hu] at hU hA
          obtain ⟨rfl, rfl⟩ := hU
          have HA := hid hA
          clear hA HU3 HAd hu
          obtain ⟨w4, hst, HC4, HG4⟩ := run_cut_store (s := .bad) HC3.out hcs (Z.toList.set 126 (.bool true)) (by rw [HZ.out]; exact cut_bad) (by simp; omega)
          go_wp2_with fail
          go_ret2
          refine ⟨grown_trans HG3.out HG4.out, ?_, ?_⟩
          · rw [HA.out]; exact HC4.out
          · rw [HA.out]; rfl
  · have hi : (decide (1 ≤ (n0 : Int)) && decide ((n0 : Int) ≤ 120)) = false := by
      have h120 : ¬ (1 ≤ n0 ∧ n0 ≤ 120) := fun h => hok0 (okB_iff.2 h)
      simp; omega
    rw [hi]
    obtain ⟨Z, hZ, hzs, HZ⟩ : ∃ Z : Array Value, (∀ w, (zeroValue 187).run Tryz.prog w = .ok (.agg Z) w) ∧ Z.size = 127 ∧ Hid (Z = (cutCells [] false).toArray) := ⟨_, zeroCut, rfl, rfl⟩
    obtain ⟨w3, hst, HC3, HG3⟩ := run_cut_store (s := .bad) HC2.out (by rw [← Array.length_toList, HL2.out]; exact cutCells_len (by simp; omega)) (Z.toList.set 126 (.bool true)) (by rw [HZ.out]; exact cut_bad) (by simp; omega)
    have HA := hid (show addP sumB H x = (.bad, none) by unfold addP; rw [HH.out, if_neg hok0])
    clear hok0
    go_wp2_with fail
    go_ret2
    refine ⟨?_, ?_, ?_⟩
    · exact grown_trans HG2.out HG3.out
    · rw [HA.out]; exact HC3.out
    · rw [HA.out]; rfl
end Go.Proofs.YtlgjlfobbpgklaaGreatDoor
