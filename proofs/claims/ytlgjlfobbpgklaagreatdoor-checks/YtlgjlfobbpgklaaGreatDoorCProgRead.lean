/- Read of package schemas and Check of package courier: what they answer for every text. -/
import Derived.Test.YtlgjlfobbpgklaaGreatDoorCProgFaults
import Derived.Test.YtlgjlfobbpgklaaGreatDoorGCheck
namespace Go.Proofs.YtlgjlfobbpgklaaGreatDoor
open Go.RowKit

theorem foldl_min_spec : ∀ (zs : List Int) (z : Int), (zs.foldl min z = z ∨ zs.foldl min z ∈ zs) ∧ zs.foldl min z ≤ z ∧ ∀ a ∈ zs, zs.foldl min z ≤ a
  | [], z => by simp
  | b :: r, z => by
    rw [List.foldl_cons]
    obtain ⟨h1, h2, h3⟩ := foldl_min_spec r (min z b)
    refine ⟨?_, by omega, fun a ha => ?_⟩
    · rcases h1 with h1 | h1
      · rw [h1]
        rcases Int.le_total z b with h | h
        · left; omega
        · right; rw [Int.min_eq_right h]; simp
      · right; simp [h1]
    · rcases List.mem_cons.1 ha with rfl | ha
      · omega
      · exact h3 a ha
theorem minOf_spec {L : List Nat} (h : L ≠ []) : ∃ m ∈ L, Lib.minOf (L.map (fun (n : Nat) => (n : Int))) = (m : Int) ∧ ∀ a ∈ L, m ≤ a := by
  obtain ⟨b, r, rfl⟩ := List.exists_cons_of_ne_nil h
  unfold Lib.minOf
  obtain ⟨h1, h2, h3⟩ := foldl_min_spec ((b :: r).map (fun (n : Nat) => (n : Int))) (((b :: r).map (fun (n : Nat) => (n : Int))).headD 0)
  have hin : ((b :: r).map (fun (n : Nat) => (n : Int))).foldl min (((b :: r).map (fun (n : Nat) => (n : Int))).headD 0) ∈ (b :: r).map (fun (n : Nat) => (n : Int)) := by
    rcases h1 with h1 | h1
    · rw [h1]; simp
    · exact h1
  obtain ⟨m, hm, e⟩ := List.mem_map.1 hin
  refine ⟨m, hm, e.symm, fun a ha => ?_⟩
  have := h3 (a : Int) (List.mem_map.2 ⟨a, ha, rfl⟩)
  rw [← e] at this
  omega
theorem minP (w : World) (lo : Nat) (v : Value) (L : List Nat) (h : Places w lo v L) (hne : L ≠ []) (hl : L.length ≤ 1000000) :
    Calls Tryz.prog 86 #[v] w fun e w' => ∃ m : Nat, e = .returned (.int .i64 m) ∧ w' = w ∧ m ∈ L ∧ ∀ a ∈ L, m ≤ a := by
  have hpos : 0 < L.length := List.length_pos_iff.2 hne
  obtain ⟨g, c, hv, hg, hc⟩ := nat_row h hpos
  subst hv
  obtain ⟨m, hm, e, hle⟩ := minOf_spec hne
  refine (Tryz.slices_Min_int g 0 L.length c (L.map (fun (n : Nat) => (n : Int))) w hpos (by simp) (by omega) (fun j hj => ?_)).mono ?_
  · have hj' : j < L.length := by simpa using hj
    have := hc j L[j] (List.getElem?_eq_getElem hj')
    rw [Nat.zero_add, this]
    simp [List.getD_eq_getElem?_getD, List.getElem?_eq_getElem hj']
  · rintro e' w' ⟨rfl, rfl⟩
    exact ⟨m, by rw [List.take_of_length_le (by simp), e], rfl, hm, hle⟩

/-- what Read leaves with OK -/
def ReadOk (s : ByteArray) (w : World) (lo : Nat) (lv : Value) : Prop := ∃ X : List PIV, (parseP s).1 = some (X.map (fun x => x.it)) ∧ PIts w lo lv X ∧ X.length ≤ 400 ∧ (∀ a, ¬ PF X a)

set_option maxRecDepth 100000 in
set_option maxHeartbeats 4000000 in
theorem read_any (s : ByteArray) (w : World) (hv : Vars w) (hs : s.size ≤ maxLen) :
    Calls Tryz.prog 33 #[.string s] w fun e w' => ∃ (lv : Value) (n : Option Addr) (c1 c2 : Nat) (E P : Int), lv = .slice n c1 c2 ∧ e = .returned (.tuple #[lv, .int .i64 E, .int .i64 P]) ∧ Below w.heap.size w w' ∧ ProgAns s E P ∧ (E = 0 → ReadOk s w' (w.heap.size + 1) lv) := by
  unfold maxLen at hs
  have HV := hid hv
  clear hv
  by_cases h4 : s.size ≤ 400
  · go_enter Tryz.func33, Tryz.ntmps33
    go_wp2_with fail
    refine (parse_any s _ HV.out h4).mono ?_; rintro e w1 ⟨lv, P, rfl, hb1, hans⟩
    rcases hans with ⟨hn, rfl, rfl⟩ | ⟨X, hX, rfl, hits, hl⟩
    · have HA := hid (show ProgAns s 2 ((parseP s).2.at_ : Int) from Or.inr ⟨h4, Or.inl ⟨hn, rfl, rfl⟩⟩)
      clear hn
      generalize (parseP s).2.at_ = p at *
      go_wp2_with fail
      go_ret3
      exact ⟨_, _, 0, 0, 2, (p : Int), rfl, rfl, hb1, HA.out, fun h => by omega⟩
    · obtain ⟨la, lc, hlv⟩ : ∃ a c, lv = .slice a X.length c := own_slice hits.own
      subst hlv
      have HF := hid (facts_of hX)
      obtain ⟨hin1, hin2, hin3, hin4⟩ := parseP_in hX
      have hnms : Nms X := fun x hx => hin4 x.it (List.mem_map.2 ⟨x, hx, rfl⟩)
      have HX := hid hX
      have HI := hid hits
      have HNM := hid hnms
      have HSM := hid (small_of HF.out h4)
      clear hX hits hnms hin1 hin2 hin3 hin4
      go_wp2_with fail
      refine (nameFaults_any _ _ _ X HI.out HNM.out hl HSM.out).mono ?_; rintro e w2 ⟨nv, L, rfl, hP, hL, hLl, hb2⟩
      have hb02 := hb1.trans (hb2.mono hb1.size)
      obtain ⟨na, nc, hnv⟩ : ∃ a c, nv = .slice a L.length c := own_slice hP
      subst hnv
      have HP := hid hP
      have HL := hid hL
      clear hP hL
      by_cases hne : L = []
      · have HA := hid (show ProgAns s 0 0 from Or.inr ⟨h4, Or.inr ⟨X, HX.out, Or.inr ⟨fun a ha => by have := (HL.out a).2 ha; rw [hne] at this; simp at this, rfl, rfl⟩⟩⟩)
        have hl0 : L.length = 0 := by rw [hne]; rfl
        have HK := hid (show ReadOk s w2 (w.heap.size + 1) (.slice la X.length lc) from ⟨X, HX.out, HI.out.below hb2, hl, fun a ha => by have := (HL.out a).2 ha; rw [hne] at this; simp at this⟩)
        generalize L.length = ll at *
        clear hne
        go_wp2_with fail
        go_ret3
        exact ⟨_, _, _, _, 0, 0, rfl, rfl, hb02, HA.out, fun _ => HK.out⟩
      · have hpos : 0 < L.length := List.length_pos_iff.2 hne
        have HNE := hid hne
        clear hne
        go_wp2_with fail
        refine (minP _ _ _ L HP.out HNE.out hLl).mono ?_; rintro e w3 ⟨m, rfl, rfl, hm, hmin⟩
        have HA := hid (show ProgAns s 3 (m : Int) from Or.inr ⟨h4, Or.inr ⟨X, HX.out, Or.inl ⟨m, (HL.out m).1 hm, fun a ha => hmin a ((HL.out a).2 ha), rfl, rfl⟩⟩⟩)
        clear hm hmin
        go_wp2_with fail
        go_ret3
        exact ⟨_, _, 0, 0, 3, (m : Int), rfl, rfl, hb02, HA.out, fun h => by omega⟩
  · have HA := hid (show ProgAns s 1 0 from Or.inl ⟨by omega, rfl, rfl⟩)
    have hgt : (400 : Int) < (s.size : Int) := by omega
    go_enter Tryz.func33, Tryz.ntmps33
    go_wp2_with fail
    go_ret3
    exact ⟨_, _, 0, 0, 1, 0, rfl, rfl, Below.refl _ _, HA.out, fun h => by omega⟩

set_option maxRecDepth 100000 in
set_option maxHeartbeats 1000000 in
theorem check_any (s : ByteArray) (w : World) (hv : Vars w) (hs : s.size ≤ maxLen) :
    Calls Tryz.prog 36 #[.string s] w fun e w' => ∃ E P : Int, e = .returned (.tuple #[.int .i64 E, .int .i64 P]) ∧ Below w.heap.size w w' ∧ ProgAns s E P := by
  go_enter Tryz.func36, Tryz.ntmps36
  go_wp2_with fail
  refine (read_any s _ hv hs).mono ?_; rintro e w1 ⟨lv, n, c1, c2, E, P, rfl, rfl, hb1, hA, _⟩
  have HA := hid hA
  clear hA
  go_wp2_with fail
  go_ret2
  exact ⟨E, P, rfl, hb1, HA.out⟩
end Go.Proofs.YtlgjlfobbpgklaaGreatDoor
