/- What is proved: courierkeep.Framed returns true for every input (payloads, cuts, which byte is turned, and by what), and the input reads behind the call as it did. Conditions: none but the row's own. -/
import Derived.Test.YtpnkhmijciopeaaCFrFramed
import Derived.ProofKit
import Derived.OpenShut
import Derived.Carry
import Derived.SizedLaws
import Derived.Deep.Slices
namespace Go.Proofs.Ytpnkhmijciopeaa
open Go.ChangeShapes Go.WideShapes Go.ChangeAt Go.RowKit Go.Deep

theorem ownKnobs : ownKnob Try.prog.godebug = none := by kernel_rfl
theorem laidOut : laidOutB Try.prog = true := by kernel_rfl
theorem cells1B : Try.prog.cellsOf 5 = 1 := by kernel_rfl
theorem cells1S : Try.prog.cellsOf 24 = 1 := by kernel_rfl
theorem cells1I : Try.prog.cellsOf 3 = 1 := by kernel_rfl
theorem bytesInt : Try.prog.bytesOf 3 = 8 := by kernel_rfl

section
variable {H : Type} {enc : TypeId × Value → H}
def u8Of : Value → UInt8
  | .int _ n => n.toNat.toUInt8
  | _ => 0
theorem bytes_of {W : World} {n : Nat} {v : Value} {y : DataW H × List MemPlace} (h : DataW.trod enc Try.prog W 0 (fun _ => true) true n 24 [v] = some y) : ∃ L, Rd W v L ∧ L.length ≤ maxLen := by
  rcases open_slice1 Try.underlying24 cells1B h with ⟨hc, _⟩ | ⟨a, len, cap, m, k, V, D, Pl, hc, _, hl, hm, hmm, _, hall⟩
  · simp only [List.cons.injEq, and_true] at hc
    exact ⟨[], Or.inl ⟨hc, rfl⟩, by simp⟩
  · simp only [List.cons.injEq, and_true] at hc
    simp only [if_true] at hmm
    subst hmm
    have hV : ∀ i, i < m → V i = byteCell (u8Of (V i)) := fun i hi => by
      obtain ⟨z, e, _, hz⟩ := DataW.trod_int Try.underlying5 (hall i hi).2
      have hb := bounds_u8 hz
      simp only [List.cons.injEq, and_true] at e
      rw [e]
      simp only [u8Of, byteCell]
      congr 1
      simp [Nat.toUInt8, UInt8.toNat_ofNat']; omega
    refine ⟨(List.range len).map fun i => u8Of (V i), Or.inr ⟨a, m, by rw [hc]; simp, fun j u hu => ?_⟩, by simp; omega⟩
    have hj : j < len := by
      rcases Nat.lt_or_ge j len with h | h
      · exact h
      · rw [List.getElem?_eq_none (by simp; omega)] at hu; cases hu
    rw [List.map_map, List.getElem?_map, List.getElem?_range hj] at hu
    simp only [Option.map_some, Option.some.injEq, Function.comp] at hu
    rw [(hall j (by omega)).1, hV j (by omega), ← hu]
theorem spot_of {W : World} {a : Addr} {v : Value} (h : W.cell? (a.add 0) = some v) : a = ⟨a.block, a.off, none⟩ := by
  obtain ⟨b, o, s⟩ := a
  have h2 : (⟨b, o, s⟩ : Addr).add 0 = ⟨b, o, s⟩ := by unfold Addr.add; simp
  rw [h2] at h
  have hs : s = none := World.cell?_spot h
  subst hs
  rfl
theorem blk_of {W : World} {a : Addr} {v : Value} (h : W.cell? (a.add 0) = some v) : a.block < W.heap.size := by
  have h2 : a.add 0 = a := by unfold Addr.add; simp
  rw [h2] at h
  exact World.block_lt_of_cell? _ _ h
theorem pays_of {W : World} {v : Value} {d : DataW H} {p : List MemPlace} (h : ∃ n, DataW.trod enc Try.prog W 0 (fun _ => true) true n 22 [v] = some (d, p)) : ∃ pa pc Qs, v = .slice pa Qs.length pc ∧ Qs.length ≤ maxLen ∧ Pays W pa Qs := by
  obtain ⟨n, h⟩ := h
  rcases open_slice1 Try.underlying22 cells1S h with ⟨hc, _⟩ | ⟨a, len, cap, m, k, V, D, Pl, hc, _, hl, hm, hmm, _, hall⟩
  · simp only [List.cons.injEq, and_true] at hc
    exact ⟨none, 0, [], hc, by unfold maxLen; simp, fun h0 => absurd h0 (by simp)⟩
  · simp only [List.cons.injEq, and_true] at hc
    simp only [if_true] at hmm
    subst hmm
    obtain ⟨Q, hQ⟩ := choose_lt (α := List UInt8) (p := fun i L => Rd W (V i) L ∧ L.length ≤ maxLen) (n := len) (fun i hi => bytes_of (hall i (by omega)).2)
    refine ⟨some a, m, (List.range len).map Q, by rw [hc]; simp, by simp; omega, fun h0 => ?_⟩
    have hl0 : 0 < len := by simpa using h0
    have hs := spot_of (hall 0 (by omega)).1
    refine ⟨a.block, a.off, by rw [← hs], ?_, fun i hi => ?_⟩
    · exact blk_of (hall 0 (by omega)).1
    · have hil : i < len := by simpa using hi
      have h1 := (hall i (by omega)).1
      rw [hs, rd_add _ _ rfl] at h1
      refine ⟨V i, h1, ?_⟩
      have e : ((List.range len).map Q)[i] = Q i := by simp
      rw [e]
      exact hQ i hil
theorem nums_of {W : World} {v : Value} {d : DataW H} {p : List MemPlace} (h : ∃ n, DataW.trod enc Try.prog W 0 (fun _ => true) true n 23 [v] = some (d, p)) (hd : ∀ elems spare, d = .slice elems spare → (elems.length + spare.length) * 8 ≤ reachBytes) : ∃ ca cn cc, v = .slice ca cn cc ∧ cn ≤ 1000000000000000 ∧ Nums W ca cn := by
  obtain ⟨n, h⟩ := h
  rcases open_slice1 Try.underlying23 cells1I h with ⟨hc, _⟩ | ⟨a, len, cap, m, k, V, D, Pl, hc, _, hl, hm, hmm, hx, hall⟩
  · simp only [List.cons.injEq, and_true] at hc
    exact ⟨none, 0, 0, hc, by omega, fun h0 => absurd h0 (by omega)⟩
  · simp only [List.cons.injEq, and_true] at hc
    simp only [if_true] at hmm
    subst hmm
    simp only [Prod.mk.injEq] at hx
    have hr := hd _ _ hx.1
    simp only [List.length_map, List.length_range] at hr
    unfold reachBytes at hr
    refine ⟨some a, len, m, hc, by omega, fun h0 => ?_⟩
    have hs := spot_of (hall 0 (by omega)).1
    refine ⟨a.block, a.off, by rw [← hs], ?_, fun i hi => ?_⟩
    · exact blk_of (hall 0 (by omega)).1
    · obtain ⟨h1, h2⟩ := hall i (by omega)
      rw [hs, rd_add _ _ rfl] at h1
      obtain ⟨z, e, _, hz⟩ := DataW.trod_int Try.underlying3 h2
      simp only [List.cons.injEq, and_true] at e
      exact ⟨z, by rw [← e]; exact h1, bounds_i64 hz⟩
end

set_option maxRecDepth 100000 in
theorem framed_lifted (os : Os) (started : os.Started) (H : Type) (enc : TypeId × Value → H) :
    ReturnsInHanded {} Try.checked os 3 .any (Rows.framedSpec.pre6 enc Try.prog Try.f3 Rows.framedRow.domain false) (Rows.framedSpec.post enc Try.prog Try.f3 false true false false) := by
  refine returnsInHanded_of_change_sized (C := Try.checked) ownKnobs started (by kernel_rfl) Try.func3
    (ChangeSpec.witness6 (enc := enc) (C := Try.checked) false ⟨#[], #[.slice none 0 0, .slice none 0 0, .int .i64 0, .int .i64 0], []⟩ 8 (by kernel_rfl) (by kernel_rfl) (by kernel_rfl) (by kernel_rfl)) ?_
  intro W base args ds gs before hval0 hW _ hsz0 _
  have hval : ∀ (j : Nat) t v, Try.f3.params[j]? = some t → args[j]? = some v → Value.okWide Try.prog W .any base t v := hval0
  have hW' := hW
  obtain ⟨p, q, hA0, hV, rfl, hfz, hnd⟩ := hW
  have hA : DataW.TrodAll enc Try.prog W 0 (fun _ => true) true Try.f3.params.toList args.toList ds p := hA0
  have hsz : (DataW.weightsEach Try.prog (Try.f3.params.toList ++ Rows.framedSpec.plain.varTypes Try.prog) (ds ++ gs)).all (· ≤ reachBytes) = true := hsz0
  rw [Try.params3] at hA hval hsz
  obtain ⟨v0, v1, v2, v3, d0, d1, d2, d3, p0, p1, p2, p3, rfl, rfl, rfl, h0, h1, h2, h3⟩ := trodAll_four hA
  obtain ⟨rfl, rfl⟩ := trodVars_none hV
  obtain ⟨at_, rfl, rfl, rfl, wat⟩ := open_int Try.underlying3 (hval 2 3 v2 rfl rfl) h2
  obtain ⟨by_, rfl, rfl, rfl, wby⟩ := open_int Try.underlying3 (hval 3 3 v3 rfl rfl) h3
  obtain ⟨a0, len0, cap0, rfl⟩ := okWide_slice Try.underlying22 (hval 0 22 v0 rfl rfl)
  obtain ⟨a1, len1, cap1, rfl⟩ := okWide_slice Try.underlying23 (hval 1 23 v1 rfl rfl)
  obtain ⟨pa, pc, Qs, hv0, hq, hP⟩ := pays_of (show ∃ n, DataW.trod enc Try.prog W 0 (fun _ => true) true n 22 [.slice a0 len0 cap0] = some (d0, p0) from h0)
  obtain ⟨ca, cn, cc, hv1, hcn, hN⟩ := nums_of (show ∃ n, DataW.trod enc Try.prog W 0 (fun _ => true) true n 23 [.slice a1 len1 cap1] = some (d1, p1) from h1) (fun elems spare hd => by
    have := sized_slice hsz (j := 1) (t := 23) (e := 3) (elems := elems) (spare := spare) rfl (by rw [hd]; rfl) Try.underlying23
    rwa [bytesInt] at this)
  obtain ⟨rfl, rfl, rfl⟩ : a0 = pa ∧ len0 = Qs.length ∧ cap0 = pc := by simpa using hv0
  obtain ⟨rfl, rfl, rfl⟩ : a1 = ca ∧ len1 = cn ∧ cap1 = cc := by simpa using hv1
  simp only [List.append_nil] at hW'
  have hlt : ∀ x ∈ p0 ++ p1, x.block < W.heap.size := fun x hx => hW'.lt x (by simpa using hx)
  clear hA0 hval0
  refine (framed_any W a0 a1 cap0 len1 cap1 Qs at_ by_ hP hq hN hcn (bounds_i64 wat) (bounds_i64 wby)).mono fun e W' ⟨he, hb⟩ => ?_
  subst he
  exact ⟨_, rfl, ⟨_, _, _, [], p0 ++ (p1 ++ ([] ++ [])), [], hW', trodAll_mk1 (shut_bool Try.underlying4 _),
    trodAll_mk4 (Below.trod laidOut (by kernel_rfl) (of_decide_eq_true (by kernel_rfl)) h0 hb (fun x hx => hlt x (by simp [hx]))) (Below.trod laidOut (by kernel_rfl) (of_decide_eq_true (by kernel_rfl)) h1 hb (fun x hx => hlt x (by simp [hx]))) (shut_int Try.underlying3 wat) (shut_int Try.underlying3 wby), rfl, hb.frame _, fun h => by cases h⟩⟩

theorem framed_holds : Rows.FramedSaid :=
  OpenClaim.holds_of_wide 3 Try.f3 rfl rfl rfl rfl rfl rfl rfl ⟨rfl, rfl, rfl, rfl, rfl⟩ rfl rfl rfl rfl rfl (by kernel_rfl) Try.func3 (by kernel_rfl)
    (of_decide_eq_true (by kernel_rfl)) (by unfold Func.isWrapper; first | (rw [if_pos (by decide +kernel)]; kernel_rfl) | (rw [if_neg (by decide +kernel)]; exact ⟨rfl, rfl⟩))
    (fun os started H enc _ => framed_lifted os started H enc)
end Go.Proofs.Ytpnkhmijciopeaa
