/- NewDeframer and Feed of package courier; pick of package courierkeep. -/
import Derived.Test.YtlgjlfobbpgklaaGreatDoorCFrFeed
namespace Go.Proofs.YtlgjlfobbpgklaaGreatDoor
open Go.RowKit

theorem Tryz.infoDef : (Tryz.prog.info? 189).map (fun i => (i.zero, i.size)) = some (some (.agg (cutCells [] false).toArray), 127) := by kernel_rfl
set_option maxRecDepth 100000 in
set_option maxHeartbeats 1000000 in
theorem newDeframer_any (w : World) :
    Calls Tryz.prog 44 #[] w fun e w' => e = .returned (.pointer (some ⟨w.heap.size, 0, none⟩)) ∧ Below w.heap.size w w' ∧ w'.heap.size = w.heap.size + 1 ∧ Cut w' w.heap.size (.held []) := by
  obtain ⟨Z, hZ, hzs, HZ⟩ : ∃ Z : Array Value, (∀ w, (zeroValue 189).run Tryz.prog w = .ok (.agg Z) w) ∧ Z.size = 127 ∧ Hid (Z = (cutCells [] false).toArray) := ⟨_, zero_of Tryz.infoDef, rfl, rfl⟩
  go_enter Tryz.func44, Tryz.ntmps44
  go_wp2_with fail
  go_ret
  refine ⟨rfl, (Below.refl _ _).alloc (Nat.le_refl _) _, by simp, Z, heap_alloc_new w _, ?_⟩
  rw [HZ.out]; rfl
set_option maxRecDepth 100000 in
set_option maxHeartbeats 1000000 in
theorem feed_any (w : World) (b : Nat) (s : St) (v : Value) (L : List UInt8) (h : Cut w b s) (hok : s.Ok) (hr : Rd w v L) (hl : L.length ≤ 1000000000) (hvb : ∀ k, v.ownBlock = some k → k ≠ b) :
    Calls Tryz.prog 99 #[.pointer (some ⟨b, 0, none⟩), v] w (FeedPost w b s L) := by
  have HC := hid h
  have HR := hid hr
  clear h hr
  go_enter Tryz.func99, Tryz.ntmps99
  go_wp2_with fail
  refine (cutFeed_any _ b s _ L HC.out hok HR.out hl hvb).mono ?_; rintro e w1 ⟨a1, c1, vs, rfl, hg, hc, hL⟩
  have H1 := hid hg
  have H2 := hid hc
  have H3 := hid hL
  clear hg hc hL
  go_wp2_with fail
  go_ret2
  exact ⟨a1, c1, vs, rfl, H1.out, H2.out, H3.out⟩
def pickN (c : Int) (n : Nat) : Nat := ((if c < 0 then -(c + 1) else c) % n).toNat
theorem mod_lt {a : Int} {n : Nat} (h : 0 < n) : 0 ≤ a % (n : Int) ∧ a % (n : Int) < n := ⟨Int.emod_nonneg _ (by omega), Int.emod_lt_of_pos _ (by omega)⟩
theorem pickN_lt (c : Int) {n : Nat} (h : 0 < n) : pickN c n < n := by
  unfold pickN
  have := mod_lt (a := if c < 0 then -(c + 1) else c) h
  omega
theorem pickN_neg {c : Int} {n : Nat} (h0 : 0 < n) (h : c < 0) : ((pickN c n : Nat) : Int) = -((c + 1).tmod n) := by
  unfold pickN
  rw [if_pos h, ← Int.neg_tmod, Int.tmod_eq_emod_of_nonneg (by omega)]
  have := mod_lt (a := -(c + 1)) h0
  omega
theorem pickN_pos {c : Int} {n : Nat} (h0 : 0 < n) (h : ¬ c < 0) : ((pickN c n : Nat) : Int) = c % n := by
  unfold pickN
  rw [if_neg h]
  have := mod_lt (a := c) h0
  omega
set_option maxRecDepth 100000 in
set_option maxHeartbeats 1000000 in
theorem pick_any (c : Int) (n : Nat) (w : World) (h0 : 0 < n) (h1 : n ≤ maxLen) (hc : -9223372036854775808 ≤ c ∧ c ≤ 9223372036854775807) :
    Calls Tryz.prog 16 #[.int .i64 c, .int .i64 n] w fun e w' => e = .returned (.int .i64 (pickN c n)) ∧ w' = w := by
  unfold maxLen at h1
  by_cases hneg : c < 0
  · have HP := hid (pickN_neg (n := n) h0 hneg)
    go_enter Tryz.func16, Tryz.ntmps16
    go_wp2_with fail
    go_ret
    refine ⟨ret_int ?_, rfl⟩
    rw [HP.out]
  · have HP := hid (pickN_pos (n := n) h0 hneg)
    go_enter Tryz.func16, Tryz.ntmps16
    go_wp2_with fail
    go_ret
    refine ⟨ret_int ?_, rfl⟩
    rw [HP.out]
end Go.Proofs.YtlgjlfobbpgklaaGreatDoor
