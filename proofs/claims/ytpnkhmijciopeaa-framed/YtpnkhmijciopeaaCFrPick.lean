/- pick of package courierkeep. -/
import Derived.Test.YtpnkhmijciopeaaGFrB
namespace Go.Proofs.Ytpnkhmijciopeaa
open Go.RowKit

set_option maxRecDepth 100000 in
set_option maxHeartbeats 1000000 in
theorem pick_any (c : Int) (n : Nat) (w : World) (h0 : 0 < n) (h1 : n ≤ maxLen) (hc : -9223372036854775808 ≤ c ∧ c ≤ 9223372036854775807) :
    Calls Try.prog 6 #[.int .i64 c, .int .i64 n] w fun e w' => e = .returned (.int .i64 (pickN c n)) ∧ w' = w := by
  unfold maxLen at h1
  by_cases hneg : c < 0
  · have HP := hid (pickN_neg (n := n) h0 hneg)
    go_enter Try.func6, Try.ntmps6
    go_wp2_with fail
    go_ret
    refine ⟨ret_int ?_, rfl⟩
    rw [HP.out]
  · have HP := hid (pickN_pos (n := n) h0 hneg)
    go_enter Try.func6, Try.ntmps6
    go_wp2_with fail
    go_ret
    refine ⟨ret_int ?_, rfl⟩
    rw [HP.out]
end Go.Proofs.Ytpnkhmijciopeaa
