/- The sum of frames, bytes.Clone, bytes.Equal, isCount, pick. -/
import Derived.Test.YtlgjlfobbpgklaaGreatDoorCFrLeaf
namespace Go.Proofs.YtlgjlfobbpgklaaGreatDoor
open Go.RowKit

set_option maxHeartbeats 400000 in
theorem isCount_any (n : Int) (w : World) :
    Calls Tryz.prog 157 #[.int .i64 n] w fun e w' => e = .returned (.bool (decide (1 ≤ n) && decide (n ≤ 120))) ∧ w' = w := by
  go_enter Tryz.func157, Tryz.ntmps157
  go_wp2
  · have h : 1 ≤ n := by assumption
    go_ret
    exact ⟨ret_bool (by simp [h]), rfl⟩
  · have h : n < 1 := by assumption
    go_ret
    exact ⟨ret_bool (by simp; omega), rfl⟩

set_option maxRecDepth 100000 in
set_option maxHeartbeats 1000000 in
theorem bytesEqual_any (w : World) (v v2 : Value) (L M : List UInt8) (h : Rd w v L) (h2 : Rd w v2 M) :
    Calls Tryz.prog 282 #[v, v2] w fun e w' => e = .returned (.bool (decide (L = M))) ∧ w' = w := by
  have hc := h.conv
  have hc2 := h2.conv
  go_enter Tryz.func282, Tryz.ntmps282
  go_wp2
  go_ret
  exact ⟨ret_bool (by rw [Bool.eq_iff_iff]; simp [strOf_toList]), rfl⟩

/-- one bit of the register -/
def crc1 (z : Int) : Int := bif (bits BinOp.and IntKind.u32 z 1 == 1) then bits BinOp.xor IntKind.u32 (z / 2) 3988292384 else z / 2
def crcN : Nat → Int → Int
  | 0, z => z
  | n + 1, z => crc1 (crcN n z)
def crcB (z : Int) (c : UInt8) : Int := crcN 8 (bits BinOp.xor IntKind.u32 z ((c.toNat : Int) % 4294967296))
def crcL (L : List UInt8) : Int := L.foldl crcB 4294967295
def sumI (L : List UInt8) : Int := bits BinOp.xor IntKind.u32 IntKind.u32.max (crcL L)
theorem bits_u32 (op : BinOp) (x y : Int) : 0 ≤ bits op IntKind.u32 x y ∧ bits op IntKind.u32 x y < 4294967296 := by
  unfold bits
  have : ∀ n : Int, 0 ≤ IntKind.u32.wrap n ∧ IntKind.u32.wrap n < 4294967296 := fun n => by
    have e : IntKind.u32.wrap n = n % 4294967296 := by unfold IntKind.wrap; simp [IntKind.bits, IntKind.signed]
    rw [e]; omega
  exact this _
theorem crc1_bd {z : Int} (h : 0 ≤ z ∧ z < 4294967296) : 0 ≤ crc1 z ∧ crc1 z < 4294967296 := by
  unfold crc1
  cases (bits BinOp.and IntKind.u32 z 1 == 1)
  · simp only [cond_false]; omega
  · rw [cond_true]; exact bits_u32 _ _ _
theorem crcN_bd : ∀ (n : Nat) {z : Int}, 0 ≤ z ∧ z < 4294967296 → 0 ≤ crcN n z ∧ crcN n z < 4294967296
  | 0, _, h => h
  | n + 1, _, h => crc1_bd (crcN_bd n h)
theorem crcB_bd (z : Int) (c : UInt8) : 0 ≤ crcB z c ∧ crcB z c < 4294967296 := crcN_bd 8 (bits_u32 _ _ _)
theorem crcL_bd (L : List UInt8) : 0 ≤ crcL L ∧ crcL L < 4294967296 := by
  unfold crcL
  rcases List.eq_nil_or_concat L with rfl | ⟨M, c, rfl⟩
  · simp
  · rw [List.concat_eq_append, List.foldl_append]; exact crcB_bd _ _

set_option maxRecDepth 100000 in
set_option maxHeartbeats 1000000 in
theorem sumOf_any (w : World) (v : Value) (L : List UInt8) (h : Rd w v L) (hl : L.length ≤ 1000000) :
    Calls Tryz.prog 158 #[v] w fun e w' => e = .returned (.int .u32 (sumI L)) ∧ w' = w := by
  obtain ⟨a, c, rfl⟩ := h.slice
  have H := hid h
  clear h
  go_enter Tryz.func158, Tryz.ntmps158
  go_wp2
  go_loop [3, 5, 6, 9] (fun r x5 x6 i => ∃ k : Nat, k ≤ L.length ∧ i = .int .i64 k ∧ r = .int .u32 (crcL (L.take k))) (fun _ _ _ i => L.length - (intOf i).toNat)
  case atStart => exact ⟨0, Nat.zero_le _, rfl, rfl⟩
  case round =>
    obtain ⟨k, hk, rfl, rfl⟩ := hrel
    have hbd := crcL_bd (L.take k)
    by_cases hlt : k < L.length
    · obtain ⟨b, o, c', hv, hb, hc⟩ := H.out.at (by omega)
      obtain ⟨rfl, rfl⟩ : a = some ⟨b, o, none⟩ ∧ c = c' := by simpa using hv
      have hck := hc k hlt
      have HS := hid (show crcL (L.take (k + 1)) = crcB (crcL (L.take k)) L[k] by unfold crcL; rw [List.take_succ_eq_append_getElem hlt, List.foldl_append]; rfl)
      generalize crcL (L.take k) = z at *
      generalize L[k] = d at *
      clear hc
      go_wp2_with fail
      go_loop [3, 6, 17] (fun r x6 j => ∃ q : Nat, q ≤ 8 ∧ j = .int .i64 q ∧ r = .int .u32 (crcN q (bits BinOp.xor IntKind.u32 z ((d.toNat : Int) % 4294967296)))) (fun _ _ j => 8 - (intOf j).toNat)
      case atStart => exact ⟨0, Nat.zero_le _, rfl, rfl⟩
      case round =>
        obtain ⟨q, hq, rfl, rfl⟩ := hrel
        have hbq := crcN_bd q (bits_u32 BinOp.xor z ((d.toNat : Int) % 4294967296))
        by_cases hlt' : q < 8
        · have HQ := hid (show crcN (q + 1) (bits BinOp.xor IntKind.u32 z ((d.toNat : Int) % 4294967296)) = crc1 (crcN q (bits BinOp.xor IntKind.u32 z ((d.toNat : Int) % 4294967296))) from rfl)
          generalize crcN q (bits BinOp.xor IntKind.u32 z ((d.toNat : Int) % 4294967296)) = y at *
          have HC := hid (show crc1 y = bif (bits BinOp.and IntKind.u32 y 1 == 1) then bits BinOp.xor IntKind.u32 (y / 2) 3988292384 else y / 2 from rfl)
          go_wp2_with fail
          · have ht : (bits BinOp.and IntKind.u32 y 1 == 1) = true := by assumption
            go_round
            case rel => exact ⟨q + 1, by omega, by go_num, by rw [HQ.out, HC.out, ht]; rfl⟩
            case measure => simp [intOf]; omega
          · have ht : (bits BinOp.and IntKind.u32 y 1 == 1) = false := by assumption
            go_round
            case rel => exact ⟨q + 1, by omega, by go_num, by rw [HQ.out, HC.out, ht]; rfl⟩
            case measure => simp [intOf]; omega
        · obtain rfl : q = 8 := by omega
          go_wp2_with fail
          go_round
          case rel => exact ⟨k + 1, by omega, by go_num, by rw [HS.out]; rfl⟩
          case measure => simp [intOf]; omega
    · go_wp2_with fail
      go_ret
      exact ⟨ret_int (by rw [List.take_of_length_le (by omega)]; rfl), rfl⟩
end Go.Proofs.YtlgjlfobbpgklaaGreatDoor
