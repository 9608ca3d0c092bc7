/- The sum's two spellings: by bits, and by remainders. -/
import Derived.Test.YtlgjlfobbpgklaaGreatDoorCFrSum
namespace Go.Proofs.YtlgjlfobbpgklaaGreatDoor
open Go.RowKit

theorem and_one (z : Int) (h : 0 ≤ z ∧ z < 4294967296) : bits BinOp.and IntKind.u32 z 1 = z % 2 := by
  obtain ⟨n, rfl⟩ : ∃ n : Nat, z = n := ⟨z.toNat, by omega⟩
  have hw : ∀ m : Nat, m < 4294967296 → IntKind.u32.wrap (m : Int) = m := fun m hm => by
    have e : IntKind.u32.wrap (m : Int) = (m : Int) % 4294967296 := by unfold IntKind.wrap; simp [IntKind.bits, IntKind.signed]
    rw [e]; omega
  have e : ((BitVec.ofInt 32 (n : Int)) &&& (BitVec.ofInt 32 1)).toNat = n % 2 := by
    rw [BitVec.toNat_and]
    have h1 : (BitVec.ofInt 32 (n : Int)).toNat = n := by
      rw [BitVec.toNat_ofInt]; omega
    have h2 : (BitVec.ofInt 32 1).toNat = 1 := by decide
    rw [h1, h2, Nat.and_one_is_mod]
  show IntKind.u32.wrap (((BitVec.ofInt 32 (n : Int)) &&& (BitVec.ofInt 32 1)).toNat : Int) = _
  rw [e, hw _ (by omega)]
  omega
theorem xor_max (z : Int) (h : 0 ≤ z ∧ z < 4294967296) : bits BinOp.xor IntKind.u32 IntKind.u32.max z = 4294967295 - z := by
  obtain ⟨n, rfl⟩ : ∃ n : Nat, z = n := ⟨z.toNat, by omega⟩
  have hw : ∀ m : Nat, m < 4294967296 → IntKind.u32.wrap (m : Int) = m := fun m hm => by
    have e : IntKind.u32.wrap (m : Int) = (m : Int) % 4294967296 := by unfold IntKind.wrap; simp [IntKind.bits, IntKind.signed]
    rw [e]; omega
  have e : ((BitVec.ofInt 32 4294967295) ^^^ (BitVec.ofInt 32 (n : Int))).toNat = 4294967295 - n := by
    have h1 : (BitVec.ofInt 32 (n : Int)).toNat = n := by
      rw [BitVec.toNat_ofInt]; omega
    have h2 : BitVec.ofInt 32 4294967295 = BitVec.allOnes 32 := by decide
    rw [h2, BitVec.allOnes_xor, BitVec.toNat_not, h1]
  have hm : IntKind.u32.max = 4294967295 := by decide
  rw [hm]
  show IntKind.u32.wrap (((BitVec.ofInt 32 4294967295) ^^^ (BitVec.ofInt 32 (n : Int))).toNat : Int) = _
  rw [e, hw _ (by omega)]
  omega
theorem crc1_mod {z : Int} (h : 0 ≤ z ∧ z < 4294967296) : crc1 z = bif (z % 2 == 1) then bits BinOp.xor IntKind.u32 (z / 2) 3988292384 else z / 2 := by
  unfold crc1; rw [and_one z h]
theorem sumI_sub (L : List UInt8) : sumI L = 4294967295 - crcL L := xor_max _ (crcL_bd L)
end Go.Proofs.YtlgjlfobbpgklaaGreatDoor
