/- The low bits of an int. -/
import Derived.Test.YtfjdeacpdcnjpaaGreatDoorVTail3
import Derived.Test.YtfjdeacpdcnjpaaGreatDoorVAlive
import Derived.Laws.Bits128
namespace Go.Proofs.YtfjdeacpdcnjpaaGreatDoor.V
open Go.RowKit
open Go.Lib

theorem i64_and_low (n : Int) (k : Nat) (hk : k < 63) (m : Int) (hm : (BitVec.ofInt 64 m).toNat = 2 ^ k - 1) : bits .and .i64 n m = n % ((2 ^ k : Nat) : Int) := by
  have key : (BitVec.ofInt 64 n &&& BitVec.ofInt 64 m).toNat = (n % ((2 ^ 64 : Nat) : Int)).toNat % 2 ^ k := by
    rw [BitVec.toNat_and, BitVec.toNat_ofInt, hm, Nat.and_two_pow_sub_one_eq_mod]
  show IntKind.i64.wrap ((BitVec.ofInt 64 n &&& BitVec.ofInt 64 m).toNat : Nat) = _
  rw [key, IntKind.wrap_i64]
  have h1 : 2 ^ k ∣ 2 ^ 64 := Nat.pow_dvd_pow 2 (by omega)
  have h2 : (0 : Int) ≤ n % ((2 ^ 64 : Nat) : Int) := Int.emod_nonneg _ (by decide)
  have h3 : (((n % ((2 ^ 64 : Nat) : Int)).toNat % 2 ^ k : Nat) : Int) = n % ((2 ^ k : Nat) : Int) := by
    rw [Int.natCast_emod, Int.toNat_of_nonneg h2]
    exact Int.emod_emod_of_dvd n (by exact_mod_cast h1)
  rw [h3]
  have h4 : (0 : Int) ≤ n % ((2 ^ k : Nat) : Int) := Int.emod_nonneg _ (by have := Nat.pos_of_ne_zero (n := 2 ^ k) (by simp); omega)
  have h5 : n % ((2 ^ k : Nat) : Int) < ((2 ^ k : Nat) : Int) := Int.emod_lt_of_pos _ (by have := Nat.pos_of_ne_zero (n := 2 ^ k) (by simp); omega)
  have h6 : 2 ^ k ≤ 2 ^ 62 := Nat.pow_le_pow_right (by omega) (by omega)
  have h7 : (2 : Nat) ^ 62 = 4611686018427387904 := by decide
  rw [h7] at h6
  generalize n % ((2 ^ k : Nat) : Int) = x at h4 h5 ⊢
  omega
theorem i64_and31 (n : Int) : bits .and .i64 n 31 = n % 32 := i64_and_low n 5 (by omega) 31 (by decide)
theorem i64_and7 (n : Int) : bits .and .i64 n 7 = n % 8 := i64_and_low n 3 (by omega) 7 (by decide)
theorem i64_and3 (n : Int) : bits .and .i64 n 3 = n % 4 := i64_and_low n 2 (by omega) 3 (by decide)
theorem i64_and1 (n : Int) : bits .and .i64 n 1 = n % 2 := i64_and_low n 1 (by omega) 1 (by decide)
end Go.Proofs.YtfjdeacpdcnjpaaGreatDoor.V
