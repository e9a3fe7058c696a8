/- The lowest bits of a number, as what is left of it. -/
import Derived.WalkKit
import Derived.Laws.BitsLemmas
namespace Go.Proofs.Ytohiimfojlcomaa
open Go.RowKit

theorem mask_and (n m : Int) (k : Nat) (hm : (BitVec.ofInt 64 m).toNat = 2 ^ k - 1) : bits .and .i64 n m = IntKind.i64.wrap (((n % ((2 ^ 64 : Nat) : Int)).toNat % 2 ^ k : Nat) : Int) := by
  have key : (BitVec.ofInt 64 n &&& BitVec.ofInt 64 m).toNat = (n % ((2 ^ 64 : Nat) : Int)).toNat % 2 ^ k := by
    rw [BitVec.toNat_and, BitVec.toNat_ofInt, hm, Nat.and_two_pow_sub_one_eq_mod]
  show IntKind.i64.wrap ((BitVec.ofInt 64 n &&& BitVec.ofInt 64 m).toNat : Nat) = _
  rw [key]
theorem and_1 (n : Int) : bits .and .i64 n 1 = n % 2 := by rw [mask_and n 1 1 (by decide), IntKind.wrap_i64]; omega
theorem and_3 (n : Int) : bits .and .i64 n 3 = n % 4 := by rw [mask_and n 3 2 (by decide), IntKind.wrap_i64]; omega
theorem and_7 (n : Int) : bits .and .i64 n 7 = n % 8 := by rw [mask_and n 7 3 (by decide), IntKind.wrap_i64]; omega
theorem and_15 (n : Int) : bits .and .i64 n 15 = n % 16 := by rw [mask_and n 15 4 (by decide), IntKind.wrap_i64]; omega
theorem and_31 (n : Int) : bits .and .i64 n 31 = n % 32 := by rw [mask_and n 31 5 (by decide), IntKind.wrap_i64]; omega
theorem and_63 (n : Int) : bits .and .i64 n 63 = n % 64 := by rw [mask_and n 63 6 (by decide), IntKind.wrap_i64]; omega
theorem and_127 (n : Int) : bits .and .i64 n 127 = n % 128 := by rw [mask_and n 127 7 (by decide), IntKind.wrap_i64]; omega
theorem and_255 (n : Int) : bits .and .i64 n 255 = n % 256 := by rw [mask_and n 255 8 (by decide), IntKind.wrap_i64]; omega
theorem and_1023 (n : Int) : bits .and .i64 n 1023 = n % 1024 := by rw [mask_and n 1023 10 (by decide), IntKind.wrap_i64]; omega
theorem and_65535 (n : Int) : bits .and .i64 n 65535 = n % 65536 := by rw [mask_and n 65535 16 (by decide), IntKind.wrap_i64]; omega

end Go.Proofs.Ytohiimfojlcomaa
