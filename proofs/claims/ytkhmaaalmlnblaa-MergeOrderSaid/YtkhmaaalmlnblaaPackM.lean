/- Numbers as eight bytes, and back. -/
import Derived.Test.YtkhmaaalmlnblaaBb
namespace Go.Proofs.Ytkhmaaalmlnblaa
open Go.RowKit
set_option linter.unusedVariables false

/-- a number's eight bytes, the highest first -/
def be (n : Int) : List Int := [n / 2 ^ 56 % 256, n / 2 ^ 48 % 256, n / 2 ^ 40 % 256, n / 2 ^ 32 % 256, n / 2 ^ 24 % 256, n / 2 ^ 16 % 256, n / 2 ^ 8 % 256, n % 256]
theorem be_len (n : Int) : (be n).length = 8 := rfl
theorem be_wb (n : Int) : Wb (be n) := by
  intro m hm
  simp only [be, List.mem_cons, List.not_mem_nil, or_false] at hm
  rcases hm with rfl | rfl | rfl | rfl | rfl | rfl | rfl | rfl <;> exact ⟨Int.emod_nonneg _ (by omega), Int.emod_lt_of_pos _ (by omega)⟩
theorem be_snoc (n : Int) (k : Nat) (h : k < 8) : (be n).take (k + 1) = (be n).take k ++ [n / 2 ^ (56 - 8 * k) % 256] := by
  match k, h with
  | 0, _ => rfl
  | 1, _ => rfl
  | 2, _ => rfl
  | 3, _ => rfl
  | 4, _ => rfl
  | 5, _ => rfl
  | 6, _ => rfl
  | 7, _ => simp [be]
theorem be_byte (n : Int) (k : Nat) (h : k < 8) : n / 2 ^ (56 - 8 * (k : Int)).toNat % 256 = n / 2 ^ (56 - 8 * k) % 256 := by
  rw [show (56 - 8 * (k : Int)).toNat = 56 - 8 * k from by omega]

theorem w64_eq (n : Int) : wrap64 n = IntKind.i64.wrap n := by rw [IntKind.wrap_i64]; unfold wrap64; rfl
/-- bytes as a number, the highest first -/
def rdU (xs : List Int) : Int := xs.foldl (fun a c => a * 256 + c) 0
theorem rdU_snoc (xs : List Int) (c : Int) : rdU (xs ++ [c]) = rdU xs * 256 + c := by simp [rdU]

theorem or_low (A c : Nat) (h : A % 256 = 0) (hc : c < 256) : A ||| c = A + c := by
  obtain ⟨q, hq⟩ : ∃ q, A = q * 256 := ⟨A / 256, by omega⟩
  subst hq
  have := Nat.two_pow_add_eq_or_of_lt (i := 8) (b := c) (by omega) q
  rw [show q * 256 = 2 ^ 8 * q from by omega]
  exact this.symm

theorem ofInt_toNat (x : Int) : (BitVec.ofInt 64 x).toNat = (x % 18446744073709551616).toNat := by
  rw [BitVec.toNat_ofInt]; rfl

theorem or_i64 (a c : Int) (h0 : 0 ≤ c) (h1 : c < 256) : bits .or .i64 (IntKind.i64.wrap (IntKind.i64.wrap a * 256)) c = IntKind.i64.wrap (a * 256 + c) := by
  have key : (BitVec.ofInt 64 (IntKind.i64.wrap (IntKind.i64.wrap a * 256)) ||| BitVec.ofInt 64 c).toNat = ((a * 256) % 18446744073709551616).toNat + c.toNat := by
    rw [BitVec.toNat_or, ofInt_toNat, ofInt_toNat, IntKind.wrap_i64, IntKind.wrap_i64]
    rw [show ((((a + 9223372036854775808) % 18446744073709551616 - 9223372036854775808) * 256 + 9223372036854775808) % 18446744073709551616 - 9223372036854775808) % 18446744073709551616 = (a * 256) % 18446744073709551616 from by omega]
    rw [show (c % 18446744073709551616).toNat = c.toNat from by omega]
    exact or_low _ _ (by omega) (by omega)
  show IntKind.i64.wrap ((BitVec.ofInt 64 (IntKind.i64.wrap (IntKind.i64.wrap a * 256)) ||| BitVec.ofInt 64 c).toNat : Nat) = _
  rw [key, IntKind.wrap_i64, IntKind.wrap_i64]
  omega

theorem or_u64 (a c : Int) (h0 : 0 ≤ c) (h1 : c < 256) : bits .or .u64 (IntKind.u64.wrap (IntKind.u64.wrap a * 256)) c = IntKind.u64.wrap (a * 256 + c) := by
  have key : (BitVec.ofInt 64 (IntKind.u64.wrap (IntKind.u64.wrap a * 256)) ||| BitVec.ofInt 64 c).toNat = ((a * 256) % 18446744073709551616).toNat + c.toNat := by
    rw [BitVec.toNat_or, ofInt_toNat, ofInt_toNat, IntKind.wrap_u64, IntKind.wrap_u64]
    rw [show (a % 18446744073709551616 * 256 % 18446744073709551616) % 18446744073709551616 = (a * 256) % 18446744073709551616 from by omega]
    rw [show (c % 18446744073709551616).toNat = c.toNat from by omega]
    exact or_low _ _ (by omega) (by omega)
  show IntKind.u64.wrap ((BitVec.ofInt 64 (IntKind.u64.wrap (IntKind.u64.wrap a * 256)) ||| BitVec.ofInt 64 c).toNat : Nat) = _
  rw [key, IntKind.wrap_u64, IntKind.wrap_u64]
  omega

/-- the number that eight bytes say -/
def rd (xs : List Int) : Int := IntKind.i64.wrap (rdU xs)
theorem rd_of_u64 (xs : List Int) : IntKind.i64.wrap (IntKind.u64.wrap (rdU xs)) = rd xs := by
  unfold rd; rw [IntKind.wrap_u64, IntKind.wrap_i64, IntKind.wrap_i64]; omega

theorem rdU_be (n : Int) : rdU (be n) = n % 18446744073709551616 := by
  simp only [rdU, be, List.foldl]
  omega
theorem rd_be (n : Int) (h0 : -9223372036854775808 ≤ n) (h1 : n ≤ 9223372036854775807) : rd (be n) = n := by
  unfold rd; rw [rdU_be, IntKind.wrap_i64]; omega

end Go.Proofs.Ytkhmaaalmlnblaa
