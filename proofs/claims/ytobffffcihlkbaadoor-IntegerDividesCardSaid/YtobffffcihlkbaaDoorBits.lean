/- Bit operations on words as sums and remainders. -/
import Derived.Test.YtobffffcihlkbaaDoorNum
import Derived.Laws.BitsAllLaws
namespace Lw
open Go
theorem or_add {i a b : Nat} (h : b < 2 ^ i) : a * 2 ^ i ||| b = a * 2 ^ i + b := by
  rw [Nat.mul_comm]; exact (Nat.two_pow_add_eq_or_of_lt h a).symm
theorem or_u64 {i : Nat} {a b : Nat} (h : b < 2 ^ i) (h2 : a * 2 ^ i < 18446744073709551616) (hi : 2 ^ i < 18446744073709551616) :
    bits .or .u64 ((a : Int) * (2 ^ i : Nat)) (b : Int) = ((a * 2 ^ i + b : Nat) : Int) := by
  have := u64_or_nat (a * 2 ^ i) b h2 (by omega)
  rw [or_add h] at this
  rw [← this, Int.natCast_mul]
theorem or_words {x y : Nat} (hx : x < 4294967296) (hy : y < 4294967296) : bits .or .u64 ((x : Int) * 4294967296) (y : Int) = ((y + 4294967296 * x : Nat) : Int) := by
  have := or_u64 (i := 32) (a := x) (b := y) (by simpa using hy) (by simp; omega) (by simp)
  simp only [Nat.reducePow] at this
  rw [show ((4294967296 : Nat) : Int) = (4294967296 : Int) from rfl] at this
  rw [this]; omega
theorem or_words' {x y : Nat} (hx : x < 4294967296) (hy : y < 4294967296) : bits .or .u64 (y : Int) ((x : Int) * 4294967296) = ((y + 4294967296 * x : Nat) : Int) := by
  have h1 := u64_or_nat y (x * 4294967296) (by omega) (by omega)
  have h2 := u64_or_nat (x * 4294967296) y (by omega) (by omega)
  rw [Nat.or_comm] at h1
  rw [← or_words hx hy]
  simp only [Int.natCast_mul] at h1 h2
  exact h1.trans h2.symm
theorem and_mask_nat (a : Nat) : a &&& 4294967295 = a % 4294967296 := by
  have := Nat.and_two_pow_sub_one_eq_mod a 32
  simpa using this
theorem and_mask {a : Nat} (h : a < 18446744073709551616) : bits .and .u64 (a : Int) 4294967295 = ((a % 4294967296 : Nat) : Int) := by
  have := u64_and_nat a 4294967295 h (by omega)
  rw [and_mask_nat] at this
  exact this
end Lw
