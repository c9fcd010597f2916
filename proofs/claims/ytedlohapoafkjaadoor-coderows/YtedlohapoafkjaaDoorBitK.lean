/-
  A byte set behind a number by 'or', and the highest bit turned by 'xor'. Of no program.
-/
import Derived.Laws.Bits64b
import Derived.Test.YtedlohapoafkjaaDoorKeyL
namespace Go.Proofs.YtedlohapoafkjaaDoor
open Go

theorem or_byte (x c : Nat) (hx : x < 72057594037927936) (hc : c < 256) : bits .or .u64 ((x : Int) * 256) (c : Int) = ((x * 256 + c : Nat) : Int) := by
  have h2 : (x : Int) * 256 = ((x * 256 : Nat) : Int) := by omega
  rw [h2, bits_or_u64_nat _ _ (by omega) (by omega)]
  have h3 := Nat.two_pow_add_eq_or_of_lt (i := 8) (b := c) (by omega) x
  have h4 : (2 : Nat) ^ 8 * x = x * 256 := by omega
  rw [h4] at h3
  rw [h3]

theorem xor_top (a : Nat) (ha : a < 18446744073709551616) : a ^^^ 9223372036854775808 = (a + 9223372036854775808) % 18446744073709551616 := by
  have hp : (2 : Nat) ^ 63 = 9223372036854775808 := by decide
  have key : ∀ q r : Nat, q < 2 → r < 2 ^ 63 → (2 ^ 63 * q + r) ^^^ (2 ^ 63 * 1 + 0) = 2 ^ 63 * (1 - q) + r := by
    intro q r hq hr
    apply Nat.eq_of_testBit_eq
    intro i
    rw [Nat.testBit_xor, Nat.testBit_two_pow_mul_add q hr, Nat.testBit_two_pow_mul_add 1 (Nat.two_pow_pos 63), Nat.testBit_two_pow_mul_add (1 - q) hr]
    split
    · simp
    · have : q = 0 ∨ q = 1 := by omega
      rcases this with rfl | rfl <;> simp
  have h1 := key (a / 2 ^ 63) (a % 2 ^ 63) (by rw [hp]; omega) (Nat.mod_lt _ (Nat.two_pow_pos 63))
  rw [Nat.div_add_mod, Nat.mul_one, Nat.add_zero, hp] at h1
  rw [h1]
  omega

/-- Turned from below: the number of a key. -/
theorem turn_int (n : Int) (h : fits n = true) : bits .xor .u64 (IntKind.u64.wrap n) 9223372036854775808 = (bias n : Int) := by
  rw [fits_iff] at h
  have h1 : IntKind.u64.wrap n = ((n % 18446744073709551616).toNat : Int) := by rw [IntKind.wrap_u64]; omega
  have h2 : (9223372036854775808 : Int) = ((9223372036854775808 : Nat) : Int) := by omega
  rw [h1, h2, bits_xor_u64_nat _ _ (by omega) (by omega), xor_top _ (by omega)]
  unfold bias
  omega

/-- Turned back. -/
theorem turn_back (u : Nat) (h : u < 18446744073709551616) : IntKind.i64.wrap (bits .xor .u64 (u : Int) 9223372036854775808) = (u : Int) - 9223372036854775808 := by
  have h2 : (9223372036854775808 : Int) = ((9223372036854775808 : Nat) : Int) := by omega
  rw [h2, bits_xor_u64_nat _ _ h (by omega), xor_top _ h]
  simp only [IntKind.wrap, IntKind.bits, IntKind.signed]
  simp
  omega
end Go.Proofs.YtedlohapoafkjaaDoor
