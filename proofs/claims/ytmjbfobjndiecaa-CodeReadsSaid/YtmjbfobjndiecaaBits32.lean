
/-
  Bits of numbers of 32 and of 8 bits. Nothing of the landed code is spoken of here.
-/
import Derived.Test.YtmjbfobjndiecaaBits
import Derived.Test.YtmjbfobjndiecaaCrcPure
namespace Go.Proofs.Ytmjbfobjndiecaa
open Go.RowKit Plain

theorem ofInt_u32 (a : Nat) (ha : a < 4294967296) : (BitVec.ofInt 32 (a : Int)).toNat = a := by
  rw [BitVec.ofInt_natCast, BitVec.toNat_ofNat]; exact Nat.mod_eq_of_lt (by omega)
theorem u32_xor_nat (a b : Nat) (ha : a < 4294967296) (hb : b < 4294967296) : bits .xor .u32 (a : Int) (b : Int) = ((a ^^^ b : Nat) : Int) := by
  have hx : a ^^^ b < 2 ^ 32 := Nat.xor_lt_two_pow (by omega) (by omega)
  show IntKind.u32.wrap ((BitVec.ofInt 32 (a : Int) ^^^ BitVec.ofInt 32 (b : Int)).toNat : Int) = _
  rw [BitVec.toNat_xor, ofInt_u32 a ha, ofInt_u32 b hb]
  show (_ : Int) % 4294967296 = _
  omega
theorem u32_or_nat (a b : Nat) (ha : a < 4294967296) (hb : b < 4294967296) : bits .or .u32 (a : Int) (b : Int) = ((a ||| b : Nat) : Int) := by
  have hx : a ||| b < 2 ^ 32 := Nat.or_lt_two_pow (by omega) (by omega)
  show IntKind.u32.wrap ((BitVec.ofInt 32 (a : Int) ||| BitVec.ofInt 32 (b : Int)).toNat : Int) = _
  rw [BitVec.toNat_or, ofInt_u32 a ha, ofInt_u32 b hb]
  show (_ : Int) % 4294967296 = _
  omega
theorem u32_and_nat (a b : Nat) (ha : a < 4294967296) (hb : b < 4294967296) : bits .and .u32 (a : Int) (b : Int) = ((a &&& b : Nat) : Int) := by
  have hx : a &&& b < 2 ^ 32 := Nat.and_lt_two_pow _ (by omega)
  show IntKind.u32.wrap ((BitVec.ofInt 32 (a : Int) &&& BitVec.ofInt 32 (b : Int)).toNat : Int) = _
  rw [BitVec.toNat_and, ofInt_u32 a ha, ofInt_u32 b hb]
  show (_ : Int) % 4294967296 = _
  omega
theorem u8_xor_nat (a b : Nat) (ha : a < 256) (hb : b < 256) : bits .xor .u8 (a : Int) (b : Int) = ((a ^^^ b : Nat) : Int) := by
  have hx : a ^^^ b < 2 ^ 8 := Nat.xor_lt_two_pow (by omega) (by omega)
  show IntKind.u8.wrap ((BitVec.ofInt 8 (a : Int) ^^^ BitVec.ofInt 8 (b : Int)).toNat : Int) = _
  rw [BitVec.toNat_xor, ofInt_u8 a ha, ofInt_u8 b hb]
  show (_ : Int) % 256 = _
  omega
/-- The register's step as the program reckons it. -/
theorem st_bits (s : Nat) (h : s ≤ 4294967295) : bits .xor .u32 ((s : Int) / 2) (3988292384 * bits .and .u32 (s : Int) 1 % 4294967296) = ((st s : Nat) : Int) := by
  rw [show (1 : Int) = ((1 : Nat) : Int) from rfl, u32_and_nat s 1 (by omega) (by omega), Nat.and_one_is_mod, show (s : Int) / 2 = ((s / 2 : Nat) : Int) by omega]
  unfold st
  rcases Nat.mod_two_eq_zero_or_one s with h0 | h0
  · rw [h0, if_neg (by omega), show (3988292384 * ((0 : Nat) : Int) % 4294967296) = ((0 : Nat) : Int) by rfl, u32_xor_nat _ _ (by omega) (by omega), Nat.xor_zero]
  · rw [h0, if_pos rfl, show (3988292384 * ((1 : Nat) : Int) % 4294967296) = ((cPoly : Nat) : Int) by rfl, u32_xor_nat _ _ (by omega) (by decide)]
theorem or_low (i k : Nat) (hi : i ≤ 7) (hk : k < 2 ^ i) : bits .or .i64 ((2 ^ i : Nat) : Int) (k : Int) = ((2 ^ i + k : Nat) : Int) := by
  have hp : (2 : Nat) ^ i ≤ 2 ^ 7 := Nat.pow_le_pow_right (by omega) hi
  have := Nat.two_pow_add_eq_or_of_lt (i := i) (b := k) hk 1
  rw [Nat.mul_one] at this
  rw [i64_or_nat _ _ (by omega) (by omega), ← this]
theorem xor_add (i k : Nat) (hk : k < 2 ^ i) : 2 ^ i + k = 2 ^ i ^^^ k := by
  have := Nat.two_pow_add_eq_or_of_lt (i := i) (b := k) hk 1
  rw [Nat.mul_one] at this
  rw [this]
  apply Nat.eq_of_testBit_eq
  intro j
  rw [Nat.testBit_or, Nat.testBit_xor, Nat.testBit_two_pow]
  by_cases h : i = j
  · subst h
    have : k.testBit i = false := Nat.testBit_lt_two_pow hk
    simp [this]
  · simp [h]
end Go.Proofs.Ytmjbfobjndiecaa
