
/-
  Bits of numbers that are not below 0, as sums. Nothing of the landed code is spoken of here.
-/
import Derived.Laws.BitsAllLaws
import Derived.Laws.BitsLemmas
import Derived.Below
import Derived.IntWalk
namespace Go.Proofs.Ytmjbfobjndiecaa
open Go.RowKit

theorem ofInt_i64 (a : Nat) (ha : a < 9223372036854775808) : (BitVec.ofInt 64 (a : Int)).toNat = a := by
  rw [BitVec.ofInt_natCast, BitVec.toNat_ofNat]; exact Nat.mod_eq_of_lt (by omega)
theorem i64_and_nat (a b : Nat) (ha : a < 9223372036854775808) (hb : b < 9223372036854775808) : bits .and .i64 (a : Int) (b : Int) = ((a &&& b : Nat) : Int) := by
  have hx : a &&& b < 2 ^ 63 := Nat.and_lt_two_pow _ (by omega)
  show IntKind.i64.wrap ((BitVec.ofInt 64 (a : Int) &&& BitVec.ofInt 64 (b : Int)).toNat : Int) = _
  rw [BitVec.toNat_and, ofInt_i64 a ha, ofInt_i64 b hb, IntKind.wrap_i64]
  omega
theorem i64_or_nat (a b : Nat) (ha : a < 9223372036854775808) (hb : b < 9223372036854775808) : bits .or .i64 (a : Int) (b : Int) = ((a ||| b : Nat) : Int) := by
  have hx : a ||| b < 2 ^ 63 := Nat.or_lt_two_pow (by omega) (by omega)
  show IntKind.i64.wrap ((BitVec.ofInt 64 (a : Int) ||| BitVec.ofInt 64 (b : Int)).toNat : Int) = _
  rw [BitVec.toNat_or, ofInt_i64 a ha, ofInt_i64 b hb, IntKind.wrap_i64]
  omega
theorem and127 (n : Nat) : n &&& 127 = n % 128 := Nat.and_two_pow_sub_one_eq_mod n 7
theorem or128 (n : Nat) (h : n < 128) : n ||| 128 = 128 + n := by
  have := Nat.two_pow_add_eq_or_of_lt (i := 7) (b := n) (by simpa using h) 1
  rw [Nat.or_comm]
  simpa using this.symm
/-- The byte of a short number that is not its last one. -/
theorem seven_bits (n : Nat) (h : n ≤ 9223372036854775807) : bits .or .i64 (bits .and .i64 (n : Int) 127) 128 = ((128 + n % 128 : Nat) : Int) := by
  have e1 : bits .and .i64 (n : Int) 127 = ((n % 128 : Nat) : Int) := by
    rw [show (127 : Int) = ((127 : Nat) : Int) from rfl, i64_and_nat n 127 (by omega) (by omega), and127]
  rw [e1, show (128 : Int) = ((128 : Nat) : Int) from rfl, i64_or_nat _ 128 (by omega) (by omega), or128 _ (by omega)]
theorem ofInt_u8 (a : Nat) (ha : a < 256) : (BitVec.ofInt 8 (a : Int)).toNat = a := by
  rw [BitVec.ofInt_natCast, BitVec.toNat_ofNat]; exact Nat.mod_eq_of_lt (by omega)
theorem u8_and127 (x : Nat) (h : x < 256) : bits .and .u8 (x : Int) 127 = ((x % 128 : Nat) : Int) := by
  rw [show (127 : Int) = ((127 : Nat) : Int) from rfl]
  have hx : x &&& 127 < 2 ^ 8 := Nat.and_lt_two_pow _ (by omega)
  show IntKind.u8.wrap ((BitVec.ofInt 8 (x : Int) &&& BitVec.ofInt 8 ((127 : Nat) : Int)).toNat : Int) = _
  rw [BitVec.toNat_and, ofInt_u8 x h, ofInt_u8 127 (by omega), and127]
  show (_ : Int) % 256 = _
  omega
theorem pow7 (k : Nat) : (2 : Nat) ^ (7 * k) = 128 ^ k := by rw [Nat.pow_mul]
theorem pow_le_8 {k : Nat} (h : k ≤ 8) : (128 : Nat) ^ k ≤ 72057594037927936 := by
  have : (128 : Nat) ^ k ≤ 128 ^ 8 := Nat.pow_le_pow_right (by omega) h
  have e : (128 : Nat) ^ 8 = 72057594037927936 := by decide
  omega
theorem or_shift (v y k : Nat) (hv : v < 128 ^ k) (hy : y < 128) (hk : k ≤ 8) : bits .or .i64 (v : Int) ((y * 128 ^ k : Nat) : Int) = ((v + y * 128 ^ k : Nat) : Int) := by
  have hp := pow_le_8 hk
  have h1 : y * 128 ^ k ≤ 127 * 72057594037927936 := Nat.mul_le_mul (by omega) hp
  rw [i64_or_nat _ _ (by omega) (by omega)]
  congr 1
  rw [← pow7] at hv ⊢
  have := Nat.two_pow_add_eq_or_of_lt hv y
  rw [Nat.or_comm, Nat.mul_comm, ← this, Nat.add_comm]
/-- A byte's seven bits put ahead of what has been read. -/
theorem or_shl (v y k : Nat) (hv : v < 128 ^ k) (hy : y < 128) (hk : k ≤ 8) : bits .or .i64 (v : Int) (wrap64 ((y : Int) * 2 ^ (7 * k))) = ((v + y * 128 ^ k : Nat) : Int) := by
  have hp := pow_le_8 hk
  have h1 : y * 128 ^ k ≤ 127 * 72057594037927936 := Nat.mul_le_mul (by omega) hp
  have e : wrap64 ((y : Int) * 2 ^ (7 * k)) = ((y * 128 ^ k : Nat) : Int) := by
    rw [show (2 : Int) ^ (7 * k) = ((2 ^ (7 * k) : Nat) : Int) by simp, pow7, ← Int.natCast_mul]
    exact IntWalk.wrap64_in _ ⟨by omega, by omega⟩
  rw [e]
  exact or_shift v y k hv hy hk
theorem ofInt_u64 (a : Nat) (ha : a < 18446744073709551616) : (BitVec.ofInt 64 (a : Int)).toNat = a := by
  rw [BitVec.ofInt_natCast, BitVec.toNat_ofNat]; exact Nat.mod_eq_of_lt (by omega)
theorem u64_or_nat (a b : Nat) (ha : a < 18446744073709551616) (hb : b < 18446744073709551616) : bits .or .u64 (a : Int) (b : Int) = ((a ||| b : Nat) : Int) := by
  have hx : a ||| b < 2 ^ 64 := Nat.or_lt_two_pow (by omega) (by omega)
  show IntKind.u64.wrap ((BitVec.ofInt 64 (a : Int) ||| BitVec.ofInt 64 (b : Int)).toNat : Int) = _
  rw [BitVec.toNat_or, ofInt_u64 a ha, ofInt_u64 b hb]
  show (_ : Int) % 18446744073709551616 = _
  omega
theorem pow8 (k : Nat) : (2 : Nat) ^ (8 * k) = 256 ^ k := by rw [Nat.pow_mul]
theorem pow_le_7 {k : Nat} (h : k ≤ 7) : (256 : Nat) ^ k ≤ 72057594037927936 := by
  have : (256 : Nat) ^ k ≤ 256 ^ 7 := Nat.pow_le_pow_right (by omega) h
  have e : (256 : Nat) ^ 7 = 72057594037927936 := by decide
  omega
/-- A byte put ahead of what has been read. -/
theorem u64_or_shl (v x k : Nat) (hv : v < 256 ^ k) (hx : x < 256) (hk : k ≤ 7) : bits .or .u64 (v : Int) (IntKind.u64.wrap ((x : Int) * 2 ^ (8 * k))) = ((v + x * 256 ^ k : Nat) : Int) := by
  have hp := pow_le_7 hk
  have h1 : x * 256 ^ k ≤ 255 * 72057594037927936 := Nat.mul_le_mul (by omega) hp
  have e : IntKind.u64.wrap ((x : Int) * 2 ^ (8 * k)) = ((x * 256 ^ k : Nat) : Int) := by
    rw [show (2 : Int) ^ (8 * k) = ((2 ^ (8 * k) : Nat) : Int) by simp, pow8, ← Int.natCast_mul]
    show (_ : Int) % 18446744073709551616 = _
    omega
  rw [e, u64_or_nat _ _ (by omega) (by omega)]
  congr 1
  rw [← pow8] at hv ⊢
  have := Nat.two_pow_add_eq_or_of_lt hv x
  rw [Nat.or_comm, Nat.mul_comm, ← this, Nat.add_comm]
end Go.Proofs.Ytmjbfobjndiecaa
