
/-
  Decimal: the document's text of a number, and that it is the library's.
-/
import Derived.Test.YtcnfmngcfnpkkaaDoorNmA
import Derived.Laws.IdiomStrings
import Derived.WalkLawsBesides
import Derived.Lib.ItoaNum
set_option linter.unusedVariables false
set_option linter.unusedSimpArgs false
namespace Go.Proofs.YtcnfmngcfnpkkaaDoor
open Go.RowKit Plain

namespace Plain
/-- A byte of a number. -/
def digC (x : Nat) : UInt8 := UInt8.ofNat x
/-- The digits of a number from 0 on, at most k of them. -/
def digB : Nat → Nat → List UInt8
  | 0, _ => []
  | k + 1, n => if n < 10 then [digC (48 + n)] else digB k (n / 10) ++ [digC (48 + n % 10)]
theorem digB_len : ∀ k n, (digB k n).length ≤ k
  | 0, n => by simp [digB]
  | k + 1, n => by
    have := digB_len k (n / 10)
    unfold digB
    split
    · simp
    · simp; omega
end Plain

theorem dig_one (w : World) (X : Int) (x : Nat) (hX : X = (x : Int)) (t : TypeId) (cap : Nat) (hx : x < 256) :
    (convert 34 9 (.slice (some ⟨w.heap.size, 0, none⟩) 1 cap)).run Tryd.prog (w.alloc (.cells #[.int .u8 X] t)) = .ok (.string ⟨#[digC x]⟩) (w.alloc (.cells #[.int .u8 X] t)) := by
  subst hX
  have := run_convert_bytes_back (P := Tryd.prog) (w.alloc (.cells #[.int .u8 (x : Int)] t)) 34 9 5 ⟨w.heap.size, 0, none⟩ cap [digC x] Tryd.underlying34 Tryd.underlying5 Tryd.underlying9 (fun j hj => by
    have : j = 0 := by simpa using hj
    subst this
    simp [Addr.add, digC]
    omega)
  simpa using this
theorem join_bytes (a b : List UInt8) : (⟨a.toArray⟩ : ByteArray) ++ ⟨b.toArray⟩ = ⟨(a ++ b).toArray⟩ := by
  apply ByteArray.ext
  simp
theorem size_bytes (a : List UInt8) : (⟨a.toArray⟩ : ByteArray).size = a.length := by simp [ByteArray.size]
theorem ret_str {a b : ByteArray} (h : a = b) : Ending.returned (.string a) = .returned (.string b) := by rw [h]

set_option maxHeartbeats 1000000 in
theorem dec_nat : ∀ (k n : Nat) (w : World), n < 10 ^ (k + 1) → n ≤ 9223372036854775807 → k ≤ 18 →
    Calls Tryd.prog 15 #[.int .i64 (n : Int)] w fun e w' => e = .returned (.string ⟨(digB (k + 1) n).toArray⟩) ∧ Below w.heap.size w w' := by
  have hten : ∀ (k n : Nat) (w : World), n < 10 → Calls Tryd.prog 15 #[.int .i64 (n : Int)] w fun e w' => e = .returned (.string ⟨(digB (k + 1) n).toArray⟩) ∧ Below w.heap.size w w' := by
    intro k n w h10
    have hd := fun cap => dig_one w (48 + (n : Int)) (48 + n) (by omega) 5 cap (by omega)
    have h0 : (0 : Int) ≤ (n : Int) := by omega
    have h1 : (n : Int) < 10 := by omega
    have hm : (n : Int) % 10 = (n : Int) := by omega
    rw [show digB (k + 1) n = [digC (48 + n)] by unfold digB; rw [if_pos h10]]
    go_enter Tryd.func15, Tryd.ntmps15
    go_wp2_with fail
    go_ret
    exact ⟨rfl, (Below.refl _ _).alloc (Nat.le_refl _) _⟩
  intro k
  induction k with
  | zero => exact fun n w h _ _ => hten 0 n w (by simpa using h)
  | succ k ih =>
    intro n w h hn hk
    by_cases h10 : n < 10
    · exact hten _ n w h10
    · have hd := fun cap => dig_one w (48 + (n : Int) % 10) (48 + n % 10) (by omega) 5 cap (by omega)
      have hq := fun W => ih (n / 10) W (by rw [Nat.div_lt_iff_lt_mul (by omega)]; rwa [Nat.pow_succ] at h) (by omega) (by omega)
      rw [show ((n / 10 : Nat) : Int) = (n : Int) / 10 by omega] at hq
      have h0 : (0 : Int) ≤ (n : Int) := by omega
      have h1 : (10 : Int) ≤ (n : Int) := by omega
      have hsz := digB_len (k + 1) (n / 10)
      rw [show digB (k + 1 + 1) n = digB (k + 1) (n / 10) ++ [digC (48 + n % 10)] by conv => lhs; unfold digB; rw [if_neg h10]]
      generalize digB (k + 1) (n / 10) = ds at *
      have hb2 : (⟨ds.toArray⟩ : ByteArray).size ≤ 100 := by rw [size_bytes]; omega
      have hrun := fun W => run_string_add_sum (P := Tryd.prog) (w := W) ⟨ds.toArray⟩ ⟨#[digC (48 + n % 10)]⟩ (by rw [size_bytes, show (⟨#[digC (48 + n % 10)]⟩ : ByteArray).size = 1 from rfl]; omega)
      have hnn : (n : Int) ≤ 9223372036854775807 := by omega
      have HQ := Lib.hid hq
      clear hq ih hn
      go_enter Tryd.func15, Tryd.ntmps15
      go_wp2_with fail
      refine (HQ.out _).mono ?_
      rintro e w1 ⟨rfl, hb⟩
      go_wp2_with fail
      go_ret
      refine ⟨ret_str ?_, ((Below.refl _ _).alloc (Nat.le_refl _) _).trans (hb.mono (by simp))⟩
      rw [← join_bytes]
namespace Plain
/-- The document's text of a number, as bytes. -/
def decB (n : Int) : ByteArray := if n < -9223372036854775807 then ⟨#[45, 57, 50, 50, 51, 51, 55, 50, 48, 51, 54, 56, 53, 52, 55, 55, 53, 56, 48, 56]⟩ else if n < 0 then ⟨#[45]⟩ ++ ⟨(digB 19 (-n).toNat).toArray⟩ else ⟨(digB 19 n.toNat).toArray⟩
end Plain

set_option maxHeartbeats 1000000 in
theorem dec_any (n : Int) (w : World) (h1 : -9223372036854775808 ≤ n) (h2 : n ≤ 9223372036854775807) :
    Calls Tryd.prog 15 #[.int .i64 n] w fun e w' => e = .returned (.string (decB n)) ∧ Below w.heap.size w w' := by
  unfold decB
  by_cases hm : n < -9223372036854775807
  · rw [if_pos hm]
    go_enter Tryd.func15, Tryd.ntmps15
    go_wp2_with fail
    go_ret
    exact ⟨rfl, Below.refl _ _⟩
  · rw [if_neg hm]
    by_cases h0 : n < 0
    · rw [if_pos h0]
      have hq := fun W => dec_nat 18 (-n).toNat W (by omega) (by omega) (by omega)
      rw [show (((-n).toNat : Nat) : Int) = -n by omega] at hq
      have hsz := digB_len 19 (-n).toNat
      generalize digB 19 (-n).toNat = ds at *
      have hq' : ∀ W, Calls Tryd.prog 15 #[.int .i64 (-n)] W fun e w' => e = .returned (.string ⟨ds.toArray⟩) ∧ Below W.heap.size W w' := hq
      have hb2 : (⟨ds.toArray⟩ : ByteArray).size ≤ 100 := by rw [size_bytes]; omega
      have hrun := fun W => run_string_add_sum (P := Tryd.prog) (w := W) ⟨#[45]⟩ ⟨ds.toArray⟩ (by rw [show (⟨#[45]⟩ : ByteArray).size = 1 from rfl]; omega)
      have hw : IntKind.i64.wrap (-n) = -n := IntWalk.i64_in _ (by omega)
      have HQ := Lib.hid hq'
      clear hq hq'
      go_enter Tryd.func15, Tryd.ntmps15
      go_wp2_with fail
      refine (HQ.out _).mono ?_
      rintro e w1 ⟨rfl, hb⟩
      go_wp2_with fail
      go_ret
      exact ⟨rfl, hb⟩
    · rw [if_neg h0]
      obtain ⟨k, rfl⟩ := Int.eq_ofNat_of_zero_le (show 0 ≤ n by omega)
      exact dec_nat 18 k w (by omega) (by omega) (by omega)
theorem digB_dec : ∀ (k n : Nat), n < 10 ^ (k + 1) → digB (k + 1) n = Lib.decDigits n
  | 0, n, h => by
    have h10 : n < 10 := by simpa using h
    rw [Lib.decDigits, dif_pos h10]
    unfold digB
    rw [if_pos h10]
    rfl
  | k + 1, n, h => by
    by_cases h10 : n < 10
    · rw [Lib.decDigits, dif_pos h10]
      unfold digB
      rw [if_pos h10]
      rfl
    · rw [Lib.decDigits, dif_neg h10, ← digB_dec k (n / 10) (by rw [Nat.div_lt_iff_lt_mul (by omega)]; rwa [Nat.pow_succ] at h)]
      conv => lhs; unfold digB; rw [if_neg h10]
      rfl
theorem decB_itoa (n : Int) (h1 : -9223372036854775808 ≤ n) (h2 : n ≤ 9223372036854775807) : decB n = ⟨(Lib.itoa n).toArray⟩ := by
  unfold decB Lib.itoa
  by_cases hm : n < -9223372036854775807
  · rw [if_pos hm, if_pos (by omega), show n.natAbs = 9223372036854775808 by omega, ← digB_dec 18 _ (by decide)]
    rfl
  · rw [if_neg hm]
    by_cases h0 : n < 0
    · rw [if_pos h0, if_pos h0, ← digB_dec 18 n.natAbs (by omega), show (-n).toNat = n.natAbs by omega]
      have := join_bytes [45] (digB 19 n.natAbs)
      exact this
    · rw [if_neg h0, if_neg h0, ← digB_dec 18 n.toNat (by omega)]
theorem itoa_len (n : Int) (h1 : -9223372036854775808 ≤ n) (h2 : n ≤ 9223372036854775807) : (Lib.itoa n).length ≤ 20 := by
  unfold Lib.itoa
  by_cases h0 : n < 0
  · rw [if_pos h0, ← digB_dec 18 n.natAbs (by omega)]
    have := digB_len 19 n.natAbs
    simp
    omega
  · rw [if_neg h0, ← digB_dec 18 n.toNat (by omega)]
    have := digB_len (18 + 1) n.toNat
    omega
end Go.Proofs.YtcnfmngcfnpkkaaDoor
