
/-
  Round: all workers, rising, so many times; rounds that are turned.
-/
import Derived.Test.YtgongcbbbhdjeaaFrG
import Derived.Test.YtgongcbbbhdjeaaFrO
set_option linter.unusedVariables false
set_option linter.unusedSimpArgs false
namespace Go.Proofs.Ytgongcbbbhdjeaa
open Go.RowKit Go.Shelf Plain

namespace Plain
theorem turned_at (l : List Int) (n : Int) {i : Nat} (hi : i < l.length) : (turnV l n)[i]? = l[(i + (aroundV n l.length).toNat) % l.length]? := by
  have hal := aroundV_lt (n := n) (m := (l.length : Int)) (by omega)
  unfold turnV
  generalize hk : (aroundV n l.length).toNat = k
  have hkl : k < l.length := by omega
  rcases Nat.lt_or_ge i (l.length - k) with h | h
  · rw [List.getElem?_append_left (by simp; omega), List.getElem?_drop, Nat.mod_eq_of_lt (by omega), Nat.add_comm]
  · rw [List.getElem?_append_right (by simp; omega), List.length_drop, List.getElem?_take_of_lt (by omega), Nat.mod_eq_sub_mod (by omega), Nat.mod_eq_of_lt (by omega)]
    congr 1
    omega
theorem turned_length (l : List Int) (n : Int) : (turnV l n).length = l.length := by
  unfold turnV
  generalize (aroundV n l.length).toNat = k
  simp
  omega
theorem roundL_turned (M K : Nat) (n : Int) : ∃ c, Rounds M K c (turnV (roundL M K) n) := by
  refine ⟨(aroundV n (M * K : Nat)).toNat, (turned_length _ _).trans (roundL_length M K), fun i hi => ?_⟩
  have hl := roundL_length M K
  rw [turned_at _ _ (by omega), hl]
  generalize (aroundV n (M * K : Nat)).toNat = c
  have hlt : (i + c) % (M * K) < M * K := Nat.mod_lt _ (by omega)
  have := (roundL_rounds M K).at_ _ hlt
  rw [this, Nat.add_zero, Nat.mod_mul_right_mod]
/-- The row of Round, the first i told. -/
def rndR (M n i : Nat) : List Value := (List.range n).map fun (j : Nat) => .int .i64 (if j < i then ((j % M : Nat) : Int) else 0)
theorem rndR_set {M n i : Nat} : (rndR M n i).set i (.int .i64 ((i % M : Nat) : Int)) = rndR M n (i + 1) := by
  unfold rndR
  apply List.ext_getElem
  · simp
  · intro j h1 h2
    rw [List.getElem_set]
    simp only [List.getElem_map, List.getElem_range]
    by_cases e : i = j
    · subst e
      simp
    · rw [if_neg e]
      by_cases h : j < i
      · rw [if_pos h, if_pos (by omega)]
      · rw [if_neg h, if_neg (by omega)]
theorem rndR_init {M n : Nat} : (rndR M n 0).toArray = Array.replicate n (.int .i64 0) := by
  unfold rndR
  apply Array.ext
  · simp
  · intro i h1 h2
    simp
theorem rndR_end {M K : Nat} : rndR M (M * K) (M * K) = (roundL M K).map EnI := by
  unfold rndR roundL
  rw [List.map_map]
  refine List.map_congr_left fun j hj => ?_
  rw [if_pos (List.mem_range.1 hj)]
  rfl
end Plain
set_option maxHeartbeats 4000000 in
theorem round_any (w : World) (n k : Int) (K : Nat) (h1 : -9223372036854775808 ≤ n) (h2 : n ≤ 9223372036854775807) (hk : max k 0 = (K : Int)) (hK : K ≤ 20) :
    Calls Try.prog 21 #[.int .i64 n, .int .i64 k] w fun e w' => ∃ v, e = .returned v ∧ OwnI w' w.heap.size v (roundL (manyV n) K) ∧ Below w.heap.size w w' := by
  have hw := within_any n w h1 h2
  have hM1 := manyV_pos n
  have hM2 := manyV_le n
  generalize manyV n = M at *
  have hMK : M * K ≤ 64 * 20 := Nat.mul_le_mul hM2 hK
  have hmax := max2_int k 0
  rw [hk] at hmax
  have hmin := min2_int (K : Int) 1048576
  rw [show min (K : Int) 1048576 = (K : Int) by omega] at hmin
  have hmul : (M : Int) * (K : Int) = ((M * K : Nat) : Int) := by simp
  have hwm : IntKind.i64.wrap ((M : Int) * (K : Int)) = ((M * K : Nat) : Int) := by rw [hmul]; exact IntWalk.i64_in _ (by omega)
  have hend := rndR_end (M := M) (K := K)
  have hlen := roundL_length M K
  generalize M * K = n2 at *
  have hmin2 := min2_int 1048576 (n2 : Int)
  rw [show min (1048576 : Int) (n2 : Int) = (n2 : Int) by omega] at hmin2
  have hmk := fun W => made_ints n2 (by omega) W
  have HW := Lib.hid hw; have HEND := Lib.hid hend; have HLEN := Lib.hid hlen
  clear hw hmul hend hlen hk
  go_enter Try.func21, Try.ntmps21
  go_wp2_with fail
  refine HW.out.mono ?_
  rintro e w' ⟨rfl, hw'⟩
  subst hw'
  go_wp2_with fail
  have hb0 : Blk (w'.alloc (.cells (Array.replicate n2 (.int .i64 0)) 3)) w'.heap.size 3 (rndR M n2 0).toArray := by
    rw [rndR_init]
    exact Blk.new _ _ _
  have hbe0 : Below w'.heap.size w' (w'.alloc (.cells (Array.replicate n2 (.int .i64 0)) 3)) := (Below.refl _ _).alloc (Nat.le_refl _) _
  generalize (w'.alloc (.cells (Array.replicate n2 (.int .i64 0)) 3)) = W0 at hb0 hbe0 ⊢
  have HB0 := Lib.hid hb0; have HE0 := Lib.hid hbe0
  clear hb0 hbe0 hmk hmin hmin2 hmax hwm HW
  go_loopw [19] (fun s19 wr => ∃ i : Nat, i ≤ n2 ∧ s19 = .int .i64 (i : Int) ∧ Hid (Blk wr w'.heap.size 3 (rndR M n2 i).toArray) ∧ Hid (Below w'.heap.size w' wr)) (fun s19 _ => n2 - (intOf s19).toNat)
  case atStart => exact ⟨0, by omega, rfl, HB0, HE0⟩
  case round =>
    obtain ⟨i, hi, rfl, HB, HE⟩ := hrel
    by_cases hlt : i < n2
    · have c0 : ∃ u, wr.cell? ⟨w'.heap.size, i, none⟩ = some u := by
        rw [HB.out.cell]
        simp [rndR, hlt]
      obtain ⟨u, c0⟩ := c0
      have z0 : wr.frozen? ⟨w'.heap.size, i, none⟩ = false := HB.out.frozen i
      have ht : Int.tmod (i : Int) (M : Int) = ((i % M : Nat) : Int) := by
        rw [Int.tmod_eq_emod_of_nonneg (by omega)]
        simp
      have hb2 := HB.out.set_ i (.int .i64 ((i % M : Nat) : Int))
      rw [List.setIfInBounds_toArray, rndR_set] at hb2
      have hbe2 := HE.out.setCell (p := ⟨w'.heap.size, i, none⟩) (Nat.le_refl _) (.int .i64 ((i % M : Nat) : Int))
      have q0 : (0 : Int) ≤ (i : Int) := by omega
      have q1 : (i : Int) < (n2 : Int) := by omega
      have q2 : ¬ ((M : Int) = 0) := by omega
      have HB2 := Lib.hid hb2; have HE2 := Lib.hid hbe2
      clear hb2 hbe2
      generalize i % M = r at *
      go_wp2_with fail
      exact ⟨⟨i + 1, by omega, by go_num, HB2, HE2⟩, by simp [intOf]; omega⟩
    · obtain rfl : i = n2 := by omega
      go_wp2_with fail
      go_ret
      refine ⟨_, rfl, ?_, HE.out⟩
      unfold OwnI
      rw [HLEN.out]
      have hb := HB.out
      rw [HEND.out] at hb
      refine ⟨by simp [HLEN.out], .inr ⟨w'.heap.size, i, _, rfl, Nat.le_refl _, hb, Nat.le_refl _, by unfold maxLen; omega, by simp [HLEN.out], ?_⟩⟩
      rw [List.take_of_length_le (by simp [HLEN.out])]
end Go.Proofs.Ytgongcbbbhdjeaa
