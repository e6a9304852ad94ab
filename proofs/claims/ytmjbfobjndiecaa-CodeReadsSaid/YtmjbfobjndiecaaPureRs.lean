
/-
  Plain facts on a short number that is read. Nothing of the landed code is spoken of here.
-/
import Derived.Test.YtmjbfobjndiecaaPure
namespace Go.Proofs.Ytmjbfobjndiecaa.Plain

theorem short_lt : ∀ n, n < 128 ^ (shortL n).length := by
  intro n
  induction n using Nat.strongRecOn with
  | ind n ih =>
    by_cases h : n < 128
    · rw [shortL_small h]; simpa using h
    · rw [shortL_big (by omega), List.length_cons, Nat.pow_succ]
      have := ih (n / 128) (by omega)
      omega

theorem rsGo_ok (l : List Nat) : ∀ (i v V K : Nat), rsGo i v l = (V, K, 0) → (∀ x ∈ l, x < 256) → i ≤ 8 →
    ∃ m u, K = i + m ∧ 1 ≤ m ∧ m ≤ l.length ∧ V = v + u * 128 ^ i ∧ shortL u = l.take m ∧ (i ≠ 0 → 0 < u) ∧ i + m ≤ 9 := by
  induction l with
  | nil => intro i v V K h; simp [rsGo] at h
  | cons x r ih =>
    intro i v V K h hx hi
    rw [rsGo] at h
    by_cases h1 : x < 128 ∧ (0 < x ∨ i = 0)
    · rw [if_pos h1] at h
      simp only [Prod.mk.injEq, and_true] at h
      obtain ⟨rfl, rfl⟩ := h
      refine ⟨1, x, rfl, by omega, by simp, ?_, ?_, by omega, by omega⟩
      · rw [Nat.mod_eq_of_lt h1.1]
      · rw [shortL_small h1.1]; simp
    · rw [if_neg h1] at h
      by_cases h2 : x = 0 ∨ i = 8
      · rw [if_pos h2] at h; simp at h
      · rw [if_neg h2] at h
        have hx0 : x < 256 := hx x (by simp)
        have hx1 : 128 ≤ x := by omega
        obtain ⟨m, u, rfl, hm1, hm2, rfl, hs, hu, hm9⟩ := ih (i + 1) _ V K h (fun y hy => hx y (by simp [hy])) (by omega)
        have hu' := hu (by omega)
        refine ⟨m + 1, x % 128 + 128 * u, by omega, by omega, by simp; omega, ?_, ?_, by omega, by omega⟩
        · rw [Nat.pow_succ, Nat.add_mul, Nat.add_assoc, Nat.mul_comm 128 u, Nat.mul_assoc, Nat.mul_comm 128]
        · rw [shortL_big (by omega), show (x % 128 + 128 * u) / 128 = u by omega, hs, show 128 + (x % 128 + 128 * u) % 128 = x by omega]
          simp

theorem rs_ok {xs : List Nat} (hx : ∀ x ∈ xs, x < 256) (h : (rs xs).2.2 = 0) : 1 ≤ (rs xs).2.1 ∧ (rs xs).2.1 ≤ xs.length ∧ shortL (rs xs).1 = xs.take (rs xs).2.1 ∧ (rs xs).1 ≤ 9223372036854775807 := by
  obtain ⟨m, u, h1, h2, h3, h4, h5, _, h7⟩ := rsGo_ok xs 0 0 (rs xs).1 (rs xs).2.1 (by show rs xs = _; exact Prod.ext rfl (Prod.ext rfl h)) hx (by omega)
  rw [Nat.zero_add] at h1 h4
  rw [Nat.pow_zero, Nat.mul_one] at h4
  rw [h1, h4]
  refine ⟨h2, h3, h5, ?_⟩
  have h8 := short_lt u
  have h9 : (shortL u).length ≤ 9 := by rw [h5]; simp; omega
  have h10 : 128 ^ (shortL u).length ≤ 128 ^ 9 := Nat.pow_le_pow_right (by omega) h9
  have e : (128 : Nat) ^ 9 = 9223372036854775808 := by decide
  omega

theorem rsGo_err (l : List Nat) : ∀ (i v : Nat), (rsGo i v l).2.2 ≠ 0 → (rsGo i v l).1 = 0 ∧ (rsGo i v l).2.1 = 0 ∧ ((rsGo i v l).2.2 = 2 ∨ (rsGo i v l).2.2 = 3) := by
  induction l with
  | nil => intro i v _; simp [rsGo]
  | cons x r ih =>
    intro i v h
    rw [rsGo] at h ⊢
    split at h
    · simp at h
    · rename_i h1
      rw [if_neg h1]
      split at h
      · rename_i h2; rw [if_pos h2]; simp
      · rename_i h2; rw [if_neg h2]; exact ih _ _ h
theorem rs_err {xs : List Nat} (h : (rs xs).2.2 ≠ 0) : (rs xs).1 = 0 ∧ (rs xs).2.1 = 0 ∧ ((rs xs).2.2 = 2 ∨ (rs xs).2.2 = 3) := rsGo_err xs 0 0 h

theorem rs_le {xs : List Nat} (hx : ∀ x ∈ xs, x < 256) : (rs xs).2.1 ≤ xs.length := by
  by_cases h : (rs xs).2.2 = 0
  · exact (rs_ok hx h).2.1
  · rw [(rs_err h).2.1]; omega
theorem rs_int {xs : List Nat} (hx : ∀ x ∈ xs, x < 256) : (rs xs).1 ≤ 9223372036854775807 := by
  by_cases h : (rs xs).2.2 = 0
  · exact (rs_ok hx h).2.2.2
  · rw [(rs_err h).1]; omega

/-- The number that bytes are, the lowest first. -/
def leV : List Nat → Nat
  | [] => 0
  | x :: r => x + 256 * leV r
theorem leV_snoc (l : List Nat) (x : Nat) : leV (l ++ [x]) = leV l + x * 256 ^ l.length := by
  induction l with
  | nil => simp [leV]
  | cons y r ih =>
    simp only [List.cons_append, leV, ih, List.length_cons, Nat.pow_succ]
    rw [Nat.mul_add, Nat.add_assoc, Nat.mul_comm 256 (x * _), Nat.mul_assoc]
theorem leV_lt (l : List Nat) (h : ∀ x ∈ l, x < 256) : leV l < 256 ^ l.length := by
  induction l with
  | nil => simp [leV]
  | cons y r ih =>
    have h1 := h y (by simp)
    have h2 := ih (fun x hx => h x (by simp [hx]))
    simp only [leV, List.length_cons, Nat.pow_succ]
    omega
theorem leV_fixedL (k : Nat) : ∀ v, leV (fixedL v k) = v % 256 ^ k := by
  induction k with
  | zero => intro v; simp [fixedL, leV, Nat.mod_one]
  | succ k ih =>
    intro v
    rw [fixedL, leV, ih, Nat.pow_succ, Nat.mul_comm (256 ^ k) 256, Nat.mod_mul]
end Go.Proofs.Ytmjbfobjndiecaa.Plain
