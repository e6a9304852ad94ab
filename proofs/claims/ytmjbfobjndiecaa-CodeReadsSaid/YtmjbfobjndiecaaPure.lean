
/-
  Plain numbers and lists: a short number's bytes, a fixed number's bytes. Nothing of the landed code is spoken of here.
-/
import Derived.Below
namespace Go.Proofs.Ytmjbfobjndiecaa.Plain

/-- A short number: seven bits a byte, the lowest first. -/
def shortL (n : Nat) : List Nat := if n < 128 then [n] else (128 + n % 128) :: shortL (n / 128)
termination_by n
decreasing_by omega

theorem shortL_small {n : Nat} (h : n < 128) : shortL n = [n] := by rw [shortL, if_pos h]
theorem shortL_big {n : Nat} (h : 128 ≤ n) : shortL n = (128 + n % 128) :: shortL (n / 128) := by rw [shortL, if_neg (by omega)]

theorem shortL_pos (n : Nat) : 1 ≤ (shortL n).length := by
  by_cases h : n < 128
  · rw [shortL_small h]; simp
  · rw [shortL_big (by omega)]; simp

/-- How long a short number of at most k times seven bits is. -/
theorem shortL_len (k : Nat) : ∀ n, n < 128 ^ (k + 1) → (shortL n).length ≤ k + 1 := by
  induction k with
  | zero => intro n h; rw [shortL_small (by simpa using h)]; simp
  | succ k ih =>
    intro n h
    by_cases hn : n < 128
    · rw [shortL_small hn]; simp
    · rw [shortL_big (by omega)]
      have := ih (n / 128) (by rw [Nat.div_lt_iff_lt_mul (by omega)]; rw [Nat.pow_succ] at h; omega)
      simp; omega

theorem shortL_nine {n : Nat} (h : n ≤ 9223372036854775807) : (shortL n).length ≤ 9 := shortL_len 8 n (by
  have : (128 : Nat) ^ 9 = 9223372036854775808 := by decide
  omega)

theorem shortL_lt : ∀ n, ∀ x ∈ shortL n, x < 256 := by
  intro n
  induction n using Nat.strongRecOn with
  | ind n ih =>
    intro x hx
    by_cases h : n < 128
    · rw [shortL_small h] at hx; simp at hx; omega
    · rw [shortL_big (by omega)] at hx
      rcases List.mem_cons.1 hx with rfl | hx
      · omega
      · exact ih _ (by omega) x hx

/-- The lowest k bytes of a number, the lowest first. -/
def fixedL (v : Nat) : Nat → List Nat
  | 0 => []
  | k + 1 => v % 256 :: fixedL (v / 256) k

theorem fixedL_length (v k : Nat) : (fixedL v k).length = k := by
  induction k generalizing v with
  | zero => rfl
  | succ k ih => simp [fixedL, ih]

theorem fixedL_lt (k : Nat) : ∀ v, ∀ x ∈ fixedL v k, x < 256 := by
  induction k with
  | zero => intro v x hx; simp [fixedL] at hx
  | succ k ih =>
    intro v x hx
    rcases List.mem_cons.1 hx with rfl | hx
    · omega
    · exact ih _ x hx

theorem fixedL_snoc (k : Nat) : ∀ v, fixedL v (k + 1) = fixedL v k ++ [v / 256 ^ k % 256] := by
  induction k with
  | zero => intro v; simp [fixedL]
  | succ k ih =>
    intro v
    rw [fixedL, ih (v / 256)]
    simp only [fixedL, List.cons_append, List.cons.injEq, true_and]
    rw [Nat.div_div_eq_div_mul, show 256 * 256 ^ k = 256 ^ (k + 1) by rw [Nat.pow_succ, Nat.mul_comm]]

/-- How many binary digits a number has. -/
def digs (n : Nat) : Nat := if n = 0 then 0 else digs (n / 2) + 1
termination_by n
decreasing_by omega
theorem digs_zero : digs 0 = 0 := by rw [digs, if_pos rfl]
theorem digs_pos {n : Nat} (h : 0 < n) : digs n = digs (n / 2) + 1 := by rw [digs, if_neg (by omega)]
theorem digs_le (k : Nat) : ∀ n, n < 2 ^ k → digs n ≤ k := by
  induction k with
  | zero => intro n h; rw [show n = 0 by simpa using h, digs_zero]; omega
  | succ k ih =>
    intro n h
    by_cases h0 : n = 0
    · subst h0; rw [digs_zero]; omega
    · rw [digs_pos (by omega)]
      have := ih (n / 2) (by rw [Nat.pow_succ] at h; omega)
      omega
theorem digs_seven {n : Nat} (h : 128 ≤ n) : digs n = digs (n / 128) + 7 := by
  rw [digs_pos (n := n) (by omega), digs_pos (n := n / 2) (by omega), digs_pos (n := n / 2 / 2) (by omega), digs_pos (n := n / 2 / 2 / 2) (by omega), digs_pos (n := n / 2 / 2 / 2 / 2) (by omega),
    digs_pos (n := n / 2 / 2 / 2 / 2 / 2) (by omega), digs_pos (n := n / 2 / 2 / 2 / 2 / 2 / 2) (by omega)]
  rw [show n / 2 / 2 / 2 / 2 / 2 / 2 / 2 = n / 128 by omega]
/-- A short number has a byte for each seven binary digits. -/
theorem short_digs (n : Nat) : (n = 0 ∧ digs n = 0 ∧ (shortL n).length = 1) ∨ (1 ≤ digs n ∧ (shortL n).length = (digs n + 6) / 7) := by
  induction n using Nat.strongRecOn with
  | ind n ih =>
    by_cases h : n < 128
    · by_cases h0 : n = 0
      · subst h0; exact .inl ⟨rfl, digs_zero, by rw [shortL_small (by omega)]; rfl⟩
      · refine .inr ⟨by rw [digs_pos (by omega)]; omega, ?_⟩
        have h7 := digs_le 7 n (by simpa using h)
        have h1 : 1 ≤ digs n := by rw [digs_pos (by omega)]; omega
        rw [shortL_small h]; simp; omega
    · refine .inr ⟨by rw [digs_pos (by omega)]; omega, ?_⟩
      rw [digs_seven (by omega), shortL_big (by omega), List.length_cons]
      rcases ih (n / 128) (by omega) with ⟨h0, _⟩ | ⟨_, h2⟩
      · omega
      · omega

/-- A short number read: its value, how many bytes it takes, the error. -/
def rsGo (i v : Nat) : List Nat → Nat × Nat × Nat
  | [] => (0, 0, 2)
  | x :: r =>
    if x < 128 ∧ (0 < x ∨ i = 0) then (v + x % 128 * 128 ^ i, i + 1, 0)
    else if x = 0 ∨ i = 8 then (0, 0, 3)
    else rsGo (i + 1) (v + x % 128 * 128 ^ i) r
def rs (xs : List Nat) : Nat × Nat × Nat := rsGo 0 0 xs
theorem rsGo_step {xs : List Nat} {k x : Nat} (h : xs[k]? = some x) (v : Nat) : rsGo k v (xs.drop k) =
    if x < 128 ∧ (0 < x ∨ k = 0) then (v + x % 128 * 128 ^ k, k + 1, 0) else if x = 0 ∨ k = 8 then (0, 0, 3) else rsGo (k + 1) (v + x % 128 * 128 ^ k) (xs.drop (k + 1)) := by
  obtain ⟨hlt, rfl⟩ := List.getElem?_eq_some_iff.1 h
  rw [List.drop_eq_getElem_cons hlt, rsGo]
theorem rsGo_end {xs : List Nat} {k : Nat} (h : xs.length ≤ k) (v : Nat) : rsGo k v (xs.drop k) = (0, 0, 2) := by
  rw [List.drop_eq_nil_of_le h, rsGo]
end Go.Proofs.Ytmjbfobjndiecaa.Plain
