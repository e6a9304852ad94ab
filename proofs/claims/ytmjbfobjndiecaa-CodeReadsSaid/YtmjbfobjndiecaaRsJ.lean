
/-
  A short number read by another way: the bytes up to the first one below 128, reckoned, and written again. Nothing of the landed code is spoken of here.
-/
import Derived.Test.YtmjbfobjndiecaaPureRs
namespace Go.Proofs.Ytmjbfobjndiecaa.Plain
set_option linter.unusedVariables false

/-- The number that bytes' seven bits are, the lowest first. -/
def sv : List Nat → Nat
  | [] => 0
  | x :: r => x % 128 + 128 * sv r
theorem sv_snoc (l : List Nat) (x : Nat) : sv (l ++ [x]) = sv l + x % 128 * 128 ^ l.length := by
  induction l with
  | nil => simp [sv]
  | cons y r ih =>
    simp only [List.cons_append, sv, ih, List.length_cons, Nat.pow_succ]
    rw [Nat.mul_add, Nat.add_assoc, Nat.mul_comm 128 (x % 128 * _), Nat.mul_assoc]
theorem sv_lt (l : List Nat) : sv l < 128 ^ l.length := by
  induction l with
  | nil => simp [sv]
  | cons y r ih =>
    simp only [sv, List.length_cons, Nat.pow_succ]
    omega
/-- The first j bytes are 128 at least. -/
def High (xs : List Nat) (j : Nat) : Prop := ∀ i x, i < j → xs[i]? = some x → 128 ≤ x
theorem High.zero (xs : List Nat) : High xs 0 := fun i x h => by omega
theorem High.succ {xs : List Nat} {j x : Nat} (h : High xs j) (hx : xs[j]? = some x) (h1 : 128 ≤ x) : High xs (j + 1) := fun i y hi hy => by
  by_cases e : i = j
  · subst e; rw [hx] at hy; injection hy with hy; omega
  · exact h i y (by omega) hy
theorem rs_run (xs : List Nat) : ∀ j, j ≤ 8 → j ≤ xs.length → High xs j → rs xs = rsGo j (sv (xs.take j)) (xs.drop j)
  | 0, _, _, _ => rfl
  | j + 1, h8, hl, hh => by
    have hx : xs[j]? = some xs[j] := List.getElem?_eq_getElem (by omega)
    rw [rs_run xs j (by omega) (by omega) (fun i x hi hx => hh i x (by omega) hx), rsGo_step hx, if_neg (by have := hh j _ (by omega) hx; omega), if_neg (by have := hh j _ (by omega) hx; omega),
      List.take_succ_eq_append_getElem (by omega), sv_snoc, List.length_take_of_le (by omega)]
theorem rs_nine {xs : List Nat} (hl : 9 ≤ xs.length) (h : High xs 9) : rs xs = (0, 0, 3) := by
  have hx : xs[8]? = some xs[8] := List.getElem?_eq_getElem (by omega)
  rw [rs_run xs 8 (by omega) (by omega) (fun i x hi hx => h i x (by omega) hx), rsGo_step hx, if_neg (by have := h 8 _ (by omega) hx; omega), if_pos (by omega)]
theorem rs_less {xs : List Nat} {j : Nat} (hl : xs.length = j) (h8 : j ≤ 8) (h : High xs j) : rs xs = (0, 0, 2) := by
  rw [rs_run xs j h8 (by omega) h, rsGo_end (by omega)]
theorem rs_zero {xs : List Nat} {j : Nat} (h8 : j ≤ 8) (h : High xs j) (hx : xs[j]? = some 0) (h0 : j ≠ 0) : rs xs = (0, 0, 3) := by
  have hl := (List.getElem?_eq_some_iff.1 hx).1
  rw [rs_run xs j h8 (by omega) h, rsGo_step hx, if_neg (by omega), if_pos (by omega)]
theorem sv_take {xs : List Nat} {j x : Nat} (hx : xs[j]? = some x) : sv (xs.take (j + 1)) = sv (xs.take j) + x % 128 * 128 ^ j := by
  obtain ⟨hl, rfl⟩ := List.getElem?_eq_some_iff.1 hx
  rw [List.take_succ_eq_append_getElem hl, sv_snoc, List.length_take_of_le (by omega)]
theorem rs_here {xs : List Nat} {j x : Nat} (h8 : j ≤ 8) (h : High xs j) (hx : xs[j]? = some x) (hx1 : x < 128) (h0 : 0 < x ∨ j = 0) : rs xs = (sv (xs.take (j + 1)), j + 1, 0) := by
  have hl := (List.getElem?_eq_some_iff.1 hx).1
  rw [rs_run xs j h8 (by omega) h, rsGo_step hx, if_pos ⟨hx1, h0⟩, sv_take hx]
theorem len_here {xs : List Nat} {j x : Nat} (h8 : j ≤ 8) (hx : xs[j]? = some x) (hx1 : x < 128) (h0 : 0 < x ∨ j = 0) : (shortL (sv (xs.take (j + 1)))).length = j + 1 := by
  have hl := (List.getElem?_eq_some_iff.1 hx).1
  have h1 := sv_lt (xs.take (j + 1))
  rw [List.length_take_of_le (by omega)] at h1
  have h2 := shortL_len j _ h1
  have h3 := short_lt (sv (xs.take (j + 1)))
  have h4 := shortL_pos (sv (xs.take (j + 1)))
  rcases h0 with h0 | h0
  · rcases Nat.lt_or_ge j (shortL (sv (xs.take (j + 1)))).length with h | h
    · omega
    · exfalso
      have h5 : (128 : Nat) ^ (shortL (sv (xs.take (j + 1)))).length ≤ 128 ^ j := Nat.pow_le_pow_right (by omega) h
      rw [sv_take hx] at h3 h5
      have h6 : 1 * 128 ^ j ≤ x % 128 * 128 ^ j := Nat.mul_le_mul_right _ (by omega)
      omega
  · subst h0; omega
theorem len_zero {xs : List Nat} {j : Nat} (hx : xs[j]? = some 0) (h0 : j ≠ 0) : (shortL (sv (xs.take (j + 1)))).length ≠ j + 1 := by
  have hl := (List.getElem?_eq_some_iff.1 hx).1
  obtain ⟨i, rfl⟩ : ∃ i, j = i + 1 := ⟨j - 1, by omega⟩
  have h1 := sv_lt (xs.take (i + 1))
  rw [List.length_take_of_le (by omega)] at h1
  have h2 := shortL_len i _ h1
  have h3 : sv (xs.take (i + 1 + 1)) = sv (xs.take (i + 1)) := by rw [sv_take hx]; simp
  rw [h3]
  omega
theorem sv_int {xs : List Nat} {j : Nat} (h8 : j ≤ 8) (hl : j < xs.length) : sv (xs.take (j + 1)) ≤ 9223372036854775807 := by
  have h1 := sv_lt (xs.take (j + 1))
  rw [List.length_take_of_le (by omega)] at h1
  have h2 : (128 : Nat) ^ (j + 1) ≤ 128 ^ 9 := Nat.pow_le_pow_right (by omega) (by omega)
  have e : (128 : Nat) ^ 9 = 9223372036854775808 := by decide
  omega
theorem sv_drop {l : List Nat} {i x : Nat} (hx : l[i]? = some x) : sv (l.drop i) = x % 128 + 128 * sv (l.drop (i + 1)) := by
  obtain ⟨hl, rfl⟩ := List.getElem?_eq_some_iff.1 hx
  rw [List.drop_eq_getElem_cons hl, sv]
theorem sv_drop_le {l : List Nat} {i : Nat} (hl : l.length ≤ 9) : sv (l.drop (i + 1)) < 72057594037927936 := by
  have h1 := sv_lt (l.drop (i + 1))
  rw [List.length_drop] at h1
  have h2 : (128 : Nat) ^ (l.length - (i + 1)) ≤ 128 ^ 8 := Nat.pow_le_pow_right (by omega) (by omega)
  have e : (128 : Nat) ^ 8 = 72057594037927936 := by decide
  omega
end Go.Proofs.Ytmjbfobjndiecaa.Plain
