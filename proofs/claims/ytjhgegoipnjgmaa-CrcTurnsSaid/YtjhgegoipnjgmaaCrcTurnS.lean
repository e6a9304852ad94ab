/-
  A seal of which some bits are turned is none.
-/
import Derived.Test.YtjhgegoipnjgmaaCrcAll
import Derived.Test.YtjhgegoipnjgmaaCrcTurnP
namespace Go.Proofs.Ytjhgegoipnjgmaa
open Plain
set_option linter.unusedVariables false

theorem Plain.Oth.take {b : List Nat} {p : Nat} {D : List Nat} {k : Nat} {o : List Nat} (h : Oth b p D k o) (n : Nat) : Oth (b.take n) p D k (o.take n) := by
  refine ⟨by simp [h.1], fun j => ?_⟩
  by_cases hj : j < n
  · rw [List.getElem?_take_of_lt hj, List.getElem?_take_of_lt hj, h.2 j]
  · have h1 : (o.take n)[j]? = none := List.getElem?_eq_none (by rw [List.length_take]; omega)
    have h2 : (b.take n)[j]? = none := List.getElem?_eq_none (by rw [List.length_take]; omega)
    rw [h1, h2]
    split <;> rfl
theorem seal_drop (xs : List Nat) {n : Nat} (h : xs.length = n) : (sealL xs).drop n = fixedL (crcL xs) 4 := by
  subst h; rw [sealL, List.drop_left]
theorem seal_turned {xs : List Nat} {n p k : Nat} {D o : List Nat} (hl : xs.length = n) (hx : ∀ x ∈ xs, x < 256) (hD : ∀ j, D.getD j 0 < 256) (h : Oth (sealL xs) p D k o) (h4 : k ≤ 4)
    (hin : p + k ≤ n ∨ (n ≤ p ∧ p + k ≤ n + 4)) (ht : anyD D k = true) : whyI o = 4 := by
  have hol : o.length = n + 4 := by rw [h.1, sealL_length, hl]
  rw [whyI_long hol, whyAt, if_neg]
  intro e
  rcases hin with hin | ⟨hin, hin2⟩
  · have h1 := h.take n
    rw [sealL_take hl] at h1
    have hne := h1.crc hx hD (by omega) h4 ht
    apply hne
    have e1 : o.drop n = (sealL (o.take n)).drop n := by rw [← e]
    have hb := h.behind
    have e2 : o.drop n = (sealL xs).drop n := by
      have := congrArg (List.drop (n - (p + k))) hb
      rwa [List.drop_drop, List.drop_drop, show p + k + (n - (p + k)) = n by omega] at this
    rw [e2, seal_drop xs hl, seal_drop _ (show (o.take n).length = n by rw [List.length_take, hol]; omega)] at e1
    have e3 := congrArg leV e1
    rw [leV_fixedL, leV_fixedL, Nat.mod_eq_of_lt (crcL_lt _), Nat.mod_eq_of_lt (crcL_lt _)] at e3
    exact e3.symm
  · have ha := h.ahead
    have e1 : o.take n = xs := by
      have := congrArg (List.take n) ha
      rwa [List.take_take, List.take_take, Nat.min_eq_left hin, sealL_take hl] at this
    rw [e1] at e
    exact h.mid_ne (by rw [sealL_length, hl]; omega) ht (by rw [e])
end Go.Proofs.Ytjhgegoipnjgmaa
