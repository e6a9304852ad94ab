
/-
  Names are distinct: Op of a name; the law's walk.
-/
import Derived.Test.YtcnfmngcfnpkkaaDoorNmC
import Derived.Test.YtcnfmngcfnpkkaaDoorCLives
set_option linter.unusedVariables false
set_option linter.unusedSimpArgs false
namespace Go.Proofs.YtcnfmngcfnpkkaaDoor
open Go.RowKit Plain

theorem nmB_one : ∀ i, i < 27 → ∀ j, j < 27 → nmB[i]? = nmB[j]? → i = j := by decide
theorem opB_of {s : List UInt8} {j : Nat} (h : nmB[j]? = some s) : opB s = ((j : Int), true) := by
  have hj := (List.getElem?_eq_some_iff.1 h).1
  rw [nmB_len] at hj
  exact opB_hit h (fun i hi he => by have := nmB_one i (by omega) j hj (he.trans h.symm); omega)
theorem opB_name {m : Int} (h0 : 0 ≤ m) (h1 : m ≤ 26) : opB (nameB m) = (m, true) := by
  obtain ⟨k, rfl, hk, hat⟩ := nmB_at m h0 h1
  exact opB_of hat
/-- Where the law's loop over the names stands. -/
def LpI (s : List UInt8) (k : Nat) (want : Int) (has : Bool) : Prop := (∃ j : Nat, j < k ∧ nmB[j]? = some s ∧ want = (j : Int) ∧ has = true) ∨ ((∀ j : Nat, j < k → nmB[j]? ≠ some s) ∧ want = 0 ∧ has = false)
theorem LpI.hit {s : List UInt8} {k : Nat} (h : nmB[k]? = some s) : LpI s (k + 1) (k : Int) true := .inl ⟨k, by omega, h, rfl, rfl⟩
theorem LpI.miss {s : List UInt8} {k : Nat} {want : Int} {has : Bool} (h : LpI s k want has) (hn : nmB[k]? ≠ some s) : LpI s (k + 1) want has := by
  rcases h with ⟨j, h1, h2, h3, h4⟩ | ⟨h1, h2, h3⟩
  · exact .inl ⟨j, by omega, h2, h3, h4⟩
  · refine .inr ⟨fun j hj => ?_, h2, h3⟩
    by_cases hjk : j = k
    · subst hjk; exact hn
    · exact h1 j (by omega)
theorem LpI.end_ {s : List UInt8} {want : Int} {has : Bool} (h : LpI s 27 want has) : opB s = (want, has) := by
  rcases h with ⟨j, h1, h2, rfl, rfl⟩ | ⟨h1, rfl, rfl⟩
  · exact opB_of h2
  · exact opB_miss h1
end Go.Proofs.YtcnfmngcfnpkkaaDoor
