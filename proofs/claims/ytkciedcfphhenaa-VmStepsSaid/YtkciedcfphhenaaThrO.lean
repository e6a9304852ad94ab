
/-
  May of the program, for any thread.
-/
import Derived.Test.YtkciedcfphhenaaThrG
import Derived.Test.YtkciedcfphhenaaSDeep
set_option linter.unusedVariables false
set_option linter.unusedSimpArgs false
namespace Go.Proofs.Ytkciedcfphhenaa
open Go.RowKit Plain

theorem framesB_iff (p : PV) (l : List FrV) : framesB p l = true ↔ l.length ≤ 8 ∧ l.all (frB p) = true := by unfold framesB; simp
theorem mayT_dead (p : PV) (t : TV) (h : t.state = 9) : mayT p t = true ↔ t.frames.length = 0 ∧ t.stack.length = 0 ∧ isKept t.on = true ∧ (0 ≤ t.code ∧ t.code ≤ 6) := by
  unfold mayT
  rw [if_pos h, h]
  constructor
  · intro hh
    simp only [Bool.and_eq_true, decide_eq_true_eq, List.isEmpty_iff] at hh
    obtain ⟨⟨⟨⟨⟨⟨⟨⟨⟨_, _⟩, c0⟩, c1⟩, _⟩, _⟩, _⟩, k⟩, _⟩, f, s⟩ := hh
    exact ⟨by rw [f]; rfl, by rw [s]; rfl, k, c0, c1⟩
  · rintro ⟨f, s, k, c0, c1⟩
    have f' := List.eq_nil_of_length_eq_zero f
    have s' := List.eq_nil_of_length_eq_zero s
    rw [f', s', k, decide_eq_true c0, decide_eq_true c1]
    rfl
theorem mayT_live (p : PV) (t : TV) (h : t.state ≠ 9) : mayT p t = true ↔ (0 ≤ t.state ∧ t.state ≤ 9) ∧ 0 < t.frames.length ∧ framesB p t.frames = true ∧ t.stack.length ≤ 16 ∧ keptB t.stack = true ∧ isKept t.on = true ∧ t.code = 0 := by
  rw [mayT_iff p t h, framesB_iff]
  constructor
  · rintro ⟨m1, m2, m3, m4, m5, m6, m7, m8, m9, m10, m11⟩
    exact ⟨⟨m1, m2⟩, List.length_pos_iff.2 (List.isEmpty_eq_false_iff.1 m10), ⟨m5, m9⟩, m6, m7, m8, m11⟩
  · rintro ⟨⟨m1, m2⟩, m10, ⟨m5, m9⟩, m6, m7, m8, m11⟩
    exact ⟨m1, m2, by omega, by omega, m5, m6, m7, m8, m9, List.isEmpty_eq_false_iff.2 (List.length_pos_iff.1 m10), m11⟩
theorem mayT_no {p : PV} {t : TV} (h : ¬ mayT p t = true) : mayT p t = false := by simpa using h

end Go.Proofs.Ytkciedcfphhenaa
