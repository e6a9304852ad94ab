
/-
  The program's rule of choices.
-/
import Derived.Test.YtkciedcfphhenaaMayA
set_option linter.unusedVariables false
set_option linter.unusedSimpArgs false
namespace Go.Proofs.Ytkciedcfphhenaa
open Go.RowKit Plain

/-- No list of a program is longer than memory may hold. -/
structure Lens (p : PV) : Prop where
  funcs : p.funcs.length ≤ 9223372036854775807
  code : ∀ f ∈ p.funcs, f.code.length ≤ 9223372036854775807
  conds : p.conds.length ≤ 9223372036854775807
  semas : p.semas.length ≤ 9223372036854775807
  chans : p.chans.length ≤ 9223372036854775807
  choices : p.choices.length ≤ 9223372036854775807
  each : ∀ l ∈ p.choices, l.length ≤ 9223372036854775807

theorem RI.take {w : World} {B n c k : Nat} {A : Option Addr} {l : List Int} (h : RI w B A n c l) (hk : k ≤ n) : RI w B A k c (l.take k) := by
  obtain ⟨h1, h2, h3⟩ := h
  refine ⟨by simp; omega, by omega, by rw [IS_length]; simp; omega, fun h0 => ?_⟩
  obtain ⟨ad, e, hb, hc⟩ := h3.2 (by omega)
  refine ⟨ad, e, hb, fun j u hj => hc j u ?_⟩
  have hjk : j < k := by
    have := (List.getElem?_eq_some_iff.1 hj).1
    rw [IS_length] at this
    simp at this
    omega
  rw [← hj]
  simp [IS, hjk]

/-- A choice, as the program asks. -/
def choiceC (n : Int) (l : List Int) : Bool := !l.isEmpty && listB l n && nodupB l
def choicesB (p : PV) : Bool := decide (p.choices.length ≤ 8) && p.choices.all (choiceC p.chans.length)

theorem nodup_snoc (l : List Int) (x : Int) : nodupB (l ++ [x]) = (nodupB l && !l.contains x) := by
  induction l with
  | nil => rfl
  | cons y r ih =>
    simp only [List.cons_append, nodupB, ih, List.contains_eq_mem, List.mem_append, List.mem_singleton, List.mem_cons]
    by_cases h1 : y ∈ r <;> by_cases h3 : x ∈ r <;> by_cases h2 : y = x
    all_goals first
      | (subst h2; simp [h1, h3])
      | simp [h1, h3, h2, Ne.symm h2]
theorem nodup_take {l : List Int} {k : Nat} {x : Int} (hx : l[k]? = some x) : nodupB (l.take (k + 1)) = (nodupB (l.take k) && !(l.take k).contains x) := by
  rw [List.take_add_one, hx]
  exact nodup_snoc _ _
theorem nodup_false {l : List Int} {k : Nat} (h : nodupB (l.take k) = false) : nodupB l = false := by
  have : ∀ (a b : List Int), nodupB a = false → nodupB (a ++ b) = false := by
    intro a b
    induction b generalizing a with
    | nil => intro h; simpa using h
    | cons y r ih =>
      intro h
      have := ih (a ++ [y]) (by rw [nodup_snoc, h]; rfl)
      simpa using this
  rw [← List.take_append_drop k l]
  exact this _ _ h
theorem all_take' {α : Type} {l : List α} {P : α → Bool} {k : Nat} {x : α} (hx : l[k]? = some x) : (l.take (k + 1)).all P = ((l.take k).all P && P x) := by
  rw [List.take_add_one, hx]; simp

end Go.Proofs.Ytkciedcfphhenaa
