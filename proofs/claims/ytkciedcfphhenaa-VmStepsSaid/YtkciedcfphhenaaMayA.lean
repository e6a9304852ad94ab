
/-
  The program's own small functions of 'may': within, below, isOp, a list's rule, what is found in a list.
-/
import Derived.Test.YtkciedcfphhenaaGoodM
import Derived.Test.YtkciedcfphhenaaPrA
import Derived.Test.YtkciedcfphhenaaRaw
set_option linter.unusedVariables false
set_option linter.unusedSimpArgs false
namespace Go.Proofs.Ytkciedcfphhenaa
open Go.RowKit Plain

def withinB (n a b : Int) : Bool := decide (a ≤ n) && decide (n ≤ b)
def belowB (m n : Int) : Bool := decide (0 ≤ n) && decide (n < m)

def listB (l : List Int) (m : Int) : Bool := decide (l.length ≤ 8) && l.all (belowB m)
theorem all_take {l : List Int} {P : Int → Bool} {k : Nat} {x : Int} (hx : l[k]? = some x) : (l.take (k + 1)).all P = ((l.take k).all P && P x) := by
  rw [List.take_add_one, hx]; simp

/-- A number that is below 0 just where x is none of them. -/
def Idx (l : List Int) (x : Int) (e : Ending) : Prop := ∃ z, e = .returned (.int .i64 z) ∧ (decide (0 ≤ z)) = l.contains x
end Go.Proofs.Ytkciedcfphhenaa
