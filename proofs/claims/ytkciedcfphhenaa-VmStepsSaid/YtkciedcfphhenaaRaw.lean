
/-
  A Writer in memory, and what Raw does to it: the bytes come behind all that are there.
-/
import Derived.Test.YtkciedcfphhenaaBytes
import Derived.Test.YtkciedcfphhenaaPure
import Derived.WalkKit
import Derived.WalkSpells
import Derived.Outline
import Derived.Lib.Hide
namespace Go.Proofs.Ytkciedcfphhenaa
open Go.RowKit

/-- The blocks that are a Writer's own. -/
def OwnW (g : Nat) (v : Value) (i : Nat) : Prop := i = g ∨ v.ownBlock = some i
section
variable {w w' w'' : World} {base g : Nat} {v : Value} {bs cs : List Nat}
end

end Go.Proofs.Ytkciedcfphhenaa
