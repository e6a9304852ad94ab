
/-
  Whether a thread may be: of the program.
-/
import Derived.Test.YtkciedcfphhenaaThrE
set_option linter.unusedVariables false
set_option linter.unusedSimpArgs false
namespace Go.Proofs.Ytkciedcfphhenaa
open Go.RowKit Plain

end Go.Proofs.Ytkciedcfphhenaa
