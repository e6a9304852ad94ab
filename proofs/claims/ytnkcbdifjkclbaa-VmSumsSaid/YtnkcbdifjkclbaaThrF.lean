
/-
  Whether a thread may be: of the program.
-/
import Derived.Test.YtnkcbdifjkclbaaThrE
set_option linter.unusedVariables false
set_option linter.unusedSimpArgs false
namespace Go.Proofs.Ytnkcbdifjkclbaa
open Go.RowKit Plain

end Go.Proofs.Ytnkcbdifjkclbaa
