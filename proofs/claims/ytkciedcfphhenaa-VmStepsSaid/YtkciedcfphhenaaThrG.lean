
/-
  Whether a thread may be: of the program; a thread that may.
-/
import Derived.Test.YtkciedcfphhenaaThrF
set_option linter.unusedVariables false
set_option linter.unusedSimpArgs false
namespace Go.Proofs.Ytkciedcfphhenaa
open Go.RowKit Plain

def framesB (p : PV) (l : List FrV) : Bool := decide (l.length ≤ 8) && l.all (frB p)
structure FrsRel (w wr : World) (h : PH) (p : PV) : Prop where
  pb : Blk wr w.heap.size 26 (PC h p)
  bel : Below w.heap.size w wr

end Go.Proofs.Ytkciedcfphhenaa
