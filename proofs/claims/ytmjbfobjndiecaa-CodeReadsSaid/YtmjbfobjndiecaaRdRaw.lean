
/-
  What a Reader's Raw tells: bytes in memory of their own.
-/
import Derived.Test.YtmjbfobjndiecaaLaw
namespace Go.Proofs.Ytmjbfobjndiecaa
open Go.RowKit Plain

end Go.Proofs.Ytmjbfobjndiecaa
