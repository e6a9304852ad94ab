
/-
  What a Reader's Raw tells: bytes in memory of their own.
-/
import Derived.Test.YtoahomhnjmdbkaaLaw
namespace Go.Proofs.Ytoahomhnjmdbkaa
open Go.RowKit Plain

end Go.Proofs.Ytoahomhnjmdbkaa
