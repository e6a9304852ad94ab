
/-
  The helpers of layer 1's statements: which width is meant, whether bytes are the same, the document's example, the first so many.
-/
import Derived.Test.YtmjbfobjndiecaaWriter
import Derived.Test.YtmjbfobjndiecaaSame
import Derived.Deep.QuietTactic
import Derived.BigQuiet
namespace Go.Proofs.Ytmjbfobjndiecaa
open Go.RowKit Plain

def wideAt (m : Int) : Nat := if m = 0 then 1 else if m = 1 then 2 else if m = 2 then 4 else 8
def wideOf (a : Int) : Nat := wideAt ((if a < 0 then -(a + 1) else a) % 4)
theorem wideOf_wide (a : Int) : Wide (wideOf a) := by
  unfold wideOf wideAt Wide
  repeat' split
  all_goals simp

theorem live_bytes1 : [] ++ shortL (Int.toNat 300) = [172, 2] := by rw [show Int.toNat 300 = 300 from rfl, shortL_big (by omega), shortL_small (by omega)]; rfl
theorem live_bytes2 : [172, 2] ++ shortL (zig (min (max (-1) (-2305843009213693952)) 2305843009213693951)) = [172, 2, 1] := by
  rw [show zig (min (max (-1) (-2305843009213693952)) 2305843009213693951) = 1 by decide, shortL_small (by omega)]; rfl

end Go.Proofs.Ytmjbfobjndiecaa
