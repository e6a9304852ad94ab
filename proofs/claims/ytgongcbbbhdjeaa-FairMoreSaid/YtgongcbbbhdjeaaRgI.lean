
/-
  What a ring of ints does: slot, Len, Room, At, Peek, Push, Pop, fill, New.
-/
import Derived.Test.YtgongcbbbhdjeaaRgM
import Derived.Test.YtgongcbbbhdjeaaChecked
import Derived.WalkKit
import Derived.WalkSpells
import Derived.Outline
import Derived.IntWalk
import Derived.Deep.QuietTactic
import Derived.BigQuiet
import Derived.Deep.RegionHeld3
import Derived.Deep.DeepCutAuto
import Derived.Deep.CutBlock
set_option linter.unusedVariables false
set_option linter.unusedSimpArgs false
namespace Go.Proofs.Ytgongcbbbhdjeaa
open Go.RowKit Plain

abbrev EnI (x : Int) : Value := .int .i64 x
theorem ret_numI {a b : Int} (h : a = b) : Ending.returned (.int .i64 a) = .returned (.int .i64 b) := by rw [h]

section
variable (g s room first : Nat) (l : List Int) (w : World)
end

theorem info_int : (Try.prog.info? 3).map (fun i => (i.zero, i.size, i.bytes)) = some (some (.int .i64 0), 1, 8) := by kernel_rfl
theorem size_int : (Try.prog.info? 3).map (·.size) = some 1 := by kernel_rfl
end Go.Proofs.Ytgongcbbbhdjeaa
