
/-
  The document's example of layer 4.
-/
import Derived.Test.YtkciedcfphhenaaThrG
set_option linter.unusedVariables false
set_option linter.unusedSimpArgs false
namespace Go.Proofs.Ytkciedcfphhenaa
open Go.RowKit Plain

def oneP : PV := ⟨[⟨1, []⟩], 0, [], [], [], [], 1⟩
def oneH (g : Nat) : PH := ⟨some ⟨g, 0, none⟩, 1, none, 0, none, 0, none, 0, none, 0⟩
def oneT : TV := pushT (newT oneP 0) 2147483648
theorem one_may : mayT oneP oneT = true := by decide
theorem one_lens : Lens oneP := ⟨by decide, by decide, by decide, by decide, by decide, by decide, by decide⟩
theorem one_few : FewLoc oneP := by unfold FewLoc; decide
theorem one_lensT : LensT oneT := ⟨by decide, by decide, by decide⟩
theorem one_lensN : LensT (newT oneP 0) := ⟨by decide, by decide, by decide⟩
theorem one_rp (w : World) : RP (w.alloc (.cells #[.int .i64 1, .slice none 0 0] 60)) (w.heap.size + 1) (oneH w.heap.size) oneP := by
  refine ⟨⟨[⟨⟨1, []⟩, none, 0⟩], rfl, rfl, Nat.le_refl _, ?_, ?_⟩, ⟨rfl, Nat.le_refl _, Reads.none_⟩, ⟨rfl, Nat.le_refl _, Reads.none_⟩, ⟨rfl, Nat.le_refl _, Reads.none_⟩, ⟨[], rfl, rfl, Nat.le_refl _, Reads.none_, by simp⟩⟩
  · refine ⟨rfl, fun _ => ⟨_, rfl, by simp, fun j x hj => ?_⟩⟩
    match j, hj with
    | 0, hj => simp [FS, flat2, TF.cells] at hj; subst hj; simp [Addr.add]
    | 1, hj => simp [FS, flat2, TF.cells] at hj; subst hj; simp [Addr.add]
  · intro t ht
    simp at ht
    subst ht
    exact ⟨rfl, Nat.le_refl _, rfl, fun h => absurd h (by simp)⟩

end Go.Proofs.Ytkciedcfphhenaa
