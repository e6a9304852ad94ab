
/-
  The document's example of layer 3.
-/
import Derived.Test.YtmjbfobjndiecaaWrite
import Derived.Test.YtmjbfobjndiecaaSame
set_option linter.unusedVariables false
set_option linter.unusedSimpArgs false
namespace Go.Proofs.Ytmjbfobjndiecaa
open Go.RowKit Plain

def least : PV := ⟨[⟨0, []⟩], 0, [], [], [], [], 1⟩
theorem least_may : mayC least = true := by decide
theorem least_bytes : progL least = [1, 0, 0, 0, 0, 0, 0, 0, 1] := by
  simp only [least, progL, funcsL, listL, listsL, funcL, codeL, List.length_cons, List.length_nil, List.flatMap_nil, List.flatMap_cons, List.append_nil]
  have h0 : shortL 0 = [0] := shortL_small (by omega)
  have h1 : shortL 1 = [1] := shortL_small (by omega)
  simp [h0, h1]
theorem least_lens : Lens least := ⟨by decide, by decide, by decide, by decide, by decide, by decide, by decide⟩
def leastH (g : Nat) : PH := ⟨some ⟨g, 0, none⟩, 1, none, 0, none, 0, none, 0, none, 0⟩
theorem least_rp (w : World) : RP (w.alloc (.cells #[.int .i64 0, .slice none 0 0] 45)) (w.heap.size + 1) (leastH w.heap.size) least := by
  refine ⟨⟨[⟨⟨0, []⟩, none, 0⟩], rfl, rfl, Nat.le_refl _, ?_, ?_⟩, ⟨rfl, Nat.le_refl _, Reads.none_⟩, ⟨rfl, Nat.le_refl _, Reads.none_⟩, ⟨rfl, Nat.le_refl _, Reads.none_⟩, ⟨[], rfl, rfl, Nat.le_refl _, Reads.none_, by simp⟩⟩
  · refine ⟨rfl, fun _ => ⟨_, rfl, by simp, fun j x hj => ?_⟩⟩
    match j, hj with
    | 0, hj => simp [FS, flat2, TF.cells] at hj; subst hj; simp [Addr.add]
    | 1, hj => simp [FS, flat2, TF.cells] at hj; subst hj; simp [Addr.add]
  · intro t ht
    simp at ht
    subst ht
    exact ⟨rfl, Nat.le_refl _, rfl, fun h => absurd h (by simp)⟩

theorem reads_lit9 (w : World) (t : TypeId) : Reads (w.alloc (.cells #[.int .u8 1, .int .u8 0, .int .u8 0, .int .u8 0, .int .u8 0, .int .u8 0, .int .u8 0, .int .u8 0, .int .u8 1] t)) (w.heap.size + 1) 1 (some ⟨w.heap.size, 0, none⟩) 9 (BS [1, 0, 0, 0, 0, 0, 0, 0, 1]) := by
  refine ⟨rfl, fun _ => ⟨_, rfl, by simp, fun j u hj => ?_⟩⟩
  have hc := (Blk.new w t #[.int .u8 1, .int .u8 0, .int .u8 0, .int .u8 0, .int .u8 0, .int .u8 0, .int .u8 0, .int .u8 0, .int .u8 1]).cell j
  have ha : (⟨w.heap.size, 0, none⟩ : Addr).add j = ⟨w.heap.size, j, none⟩ := by unfold Addr.add; split <;> simp_all
  rw [ha, hc, ← hj]
  have hj9 : j < 9 := by have := (List.getElem?_eq_some_iff.1 hj).1; simpa [BS] using this
  have : j = 0 ∨ j = 1 ∨ j = 2 ∨ j = 3 ∨ j = 4 ∨ j = 5 ∨ j = 6 ∨ j = 7 ∨ j = 8 := by omega
  rcases this with rfl | rfl | rfl | rfl | rfl | rfl | rfl | rfl | rfl <;> rfl

set_option maxHeartbeats 1000000 in
set_option maxRecDepth 100000 in
theorem clives_any (w : World) : Calls Try.prog 13 #[] w fun e w' => e = .returned (.bool true) ∧ Below w.heap.size w w' := by
  have hrp := least_rp w
  have HRP := Lib.hid hrp
  clear hrp
  go_enter Try.func13, Try.ntmps13
  go_wp2_with fail
  refine (write_yes (leastH w.heap.size) least _ (w.heap.size + 1) HRP.out (by simp) least_lens least_may).mono ?_
  rintro e w1 ⟨A, c, rfl, hown, hb⟩
  rw [least_bytes] at hown ⊢
  have hr := Reads.of_own hown
  have hz := hb.size
  have HRD := Lib.hid hr
  have HB := Lib.hid hb
  clear hown hr hb
  go_wp2_with fail
  refine (same_yes [1, 0, 0, 0, 0, 0, 0, 0, 1] 9 rfl _ _ _ _ _ _ _ (HRD.out.alloc (Nat.le_refl _) _) (reads_lit9 w1 _) (by omega)).mono ?_
  rintro e w2 ⟨rfl, k, rfl⟩
  go_wp2_with fail
  go_ret
  exact ⟨rfl, below_drews ((((Below.refl _ _).alloc (Nat.le_refl _) _).trans (HB.out.mono (by simp))).alloc (by simp at hz; omega) _) k⟩
end Go.Proofs.Ytmjbfobjndiecaa
