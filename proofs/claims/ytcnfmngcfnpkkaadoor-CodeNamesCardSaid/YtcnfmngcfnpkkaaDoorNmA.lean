
/-
  The instructions' names: the variable that holds them; Name of the program and of the document.
-/
import Derived.Test.YtcnfmngcfnpkkaaDoorMayA
import Derived.Test.YtcnfmngcfnpkkaaDoorPrA
import Derived.Deep.QuietTactic
import Derived.BigQuiet
import Derived.Deep.RegionHeld3
import Derived.Deep.DeepCutAuto
import Derived.Deep.CutBlock
set_option linter.unusedVariables false
set_option linter.unusedSimpArgs false
namespace Go.Proofs.YtcnfmngcfnpkkaaDoor
open Go.RowKit Plain

namespace Plain
/-- The names' bytes. -/
def nmB : List (List UInt8) := [[112, 117, 115, 104], [112, 111, 112], [100, 117, 112], [97, 100, 100], [115, 117, 98], [103, 101, 116], [115, 101, 116], [106, 117, 109, 112], [122, 101, 114, 111], [99, 97, 108, 108], [114, 101, 116], [115, 112, 97, 119, 110], [121, 105, 101, 108, 100], [115, 108, 101, 101, 112], [106, 111, 105, 110], [108, 111, 99, 107], [117, 110, 108, 111, 99, 107], [119, 97, 105, 116], [115, 105, 103, 110, 97, 108], [98, 114, 111, 97, 100, 99, 97, 115, 116], [100, 111, 119, 110], [117, 112], [115, 101, 110, 100], [114, 101, 99, 118], [115, 101, 108, 101, 99, 116], [112, 114, 105, 110, 116], [101, 120, 105, 116]]
theorem nmB_len : nmB.length = 27 := rfl
/-- An instruction's name. -/
def nameB (n : Int) : List UInt8 := if 0 ≤ n ∧ n ≤ 26 then (nmB[n.toNat]?).getD [] else []
end Plain
/-- The variable that holds the names. -/
structure NmV (w : World) : Prop where
  sz : 0 < w.heap.size
  at_ : ∀ (i : Nat) (s : List UInt8), nmB[i]? = some s → w.cell? ⟨0, i, none⟩ = some (.string ⟨s.toArray⟩)
theorem NmV.below {w w' : World} (h : NmV w) (hb : Below w.heap.size w w') : NmV w' :=
  ⟨Nat.lt_of_lt_of_le h.sz hb.size, fun i s hi => (hb.cell h.sz).trans (h.at_ i s hi)⟩
theorem nmB_at (n : Int) (h0 : 0 ≤ n) (h1 : n ≤ 26) : ∃ k : Nat, n = (k : Int) ∧ k < 27 ∧ nmB[k]? = some (nameB n) := by
  obtain ⟨k, rfl⟩ := Int.eq_ofNat_of_zero_le h0
  have hk : k < 27 := by omega
  refine ⟨k, rfl, hk, ?_⟩
  unfold nameB
  rw [if_pos ⟨h0, h1⟩]
  have : k < nmB.length := by rw [nmB_len]; exact hk
  simp [List.getElem?_eq_getElem this]
theorem name_any (n : Int) (w : World) (h : NmV w) : Calls Tryd.prog 6 #[.int .i64 n] w fun e w' => e = .returned (.string ⟨(nameB n).toArray⟩) ∧ w = w' := by
  by_cases hn : 0 ≤ n ∧ n ≤ 26
  · obtain ⟨k, hk, hk27, hat⟩ := nmB_at n hn.1 hn.2
    have hc := h.at_ k _ hat
    have hw : withinB n 0 26 = true := by unfold withinB; simp; omega
    have HW := Lib.hid hw
    generalize nameB n = s at *
    clear hw hat
    subst hk
    go_enter Tryd.func6, Tryd.ntmps6
    go_wp2_with fail
    refine (isOp_any _ _).mono ?_
    rintro e w' ⟨rfl, rfl⟩
    rw [HW.out]
    go_wp2_with fail
    go_ret
    exact ⟨rfl, rfl⟩
  · have hw : withinB n 0 26 = false := by unfold withinB; simp; omega
    have HW := Lib.hid hw
    have he : nameB n = [] := by unfold nameB; rw [if_neg hn]
    rw [he]
    clear hw he
    go_enter Tryd.func6, Tryd.ntmps6
    go_wp2_with fail
    refine (isOp_any _ _).mono ?_
    rintro e w' ⟨rfl, rfl⟩
    rw [HW.out]
    go_wp2_with fail
    go_ret
    exact ⟨rfl, rfl⟩
/-- The names as the document lays them. -/
abbrev nmV : Array Value := #[.string ⟨#[112, 117, 115, 104]⟩, .string ⟨#[112, 111, 112]⟩, .string ⟨#[100, 117, 112]⟩, .string ⟨#[97, 100, 100]⟩, .string ⟨#[115, 117, 98]⟩, .string ⟨#[103, 101, 116]⟩, .string ⟨#[115, 101, 116]⟩, .string ⟨#[106, 117, 109, 112]⟩, .string ⟨#[122, 101, 114, 111]⟩, .string ⟨#[99, 97, 108, 108]⟩, .string ⟨#[114, 101, 116]⟩, .string ⟨#[115, 112, 97, 119, 110]⟩, .string ⟨#[121, 105, 101, 108, 100]⟩, .string ⟨#[115, 108, 101, 101, 112]⟩, .string ⟨#[106, 111, 105, 110]⟩, .string ⟨#[108, 111, 99, 107]⟩, .string ⟨#[117, 110, 108, 111, 99, 107]⟩, .string ⟨#[119, 97, 105, 116]⟩, .string ⟨#[115, 105, 103, 110, 97, 108]⟩, .string ⟨#[98, 114, 111, 97, 100, 99, 97, 115, 116]⟩, .string ⟨#[100, 111, 119, 110]⟩, .string ⟨#[117, 112]⟩, .string ⟨#[115, 101, 110, 100]⟩, .string ⟨#[114, 101, 99, 118]⟩, .string ⟨#[115, 101, 108, 101, 99, 116]⟩, .string ⟨#[112, 114, 105, 110, 116]⟩, .string ⟨#[101, 120, 105, 116]⟩]
theorem nmV_at (k : Nat) (s : List UInt8) (h : nmB[k]? = some s) : nmV[k]? = some (.string ⟨s.toArray⟩) := by
  have hV : nmV = (nmB.map fun s => Value.string ⟨s.toArray⟩).toArray := rfl
  rw [hV]
  simp [h]
set_option maxHeartbeats 1000000 in
theorem refName_any (n : Int) (w : World) : Calls Tryd.prog 7 #[.int .i64 n] w fun e w' => e = .returned (.string ⟨(nameB n).toArray⟩) ∧ Below w.heap.size w w' := by
  by_cases hn : 0 ≤ n ∧ n ≤ 26
  · obtain ⟨k, hk, hk27, hat⟩ := nmB_at n hn.1 hn.2
    have hv := nmV_at k _ hat
    have hc := ((Blk.new w 9 nmV).cell k).trans hv
    have hbel := (Below.refl w.heap.size w).alloc (Nat.le_refl _) (.cells nmV 9)
    generalize nameB n = s at *
    clear hat hv hn
    subst hk
    have h0 : ¬ (k : Int) < 0 := by omega
    have h1 : ¬ (26 : Int) < (k : Int) := by omega
    have h2 : (k : Int) < 27 := by omega
    have HC := Lib.hid hc; have HB := Lib.hid hbel
    clear hc hbel
    go_enter Tryd.func7, Tryd.ntmps7
    go_upto_region 4 with fail
    have hc := HC.out
    unfold nmV at hc
    generalize w.alloc _ = W at *
    go_wp2_with fail
    go_ret
    exact ⟨rfl, HB.out⟩
  · have he : nameB n = [] := by unfold nameB; rw [if_neg hn]
    rw [he]
    have hbel := (Below.refl w.heap.size w).alloc (Nat.le_refl _) (.cells nmV 9)
    have HB := Lib.hid hbel
    clear he hbel
    go_enter Tryd.func7, Tryd.ntmps7
    go_upto_region 2 with fail
    generalize w.alloc _ = W at *
    by_cases h0 : n < 0
    · clear hn
      go_wp2_with fail
      go_ret
      exact ⟨rfl, HB.out⟩
    · have h1 : 26 < n := by omega
      clear hn
      go_wp2_with fail
      go_ret
      exact ⟨rfl, HB.out⟩
end Go.Proofs.YtcnfmngcfnpkkaaDoor
