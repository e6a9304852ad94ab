
/-
  The walk of FairPieces.
-/
import Derived.Test.YtgongcbbbhdjeaaRows
import Derived.WalkKit
import Derived.ProofKit
import Derived.OpenShut
import Derived.ShutString
import Derived.ChangeOld
import Derived.Below
import Derived.Test.YtgongcbbbhdjeaaFrG
namespace Go.Proofs.Ytgongcbbbhdjeaa.fairPieces
open Go.ChangeShapes Go.WideShapes Go.ChangeAt Go.RowKit Go.Proofs.Ytgongcbbbhdjeaa Go.Proofs.Ytgongcbbbhdjeaa.Plain
open Go.ChangeMaps (open_string shut_string)
set_option linter.unusedVariables false


set_option maxRecDepth 100000 in
set_option maxHeartbeats 40000000 in
theorem walk (a0 : Option Addr) (len0 cap0 : Nat) (z0 : List Int) (a1 : Int) (w : World) (w0 : IsRow .i64 w a0 len0 cap0 z0) (w1 : (Lit.int .i64 a1).wf = true) :
    Calls Try.prog 7 #[.slice a0 len0 cap0, .int .i64 a1] w fun e w' => e = .returned (.bool true) ∧ Below w.heap.size w w' := by
  obtain ⟨l0, hl0, hR0, hfit, hc, hn⟩ := row_int w0
  have ba := wf_i64 w1
  obtain ⟨N, hN⟩ : ∃ N, N = min len0 25 := ⟨_, rfl⟩
  have hR := hR0.few (m := N) (by omega)
  have hl : (l0.take N).length = N := by simp; omega
  generalize l0.take N = l at hR hl
  have hfew := fun W => few_any W a0 len0 cap0 25 hc hn (by omega)
  rw [← hN] at hfew
  have hN30 : N ≤ 25 := by omega
  have hNc : N ≤ cap0 := by omega
  have hM1 := manyV_pos a1
  have hll := longV_le l (manyV a1) hM1
  have hkl : leastV l (manyV a1) = longV l (manyV a1) + 1 := rfl
  have hfl := full_least (l := l) (M := manyV a1) hM1
  rw [hl] at hfl
  have hgl := (gs_le (l := l) (M := manyV a1) l.length).2
  have hfv : fullV l (manyV a1) ≤ 25 := by unfold fullV; omega
  have hF := full_any w w.heap.size a0 N cap0 l hR hl (by omega) (Nat.le_refl _) a1 ba.1 ba.2
  have hL := fun W hW => least_any W w.heap.size a0 N cap0 l (Reads.below hR hW) hl (by omega) (Below.size hW) a1 ba.1 ba.2
  have hD := fun W hW => refFull_any W w.heap.size a0 N cap0 l (Reads.below hR hW) hl hNc (by omega) (Below.size hW) a1
  have HF := Lib.hid hfew; have HFA := Lib.hid hF; have HDA := Lib.hid hD; have HLE := Lib.hid hL
  have hk26 : leastV l (manyV a1) ≤ 26 := by omega
  have hk1 : 1 ≤ leastV l (manyV a1) := by omega
  clear hfew hF hD hL hR hR0 hfit w0 w1 hN hl0 hc hn hll hkl hgl
  generalize leastV l (manyV a1) = k at *
  generalize fullV l (manyV a1) = g at *
  have hq : Int.tdiv (N : Int) (k : Int) = ((N / k : Nat) : Int) := by rw [Int.tdiv_eq_ediv_of_nonneg (by omega)]; simp
  generalize N / k = q at hq hfl
  have hq2 : (q : Int) ≤ (g : Int) := by omega
  have hk0 : ¬ ((k : Int) = 0) := by omega
  have hk3 : ¬ ((k : Int) < 1) := by omega
  clear hl hfl
  go_enter Try.func7, Try.ntmps7
  go_wp2_with fail
  refine (HF.out _).mono ?_
  rintro e w' ⟨rfl, rfl⟩
  clear HF
  go_wp2_with fail
  refine HFA.out.mono ?_
  rintro e w1 ⟨rfl, hb1⟩
  have HB1 := Lib.hid hb1
  clear hb1
  go_wp2_with fail
  refine (HLE.out _ HB1.out).mono ?_
  rintro e w2 ⟨rfl, hb2⟩
  have HB2 := Lib.hid (HB1.out.trans (hb2.mono HB1.out.size))
  clear hb2
  go_wp2_with fail
  refine (HDA.out _ HB2.out).mono ?_
  rintro e w3 ⟨rfl, hb3⟩
  have HB3 := Lib.hid (HB2.out.trans (hb3.mono HB2.out.size))
  clear hb3 HFA HLE HDA
  go_wp2_with fail
  refine (lives_fr _).mono ?_
  rintro e w9 ⟨rfl, hb9⟩
  go_wp2_with fail
  go_ret
  exact ⟨rfl, HB3.out.trans (hb9.mono HB3.out.size)⟩
end Go.Proofs.Ytgongcbbbhdjeaa.fairPieces
