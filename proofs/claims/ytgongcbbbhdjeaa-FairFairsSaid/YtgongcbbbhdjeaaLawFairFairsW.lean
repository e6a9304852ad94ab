
/-
  The walk of FairFairs.
-/
import Derived.Test.YtgongcbbbhdjeaaRows
import Derived.WalkKit
import Derived.ProofKit
import Derived.OpenShut
import Derived.ShutString
import Derived.ChangeOld
import Derived.Below
import Derived.Test.YtgongcbbbhdjeaaFrF
namespace Go.Proofs.Ytgongcbbbhdjeaa.fairFairs
open Go.ChangeShapes Go.WideShapes Go.ChangeAt Go.RowKit Go.Proofs.Ytgongcbbbhdjeaa Go.Proofs.Ytgongcbbbhdjeaa.Plain
open Go.ChangeMaps (open_string shut_string)
set_option linter.unusedVariables false


set_option maxRecDepth 100000 in
set_option maxHeartbeats 40000000 in
theorem walk (a0 : Option Addr) (len0 cap0 : Nat) (z0 : List Int) (a1 : Int) (a2 : Int) (w : World) (w0 : IsRow .i64 w a0 len0 cap0 z0) (w1 : (Lit.int .i64 a1).wf = true) (w2 : (Lit.int .i64 a2).wf = true) :
    Calls Try.prog 3 #[.slice a0 len0 cap0, .int .i64 a1, .int .i64 a2] w fun e w' => e = .returned (.bool true) ∧ Below w.heap.size w w' := by
  obtain ⟨l0, hl0, hR0, hfit, hc, hn⟩ := row_int w0
  have ba := wf_i64 w1
  have bb := wf_i64 w2
  obtain ⟨N, hN⟩ : ∃ N, N = min len0 25 := ⟨_, rfl⟩
  have hR := hR0.few (m := N) (by omega)
  have hl : (l0.take N).length = N := by simp; omega
  generalize l0.take N = l at hR hl
  have hfew := fun W => few_any W a0 len0 cap0 25 hc hn (by omega)
  rw [← hN] at hfew
  have hal := aroundV_lt (n := a2) (m := 30) (by omega)
  have har := fun W => around_any a2 30 W bb.1 bb.2 (by omega) (by omega)
  generalize aroundV a2 30 = m at hal har
  have hN30 : N ≤ 25 := by omega
  have hNc : N ≤ cap0 := by omega
  have hM1 := manyV_pos a1
  have hll := longV_le l (manyV a1) hM1
  have hkl : leastV l (manyV a1) = longV l (manyV a1) + 1 := rfl
  have hfk : fairI l (manyV a1) (leastV l (manyV a1) : Int) = true := by
    unfold fairI
    rw [if_neg (by omega)]
    simp
  have hfk1 : ¬ leastV l (manyV a1) = 1 → fairI l (manyV a1) ((leastV l (manyV a1) : Int) - 1) = false := by
    intro h
    unfold fairI
    rw [if_neg (by omega)]
    simp
    omega
  have hfm : ¬ m < (leastV l (manyV a1) : Int) → fairI l (manyV a1) m = true := by
    intro h
    unfold fairI
    rw [if_neg (by omega)]
    simp
    omega
  have hF := fun W hW x => fair_any W w.heap.size a0 N cap0 l (Reads.below hR hW) hl (by omega) (Below.size hW) a1 x ba.1 ba.2
  have hD := fun W hW x h1 h2 => refFair_any W w.heap.size a0 N cap0 l (Reads.below hR hW) hl hNc (by omega) a1 x h1 h2
  have hL := least_any w w.heap.size a0 N cap0 l hR hl (by omega) (Nat.le_refl _) a1 ba.1 ba.2
  have HF := Lib.hid hfew; have HA := Lib.hid har; have HFA := Lib.hid hF; have HDA := Lib.hid hD; have HLE := Lib.hid hL
  have hk26 : leastV l (manyV a1) ≤ 26 := by omega
  have hk1 : 1 ≤ leastV l (manyV a1) := by omega
  clear hfew har hF hD hL hR hR0 hfit w0 w1 w2 hN hl0 hc hn hll hkl
  generalize hkk : leastV l (manyV a1) = k at *
  generalize hff : fairI l (manyV a1) = f at *
  clear hl hff hkk
  go_enter Try.func3, Try.ntmps3
  go_wp2_with fail
  refine (HF.out _).mono ?_
  rintro e w' ⟨rfl, rfl⟩
  clear HF
  go_wp2_with fail
  refine HLE.out.mono ?_
  rintro e w1 ⟨rfl, hb1⟩
  have HB1 := Lib.hid hb1
  clear hb1
  go_wp2_with fail
  refine (HA.out _).mono ?_
  rintro e w2 ⟨rfl, hw2⟩
  subst hw2
  go_wp2_with fail
  refine (HFA.out _ HB1.out a2).mono ?_
  rintro e w3 ⟨rfl, hb3⟩
  have HB3 := Lib.hid (HB1.out.trans (hb3.mono HB1.out.size))
  clear hb3
  go_wp2_with fail
  refine (HDA.out _ HB3.out a2 bb.1 bb.2).mono ?_
  rintro e w4 ⟨rfl, hw4⟩
  subst hw4
  go_wp2_with fail
  refine (HFA.out _ HB3.out m).mono ?_
  rintro e w5 ⟨rfl, hb5⟩
  have HB5 := Lib.hid (HB3.out.trans (hb5.mono HB3.out.size))
  clear hb5
  go_wp2_with fail
  refine (HDA.out _ HB5.out m (by omega) (by omega)).mono ?_
  rintro e w6 ⟨rfl, hw6⟩
  subst hw6
  go_wp2_with fail
  refine (HDA.out _ HB5.out (k : Int) (by omega) (by omega)).mono ?_
  rintro e w7 ⟨rfl, hw7⟩
  subst hw7
  rw [hfk]
  by_cases hk : k = 1
  · have hkb : ((k : Int) == 1) = true := by simp; omega
    clear hfk1
    by_cases hm : m < (k : Int)
    · clear HFA HDA HLE HA
      go_wp2_with fail
      refine (lives_fr _).mono ?_
      rintro e w9 ⟨rfl, hb9⟩
      go_wp2_with fail
      go_ret
      exact ⟨rfl, HB5.out.trans (hb9.mono HB5.out.size)⟩
    · have hfm := hfm (by omega)
      go_wp2_with fail
      refine (HDA.out _ HB5.out m (by omega) (by omega)).mono ?_
      rintro e w8 ⟨rfl, hw8⟩
      subst hw8
      rw [hfm]
      clear HFA HDA HLE HA
      go_wp2_with fail
      refine (lives_fr _).mono ?_
      rintro e w9 ⟨rfl, hb9⟩
      go_wp2_with fail
      go_ret
      exact ⟨rfl, HB5.out.trans (hb9.mono HB5.out.size)⟩
  · have hfk1 := hfk1 hk
    have hkb : ((k : Int) == 1) = false := by simp; omega
    have hwk : IntKind.i64.wrap ((k : Int) - 1) = (k : Int) - 1 := IntWalk.i64_in _ (by omega)
    clear hk
    go_wp2_with fail
    refine (HDA.out _ HB5.out ((k : Int) - 1) (by omega) (by omega)).mono ?_
    rintro e w7 ⟨rfl, hw7⟩
    subst hw7
    rw [hfk1]
    by_cases hm : m < (k : Int)
    · clear HFA HDA HLE HA
      go_wp2_with fail
      refine (lives_fr _).mono ?_
      rintro e w9 ⟨rfl, hb9⟩
      go_wp2_with fail
      go_ret
      exact ⟨rfl, HB5.out.trans (hb9.mono HB5.out.size)⟩
    · have hfm := hfm (by omega)
      go_wp2_with fail
      refine (HDA.out _ HB5.out m (by omega) (by omega)).mono ?_
      rintro e w8 ⟨rfl, hw8⟩
      subst hw8
      rw [hfm]
      clear HFA HDA HLE HA
      go_wp2_with fail
      refine (lives_fr _).mono ?_
      rintro e w9 ⟨rfl, hb9⟩
      go_wp2_with fail
      go_ret
      exact ⟨rfl, HB5.out.trans (hb9.mono HB5.out.size)⟩
end Go.Proofs.Ytgongcbbbhdjeaa.fairFairs
