
/-
  The walk of FairRounds.
-/
import Derived.Test.YtgongcbbbhdjeaaRows
import Derived.WalkKit
import Derived.ProofKit
import Derived.OpenShut
import Derived.ShutString
import Derived.ChangeOld
import Derived.Below
import Derived.Test.YtgongcbbbhdjeaaFrQ
namespace Go.Proofs.Ytgongcbbbhdjeaa.fairRounds
open Go.ChangeShapes Go.WideShapes Go.ChangeAt Go.RowKit Go.Proofs.Ytgongcbbbhdjeaa Go.Proofs.Ytgongcbbbhdjeaa.Plain
open Go.ChangeMaps (open_string shut_string)
set_option linter.unusedVariables false


set_option maxRecDepth 100000 in
set_option maxHeartbeats 40000000 in
theorem walk (a0 : Int) (a1 : Int) (a2 : Int) (w : World) (w0 : (Lit.int .i64 a0).wf = true) (w1 : (Lit.int .i64 a1).wf = true) (w2 : (Lit.int .i64 a2).wf = true) :
    Calls Try.prog 5 #[.int .i64 a0, .int .i64 a1, .int .i64 a2] w fun e w' => e = .returned (.bool true) ∧ Below w.heap.size w w' := by
  have ba := wf_i64 w0
  have bb := wf_i64 w1
  have bc := wf_i64 w2
  have hM1 := manyV_pos a0
  have hM2 := manyV_le a0
  have hmany := many_any a0
  have hal := aroundV_lt (n := a1) (m := 21) (by omega)
  have har := fun W => around_any a1 21 W bb.1 bb.2 (by omega) (by omega)
  obtain ⟨K, hK⟩ := Int.eq_ofNat_of_zero_le hal.1
  rw [hK] at har hal
  have hK20 : K ≤ 20 := by omega
  have hrd := fun W => round_any W a0 (K : Int) K ba.1 ba.2 (by omega) hK20
  have hrd0 := fun W => round_any W a0 (-1) 0 ba.1 ba.2 (by omega) (by omega)
  have hr := roundL_rounds (manyV a0) K
  obtain ⟨c2, ht⟩ := roundL_turned (manyV a0) K a2
  have hlen := hr.len
  have htlen := ht.len
  have hfull := hr.full hM1
  have htfull := ht.full hM1
  have hfair := hr.fair hM1
  have htfair := ht.fair hM1
  have hat := hr.at_
  have hMK : manyV a0 * K ≤ 64 * 20 := Nat.mul_le_mul hM2 hK20
  have hwm : IntKind.i64.wrap ((K : Int) * (manyV a0 : Int)) = ((manyV a0 * K : Nat) : Int) := by
    rw [show (K : Int) * (manyV a0 : Int) = ((manyV a0 * K : Nat) : Int) by rw [Int.natCast_mul, Int.mul_comm]]
    exact IntWalk.i64_in _ (by omega)
  have hl0 : (roundL (manyV a0) 0).length = 0 := by rw [roundL_length]; rfl
  have hturn := fun W BB A c hR hc hB => turn_any W BB A (manyV a0 * K) c (roundL (manyV a0) K) hR hlen hc (by omega) hB a2 bc.1 bc.2
  have hF := fun W BB A c hR hB x => fair_any W BB A (manyV a0 * K) c (roundL (manyV a0) K) hR hlen (by omega) hB a0 x ba.1 ba.2
  have hG := fun W BB A c hR hB => full_any W BB A (manyV a0 * K) c (roundL (manyV a0) K) hR hlen (by omega) hB a0 ba.1 ba.2
  have hF2 := fun W BB A c hR hB x => fair_any W BB A (manyV a0 * K) c (turnV (roundL (manyV a0) K) a2) hR htlen (by omega) hB a0 x ba.1 ba.2
  have hG2 := fun W BB A c hR hB => full_any W BB A (manyV a0 * K) c (turnV (roundL (manyV a0) K) a2) hR htlen (by omega) hB a0 ba.1 ba.2
  rw [hfull] at hG
  rw [htfull] at hG2
  generalize turnV (roundL (manyV a0) K) a2 = t at *
  generalize roundL (manyV a0) K = l at *
  generalize roundL (manyV a0) 0 = l0 at *
  generalize manyV a0 = M at *
  generalize M * K = n2 at *
  have HA := Lib.hid har; have HM := Lib.hid hmany; have HRD := Lib.hid hrd; have HRD0 := Lib.hid hrd0; have HT := Lib.hid hturn; have HF := Lib.hid hF; have HG := Lib.hid hG; have HF2 := Lib.hid hF2; have HG2 := Lib.hid hG2
  have HAT := Lib.hid hat; have HLEN := Lib.hid hlen; have HTLEN := Lib.hid htlen; have HL0 := Lib.hid hl0; have HFA := Lib.hid hfair; have HFT := Lib.hid htfair
  clear har hmany hrd hrd0 hturn hF hG hF2 hG2 hat hlen htlen hl0 hr ht hfull htfull hfair htfair w0 w1 w2 ba bb bc hK hal
  go_enter Try.func5, Try.ntmps5
  go_wp2_with fail
  refine (HM.out _).mono ?_
  rintro e w' ⟨rfl, rfl⟩
  clear HM
  go_wp2_with fail
  refine (HA.out _).mono ?_
  rintro e w1 ⟨rfl, rfl⟩
  clear HA
  go_wp2_with fail
  refine (HRD.out _).mono ?_
  rintro e w2 ⟨v, rfl, ho, hb⟩
  obtain ⟨A1, c1, rfl, hc1, hrd⟩ := ho.slice
  rw [HLEN.out] at hrd hc1 ⊢
  have HR1 := Lib.hid hrd; have HB1 := Lib.hid hb
  clear ho hrd hb HRD
  go_wp2_with fail
  refine (HRD0.out _).mono ?_
  rintro e w3 ⟨v0, rfl, ho, hb⟩
  obtain ⟨A0, c0, rfl, hc0, hrd0⟩ := ho.slice
  rw [HL0.out] at hrd0 hc0 ⊢
  have HR3 := Lib.hid (HR1.out.below hb)
  have HB3 := Lib.hid (HB1.out.trans (hb.mono HB1.out.size))
  have hz23 := hb.size
  clear ho hrd0 hb HRD0 hc0
  go_wp2_with fail
  go_loopw [9] (fun s9 wr => ∃ i d : Nat, i ≤ n2 ∧ s9 = .int .i64 (i : Int) ∧ wr = w3.drewN d) (fun s9 _ => n2 - (intOf s9).toNat)
  case atStart => exact ⟨0, 0, by omega, rfl, rfl⟩
  case round =>
    obtain ⟨i, d, hi, rfl, rfl⟩ := hrel
    by_cases hlt : i < n2
    · obtain ⟨ad, x, rfl, hab, hx, hcx⟩ := HR3.out.num hlt
      have hx2 := HAT.out i hlt
      rw [hx2, Nat.add_zero] at hx
      injection hx with hx
      subst hx
      have hm : Int.tmod (i : Int) (M : Int) = ((i % M : Nat) : Int) := by
        rw [Int.tmod_eq_emod_of_nonneg (by omega)]
        simp
      have q0 : (i : Int) < (n2 : Int) := by omega
      have q2 : (0 : Int) ≤ (i : Int) := by omega
      have q4 : ¬ ((M : Int) = 0) := by omega
      generalize i % M = r at *
      clear hx2
      go_wp2_with fail
      go_quiet (fail)
      go_wp2_with fail
      exact ⟨⟨i + 1, _, by omega, by go_num, rfl⟩, by simp [intOf]; omega⟩
    · have hz3 := HB3.out.size
      go_wp2_with fail
      refine (HT.out _ w2.heap.size A1 c1 (HR3.out.drewN d) hc1 (by show w2.heap.size ≤ w3.heap.size; omega)).mono ?_
      rintro e w4 ⟨v, rfl, ho, hb⟩
      obtain ⟨A4, c4, rfl, hc4, hrd⟩ := ho.slice
      rw [HTLEN.out] at hrd hc4 ⊢
      have hb' : Below w3.heap.size w3 w4 := (below_drews (Below.refl _ _) d).trans hb
      have HR4 := Lib.hid hrd
      have HR3b := Lib.hid (HR3.out.below (hb'.mono hz23))
      have HB4 := Lib.hid (HB3.out.trans (hb'.mono hz3))
      have hz34 := hb'.size
      clear ho hrd hb hb' HT
      go_wp2_with fail
      refine (HG.out _ w2.heap.size A1 c1 HR3b.out (by omega)).mono ?_
      rintro e w5 ⟨rfl, hb⟩
      have HR5 := Lib.hid (HR4.out.below hb)
      have HR5b := Lib.hid (HR3b.out.below (hb.mono (by omega)))
      have HB5 := Lib.hid (HB4.out.trans (hb.mono HB4.out.size))
      have hz45 := hb.size
      clear hb HG
      go_wp2_with fail
      refine (HG2.out _ w4.heap.size A4 c4 HR5.out (by omega)).mono ?_
      rintro e w6 ⟨rfl, hb⟩
      have HR6 := Lib.hid (HR5.out.below (hb.mono hz45))
      have HR6b := Lib.hid (HR5b.out.below (hb.mono (by omega)))
      have HB6 := Lib.hid (HB5.out.trans (hb.mono HB5.out.size))
      have hz56 := hb.size
      clear hb HG2
      go_wp2_with fail
      refine (HF.out _ w2.heap.size A1 c1 HR6b.out (by omega) (M : Int)).mono ?_
      rintro e w7 ⟨rfl, hb⟩
      have HR7 := Lib.hid (HR6.out.below (hb.mono (by omega)))
      have HB7 := Lib.hid (HB6.out.trans (hb.mono HB6.out.size))
      have hz67 := hb.size
      rw [HFA.out]
      clear hb HF
      go_wp2_with fail
      refine (HF2.out _ w4.heap.size A4 c4 HR7.out (by omega) (M : Int)).mono ?_
      rintro e w8 ⟨rfl, hb⟩
      have HB8 := Lib.hid (HB7.out.trans (hb.mono HB7.out.size))
      rw [HFT.out]
      clear hb HF2
      go_wp2_with fail
      refine (lives_fr _).mono ?_
      rintro e w9 ⟨rfl, hb9⟩
      go_wp2_with fail
      go_ret
      exact ⟨rfl, HB8.out.trans (hb9.mono HB8.out.size)⟩
end Go.Proofs.Ytgongcbbbhdjeaa.fairRounds
