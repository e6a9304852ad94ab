
/-
  The walk of LocksRows.
-/
import Derived.Test.YtnbicfknohmenaaRows
import Derived.WalkKit
import Derived.ProofKit
import Derived.OpenShut
import Derived.ShutString
import Derived.ChangeOld
import Derived.Below
import Derived.Test.YtnbicfknohmenaaLkG
namespace Go.Proofs.Ytnbicfknohmenaa.locksRows
open Go.ChangeShapes Go.WideShapes Go.ChangeAt Go.RowKit Go.Proofs.Ytnbicfknohmenaa Go.Proofs.Ytnbicfknohmenaa.Plain
open Go.ChangeMaps (open_string shut_string)
set_option linter.unusedVariables false


set_option maxRecDepth 100000 in
set_option maxHeartbeats 40000000 in
theorem walk (a0 : Int) (w : World) (w0 : (Lit.int .i64 a0).wf = true) :
    Calls Try.prog 5 #[.int .i64 a0] w fun e w' => e = .returned (.bool true) ∧ Below w.heap.size w w' := by
  have ba := wf_i64 w0
  have har := fun W => around_any a0 21 W ba.1 ba.2 (by omega) (by omega)
  have hal := aroundV_lt (n := a0) (m := 21) (by omega)
  generalize aroundV a0 21 = ra at *
  obtain ⟨n, rfl⟩ := Int.eq_ofNat_of_zero_le hal.1
  have hn : n ≤ 20 := by omega
  have hnew := new_lk w (fun _ => True) none 0 [] (RN.nil _ _ _ _) 0 rfl (by omega) (fun _ => rfl) 1 0 (by omega) (by omega)
  rw [show newV 1 0 [] = st1 0 from rfl] at hnew
  have HAR := Lib.hid har; have HNEW := Lib.hid hnew; have HLV := Lib.hid lives_lk
  clear har hal hnew ba w0
  go_enter Try.func5, Try.ntmps5
  go_wp2_with fail
  refine (HAR.out _).mono ?_
  rintro e w' ⟨rfl, rfl⟩
  go_wp2_with fail
  refine HNEW.out.mono ?_
  rintro e w1 ⟨z, rfl, hb, hM, hbel⟩
  obtain ⟨w2, hw2⟩ : ∃ W, W = w1.alloc (.cells (mkC z 1 0 0) 27) := ⟨_, rfl⟩
  rw [← hw2] at hM hbel
  obtain ⟨g, hg⟩ : ∃ g, g = w1.heap.size := ⟨_, rfl⟩
  rw [← hg] at hM
  obtain ⟨b0, b1, b2, b3, b4⟩ := hM.cells
  have HI := Lib.hid (⟨hM, hbel⟩ : LkS w w2 (mkH z g 1 0 0) (st1 0)); have HW := Lib.hid hw2; have HG := Lib.hid hg
  clear hM hbel hb b1 b3 b4 HNEW hw2 hg
  go_upto_region 3 with fail
  rw [← HW.out, ← HG.out]
  clear HW HG
  go_wp2_with fail
  clear b0 b2
  go_loopw [4] (fun s4 wr => ∃ t : Nat, t ≤ n ∧ s4 = .int .i64 (t : Int) ∧ Hid (LkS w wr (mkH z g 1 0 0) (st1 t))) (fun s4 _ => n - (intOf s4).toNat)
  case atStart => exact ⟨0, by omega, rfl, HI⟩
  case round =>
    clear HI
    obtain ⟨t, ht, rfl, HI⟩ := hrel
    by_cases hlt : t < n
    · have hk := lock_any HI.out.m (st1_ok t (by omega)) (by omega) 0 (by rw [(st1_len t).1]; omega) (t : Int) (by omega)
      rw [st1_step, show ((0 : Nat) : Int) = 0 from rfl] at hk
      have q1 : (t : Int) < (n : Int) := by omega
      by_cases h0 : t = 0
      · rw [decide_eq_true h0] at hk
        subst h0
        rw [show ((0 : Nat) : Int) = 0 from rfl] at hk
        have HK := Lib.hid hk
        clear hk
        go_wp2_with fail
        refine HK.out.mono ?_
        rintro e w3 ⟨rfl, hT⟩
        have HI2 := Lib.hid (HI.out.of hT)
        clear hT HK
        go_wp2_with fail
        exact ⟨⟨0 + 1, by omega, by go_num, HI2⟩, by simp [intOf]; omega⟩
      · rw [decide_eq_false h0] at hk
        have h1 : ¬ (t : Int) = 0 := by omega
        have HK := Lib.hid hk
        clear hk h0
        go_wp2_with fail
        refine HK.out.mono ?_
        rintro e w3 ⟨rfl, hT⟩
        have HI2 := Lib.hid (HI.out.of hT)
        clear hT HK
        go_wp2_with fail
        exact ⟨⟨t + 1, by omega, by go_num, HI2⟩, by simp [intOf]; omega⟩
    · obtain rfl : t = n := by omega
      have hi2 := HI.out
      rw [st12] at hi2
      have HI2 := Lib.hid hi2
      clear hi2 HI
      go_wp2_with fail
      go_loopw [5, 6, 7, 8, 9, 10] (fun s5 _ _ _ _ _ wr => ∃ k : Nat, k ≤ t ∧ s5 = .int .i64 (k : Int) ∧ Hid (LkS w wr (mkH z g 1 0 0) (st2 t k))) (fun s5 _ _ _ _ _ _ => t - (intOf s5).toNat)
      case atStart => exact ⟨0, by omega, rfl, HI2⟩
      case round =>
        clear HI2
        obtain ⟨k, hk, rfl, HI⟩ := hrel
        by_cases hlt2 : k < t
        · have h1 := unlock_any HI.out.m (st2_ok t k (by omega) (by omega)) (by omega) 0 (by rw [(st2_len t k).1]; omega) ((k : Int) + 1) (by omega)
          rw [st2_no t k hlt2, show ((0 : Nat) : Int) = 0 from rfl] at h1
          have h2 : ∀ W, LkS w W (mkH z g 1 0 0) (st2 t k) → Calls Try.prog 17 #[.pointer (some ⟨g, 0, none⟩), .int .i64 0, .int .i64 (k : Int)] W fun e w' => e = .returned (.tuple #[.int .i64 (if k + 1 = t then -1 else (k : Int) + 1), .int .i64 0]) ∧ LkS w w' (mkH z g 1 0 0) (st2 t (k + 1)) := by
            intro W hW
            have := unlock_any hW.m (st2_ok t k (by omega) (by omega)) (by omega) 0 (by rw [(st2_len t k).1]; omega) (k : Int) (by omega)
            rw [st2_step t k hlt2, show ((0 : Nat) : Int) = 0 from rfl] at this
            refine this.mono ?_
            rintro e w' ⟨rfl, hT⟩
            exact ⟨rfl, hW.of hT⟩
          have q1 : (k : Int) < (t : Int) := by omega
          have q2 : IntKind.i64.wrap ((k : Int) + 1) = (k : Int) + 1 := IntWalk.i64_in _ (by omega)
          have H1 := Lib.hid h1
          clear h1
          by_cases h0 : k + 1 = t
          · rw [if_pos h0] at h2
            have h3 : ((k : Int) + 1 == (t : Int)) = true := by rw [beq_iff_eq]; omega
            have H2 := Lib.hid h2
            clear h2 h0
            go_wp2_with fail
            refine H1.out.mono ?_
            rintro e w3 ⟨rfl, hT⟩
            have HI2 := Lib.hid (HI.out.of hT)
            clear hT H1 HI
            go_wp2_with fail
            refine (H2.out _ HI2.out).mono ?_
            rintro e w4 ⟨rfl, hI⟩
            have HI3 := Lib.hid hI
            clear hI H2 HI2
            go_wp2_with fail
            exact ⟨⟨k + 1, by omega, by go_num, HI3⟩, by simp [intOf]; omega⟩
          · have h3 : ¬ (k : Int) + 1 = (t : Int) := by omega
            rw [if_neg h0] at h2
            have H2 := Lib.hid h2
            clear h2 h0
            go_wp2_with fail
            refine H1.out.mono ?_
            rintro e w3 ⟨rfl, hT⟩
            have HI2 := Lib.hid (HI.out.of hT)
            clear hT H1 HI
            go_wp2_with fail
            refine (H2.out _ HI2.out).mono ?_
            rintro e w4 ⟨rfl, hI⟩
            have HI3 := Lib.hid hI
            clear hI H2 HI2
            go_wp2_with fail
            exact ⟨⟨k + 1, by omega, by go_num, HI3⟩, by simp [intOf]; omega⟩
        · obtain rfl : k = t := by omega
          have hf := free_any wr _ _ _ HI.out.m (by rw [(st2_len k k).1]; omega) (by rw [(st2_len k k).2.1]; omega) (by rw [(st2_len k k).2.2.1]; omega) (by rw [(st2_len k k).2.2.2]; omega)
          rw [st2_free] at hf
          obtain ⟨z0, z1, z2, z3, z4, z5, z6, z7, z8, z9⟩ := HI.out.m.all10
          have HF := Lib.hid hf
          clear hf
          go_wp2_with fail
          refine HF.out.mono ?_
          rintro e w5 ⟨rfl, hb5⟩
          have HI2 := Lib.hid (HI.out.later hb5)
          clear hb5 HI HF z0 z1 z2 z3 z4 z5 z6 z7 z8 z9
          go_wp2_with fail
          refine (HLV.out _).mono ?_
          rintro e w6 ⟨rfl, hb6⟩
          have HB := Lib.hid (HI2.out.later hb6).b
          clear hb6
          go_wp2_with fail
          go_ret
          exact ⟨rfl, HB.out⟩
end Go.Proofs.Ytnbicfknohmenaa.locksRows
