
/-
  The walk of ChansRow.
-/
import Derived.Test.YtbgigkamlnchcaaRows
import Derived.WalkKit
import Derived.ProofKit
import Derived.OpenShut
import Derived.ShutString
import Derived.ChangeOld
import Derived.Below
import Derived.Test.YtbgigkamlnchcaaChK
import Derived.Test.YtbgigkamlnchcaaBools
namespace Go.Proofs.Ytbgigkamlnchcaa.chansRow
open Go.ChangeShapes Go.WideShapes Go.ChangeAt Go.RowKit Go.Proofs.Ytbgigkamlnchcaa Go.Proofs.Ytbgigkamlnchcaa.Plain
open Go.ChangeMaps (open_string shut_string)
set_option linter.unusedVariables false


set_option maxRecDepth 100000 in
set_option maxHeartbeats 40000000 in
theorem walk (a0 : Int) (a1 : Option Addr) (len1 cap1 : Nat) (z1 : List Bool) (w : World) (w0 : (Lit.int .i64 a0).wf = true) (w1 : IsBools w a1 len1 cap1 z1) :
    Calls Try.prog 5 #[.int .i64 a0, .slice a1 len1 cap1] w fun e w' => e = .returned (.bool true) ∧ Below w.heap.size w w' := by
  have ba := wf_i64 w0
  obtain ⟨hzl, hzc, hzm, hzd⟩ := w1
  have har := fun W => around_any a0 9 W ba.1 ba.2 (by omega) (by omega)
  have hal := aroundV_lt (n := a0) (m := 9) (by omega)
  generalize aroundV a0 9 = ra at *
  obtain ⟨f, rfl⟩ := Int.eq_ofNat_of_zero_le hal.1
  have hf : f ≤ 8 := by omega
  have hnew := fun W => new_ch W 1 (by omega)
  have HAR := Lib.hid har; have HNEW := Lib.hid hnew; have HLV := Lib.hid lives_ch; have HZL := Lib.hid hzl; have HZD := Lib.hid hzd
  obtain ⟨n60, hn60⟩ : ∃ k, k = min len1 60 := ⟨_, rfl⟩
  have HN60 := Lib.hid hn60
  have hn600 : n60 ≤ 60 := by omega
  have hn6l : n60 ≤ len1 := by omega
  clear har hal hnew ba w0 hzl hzd hn60
  go_enter Try.func5, Try.ntmps5
  go_wp2_with fail
  refine (HAR.out _).mono ?_
  rintro e w' ⟨rfl, rfl⟩
  go_wp2_with fail
  refine (HNEW.out _).mono ?_
  rintro e w1 ⟨b1, b2, b3, rfl, hM, hbel⟩
  obtain ⟨w2, hw2⟩ : ∃ W, W = w1.alloc (.cells (mkC b1 b2 b3 1) 28) := ⟨_, rfl⟩
  rw [← hw2] at hM hbel
  obtain ⟨g, hg⟩ : ∃ g, g = w1.heap.size := ⟨_, rfl⟩
  rw [← hg] at hM
  obtain ⟨c0, c1, c2⟩ := hM.cells
  have hst : ChSt w w2 (mkH b1 b2 b3 1 g) (newV 1) := ⟨hM, hbel⟩
  have HI := Lib.hid hst; have HW := Lib.hid hw2; have HG := Lib.hid hg
  clear hM hbel HNEW hw2 hg hst
  go_upto_region 3 with fail
  rw [← HW.out, ← HG.out]
  clear HW HG
  go_wp2_with fail
  clear c0 c1 c2
  go_loopw [6, 7, 8, 9] (fun s6 s7 s8 s9 wr => ∃ (k sent got asked : Nat) (s : Ck), k ≤ n60 ∧ s9 = .int .i64 (k : Int) ∧ sent ≤ k ∧ asked ≤ k ∧ got ≤ k ∧ s6 = .int .i64 (sent : Int) ∧ s7 = .int .i64 (got : Int) ∧ s8 = .int .i64 (asked : Int) ∧ Hid (ChSt w wr (mkH b1 b2 b3 1 g) s ∧ RowI f k sent got asked s)) (fun _ _ _ s9 _ => n60 - (intOf s9).toNat)
  case atStart => exact ⟨0, 0, 0, 0, newV 1, by omega, rfl, by omega, by omega, by omega, rfl, rfl, rfl, Lib.hid ⟨HI.out, RowI.start f⟩⟩
  case round =>
    clear HI
    obtain ⟨k, sent, got, asked, s, hk, rfl, hse, has, hgo, rfl, rfl, rfl, HI⟩ := hrel
    by_cases hlt : k < n60
    · have hk1 : k < len1 := by omega
      have hk2 : k < 60 := by omega
      obtain ⟨ad, rfl, hab, hat⟩ := HZD.out (by omega)
      have hzk : z1[k]? = some (z1[k]'(by have := HZL.out; omega)) := List.getElem?_eq_getElem (by have := HZL.out; omega)
      have hcell := (HI.out.1.b.cell (p := ad.add k) (by rw [block_of_add]; exact hab)).trans (hat k _ hzk)
      generalize z1[k]'(by have := HZL.out; omega) = bb at *
      have q0 : (0 : Int) ≤ (k : Int) := by omega
      have q1 : (k : Int) < (len1 : Int) := by omega
      have q2 : (k : Int) < 60 := by omega
      have hok := HI.out.2.ok (by omega)
      have HST := Lib.hid HI.out.1
      clear hat hzk hab
      cases bb
      · obtain ⟨b, hb1, hb2, hI2⟩ := HI.out.2.recv
        have hc := recv_any HI.out.1.m hok (by omega) (by omega) 0 (by omega) (k : Int) (by omega)
        generalize recvV s 0 (k : Int) = res at *
        obtain ⟨s2, v, from_, ok⟩ := res
        simp only at hb1 hb2 hI2 hc
        subst hb1
        have hmin := hI2.min
        have HC := Lib.hid hc; have HB := Lib.hid hb2; have HI2 := Lib.hid hI2
        clear hc hb2 hI2 hok HI
        cases ok
        · go_wp2_with fail
          refine HC.out.mono ?_
          rintro e w3 ⟨rfl, hT⟩
          have HS2 := Lib.hid (HST.out.of hT)
          clear hT HC HST
          simp only [Bool.false_eq_true, if_false] at hmin HI2
          have hmn : ∀ W, (Builtin.min_ #[3, 3] 3 #[.int .i64 (sent : Int), .int .i64 ((asked : Int) + 1)]).run Try.prog W = .ok (.int .i64 (got : Int)) W := by
            intro W
            rw [run_min_int2]
            split <;> congr 2 <;> omega
          clear hmin
          go_wp2_with fail
          exact ⟨⟨k + 1, sent, got, asked + 1, s2, by omega, by go_num, by omega, by omega, by omega, by go_num, by go_num, by go_num, Lib.hid ⟨HS2.out, HI2.out⟩⟩, by simp [intOf]; omega⟩
        · have hv := HB.out rfl
          subst hv
          go_wp2_with fail
          refine HC.out.mono ?_
          rintro e w3 ⟨rfl, hT⟩
          have HS2 := Lib.hid (HST.out.of hT)
          clear hT HC HST
          simp only [if_true] at hmin HI2
          have hmn : ∀ W, (Builtin.min_ #[3, 3] 3 #[.int .i64 (sent : Int), .int .i64 ((asked : Int) + 1)]).run Try.prog W = .ok (.int .i64 ((got : Int) + 1)) W := by
            intro W
            rw [run_min_int2]
            split <;> congr 2 <;> omega
          clear hmin
          go_wp2_with fail
          exact ⟨⟨k + 1, sent, got + 1, asked + 1, s2, by omega, by go_num, by omega, by omega, by omega, by go_num, by go_num, by go_num, Lib.hid ⟨HS2.out, HI2.out⟩⟩, by simp [intOf]; omega⟩
      · obtain ⟨b, hb1, hb2, hI2⟩ := HI.out.2.send
        have hc := send_any HI.out.1.m hok (by omega) (by omega) 0 (by omega) (f : Int) (k : Int) (sent : Int) (by omega)
        generalize sendV s 0 (f : Int) (k : Int) (sent : Int) = res at *
        obtain ⟨s2, tw, ok⟩ := res
        simp only at hb1 hb2 hI2 hc
        have hmin := hI2.min
        have HC := Lib.hid hc; have HB := Lib.hid hb2; have HI2 := Lib.hid hI2
        clear hc hb2 hI2 hok HI
        cases ok
        · simp only [Bool.false_and] at hb1
          subst hb1
          go_wp2_with fail
          refine HC.out.mono ?_
          rintro e w3 ⟨rfl, hT⟩
          have HS2 := Lib.hid (HST.out.of hT)
          clear hT HC HST
          simp only [Bool.false_eq_true, if_false] at hmin HI2
          have hmn : ∀ W, (Builtin.min_ #[3, 3] 3 #[.int .i64 ((sent : Int) + 1), .int .i64 (asked : Int)]).run Try.prog W = .ok (.int .i64 (got : Int)) W := by
            intro W
            rw [run_min_int2]
            split <;> congr 2 <;> omega
          clear hmin
          go_wp2_with fail
          exact ⟨⟨k + 1, sent + 1, got, asked, s2, by omega, by go_num, by omega, by omega, by omega, by go_num, by go_num, by go_num, Lib.hid ⟨HS2.out, HI2.out⟩⟩, by simp [intOf]; omega⟩
        · simp only [Bool.true_and] at hb1
          by_cases h0 : tw ≥ 0
          · obtain rfl : b = true := by rw [← hb1]; simpa using h0
            have hgs := HB.out rfl
            subst hgs
            go_wp2_with fail
            refine HC.out.mono ?_
            rintro e w3 ⟨rfl, hT⟩
            have HS2 := Lib.hid (HST.out.of hT)
            clear hT HC HST
            simp only [if_true] at hmin HI2
            have hmn : ∀ W, (Builtin.min_ #[3, 3] 3 #[.int .i64 ((got : Int) + 1), .int .i64 (asked : Int)]).run Try.prog W = .ok (.int .i64 ((got : Int) + 1)) W := by
              intro W
              rw [run_min_int2]
              split <;> congr 2 <;> omega
            clear hmin
            go_wp2_with fail
            exact ⟨⟨k + 1, got + 1, got + 1, asked, s2, by omega, by go_num, by omega, by omega, by omega, by go_num, by go_num, by go_num, Lib.hid ⟨HS2.out, HI2.out⟩⟩, by simp [intOf]; omega⟩
          · obtain rfl : b = false := by rw [← hb1]; simpa using h0
            have h00 : decide (tw ≥ 0) = false := by simpa using h0
            go_wp2_with fail
            refine HC.out.mono ?_
            rintro e w3 ⟨rfl, hT⟩
            have HS2 := Lib.hid (HST.out.of hT)
            clear hT HC HST
            simp only [Bool.false_eq_true, if_false] at hmin HI2
            have hmn : ∀ W, (Builtin.min_ #[3, 3] 3 #[.int .i64 ((sent : Int) + 1), .int .i64 (asked : Int)]).run Try.prog W = .ok (.int .i64 (got : Int)) W := by
              intro W
              rw [run_min_int2]
              split <;> congr 2 <;> omega
            clear hmin
            go_wp2_with fail
            exact ⟨⟨k + 1, sent + 1, got, asked, s2, by omega, by go_num, by omega, by omega, by omega, by go_num, by go_num, by go_num, Lib.hid ⟨HS2.out, HI2.out⟩⟩, by simp [intOf]; omega⟩
    · by_cases hge : k < len1
      · have hge2 : ¬ k < 60 := by have := HN60.out; omega
        have hg1 : (k : Int) < (len1 : Int) := by omega
        have hg2 : ¬ (k : Int) < 60 := by omega
        go_wp2_with fail
        refine (HLV.out _).mono ?_
        rintro e w' ⟨rfl, hbl⟩
        go_wp2_with fail
        go_ret
        exact ⟨rfl, HI.out.1.b.trans (hbl.mono HI.out.1.b.size)⟩
      · have hg1 : ¬ (k : Int) < (len1 : Int) := by omega
        go_wp2_with fail
        refine (HLV.out _).mono ?_
        rintro e w' ⟨rfl, hbl⟩
        go_wp2_with fail
        go_ret
        exact ⟨rfl, HI.out.1.b.trans (hbl.mono HI.out.1.b.size)⟩
end Go.Proofs.Ytbgigkamlnchcaa.chansRow
