
/-
  The walk of ChansMeet.
-/
import Derived.Test.YtbgigkamlnchcaaRows
import Derived.WalkKit
import Derived.ProofKit
import Derived.OpenShut
import Derived.ShutString
import Derived.ChangeOld
import Derived.Below
import Derived.Test.YtbgigkamlnchcaaChK
namespace Go.Proofs.Ytbgigkamlnchcaa.chansMeet
open Go.ChangeShapes Go.WideShapes Go.ChangeAt Go.RowKit Go.Proofs.Ytbgigkamlnchcaa Go.Proofs.Ytbgigkamlnchcaa.Plain
open Go.ChangeMaps (open_string shut_string)
set_option linter.unusedVariables false


/-- Where ChansMeet stands behind k rounds. -/
def stM (first : Bool) (n m : Nat) : Nat → Ck
  | 0 => if first then sM 0 0 else rM 0 0
  | 1 => if first then rM n 0 else sM m 0
  | _ => C1 [] (flatV m (n - m)) (seqV n (m - n))
set_option maxRecDepth 100000 in
set_option maxHeartbeats 40000000 in
theorem walk (a0 : Int) (a1 : Int) (b2 : Bool) (w : World) (w0 : (Lit.int .i64 a0).wf = true) (w1 : (Lit.int .i64 a1).wf = true) (w2 : True) :
    Calls Try.prog 7 #[.int .i64 a0, .int .i64 a1, .bool b2] w fun e w' => e = .returned (.bool true) ∧ Below w.heap.size w w' := by
  have ba := wf_i64 w0
  have bb := wf_i64 w1
  have har := fun W => around_any a0 13 W ba.1 ba.2 (by omega) (by omega)
  have hal := aroundV_lt (n := a0) (m := 13) (by omega)
  have har2 := fun W => around_any a1 13 W bb.1 bb.2 (by omega) (by omega)
  have hal2 := aroundV_lt (n := a1) (m := 13) (by omega)
  generalize aroundV a0 13 = ra at *
  generalize aroundV a1 13 = rb at *
  obtain ⟨n, rfl⟩ := Int.eq_ofNat_of_zero_le hal.1
  obtain ⟨m, rfl⟩ := Int.eq_ofNat_of_zero_le hal2.1
  have hn : n ≤ 12 := by omega
  have hm : m ≤ 12 := by omega
  have hnew := fun W => new_ch W 1 (by omega)
  have HAR := Lib.hid har; have HAR2 := Lib.hid har2; have HNEW := Lib.hid hnew; have HLV := Lib.hid lives_ch
  clear har hal har2 hal2 hnew ba bb w0 w1 w2
  go_enter Try.func7, Try.ntmps7
  go_wp2_with fail
  refine (HAR.out _).mono ?_
  rintro e w' ⟨rfl, rfl⟩
  go_wp2_with fail
  refine (HAR2.out _).mono ?_
  rintro e w' ⟨rfl, rfl⟩
  go_wp2_with fail
  refine (HNEW.out _).mono ?_
  rintro e w1 ⟨k1, k2, k3, rfl, hM, hbel⟩
  obtain ⟨w2, hw2⟩ : ∃ W, W = w1.alloc (.cells (mkC k1 k2 k3 1) 28) := ⟨_, rfl⟩
  rw [← hw2] at hM hbel
  obtain ⟨g, hg⟩ : ∃ g, g = w1.heap.size := ⟨_, rfl⟩
  rw [← hg] at hM
  obtain ⟨c0, c1, c2⟩ := hM.cells
  have hst : ChSt w w2 (mkH k1 k2 k3 1 g) (newV 1) := ⟨hM, hbel⟩
  have HI := Lib.hid hst; have HW := Lib.hid hw2; have HG := Lib.hid hg
  clear hM hbel HNEW hw2 hg hst
  go_upto_region 4 with fail
  rw [← HW.out, ← HG.out]
  clear HW HG
  go_wp2_with fail
  clear c0 c1 c2
  go_loopw [8] (fun s8 wr => ∃ k : Nat, k ≤ 2 ∧ s8 = .int .i64 (k : Int) ∧ Hid (ChSt w wr (mkH k1 k2 k3 1 g) (stM b2 n m k))) (fun s8 _ => 2 - (intOf s8).toNat)
  case atStart => exact ⟨0, by omega, rfl, Lib.hid (by have := HI.out; rw [new1] at this; cases b2 <;> simpa [stM, sM_rM] using this)⟩
  case round =>
    clear HI HAR HAR2
    obtain ⟨k, hk, rfl, HB0⟩ := hrel
    have hks : k = 0 ∨ k = 1 ∨ k = 2 := by omega
    rcases hks with rfl | rfl | rfl
    · simp only [show ((0 : Nat) : Int) = 0 from rfl]
      cases b2
      · have HB : Hid (ChSt w wr (mkH k1 k2 k3 1 g) (rM 0 0)) := Lib.hid (by simpa [stM] using HB0.out)
        clear HB0
        go_wp2_with fail
        go_loopw [10] (fun s10 wr2 => s10 = .int .i64 0 ∧ wr2 = wr) (fun _ _ => 0)
        case atStart => exact ⟨rfl, rfl⟩
        case round =>
          obtain ⟨rfl, rfl⟩ := hrel
          by_cases hn0 : (0 : Int) < (n : Int)
          · go_wp2_with fail
            go_loopw [14] (fun s14 wr2 => ∃ i : Nat, i ≤ m ∧ s14 = .int .i64 (i : Int) ∧ Hid (ChSt w wr2 (mkH k1 k2 k3 1 g) (rM 0 i))) (fun s14 _ => m - (intOf s14).toNat)
            case atStart => exact ⟨0, by omega, rfl, Lib.hid HB.out⟩
            case round =>
              obtain ⟨i, hi, rfl, HI⟩ := hrel
              by_cases hlt : i < m
              · have q1 : (i : Int) < (m : Int) := by omega
                have hok := rM_ok (nn := 0) (i := i) (by omega) (by omega)
                have hc := recv_any HI.out.m hok (by omega) (by omega) 0 (by omega) ((50 : Int) + (i : Int)) (by omega)
                rw [recv_rM] at hc
                have HC := Lib.hid hc
                clear hc hok
                rw [if_neg (by omega), if_neg (by omega), decide_eq_false (by omega)] at HC
                go_wp2_with fail
                refine HC.out.mono ?_
                rintro e w3 ⟨rfl, hT⟩
                have HS := Lib.hid (HI.out.of hT)
                clear hT HC HI
                go_wp2_with fail
                exact ⟨⟨i + 1, by omega, by go_num, HS⟩, by simp [intOf]; omega⟩
              · obtain rfl : i = m := by omega
                go_wp2_with fail
                exact ⟨⟨1, by omega, by go_num, Lib.hid (by have hh := HI.out; first | (rw [rM_sM] at hh; simpa [stM] using hh) | simpa [stM, rM] using hh)⟩, by simp [intOf]⟩
          · go_wp2_with fail
            go_loopw [14] (fun s14 wr2 => ∃ i : Nat, i ≤ m ∧ s14 = .int .i64 (i : Int) ∧ Hid (ChSt w wr2 (mkH k1 k2 k3 1 g) (rM 0 i))) (fun s14 _ => m - (intOf s14).toNat)
            case atStart => exact ⟨0, by omega, rfl, Lib.hid HB.out⟩
            case round =>
              obtain ⟨i, hi, rfl, HI⟩ := hrel
              by_cases hlt : i < m
              · have q1 : (i : Int) < (m : Int) := by omega
                have hok := rM_ok (nn := 0) (i := i) (by omega) (by omega)
                have hc := recv_any HI.out.m hok (by omega) (by omega) 0 (by omega) ((50 : Int) + (i : Int)) (by omega)
                rw [recv_rM] at hc
                have HC := Lib.hid hc
                clear hc hok
                rw [if_neg (by omega), if_neg (by omega), decide_eq_false (by omega)] at HC
                go_wp2_with fail
                refine HC.out.mono ?_
                rintro e w3 ⟨rfl, hT⟩
                have HS := Lib.hid (HI.out.of hT)
                clear hT HC HI
                go_wp2_with fail
                exact ⟨⟨i + 1, by omega, by go_num, HS⟩, by simp [intOf]; omega⟩
              · obtain rfl : i = m := by omega
                go_wp2_with fail
                exact ⟨⟨1, by omega, by go_num, Lib.hid (by have hh := HI.out; first | (rw [rM_sM] at hh; simpa [stM] using hh) | simpa [stM, rM] using hh)⟩, by simp [intOf]⟩
      · have HB : Hid (ChSt w wr (mkH k1 k2 k3 1 g) (sM 0 0)) := Lib.hid (by simpa [stM] using HB0.out)
        clear HB0
        go_wp2_with fail
        go_loopw [10, 11] (fun s10 s11 wr2 => ∃ i : Nat, i ≤ n ∧ s10 = .int .i64 (i : Int) ∧ Hid (ChSt w wr2 (mkH k1 k2 k3 1 g) (sM 0 i))) (fun s10 _ _ => n - (intOf s10).toNat)
        case atStart => exact ⟨0, by omega, rfl, Lib.hid HB.out⟩
        case round =>
          obtain ⟨i, hi, rfl, HI⟩ := hrel
          by_cases hlt : i < n
          · have q1 : (i : Int) < (n : Int) := by omega
            have hok := sM_ok (mm := 0) (i := i) (by omega) (by omega)
            have hc := send_any HI.out.m hok (by omega) (by omega) 0 (by omega) 0 (i : Int) ((100 : Int) + (i : Int)) (by omega)
            rw [send_sM] at hc
            have HC := Lib.hid hc
            clear hc hok
            rw [if_neg (by omega), decide_eq_false (by omega)] at HC
            go_wp2_with fail
            refine HC.out.mono ?_
            rintro e w3 ⟨rfl, hT⟩
            have HS := Lib.hid (HI.out.of hT)
            clear hT HC HI
            go_wp2_with fail
            exact ⟨⟨i + 1, by omega, by go_num, HS⟩, by simp [intOf]; omega⟩
          · obtain rfl : i = n := by omega
            go_wp2_with fail
            go_loopw [14] (fun s14 wr2 => s14 = .int .i64 0 ∧ wr2 = wr) (fun _ _ => 0)
            case atStart => exact ⟨rfl, rfl⟩
            case round =>
              obtain ⟨rfl, rfl⟩ := hrel
              by_cases hn0 : (0 : Int) < (m : Int)
              · go_wp2_with fail
                exact ⟨⟨1, by omega, by go_num, Lib.hid (by have hh := HI.out; first | (rw [sM_rM] at hh; simpa [stM] using hh) | simpa [stM, sM] using hh)⟩, by simp [intOf]⟩
              · go_wp2_with fail
                exact ⟨⟨1, by omega, by go_num, Lib.hid (by have hh := HI.out; first | (rw [sM_rM] at hh; simpa [stM] using hh) | simpa [stM, sM] using hh)⟩, by simp [intOf]⟩
    · simp only [show ((1 : Nat) : Int) = 1 from rfl]
      cases b2
      · have HB : Hid (ChSt w wr (mkH k1 k2 k3 1 g) (sM m 0)) := Lib.hid (by simpa [stM] using HB0.out)
        clear HB0
        go_wp2_with fail
        go_loopw [10, 11] (fun s10 s11 wr2 => ∃ i : Nat, i ≤ n ∧ s10 = .int .i64 (i : Int) ∧ Hid (ChSt w wr2 (mkH k1 k2 k3 1 g) (sM m i))) (fun s10 _ _ => n - (intOf s10).toNat)
        case atStart => exact ⟨0, by omega, rfl, Lib.hid HB.out⟩
        case round =>
          obtain ⟨i, hi, rfl, HI⟩ := hrel
          by_cases hlt : i < n
          · have q1 : (i : Int) < (n : Int) := by omega
            have hok := sM_ok (mm := m) (i := i) (by omega) (by omega)
            have hc := send_any HI.out.m hok (by omega) (by omega) 0 (by omega) 0 (i : Int) ((100 : Int) + (i : Int)) (by omega)
            rw [send_sM] at hc
            have HC := Lib.hid hc
            clear hc hok
            by_cases him : i < m
            · rw [if_pos him, decide_eq_true him] at HC
              have q2 : (i : Int) < (m : Int) := by omega
              have q3 : decide ((50 : Int) + (i : Int) ≥ 0) = true := by simp; omega
              go_wp2_with fail
              refine HC.out.mono ?_
              rintro e w3 ⟨rfl, hT⟩
              have HS := Lib.hid (HI.out.of hT)
              clear hT HC HI
              go_wp2_with fail
              exact ⟨⟨i + 1, by omega, by go_num, HS⟩, by simp [intOf]; omega⟩
            · rw [if_neg him, decide_eq_false him] at HC
              have q2 : ¬ (i : Int) < (m : Int) := by omega
              go_wp2_with fail
              refine HC.out.mono ?_
              rintro e w3 ⟨rfl, hT⟩
              have HS := Lib.hid (HI.out.of hT)
              clear hT HC HI
              go_wp2_with fail
              exact ⟨⟨i + 1, by omega, by go_num, HS⟩, by simp [intOf]; omega⟩
          · obtain rfl : i = n := by omega
            go_wp2_with fail
            go_loopw [14] (fun s14 wr2 => s14 = .int .i64 0 ∧ wr2 = wr) (fun _ _ => 0)
            case atStart => exact ⟨rfl, rfl⟩
            case round =>
              obtain ⟨rfl, rfl⟩ := hrel
              by_cases hn0 : (0 : Int) < (m : Int)
              · go_wp2_with fail
                exact ⟨⟨2, by omega, by go_num, Lib.hid (by have hh := HI.out; first | (rw [sM_rM] at hh; simpa [stM] using hh) | simpa [stM, sM] using hh)⟩, by simp [intOf]⟩
              · go_wp2_with fail
                exact ⟨⟨2, by omega, by go_num, Lib.hid (by have hh := HI.out; first | (rw [sM_rM] at hh; simpa [stM] using hh) | simpa [stM, sM] using hh)⟩, by simp [intOf]⟩
      · have HB : Hid (ChSt w wr (mkH k1 k2 k3 1 g) (rM n 0)) := Lib.hid (by simpa [stM] using HB0.out)
        clear HB0
        go_wp2_with fail
        go_loopw [10] (fun s10 wr2 => s10 = .int .i64 0 ∧ wr2 = wr) (fun _ _ => 0)
        case atStart => exact ⟨rfl, rfl⟩
        case round =>
          obtain ⟨rfl, rfl⟩ := hrel
          by_cases hn0 : (0 : Int) < (n : Int)
          · go_wp2_with fail
            go_loopw [14] (fun s14 wr2 => ∃ i : Nat, i ≤ m ∧ s14 = .int .i64 (i : Int) ∧ Hid (ChSt w wr2 (mkH k1 k2 k3 1 g) (rM n i))) (fun s14 _ => m - (intOf s14).toNat)
            case atStart => exact ⟨0, by omega, rfl, Lib.hid HB.out⟩
            case round =>
              obtain ⟨i, hi, rfl, HI⟩ := hrel
              by_cases hlt : i < m
              · have q1 : (i : Int) < (m : Int) := by omega
                have hok := rM_ok (nn := n) (i := i) (by omega) (by omega)
                have hc := recv_any HI.out.m hok (by omega) (by omega) 0 (by omega) ((50 : Int) + (i : Int)) (by omega)
                rw [recv_rM] at hc
                have HC := Lib.hid hc
                clear hc hok
                by_cases him : i < n
                · rw [if_pos him, if_pos him, decide_eq_true him] at HC
                  have q2 : (i : Int) < (n : Int) := by omega
                  go_wp2_with fail
                  refine HC.out.mono ?_
                  rintro e w3 ⟨rfl, hT⟩
                  have HS := Lib.hid (HI.out.of hT)
                  clear hT HC HI
                  go_wp2_with fail
                  exact ⟨⟨i + 1, by omega, by go_num, HS⟩, by simp [intOf]; omega⟩
                · rw [if_neg him, if_neg him, decide_eq_false him] at HC
                  have q2 : ¬ (i : Int) < (n : Int) := by omega
                  go_wp2_with fail
                  refine HC.out.mono ?_
                  rintro e w3 ⟨rfl, hT⟩
                  have HS := Lib.hid (HI.out.of hT)
                  clear hT HC HI
                  go_wp2_with fail
                  exact ⟨⟨i + 1, by omega, by go_num, HS⟩, by simp [intOf]; omega⟩
              · obtain rfl : i = m := by omega
                go_wp2_with fail
                exact ⟨⟨2, by omega, by go_num, Lib.hid (by have hh := HI.out; first | (rw [rM_sM] at hh; simpa [stM] using hh) | simpa [stM, rM] using hh)⟩, by simp [intOf]⟩
          · go_wp2_with fail
            go_loopw [14] (fun s14 wr2 => ∃ i : Nat, i ≤ m ∧ s14 = .int .i64 (i : Int) ∧ Hid (ChSt w wr2 (mkH k1 k2 k3 1 g) (rM n i))) (fun s14 _ => m - (intOf s14).toNat)
            case atStart => exact ⟨0, by omega, rfl, Lib.hid HB.out⟩
            case round =>
              obtain ⟨i, hi, rfl, HI⟩ := hrel
              by_cases hlt : i < m
              · have q1 : (i : Int) < (m : Int) := by omega
                have hok := rM_ok (nn := n) (i := i) (by omega) (by omega)
                have hc := recv_any HI.out.m hok (by omega) (by omega) 0 (by omega) ((50 : Int) + (i : Int)) (by omega)
                rw [recv_rM] at hc
                have HC := Lib.hid hc
                clear hc hok
                by_cases him : i < n
                · rw [if_pos him, if_pos him, decide_eq_true him] at HC
                  have q2 : (i : Int) < (n : Int) := by omega
                  go_wp2_with fail
                  refine HC.out.mono ?_
                  rintro e w3 ⟨rfl, hT⟩
                  have HS := Lib.hid (HI.out.of hT)
                  clear hT HC HI
                  go_wp2_with fail
                  exact ⟨⟨i + 1, by omega, by go_num, HS⟩, by simp [intOf]; omega⟩
                · rw [if_neg him, if_neg him, decide_eq_false him] at HC
                  have q2 : ¬ (i : Int) < (n : Int) := by omega
                  go_wp2_with fail
                  refine HC.out.mono ?_
                  rintro e w3 ⟨rfl, hT⟩
                  have HS := Lib.hid (HI.out.of hT)
                  clear hT HC HI
                  go_wp2_with fail
                  exact ⟨⟨i + 1, by omega, by go_num, HS⟩, by simp [intOf]; omega⟩
              · obtain rfl : i = m := by omega
                go_wp2_with fail
                exact ⟨⟨2, by omega, by go_num, Lib.hid (by have hh := HI.out; first | (rw [rM_sM] at hh; simpa [stM] using hh) | simpa [stM, rM] using hh)⟩, by simp [intOf]⟩
    · simp only [show ((2 : Nat) : Int) = 2 from rfl]
      have hend := HB0.out
      have hE : ChSt w wr (mkH k1 k2 k3 1 g) (C1 [] (flatV m (n - m)) (seqV n (m - n))) := by cases b2 <;> exact hend
      have hok : CkOk 100 1 (C1 [] (flatV m (n - m)) (seqV n (m - n))) := sM_ok (mm := m) (i := n) hm hn
      obtain ⟨c4, c8, c9⟩ := hE.m.cells
      obtain ⟨q, qcap, A, c, f1, f2, f3, f4, f5, f6, f7⟩ := hE.m.bf.at_ (i := 0) (by simp)
      obtain ⟨r, rcap, Ar, cr, g1, g2, g3, g4, g5, g6, g7⟩ := hE.m.rq.at_ (i := 0) (by simp)
      have hsn := senders_any hE.m hok (by omega) (by omega) 0 (by omega)
      have hsl : (sendersV (C1 [] (flatV m (n - m)) (seqV n (m - n))) 0).length = n - m := by
        unfold sendersV
        rw [evN_len]
        show (flatV m (n - m)).length / 2 = n - m
        rw [flatV_len]
        omega
      rw [show gl [([] : List Int)] 0 = [] from rfl, List.length_nil] at f5
      rw [show gl [seqV n (m - n)] 0 = seqV n (m - n) from rfl, seqV_len] at g5
      obtain rfl : k1 = q := by
        injection f1 with f1 _ _
        injection f1 with f1
        injection f1 with f1
      obtain rfl : k3 = r := by
        injection g1 with g1 _ _
        injection g1 with g1
        injection g1 with g1
      have hB := hE.b
      have hbx := hE.m.box
      obtain ⟨y0, y1, y2, y3, y4, y5, y6, y7, y8, y9⟩ := (⟨hbx.cell 0, hbx.cell 1, hbx.cell 2, hbx.cell 3, hbx.cell 4, hbx.cell 5, hbx.cell 6, hbx.cell 7, hbx.cell 8, hbx.cell 9⟩ : _ ∧ _ ∧ _ ∧ _ ∧ _ ∧ _ ∧ _ ∧ _ ∧ _ ∧ _)
      replace y0 := y0.trans rfl
      replace y1 := y1.trans rfl
      replace y2 := y2.trans rfl
      replace y3 := y3.trans rfl
      replace y4 := y4.trans rfl
      replace y5 := y5.trans rfl
      replace y6 := y6.trans rfl
      replace y7 := y7.trans rfl
      replace y8 := y8.trans rfl
      replace y9 := y9.trans rfl
      have hkp : ∀ W, Below wr.heap.size wr W → W.cell? ⟨g, 9, none⟩ = some (.slice (some ⟨k3, 0, none⟩) 1 1) ∧ W.cell? ⟨k3, 0, none⟩ = some (.slice Ar (m - n) cr) := fun W hb => ⟨(hb.cell (p := ⟨g, 9, none⟩) hbx.lt).trans c9, (hb.cell (p := ⟨k3, 0, none⟩) g3).trans g5⟩
      have hmx1 : ∀ W, (Builtin.max_ #[3, 3] 3 #[.int .i64 ((n : Int) - (m : Int)), .int .i64 0]).run Try.prog W = .ok (.int .i64 ((n - m : Nat) : Int)) W := by
        intro W
        rw [run_max_int2]
        split <;> congr 2 <;> omega
      have hmx2 : ∀ W, (Builtin.max_ #[3, 3] 3 #[.int .i64 ((m : Int) - (n : Int)), .int .i64 0]).run Try.prog W = .ok (.int .i64 ((m - n : Nat) : Int)) W := by
        intro W
        rw [run_max_int2]
        split <;> congr 2 <;> omega
      have HSN := Lib.hid hsn; have HB2 := Lib.hid hB; have HSL := Lib.hid hsl; have HKP := Lib.hid hkp
      clear hsn hB hsl hE hend hok HB0 g1 g2 g6 g7 f1 f2 f6 f7 c4 c8 hbx hkp
      generalize n - m = nm at *
      generalize m - n = mn at *
      go_wp2_with fail
      refine HSN.out.mono ?_
      rintro e w3 ⟨v, rfl, hv, hb3⟩
      obtain ⟨Av, cv, rfl⟩ := own_form_any hv
      rw [HSL.out]
      obtain ⟨z1, z2⟩ := HKP.out w3 hb3
      have HB3 := Lib.hid (HB2.out.trans (hb3.mono HB2.out.size))
      clear hv hb3 HSN HSL HKP y0 y1 y2 y3 y4 y5 y6 y7 y8 y9 f3 f5 g3 g5 c9
      go_wp2_with fail
      refine (HLV.out _).mono ?_
      rintro e w' ⟨rfl, hbl⟩
      go_wp2_with fail
      go_ret
      exact ⟨rfl, HB3.out.trans (hbl.mono HB3.out.size)⟩
end Go.Proofs.Ytbgigkamlnchcaa.chansMeet
