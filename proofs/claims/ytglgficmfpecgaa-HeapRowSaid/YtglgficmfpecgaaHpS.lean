
/-
  A heap's calls: sink, settle.
-/
import Derived.Test.YtglgficmfpecgaaHpR
set_option linter.unusedVariables false
set_option linter.unusedSimpArgs false
namespace Go.Proofs.Ytglgficmfpecgaa
open Go.RowKit Plain

section
variable {w : World} {B h n : Nat} {ts : List Tm}
set_option maxRecDepth 100000 in
set_option maxHeartbeats 8000000 in
theorem sink_any (i : Nat) (H : HP w B h ts n) (hB : B ≤ w.heap.size) (hi : i < ts.length) (hs : ts.length ≤ 100000) :
    Calls Try.prog 38 #[.pointer (some ⟨h, 0, none⟩), .int .i64 (i : Int)] w fun e w' => e = .returned (.tuple #[]) ∧ HP w' B h (sinkV ts i n).1 (sinkV ts i n).2 ∧ Fx B w w' := by
  have HH := Lib.hid H
  have HI := Lib.hid hi
  have HS := Lib.hid hs
  clear H hi hs
  go_enter Try.func38, Try.ntmps38
  go_wp2_with fail
  go_loopw [1] (fun s wr => ∃ (k : Nat) (us : List Tm) (q : Nat), s = .int .i64 (k : Int) ∧ Hid (k < us.length ∧ us.length = ts.length ∧ us.length ≤ 100000) ∧ Hid (sinkV us k q = sinkV ts i n) ∧ Hid (HP wr B h us q) ∧ Hid (Fx B w wr)) (fun s _ => ts.length - (intOf s).toNat)
  case atStart => exact ⟨i, ts, n, rfl, Lib.hid ⟨HI.out, rfl, HS.out⟩, Lib.hid rfl, HH, Lib.hid (Fx.refl _ _)⟩
  case round =>
    obtain ⟨k, us, q, rfl, hkl, hr, hh, hf⟩ := hrel
    have hBw := Nat.le_trans hB hf.out.bel.size
    obtain ⟨hk, hut, hl⟩ := hkl.out
    obtain ⟨A, c, c0, hc⟩ := hh.out.head
    obtain ⟨len, hlen⟩ : ∃ len, us.length = len := ⟨_, rfl⟩
    have HLEN := Lib.hid hlen
    have HUT := Lib.hid hut
    rw [hlen] at c0 hc hk hl
    clear hlen hut
    have hw1 : IntKind.i64.wrap (2 * (k : Int)) = 2 * (k : Int) := IntWalk.i64_in _ (by omega)
    have hw2 : IntKind.i64.wrap (2 * (k : Int) + 1) = 2 * (k : Int) + 1 := IntWalk.i64_in _ (by omega)
    have hw3 : IntKind.i64.wrap (2 * (k : Int) + 1 + 1) = 2 * (k : Int) + 1 + 1 := IntWalk.i64_in _ (by omega)
    by_cases hg1 : 2 * k + 1 < len
    · have hg1' : 2 * (k : Int) + 1 < (len : Int) := by omega
      by_cases hg2 : 2 * k + 2 < len
      · have hg2' : 2 * (k : Int) + 1 + 1 < (len : Int) := by omega
        have e2 : (((2 * k + 2 : Nat)) : Int) = 2 * (k : Int) + 1 + 1 := by omega
        have e1 : (((2 * k + 1 : Nat)) : Int) = 2 * (k : Int) + 1 := by omega
        have ha := ahead_hp (2 * k + 2) (2 * k + 1) hh.out hBw (by rw [HLEN.out]; omega) (by rw [HLEN.out]; omega) (by rw [HLEN.out]; omega)
        rw [e1, e2] at ha
        have hN : sinkN us k q = q + 2 := by unfold sinkN; rw [HLEN.out, if_pos hg2]
        by_cases ha2 : ahd (gt us (2 * k + 2)) (gt us (2 * k + 1))
        · have hM : minc us k = 2 * k + 2 := by unfold minc; rw [HLEN.out, if_pos ⟨hg2, ha2⟩]
          rw [decide_eq_true ha2] at ha
          have HA := Lib.hid ha; have HN := Lib.hid hN; have HM := Lib.hid hM
          clear ha hN hM ha2
          go_wp2_with fail
          refine HA.out.mono ?_
          rintro e w1 ⟨rfl, h1, f1⟩
          have hB1 := Nat.le_trans hBw f1.bel.size
          have hb := ahead_hp (2 * k + 2) k h1 hB1 (by rw [HLEN.out]; omega) (by rw [HLEN.out]; omega) (by rw [HLEN.out]; omega)
          rw [e2] at hb
          have HF1 := Lib.hid (hf.out.trans f1)
          clear h1 f1
          by_cases ha3 : ahd (gt us (2 * k + 2)) (gt us k)
          · rw [decide_eq_true ha3] at hb
            have hsw := fun (W : World) (hx : HP W B h us (q + 1 + 1)) (hxb : B ≤ W.heap.size) => swap_hp k (2 * k + 2) hx hxb (by rw [HLEN.out]; omega) (by rw [HLEN.out]; omega) (by omega) (by rw [HLEN.out]; omega)
            rw [e2] at hsw
            have hrr : sinkV us k q = sinkV (sw us k (2 * k + 2)) (2 * k + 2) (q + 1 + 1) := by
              rw [sinkV, HLEN.out, if_pos hg1, HM.out, if_pos ha3, HN.out]
            have HRR := Lib.hid hrr; have HSW := Lib.hid hsw; have HBB := Lib.hid hb
            clear hrr hsw hb ha3
            go_wp2_with fail
            refine HBB.out.mono ?_
            rintro e w2 ⟨rfl, h2, f2⟩
            have ha4 := HSW.out w2 h2 (Nat.le_trans hB1 f2.bel.size)
            have HA4 := Lib.hid ha4; have HF2 := Lib.hid (HF1.out.trans f2)
            clear ha4 h2 f2
            go_wp2_with fail
            refine HA4.out.mono ?_
            rintro e w3 ⟨rfl, h3, f3⟩
            have HH3 := Lib.hid h3; have HF3 := Lib.hid (HF2.out.trans f3)
            clear h3 f3
            go_wp2_with fail
            refine ⟨⟨2 * k + 2, sw us k (2 * k + 2), q + 1 + 1, by rw [e2], Lib.hid ⟨by rw [sw_length, HLEN.out]; omega, by rw [sw_length]; exact HUT.out, by rw [sw_length, HLEN.out]; omega⟩, Lib.hid (HRR.out.symm.trans hr.out), HH3, HF3⟩, ?_⟩
            have hz := HUT.out
            rw [HLEN.out] at hz
            simp only [intOf]
            omega
          · rw [decide_eq_false ha3] at hb
            have hrr : sinkV us k q = (us, q + 1 + 1) := by
              rw [sinkV, HLEN.out, if_pos hg1, HM.out, if_neg ha3, HN.out]
            have hrr2 := hr.out.symm.trans hrr
            have HRR := Lib.hid hrr2; have HBB := Lib.hid hb
            clear hrr hrr2 hb ha3
            go_wp2_with fail
            refine HBB.out.mono ?_
            rintro e w2 ⟨rfl, h2, f2⟩
            have HH2 := Lib.hid h2; have HF2 := Lib.hid (HF1.out.trans f2)
            clear h2 f2
            go_wp2_with fail
            refine bodyPost_ret (results_none rfl _ _ _) rfl ?_
            rw [HRR.out]
            exact ⟨rfl, HH2.out, HF2.out⟩
        · have hM : minc us k = 2 * k + 1 := by unfold minc; rw [if_neg (fun hc => ha2 hc.2)]
          rw [decide_eq_false ha2] at ha
          have HA := Lib.hid ha; have HN := Lib.hid hN; have HM := Lib.hid hM
          clear ha hN hM ha2
          go_wp2_with fail
          refine HA.out.mono ?_
          rintro e w1 ⟨rfl, h1, f1⟩
          have hB1 := Nat.le_trans hBw f1.bel.size
          have hb := ahead_hp (2 * k + 1) k h1 hB1 (by rw [HLEN.out]; omega) (by rw [HLEN.out]; omega) (by rw [HLEN.out]; omega)
          rw [e1] at hb
          have HF1 := Lib.hid (hf.out.trans f1)
          clear h1 f1
          by_cases ha3 : ahd (gt us (2 * k + 1)) (gt us k)
          · rw [decide_eq_true ha3] at hb
            have hsw := fun (W : World) (hx : HP W B h us (q + 1 + 1)) (hxb : B ≤ W.heap.size) => swap_hp k (2 * k + 1) hx hxb (by rw [HLEN.out]; omega) (by rw [HLEN.out]; omega) (by omega) (by rw [HLEN.out]; omega)
            rw [e1] at hsw
            have hrr : sinkV us k q = sinkV (sw us k (2 * k + 1)) (2 * k + 1) (q + 1 + 1) := by
              rw [sinkV, HLEN.out, if_pos hg1, HM.out, if_pos ha3, HN.out]
            have HRR := Lib.hid hrr; have HSW := Lib.hid hsw; have HBB := Lib.hid hb
            clear hrr hsw hb ha3
            go_wp2_with fail
            refine HBB.out.mono ?_
            rintro e w2 ⟨rfl, h2, f2⟩
            have ha4 := HSW.out w2 h2 (Nat.le_trans hB1 f2.bel.size)
            have HA4 := Lib.hid ha4; have HF2 := Lib.hid (HF1.out.trans f2)
            clear ha4 h2 f2
            go_wp2_with fail
            refine HA4.out.mono ?_
            rintro e w3 ⟨rfl, h3, f3⟩
            have HH3 := Lib.hid h3; have HF3 := Lib.hid (HF2.out.trans f3)
            clear h3 f3
            go_wp2_with fail
            refine ⟨⟨2 * k + 1, sw us k (2 * k + 1), q + 1 + 1, by rw [e1], Lib.hid ⟨by rw [sw_length, HLEN.out]; omega, by rw [sw_length]; exact HUT.out, by rw [sw_length, HLEN.out]; omega⟩, Lib.hid (HRR.out.symm.trans hr.out), HH3, HF3⟩, ?_⟩
            have hz := HUT.out
            rw [HLEN.out] at hz
            simp only [intOf]
            omega
          · rw [decide_eq_false ha3] at hb
            have hrr : sinkV us k q = (us, q + 1 + 1) := by
              rw [sinkV, HLEN.out, if_pos hg1, HM.out, if_neg ha3, HN.out]
            have hrr2 := hr.out.symm.trans hrr
            have HRR := Lib.hid hrr2; have HBB := Lib.hid hb
            clear hrr hrr2 hb ha3
            go_wp2_with fail
            refine HBB.out.mono ?_
            rintro e w2 ⟨rfl, h2, f2⟩
            have HH2 := Lib.hid h2; have HF2 := Lib.hid (HF1.out.trans f2)
            clear h2 f2
            go_wp2_with fail
            refine bodyPost_ret (results_none rfl _ _ _) rfl ?_
            rw [HRR.out]
            exact ⟨rfl, HH2.out, HF2.out⟩
      · have hg2' : ¬ 2 * (k : Int) + 1 + 1 < (len : Int) := by omega
        have e1 : (((2 * k + 1 : Nat)) : Int) = 2 * (k : Int) + 1 := by omega
        have hN : sinkN us k q = q + 1 := by unfold sinkN; rw [HLEN.out, if_neg hg2]
        have hM : minc us k = 2 * k + 1 := by unfold minc; rw [if_neg (fun hc => hg2 (by rw [← HLEN.out]; exact hc.1))]
        have HN := Lib.hid hN; have HM := Lib.hid hM
        have h1 := hh.out
        have f1 := Fx.refl B wr
        obtain ⟨w1, rfl⟩ : ∃ w1, w1 = wr := ⟨_, rfl⟩
        clear hN hM
        have hB1 := Nat.le_trans hBw f1.bel.size
        have hb := ahead_hp (2 * k + 1) k h1 hB1 (by rw [HLEN.out]; omega) (by rw [HLEN.out]; omega) (by rw [HLEN.out]; omega)
        rw [e1] at hb
        have HF1 := Lib.hid (hf.out.trans f1)
        clear h1 f1
        by_cases ha3 : ahd (gt us (2 * k + 1)) (gt us k)
        · rw [decide_eq_true ha3] at hb
          have hsw := fun (W : World) (hx : HP W B h us (q + 1)) (hxb : B ≤ W.heap.size) => swap_hp k (2 * k + 1) hx hxb (by rw [HLEN.out]; omega) (by rw [HLEN.out]; omega) (by omega) (by rw [HLEN.out]; omega)
          rw [e1] at hsw
          have hrr : sinkV us k q = sinkV (sw us k (2 * k + 1)) (2 * k + 1) (q + 1) := by
            rw [sinkV, HLEN.out, if_pos hg1, HM.out, if_pos ha3, HN.out]
          have HRR := Lib.hid hrr; have HSW := Lib.hid hsw; have HBB := Lib.hid hb
          clear hrr hsw hb ha3
          go_wp2_with fail
          refine HBB.out.mono ?_
          rintro e w2 ⟨rfl, h2, f2⟩
          have ha4 := HSW.out w2 h2 (Nat.le_trans hB1 f2.bel.size)
          have HA4 := Lib.hid ha4; have HF2 := Lib.hid (HF1.out.trans f2)
          clear ha4 h2 f2
          go_wp2_with fail
          refine HA4.out.mono ?_
          rintro e w3 ⟨rfl, h3, f3⟩
          have HH3 := Lib.hid h3; have HF3 := Lib.hid (HF2.out.trans f3)
          clear h3 f3
          go_wp2_with fail
          refine ⟨⟨2 * k + 1, sw us k (2 * k + 1), q + 1, by rw [e1], Lib.hid ⟨by rw [sw_length, HLEN.out]; omega, by rw [sw_length]; exact HUT.out, by rw [sw_length, HLEN.out]; omega⟩, Lib.hid (HRR.out.symm.trans hr.out), HH3, HF3⟩, ?_⟩
          have hz := HUT.out
          rw [HLEN.out] at hz
          simp only [intOf]
          omega
        · rw [decide_eq_false ha3] at hb
          have hrr : sinkV us k q = (us, q + 1) := by
            rw [sinkV, HLEN.out, if_pos hg1, HM.out, if_neg ha3, HN.out]
          have hrr2 := hr.out.symm.trans hrr
          have HRR := Lib.hid hrr2; have HBB := Lib.hid hb
          clear hrr hrr2 hb ha3
          go_wp2_with fail
          refine HBB.out.mono ?_
          rintro e w2 ⟨rfl, h2, f2⟩
          have HH2 := Lib.hid h2; have HF2 := Lib.hid (HF1.out.trans f2)
          clear h2 f2
          go_wp2_with fail
          refine bodyPost_ret (results_none rfl _ _ _) rfl ?_
          rw [HRR.out]
          exact ⟨rfl, HH2.out, HF2.out⟩
    · have hg1' : ¬ 2 * (k : Int) + 1 < (len : Int) := by omega
      have hrr : sinkV us k q = (us, q) := by rw [sinkV, HLEN.out, if_neg hg1]
      have hrr2 := hr.out.symm.trans hrr
      have HRR := Lib.hid hrr2
      clear hrr hrr2
      go_wp2_with fail
      go_end0
      rw [HRR.out]
      exact ⟨rfl, hh.out, hf.out⟩

theorem settle_any (i : Nat) (H : HP w B h ts n) (hB : B ≤ w.heap.size) (hi : i < ts.length) (hs : ts.length ≤ 100000) :
    Calls Try.prog 31 #[.pointer (some ⟨h, 0, none⟩), .int .i64 (i : Int)] w fun e w' => e = .returned (.tuple #[]) ∧ HP w' B h (settleV ts i n).1 (settleV ts i n).2 ∧ Fx B w w' := by
  have hr := rise_any i H hB hi hs
  by_cases he : (riseV ts i n).2.1 = i
  · have hv : settleV ts i n = sinkV (riseV ts i n).1 i (riseV ts i n).2.2 := if_pos he
    rw [decide_eq_true he] at hr
    have HR := Lib.hid hr; have HV := Lib.hid hv
    have hlen := riseV_len ts i n hi
    have HL := Lib.hid hlen
    clear hr hv hlen he
    go_enter Try.func31, Try.ntmps31
    go_wp2_with fail
    refine HR.out.mono ?_
    rintro e w1 ⟨rfl, h1, f1⟩
    have hq := sink_any i h1 (Nat.le_trans hB f1.bel.size) (by rw [HL.out]; exact hi) (by rw [HL.out]; exact hs)
    have HQ := Lib.hid hq; have HF := Lib.hid f1
    clear hq f1 h1
    go_wp2_with fail
    refine HQ.out.mono ?_
    rintro e w2 ⟨rfl, h2, f2⟩
    go_wp2_with fail
    go_end0
    rw [HV.out]
    exact ⟨rfl, h2, HF.out.trans f2⟩
  · have hv : settleV ts i n = ((riseV ts i n).1, (riseV ts i n).2.2) := if_neg he
    rw [decide_eq_false he] at hr
    have HR := Lib.hid hr; have HV := Lib.hid hv
    clear hr hv he
    go_enter Try.func31, Try.ntmps31
    go_wp2_with fail
    refine HR.out.mono ?_
    rintro e w1 ⟨rfl, h1, f1⟩
    have HF := Lib.hid f1; have HH1 := Lib.hid h1
    clear f1 h1
    go_wp2_with fail
    go_end0
    rw [HV.out]
    exact ⟨rfl, HH1.out, HF.out⟩
end
end Go.Proofs.Ytglgficmfpecgaa
