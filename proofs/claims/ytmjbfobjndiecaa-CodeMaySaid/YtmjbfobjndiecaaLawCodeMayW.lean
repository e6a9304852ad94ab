
/-
  The walk of CodeMay.
-/
import Derived.Test.YtmjbfobjndiecaaRows
import Derived.WalkKit
import Derived.ProofKit
import Derived.OpenShut
import Derived.ShutString
import Derived.ChangeOld
import Derived.Below
import Derived.Test.YtmjbfobjndiecaaCsW
import Derived.Test.YtmjbfobjndiecaaCsN
import Derived.Test.YtmjbfobjndiecaaPrOpen
import Derived.Test.YtmjbfobjndiecaaCLives
import Derived.Test.YtmjbfobjndiecaaSame
import Derived.Test.YtmjbfobjndiecaaCrQ
import Derived.Test.YtmjbfobjndiecaaWriteN
import Derived.Test.YtmjbfobjndiecaaRefMayP
import Derived.Test.YtmjbfobjndiecaaGoodR
namespace Go.Proofs.Ytmjbfobjndiecaa.codeMay
open Go.ChangeShapes Go.WideShapes Go.ChangeAt Go.RowKit Go.Proofs.Ytmjbfobjndiecaa Go.Proofs.Ytmjbfobjndiecaa.Plain
open Go.ChangeMaps (open_string shut_string)
set_option linter.unusedVariables false


theorem bool_cases (b : Bool) : b = true ∨ b = false := by cases b <;> simp
set_option maxRecDepth 100000 in
set_option maxHeartbeats 40000000 in
theorem walk (hd0 : PH) (q0 : PV) (w : World) (w0 : RP w w.heap.size hd0 q0 ∧ Fit q0 ∧ Lens q0) :
    Calls Try.prog 3 #[.agg #[.slice hd0.fA q0.funcs.length hd0.fc, .int .i64 q0.mutexes, .slice hd0.cA q0.conds.length hd0.cc, .slice hd0.sA q0.semas.length hd0.sc, .slice hd0.hA q0.chans.length hd0.hc, .slice hd0.xA q0.choices.length hd0.xc, .int .i64 q0.threads]] w fun e w' => e = .returned (.bool true) ∧ Below w.heap.size w w' := by
  obtain ⟨hrp, hfit, hlen⟩ := w0
  have hm0 := good_mayC q0 hfit
  have hgl := good_lens q0
  obtain ⟨W0, hW0⟩ : ∃ X, X = w.alloc (.cells #[.slice hd0.fA q0.funcs.length hd0.fc, .int .i64 q0.mutexes, .slice hd0.cA q0.conds.length hd0.cc, .slice hd0.sA q0.semas.length hd0.sc, .slice hd0.hA q0.chans.length hd0.hc, .slice hd0.xA q0.choices.length hd0.xc, .int .i64 q0.threads] 26) := ⟨_, rfl⟩
  have h0 : Below w.heap.size w W0 := by rw [hW0]; exact (Below.refl _ _).alloc (Nat.le_refl _) _
  have hk0 : Blk W0 w.heap.size 26 #[.slice hd0.fA q0.funcs.length hd0.fc, .int .i64 q0.mutexes, .slice hd0.cA q0.conds.length hd0.cc, .slice hd0.sA q0.semas.length hd0.sc, .slice hd0.hA q0.chans.length hd0.hc, .slice hd0.xA q0.choices.length hd0.xc, .int .i64 q0.threads] := by rw [hW0]; exact Blk.new _ _ _
  have hr0 : RP W0 w.heap.size hd0 q0 := hrp.below h0
  have z0 := h0.size
  have HKP : Hid (∀ X, Below W0.heap.size W0 X → (X.cell? ⟨w.heap.size, 0, none⟩ = some (.slice hd0.fA q0.funcs.length hd0.fc) ∧ X.cell? ⟨w.heap.size, 1, none⟩ = some (.int .i64 q0.mutexes) ∧ X.cell? ⟨w.heap.size, 2, none⟩ = some (.slice hd0.cA q0.conds.length hd0.cc) ∧ X.cell? ⟨w.heap.size, 3, none⟩ = some (.slice hd0.sA q0.semas.length hd0.sc) ∧ X.cell? ⟨w.heap.size, 4, none⟩ = some (.slice hd0.hA q0.chans.length hd0.hc) ∧ X.cell? ⟨w.heap.size, 5, none⟩ = some (.slice hd0.xA q0.choices.length hd0.xc) ∧ X.cell? ⟨w.heap.size, 6, none⟩ = some (.int .i64 q0.threads)) ∧ RP X w.heap.size hd0 q0) := fun X hX =>
    ⟨⟨((hk0.below hX hk0.lt).cell 0).trans rfl, ((hk0.below hX hk0.lt).cell 1).trans rfl, ((hk0.below hX hk0.lt).cell 2).trans rfl, ((hk0.below hX hk0.lt).cell 3).trans rfl, ((hk0.below hX hk0.lt).cell 4).trans rfl, ((hk0.below hX hk0.lt).cell 5).trans rfl, ((hk0.below hX hk0.lt).cell 6).trans rfl⟩, hr0.below (hX.mono z0)⟩
  obtain ⟨m0, m1, m2, m3, m4, m5, m6⟩ : W0.cell? ⟨w.heap.size, 0, none⟩ = some (.slice hd0.fA q0.funcs.length hd0.fc) ∧ W0.cell? ⟨w.heap.size, 1, none⟩ = some (.int .i64 q0.mutexes) ∧ W0.cell? ⟨w.heap.size, 2, none⟩ = some (.slice hd0.cA q0.conds.length hd0.cc) ∧ W0.cell? ⟨w.heap.size, 3, none⟩ = some (.slice hd0.sA q0.semas.length hd0.sc) ∧ W0.cell? ⟨w.heap.size, 4, none⟩ = some (.slice hd0.hA q0.chans.length hd0.hc) ∧ W0.cell? ⟨w.heap.size, 5, none⟩ = some (.slice hd0.xA q0.choices.length hd0.xc) ∧ W0.cell? ⟨w.heap.size, 6, none⟩ = some (.int .i64 q0.threads) := ⟨((hk0).cell 0).trans rfl, ((hk0).cell 1).trans rfl, ((hk0).cell 2).trans rfl, ((hk0).cell 3).trans rfl, ((hk0).cell 4).trans rfl, ((hk0).cell 5).trans rfl, ((hk0).cell 6).trans rfl⟩
  have HW0 := Lib.hid hW0.symm; have HR0 := Lib.hid hr0; have HF0 := Lib.hid hfit; have HM0 := Lib.hid hm0; have H0 := Lib.hid h0; have HLE := Lib.hid hlen; have HGL := Lib.hid hgl
  clear hrp hlen hfit hm0 hr0 hW0 hk0 h0 hgl
  go_enter Try.func3, Try.ntmps3
  go_upto_region 1 with fail
  rw [HW0.out]
  go_wp2_with fail
  refine (good_any hd0 q0 W0 w.heap.size HR0.out (by omega) HF0.out).mono ?_
  rintro e w1 hm
  obtain ⟨hg, rfl, hrg, hbg⟩ := hm.rp
  clear hm m0 m1 m2 m3 m4 m5 m6 HF0 HR0
  generalize good q0 = g at *
  obtain ⟨fA, fc, cA, cc, sA, sc, hA, hc, xA, xc⟩ := hg
  simp only at hrg ⊢
  obtain ⟨U1, hU1⟩ : ∃ X, X = w1.alloc (.cells #[.slice fA g.funcs.length fc, .int .i64 g.mutexes, .slice cA g.conds.length cc, .slice sA g.semas.length sc, .slice hA g.chans.length hc, .slice xA g.choices.length xc, .int .i64 g.threads] 26) := ⟨_, rfl⟩
  have hb1 : Below w1.heap.size w1 U1 := by rw [hU1]; exact (Below.refl _ _).alloc (Nat.le_refl _) _
  have hk1 : Blk U1 w1.heap.size 26 #[.slice fA g.funcs.length fc, .int .i64 g.mutexes, .slice cA g.conds.length cc, .slice sA g.semas.length sc, .slice hA g.chans.length hc, .slice xA g.choices.length xc, .int .i64 g.threads] := by rw [hU1]; exact Blk.new _ _ _
  have hz1 := hbg.size
  have HU1 := Lib.hid hU1.symm
  have hb01 : Below W0.heap.size W0 U1 := hbg.trans (hb1.mono hz1)
  have HB1 : Hid (∀ X, Below U1.heap.size U1 X → Below w.heap.size w X) := fun X hX => H0.out.trans ((hb01.trans (hX.mono hb01.size)).mono z0)
  have HKG : Hid (∀ X, Below U1.heap.size U1 X → ((X.cell? ⟨w1.heap.size, 0, none⟩ = some (.slice fA g.funcs.length fc) ∧ X.cell? ⟨w1.heap.size, 1, none⟩ = some (.int .i64 g.mutexes) ∧ X.cell? ⟨w1.heap.size, 2, none⟩ = some (.slice cA g.conds.length cc) ∧ X.cell? ⟨w1.heap.size, 3, none⟩ = some (.slice sA g.semas.length sc) ∧ X.cell? ⟨w1.heap.size, 4, none⟩ = some (.slice hA g.chans.length hc) ∧ X.cell? ⟨w1.heap.size, 5, none⟩ = some (.slice xA g.choices.length xc) ∧ X.cell? ⟨w1.heap.size, 6, none⟩ = some (.int .i64 g.threads)) ∧ RP X U1.heap.size ⟨fA, fc, cA, cc, sA, sc, hA, hc, xA, xc⟩ g) ∧ (X.cell? ⟨w.heap.size, 0, none⟩ = some (.slice hd0.fA q0.funcs.length hd0.fc) ∧ X.cell? ⟨w.heap.size, 1, none⟩ = some (.int .i64 q0.mutexes) ∧ X.cell? ⟨w.heap.size, 2, none⟩ = some (.slice hd0.cA q0.conds.length hd0.cc) ∧ X.cell? ⟨w.heap.size, 3, none⟩ = some (.slice hd0.sA q0.semas.length hd0.sc) ∧ X.cell? ⟨w.heap.size, 4, none⟩ = some (.slice hd0.hA q0.chans.length hd0.hc) ∧ X.cell? ⟨w.heap.size, 5, none⟩ = some (.slice hd0.xA q0.choices.length hd0.xc) ∧ X.cell? ⟨w.heap.size, 6, none⟩ = some (.int .i64 q0.threads)) ∧ RP X w.heap.size hd0 q0) := fun X hX =>
    ⟨⟨⟨((hk1.below hX hk1.lt).cell 0).trans rfl, ((hk1.below hX hk1.lt).cell 1).trans rfl, ((hk1.below hX hk1.lt).cell 2).trans rfl, ((hk1.below hX hk1.lt).cell 3).trans rfl, ((hk1.below hX hk1.lt).cell 4).trans rfl, ((hk1.below hX hk1.lt).cell 5).trans rfl, ((hk1.below hX hk1.lt).cell 6).trans rfl⟩, ((hrg.below hb1).more hb1.size).below hX⟩, HKP.out X (hb01.trans (hX.mono hb01.size))⟩
  have zz : w.heap.size ≤ U1.heap.size := by have := hb01.size; omega
  clear hU1 hb1 hrg hbg hk1 hb01 HKP
  go_upto_region 2 with fail
  rw [HU1.out]
  have hX0 := Below.refl U1.heap.size U1
  obtain ⟨⟨⟨m0, m1, m2, m3, m4, m5, m6⟩, hrg⟩, ⟨r0, r1, r2, r3, r4, r5, r6⟩, hrr⟩ := HKG.out U1 hX0
  have zzU1 := hX0.size
  have HG := Lib.hid hrg; have HR := Lib.hid hrr
  clear hrg hrr
  go_wp2_with fail
  refine (refMay_any hd0 q0 U1 w.heap.size HR.out zz HLE.out).mono ?_
  rintro e X1 ⟨rfl, hX1⟩
  clear m0 m1 m2 m3 m4 m5 m6 r0 r1 r2 r3 r4 r5 r6 HG HR zzU1
  obtain ⟨⟨⟨m0, m1, m2, m3, m4, m5, m6⟩, hrg⟩, ⟨r0, r1, r2, r3, r4, r5, r6⟩, hrr⟩ := HKG.out X1 hX1
  have zzX1 := hX1.size
  have HG := Lib.hid hrg; have HR := Lib.hid hrr
  clear hrg hrr
  rcases bool_cases (mayB q0) with hb | hb
  · rw [hb]
    have HB := Lib.hid hb
    clear hb
    have hc : mayC q0 = true := by rw [may_eq]; exact HB.out
    have hpt := puts_of q0 hc
    have HC := Lib.hid hc; have HPT := Lib.hid hpt
    clear hc hpt
    go_wp2_with fail
    refine (write_yes hd0 q0 X1 w.heap.size HR.out (by omega) HLE.out HC.out).mono ?_
    rintro e X2 ⟨A2, c2, rfl, ho2, hY⟩
    have hX2 : Below U1.heap.size U1 X2 := hX1.trans (hY.mono zzX1)
    clear hY
    have HO2 := Lib.hid ho2
    clear ho2
    clear m0 m1 m2 m3 m4 m5 m6 r0 r1 r2 r3 r4 r5 r6 HG HR zzX1
    obtain ⟨⟨⟨m0, m1, m2, m3, m4, m5, m6⟩, hrg⟩, ⟨r0, r1, r2, r3, r4, r5, r6⟩, hrr⟩ := HKG.out X2 hX2
    have zzX2 := hX2.size
    have HG := Lib.hid hrg; have HR := Lib.hid hrr
    clear hrg hrr
    go_wp2_with fail
    refine (mayC_any hd0 q0 X2 w.heap.size HR.out (by omega) HLE.out).mono ?_
    rintro e X3 ⟨rfl, hY⟩
    have hX3 : Below U1.heap.size U1 X3 := hX2.trans (hY.mono zzX2)
    have HY3 := Lib.hid hY
    clear hY
    rw [HC.out]
    clear m0 m1 m2 m3 m4 m5 m6 r0 r1 r2 r3 r4 r5 r6 HG HR zzX2
    obtain ⟨⟨⟨m0, m1, m2, m3, m4, m5, m6⟩, hrg⟩, ⟨r0, r1, r2, r3, r4, r5, r6⟩, hrr⟩ := HKG.out X3 hX3
    have zzX3 := hX3.size
    have HG := Lib.hid hrg; have HR := Lib.hid hrr
    clear hrg hrr
    go_wp2_with fail
    refine (mayC_yes ⟨fA, fc, cA, cc, sA, sc, hA, hc, xA, xc⟩ g X3 U1.heap.size HG.out (by omega) HGL.out HM0.out).mono ?_
    rintro e X4 ⟨rfl, hY⟩
    have hX4 : Below U1.heap.size U1 X4 := hX3.trans (hY.mono zzX3)
    have HY24 : Hid (Below X2.heap.size X2 X4) := HY3.out.trans (hY.mono HY3.out.size)
    clear hY
    clear m0 m1 m2 m3 m4 m5 m6 r0 r1 r2 r3 r4 r5 r6 HG HR zzX3
    obtain ⟨⟨⟨m0, m1, m2, m3, m4, m5, m6⟩, hrg⟩, ⟨r0, r1, r2, r3, r4, r5, r6⟩, hrr⟩ := HKG.out X4 hX4
    have zzX4 := hX4.size
    have HG := Lib.hid hrg; have HR := Lib.hid hrr
    clear hrg hrr
    go_wp2_with fail
    refine (refWrite_any hd0 q0 X4 w.heap.size HR.out (by omega) HPT.out).mono ?_
    rintro e w9 ⟨v9, rfl, A9, c9, rfl, how9, hbw9⟩
    have hX9 : Below U1.heap.size U1 w9 := hX4.trans (hbw9.mono zzX4)
    have HSM := Lib.hid (same_yes (progL q0) (progL q0).length rfl w9 X2.heap.size w9.heap.size A2 A9 c2 c9 ((Reads.of_own HO2.out).below (HY24.out.trans (hbw9.mono HY24.out.size))) (Reads.of_own how9) (progL_len HPT.out))
    have HX9 := Lib.hid hX9
    clear how9 hbw9 hX9
    clear m0 m1 m2 m3 m4 m5 m6 r0 r1 r2 r3 r4 r5 r6 HG HR zzX4
    go_wp2_with fail
    refine HSM.out.mono ?_
    rintro e w10 ⟨rfl, d, rfl⟩
    clear HSM
    go_wp2_with fail
    refine (clives_any _).mono ?_
    rintro e w11 ⟨rfl, hb11⟩
    have HFIN : Hid (Below w.heap.size w w11) := HB1.out _ ((below_drews HX9.out d).trans (hb11.mono HX9.out.size))
    clear hb11
    go_wp2_with fail
    go_ret
    exact ⟨rfl, HFIN.out⟩
  · rw [hb]
    have HB := Lib.hid hb
    clear hb
    have hc : mayC q0 = false := by rw [may_eq]; exact HB.out
    have HC := Lib.hid hc
    clear hc
    go_wp2_with fail
    refine (write_no hd0 q0 X1 w.heap.size HR.out (by omega) HLE.out HC.out).mono ?_
    rintro e X2 ⟨rfl, hY⟩
    have hX2 : Below U1.heap.size U1 X2 := hX1.trans (hY.mono zzX1)
    clear hY
    clear m0 m1 m2 m3 m4 m5 m6 r0 r1 r2 r3 r4 r5 r6 HG HR zzX1
    obtain ⟨⟨⟨m0, m1, m2, m3, m4, m5, m6⟩, hrg⟩, ⟨r0, r1, r2, r3, r4, r5, r6⟩, hrr⟩ := HKG.out X2 hX2
    have zzX2 := hX2.size
    have HG := Lib.hid hrg; have HR := Lib.hid hrr
    clear hrg hrr
    go_wp2_with fail
    refine (mayC_any hd0 q0 X2 w.heap.size HR.out (by omega) HLE.out).mono ?_
    rintro e X3 ⟨rfl, hY⟩
    have hX3 : Below U1.heap.size U1 X3 := hX2.trans (hY.mono zzX2)
    clear hY
    rw [HC.out]
    clear m0 m1 m2 m3 m4 m5 m6 r0 r1 r2 r3 r4 r5 r6 HG HR zzX2
    obtain ⟨⟨⟨m0, m1, m2, m3, m4, m5, m6⟩, hrg⟩, ⟨r0, r1, r2, r3, r4, r5, r6⟩, hrr⟩ := HKG.out X3 hX3
    have zzX3 := hX3.size
    have HG := Lib.hid hrg; have HR := Lib.hid hrr
    clear hrg hrr
    go_wp2_with fail
    refine (mayC_yes ⟨fA, fc, cA, cc, sA, sc, hA, hc, xA, xc⟩ g X3 U1.heap.size HG.out (by omega) HGL.out HM0.out).mono ?_
    rintro e X4 ⟨rfl, hY⟩
    have hX4 : Below U1.heap.size U1 X4 := hX3.trans (hY.mono zzX3)
    clear hY
    clear m0 m1 m2 m3 m4 m5 m6 r0 r1 r2 r3 r4 r5 r6 HG HR zzX3
    obtain ⟨⟨⟨m0, m1, m2, m3, m4, m5, m6⟩, hrg⟩, ⟨r0, r1, r2, r3, r4, r5, r6⟩, hrr⟩ := HKG.out X4 hX4
    have zzX4 := hX4.size
    have HG := Lib.hid hrg; have HR := Lib.hid hrr
    clear hrg hrr
    clear m0 m1 m2 m3 m4 m5 m6 r0 r1 r2 r3 r4 r5 r6 HG HR zzX4
    go_wp2_with fail
    refine (clives_any _).mono ?_
    rintro e w11 ⟨rfl, hb11⟩
    have HFIN : Hid (Below w.heap.size w w11) := HB1.out _ (hX4.trans (hb11.mono hX4.size))
    clear hb11
    go_wp2_with fail
    go_ret
    exact ⟨rfl, HFIN.out⟩
end Go.Proofs.Ytmjbfobjndiecaa.codeMay
