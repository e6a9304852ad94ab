
/-
  The walk of CodeRound.
-/
import Derived.Test.YtmjbfobjndiecaaRows
import Derived.WalkKit
import Derived.ProofKit
import Derived.OpenShut
import Derived.ShutString
import Derived.ChangeOld
import Derived.Below
import Derived.Test.YtmjbfobjndiecaaCsD
import Derived.Test.YtmjbfobjndiecaaCsW
import Derived.Test.YtmjbfobjndiecaaCsN
import Derived.Test.YtmjbfobjndiecaaCsP
import Derived.Test.YtmjbfobjndiecaaPrOpen
import Derived.Test.YtmjbfobjndiecaaCLives
import Derived.Test.YtmjbfobjndiecaaSame
import Derived.Test.YtmjbfobjndiecaaCrD
import Derived.Test.YtmjbfobjndiecaaCrQ
namespace Go.Proofs.Ytmjbfobjndiecaa.codeRound
open Go.ChangeShapes Go.WideShapes Go.ChangeAt Go.RowKit Go.Proofs.Ytmjbfobjndiecaa Go.Proofs.Ytmjbfobjndiecaa.Plain
open Go.ChangeMaps (open_string shut_string)
set_option linter.unusedVariables false


set_option maxRecDepth 100000 in
set_option maxHeartbeats 40000000 in
theorem walk (hd0 : PH) (q0 : PV) (w : World) (w0 : RP w w.heap.size hd0 q0 ∧ Fit q0 ∧ Lens q0) :
    Calls Try.prog 4 #[.agg #[.slice hd0.fA q0.funcs.length hd0.fc, .int .i64 q0.mutexes, .slice hd0.cA q0.conds.length hd0.cc, .slice hd0.sA q0.semas.length hd0.sc, .slice hd0.hA q0.chans.length hd0.hc, .slice hd0.xA q0.choices.length hd0.xc, .int .i64 q0.threads]] w fun e w' => e = .returned (.bool true) ∧ Below w.heap.size w w' := by
  obtain ⟨hrp, hfit, hlen⟩ := w0
  have hp0 := good_puts q0 hfit
  have hm0 := good_mayC q0 hfit
  obtain ⟨W0, hW0⟩ : ∃ X, X = w.alloc (.cells #[.slice hd0.fA q0.funcs.length hd0.fc, .int .i64 q0.mutexes, .slice hd0.cA q0.conds.length hd0.cc, .slice hd0.sA q0.semas.length hd0.sc, .slice hd0.hA q0.chans.length hd0.hc, .slice hd0.xA q0.choices.length hd0.xc, .int .i64 q0.threads] 26) := ⟨_, rfl⟩
  have h0 : Below w.heap.size w W0 := by rw [hW0]; exact (Below.refl _ _).alloc (Nat.le_refl _) _
  have hk0 : Blk W0 w.heap.size 26 #[.slice hd0.fA q0.funcs.length hd0.fc, .int .i64 q0.mutexes, .slice hd0.cA q0.conds.length hd0.cc, .slice hd0.sA q0.semas.length hd0.sc, .slice hd0.hA q0.chans.length hd0.hc, .slice hd0.xA q0.choices.length hd0.xc, .int .i64 q0.threads] := by rw [hW0]; exact Blk.new _ _ _
  have hr0 : RP W0 w.heap.size hd0 q0 := hrp.below h0
  have z0 := h0.size
  obtain ⟨m0, m1, m2, m3, m4, m5, m6⟩ : W0.cell? ⟨w.heap.size, 0, none⟩ = some (.slice hd0.fA q0.funcs.length hd0.fc) ∧ W0.cell? ⟨w.heap.size, 1, none⟩ = some (.int .i64 q0.mutexes) ∧ W0.cell? ⟨w.heap.size, 2, none⟩ = some (.slice hd0.cA q0.conds.length hd0.cc) ∧ W0.cell? ⟨w.heap.size, 3, none⟩ = some (.slice hd0.sA q0.semas.length hd0.sc) ∧ W0.cell? ⟨w.heap.size, 4, none⟩ = some (.slice hd0.hA q0.chans.length hd0.hc) ∧ W0.cell? ⟨w.heap.size, 5, none⟩ = some (.slice hd0.xA q0.choices.length hd0.xc) ∧ W0.cell? ⟨w.heap.size, 6, none⟩ = some (.int .i64 q0.threads) := ⟨((hk0).cell 0).trans rfl, ((hk0).cell 1).trans rfl, ((hk0).cell 2).trans rfl, ((hk0).cell 3).trans rfl, ((hk0).cell 4).trans rfl, ((hk0).cell 5).trans rfl, ((hk0).cell 6).trans rfl⟩
  have HW0 := Lib.hid hW0.symm; have HR0 := Lib.hid hr0; have HF0 := Lib.hid hfit; have HP0 := Lib.hid hp0; have HM0 := Lib.hid hm0; have H0 := Lib.hid h0
  clear hrp hlen hfit hp0 hm0 hr0 hW0 hk0 h0
  go_enter Try.func4, Try.ntmps4
  go_upto_region 1 with fail
  rw [HW0.out]
  go_wp2_with fail
  refine (good_any hd0 q0 W0 w.heap.size HR0.out (by omega) HF0.out).mono ?_
  rintro e w1 hm
  obtain ⟨hg, rfl, hrg, hbg⟩ := hm.rp
  clear hm m0 m1 m2 m3 m4 m5 m6 HF0 HR0
  generalize good q0 = g at *
  obtain ⟨fA, fc, cA, cc, sA, sc, hA, hc, xA, xc⟩ := hg
  simp only at hrg ⊢
  obtain ⟨U1, hU1⟩ : ∃ X, X = w1.alloc (.cells #[.slice fA g.funcs.length fc, .int .i64 g.mutexes, .slice cA g.conds.length cc, .slice sA g.semas.length sc, .slice hA g.chans.length hc, .slice xA g.choices.length xc, .int .i64 g.threads] 26) := ⟨_, rfl⟩
  have hb1 : Below w1.heap.size w1 U1 := by rw [hU1]; exact (Below.refl _ _).alloc (Nat.le_refl _) _
  have hk1 : Blk U1 w1.heap.size 26 #[.slice fA g.funcs.length fc, .int .i64 g.mutexes, .slice cA g.conds.length cc, .slice sA g.semas.length sc, .slice hA g.chans.length hc, .slice xA g.choices.length xc, .int .i64 g.threads] := by rw [hU1]; exact Blk.new _ _ _
  have hz1 := hbg.size
  have HU1 := Lib.hid hU1.symm
  have HB1 : Hid (Below w.heap.size w U1) := H0.out.trans ((hbg.trans (hb1.mono hz1)).mono z0)
  have HKG : Hid (∀ X, Below U1.heap.size U1 X → (X.cell? ⟨w1.heap.size, 0, none⟩ = some (.slice fA g.funcs.length fc) ∧ X.cell? ⟨w1.heap.size, 1, none⟩ = some (.int .i64 g.mutexes) ∧ X.cell? ⟨w1.heap.size, 2, none⟩ = some (.slice cA g.conds.length cc) ∧ X.cell? ⟨w1.heap.size, 3, none⟩ = some (.slice sA g.semas.length sc) ∧ X.cell? ⟨w1.heap.size, 4, none⟩ = some (.slice hA g.chans.length hc) ∧ X.cell? ⟨w1.heap.size, 5, none⟩ = some (.slice xA g.choices.length xc) ∧ X.cell? ⟨w1.heap.size, 6, none⟩ = some (.int .i64 g.threads)) ∧ RP X U1.heap.size ⟨fA, fc, cA, cc, sA, sc, hA, hc, xA, xc⟩ g) := fun X hX =>
    ⟨⟨((hk1.below hX hk1.lt).cell 0).trans rfl, ((hk1.below hX hk1.lt).cell 1).trans rfl, ((hk1.below hX hk1.lt).cell 2).trans rfl, ((hk1.below hX hk1.lt).cell 3).trans rfl, ((hk1.below hX hk1.lt).cell 4).trans rfl, ((hk1.below hX hk1.lt).cell 5).trans rfl, ((hk1.below hX hk1.lt).cell 6).trans rfl⟩, ((hrg.below hb1).more hb1.size).below hX⟩
  clear hU1 hb1 hrg hbg hk1
  go_upto_region 2 with fail
  rw [HU1.out]
  obtain ⟨⟨m0, m1, m2, m3, m4, m5, m6⟩, hrg⟩ := HKG.out U1 (Below.refl _ _)
  have HRG := Lib.hid hrg
  clear hrg
  go_wp2_with fail
  refine (write_yes ⟨fA, fc, cA, cc, sA, sc, hA, hc, xA, xc⟩ g U1 U1.heap.size HRG.out (Nat.le_refl _) (puts_lens HP0.out) HM0.out).mono ?_
  rintro e w2 ⟨A2, c2, rfl, ho2, hb2⟩
  have hlen := progL_len HP0.out
  have hrd := read_any (progL g) (progL g).length rfl (progL_lt g) w2 w2.heap.size A2 c2 (Reads.of_own ho2) (Nat.le_refl _) hlen
  have HRD := Lib.hid hrd; have HO2 := Lib.hid ho2; have HB2 := Lib.hid hb2; have HLEN := Lib.hid hlen
  clear hrd ho2 hb2 hlen m0 m1 m2 m3 m4 m5 m6
  go_wp2_with fail
  refine HRD.out.mono ?_
  rintro e w3 ⟨hd3, he, hrp3, hb3⟩
  have hrb := read_back g (by rw [← may_eq]; exact HM0.out)
  rw [hrb.1, hrb.2] at he
  rw [hrb.2] at hrp3
  subst he
  obtain ⟨rfA, rfc, rcA, rcc, rsA, rsc, rhA, rhc, rxA, rxc⟩ := hd3
  simp only at hrp3 ⊢
  obtain ⟨U3, hU3⟩ : ∃ X, X = w3.alloc (.cells #[.slice rfA g.funcs.length rfc, .int .i64 g.mutexes, .slice rcA g.conds.length rcc, .slice rsA g.semas.length rsc, .slice rhA g.chans.length rhc, .slice rxA g.choices.length rxc, .int .i64 g.threads] 26) := ⟨_, rfl⟩
  have hba3 : Below w3.heap.size w3 U3 := by rw [hU3]; exact (Below.refl _ _).alloc (Nat.le_refl _) _
  have hk3 : Blk U3 w3.heap.size 26 #[.slice rfA g.funcs.length rfc, .int .i64 g.mutexes, .slice rcA g.conds.length rcc, .slice rsA g.semas.length rsc, .slice rhA g.chans.length rhc, .slice rxA g.choices.length rxc, .int .i64 g.threads] := by rw [hU3]; exact Blk.new _ _ _
  have hz2 := HB2.out.size
  have hz3 := hb3.size
  have hzu3 := hba3.size
  have HU3 := Lib.hid hU3.symm
  have HB13 : Hid (Below U1.heap.size U1 U3) := HB2.out.trans ((hb3.trans (hba3.mono hz3)).mono hz2)
  have HKR : Hid (∀ X, Below U3.heap.size U3 X → (X.cell? ⟨w3.heap.size, 0, none⟩ = some (.slice rfA g.funcs.length rfc) ∧ X.cell? ⟨w3.heap.size, 1, none⟩ = some (.int .i64 g.mutexes) ∧ X.cell? ⟨w3.heap.size, 2, none⟩ = some (.slice rcA g.conds.length rcc) ∧ X.cell? ⟨w3.heap.size, 3, none⟩ = some (.slice rsA g.semas.length rsc) ∧ X.cell? ⟨w3.heap.size, 4, none⟩ = some (.slice rhA g.chans.length rhc) ∧ X.cell? ⟨w3.heap.size, 5, none⟩ = some (.slice rxA g.choices.length rxc) ∧ X.cell? ⟨w3.heap.size, 6, none⟩ = some (.int .i64 g.threads)) ∧ RP X U3.heap.size ⟨rfA, rfc, rcA, rcc, rsA, rsc, rhA, rhc, rxA, rxc⟩ g) := fun X hX =>
    ⟨⟨((hk3.below hX hk3.lt).cell 0).trans rfl, ((hk3.below hX hk3.lt).cell 1).trans rfl, ((hk3.below hX hk3.lt).cell 2).trans rfl, ((hk3.below hX hk3.lt).cell 3).trans rfl, ((hk3.below hX hk3.lt).cell 4).trans rfl, ((hk3.below hX hk3.lt).cell 5).trans rfl, ((hk3.below hX hk3.lt).cell 6).trans rfl⟩, ((hrp3.below hba3).more hba3.size).below hX⟩
  have HBY : Hid (∀ X, Below U3.heap.size U3 X → Reads X w2.heap.size 1 A2 (progL g).length (BS (progL g))) := fun X hX => ((Reads.of_own HO2.out).below (hb3.trans ((hba3.trans (hX.mono hzu3)).mono hz3)))
  clear hU3 hba3 hk3 hrp3 hb3 hrb HRD
  go_upto_region 4 with fail
  rw [HU3.out]
  obtain ⟨⟨m0, m1, m2, m3, m4, m5, m6⟩, hrg⟩ := HKG.out U3 HB13.out
  have HRG3 := Lib.hid hrg
  clear hrg
  go_wp2_with fail
  have zu := HB13.out.size
  refine (cloneP_any ⟨fA, fc, cA, cc, sA, sc, hA, hc, xA, xc⟩ g U3 U1.heap.size HRG3.out zu (puts_short3 HP0.out)).mono ?_
  rintro e w4 ⟨vf, vc, vs, vh, vx, fs, ls, rfl, hop, hfs, hls, hb4⟩
  clear m0 m1 m2 m3 m4 m5 m6
  obtain ⟨⟨kfA, kfc, kcA, kcc, ksA, ksc, khA, khc, kxA, kxc⟩, rfl, rfl, rfl, rfl, rfl, hrp4⟩ := hop.rp g.mutexes g.threads
  rw [hfs, hls] at hrp4
  have hfn : fs.length = g.funcs.length := by rw [← hfs, List.length_map]
  have hln : ls.length = g.choices.length := by rw [← hls, List.length_map]
  rw [hfn, hln]
  obtain ⟨U4, hU4⟩ : ∃ X, X = w4.alloc (.cells #[.slice kfA g.funcs.length kfc, .int .i64 g.mutexes, .slice kcA g.conds.length kcc, .slice ksA g.semas.length ksc, .slice khA g.chans.length khc, .slice kxA g.choices.length kxc, .int .i64 g.threads] 26) := ⟨_, rfl⟩
  have hba4 : Below w4.heap.size w4 U4 := by rw [hU4]; exact (Below.refl _ _).alloc (Nat.le_refl _) _
  have hk4 : Blk U4 w4.heap.size 26 #[.slice kfA g.funcs.length kfc, .int .i64 g.mutexes, .slice kcA g.conds.length kcc, .slice ksA g.semas.length ksc, .slice khA g.chans.length khc, .slice kxA g.choices.length kxc, .int .i64 g.threads] := by rw [hU4]; exact Blk.new _ _ _
  have hz4 := hb4.size
  have hzu4 := hba4.size
  have HU4 := Lib.hid hU4.symm
  have HB34 : Hid (Below U3.heap.size U3 U4) := hb4.trans (hba4.mono hz4)
  have HB14 : Hid (Below U1.heap.size U1 U4) := HB13.out.trans (HB34.out.mono zu)
  have hz1u := HB1.out.size
  have zu34 := HB34.out.size
  have HBF : Hid (∀ X, Below U4.heap.size U4 X → Below w.heap.size w X) := fun X hX => HB1.out.trans ((HB14.out.trans (hX.mono (by omega))).mono hz1u)
  have HK : Hid (∀ X, Below U4.heap.size U4 X → ((X.cell? ⟨w1.heap.size, 0, none⟩ = some (.slice fA g.funcs.length fc) ∧ X.cell? ⟨w1.heap.size, 1, none⟩ = some (.int .i64 g.mutexes) ∧ X.cell? ⟨w1.heap.size, 2, none⟩ = some (.slice cA g.conds.length cc) ∧ X.cell? ⟨w1.heap.size, 3, none⟩ = some (.slice sA g.semas.length sc) ∧ X.cell? ⟨w1.heap.size, 4, none⟩ = some (.slice hA g.chans.length hc) ∧ X.cell? ⟨w1.heap.size, 5, none⟩ = some (.slice xA g.choices.length xc) ∧ X.cell? ⟨w1.heap.size, 6, none⟩ = some (.int .i64 g.threads)) ∧ RP X U1.heap.size ⟨fA, fc, cA, cc, sA, sc, hA, hc, xA, xc⟩ g) ∧ ((X.cell? ⟨w3.heap.size, 0, none⟩ = some (.slice rfA g.funcs.length rfc) ∧ X.cell? ⟨w3.heap.size, 1, none⟩ = some (.int .i64 g.mutexes) ∧ X.cell? ⟨w3.heap.size, 2, none⟩ = some (.slice rcA g.conds.length rcc) ∧ X.cell? ⟨w3.heap.size, 3, none⟩ = some (.slice rsA g.semas.length rsc) ∧ X.cell? ⟨w3.heap.size, 4, none⟩ = some (.slice rhA g.chans.length rhc) ∧ X.cell? ⟨w3.heap.size, 5, none⟩ = some (.slice rxA g.choices.length rxc) ∧ X.cell? ⟨w3.heap.size, 6, none⟩ = some (.int .i64 g.threads)) ∧ RP X U3.heap.size ⟨rfA, rfc, rcA, rcc, rsA, rsc, rhA, rhc, rxA, rxc⟩ g) ∧ (X.cell? ⟨w4.heap.size, 0, none⟩ = some (.slice kfA g.funcs.length kfc) ∧ X.cell? ⟨w4.heap.size, 1, none⟩ = some (.int .i64 g.mutexes) ∧ X.cell? ⟨w4.heap.size, 2, none⟩ = some (.slice kcA g.conds.length kcc) ∧ X.cell? ⟨w4.heap.size, 3, none⟩ = some (.slice ksA g.semas.length ksc) ∧ X.cell? ⟨w4.heap.size, 4, none⟩ = some (.slice khA g.chans.length khc) ∧ X.cell? ⟨w4.heap.size, 5, none⟩ = some (.slice kxA g.choices.length kxc) ∧ X.cell? ⟨w4.heap.size, 6, none⟩ = some (.int .i64 g.threads)) ∧ RP X U4.heap.size ⟨kfA, kfc, kcA, kcc, ksA, ksc, khA, khc, kxA, kxc⟩ g) := fun X hX =>
    ⟨HKG.out X (HB14.out.trans (hX.mono (by omega))), HKR.out X (HB34.out.trans (hX.mono (by omega))), ⟨((hk4.below hX hk4.lt).cell 0).trans rfl, ((hk4.below hX hk4.lt).cell 1).trans rfl, ((hk4.below hX hk4.lt).cell 2).trans rfl, ((hk4.below hX hk4.lt).cell 3).trans rfl, ((hk4.below hX hk4.lt).cell 4).trans rfl, ((hk4.below hX hk4.lt).cell 5).trans rfl, ((hk4.below hX hk4.lt).cell 6).trans rfl⟩, ((hrp4.below hba4).more hba4.size).below hX⟩
  have HBY4 : Hid (∀ X, Below U4.heap.size U4 X → Reads X w2.heap.size 1 A2 (progL g).length (BS (progL g))) := fun X hX => HBY.out X (HB34.out.trans (hX.mono (by omega)))
  clear hU4 hba4 hk4 hrp4 hb4 hop hfs hls hfn hln
  go_upto_region 5 with fail
  rw [HU4.out]
  have S3 := Lib.hid (puts_short3 HP0.out)
  have hX0 := Below.refl U4.heap.size U4
  obtain ⟨⟨⟨m0, m1, m2, m3, m4, m5, m6⟩, hrg⟩, ⟨⟨r0, r1, r2, r3, r4, r5, r6⟩, hrr⟩, ⟨k0, k1, k2, k3, k4, k5, k6⟩, hrk⟩ := HK.out U4 hX0
  have zz := hX0.size
  have HG := Lib.hid hrg; have HR := Lib.hid hrr; have HKK := Lib.hid hrk
  clear hrg hrr hrk
  go_wp2_with fail
  refine (refSame_any ⟨rfA, rfc, rcA, rcc, rsA, rsc, rhA, rhc, rxA, rxc⟩ ⟨fA, fc, cA, cc, sA, sc, hA, hc, xA, xc⟩ g g U4 (HR.out.more (by omega)) (HG.out.more (by omega)) S3.out S3.out).mono ?_
  rintro e X1 ⟨rfl, hY⟩
  have hX1 : Below U4.heap.size U4 X1 := hX0.trans (hY.mono zz)
  clear hY
  rw [show decide (g = g) = true from decide_eq_true rfl]
  clear m0 m1 m2 m3 m4 m5 m6 r0 r1 r2 r3 r4 r5 r6 k0 k1 k2 k3 k4 k5 k6 HG HR HKK zz
  obtain ⟨⟨⟨m0, m1, m2, m3, m4, m5, m6⟩, hrg⟩, ⟨⟨r0, r1, r2, r3, r4, r5, r6⟩, hrr⟩, ⟨k0, k1, k2, k3, k4, k5, k6⟩, hrk⟩ := HK.out X1 hX1
  have zz := hX1.size
  have HG := Lib.hid hrg; have HR := Lib.hid hrr; have HKK := Lib.hid hrk
  clear hrg hrr hrk
  go_wp2_with fail
  refine (refSame_any ⟨kfA, kfc, kcA, kcc, ksA, ksc, khA, khc, kxA, kxc⟩ ⟨fA, fc, cA, cc, sA, sc, hA, hc, xA, xc⟩ g g X1 (HKK.out.more (by omega)) (HG.out.more (by omega)) S3.out S3.out).mono ?_
  rintro e X2 ⟨rfl, hY⟩
  have hX2 : Below U4.heap.size U4 X2 := hX1.trans (hY.mono zz)
  clear hY
  rw [show decide (g = g) = true from decide_eq_true rfl]
  clear m0 m1 m2 m3 m4 m5 m6 r0 r1 r2 r3 r4 r5 r6 k0 k1 k2 k3 k4 k5 k6 HG HR HKK zz
  obtain ⟨⟨⟨m0, m1, m2, m3, m4, m5, m6⟩, hrg⟩, ⟨⟨r0, r1, r2, r3, r4, r5, r6⟩, hrr⟩, ⟨k0, k1, k2, k3, k4, k5, k6⟩, hrk⟩ := HK.out X2 hX2
  have zz := hX2.size
  have HG := Lib.hid hrg; have HR := Lib.hid hrr; have HKK := Lib.hid hrk
  clear hrg hrr hrk
  go_wp2_with fail
  refine (same_any ⟨rfA, rfc, rcA, rcc, rsA, rsc, rhA, rhc, rxA, rxc⟩ ⟨kfA, kfc, kcA, kcc, ksA, ksc, khA, khc, kxA, kxc⟩ g g X2 (HR.out.more (by omega)) (HKK.out.more (by omega)) S3.out S3.out).mono ?_
  rintro e X3 ⟨rfl, hY⟩
  have hX3 : Below U4.heap.size U4 X3 := hX2.trans (hY.mono zz)
  clear hY
  rw [show decide (g = g) = true from decide_eq_true rfl]
  clear m0 m1 m2 m3 m4 m5 m6 r0 r1 r2 r3 r4 r5 r6 k0 k1 k2 k3 k4 k5 k6 HG HR HKK zz
  obtain ⟨⟨⟨m0, m1, m2, m3, m4, m5, m6⟩, hrg⟩, ⟨⟨r0, r1, r2, r3, r4, r5, r6⟩, hrr⟩, ⟨k0, k1, k2, k3, k4, k5, k6⟩, hrk⟩ := HK.out X3 hX3
  have zz := hX3.size
  have HG := Lib.hid hrg; have HR := Lib.hid hrr; have HKK := Lib.hid hrk
  clear hrg hrr hrk
  go_wp2_with fail
  refine (refWrite_any ⟨fA, fc, cA, cc, sA, sc, hA, hc, xA, xc⟩ g X3 U1.heap.size HG.out (by omega) HP0.out).mono ?_
  rintro e w9 ⟨v9, rfl, A9, c9, rfl, how9, hbw9⟩
  have hX9 : Below U4.heap.size U4 w9 := hX3.trans (hbw9.mono zz)
  have HSM := Lib.hid (same_yes (progL g) (progL g).length rfl w9 w2.heap.size w9.heap.size A2 A9 c2 c9 (HBY4.out w9 hX9) (Reads.of_own how9) HLEN.out)
  have HX9 := Lib.hid hX9
  clear how9 hbw9 hX9
  clear m0 m1 m2 m3 m4 m5 m6 r0 r1 r2 r3 r4 r5 r6 k0 k1 k2 k3 k4 k5 k6 HG HR HKK zz
  go_wp2_with fail
  refine HSM.out.mono ?_
  rintro e w10 ⟨rfl, d, rfl⟩
  clear HSM
  go_wp2_with fail
  refine (clives_any _).mono ?_
  rintro e w11 ⟨rfl, hb11⟩
  have HFIN : Hid (Below w.heap.size w w11) := HBF.out _ ((below_drews HX9.out d).trans (hb11.mono HX9.out.size))
  clear hb11
  go_wp2_with fail
  go_ret
  exact ⟨rfl, HFIN.out⟩
end Go.Proofs.Ytmjbfobjndiecaa.codeRound
