/-
  does, kind by kind.
-/
import Derived.Test.YthjfcpdebflppaaDoesA
import Derived.Deep.RegionLaw
import Derived.Deep.RegionHeld
import Derived.Deep.RegionHeld3
import Derived.Deep.DeepCutAuto
import Derived.Deep.CutBlock
set_option linter.unusedVariables false
set_option linter.unusedSimpArgs false
namespace Go.Proofs.Ythjfcpdebflppaa
open Go.RowKit Plain

set_option maxHeartbeats 4000000 in
set_option maxRecDepth 100000 in
theorem does_k0 (h : PH) (p : PV) (h1 h2 : TH) (t : TV) (v i : Int) (w : World) (hp : RP w w.heap.size h p) (ht1 : RT w (fun _ => True) h1 t) (ht2 : RT w (fun _ => True) h2 t) (hfl : FewLoc p) (hpl : p.funcs.length ≤ 1000000) (hl : LensT t) (hm : 1 ≤ t.frames.length ∧ t.frames.length ≤ 8 ∧ t.stack.length ≤ 16) (hv : -9223372036854775808 ≤ v ∧ v ≤ 9223372036854775807) (hi : -9223372036854775808 ≤ i ∧ i ≤ 9223372036854775807) (x : TV) (hx : x = if t.stack.length < 16 then pushT t v else t) :
    Calls Try.prog 34 #[.agg #[.slice h.fA p.funcs.length h.fc, .int .i64 p.mutexes, .slice h.cA p.conds.length h.cc, .slice h.sA p.semas.length h.sc, .slice h.hA p.chans.length h.hc, .slice h.xA p.choices.length h.xc, .int .i64 p.threads], .agg #[.int .i64 t.state, .int .i64 t.on, .slice h1.fA t.frames.length h1.fc, .slice h1.sA t.stack.length h1.sc, .int .i64 t.code], .agg #[.int .i64 t.state, .int .i64 t.on, .slice h2.fA t.frames.length h2.fc, .slice h2.sA t.stack.length h2.sc, .int .i64 t.code], .agg #[.int .i64 0, .int .i64 v, .int .i64 i]] w
      fun e w' => ∃ ha hb : TH, e = .returned (.tuple #[.agg #[.int .i64 x.state, .int .i64 x.on, .slice ha.fA x.frames.length ha.fc, .slice ha.sA x.stack.length ha.sc, .int .i64 x.code], .agg #[.int .i64 x.state, .int .i64 x.on, .slice hb.fA x.frames.length hb.fc, .slice hb.sA x.stack.length hb.sc, .int .i64 x.code], .bool true]) ∧ RT w' (fun _ => True) ha x ∧ RT w' (fun _ => True) hb x ∧ Below w.heap.size w w' := by
  have hds := DSt.new (kind := 0) (v := v) (i := i) hp ht1 ht2
  obtain ⟨fA, fc, cA, cc, sA, sc, hA, hc, xA, xc⟩ := h
  obtain ⟨a1, c1, s1, d1⟩ := h1
  obtain ⟨a2, c2, s2, d2⟩ := h2
  have HDs := Lib.hid hds; have HL := Lib.hid hl; have HX := Lib.hid hx; have HFL := Lib.hid hfl
  obtain ⟨hm1, hm8, hm16⟩ := hm
  clear hds hp ht1 ht2 hl hx hfl
  go_enter Try.func34, Try.ntmps34
  go_upto_region 3 with fail
  obtain ⟨W0, hW0⟩ : ∃ W, W = ((((((w.alloc (.cells #[.slice fA p.funcs.length fc, .int .i64 p.mutexes, .slice cA p.conds.length cc, .slice sA p.semas.length sc, .slice hA p.chans.length hc, .slice xA p.choices.length xc, .int .i64 p.threads] 26)).alloc (.cells #[.int .i64 t.state, .int .i64 t.on, .slice a1 t.frames.length c1, .slice s1 t.stack.length d1, .int .i64 t.code] 51)).alloc (.cells #[.int .i64 t.state, .int .i64 t.on, .slice a2 t.frames.length c2, .slice s2 t.stack.length d2, .int .i64 t.code] 51)).alloc (.cells #[.int .i64 0, .int .i64 v, .int .i64 i] 53)).alloc (.cells #[.int .i64 0, .int .i64 0, .slice none 0 0, .slice none 0 0, .int .i64 0] 51)).alloc (.cells #[.int .i64 0, .int .i64 0, .slice none 0 0, .slice none 0 0, .int .i64 0] 51)) := ⟨_, rfl⟩
  have hd0 : DSt w W0 ⟨fA, fc, cA, cc, sA, sc, hA, hc, xA, xc⟩ p ⟨a1, c1, s1, d1⟩ ⟨a2, c2, s2, d2⟩ t 0 v i := by rw [hW0]; exact HDs.out
  have HD0 := Lib.hid hd0
  rw [← hW0]
  clear hW0 hd0 HDs
  have t0 : W0.cell? ⟨w.heap.size + 1, 0, none⟩ = some (.int .i64 t.state) := (HD0.out.b1.cell 0).trans rfl
  have t1 : W0.cell? ⟨w.heap.size + 1, 1, none⟩ = some (.int .i64 t.on) := (HD0.out.b1.cell 1).trans rfl
  have t2 : W0.cell? ⟨w.heap.size + 1, 2, none⟩ = some (.slice a1 t.frames.length c1) := (HD0.out.b1.cell 2).trans rfl
  have t3 : W0.cell? ⟨w.heap.size + 1, 3, none⟩ = some (.slice s1 t.stack.length d1) := (HD0.out.b1.cell 3).trans rfl
  have t4 : W0.cell? ⟨w.heap.size + 1, 4, none⟩ = some (.int .i64 t.code) := (HD0.out.b1.cell 4).trans rfl
  have e0 : W0.cell? ⟨w.heap.size + 1 + 1 + 1, 0, none⟩ = some (.int .i64 0) := (HD0.out.bd.cell 0).trans rfl
  have e1 : W0.cell? ⟨w.heap.size + 1 + 1 + 1, 1, none⟩ = some (.int .i64 v) := (HD0.out.bd.cell 1).trans rfl
  have e2 : W0.cell? ⟨w.heap.size + 1 + 1 + 1, 2, none⟩ = some (.int .i64 i) := (HD0.out.bd.cell 2).trans rfl
  have zN : w.heap.size + 1 + 1 + 1 + 1 + 1 < W0.heap.size := HD0.out.r2.lt
  have zN0 : w.heap.size < W0.heap.size := by omega
  have zN1 : w.heap.size + 1 < W0.heap.size := by omega
  have zN2 : w.heap.size + 1 + 1 < W0.heap.size := by omega
  have zN3 : w.heap.size + 1 + 1 + 1 < W0.heap.size := by omega
  have zN4 : w.heap.size + 1 + 1 + 1 + 1 < W0.heap.size := by omega
  go_wp2_with fail
  refine (push_all ⟨a1, c1, s1, d1⟩ t v W0 _ HD0.out.t1 HL.out x HX.out).mono ?_
  rintro e w1 ⟨⟨au, cu, su, du⟩, rfl, hrt, hb⟩
  have hal : Below w1.heap.size w1 (w1.alloc (.cells #[.int .i64 x.state, .int .i64 x.on, .slice au x.frames.length cu, .slice su x.stack.length du, .int .i64 x.code] 51)) := (Below.refl _ _).alloc (Nat.le_refl _) _
  have hz6 : w.heap.size + 1 + 1 + 1 + 1 + 1 + 1 ≤ W0.heap.size := HD0.out.r2.lt
  have htd := (TD.new hrt).mono (E := (fun i => i < w.heap.size ∨ w.heap.size + 1 + 1 + 1 + 1 + 1 + 1 ≤ i)) (fun j hj _ => by rcases hj with hj | hj; exact .inl hj; exact .inr (by omega))
  have hbw := hb.trans (hal.mono hb.size)
  have hds := HD0.out.below hbw
  obtain ⟨ab, hab⟩ : ∃ b, b = w1.heap.size := ⟨_, rfl⟩
  have yab : w.heap.size + 1 + 1 + 1 + 1 + 1 + 1 ≤ ab := by have := hb.size; omega
  have HD1 := Lib.hid hds; have TDu := Lib.hid htd
  clear hrt hb hal htd hbw hds hz6 HD0 t0 t1 t2 t3 t4 e0 e1 e2 zN zN0 zN1 zN2 zN3 zN4
  go_upto_region 4 with fail
  obtain ⟨W1, hW⟩ : ∃ W, W = w1.alloc (.cells #[.int .i64 x.state, .int .i64 x.on, .slice au x.frames.length cu, .slice su x.stack.length du, .int .i64 x.code] 51) := ⟨_, rfl⟩
  rw [← hW] at HD1 TDu ⊢
  rw [← hab] at TDu ⊢
  clear hW hab
  have r0 : W1.cell? ⟨w.heap.size + 1 + 1, 0, none⟩ = some (.int .i64 t.state) := (HD1.out.b2.cell 0).trans rfl
  have r1 : W1.cell? ⟨w.heap.size + 1 + 1, 1, none⟩ = some (.int .i64 t.on) := (HD1.out.b2.cell 1).trans rfl
  have r2 : W1.cell? ⟨w.heap.size + 1 + 1, 2, none⟩ = some (.slice a2 t.frames.length c2) := (HD1.out.b2.cell 2).trans rfl
  have r3 : W1.cell? ⟨w.heap.size + 1 + 1, 3, none⟩ = some (.slice s2 t.stack.length d2) := (HD1.out.b2.cell 3).trans rfl
  have r4 : W1.cell? ⟨w.heap.size + 1 + 1, 4, none⟩ = some (.int .i64 t.code) := (HD1.out.b2.cell 4).trans rfl
  have e0 : W1.cell? ⟨w.heap.size + 1 + 1 + 1, 0, none⟩ = some (.int .i64 0) := (HD1.out.bd.cell 0).trans rfl
  have e1 : W1.cell? ⟨w.heap.size + 1 + 1 + 1, 1, none⟩ = some (.int .i64 v) := (HD1.out.bd.cell 1).trans rfl
  have e2 : W1.cell? ⟨w.heap.size + 1 + 1 + 1, 2, none⟩ = some (.int .i64 i) := (HD1.out.bd.cell 2).trans rfl
  have zN : w.heap.size + 1 + 1 + 1 + 1 + 1 < W1.heap.size := HD1.out.r2.lt
  have zN0 : w.heap.size < W1.heap.size := by omega
  have zN1 : w.heap.size + 1 < W1.heap.size := by omega
  have zN2 : w.heap.size + 1 + 1 < W1.heap.size := by omega
  have zN3 : w.heap.size + 1 + 1 + 1 < W1.heap.size := by omega
  have zN4 : w.heap.size + 1 + 1 + 1 + 1 < W1.heap.size := by omega
  go_wp2_with fail
  refine (refPush_all ⟨a2, c2, s2, d2⟩ t v W1 _ HD1.out.t2 HL.out x HX.out).mono ?_
  rintro e w2 ⟨⟨ay, cy, sy, dy⟩, rfl, hrt, hb⟩
  have hal : Below w2.heap.size w2 (w2.alloc (.cells #[.int .i64 x.state, .int .i64 x.on, .slice ay x.frames.length cy, .slice sy x.stack.length dy, .int .i64 x.code] 51)) := (Below.refl _ _).alloc (Nat.le_refl _) _
  have hz6 : w.heap.size + 1 + 1 + 1 + 1 + 1 + 1 ≤ W1.heap.size := HD1.out.r2.lt
  have htd := (TD.new hrt).mono (E := (fun i => i < w.heap.size ∨ w.heap.size + 1 + 1 + 1 + 1 + 1 + 1 ≤ i)) (fun j hj _ => by rcases hj with hj | hj; exact .inl hj; exact .inr (by omega))
  have hbw := hb.trans (hal.mono hb.size)
  have hds := HD1.out.below hbw
  have hTDu := TDu.out.below hbw
  obtain ⟨bb, hbb⟩ : ∃ b, b = w2.heap.size := ⟨_, rfl⟩
  have ybb : w.heap.size + 1 + 1 + 1 + 1 + 1 + 1 ≤ bb := by have := hb.size; omega
  have HD2 := Lib.hid hds; have TDy := Lib.hid htd
  have NTDu := Lib.hid hTDu
  clear hrt hb hal htd hbw hds hz6 HD1 r0 r1 r2 r3 r4 e0 e1 e2 zN zN0 zN1 zN2 zN3 zN4 hTDu TDu
  go_upto_region 5 with fail
  obtain ⟨W2, hW⟩ : ∃ W, W = w2.alloc (.cells #[.int .i64 x.state, .int .i64 x.on, .slice ay x.frames.length cy, .slice sy x.stack.length dy, .int .i64 x.code] 51) := ⟨_, rfl⟩
  rw [← hW] at HD2 TDy NTDu ⊢
  rw [← hbb] at TDy ⊢
  clear hW hbb
  have TDu := NTDu
  clear NTDu
  have zN : w.heap.size + 1 + 1 + 1 + 1 + 1 < W2.heap.size := HD2.out.r2.lt
  have zN0 : w.heap.size < W2.heap.size := by omega
  have zN1 : w.heap.size + 1 < W2.heap.size := by omega
  have zN2 : w.heap.size + 1 + 1 < W2.heap.size := by omega
  have zN3 : w.heap.size + 1 + 1 + 1 < W2.heap.size := by omega
  have zN4 : w.heap.size + 1 + 1 + 1 + 1 < W2.heap.size := by omega
  have f0 : W2.cell? ⟨ab, 0, none⟩ = some (.int .i64 x.state) := (TDu.out.tb.cell 0).trans rfl
  have f1 : W2.cell? ⟨ab, 1, none⟩ = some (.int .i64 x.on) := (TDu.out.tb.cell 1).trans rfl
  have f2 : W2.cell? ⟨ab, 2, none⟩ = some (.slice au x.frames.length cu) := (TDu.out.tb.cell 2).trans rfl
  have f3 : W2.cell? ⟨ab, 3, none⟩ = some (.slice su x.stack.length du) := (TDu.out.tb.cell 3).trans rfl
  have f4 : W2.cell? ⟨ab, 4, none⟩ = some (.int .i64 x.code) := (TDu.out.tb.cell 4).trans rfl
  have g0 : W2.cell? ⟨bb, 0, none⟩ = some (.int .i64 x.state) := (TDy.out.tb.cell 0).trans rfl
  have g1 : W2.cell? ⟨bb, 1, none⟩ = some (.int .i64 x.on) := (TDy.out.tb.cell 1).trans rfl
  have g2 : W2.cell? ⟨bb, 2, none⟩ = some (.slice ay x.frames.length cy) := (TDy.out.tb.cell 2).trans rfl
  have g3 : W2.cell? ⟨bb, 3, none⟩ = some (.slice sy x.stack.length dy) := (TDy.out.tb.cell 3).trans rfl
  have g4 : W2.cell? ⟨bb, 4, none⟩ = some (.int .i64 x.code) := (TDy.out.tb.cell 4).trans rfl
  have m0 : W2.cell? ⟨w.heap.size + 1 + 1 + 1 + 1, 0, none⟩ = some (.int .i64 0) := (HD2.out.r1.cell 0).trans rfl
  have k0 : W2.frozen? ⟨w.heap.size + 1 + 1 + 1 + 1, 0, none⟩ = false := HD2.out.r1.frozen 0
  have m1 : W2.cell? ⟨w.heap.size + 1 + 1 + 1 + 1, 1, none⟩ = some (.int .i64 0) := (HD2.out.r1.cell 1).trans rfl
  have k1 : W2.frozen? ⟨w.heap.size + 1 + 1 + 1 + 1, 1, none⟩ = false := HD2.out.r1.frozen 1
  have m2 : W2.cell? ⟨w.heap.size + 1 + 1 + 1 + 1, 2, none⟩ = some (.slice none 0 0) := (HD2.out.r1.cell 2).trans rfl
  have k2 : W2.frozen? ⟨w.heap.size + 1 + 1 + 1 + 1, 2, none⟩ = false := HD2.out.r1.frozen 2
  have m3 : W2.cell? ⟨w.heap.size + 1 + 1 + 1 + 1, 3, none⟩ = some (.slice none 0 0) := (HD2.out.r1.cell 3).trans rfl
  have k3 : W2.frozen? ⟨w.heap.size + 1 + 1 + 1 + 1, 3, none⟩ = false := HD2.out.r1.frozen 3
  have m4 : W2.cell? ⟨w.heap.size + 1 + 1 + 1 + 1, 4, none⟩ = some (.int .i64 0) := (HD2.out.r1.cell 4).trans rfl
  have k4 : W2.frozen? ⟨w.heap.size + 1 + 1 + 1 + 1, 4, none⟩ = false := HD2.out.r1.frozen 4
  have o0 : W2.cell? ⟨w.heap.size + 1 + 1 + 1 + 1 + 1, 0, none⟩ = some (.int .i64 0) := (HD2.out.r2.cell 0).trans rfl
  have q0 : W2.frozen? ⟨w.heap.size + 1 + 1 + 1 + 1 + 1, 0, none⟩ = false := HD2.out.r2.frozen 0
  have o1 : W2.cell? ⟨w.heap.size + 1 + 1 + 1 + 1 + 1, 1, none⟩ = some (.int .i64 0) := (HD2.out.r2.cell 1).trans rfl
  have q1 : W2.frozen? ⟨w.heap.size + 1 + 1 + 1 + 1 + 1, 1, none⟩ = false := HD2.out.r2.frozen 1
  have o2 : W2.cell? ⟨w.heap.size + 1 + 1 + 1 + 1 + 1, 2, none⟩ = some (.slice none 0 0) := (HD2.out.r2.cell 2).trans rfl
  have q2 : W2.frozen? ⟨w.heap.size + 1 + 1 + 1 + 1 + 1, 2, none⟩ = false := HD2.out.r2.frozen 2
  have o3 : W2.cell? ⟨w.heap.size + 1 + 1 + 1 + 1 + 1, 3, none⟩ = some (.slice none 0 0) := (HD2.out.r2.cell 3).trans rfl
  have q3 : W2.frozen? ⟨w.heap.size + 1 + 1 + 1 + 1 + 1, 3, none⟩ = false := HD2.out.r2.frozen 3
  have o4 : W2.cell? ⟨w.heap.size + 1 + 1 + 1 + 1 + 1, 4, none⟩ = some (.int .i64 0) := (HD2.out.r2.cell 4).trans rfl
  have q4 : W2.frozen? ⟨w.heap.size + 1 + 1 + 1 + 1 + 1, 4, none⟩ = false := HD2.out.r2.frozen 4
  have za := TDu.out.tb.lt
  have zb := TDy.out.tb.lt
  have ne14 : ¬ w.heap.size + 1 + 1 + 1 + 1 = ab := by omega
  have nf14 : ¬ ab = w.heap.size + 1 + 1 + 1 + 1 := by omega
  have ne15 : ¬ w.heap.size + 1 + 1 + 1 + 1 + 1 = ab := by omega
  have nf15 : ¬ ab = w.heap.size + 1 + 1 + 1 + 1 + 1 := by omega
  have ne24 : ¬ w.heap.size + 1 + 1 + 1 + 1 = bb := by omega
  have nf24 : ¬ bb = w.heap.size + 1 + 1 + 1 + 1 := by omega
  have ne25 : ¬ w.heap.size + 1 + 1 + 1 + 1 + 1 = bb := by omega
  have nf25 : ¬ bb = w.heap.size + 1 + 1 + 1 + 1 + 1 := by omega
  go_region
  all_goals
    go_wp2_with fail
    have hfin := HD2.out.fin TDu.out.rt TDy.out.rt
    refine bodyPost_ret (v := .tuple #[.agg #[.int .i64 x.state, .int .i64 x.on, .slice au x.frames.length cu, .slice su x.stack.length du, .int .i64 x.code], .agg #[.int .i64 x.state, .int .i64 x.on, .slice ay x.frames.length cy, .slice sy x.stack.length dy, .int .i64 x.code], .bool true]) (results_cells2_slot rfl _ _ (w.heap.size + 1 + 1 + 1 + 1) (w.heap.size + 1 + 1 + 1 + 1 + 1) 51 _ _ (0, 0) (0, 0) _ _ rfl rfl rfl hfin.1.drew hfin.2.1.drew Try.underlying51 rfl (by kernel_rfl) (by kernel_rfl)) rfl ?_
    exact ⟨⟨au, cu, su, du⟩, ⟨ay, cy, sy, dy⟩, rfl, RT.drew hfin.2.2.1, RT.drew hfin.2.2.2.1, hfin.2.2.2.2.drew⟩

set_option maxHeartbeats 4000000 in
set_option maxRecDepth 100000 in
theorem does_k1 (h : PH) (p : PV) (h1 h2 : TH) (t : TV) (v i : Int) (w : World) (hp : RP w w.heap.size h p) (ht1 : RT w (fun _ => True) h1 t) (ht2 : RT w (fun _ => True) h2 t) (hfl : FewLoc p) (hpl : p.funcs.length ≤ 1000000) (hl : LensT t) (hm : 1 ≤ t.frames.length ∧ t.frames.length ≤ 8 ∧ t.stack.length ≤ 16) (hv : -9223372036854775808 ≤ v ∧ v ≤ 9223372036854775807) (hi : -9223372036854775808 ≤ i ∧ i ≤ 9223372036854775807) (x : TV) (hx : x = if 0 < t.stack.length then popT t else t) :
    Calls Try.prog 34 #[.agg #[.slice h.fA p.funcs.length h.fc, .int .i64 p.mutexes, .slice h.cA p.conds.length h.cc, .slice h.sA p.semas.length h.sc, .slice h.hA p.chans.length h.hc, .slice h.xA p.choices.length h.xc, .int .i64 p.threads], .agg #[.int .i64 t.state, .int .i64 t.on, .slice h1.fA t.frames.length h1.fc, .slice h1.sA t.stack.length h1.sc, .int .i64 t.code], .agg #[.int .i64 t.state, .int .i64 t.on, .slice h2.fA t.frames.length h2.fc, .slice h2.sA t.stack.length h2.sc, .int .i64 t.code], .agg #[.int .i64 1, .int .i64 v, .int .i64 i]] w
      fun e w' => ∃ ha hb : TH, e = .returned (.tuple #[.agg #[.int .i64 x.state, .int .i64 x.on, .slice ha.fA x.frames.length ha.fc, .slice ha.sA x.stack.length ha.sc, .int .i64 x.code], .agg #[.int .i64 x.state, .int .i64 x.on, .slice hb.fA x.frames.length hb.fc, .slice hb.sA x.stack.length hb.sc, .int .i64 x.code], .bool true]) ∧ RT w' (fun _ => True) ha x ∧ RT w' (fun _ => True) hb x ∧ Below w.heap.size w w' := by
  have hds := DSt.new (kind := 1) (v := v) (i := i) hp ht1 ht2
  obtain ⟨fA, fc, cA, cc, sA, sc, hA, hc, xA, xc⟩ := h
  obtain ⟨a1, c1, s1, d1⟩ := h1
  obtain ⟨a2, c2, s2, d2⟩ := h2
  have HDs := Lib.hid hds; have HL := Lib.hid hl; have HX := Lib.hid hx; have HFL := Lib.hid hfl
  obtain ⟨hm1, hm8, hm16⟩ := hm
  clear hds hp ht1 ht2 hl hx hfl
  go_enter Try.func34, Try.ntmps34
  go_upto_region 7 with fail
  obtain ⟨W0, hW0⟩ : ∃ W, W = ((((((w.alloc (.cells #[.slice fA p.funcs.length fc, .int .i64 p.mutexes, .slice cA p.conds.length cc, .slice sA p.semas.length sc, .slice hA p.chans.length hc, .slice xA p.choices.length xc, .int .i64 p.threads] 26)).alloc (.cells #[.int .i64 t.state, .int .i64 t.on, .slice a1 t.frames.length c1, .slice s1 t.stack.length d1, .int .i64 t.code] 51)).alloc (.cells #[.int .i64 t.state, .int .i64 t.on, .slice a2 t.frames.length c2, .slice s2 t.stack.length d2, .int .i64 t.code] 51)).alloc (.cells #[.int .i64 1, .int .i64 v, .int .i64 i] 53)).alloc (.cells #[.int .i64 0, .int .i64 0, .slice none 0 0, .slice none 0 0, .int .i64 0] 51)).alloc (.cells #[.int .i64 0, .int .i64 0, .slice none 0 0, .slice none 0 0, .int .i64 0] 51)) := ⟨_, rfl⟩
  have hd0 : DSt w W0 ⟨fA, fc, cA, cc, sA, sc, hA, hc, xA, xc⟩ p ⟨a1, c1, s1, d1⟩ ⟨a2, c2, s2, d2⟩ t 1 v i := by rw [hW0]; exact HDs.out
  have HD0 := Lib.hid hd0
  rw [← hW0]
  clear hW0 hd0 HDs
  have t0 : W0.cell? ⟨w.heap.size + 1, 0, none⟩ = some (.int .i64 t.state) := (HD0.out.b1.cell 0).trans rfl
  have t1 : W0.cell? ⟨w.heap.size + 1, 1, none⟩ = some (.int .i64 t.on) := (HD0.out.b1.cell 1).trans rfl
  have t2 : W0.cell? ⟨w.heap.size + 1, 2, none⟩ = some (.slice a1 t.frames.length c1) := (HD0.out.b1.cell 2).trans rfl
  have t3 : W0.cell? ⟨w.heap.size + 1, 3, none⟩ = some (.slice s1 t.stack.length d1) := (HD0.out.b1.cell 3).trans rfl
  have t4 : W0.cell? ⟨w.heap.size + 1, 4, none⟩ = some (.int .i64 t.code) := (HD0.out.b1.cell 4).trans rfl
  have e0 : W0.cell? ⟨w.heap.size + 1 + 1 + 1, 0, none⟩ = some (.int .i64 1) := (HD0.out.bd.cell 0).trans rfl
  have e1 : W0.cell? ⟨w.heap.size + 1 + 1 + 1, 1, none⟩ = some (.int .i64 v) := (HD0.out.bd.cell 1).trans rfl
  have e2 : W0.cell? ⟨w.heap.size + 1 + 1 + 1, 2, none⟩ = some (.int .i64 i) := (HD0.out.bd.cell 2).trans rfl
  have zN : w.heap.size + 1 + 1 + 1 + 1 + 1 < W0.heap.size := HD0.out.r2.lt
  have zN0 : w.heap.size < W0.heap.size := by omega
  have zN1 : w.heap.size + 1 < W0.heap.size := by omega
  have zN2 : w.heap.size + 1 + 1 < W0.heap.size := by omega
  have zN3 : w.heap.size + 1 + 1 + 1 < W0.heap.size := by omega
  have zN4 : w.heap.size + 1 + 1 + 1 + 1 < W0.heap.size := by omega
  go_wp2_with fail
  refine (pop_all ⟨a1, c1, s1, d1⟩ t W0 _ HD0.out.t1 HL.out (by omega) x HX.out).mono ?_
  rintro e w1 ⟨⟨au, cu, su, du⟩, rfl, hrt, hb⟩
  have hal : Below w1.heap.size w1 (w1.alloc (.cells #[.int .i64 x.state, .int .i64 x.on, .slice au x.frames.length cu, .slice su x.stack.length du, .int .i64 x.code] 51)) := (Below.refl _ _).alloc (Nat.le_refl _) _
  have hz6 : w.heap.size + 1 + 1 + 1 + 1 + 1 + 1 ≤ W0.heap.size := HD0.out.r2.lt
  have htd := (TD.new hrt).mono (E := (fun i => i < w.heap.size ∨ w.heap.size + 1 + 1 + 1 + 1 + 1 + 1 ≤ i)) (fun j hj _ => by rcases hj with hj | hj; exact .inl hj; exact .inr (by omega))
  have hbw := hb.trans (hal.mono hb.size)
  have hds := HD0.out.below hbw
  obtain ⟨ab, hab⟩ : ∃ b, b = w1.heap.size := ⟨_, rfl⟩
  have yab : w.heap.size + 1 + 1 + 1 + 1 + 1 + 1 ≤ ab := by have := hb.size; omega
  have HD1 := Lib.hid hds; have TDu := Lib.hid htd
  clear hrt hb hal htd hbw hds hz6 HD0 t0 t1 t2 t3 t4 e0 e1 e2 zN zN0 zN1 zN2 zN3 zN4
  go_upto_region 8 with fail
  obtain ⟨W1, hW⟩ : ∃ W, W = w1.alloc (.cells #[.int .i64 x.state, .int .i64 x.on, .slice au x.frames.length cu, .slice su x.stack.length du, .int .i64 x.code] 51) := ⟨_, rfl⟩
  rw [← hW] at HD1 TDu ⊢
  rw [← hab] at TDu ⊢
  clear hW hab
  have r0 : W1.cell? ⟨w.heap.size + 1 + 1, 0, none⟩ = some (.int .i64 t.state) := (HD1.out.b2.cell 0).trans rfl
  have r1 : W1.cell? ⟨w.heap.size + 1 + 1, 1, none⟩ = some (.int .i64 t.on) := (HD1.out.b2.cell 1).trans rfl
  have r2 : W1.cell? ⟨w.heap.size + 1 + 1, 2, none⟩ = some (.slice a2 t.frames.length c2) := (HD1.out.b2.cell 2).trans rfl
  have r3 : W1.cell? ⟨w.heap.size + 1 + 1, 3, none⟩ = some (.slice s2 t.stack.length d2) := (HD1.out.b2.cell 3).trans rfl
  have r4 : W1.cell? ⟨w.heap.size + 1 + 1, 4, none⟩ = some (.int .i64 t.code) := (HD1.out.b2.cell 4).trans rfl
  have e0 : W1.cell? ⟨w.heap.size + 1 + 1 + 1, 0, none⟩ = some (.int .i64 1) := (HD1.out.bd.cell 0).trans rfl
  have e1 : W1.cell? ⟨w.heap.size + 1 + 1 + 1, 1, none⟩ = some (.int .i64 v) := (HD1.out.bd.cell 1).trans rfl
  have e2 : W1.cell? ⟨w.heap.size + 1 + 1 + 1, 2, none⟩ = some (.int .i64 i) := (HD1.out.bd.cell 2).trans rfl
  have zN : w.heap.size + 1 + 1 + 1 + 1 + 1 < W1.heap.size := HD1.out.r2.lt
  have zN0 : w.heap.size < W1.heap.size := by omega
  have zN1 : w.heap.size + 1 < W1.heap.size := by omega
  have zN2 : w.heap.size + 1 + 1 < W1.heap.size := by omega
  have zN3 : w.heap.size + 1 + 1 + 1 < W1.heap.size := by omega
  have zN4 : w.heap.size + 1 + 1 + 1 + 1 < W1.heap.size := by omega
  go_wp2_with fail
  refine (refPop_all ⟨a2, c2, s2, d2⟩ t W1 _ HD1.out.t2 HL.out (by omega) x HX.out).mono ?_
  rintro e w2 ⟨⟨ay, cy, sy, dy⟩, rfl, hrt, hb⟩
  have hal : Below w2.heap.size w2 (w2.alloc (.cells #[.int .i64 x.state, .int .i64 x.on, .slice ay x.frames.length cy, .slice sy x.stack.length dy, .int .i64 x.code] 51)) := (Below.refl _ _).alloc (Nat.le_refl _) _
  have hz6 : w.heap.size + 1 + 1 + 1 + 1 + 1 + 1 ≤ W1.heap.size := HD1.out.r2.lt
  have htd := (TD.new hrt).mono (E := (fun i => i < w.heap.size ∨ w.heap.size + 1 + 1 + 1 + 1 + 1 + 1 ≤ i)) (fun j hj _ => by rcases hj with hj | hj; exact .inl hj; exact .inr (by omega))
  have hbw := hb.trans (hal.mono hb.size)
  have hds := HD1.out.below hbw
  have hTDu := TDu.out.below hbw
  obtain ⟨bb, hbb⟩ : ∃ b, b = w2.heap.size := ⟨_, rfl⟩
  have ybb : w.heap.size + 1 + 1 + 1 + 1 + 1 + 1 ≤ bb := by have := hb.size; omega
  have HD2 := Lib.hid hds; have TDy := Lib.hid htd
  have NTDu := Lib.hid hTDu
  clear hrt hb hal htd hbw hds hz6 HD1 r0 r1 r2 r3 r4 e0 e1 e2 zN zN0 zN1 zN2 zN3 zN4 hTDu TDu
  go_upto_region 9 with fail
  obtain ⟨W2, hW⟩ : ∃ W, W = w2.alloc (.cells #[.int .i64 x.state, .int .i64 x.on, .slice ay x.frames.length cy, .slice sy x.stack.length dy, .int .i64 x.code] 51) := ⟨_, rfl⟩
  rw [← hW] at HD2 TDy NTDu ⊢
  rw [← hbb] at TDy ⊢
  clear hW hbb
  have TDu := NTDu
  clear NTDu
  have zN : w.heap.size + 1 + 1 + 1 + 1 + 1 < W2.heap.size := HD2.out.r2.lt
  have zN0 : w.heap.size < W2.heap.size := by omega
  have zN1 : w.heap.size + 1 < W2.heap.size := by omega
  have zN2 : w.heap.size + 1 + 1 < W2.heap.size := by omega
  have zN3 : w.heap.size + 1 + 1 + 1 < W2.heap.size := by omega
  have zN4 : w.heap.size + 1 + 1 + 1 + 1 < W2.heap.size := by omega
  have f0 : W2.cell? ⟨ab, 0, none⟩ = some (.int .i64 x.state) := (TDu.out.tb.cell 0).trans rfl
  have f1 : W2.cell? ⟨ab, 1, none⟩ = some (.int .i64 x.on) := (TDu.out.tb.cell 1).trans rfl
  have f2 : W2.cell? ⟨ab, 2, none⟩ = some (.slice au x.frames.length cu) := (TDu.out.tb.cell 2).trans rfl
  have f3 : W2.cell? ⟨ab, 3, none⟩ = some (.slice su x.stack.length du) := (TDu.out.tb.cell 3).trans rfl
  have f4 : W2.cell? ⟨ab, 4, none⟩ = some (.int .i64 x.code) := (TDu.out.tb.cell 4).trans rfl
  have g0 : W2.cell? ⟨bb, 0, none⟩ = some (.int .i64 x.state) := (TDy.out.tb.cell 0).trans rfl
  have g1 : W2.cell? ⟨bb, 1, none⟩ = some (.int .i64 x.on) := (TDy.out.tb.cell 1).trans rfl
  have g2 : W2.cell? ⟨bb, 2, none⟩ = some (.slice ay x.frames.length cy) := (TDy.out.tb.cell 2).trans rfl
  have g3 : W2.cell? ⟨bb, 3, none⟩ = some (.slice sy x.stack.length dy) := (TDy.out.tb.cell 3).trans rfl
  have g4 : W2.cell? ⟨bb, 4, none⟩ = some (.int .i64 x.code) := (TDy.out.tb.cell 4).trans rfl
  have m0 : W2.cell? ⟨w.heap.size + 1 + 1 + 1 + 1, 0, none⟩ = some (.int .i64 0) := (HD2.out.r1.cell 0).trans rfl
  have k0 : W2.frozen? ⟨w.heap.size + 1 + 1 + 1 + 1, 0, none⟩ = false := HD2.out.r1.frozen 0
  have m1 : W2.cell? ⟨w.heap.size + 1 + 1 + 1 + 1, 1, none⟩ = some (.int .i64 0) := (HD2.out.r1.cell 1).trans rfl
  have k1 : W2.frozen? ⟨w.heap.size + 1 + 1 + 1 + 1, 1, none⟩ = false := HD2.out.r1.frozen 1
  have m2 : W2.cell? ⟨w.heap.size + 1 + 1 + 1 + 1, 2, none⟩ = some (.slice none 0 0) := (HD2.out.r1.cell 2).trans rfl
  have k2 : W2.frozen? ⟨w.heap.size + 1 + 1 + 1 + 1, 2, none⟩ = false := HD2.out.r1.frozen 2
  have m3 : W2.cell? ⟨w.heap.size + 1 + 1 + 1 + 1, 3, none⟩ = some (.slice none 0 0) := (HD2.out.r1.cell 3).trans rfl
  have k3 : W2.frozen? ⟨w.heap.size + 1 + 1 + 1 + 1, 3, none⟩ = false := HD2.out.r1.frozen 3
  have m4 : W2.cell? ⟨w.heap.size + 1 + 1 + 1 + 1, 4, none⟩ = some (.int .i64 0) := (HD2.out.r1.cell 4).trans rfl
  have k4 : W2.frozen? ⟨w.heap.size + 1 + 1 + 1 + 1, 4, none⟩ = false := HD2.out.r1.frozen 4
  have o0 : W2.cell? ⟨w.heap.size + 1 + 1 + 1 + 1 + 1, 0, none⟩ = some (.int .i64 0) := (HD2.out.r2.cell 0).trans rfl
  have q0 : W2.frozen? ⟨w.heap.size + 1 + 1 + 1 + 1 + 1, 0, none⟩ = false := HD2.out.r2.frozen 0
  have o1 : W2.cell? ⟨w.heap.size + 1 + 1 + 1 + 1 + 1, 1, none⟩ = some (.int .i64 0) := (HD2.out.r2.cell 1).trans rfl
  have q1 : W2.frozen? ⟨w.heap.size + 1 + 1 + 1 + 1 + 1, 1, none⟩ = false := HD2.out.r2.frozen 1
  have o2 : W2.cell? ⟨w.heap.size + 1 + 1 + 1 + 1 + 1, 2, none⟩ = some (.slice none 0 0) := (HD2.out.r2.cell 2).trans rfl
  have q2 : W2.frozen? ⟨w.heap.size + 1 + 1 + 1 + 1 + 1, 2, none⟩ = false := HD2.out.r2.frozen 2
  have o3 : W2.cell? ⟨w.heap.size + 1 + 1 + 1 + 1 + 1, 3, none⟩ = some (.slice none 0 0) := (HD2.out.r2.cell 3).trans rfl
  have q3 : W2.frozen? ⟨w.heap.size + 1 + 1 + 1 + 1 + 1, 3, none⟩ = false := HD2.out.r2.frozen 3
  have o4 : W2.cell? ⟨w.heap.size + 1 + 1 + 1 + 1 + 1, 4, none⟩ = some (.int .i64 0) := (HD2.out.r2.cell 4).trans rfl
  have q4 : W2.frozen? ⟨w.heap.size + 1 + 1 + 1 + 1 + 1, 4, none⟩ = false := HD2.out.r2.frozen 4
  have za := TDu.out.tb.lt
  have zb := TDy.out.tb.lt
  have ne14 : ¬ w.heap.size + 1 + 1 + 1 + 1 = ab := by omega
  have nf14 : ¬ ab = w.heap.size + 1 + 1 + 1 + 1 := by omega
  have ne15 : ¬ w.heap.size + 1 + 1 + 1 + 1 + 1 = ab := by omega
  have nf15 : ¬ ab = w.heap.size + 1 + 1 + 1 + 1 + 1 := by omega
  have ne24 : ¬ w.heap.size + 1 + 1 + 1 + 1 = bb := by omega
  have nf24 : ¬ bb = w.heap.size + 1 + 1 + 1 + 1 := by omega
  have ne25 : ¬ w.heap.size + 1 + 1 + 1 + 1 + 1 = bb := by omega
  have nf25 : ¬ bb = w.heap.size + 1 + 1 + 1 + 1 + 1 := by omega
  go_region
  all_goals
    go_wp2_with fail
    have hfin := HD2.out.fin TDu.out.rt TDy.out.rt
    refine bodyPost_ret (v := .tuple #[.agg #[.int .i64 x.state, .int .i64 x.on, .slice au x.frames.length cu, .slice su x.stack.length du, .int .i64 x.code], .agg #[.int .i64 x.state, .int .i64 x.on, .slice ay x.frames.length cy, .slice sy x.stack.length dy, .int .i64 x.code], .bool true]) (results_cells2_slot rfl _ _ (w.heap.size + 1 + 1 + 1 + 1) (w.heap.size + 1 + 1 + 1 + 1 + 1) 51 _ _ (0, 0) (0, 0) _ _ rfl rfl rfl hfin.1.drew hfin.2.1.drew Try.underlying51 rfl (by kernel_rfl) (by kernel_rfl)) rfl ?_
    exact ⟨⟨au, cu, su, du⟩, ⟨ay, cy, sy, dy⟩, rfl, RT.drew hfin.2.2.1, RT.drew hfin.2.2.2.1, hfin.2.2.2.2.drew⟩

set_option maxHeartbeats 4000000 in
set_option maxRecDepth 100000 in
theorem does_k2 (h : PH) (p : PV) (h1 h2 : TH) (t : TV) (v i : Int) (w : World) (hp : RP w w.heap.size h p) (ht1 : RT w (fun _ => True) h1 t) (ht2 : RT w (fun _ => True) h2 t) (hfl : FewLoc p) (hpl : p.funcs.length ≤ 1000000) (hl : LensT t) (hm : 1 ≤ t.frames.length ∧ t.frames.length ≤ 8 ∧ t.stack.length ≤ 16) (hv : -9223372036854775808 ≤ v ∧ v ≤ 9223372036854775807) (hi : -9223372036854775808 ≤ i ∧ i ≤ 9223372036854775807) (f : Nat) (hf : f < p.funcs.length) (haf : around v p.funcs.length = (f : Int)) (x : TV) (hx : x = if t.frames.length < 8 then enterT p t (f : Int) else t) :
    Calls Try.prog 34 #[.agg #[.slice h.fA p.funcs.length h.fc, .int .i64 p.mutexes, .slice h.cA p.conds.length h.cc, .slice h.sA p.semas.length h.sc, .slice h.hA p.chans.length h.hc, .slice h.xA p.choices.length h.xc, .int .i64 p.threads], .agg #[.int .i64 t.state, .int .i64 t.on, .slice h1.fA t.frames.length h1.fc, .slice h1.sA t.stack.length h1.sc, .int .i64 t.code], .agg #[.int .i64 t.state, .int .i64 t.on, .slice h2.fA t.frames.length h2.fc, .slice h2.sA t.stack.length h2.sc, .int .i64 t.code], .agg #[.int .i64 2, .int .i64 v, .int .i64 i]] w
      fun e w' => ∃ ha hb : TH, e = .returned (.tuple #[.agg #[.int .i64 x.state, .int .i64 x.on, .slice ha.fA x.frames.length ha.fc, .slice ha.sA x.stack.length ha.sc, .int .i64 x.code], .agg #[.int .i64 x.state, .int .i64 x.on, .slice hb.fA x.frames.length hb.fc, .slice hb.sA x.stack.length hb.sc, .int .i64 x.code], .bool true]) ∧ RT w' (fun _ => True) ha x ∧ RT w' (fun _ => True) hb x ∧ Below w.heap.size w w' := by
  have hds := DSt.new (kind := 2) (v := v) (i := i) hp ht1 ht2
  obtain ⟨fA, fc, cA, cc, sA, sc, hA, hc, xA, xc⟩ := h
  obtain ⟨a1, c1, s1, d1⟩ := h1
  obtain ⟨a2, c2, s2, d2⟩ := h2
  have HDs := Lib.hid hds; have HL := Lib.hid hl; have HX := Lib.hid hx; have HFL := Lib.hid hfl
  obtain ⟨hm1, hm8, hm16⟩ := hm
  have HAF := Lib.hid haf
  clear haf
  clear hds hp ht1 ht2 hl hx hfl
  go_enter Try.func34, Try.ntmps34
  go_upto_region 11 with fail
  obtain ⟨W0, hW0⟩ : ∃ W, W = ((((((w.alloc (.cells #[.slice fA p.funcs.length fc, .int .i64 p.mutexes, .slice cA p.conds.length cc, .slice sA p.semas.length sc, .slice hA p.chans.length hc, .slice xA p.choices.length xc, .int .i64 p.threads] 26)).alloc (.cells #[.int .i64 t.state, .int .i64 t.on, .slice a1 t.frames.length c1, .slice s1 t.stack.length d1, .int .i64 t.code] 51)).alloc (.cells #[.int .i64 t.state, .int .i64 t.on, .slice a2 t.frames.length c2, .slice s2 t.stack.length d2, .int .i64 t.code] 51)).alloc (.cells #[.int .i64 2, .int .i64 v, .int .i64 i] 53)).alloc (.cells #[.int .i64 0, .int .i64 0, .slice none 0 0, .slice none 0 0, .int .i64 0] 51)).alloc (.cells #[.int .i64 0, .int .i64 0, .slice none 0 0, .slice none 0 0, .int .i64 0] 51)) := ⟨_, rfl⟩
  have hd0 : DSt w W0 ⟨fA, fc, cA, cc, sA, sc, hA, hc, xA, xc⟩ p ⟨a1, c1, s1, d1⟩ ⟨a2, c2, s2, d2⟩ t 2 v i := by rw [hW0]; exact HDs.out
  have HD0 := Lib.hid hd0
  rw [← hW0]
  clear hW0 hd0 HDs
  have p0 : W0.cell? ⟨w.heap.size, 0, none⟩ = some (.slice fA p.funcs.length fc) := (HD0.out.pb.cell 0).trans rfl
  have p1 : W0.cell? ⟨w.heap.size, 1, none⟩ = some (.int .i64 p.mutexes) := (HD0.out.pb.cell 1).trans rfl
  have p2 : W0.cell? ⟨w.heap.size, 2, none⟩ = some (.slice cA p.conds.length cc) := (HD0.out.pb.cell 2).trans rfl
  have p3 : W0.cell? ⟨w.heap.size, 3, none⟩ = some (.slice sA p.semas.length sc) := (HD0.out.pb.cell 3).trans rfl
  have p4 : W0.cell? ⟨w.heap.size, 4, none⟩ = some (.slice hA p.chans.length hc) := (HD0.out.pb.cell 4).trans rfl
  have p5 : W0.cell? ⟨w.heap.size, 5, none⟩ = some (.slice xA p.choices.length xc) := (HD0.out.pb.cell 5).trans rfl
  have p6 : W0.cell? ⟨w.heap.size, 6, none⟩ = some (.int .i64 p.threads) := (HD0.out.pb.cell 6).trans rfl
  have t0 : W0.cell? ⟨w.heap.size + 1, 0, none⟩ = some (.int .i64 t.state) := (HD0.out.b1.cell 0).trans rfl
  have t1 : W0.cell? ⟨w.heap.size + 1, 1, none⟩ = some (.int .i64 t.on) := (HD0.out.b1.cell 1).trans rfl
  have t2 : W0.cell? ⟨w.heap.size + 1, 2, none⟩ = some (.slice a1 t.frames.length c1) := (HD0.out.b1.cell 2).trans rfl
  have t3 : W0.cell? ⟨w.heap.size + 1, 3, none⟩ = some (.slice s1 t.stack.length d1) := (HD0.out.b1.cell 3).trans rfl
  have t4 : W0.cell? ⟨w.heap.size + 1, 4, none⟩ = some (.int .i64 t.code) := (HD0.out.b1.cell 4).trans rfl
  have e0 : W0.cell? ⟨w.heap.size + 1 + 1 + 1, 0, none⟩ = some (.int .i64 2) := (HD0.out.bd.cell 0).trans rfl
  have e1 : W0.cell? ⟨w.heap.size + 1 + 1 + 1, 1, none⟩ = some (.int .i64 v) := (HD0.out.bd.cell 1).trans rfl
  have e2 : W0.cell? ⟨w.heap.size + 1 + 1 + 1, 2, none⟩ = some (.int .i64 i) := (HD0.out.bd.cell 2).trans rfl
  have zN : w.heap.size + 1 + 1 + 1 + 1 + 1 < W0.heap.size := HD0.out.r2.lt
  have zN0 : w.heap.size < W0.heap.size := by omega
  have zN1 : w.heap.size + 1 < W0.heap.size := by omega
  have zN2 : w.heap.size + 1 + 1 < W0.heap.size := by omega
  have zN3 : w.heap.size + 1 + 1 + 1 < W0.heap.size := by omega
  have zN4 : w.heap.size + 1 + 1 + 1 + 1 < W0.heap.size := by omega
  go_wp2_with fail
  refine (around_any v p.funcs.length W0 hv.1 hv.2 (by omega) (by omega)).mono ?_
  rintro e wq ⟨rfl, rfl⟩
  rw [HAF.out]
  go_upto_region 12 with fail
  go_wp2_with fail
  refine (enter_all ⟨fA, fc, cA, cc, sA, sc, hA, hc, xA, xc⟩ p ⟨a1, c1, s1, d1⟩ t f W0 w.heap.size _ HD0.out.rp HD0.out.bel.size HFL.out (by omega) HD0.out.t1 HL.out hf x HX.out).mono ?_
  rintro e w1 ⟨⟨au, cu, su, du⟩, rfl, hrt, hb⟩
  have hal : Below w1.heap.size w1 (w1.alloc (.cells #[.int .i64 x.state, .int .i64 x.on, .slice au x.frames.length cu, .slice su x.stack.length du, .int .i64 x.code] 51)) := (Below.refl _ _).alloc (Nat.le_refl _) _
  have hz6 : w.heap.size + 1 + 1 + 1 + 1 + 1 + 1 ≤ W0.heap.size := HD0.out.r2.lt
  have htd := (TD.new hrt).mono (E := (fun i => i < w.heap.size ∨ w.heap.size + 1 + 1 + 1 + 1 + 1 + 1 ≤ i)) (fun j hj _ => by rcases hj with hj | hj; exact .inl hj; exact .inr (by omega))
  have hbw := hb.trans (hal.mono hb.size)
  have hds := HD0.out.below hbw
  obtain ⟨ab, hab⟩ : ∃ b, b = w1.heap.size := ⟨_, rfl⟩
  have yab : w.heap.size + 1 + 1 + 1 + 1 + 1 + 1 ≤ ab := by have := hb.size; omega
  have HD1 := Lib.hid hds; have TDu := Lib.hid htd
  clear hrt hb hal htd hbw hds hz6 HD0 p0 p1 p2 p3 p4 p5 p6 t0 t1 t2 t3 t4 e0 e1 e2 zN zN0 zN1 zN2 zN3 zN4
  go_upto_region 13 with fail
  obtain ⟨W1, hW⟩ : ∃ W, W = w1.alloc (.cells #[.int .i64 x.state, .int .i64 x.on, .slice au x.frames.length cu, .slice su x.stack.length du, .int .i64 x.code] 51) := ⟨_, rfl⟩
  rw [← hW] at HD1 TDu ⊢
  rw [← hab] at TDu ⊢
  clear hW hab
  have p0 : W1.cell? ⟨w.heap.size, 0, none⟩ = some (.slice fA p.funcs.length fc) := (HD1.out.pb.cell 0).trans rfl
  have p1 : W1.cell? ⟨w.heap.size, 1, none⟩ = some (.int .i64 p.mutexes) := (HD1.out.pb.cell 1).trans rfl
  have p2 : W1.cell? ⟨w.heap.size, 2, none⟩ = some (.slice cA p.conds.length cc) := (HD1.out.pb.cell 2).trans rfl
  have p3 : W1.cell? ⟨w.heap.size, 3, none⟩ = some (.slice sA p.semas.length sc) := (HD1.out.pb.cell 3).trans rfl
  have p4 : W1.cell? ⟨w.heap.size, 4, none⟩ = some (.slice hA p.chans.length hc) := (HD1.out.pb.cell 4).trans rfl
  have p5 : W1.cell? ⟨w.heap.size, 5, none⟩ = some (.slice xA p.choices.length xc) := (HD1.out.pb.cell 5).trans rfl
  have p6 : W1.cell? ⟨w.heap.size, 6, none⟩ = some (.int .i64 p.threads) := (HD1.out.pb.cell 6).trans rfl
  have r0 : W1.cell? ⟨w.heap.size + 1 + 1, 0, none⟩ = some (.int .i64 t.state) := (HD1.out.b2.cell 0).trans rfl
  have r1 : W1.cell? ⟨w.heap.size + 1 + 1, 1, none⟩ = some (.int .i64 t.on) := (HD1.out.b2.cell 1).trans rfl
  have r2 : W1.cell? ⟨w.heap.size + 1 + 1, 2, none⟩ = some (.slice a2 t.frames.length c2) := (HD1.out.b2.cell 2).trans rfl
  have r3 : W1.cell? ⟨w.heap.size + 1 + 1, 3, none⟩ = some (.slice s2 t.stack.length d2) := (HD1.out.b2.cell 3).trans rfl
  have r4 : W1.cell? ⟨w.heap.size + 1 + 1, 4, none⟩ = some (.int .i64 t.code) := (HD1.out.b2.cell 4).trans rfl
  have e0 : W1.cell? ⟨w.heap.size + 1 + 1 + 1, 0, none⟩ = some (.int .i64 2) := (HD1.out.bd.cell 0).trans rfl
  have e1 : W1.cell? ⟨w.heap.size + 1 + 1 + 1, 1, none⟩ = some (.int .i64 v) := (HD1.out.bd.cell 1).trans rfl
  have e2 : W1.cell? ⟨w.heap.size + 1 + 1 + 1, 2, none⟩ = some (.int .i64 i) := (HD1.out.bd.cell 2).trans rfl
  have zN : w.heap.size + 1 + 1 + 1 + 1 + 1 < W1.heap.size := HD1.out.r2.lt
  have zN0 : w.heap.size < W1.heap.size := by omega
  have zN1 : w.heap.size + 1 < W1.heap.size := by omega
  have zN2 : w.heap.size + 1 + 1 < W1.heap.size := by omega
  have zN3 : w.heap.size + 1 + 1 + 1 < W1.heap.size := by omega
  have zN4 : w.heap.size + 1 + 1 + 1 + 1 < W1.heap.size := by omega
  go_wp2_with fail
  refine (refEnter_all ⟨fA, fc, cA, cc, sA, sc, hA, hc, xA, xc⟩ p ⟨a2, c2, s2, d2⟩ t f W1 w.heap.size _ HD1.out.rp HD1.out.bel.size HFL.out (by omega) HD1.out.t2 HL.out hf x HX.out).mono ?_
  rintro e w2 ⟨⟨ay, cy, sy, dy⟩, rfl, hrt, hb⟩
  have hal : Below w2.heap.size w2 (w2.alloc (.cells #[.int .i64 x.state, .int .i64 x.on, .slice ay x.frames.length cy, .slice sy x.stack.length dy, .int .i64 x.code] 51)) := (Below.refl _ _).alloc (Nat.le_refl _) _
  have hz6 : w.heap.size + 1 + 1 + 1 + 1 + 1 + 1 ≤ W1.heap.size := HD1.out.r2.lt
  have htd := (TD.new hrt).mono (E := (fun i => i < w.heap.size ∨ w.heap.size + 1 + 1 + 1 + 1 + 1 + 1 ≤ i)) (fun j hj _ => by rcases hj with hj | hj; exact .inl hj; exact .inr (by omega))
  have hbw := hb.trans (hal.mono hb.size)
  have hds := HD1.out.below hbw
  have hTDu := TDu.out.below hbw
  obtain ⟨bb, hbb⟩ : ∃ b, b = w2.heap.size := ⟨_, rfl⟩
  have ybb : w.heap.size + 1 + 1 + 1 + 1 + 1 + 1 ≤ bb := by have := hb.size; omega
  have HD2 := Lib.hid hds; have TDy := Lib.hid htd
  have NTDu := Lib.hid hTDu
  clear hrt hb hal htd hbw hds hz6 HD1 p0 p1 p2 p3 p4 p5 p6 r0 r1 r2 r3 r4 e0 e1 e2 zN zN0 zN1 zN2 zN3 zN4 hTDu TDu
  go_upto_region 14 with fail
  obtain ⟨W2, hW⟩ : ∃ W, W = w2.alloc (.cells #[.int .i64 x.state, .int .i64 x.on, .slice ay x.frames.length cy, .slice sy x.stack.length dy, .int .i64 x.code] 51) := ⟨_, rfl⟩
  rw [← hW] at HD2 TDy NTDu ⊢
  rw [← hbb] at TDy ⊢
  clear hW hbb
  have TDu := NTDu
  clear NTDu
  have zN : w.heap.size + 1 + 1 + 1 + 1 + 1 < W2.heap.size := HD2.out.r2.lt
  have zN0 : w.heap.size < W2.heap.size := by omega
  have zN1 : w.heap.size + 1 < W2.heap.size := by omega
  have zN2 : w.heap.size + 1 + 1 < W2.heap.size := by omega
  have zN3 : w.heap.size + 1 + 1 + 1 < W2.heap.size := by omega
  have zN4 : w.heap.size + 1 + 1 + 1 + 1 < W2.heap.size := by omega
  have f0 : W2.cell? ⟨ab, 0, none⟩ = some (.int .i64 x.state) := (TDu.out.tb.cell 0).trans rfl
  have f1 : W2.cell? ⟨ab, 1, none⟩ = some (.int .i64 x.on) := (TDu.out.tb.cell 1).trans rfl
  have f2 : W2.cell? ⟨ab, 2, none⟩ = some (.slice au x.frames.length cu) := (TDu.out.tb.cell 2).trans rfl
  have f3 : W2.cell? ⟨ab, 3, none⟩ = some (.slice su x.stack.length du) := (TDu.out.tb.cell 3).trans rfl
  have f4 : W2.cell? ⟨ab, 4, none⟩ = some (.int .i64 x.code) := (TDu.out.tb.cell 4).trans rfl
  have g0 : W2.cell? ⟨bb, 0, none⟩ = some (.int .i64 x.state) := (TDy.out.tb.cell 0).trans rfl
  have g1 : W2.cell? ⟨bb, 1, none⟩ = some (.int .i64 x.on) := (TDy.out.tb.cell 1).trans rfl
  have g2 : W2.cell? ⟨bb, 2, none⟩ = some (.slice ay x.frames.length cy) := (TDy.out.tb.cell 2).trans rfl
  have g3 : W2.cell? ⟨bb, 3, none⟩ = some (.slice sy x.stack.length dy) := (TDy.out.tb.cell 3).trans rfl
  have g4 : W2.cell? ⟨bb, 4, none⟩ = some (.int .i64 x.code) := (TDy.out.tb.cell 4).trans rfl
  have m0 : W2.cell? ⟨w.heap.size + 1 + 1 + 1 + 1, 0, none⟩ = some (.int .i64 0) := (HD2.out.r1.cell 0).trans rfl
  have k0 : W2.frozen? ⟨w.heap.size + 1 + 1 + 1 + 1, 0, none⟩ = false := HD2.out.r1.frozen 0
  have m1 : W2.cell? ⟨w.heap.size + 1 + 1 + 1 + 1, 1, none⟩ = some (.int .i64 0) := (HD2.out.r1.cell 1).trans rfl
  have k1 : W2.frozen? ⟨w.heap.size + 1 + 1 + 1 + 1, 1, none⟩ = false := HD2.out.r1.frozen 1
  have m2 : W2.cell? ⟨w.heap.size + 1 + 1 + 1 + 1, 2, none⟩ = some (.slice none 0 0) := (HD2.out.r1.cell 2).trans rfl
  have k2 : W2.frozen? ⟨w.heap.size + 1 + 1 + 1 + 1, 2, none⟩ = false := HD2.out.r1.frozen 2
  have m3 : W2.cell? ⟨w.heap.size + 1 + 1 + 1 + 1, 3, none⟩ = some (.slice none 0 0) := (HD2.out.r1.cell 3).trans rfl
  have k3 : W2.frozen? ⟨w.heap.size + 1 + 1 + 1 + 1, 3, none⟩ = false := HD2.out.r1.frozen 3
  have m4 : W2.cell? ⟨w.heap.size + 1 + 1 + 1 + 1, 4, none⟩ = some (.int .i64 0) := (HD2.out.r1.cell 4).trans rfl
  have k4 : W2.frozen? ⟨w.heap.size + 1 + 1 + 1 + 1, 4, none⟩ = false := HD2.out.r1.frozen 4
  have o0 : W2.cell? ⟨w.heap.size + 1 + 1 + 1 + 1 + 1, 0, none⟩ = some (.int .i64 0) := (HD2.out.r2.cell 0).trans rfl
  have q0 : W2.frozen? ⟨w.heap.size + 1 + 1 + 1 + 1 + 1, 0, none⟩ = false := HD2.out.r2.frozen 0
  have o1 : W2.cell? ⟨w.heap.size + 1 + 1 + 1 + 1 + 1, 1, none⟩ = some (.int .i64 0) := (HD2.out.r2.cell 1).trans rfl
  have q1 : W2.frozen? ⟨w.heap.size + 1 + 1 + 1 + 1 + 1, 1, none⟩ = false := HD2.out.r2.frozen 1
  have o2 : W2.cell? ⟨w.heap.size + 1 + 1 + 1 + 1 + 1, 2, none⟩ = some (.slice none 0 0) := (HD2.out.r2.cell 2).trans rfl
  have q2 : W2.frozen? ⟨w.heap.size + 1 + 1 + 1 + 1 + 1, 2, none⟩ = false := HD2.out.r2.frozen 2
  have o3 : W2.cell? ⟨w.heap.size + 1 + 1 + 1 + 1 + 1, 3, none⟩ = some (.slice none 0 0) := (HD2.out.r2.cell 3).trans rfl
  have q3 : W2.frozen? ⟨w.heap.size + 1 + 1 + 1 + 1 + 1, 3, none⟩ = false := HD2.out.r2.frozen 3
  have o4 : W2.cell? ⟨w.heap.size + 1 + 1 + 1 + 1 + 1, 4, none⟩ = some (.int .i64 0) := (HD2.out.r2.cell 4).trans rfl
  have q4 : W2.frozen? ⟨w.heap.size + 1 + 1 + 1 + 1 + 1, 4, none⟩ = false := HD2.out.r2.frozen 4
  have za := TDu.out.tb.lt
  have zb := TDy.out.tb.lt
  have ne14 : ¬ w.heap.size + 1 + 1 + 1 + 1 = ab := by omega
  have nf14 : ¬ ab = w.heap.size + 1 + 1 + 1 + 1 := by omega
  have ne15 : ¬ w.heap.size + 1 + 1 + 1 + 1 + 1 = ab := by omega
  have nf15 : ¬ ab = w.heap.size + 1 + 1 + 1 + 1 + 1 := by omega
  have ne24 : ¬ w.heap.size + 1 + 1 + 1 + 1 = bb := by omega
  have nf24 : ¬ bb = w.heap.size + 1 + 1 + 1 + 1 := by omega
  have ne25 : ¬ w.heap.size + 1 + 1 + 1 + 1 + 1 = bb := by omega
  have nf25 : ¬ bb = w.heap.size + 1 + 1 + 1 + 1 + 1 := by omega
  go_region
  all_goals
    go_wp2_with fail
    have hfin := HD2.out.fin TDu.out.rt TDy.out.rt
    refine bodyPost_ret (v := .tuple #[.agg #[.int .i64 x.state, .int .i64 x.on, .slice au x.frames.length cu, .slice su x.stack.length du, .int .i64 x.code], .agg #[.int .i64 x.state, .int .i64 x.on, .slice ay x.frames.length cy, .slice sy x.stack.length dy, .int .i64 x.code], .bool true]) (results_cells2_slot rfl _ _ (w.heap.size + 1 + 1 + 1 + 1) (w.heap.size + 1 + 1 + 1 + 1 + 1) 51 _ _ (0, 0) (0, 0) _ _ rfl rfl rfl hfin.1.drew hfin.2.1.drew Try.underlying51 rfl (by kernel_rfl) (by kernel_rfl)) rfl ?_
    exact ⟨⟨au, cu, su, du⟩, ⟨ay, cy, sy, dy⟩, rfl, RT.drew hfin.2.2.1, RT.drew hfin.2.2.2.1, hfin.2.2.2.2.drew⟩

set_option maxHeartbeats 4000000 in
set_option maxRecDepth 100000 in
theorem does_k3 (h : PH) (p : PV) (h1 h2 : TH) (t : TV) (v i : Int) (w : World) (hp : RP w w.heap.size h p) (ht1 : RT w (fun _ => True) h1 t) (ht2 : RT w (fun _ => True) h2 t) (hfl : FewLoc p) (hpl : p.funcs.length ≤ 1000000) (hl : LensT t) (hm : 1 ≤ t.frames.length ∧ t.frames.length ≤ 8 ∧ t.stack.length ≤ 16) (hv : -9223372036854775808 ≤ v ∧ v ≤ 9223372036854775807) (hi : -9223372036854775808 ≤ i ∧ i ≤ 9223372036854775807) (hf2 : 2 ≤ t.frames.length) (x : TV) (hx : x = leaveT t) :
    Calls Try.prog 34 #[.agg #[.slice h.fA p.funcs.length h.fc, .int .i64 p.mutexes, .slice h.cA p.conds.length h.cc, .slice h.sA p.semas.length h.sc, .slice h.hA p.chans.length h.hc, .slice h.xA p.choices.length h.xc, .int .i64 p.threads], .agg #[.int .i64 t.state, .int .i64 t.on, .slice h1.fA t.frames.length h1.fc, .slice h1.sA t.stack.length h1.sc, .int .i64 t.code], .agg #[.int .i64 t.state, .int .i64 t.on, .slice h2.fA t.frames.length h2.fc, .slice h2.sA t.stack.length h2.sc, .int .i64 t.code], .agg #[.int .i64 3, .int .i64 v, .int .i64 i]] w
      fun e w' => ∃ ha hb : TH, e = .returned (.tuple #[.agg #[.int .i64 x.state, .int .i64 x.on, .slice ha.fA x.frames.length ha.fc, .slice ha.sA x.stack.length ha.sc, .int .i64 x.code], .agg #[.int .i64 x.state, .int .i64 x.on, .slice hb.fA x.frames.length hb.fc, .slice hb.sA x.stack.length hb.sc, .int .i64 x.code], .bool true]) ∧ RT w' (fun _ => True) ha x ∧ RT w' (fun _ => True) hb x ∧ Below w.heap.size w w' := by
  have hds := DSt.new (kind := 3) (v := v) (i := i) hp ht1 ht2
  obtain ⟨fA, fc, cA, cc, sA, sc, hA, hc, xA, xc⟩ := h
  obtain ⟨a1, c1, s1, d1⟩ := h1
  obtain ⟨a2, c2, s2, d2⟩ := h2
  have HDs := Lib.hid hds; have HL := Lib.hid hl; have HX := Lib.hid hx; have HFL := Lib.hid hfl
  obtain ⟨hm1, hm8, hm16⟩ := hm
  clear hds hp ht1 ht2 hl hx hfl
  go_enter Try.func34, Try.ntmps34
  go_upto_region 16 with fail
  obtain ⟨W0, hW0⟩ : ∃ W, W = ((((((w.alloc (.cells #[.slice fA p.funcs.length fc, .int .i64 p.mutexes, .slice cA p.conds.length cc, .slice sA p.semas.length sc, .slice hA p.chans.length hc, .slice xA p.choices.length xc, .int .i64 p.threads] 26)).alloc (.cells #[.int .i64 t.state, .int .i64 t.on, .slice a1 t.frames.length c1, .slice s1 t.stack.length d1, .int .i64 t.code] 51)).alloc (.cells #[.int .i64 t.state, .int .i64 t.on, .slice a2 t.frames.length c2, .slice s2 t.stack.length d2, .int .i64 t.code] 51)).alloc (.cells #[.int .i64 3, .int .i64 v, .int .i64 i] 53)).alloc (.cells #[.int .i64 0, .int .i64 0, .slice none 0 0, .slice none 0 0, .int .i64 0] 51)).alloc (.cells #[.int .i64 0, .int .i64 0, .slice none 0 0, .slice none 0 0, .int .i64 0] 51)) := ⟨_, rfl⟩
  have hd0 : DSt w W0 ⟨fA, fc, cA, cc, sA, sc, hA, hc, xA, xc⟩ p ⟨a1, c1, s1, d1⟩ ⟨a2, c2, s2, d2⟩ t 3 v i := by rw [hW0]; exact HDs.out
  have HD0 := Lib.hid hd0
  rw [← hW0]
  clear hW0 hd0 HDs
  have t0 : W0.cell? ⟨w.heap.size + 1, 0, none⟩ = some (.int .i64 t.state) := (HD0.out.b1.cell 0).trans rfl
  have t1 : W0.cell? ⟨w.heap.size + 1, 1, none⟩ = some (.int .i64 t.on) := (HD0.out.b1.cell 1).trans rfl
  have t2 : W0.cell? ⟨w.heap.size + 1, 2, none⟩ = some (.slice a1 t.frames.length c1) := (HD0.out.b1.cell 2).trans rfl
  have t3 : W0.cell? ⟨w.heap.size + 1, 3, none⟩ = some (.slice s1 t.stack.length d1) := (HD0.out.b1.cell 3).trans rfl
  have t4 : W0.cell? ⟨w.heap.size + 1, 4, none⟩ = some (.int .i64 t.code) := (HD0.out.b1.cell 4).trans rfl
  have r0 : W0.cell? ⟨w.heap.size + 1 + 1, 0, none⟩ = some (.int .i64 t.state) := (HD0.out.b2.cell 0).trans rfl
  have r1 : W0.cell? ⟨w.heap.size + 1 + 1, 1, none⟩ = some (.int .i64 t.on) := (HD0.out.b2.cell 1).trans rfl
  have r2 : W0.cell? ⟨w.heap.size + 1 + 1, 2, none⟩ = some (.slice a2 t.frames.length c2) := (HD0.out.b2.cell 2).trans rfl
  have r3 : W0.cell? ⟨w.heap.size + 1 + 1, 3, none⟩ = some (.slice s2 t.stack.length d2) := (HD0.out.b2.cell 3).trans rfl
  have r4 : W0.cell? ⟨w.heap.size + 1 + 1, 4, none⟩ = some (.int .i64 t.code) := (HD0.out.b2.cell 4).trans rfl
  have e0 : W0.cell? ⟨w.heap.size + 1 + 1 + 1, 0, none⟩ = some (.int .i64 3) := (HD0.out.bd.cell 0).trans rfl
  have e1 : W0.cell? ⟨w.heap.size + 1 + 1 + 1, 1, none⟩ = some (.int .i64 v) := (HD0.out.bd.cell 1).trans rfl
  have e2 : W0.cell? ⟨w.heap.size + 1 + 1 + 1, 2, none⟩ = some (.int .i64 i) := (HD0.out.bd.cell 2).trans rfl
  have zN : w.heap.size + 1 + 1 + 1 + 1 + 1 < W0.heap.size := HD0.out.r2.lt
  have zN0 : w.heap.size < W0.heap.size := by omega
  have zN1 : w.heap.size + 1 < W0.heap.size := by omega
  have zN2 : w.heap.size + 1 + 1 < W0.heap.size := by omega
  have zN3 : w.heap.size + 1 + 1 + 1 < W0.heap.size := by omega
  have zN4 : w.heap.size + 1 + 1 + 1 + 1 < W0.heap.size := by omega
  have hnl : ¬ (t.frames.length : Int) < 2 := by omega
  go_upto_region 18 with fail
  clear hnl
  go_wp2_with fail
  refine (leave_all ⟨a1, c1, s1, d1⟩ t W0 _ HD0.out.t1 HL.out hm1 (by omega) x HX.out).mono ?_
  rintro e w1 ⟨⟨au, cu, su, du⟩, rfl, hrt, hb⟩
  have hal : Below w1.heap.size w1 (w1.alloc (.cells #[.int .i64 x.state, .int .i64 x.on, .slice au x.frames.length cu, .slice su x.stack.length du, .int .i64 x.code] 51)) := (Below.refl _ _).alloc (Nat.le_refl _) _
  have hz6 : w.heap.size + 1 + 1 + 1 + 1 + 1 + 1 ≤ W0.heap.size := HD0.out.r2.lt
  have htd := (TD.new hrt).mono (E := (fun i => i < w.heap.size ∨ w.heap.size + 1 + 1 + 1 + 1 + 1 + 1 ≤ i)) (fun j hj _ => by rcases hj with hj | hj; exact .inl hj; exact .inr (by omega))
  have hbw := hb.trans (hal.mono hb.size)
  have hds := HD0.out.below hbw
  obtain ⟨ab, hab⟩ : ∃ b, b = w1.heap.size := ⟨_, rfl⟩
  have yab : w.heap.size + 1 + 1 + 1 + 1 + 1 + 1 ≤ ab := by have := hb.size; omega
  have HD1 := Lib.hid hds; have TDu := Lib.hid htd
  clear hrt hb hal htd hbw hds hz6 HD0 t0 t1 t2 t3 t4 r0 r1 r2 r3 r4 e0 e1 e2 zN zN0 zN1 zN2 zN3 zN4
  go_upto_region 19 with fail
  obtain ⟨W1, hW⟩ : ∃ W, W = w1.alloc (.cells #[.int .i64 x.state, .int .i64 x.on, .slice au x.frames.length cu, .slice su x.stack.length du, .int .i64 x.code] 51) := ⟨_, rfl⟩
  rw [← hW] at HD1 TDu ⊢
  rw [← hab] at TDu ⊢
  clear hW hab
  have r0 : W1.cell? ⟨w.heap.size + 1 + 1, 0, none⟩ = some (.int .i64 t.state) := (HD1.out.b2.cell 0).trans rfl
  have r1 : W1.cell? ⟨w.heap.size + 1 + 1, 1, none⟩ = some (.int .i64 t.on) := (HD1.out.b2.cell 1).trans rfl
  have r2 : W1.cell? ⟨w.heap.size + 1 + 1, 2, none⟩ = some (.slice a2 t.frames.length c2) := (HD1.out.b2.cell 2).trans rfl
  have r3 : W1.cell? ⟨w.heap.size + 1 + 1, 3, none⟩ = some (.slice s2 t.stack.length d2) := (HD1.out.b2.cell 3).trans rfl
  have r4 : W1.cell? ⟨w.heap.size + 1 + 1, 4, none⟩ = some (.int .i64 t.code) := (HD1.out.b2.cell 4).trans rfl
  have e0 : W1.cell? ⟨w.heap.size + 1 + 1 + 1, 0, none⟩ = some (.int .i64 3) := (HD1.out.bd.cell 0).trans rfl
  have e1 : W1.cell? ⟨w.heap.size + 1 + 1 + 1, 1, none⟩ = some (.int .i64 v) := (HD1.out.bd.cell 1).trans rfl
  have e2 : W1.cell? ⟨w.heap.size + 1 + 1 + 1, 2, none⟩ = some (.int .i64 i) := (HD1.out.bd.cell 2).trans rfl
  have zN : w.heap.size + 1 + 1 + 1 + 1 + 1 < W1.heap.size := HD1.out.r2.lt
  have zN0 : w.heap.size < W1.heap.size := by omega
  have zN1 : w.heap.size + 1 < W1.heap.size := by omega
  have zN2 : w.heap.size + 1 + 1 < W1.heap.size := by omega
  have zN3 : w.heap.size + 1 + 1 + 1 < W1.heap.size := by omega
  have zN4 : w.heap.size + 1 + 1 + 1 + 1 < W1.heap.size := by omega
  go_wp2_with fail
  refine (refLeave_all ⟨a2, c2, s2, d2⟩ t W1 _ HD1.out.t2 HL.out hm1 (by omega) x HX.out).mono ?_
  rintro e w2 ⟨⟨ay, cy, sy, dy⟩, rfl, hrt, hb⟩
  have hal : Below w2.heap.size w2 (w2.alloc (.cells #[.int .i64 x.state, .int .i64 x.on, .slice ay x.frames.length cy, .slice sy x.stack.length dy, .int .i64 x.code] 51)) := (Below.refl _ _).alloc (Nat.le_refl _) _
  have hz6 : w.heap.size + 1 + 1 + 1 + 1 + 1 + 1 ≤ W1.heap.size := HD1.out.r2.lt
  have htd := (TD.new hrt).mono (E := (fun i => i < w.heap.size ∨ w.heap.size + 1 + 1 + 1 + 1 + 1 + 1 ≤ i)) (fun j hj _ => by rcases hj with hj | hj; exact .inl hj; exact .inr (by omega))
  have hbw := hb.trans (hal.mono hb.size)
  have hds := HD1.out.below hbw
  have hTDu := TDu.out.below hbw
  obtain ⟨bb, hbb⟩ : ∃ b, b = w2.heap.size := ⟨_, rfl⟩
  have ybb : w.heap.size + 1 + 1 + 1 + 1 + 1 + 1 ≤ bb := by have := hb.size; omega
  have HD2 := Lib.hid hds; have TDy := Lib.hid htd
  have NTDu := Lib.hid hTDu
  clear hrt hb hal htd hbw hds hz6 HD1 r0 r1 r2 r3 r4 e0 e1 e2 zN zN0 zN1 zN2 zN3 zN4 hTDu TDu
  go_upto_region 20 with fail
  obtain ⟨W2, hW⟩ : ∃ W, W = w2.alloc (.cells #[.int .i64 x.state, .int .i64 x.on, .slice ay x.frames.length cy, .slice sy x.stack.length dy, .int .i64 x.code] 51) := ⟨_, rfl⟩
  rw [← hW] at HD2 TDy NTDu ⊢
  rw [← hbb] at TDy ⊢
  clear hW hbb
  have TDu := NTDu
  clear NTDu
  have zN : w.heap.size + 1 + 1 + 1 + 1 + 1 < W2.heap.size := HD2.out.r2.lt
  have zN0 : w.heap.size < W2.heap.size := by omega
  have zN1 : w.heap.size + 1 < W2.heap.size := by omega
  have zN2 : w.heap.size + 1 + 1 < W2.heap.size := by omega
  have zN3 : w.heap.size + 1 + 1 + 1 < W2.heap.size := by omega
  have zN4 : w.heap.size + 1 + 1 + 1 + 1 < W2.heap.size := by omega
  have f0 : W2.cell? ⟨ab, 0, none⟩ = some (.int .i64 x.state) := (TDu.out.tb.cell 0).trans rfl
  have f1 : W2.cell? ⟨ab, 1, none⟩ = some (.int .i64 x.on) := (TDu.out.tb.cell 1).trans rfl
  have f2 : W2.cell? ⟨ab, 2, none⟩ = some (.slice au x.frames.length cu) := (TDu.out.tb.cell 2).trans rfl
  have f3 : W2.cell? ⟨ab, 3, none⟩ = some (.slice su x.stack.length du) := (TDu.out.tb.cell 3).trans rfl
  have f4 : W2.cell? ⟨ab, 4, none⟩ = some (.int .i64 x.code) := (TDu.out.tb.cell 4).trans rfl
  have g0 : W2.cell? ⟨bb, 0, none⟩ = some (.int .i64 x.state) := (TDy.out.tb.cell 0).trans rfl
  have g1 : W2.cell? ⟨bb, 1, none⟩ = some (.int .i64 x.on) := (TDy.out.tb.cell 1).trans rfl
  have g2 : W2.cell? ⟨bb, 2, none⟩ = some (.slice ay x.frames.length cy) := (TDy.out.tb.cell 2).trans rfl
  have g3 : W2.cell? ⟨bb, 3, none⟩ = some (.slice sy x.stack.length dy) := (TDy.out.tb.cell 3).trans rfl
  have g4 : W2.cell? ⟨bb, 4, none⟩ = some (.int .i64 x.code) := (TDy.out.tb.cell 4).trans rfl
  have m0 : W2.cell? ⟨w.heap.size + 1 + 1 + 1 + 1, 0, none⟩ = some (.int .i64 0) := (HD2.out.r1.cell 0).trans rfl
  have k0 : W2.frozen? ⟨w.heap.size + 1 + 1 + 1 + 1, 0, none⟩ = false := HD2.out.r1.frozen 0
  have m1 : W2.cell? ⟨w.heap.size + 1 + 1 + 1 + 1, 1, none⟩ = some (.int .i64 0) := (HD2.out.r1.cell 1).trans rfl
  have k1 : W2.frozen? ⟨w.heap.size + 1 + 1 + 1 + 1, 1, none⟩ = false := HD2.out.r1.frozen 1
  have m2 : W2.cell? ⟨w.heap.size + 1 + 1 + 1 + 1, 2, none⟩ = some (.slice none 0 0) := (HD2.out.r1.cell 2).trans rfl
  have k2 : W2.frozen? ⟨w.heap.size + 1 + 1 + 1 + 1, 2, none⟩ = false := HD2.out.r1.frozen 2
  have m3 : W2.cell? ⟨w.heap.size + 1 + 1 + 1 + 1, 3, none⟩ = some (.slice none 0 0) := (HD2.out.r1.cell 3).trans rfl
  have k3 : W2.frozen? ⟨w.heap.size + 1 + 1 + 1 + 1, 3, none⟩ = false := HD2.out.r1.frozen 3
  have m4 : W2.cell? ⟨w.heap.size + 1 + 1 + 1 + 1, 4, none⟩ = some (.int .i64 0) := (HD2.out.r1.cell 4).trans rfl
  have k4 : W2.frozen? ⟨w.heap.size + 1 + 1 + 1 + 1, 4, none⟩ = false := HD2.out.r1.frozen 4
  have o0 : W2.cell? ⟨w.heap.size + 1 + 1 + 1 + 1 + 1, 0, none⟩ = some (.int .i64 0) := (HD2.out.r2.cell 0).trans rfl
  have q0 : W2.frozen? ⟨w.heap.size + 1 + 1 + 1 + 1 + 1, 0, none⟩ = false := HD2.out.r2.frozen 0
  have o1 : W2.cell? ⟨w.heap.size + 1 + 1 + 1 + 1 + 1, 1, none⟩ = some (.int .i64 0) := (HD2.out.r2.cell 1).trans rfl
  have q1 : W2.frozen? ⟨w.heap.size + 1 + 1 + 1 + 1 + 1, 1, none⟩ = false := HD2.out.r2.frozen 1
  have o2 : W2.cell? ⟨w.heap.size + 1 + 1 + 1 + 1 + 1, 2, none⟩ = some (.slice none 0 0) := (HD2.out.r2.cell 2).trans rfl
  have q2 : W2.frozen? ⟨w.heap.size + 1 + 1 + 1 + 1 + 1, 2, none⟩ = false := HD2.out.r2.frozen 2
  have o3 : W2.cell? ⟨w.heap.size + 1 + 1 + 1 + 1 + 1, 3, none⟩ = some (.slice none 0 0) := (HD2.out.r2.cell 3).trans rfl
  have q3 : W2.frozen? ⟨w.heap.size + 1 + 1 + 1 + 1 + 1, 3, none⟩ = false := HD2.out.r2.frozen 3
  have o4 : W2.cell? ⟨w.heap.size + 1 + 1 + 1 + 1 + 1, 4, none⟩ = some (.int .i64 0) := (HD2.out.r2.cell 4).trans rfl
  have q4 : W2.frozen? ⟨w.heap.size + 1 + 1 + 1 + 1 + 1, 4, none⟩ = false := HD2.out.r2.frozen 4
  have za := TDu.out.tb.lt
  have zb := TDy.out.tb.lt
  have ne14 : ¬ w.heap.size + 1 + 1 + 1 + 1 = ab := by omega
  have nf14 : ¬ ab = w.heap.size + 1 + 1 + 1 + 1 := by omega
  have ne15 : ¬ w.heap.size + 1 + 1 + 1 + 1 + 1 = ab := by omega
  have nf15 : ¬ ab = w.heap.size + 1 + 1 + 1 + 1 + 1 := by omega
  have ne24 : ¬ w.heap.size + 1 + 1 + 1 + 1 = bb := by omega
  have nf24 : ¬ bb = w.heap.size + 1 + 1 + 1 + 1 := by omega
  have ne25 : ¬ w.heap.size + 1 + 1 + 1 + 1 + 1 = bb := by omega
  have nf25 : ¬ bb = w.heap.size + 1 + 1 + 1 + 1 + 1 := by omega
  go_region
  all_goals
    go_wp2_with fail
    have hfin := HD2.out.fin TDu.out.rt TDy.out.rt
    refine bodyPost_ret (v := .tuple #[.agg #[.int .i64 x.state, .int .i64 x.on, .slice au x.frames.length cu, .slice su x.stack.length du, .int .i64 x.code], .agg #[.int .i64 x.state, .int .i64 x.on, .slice ay x.frames.length cy, .slice sy x.stack.length dy, .int .i64 x.code], .bool true]) (results_cells2_slot rfl _ _ (w.heap.size + 1 + 1 + 1 + 1) (w.heap.size + 1 + 1 + 1 + 1 + 1) 51 _ _ (0, 0) (0, 0) _ _ rfl rfl rfl hfin.1.drew hfin.2.1.drew Try.underlying51 rfl (by kernel_rfl) (by kernel_rfl)) rfl ?_
    exact ⟨⟨au, cu, su, du⟩, ⟨ay, cy, sy, dy⟩, rfl, RT.drew hfin.2.2.1, RT.drew hfin.2.2.2.1, hfin.2.2.2.2.drew⟩

set_option maxHeartbeats 4000000 in
set_option maxRecDepth 100000 in
theorem does_k3b (h : PH) (p : PV) (h1 h2 : TH) (t : TV) (v i : Int) (w : World) (hp : RP w w.heap.size h p) (ht1 : RT w (fun _ => True) h1 t) (ht2 : RT w (fun _ => True) h2 t) (hfl : FewLoc p) (hpl : p.funcs.length ≤ 1000000) (hl : LensT t) (hm : 1 ≤ t.frames.length ∧ t.frames.length ≤ 8 ∧ t.stack.length ≤ 16) (hv : -9223372036854775808 ≤ v ∧ v ≤ 9223372036854775807) (hi : -9223372036854775808 ≤ i ∧ i ≤ 9223372036854775807) (hf2 : t.frames.length < 2) (x : TV) (hx : x = t) :
    Calls Try.prog 34 #[.agg #[.slice h.fA p.funcs.length h.fc, .int .i64 p.mutexes, .slice h.cA p.conds.length h.cc, .slice h.sA p.semas.length h.sc, .slice h.hA p.chans.length h.hc, .slice h.xA p.choices.length h.xc, .int .i64 p.threads], .agg #[.int .i64 t.state, .int .i64 t.on, .slice h1.fA t.frames.length h1.fc, .slice h1.sA t.stack.length h1.sc, .int .i64 t.code], .agg #[.int .i64 t.state, .int .i64 t.on, .slice h2.fA t.frames.length h2.fc, .slice h2.sA t.stack.length h2.sc, .int .i64 t.code], .agg #[.int .i64 3, .int .i64 v, .int .i64 i]] w
      fun e w' => ∃ ha hb : TH, e = .returned (.tuple #[.agg #[.int .i64 x.state, .int .i64 x.on, .slice ha.fA x.frames.length ha.fc, .slice ha.sA x.stack.length ha.sc, .int .i64 x.code], .agg #[.int .i64 x.state, .int .i64 x.on, .slice hb.fA x.frames.length hb.fc, .slice hb.sA x.stack.length hb.sc, .int .i64 x.code], .bool true]) ∧ RT w' (fun _ => True) ha x ∧ RT w' (fun _ => True) hb x ∧ Below w.heap.size w w' := by
  have hds := DSt.new (kind := 3) (v := v) (i := i) hp ht1 ht2
  obtain ⟨fA, fc, cA, cc, sA, sc, hA, hc, xA, xc⟩ := h
  obtain ⟨a1, c1, s1, d1⟩ := h1
  obtain ⟨a2, c2, s2, d2⟩ := h2
  have HDs := Lib.hid hds; have HL := Lib.hid hl; have HX := Lib.hid hx; have HFL := Lib.hid hfl
  obtain ⟨hm1, hm8, hm16⟩ := hm
  clear hds hp ht1 ht2 hl hx hfl
  go_enter Try.func34, Try.ntmps34
  go_upto_region 16 with fail
  obtain ⟨W0, hW0⟩ : ∃ W, W = ((((((w.alloc (.cells #[.slice fA p.funcs.length fc, .int .i64 p.mutexes, .slice cA p.conds.length cc, .slice sA p.semas.length sc, .slice hA p.chans.length hc, .slice xA p.choices.length xc, .int .i64 p.threads] 26)).alloc (.cells #[.int .i64 t.state, .int .i64 t.on, .slice a1 t.frames.length c1, .slice s1 t.stack.length d1, .int .i64 t.code] 51)).alloc (.cells #[.int .i64 t.state, .int .i64 t.on, .slice a2 t.frames.length c2, .slice s2 t.stack.length d2, .int .i64 t.code] 51)).alloc (.cells #[.int .i64 3, .int .i64 v, .int .i64 i] 53)).alloc (.cells #[.int .i64 0, .int .i64 0, .slice none 0 0, .slice none 0 0, .int .i64 0] 51)).alloc (.cells #[.int .i64 0, .int .i64 0, .slice none 0 0, .slice none 0 0, .int .i64 0] 51)) := ⟨_, rfl⟩
  have hd0 : DSt w W0 ⟨fA, fc, cA, cc, sA, sc, hA, hc, xA, xc⟩ p ⟨a1, c1, s1, d1⟩ ⟨a2, c2, s2, d2⟩ t 3 v i := by rw [hW0]; exact HDs.out
  have HD0 := Lib.hid hd0
  rw [← hW0]
  clear hW0 hd0 HDs
  have t0 : W0.cell? ⟨w.heap.size + 1, 0, none⟩ = some (.int .i64 t.state) := (HD0.out.b1.cell 0).trans rfl
  have t1 : W0.cell? ⟨w.heap.size + 1, 1, none⟩ = some (.int .i64 t.on) := (HD0.out.b1.cell 1).trans rfl
  have t2 : W0.cell? ⟨w.heap.size + 1, 2, none⟩ = some (.slice a1 t.frames.length c1) := (HD0.out.b1.cell 2).trans rfl
  have t3 : W0.cell? ⟨w.heap.size + 1, 3, none⟩ = some (.slice s1 t.stack.length d1) := (HD0.out.b1.cell 3).trans rfl
  have t4 : W0.cell? ⟨w.heap.size + 1, 4, none⟩ = some (.int .i64 t.code) := (HD0.out.b1.cell 4).trans rfl
  have r0 : W0.cell? ⟨w.heap.size + 1 + 1, 0, none⟩ = some (.int .i64 t.state) := (HD0.out.b2.cell 0).trans rfl
  have r1 : W0.cell? ⟨w.heap.size + 1 + 1, 1, none⟩ = some (.int .i64 t.on) := (HD0.out.b2.cell 1).trans rfl
  have r2 : W0.cell? ⟨w.heap.size + 1 + 1, 2, none⟩ = some (.slice a2 t.frames.length c2) := (HD0.out.b2.cell 2).trans rfl
  have r3 : W0.cell? ⟨w.heap.size + 1 + 1, 3, none⟩ = some (.slice s2 t.stack.length d2) := (HD0.out.b2.cell 3).trans rfl
  have r4 : W0.cell? ⟨w.heap.size + 1 + 1, 4, none⟩ = some (.int .i64 t.code) := (HD0.out.b2.cell 4).trans rfl
  have e0 : W0.cell? ⟨w.heap.size + 1 + 1 + 1, 0, none⟩ = some (.int .i64 3) := (HD0.out.bd.cell 0).trans rfl
  have e1 : W0.cell? ⟨w.heap.size + 1 + 1 + 1, 1, none⟩ = some (.int .i64 v) := (HD0.out.bd.cell 1).trans rfl
  have e2 : W0.cell? ⟨w.heap.size + 1 + 1 + 1, 2, none⟩ = some (.int .i64 i) := (HD0.out.bd.cell 2).trans rfl
  have zN : w.heap.size + 1 + 1 + 1 + 1 + 1 < W0.heap.size := HD0.out.r2.lt
  have zN0 : w.heap.size < W0.heap.size := by omega
  have zN1 : w.heap.size + 1 < W0.heap.size := by omega
  have zN2 : w.heap.size + 1 + 1 < W0.heap.size := by omega
  have zN3 : w.heap.size + 1 + 1 + 1 < W0.heap.size := by omega
  have zN4 : w.heap.size + 1 + 1 + 1 + 1 < W0.heap.size := by omega
  have hx := HX.out
  subst hx
  clear HX
  have hnl : (x.frames.length : Int) < 2 := by omega
  go_upto_region 17 with fail
  clear hnl
  have TD1 := Lib.hid (TD.mk HD0.out.b1 (HD0.out.t1.mono (E := (fun i => i < w.heap.size ∨ w.heap.size + 1 + 1 + 1 + 1 + 1 + 1 ≤ i)) (fun i hi _ => .inl hi)))
  have TD2 := Lib.hid (TD.mk HD0.out.b2 (HD0.out.t2.mono (E := (fun i => i < w.heap.size ∨ w.heap.size + 1 + 1 + 1 + 1 + 1 + 1 ≤ i)) (fun i hi _ => .inl hi)))
  clear t0 t1 t2 t3 t4 r0 r1 r2 r3 r4 e0 e1 e2 zN zN0 zN1 zN2 zN3 zN4
  have f0 : W0.cell? ⟨w.heap.size + 1, 0, none⟩ = some (.int .i64 x.state) := (TD1.out.tb.cell 0).trans rfl
  have f1 : W0.cell? ⟨w.heap.size + 1, 1, none⟩ = some (.int .i64 x.on) := (TD1.out.tb.cell 1).trans rfl
  have f2 : W0.cell? ⟨w.heap.size + 1, 2, none⟩ = some (.slice a1 x.frames.length c1) := (TD1.out.tb.cell 2).trans rfl
  have f3 : W0.cell? ⟨w.heap.size + 1, 3, none⟩ = some (.slice s1 x.stack.length d1) := (TD1.out.tb.cell 3).trans rfl
  have f4 : W0.cell? ⟨w.heap.size + 1, 4, none⟩ = some (.int .i64 x.code) := (TD1.out.tb.cell 4).trans rfl
  have g0 : W0.cell? ⟨w.heap.size + 1 + 1, 0, none⟩ = some (.int .i64 x.state) := (TD2.out.tb.cell 0).trans rfl
  have g1 : W0.cell? ⟨w.heap.size + 1 + 1, 1, none⟩ = some (.int .i64 x.on) := (TD2.out.tb.cell 1).trans rfl
  have g2 : W0.cell? ⟨w.heap.size + 1 + 1, 2, none⟩ = some (.slice a2 x.frames.length c2) := (TD2.out.tb.cell 2).trans rfl
  have g3 : W0.cell? ⟨w.heap.size + 1 + 1, 3, none⟩ = some (.slice s2 x.stack.length d2) := (TD2.out.tb.cell 3).trans rfl
  have g4 : W0.cell? ⟨w.heap.size + 1 + 1, 4, none⟩ = some (.int .i64 x.code) := (TD2.out.tb.cell 4).trans rfl
  have m0 : W0.cell? ⟨w.heap.size + 1 + 1 + 1 + 1, 0, none⟩ = some (.int .i64 0) := (HD0.out.r1.cell 0).trans rfl
  have k0 : W0.frozen? ⟨w.heap.size + 1 + 1 + 1 + 1, 0, none⟩ = false := HD0.out.r1.frozen 0
  have m1 : W0.cell? ⟨w.heap.size + 1 + 1 + 1 + 1, 1, none⟩ = some (.int .i64 0) := (HD0.out.r1.cell 1).trans rfl
  have k1 : W0.frozen? ⟨w.heap.size + 1 + 1 + 1 + 1, 1, none⟩ = false := HD0.out.r1.frozen 1
  have m2 : W0.cell? ⟨w.heap.size + 1 + 1 + 1 + 1, 2, none⟩ = some (.slice none 0 0) := (HD0.out.r1.cell 2).trans rfl
  have k2 : W0.frozen? ⟨w.heap.size + 1 + 1 + 1 + 1, 2, none⟩ = false := HD0.out.r1.frozen 2
  have m3 : W0.cell? ⟨w.heap.size + 1 + 1 + 1 + 1, 3, none⟩ = some (.slice none 0 0) := (HD0.out.r1.cell 3).trans rfl
  have k3 : W0.frozen? ⟨w.heap.size + 1 + 1 + 1 + 1, 3, none⟩ = false := HD0.out.r1.frozen 3
  have m4 : W0.cell? ⟨w.heap.size + 1 + 1 + 1 + 1, 4, none⟩ = some (.int .i64 0) := (HD0.out.r1.cell 4).trans rfl
  have k4 : W0.frozen? ⟨w.heap.size + 1 + 1 + 1 + 1, 4, none⟩ = false := HD0.out.r1.frozen 4
  have o0 : W0.cell? ⟨w.heap.size + 1 + 1 + 1 + 1 + 1, 0, none⟩ = some (.int .i64 0) := (HD0.out.r2.cell 0).trans rfl
  have q0 : W0.frozen? ⟨w.heap.size + 1 + 1 + 1 + 1 + 1, 0, none⟩ = false := HD0.out.r2.frozen 0
  have o1 : W0.cell? ⟨w.heap.size + 1 + 1 + 1 + 1 + 1, 1, none⟩ = some (.int .i64 0) := (HD0.out.r2.cell 1).trans rfl
  have q1 : W0.frozen? ⟨w.heap.size + 1 + 1 + 1 + 1 + 1, 1, none⟩ = false := HD0.out.r2.frozen 1
  have o2 : W0.cell? ⟨w.heap.size + 1 + 1 + 1 + 1 + 1, 2, none⟩ = some (.slice none 0 0) := (HD0.out.r2.cell 2).trans rfl
  have q2 : W0.frozen? ⟨w.heap.size + 1 + 1 + 1 + 1 + 1, 2, none⟩ = false := HD0.out.r2.frozen 2
  have o3 : W0.cell? ⟨w.heap.size + 1 + 1 + 1 + 1 + 1, 3, none⟩ = some (.slice none 0 0) := (HD0.out.r2.cell 3).trans rfl
  have q3 : W0.frozen? ⟨w.heap.size + 1 + 1 + 1 + 1 + 1, 3, none⟩ = false := HD0.out.r2.frozen 3
  have o4 : W0.cell? ⟨w.heap.size + 1 + 1 + 1 + 1 + 1, 4, none⟩ = some (.int .i64 0) := (HD0.out.r2.cell 4).trans rfl
  have q4 : W0.frozen? ⟨w.heap.size + 1 + 1 + 1 + 1 + 1, 4, none⟩ = false := HD0.out.r2.frozen 4
  have za := TD1.out.tb.lt
  have zb := TD2.out.tb.lt
  have ne14 : ¬ w.heap.size + 1 + 1 + 1 + 1 = w.heap.size + 1 := by omega
  have nf14 : ¬ w.heap.size + 1 = w.heap.size + 1 + 1 + 1 + 1 := by omega
  have ne15 : ¬ w.heap.size + 1 + 1 + 1 + 1 + 1 = w.heap.size + 1 := by omega
  have nf15 : ¬ w.heap.size + 1 = w.heap.size + 1 + 1 + 1 + 1 + 1 := by omega
  have ne24 : ¬ w.heap.size + 1 + 1 + 1 + 1 = w.heap.size + 1 + 1 := by omega
  have nf24 : ¬ w.heap.size + 1 + 1 = w.heap.size + 1 + 1 + 1 + 1 := by omega
  have ne25 : ¬ w.heap.size + 1 + 1 + 1 + 1 + 1 = w.heap.size + 1 + 1 := by omega
  have nf25 : ¬ w.heap.size + 1 + 1 = w.heap.size + 1 + 1 + 1 + 1 + 1 := by omega
  go_region
  all_goals
    go_wp2_with fail
    have hfin := HD0.out.fin TD1.out.rt TD2.out.rt
    refine bodyPost_ret (v := .tuple #[.agg #[.int .i64 x.state, .int .i64 x.on, .slice a1 x.frames.length c1, .slice s1 x.stack.length d1, .int .i64 x.code], .agg #[.int .i64 x.state, .int .i64 x.on, .slice a2 x.frames.length c2, .slice s2 x.stack.length d2, .int .i64 x.code], .bool true]) (results_cells2_slot rfl _ _ (w.heap.size + 1 + 1 + 1 + 1) (w.heap.size + 1 + 1 + 1 + 1 + 1) 51 _ _ (0, 0) (0, 0) _ _ rfl rfl rfl hfin.1.drew hfin.2.1.drew Try.underlying51 rfl (by kernel_rfl) (by kernel_rfl)) rfl ?_
    exact ⟨⟨a1, c1, s1, d1⟩, ⟨a2, c2, s2, d2⟩, rfl, RT.drew hfin.2.2.1, RT.drew hfin.2.2.2.1, hfin.2.2.2.2.drew⟩

set_option maxHeartbeats 4000000 in
set_option maxRecDepth 100000 in
theorem does_k4 (h : PH) (p : PV) (h1 h2 : TH) (t : TV) (v i : Int) (w : World) (hp : RP w w.heap.size h p) (ht1 : RT w (fun _ => True) h1 t) (ht2 : RT w (fun _ => True) h2 t) (hfl : FewLoc p) (hpl : p.funcs.length ≤ 1000000) (hl : LensT t) (hm : 1 ≤ t.frames.length ∧ t.frames.length ≤ 8 ∧ t.stack.length ≤ 16) (hv : -9223372036854775808 ≤ v ∧ v ≤ 9223372036854775807) (hi : -9223372036854775808 ≤ i ∧ i ≤ 9223372036854775807) (f : Nat) (hf : f < p.funcs.length) (hfu : (lastFr t).func = (f : Int)) (hcl : (funcAt p (lastFr t).func).code.length ≤ 1000000) (x : TV) (hx : x = jumpT t (around v ((funcAt p (lastFr t).func).code.length + 1))) :
    Calls Try.prog 34 #[.agg #[.slice h.fA p.funcs.length h.fc, .int .i64 p.mutexes, .slice h.cA p.conds.length h.cc, .slice h.sA p.semas.length h.sc, .slice h.hA p.chans.length h.hc, .slice h.xA p.choices.length h.xc, .int .i64 p.threads], .agg #[.int .i64 t.state, .int .i64 t.on, .slice h1.fA t.frames.length h1.fc, .slice h1.sA t.stack.length h1.sc, .int .i64 t.code], .agg #[.int .i64 t.state, .int .i64 t.on, .slice h2.fA t.frames.length h2.fc, .slice h2.sA t.stack.length h2.sc, .int .i64 t.code], .agg #[.int .i64 4, .int .i64 v, .int .i64 i]] w
      fun e w' => ∃ ha hb : TH, e = .returned (.tuple #[.agg #[.int .i64 x.state, .int .i64 x.on, .slice ha.fA x.frames.length ha.fc, .slice ha.sA x.stack.length ha.sc, .int .i64 x.code], .agg #[.int .i64 x.state, .int .i64 x.on, .slice hb.fA x.frames.length hb.fc, .slice hb.sA x.stack.length hb.sc, .int .i64 x.code], .bool true]) ∧ RT w' (fun _ => True) ha x ∧ RT w' (fun _ => True) hb x ∧ Below w.heap.size w w' := by
  have hds := DSt.new (kind := 4) (v := v) (i := i) hp ht1 ht2
  obtain ⟨fA, fc, cA, cc, sA, sc, hA, hc, xA, xc⟩ := h
  obtain ⟨a1, c1, s1, d1⟩ := h1
  obtain ⟨a2, c2, s2, d2⟩ := h2
  have HDs := Lib.hid hds; have HL := Lib.hid hl; have HX := Lib.hid hx; have HFL := Lib.hid hfl
  obtain ⟨hm1, hm8, hm16⟩ := hm
  obtain ⟨k, hk, hkl⟩ := lastFr_ex hm1
  have HK := Lib.hid hk; have HKL := Lib.hid hkl; have HFU := Lib.hid hfu
  have hk8 : k < 8 := by omega
  clear hk hkl hfu
  clear hds hp ht1 ht2 hl hx hfl
  go_enter Try.func34, Try.ntmps34
  go_upto_region 21 with fail
  obtain ⟨W0, hW0⟩ : ∃ W, W = ((((((w.alloc (.cells #[.slice fA p.funcs.length fc, .int .i64 p.mutexes, .slice cA p.conds.length cc, .slice sA p.semas.length sc, .slice hA p.chans.length hc, .slice xA p.choices.length xc, .int .i64 p.threads] 26)).alloc (.cells #[.int .i64 t.state, .int .i64 t.on, .slice a1 t.frames.length c1, .slice s1 t.stack.length d1, .int .i64 t.code] 51)).alloc (.cells #[.int .i64 t.state, .int .i64 t.on, .slice a2 t.frames.length c2, .slice s2 t.stack.length d2, .int .i64 t.code] 51)).alloc (.cells #[.int .i64 4, .int .i64 v, .int .i64 i] 53)).alloc (.cells #[.int .i64 0, .int .i64 0, .slice none 0 0, .slice none 0 0, .int .i64 0] 51)).alloc (.cells #[.int .i64 0, .int .i64 0, .slice none 0 0, .slice none 0 0, .int .i64 0] 51)) := ⟨_, rfl⟩
  have hd0 : DSt w W0 ⟨fA, fc, cA, cc, sA, sc, hA, hc, xA, xc⟩ p ⟨a1, c1, s1, d1⟩ ⟨a2, c2, s2, d2⟩ t 4 v i := by rw [hW0]; exact HDs.out
  have HD0 := Lib.hid hd0
  rw [← hW0]
  clear hW0 hd0 HDs
  have p0 : W0.cell? ⟨w.heap.size, 0, none⟩ = some (.slice fA p.funcs.length fc) := (HD0.out.pb.cell 0).trans rfl
  have p1 : W0.cell? ⟨w.heap.size, 1, none⟩ = some (.int .i64 p.mutexes) := (HD0.out.pb.cell 1).trans rfl
  have p2 : W0.cell? ⟨w.heap.size, 2, none⟩ = some (.slice cA p.conds.length cc) := (HD0.out.pb.cell 2).trans rfl
  have p3 : W0.cell? ⟨w.heap.size, 3, none⟩ = some (.slice sA p.semas.length sc) := (HD0.out.pb.cell 3).trans rfl
  have p4 : W0.cell? ⟨w.heap.size, 4, none⟩ = some (.slice hA p.chans.length hc) := (HD0.out.pb.cell 4).trans rfl
  have p5 : W0.cell? ⟨w.heap.size, 5, none⟩ = some (.slice xA p.choices.length xc) := (HD0.out.pb.cell 5).trans rfl
  have p6 : W0.cell? ⟨w.heap.size, 6, none⟩ = some (.int .i64 p.threads) := (HD0.out.pb.cell 6).trans rfl
  have t0 : W0.cell? ⟨w.heap.size + 1, 0, none⟩ = some (.int .i64 t.state) := (HD0.out.b1.cell 0).trans rfl
  have t1 : W0.cell? ⟨w.heap.size + 1, 1, none⟩ = some (.int .i64 t.on) := (HD0.out.b1.cell 1).trans rfl
  have t2 : W0.cell? ⟨w.heap.size + 1, 2, none⟩ = some (.slice a1 t.frames.length c1) := (HD0.out.b1.cell 2).trans rfl
  have t3 : W0.cell? ⟨w.heap.size + 1, 3, none⟩ = some (.slice s1 t.stack.length d1) := (HD0.out.b1.cell 3).trans rfl
  have t4 : W0.cell? ⟨w.heap.size + 1, 4, none⟩ = some (.int .i64 t.code) := (HD0.out.b1.cell 4).trans rfl
  have r0 : W0.cell? ⟨w.heap.size + 1 + 1, 0, none⟩ = some (.int .i64 t.state) := (HD0.out.b2.cell 0).trans rfl
  have r1 : W0.cell? ⟨w.heap.size + 1 + 1, 1, none⟩ = some (.int .i64 t.on) := (HD0.out.b2.cell 1).trans rfl
  have r2 : W0.cell? ⟨w.heap.size + 1 + 1, 2, none⟩ = some (.slice a2 t.frames.length c2) := (HD0.out.b2.cell 2).trans rfl
  have r3 : W0.cell? ⟨w.heap.size + 1 + 1, 3, none⟩ = some (.slice s2 t.stack.length d2) := (HD0.out.b2.cell 3).trans rfl
  have r4 : W0.cell? ⟨w.heap.size + 1 + 1, 4, none⟩ = some (.int .i64 t.code) := (HD0.out.b2.cell 4).trans rfl
  have e0 : W0.cell? ⟨w.heap.size + 1 + 1 + 1, 0, none⟩ = some (.int .i64 4) := (HD0.out.bd.cell 0).trans rfl
  have e1 : W0.cell? ⟨w.heap.size + 1 + 1 + 1, 1, none⟩ = some (.int .i64 v) := (HD0.out.bd.cell 1).trans rfl
  have e2 : W0.cell? ⟨w.heap.size + 1 + 1 + 1, 2, none⟩ = some (.int .i64 i) := (HD0.out.bd.cell 2).trans rfl
  have zN : w.heap.size + 1 + 1 + 1 + 1 + 1 < W0.heap.size := HD0.out.r2.lt
  have zN0 : w.heap.size < W0.heap.size := by omega
  have zN1 : w.heap.size + 1 < W0.heap.size := by omega
  have zN2 : w.heap.size + 1 + 1 < W0.heap.size := by omega
  have zN3 : w.heap.size + 1 + 1 + 1 < W0.heap.size := by omega
  have zN4 : w.heap.size + 1 + 1 + 1 + 1 < W0.heap.size := by omega
  have hrg := HD0.out.t2.frames.rg
  obtain ⟨ad, y, hA, hab, hy, y0, y1, y2, hyr⟩ := hrg.at_ (k := k) (by have := HK.out; omega)
  have hsp : ad.spot = none := by obtain ⟨ts, _, _, _, h4, _⟩ := hrg; rw [hA] at h4; exact h4.spot (by have := HK.out; omega) (by omega)
  have hyl : y.f = lastFr t := by have := HKL.out; rw [hy] at this; injection this
  obtain ⟨ap, z, hP, hpb, hz, z0, z1, hzc⟩ := HD0.out.rp.funcs.at_ hf
  have hrf := HD0.out.rp.funcs
  have hsq : ap.spot = none := by obtain ⟨ts, _, _, _, h4, _⟩ := hrf; rw [hP] at h4; exact h4.spot (by omega) (by omega)
  have hzl : funcAt p (lastFr t).func = z.f := by unfold funcAt; rw [HFU.out, show ((f : Int)).toNat = f by omega, List.getD_eq_getElem?_getD, hz]; rfl
  have HZL := Lib.hid hzl
  rw [hyl, HFU.out] at y0
  obtain ⟨bA, oA, pA⟩ := ad
  obtain ⟨bP, oP, pP⟩ := ap
  simp only at hA hP hsp hsq hab hpb
  subst hsp hsq
  have had1 : ((⟨bA, oA, none⟩ : Addr).add (k * 3)) = ⟨bA, oA + k * 3, none⟩ := by unfold Addr.add; by_cases h0 : k * 3 = 0 <;> simp [h0]
  have had2 : ((⟨bP, oP, none⟩ : Addr).add (f * 2)) = ⟨bP, oP + f * 2, none⟩ := by unfold Addr.add; by_cases h0 : f * 2 = 0 <;> simp [h0]
  rw [had1] at y0
  rw [had2] at z0 z1
  simp only at z1
  have iw : IntKind.i64.wrap (k : Int) = (k : Int) := IntWalk.i64_in _ (by omega)
  have hpb' : bP < W0.heap.size := by have := HD0.out.bel.size; omega
  clear had1 had2 hrg hrf
  clear r2
  have r2 : W0.cell? ⟨w.heap.size + 1 + 1, 2, none⟩ = some (.slice (some ⟨bA, oA, none⟩) (k + 1) c2) := (HD0.out.b2.cell 2).trans (show some (Value.slice a2 t.frames.length c2) = _ by rw [hA, HK.out])
  clear p0
  have p0 : W0.cell? ⟨w.heap.size, 0, none⟩ = some (.slice (some ⟨bP, oP, none⟩) p.funcs.length fc) := (HD0.out.pb.cell 0).trans (show some (Value.slice fA p.funcs.length fc) = _ by rw [hP])
  clear hA hP
  have ik : (k : Int) < (k : Int) + 1 := by omega
  have ifu : (f : Int) < (p.funcs.length : Int) := by omega
  clear hy y1 y2 hyr hyl hpb hz hzc hzl
  go_cut [30] (fun s30 wx => s30 = .pointer (some ⟨W0.heap.size, 0, none⟩) ∧ wx = (W0.alloc (.cells #[.int .i64 z.f.locals, .slice z.A z.f.code.length z.c] 45)).drew)
  case first =>
    go_region
    all_goals
      go_wp2_with fail
      go_meet
      exact ⟨rfl, rfl⟩
  case rest =>
  obtain ⟨rfl, rfl⟩ := hcut
  have hal : Below W0.heap.size W0 ((W0.alloc (.cells #[.int .i64 z.f.locals, .slice z.A z.f.code.length z.c] 45)).drew) := ((Below.refl _ _).alloc (Nat.le_refl _) _).drew
  have hds := HD0.out.below hal
  have hbo : Blk ((W0.alloc (.cells #[.int .i64 z.f.locals, .slice z.A z.f.code.length z.c] 45)).drew) W0.heap.size 45 #[.int .i64 z.f.locals, .slice z.A z.f.code.length z.c] := (Blk.new _ _ _).drew
  have hzo : w.heap.size + 1 + 1 + 1 + 1 + 1 + 1 ≤ W0.heap.size := HD0.out.r2.lt
  obtain ⟨ob, hob⟩ : ∃ b, b = W0.heap.size := ⟨_, rfl⟩
  obtain ⟨W1, hW1⟩ : ∃ W, W = (W0.alloc (.cells #[.int .i64 z.f.locals, .slice z.A z.f.code.length z.c] 45)).drew := ⟨_, rfl⟩
  rw [← hW1] at hds hbo ⊢
  rw [← hob] at hbo hzo ⊢
  have HD1 := Lib.hid hds; have HBO := Lib.hid hbo
  have hcz := hcl
  rw [HZL.out] at hcz
  clear hal hds hbo hW1 hob HD0 y0 z0 z1 iw ik ifu hcl p0 p1 p2 p3 p4 p5 p6 t0 t1 t2 t3 t4 r0 r1 r2 r3 r4 e0 e1 e2 zN zN0 zN1 zN2 zN3 zN4
  have zob : ob < W1.heap.size := HBO.out.lt
  have o0 : W1.cell? ⟨ob, 0, none⟩ = some (.int .i64 z.f.locals) := (HBO.out.cell 0).trans rfl
  have o1 : W1.cell? ⟨ob, 1, none⟩ = some (.slice z.A z.f.code.length z.c) := (HBO.out.cell 1).trans rfl
  have t0 : W1.cell? ⟨w.heap.size + 1, 0, none⟩ = some (.int .i64 t.state) := (HD1.out.b1.cell 0).trans rfl
  have t1 : W1.cell? ⟨w.heap.size + 1, 1, none⟩ = some (.int .i64 t.on) := (HD1.out.b1.cell 1).trans rfl
  have t2 : W1.cell? ⟨w.heap.size + 1, 2, none⟩ = some (.slice a1 t.frames.length c1) := (HD1.out.b1.cell 2).trans rfl
  have t3 : W1.cell? ⟨w.heap.size + 1, 3, none⟩ = some (.slice s1 t.stack.length d1) := (HD1.out.b1.cell 3).trans rfl
  have t4 : W1.cell? ⟨w.heap.size + 1, 4, none⟩ = some (.int .i64 t.code) := (HD1.out.b1.cell 4).trans rfl
  have r0 : W1.cell? ⟨w.heap.size + 1 + 1, 0, none⟩ = some (.int .i64 t.state) := (HD1.out.b2.cell 0).trans rfl
  have r1 : W1.cell? ⟨w.heap.size + 1 + 1, 1, none⟩ = some (.int .i64 t.on) := (HD1.out.b2.cell 1).trans rfl
  have r2 : W1.cell? ⟨w.heap.size + 1 + 1, 2, none⟩ = some (.slice a2 t.frames.length c2) := (HD1.out.b2.cell 2).trans rfl
  have r3 : W1.cell? ⟨w.heap.size + 1 + 1, 3, none⟩ = some (.slice s2 t.stack.length d2) := (HD1.out.b2.cell 3).trans rfl
  have r4 : W1.cell? ⟨w.heap.size + 1 + 1, 4, none⟩ = some (.int .i64 t.code) := (HD1.out.b2.cell 4).trans rfl
  have e0 : W1.cell? ⟨w.heap.size + 1 + 1 + 1, 0, none⟩ = some (.int .i64 4) := (HD1.out.bd.cell 0).trans rfl
  have e1 : W1.cell? ⟨w.heap.size + 1 + 1 + 1, 1, none⟩ = some (.int .i64 v) := (HD1.out.bd.cell 1).trans rfl
  have e2 : W1.cell? ⟨w.heap.size + 1 + 1 + 1, 2, none⟩ = some (.int .i64 i) := (HD1.out.bd.cell 2).trans rfl
  have zN : w.heap.size + 1 + 1 + 1 + 1 + 1 < W1.heap.size := HD1.out.r2.lt
  have zN0 : w.heap.size < W1.heap.size := by omega
  have zN1 : w.heap.size + 1 < W1.heap.size := by omega
  have zN2 : w.heap.size + 1 + 1 < W1.heap.size := by omega
  have zN3 : w.heap.size + 1 + 1 + 1 < W1.heap.size := by omega
  have zN4 : w.heap.size + 1 + 1 + 1 + 1 < W1.heap.size := by omega
  go_upto_region 23 with fail
  go_wp2_with fail
  refine (around_any v ((z.f.code.length : Int) + 1) W1 hv.1 hv.2 (by omega) (by omega)).mono ?_
  rintro e wq ⟨rfl, rfl⟩
  have hx2 : x = jumpT t (around v ((z.f.code.length : Int) + 1)) := by rw [HX.out, HZL.out]
  have HX2 := Lib.hid hx2
  clear hx2
  generalize around v ((z.f.code.length : Int) + 1) = pc at *
  have hz6 : w.heap.size + 1 + 1 + 1 + 1 + 1 + 1 ≤ W1.heap.size := HD1.out.r2.lt
  have HJ1 : Hid (∀ X, Fr (fun i => i = w.heap.size + 1 + 1 + 1 + 1 ∨ i = w.heap.size + 1 + 1 + 1 + 1 + 1) W1 X → Calls Try.prog 106 #[.agg #[.int .i64 t.state, .int .i64 t.on, .slice a1 t.frames.length c1, .slice s1 t.stack.length d1, .int .i64 t.code], .int .i64 pc] X fun e w' => ∃ h' : TH, e = .returned (.agg #[.int .i64 x.state, .int .i64 x.on, .slice h'.fA x.frames.length h'.fc, .slice h'.sA x.stack.length h'.sc, .int .i64 x.code]) ∧ RT w' (fun i => i < w.heap.size ∨ w.heap.size + 1 + 1 + 1 + 1 + 1 + 1 ≤ i) h' x ∧ Below X.heap.size X w' ∧ Fr (fun i => i = w.heap.size + 1 + 1 + 1 + 1 ∨ i = w.heap.size + 1 + 1 + 1 + 1 + 1) W1 w') := fun X hX => by
    refine (jump_all ⟨a1, c1, s1, d1⟩ t pc X (fun i => i < w.heap.size) (HD1.out.t1.keep (fun q hd hq => hX.cell hq (fun e => by rcases e with e | e <;> omega))) HL.out hm1 (by omega) x HX2.out).mono ?_
    rintro e w' ⟨h', he, hrt, hb⟩
    have hs := hX.size
    exact ⟨h', he, hrt.mono (fun j hj _ => by rcases hj with hj | hj; exact .inl hj; exact .inr (by omega)), hb, hX.trans (Fr.of_below hb) (fun j hj hT => by omega)⟩
  have HJ2 : Hid (∀ X, Fr (fun i => i = w.heap.size + 1 + 1 + 1 + 1 ∨ i = w.heap.size + 1 + 1 + 1 + 1 + 1) W1 X → Calls Try.prog 107 #[.agg #[.int .i64 t.state, .int .i64 t.on, .slice a2 t.frames.length c2, .slice s2 t.stack.length d2, .int .i64 t.code], .int .i64 pc] X fun e w' => ∃ h' : TH, e = .returned (.agg #[.int .i64 x.state, .int .i64 x.on, .slice h'.fA x.frames.length h'.fc, .slice h'.sA x.stack.length h'.sc, .int .i64 x.code]) ∧ RT w' (fun i => i < w.heap.size ∨ w.heap.size + 1 + 1 + 1 + 1 + 1 + 1 ≤ i) h' x ∧ Below X.heap.size X w' ∧ Fr (fun i => i = w.heap.size + 1 + 1 + 1 + 1 ∨ i = w.heap.size + 1 + 1 + 1 + 1 + 1) W1 w') := fun X hX => by
    refine (refJump_all ⟨a2, c2, s2, d2⟩ t pc X (fun i => i < w.heap.size) (HD1.out.t2.keep (fun q hd hq => hX.cell hq (fun e => by rcases e with e | e <;> omega))) HL.out hm1 (by omega) x HX2.out).mono ?_
    rintro e w' ⟨h', he, hrt, hb⟩
    have hs := hX.size
    exact ⟨h', he, hrt.mono (fun j hj _ => by rcases hj with hj | hj; exact .inl hj; exact .inr (by omega)), hb, hX.trans (Fr.of_below hb) (fun j hj hT => by omega)⟩
  go_upto_region 24 with fail
  have KS : Hid (∀ X, Fr (fun i => i = w.heap.size + 1 + 1 + 1 + 1 ∨ i = w.heap.size + 1 + 1 + 1 + 1 + 1) W1 X → X.cell? ⟨w.heap.size + 1, 0, none⟩ = some (.int .i64 t.state) ∧ X.cell? ⟨w.heap.size + 1, 1, none⟩ = some (.int .i64 t.on) ∧ X.cell? ⟨w.heap.size + 1, 2, none⟩ = some (.slice a1 t.frames.length c1) ∧ X.cell? ⟨w.heap.size + 1, 3, none⟩ = some (.slice s1 t.stack.length d1) ∧ X.cell? ⟨w.heap.size + 1, 4, none⟩ = some (.int .i64 t.code) ∧ X.cell? ⟨w.heap.size + 1 + 1, 0, none⟩ = some (.int .i64 t.state) ∧ X.cell? ⟨w.heap.size + 1 + 1, 1, none⟩ = some (.int .i64 t.on) ∧ X.cell? ⟨w.heap.size + 1 + 1, 2, none⟩ = some (.slice a2 t.frames.length c2) ∧ X.cell? ⟨w.heap.size + 1 + 1, 3, none⟩ = some (.slice s2 t.stack.length d2) ∧ X.cell? ⟨w.heap.size + 1 + 1, 4, none⟩ = some (.int .i64 t.code)) := fun X hX => by
    have g1 := hX.blk HD1.out.b1 (by omega)
    have g2 := hX.blk HD1.out.b2 (by omega)
    exact ⟨(g1.cell 0).trans rfl, (g1.cell 1).trans rfl, (g1.cell 2).trans rfl, (g1.cell 3).trans rfl, (g1.cell 4).trans rfl, (g2.cell 0).trans rfl, (g2.cell 1).trans rfl, (g2.cell 2).trans rfl, (g2.cell 3).trans rfl, (g2.cell 4).trans rfl⟩
  have KR : Fr (fun i => i = w.heap.size + 1 + 1 + 1 + 1 ∨ i = w.heap.size + 1 + 1 + 1 + 1 + 1) W1 W1 := Fr.refl _ _
  go_region_held3 (fun w' => w'.cell? ⟨w.heap.size + 1, 0, none⟩ = some (.int .i64 t.state) ∧ w'.cell? ⟨w.heap.size + 1, 1, none⟩ = some (.int .i64 t.on) ∧ w'.cell? ⟨w.heap.size + 1, 2, none⟩ = some (.slice a1 t.frames.length c1) ∧ w'.cell? ⟨w.heap.size + 1, 3, none⟩ = some (.slice s1 t.stack.length d1) ∧ w'.cell? ⟨w.heap.size + 1, 4, none⟩ = some (.int .i64 t.code) ∧ w'.cell? ⟨w.heap.size + 1 + 1, 0, none⟩ = some (.int .i64 t.state) ∧ w'.cell? ⟨w.heap.size + 1 + 1, 1, none⟩ = some (.int .i64 t.on) ∧ w'.cell? ⟨w.heap.size + 1 + 1, 2, none⟩ = some (.slice a2 t.frames.length c2) ∧ w'.cell? ⟨w.heap.size + 1 + 1, 3, none⟩ = some (.slice s2 t.stack.length d2) ∧ w'.cell? ⟨w.heap.size + 1 + 1, 4, none⟩ = some (.int .i64 t.code))
    (first | (with_reducible exact KS.out _ (by repeat (first | with_reducible assumption | with_reducible exact Fr.refl _ _ | with_reducible refine Fr.drew ?_ | with_reducible refine Fr.setCell ?_ (.inl (by first | exact .inl rfl | exact .inr rfl)) _))) | fail)
    (first
      | (go_simp; with_reducible refine (HJ1.out _ (by repeat (first | with_reducible assumption | with_reducible exact Fr.refl _ _ | with_reducible refine Fr.drew ?_ | with_reducible refine Fr.setCell ?_ (.inl (by first | exact .inl rfl | exact .inr rfl)) _))).mono ?_; rintro e wA ⟨⟨au, cu, su, du⟩, rfl, hrtA, hbA, hkA⟩
         have R1A := Lib.hid ((HD1.out.r1.drew).below hbA (HD1.out.r1.lt))
         have R2A := Lib.hid ((HD1.out.r2.drew).below hbA (HD1.out.r2.lt))
         have zA4 := R1A.out.lt
         have zA5 := R2A.out.lt
         have HRA := Lib.hid hrtA; have HBA := Lib.hid hbA
         have m0 : wA.cell? ⟨w.heap.size + 1 + 1 + 1 + 1, 0, none⟩ = some (.int .i64 0) := (R1A.out.cell 0).trans rfl
         have k0 : wA.frozen? ⟨w.heap.size + 1 + 1 + 1 + 1, 0, none⟩ = false := R1A.out.frozen 0
         have m1 : wA.cell? ⟨w.heap.size + 1 + 1 + 1 + 1, 1, none⟩ = some (.int .i64 0) := (R1A.out.cell 1).trans rfl
         have k1 : wA.frozen? ⟨w.heap.size + 1 + 1 + 1 + 1, 1, none⟩ = false := R1A.out.frozen 1
         have m2 : wA.cell? ⟨w.heap.size + 1 + 1 + 1 + 1, 2, none⟩ = some (.slice none 0 0) := (R1A.out.cell 2).trans rfl
         have k2 : wA.frozen? ⟨w.heap.size + 1 + 1 + 1 + 1, 2, none⟩ = false := R1A.out.frozen 2
         have m3 : wA.cell? ⟨w.heap.size + 1 + 1 + 1 + 1, 3, none⟩ = some (.slice none 0 0) := (R1A.out.cell 3).trans rfl
         have k3 : wA.frozen? ⟨w.heap.size + 1 + 1 + 1 + 1, 3, none⟩ = false := R1A.out.frozen 3
         have m4 : wA.cell? ⟨w.heap.size + 1 + 1 + 1 + 1, 4, none⟩ = some (.int .i64 0) := (R1A.out.cell 4).trans rfl
         have k4 : wA.frozen? ⟨w.heap.size + 1 + 1 + 1 + 1, 4, none⟩ = false := R1A.out.frozen 4
         have o0 : wA.cell? ⟨w.heap.size + 1 + 1 + 1 + 1 + 1, 0, none⟩ = some (.int .i64 0) := (R2A.out.cell 0).trans rfl
         have q0 : wA.frozen? ⟨w.heap.size + 1 + 1 + 1 + 1 + 1, 0, none⟩ = false := R2A.out.frozen 0
         have o1 : wA.cell? ⟨w.heap.size + 1 + 1 + 1 + 1 + 1, 1, none⟩ = some (.int .i64 0) := (R2A.out.cell 1).trans rfl
         have q1 : wA.frozen? ⟨w.heap.size + 1 + 1 + 1 + 1 + 1, 1, none⟩ = false := R2A.out.frozen 1
         have o2 : wA.cell? ⟨w.heap.size + 1 + 1 + 1 + 1 + 1, 2, none⟩ = some (.slice none 0 0) := (R2A.out.cell 2).trans rfl
         have q2 : wA.frozen? ⟨w.heap.size + 1 + 1 + 1 + 1 + 1, 2, none⟩ = false := R2A.out.frozen 2
         have o3 : wA.cell? ⟨w.heap.size + 1 + 1 + 1 + 1 + 1, 3, none⟩ = some (.slice none 0 0) := (R2A.out.cell 3).trans rfl
         have q3 : wA.frozen? ⟨w.heap.size + 1 + 1 + 1 + 1 + 1, 3, none⟩ = false := R2A.out.frozen 3
         have o4 : wA.cell? ⟨w.heap.size + 1 + 1 + 1 + 1 + 1, 4, none⟩ = some (.int .i64 0) := (R2A.out.cell 4).trans rfl
         have q4 : wA.frozen? ⟨w.heap.size + 1 + 1 + 1 + 1 + 1, 4, none⟩ = false := R2A.out.frozen 4
         clear hrtA hbA)
      | (go_simp; with_reducible refine (HJ2.out _ (by repeat (first | with_reducible assumption | with_reducible exact Fr.refl _ _ | with_reducible refine Fr.drew ?_ | with_reducible refine Fr.setCell ?_ (.inl (by first | exact .inl rfl | exact .inr rfl)) _))).mono ?_; rintro e wB ⟨⟨ay, cy, sy, dy⟩, rfl, hrtB, hbB, hkB⟩
         have HRB := Lib.hid hrtB
         first
           | (have R1B : Blk wB (w.heap.size + 1 + 1 + 1 + 1) 51 #[.int .i64 0, .int .i64 0, .slice none 0 0, .slice none 0 0, .int .i64 0] := R1A.out.below hbB R1A.out.lt
              have R2B : Blk wB (w.heap.size + 1 + 1 + 1 + 1 + 1) 51 #[.int .i64 0, .int .i64 0, .slice none 0 0, .slice none 0 0, .int .i64 0] := R2A.out.below hbB R2A.out.lt
              have HBB := Lib.hid hbB
              have zB4 := R1B.lt
              have zB5 := R2B.lt
              have mb0 : wB.cell? ⟨w.heap.size + 1 + 1 + 1 + 1, 0, none⟩ = some (.int .i64 0) := (R1B.cell 0).trans rfl
              have kb0 : wB.frozen? ⟨w.heap.size + 1 + 1 + 1 + 1, 0, none⟩ = false := R1B.frozen 0
              have mb1 : wB.cell? ⟨w.heap.size + 1 + 1 + 1 + 1, 1, none⟩ = some (.int .i64 0) := (R1B.cell 1).trans rfl
              have kb1 : wB.frozen? ⟨w.heap.size + 1 + 1 + 1 + 1, 1, none⟩ = false := R1B.frozen 1
              have mb2 : wB.cell? ⟨w.heap.size + 1 + 1 + 1 + 1, 2, none⟩ = some (.slice none 0 0) := (R1B.cell 2).trans rfl
              have kb2 : wB.frozen? ⟨w.heap.size + 1 + 1 + 1 + 1, 2, none⟩ = false := R1B.frozen 2
              have mb3 : wB.cell? ⟨w.heap.size + 1 + 1 + 1 + 1, 3, none⟩ = some (.slice none 0 0) := (R1B.cell 3).trans rfl
              have kb3 : wB.frozen? ⟨w.heap.size + 1 + 1 + 1 + 1, 3, none⟩ = false := R1B.frozen 3
              have mb4 : wB.cell? ⟨w.heap.size + 1 + 1 + 1 + 1, 4, none⟩ = some (.int .i64 0) := (R1B.cell 4).trans rfl
              have kb4 : wB.frozen? ⟨w.heap.size + 1 + 1 + 1 + 1, 4, none⟩ = false := R1B.frozen 4
              have qb0 : wB.cell? ⟨w.heap.size + 1 + 1 + 1 + 1 + 1, 0, none⟩ = some (.int .i64 0) := (R2B.cell 0).trans rfl
              have ub0 : wB.frozen? ⟨w.heap.size + 1 + 1 + 1 + 1 + 1, 0, none⟩ = false := R2B.frozen 0
              have qb1 : wB.cell? ⟨w.heap.size + 1 + 1 + 1 + 1 + 1, 1, none⟩ = some (.int .i64 0) := (R2B.cell 1).trans rfl
              have ub1 : wB.frozen? ⟨w.heap.size + 1 + 1 + 1 + 1 + 1, 1, none⟩ = false := R2B.frozen 1
              have qb2 : wB.cell? ⟨w.heap.size + 1 + 1 + 1 + 1 + 1, 2, none⟩ = some (.slice none 0 0) := (R2B.cell 2).trans rfl
              have ub2 : wB.frozen? ⟨w.heap.size + 1 + 1 + 1 + 1 + 1, 2, none⟩ = false := R2B.frozen 2
              have qb3 : wB.cell? ⟨w.heap.size + 1 + 1 + 1 + 1 + 1, 3, none⟩ = some (.slice none 0 0) := (R2B.cell 3).trans rfl
              have ub3 : wB.frozen? ⟨w.heap.size + 1 + 1 + 1 + 1 + 1, 3, none⟩ = false := R2B.frozen 3
              have qb4 : wB.cell? ⟨w.heap.size + 1 + 1 + 1 + 1 + 1, 4, none⟩ = some (.int .i64 0) := (R2B.cell 4).trans rfl
              have ub4 : wB.frozen? ⟨w.heap.size + 1 + 1 + 1 + 1 + 1, 4, none⟩ = false := R2B.frozen 4
              clear R1B R2B hbB hrtB)
           | (have R2B : Blk wB (w.heap.size + 1 + 1 + 1 + 1 + 1) 51 #[.int .i64 0, .int .i64 0, .slice none 0 0, .slice none 0 0, .int .i64 0] := (R2A.out.far5 (by omega) _ _ _ _ _).below hbB (by simpa using R2A.out.lt)
              have HBB := Lib.hid hbB
              have zB5 := R2B.lt
              have qb0 : wB.cell? ⟨w.heap.size + 1 + 1 + 1 + 1 + 1, 0, none⟩ = some (.int .i64 0) := (R2B.cell 0).trans rfl
              have ub0 : wB.frozen? ⟨w.heap.size + 1 + 1 + 1 + 1 + 1, 0, none⟩ = false := R2B.frozen 0
              have qb1 : wB.cell? ⟨w.heap.size + 1 + 1 + 1 + 1 + 1, 1, none⟩ = some (.int .i64 0) := (R2B.cell 1).trans rfl
              have ub1 : wB.frozen? ⟨w.heap.size + 1 + 1 + 1 + 1 + 1, 1, none⟩ = false := R2B.frozen 1
              have qb2 : wB.cell? ⟨w.heap.size + 1 + 1 + 1 + 1 + 1, 2, none⟩ = some (.slice none 0 0) := (R2B.cell 2).trans rfl
              have ub2 : wB.frozen? ⟨w.heap.size + 1 + 1 + 1 + 1 + 1, 2, none⟩ = false := R2B.frozen 2
              have qb3 : wB.cell? ⟨w.heap.size + 1 + 1 + 1 + 1 + 1, 3, none⟩ = some (.slice none 0 0) := (R2B.cell 3).trans rfl
              have ub3 : wB.frozen? ⟨w.heap.size + 1 + 1 + 1 + 1 + 1, 3, none⟩ = false := R2B.frozen 3
              have qb4 : wB.cell? ⟨w.heap.size + 1 + 1 + 1 + 1 + 1, 4, none⟩ = some (.int .i64 0) := (R2B.cell 4).trans rfl
              have ub4 : wB.frozen? ⟨w.heap.size + 1 + 1 + 1 + 1 + 1, 4, none⟩ = false := R2B.frozen 4
              clear R2B hbB hrtB)))
  all_goals
    go_wp2_with fail
    have hb0 : Below W1.heap.size W1 wA := ((Below.refl _ _).drew).trans HBA.out
    first
      | (have hfin := ((HD1.out.below hb0).below HBB.out).fin (HRA.out.below HBB.out) HRB.out
         refine bodyPost_ret (v := .tuple #[.agg #[.int .i64 x.state, .int .i64 x.on, .slice au x.frames.length cu, .slice su x.stack.length du, .int .i64 x.code], .agg #[.int .i64 x.state, .int .i64 x.on, .slice ay x.frames.length cy, .slice sy x.stack.length dy, .int .i64 x.code], .bool true]) (results_cells2_slot rfl _ _ (w.heap.size + 1 + 1 + 1 + 1) (w.heap.size + 1 + 1 + 1 + 1 + 1) 51 _ _ (0, 0) (0, 0) _ _ rfl rfl rfl hfin.1 hfin.2.1 Try.underlying51 rfl (by kernel_rfl) (by kernel_rfl)) rfl ?_
         exact ⟨⟨au, cu, su, du⟩, ⟨ay, cy, sy, dy⟩, rfl, hfin.2.2.1, hfin.2.2.2.1, hfin.2.2.2.2⟩)
      | (have hfin := (HD1.out.below hb0).finB HRA.out HBB.out HRB.out
         refine bodyPost_ret (v := .tuple #[.agg #[.int .i64 x.state, .int .i64 x.on, .slice au x.frames.length cu, .slice su x.stack.length du, .int .i64 x.code], .agg #[.int .i64 x.state, .int .i64 x.on, .slice ay x.frames.length cy, .slice sy x.stack.length dy, .int .i64 x.code], .bool true]) (results_cells2_slot rfl _ _ (w.heap.size + 1 + 1 + 1 + 1) (w.heap.size + 1 + 1 + 1 + 1 + 1) 51 _ _ (0, 0) (0, 0) _ _ rfl rfl rfl hfin.1 hfin.2.1 Try.underlying51 rfl (by kernel_rfl) (by kernel_rfl)) rfl ?_
         exact ⟨⟨au, cu, su, du⟩, ⟨ay, cy, sy, dy⟩, rfl, hfin.2.2.1, hfin.2.2.2.1, hfin.2.2.2.2⟩)

set_option maxHeartbeats 4000000 in
set_option maxRecDepth 100000 in
theorem does_k5b (h : PH) (p : PV) (h1 h2 : TH) (t : TV) (kind : Int) (v i : Int) (w : World) (hp : RP w w.heap.size h p) (ht1 : RT w (fun _ => True) h1 t) (ht2 : RT w (fun _ => True) h2 t) (hfl : FewLoc p) (hpl : p.funcs.length ≤ 1000000) (hl : LensT t) (hm : 1 ≤ t.frames.length ∧ t.frames.length ≤ 8 ∧ t.stack.length ≤ 16) (hv : -9223372036854775808 ≤ v ∧ v ≤ 9223372036854775807) (hi : -9223372036854775808 ≤ i ∧ i ≤ 9223372036854775807) (n0 : (kind == 0) = false) (n1 : (kind == 1) = false) (n2 : (kind == 2) = false) (n3 : (kind == 3) = false) (n4 : (kind == 4) = false) (f : Nat) (hf : f < p.funcs.length) (hfu : (lastFr t).func = (f : Int)) (hcl : (funcAt p (lastFr t).func).code.length ≤ 1000000) (hlz : (funcAt p (lastFr t).func).locals = 0) (x : TV) (hx : x = t) :
    Calls Try.prog 34 #[.agg #[.slice h.fA p.funcs.length h.fc, .int .i64 p.mutexes, .slice h.cA p.conds.length h.cc, .slice h.sA p.semas.length h.sc, .slice h.hA p.chans.length h.hc, .slice h.xA p.choices.length h.xc, .int .i64 p.threads], .agg #[.int .i64 t.state, .int .i64 t.on, .slice h1.fA t.frames.length h1.fc, .slice h1.sA t.stack.length h1.sc, .int .i64 t.code], .agg #[.int .i64 t.state, .int .i64 t.on, .slice h2.fA t.frames.length h2.fc, .slice h2.sA t.stack.length h2.sc, .int .i64 t.code], .agg #[.int .i64 kind, .int .i64 v, .int .i64 i]] w
      fun e w' => ∃ ha hb : TH, e = .returned (.tuple #[.agg #[.int .i64 x.state, .int .i64 x.on, .slice ha.fA x.frames.length ha.fc, .slice ha.sA x.stack.length ha.sc, .int .i64 x.code], .agg #[.int .i64 x.state, .int .i64 x.on, .slice hb.fA x.frames.length hb.fc, .slice hb.sA x.stack.length hb.sc, .int .i64 x.code], .bool true]) ∧ RT w' (fun _ => True) ha x ∧ RT w' (fun _ => True) hb x ∧ Below w.heap.size w w' := by
  have hds := DSt.new (kind := kind) (v := v) (i := i) hp ht1 ht2
  obtain ⟨fA, fc, cA, cc, sA, sc, hA, hc, xA, xc⟩ := h
  obtain ⟨a1, c1, s1, d1⟩ := h1
  obtain ⟨a2, c2, s2, d2⟩ := h2
  have HDs := Lib.hid hds; have HL := Lib.hid hl; have HX := Lib.hid hx; have HFL := Lib.hid hfl
  obtain ⟨hm1, hm8, hm16⟩ := hm
  obtain ⟨k, hk, hkl⟩ := lastFr_ex hm1
  have HK := Lib.hid hk; have HKL := Lib.hid hkl; have HFU := Lib.hid hfu
  have hk8 : k < 8 := by omega
  clear hk hkl hfu
  clear hds hp ht1 ht2 hl hx hfl
  go_enter Try.func34, Try.ntmps34
  go_upto_region 21 with fail
  obtain ⟨W0, hW0⟩ : ∃ W, W = ((((((w.alloc (.cells #[.slice fA p.funcs.length fc, .int .i64 p.mutexes, .slice cA p.conds.length cc, .slice sA p.semas.length sc, .slice hA p.chans.length hc, .slice xA p.choices.length xc, .int .i64 p.threads] 26)).alloc (.cells #[.int .i64 t.state, .int .i64 t.on, .slice a1 t.frames.length c1, .slice s1 t.stack.length d1, .int .i64 t.code] 51)).alloc (.cells #[.int .i64 t.state, .int .i64 t.on, .slice a2 t.frames.length c2, .slice s2 t.stack.length d2, .int .i64 t.code] 51)).alloc (.cells #[.int .i64 kind, .int .i64 v, .int .i64 i] 53)).alloc (.cells #[.int .i64 0, .int .i64 0, .slice none 0 0, .slice none 0 0, .int .i64 0] 51)).alloc (.cells #[.int .i64 0, .int .i64 0, .slice none 0 0, .slice none 0 0, .int .i64 0] 51)) := ⟨_, rfl⟩
  have hd0 : DSt w W0 ⟨fA, fc, cA, cc, sA, sc, hA, hc, xA, xc⟩ p ⟨a1, c1, s1, d1⟩ ⟨a2, c2, s2, d2⟩ t kind v i := by rw [hW0]; exact HDs.out
  have HD0 := Lib.hid hd0
  rw [← hW0]
  clear hW0 hd0 HDs
  have p0 : W0.cell? ⟨w.heap.size, 0, none⟩ = some (.slice fA p.funcs.length fc) := (HD0.out.pb.cell 0).trans rfl
  have p1 : W0.cell? ⟨w.heap.size, 1, none⟩ = some (.int .i64 p.mutexes) := (HD0.out.pb.cell 1).trans rfl
  have p2 : W0.cell? ⟨w.heap.size, 2, none⟩ = some (.slice cA p.conds.length cc) := (HD0.out.pb.cell 2).trans rfl
  have p3 : W0.cell? ⟨w.heap.size, 3, none⟩ = some (.slice sA p.semas.length sc) := (HD0.out.pb.cell 3).trans rfl
  have p4 : W0.cell? ⟨w.heap.size, 4, none⟩ = some (.slice hA p.chans.length hc) := (HD0.out.pb.cell 4).trans rfl
  have p5 : W0.cell? ⟨w.heap.size, 5, none⟩ = some (.slice xA p.choices.length xc) := (HD0.out.pb.cell 5).trans rfl
  have p6 : W0.cell? ⟨w.heap.size, 6, none⟩ = some (.int .i64 p.threads) := (HD0.out.pb.cell 6).trans rfl
  have t0 : W0.cell? ⟨w.heap.size + 1, 0, none⟩ = some (.int .i64 t.state) := (HD0.out.b1.cell 0).trans rfl
  have t1 : W0.cell? ⟨w.heap.size + 1, 1, none⟩ = some (.int .i64 t.on) := (HD0.out.b1.cell 1).trans rfl
  have t2 : W0.cell? ⟨w.heap.size + 1, 2, none⟩ = some (.slice a1 t.frames.length c1) := (HD0.out.b1.cell 2).trans rfl
  have t3 : W0.cell? ⟨w.heap.size + 1, 3, none⟩ = some (.slice s1 t.stack.length d1) := (HD0.out.b1.cell 3).trans rfl
  have t4 : W0.cell? ⟨w.heap.size + 1, 4, none⟩ = some (.int .i64 t.code) := (HD0.out.b1.cell 4).trans rfl
  have r0 : W0.cell? ⟨w.heap.size + 1 + 1, 0, none⟩ = some (.int .i64 t.state) := (HD0.out.b2.cell 0).trans rfl
  have r1 : W0.cell? ⟨w.heap.size + 1 + 1, 1, none⟩ = some (.int .i64 t.on) := (HD0.out.b2.cell 1).trans rfl
  have r2 : W0.cell? ⟨w.heap.size + 1 + 1, 2, none⟩ = some (.slice a2 t.frames.length c2) := (HD0.out.b2.cell 2).trans rfl
  have r3 : W0.cell? ⟨w.heap.size + 1 + 1, 3, none⟩ = some (.slice s2 t.stack.length d2) := (HD0.out.b2.cell 3).trans rfl
  have r4 : W0.cell? ⟨w.heap.size + 1 + 1, 4, none⟩ = some (.int .i64 t.code) := (HD0.out.b2.cell 4).trans rfl
  have e0 : W0.cell? ⟨w.heap.size + 1 + 1 + 1, 0, none⟩ = some (.int .i64 kind) := (HD0.out.bd.cell 0).trans rfl
  have e1 : W0.cell? ⟨w.heap.size + 1 + 1 + 1, 1, none⟩ = some (.int .i64 v) := (HD0.out.bd.cell 1).trans rfl
  have e2 : W0.cell? ⟨w.heap.size + 1 + 1 + 1, 2, none⟩ = some (.int .i64 i) := (HD0.out.bd.cell 2).trans rfl
  have zN : w.heap.size + 1 + 1 + 1 + 1 + 1 < W0.heap.size := HD0.out.r2.lt
  have zN0 : w.heap.size < W0.heap.size := by omega
  have zN1 : w.heap.size + 1 < W0.heap.size := by omega
  have zN2 : w.heap.size + 1 + 1 < W0.heap.size := by omega
  have zN3 : w.heap.size + 1 + 1 + 1 < W0.heap.size := by omega
  have zN4 : w.heap.size + 1 + 1 + 1 + 1 < W0.heap.size := by omega
  have hrg := HD0.out.t2.frames.rg
  obtain ⟨ad, y, hA, hab, hy, y0, y1, y2, hyr⟩ := hrg.at_ (k := k) (by have := HK.out; omega)
  have hsp : ad.spot = none := by obtain ⟨ts, _, _, _, h4, _⟩ := hrg; rw [hA] at h4; exact h4.spot (by have := HK.out; omega) (by omega)
  have hyl : y.f = lastFr t := by have := HKL.out; rw [hy] at this; injection this
  obtain ⟨ap, z, hP, hpb, hz, z0, z1, hzc⟩ := HD0.out.rp.funcs.at_ hf
  have hrf := HD0.out.rp.funcs
  have hsq : ap.spot = none := by obtain ⟨ts, _, _, _, h4, _⟩ := hrf; rw [hP] at h4; exact h4.spot (by omega) (by omega)
  have hzl : funcAt p (lastFr t).func = z.f := by unfold funcAt; rw [HFU.out, show ((f : Int)).toNat = f by omega, List.getD_eq_getElem?_getD, hz]; rfl
  have HZL := Lib.hid hzl
  rw [hyl, HFU.out] at y0
  obtain ⟨bA, oA, pA⟩ := ad
  obtain ⟨bP, oP, pP⟩ := ap
  simp only at hA hP hsp hsq hab hpb
  subst hsp hsq
  have had1 : ((⟨bA, oA, none⟩ : Addr).add (k * 3)) = ⟨bA, oA + k * 3, none⟩ := by unfold Addr.add; by_cases h0 : k * 3 = 0 <;> simp [h0]
  have had2 : ((⟨bP, oP, none⟩ : Addr).add (f * 2)) = ⟨bP, oP + f * 2, none⟩ := by unfold Addr.add; by_cases h0 : f * 2 = 0 <;> simp [h0]
  rw [had1] at y0
  rw [had2] at z0 z1
  simp only at z1
  have iw : IntKind.i64.wrap (k : Int) = (k : Int) := IntWalk.i64_in _ (by omega)
  have hpb' : bP < W0.heap.size := by have := HD0.out.bel.size; omega
  clear had1 had2 hrg hrf
  clear r2
  have r2 : W0.cell? ⟨w.heap.size + 1 + 1, 2, none⟩ = some (.slice (some ⟨bA, oA, none⟩) (k + 1) c2) := (HD0.out.b2.cell 2).trans (show some (Value.slice a2 t.frames.length c2) = _ by rw [hA, HK.out])
  clear p0
  have p0 : W0.cell? ⟨w.heap.size, 0, none⟩ = some (.slice (some ⟨bP, oP, none⟩) p.funcs.length fc) := (HD0.out.pb.cell 0).trans (show some (Value.slice fA p.funcs.length fc) = _ by rw [hP])
  clear hA hP
  have ik : (k : Int) < (k : Int) + 1 := by omega
  have ifu : (f : Int) < (p.funcs.length : Int) := by omega
  clear hy y1 y2 hyr hyl hpb hz hzc hzl
  go_cut [30] (fun s30 wx => s30 = .pointer (some ⟨W0.heap.size, 0, none⟩) ∧ wx = (W0.alloc (.cells #[.int .i64 z.f.locals, .slice z.A z.f.code.length z.c] 45)).drew)
  case first =>
    go_region
    all_goals
      go_wp2_with fail
      go_meet
      exact ⟨rfl, rfl⟩
  case rest =>
  obtain ⟨rfl, rfl⟩ := hcut
  have hal : Below W0.heap.size W0 ((W0.alloc (.cells #[.int .i64 z.f.locals, .slice z.A z.f.code.length z.c] 45)).drew) := ((Below.refl _ _).alloc (Nat.le_refl _) _).drew
  have hds := HD0.out.below hal
  have hbo : Blk ((W0.alloc (.cells #[.int .i64 z.f.locals, .slice z.A z.f.code.length z.c] 45)).drew) W0.heap.size 45 #[.int .i64 z.f.locals, .slice z.A z.f.code.length z.c] := (Blk.new _ _ _).drew
  have hzo : w.heap.size + 1 + 1 + 1 + 1 + 1 + 1 ≤ W0.heap.size := HD0.out.r2.lt
  obtain ⟨ob, hob⟩ : ∃ b, b = W0.heap.size := ⟨_, rfl⟩
  obtain ⟨W1, hW1⟩ : ∃ W, W = (W0.alloc (.cells #[.int .i64 z.f.locals, .slice z.A z.f.code.length z.c] 45)).drew := ⟨_, rfl⟩
  rw [← hW1] at hds hbo ⊢
  rw [← hob] at hbo hzo ⊢
  have HD1 := Lib.hid hds; have HBO := Lib.hid hbo
  have hcz := hcl
  rw [HZL.out] at hcz
  clear hal hds hbo hW1 hob HD0 y0 z0 z1 iw ik ifu hcl p0 p1 p2 p3 p4 p5 p6 t0 t1 t2 t3 t4 r0 r1 r2 r3 r4 e0 e1 e2 zN zN0 zN1 zN2 zN3 zN4
  have zob : ob < W1.heap.size := HBO.out.lt
  have o0 : W1.cell? ⟨ob, 0, none⟩ = some (.int .i64 z.f.locals) := (HBO.out.cell 0).trans rfl
  have o1 : W1.cell? ⟨ob, 1, none⟩ = some (.slice z.A z.f.code.length z.c) := (HBO.out.cell 1).trans rfl
  have t0 : W1.cell? ⟨w.heap.size + 1, 0, none⟩ = some (.int .i64 t.state) := (HD1.out.b1.cell 0).trans rfl
  have t1 : W1.cell? ⟨w.heap.size + 1, 1, none⟩ = some (.int .i64 t.on) := (HD1.out.b1.cell 1).trans rfl
  have t2 : W1.cell? ⟨w.heap.size + 1, 2, none⟩ = some (.slice a1 t.frames.length c1) := (HD1.out.b1.cell 2).trans rfl
  have t3 : W1.cell? ⟨w.heap.size + 1, 3, none⟩ = some (.slice s1 t.stack.length d1) := (HD1.out.b1.cell 3).trans rfl
  have t4 : W1.cell? ⟨w.heap.size + 1, 4, none⟩ = some (.int .i64 t.code) := (HD1.out.b1.cell 4).trans rfl
  have r0 : W1.cell? ⟨w.heap.size + 1 + 1, 0, none⟩ = some (.int .i64 t.state) := (HD1.out.b2.cell 0).trans rfl
  have r1 : W1.cell? ⟨w.heap.size + 1 + 1, 1, none⟩ = some (.int .i64 t.on) := (HD1.out.b2.cell 1).trans rfl
  have r2 : W1.cell? ⟨w.heap.size + 1 + 1, 2, none⟩ = some (.slice a2 t.frames.length c2) := (HD1.out.b2.cell 2).trans rfl
  have r3 : W1.cell? ⟨w.heap.size + 1 + 1, 3, none⟩ = some (.slice s2 t.stack.length d2) := (HD1.out.b2.cell 3).trans rfl
  have r4 : W1.cell? ⟨w.heap.size + 1 + 1, 4, none⟩ = some (.int .i64 t.code) := (HD1.out.b2.cell 4).trans rfl
  have e0 : W1.cell? ⟨w.heap.size + 1 + 1 + 1, 0, none⟩ = some (.int .i64 kind) := (HD1.out.bd.cell 0).trans rfl
  have e1 : W1.cell? ⟨w.heap.size + 1 + 1 + 1, 1, none⟩ = some (.int .i64 v) := (HD1.out.bd.cell 1).trans rfl
  have e2 : W1.cell? ⟨w.heap.size + 1 + 1 + 1, 2, none⟩ = some (.int .i64 i) := (HD1.out.bd.cell 2).trans rfl
  have zN : w.heap.size + 1 + 1 + 1 + 1 + 1 < W1.heap.size := HD1.out.r2.lt
  have zN0 : w.heap.size < W1.heap.size := by omega
  have zN1 : w.heap.size + 1 < W1.heap.size := by omega
  have zN2 : w.heap.size + 1 + 1 < W1.heap.size := by omega
  have zN3 : w.heap.size + 1 + 1 + 1 < W1.heap.size := by omega
  have zN4 : w.heap.size + 1 + 1 + 1 + 1 < W1.heap.size := by omega
  have hlz1 : (z.f.locals == 0) = true := by rw [HZL.out] at hlz; rw [hlz]; rfl
  clear hlz
  have hx := HX.out
  subst hx
  clear HX
  go_upto_region 26 with fail
  have TD1 := Lib.hid (TD.mk HD1.out.b1 (HD1.out.t1.mono (E := (fun i => i < w.heap.size ∨ w.heap.size + 1 + 1 + 1 + 1 + 1 + 1 ≤ i)) (fun i hi _ => .inl hi)))
  have TD2 := Lib.hid (TD.mk HD1.out.b2 (HD1.out.t2.mono (E := (fun i => i < w.heap.size ∨ w.heap.size + 1 + 1 + 1 + 1 + 1 + 1 ≤ i)) (fun i hi _ => .inl hi)))
  clear t0 t1 t2 t3 t4 r0 r1 r2 r3 r4 e0 e1 e2 zN zN0 zN1 zN2 zN3 zN4
  have f0 : W1.cell? ⟨w.heap.size + 1, 0, none⟩ = some (.int .i64 x.state) := (TD1.out.tb.cell 0).trans rfl
  have f1 : W1.cell? ⟨w.heap.size + 1, 1, none⟩ = some (.int .i64 x.on) := (TD1.out.tb.cell 1).trans rfl
  have f2 : W1.cell? ⟨w.heap.size + 1, 2, none⟩ = some (.slice a1 x.frames.length c1) := (TD1.out.tb.cell 2).trans rfl
  have f3 : W1.cell? ⟨w.heap.size + 1, 3, none⟩ = some (.slice s1 x.stack.length d1) := (TD1.out.tb.cell 3).trans rfl
  have f4 : W1.cell? ⟨w.heap.size + 1, 4, none⟩ = some (.int .i64 x.code) := (TD1.out.tb.cell 4).trans rfl
  have g0 : W1.cell? ⟨w.heap.size + 1 + 1, 0, none⟩ = some (.int .i64 x.state) := (TD2.out.tb.cell 0).trans rfl
  have g1 : W1.cell? ⟨w.heap.size + 1 + 1, 1, none⟩ = some (.int .i64 x.on) := (TD2.out.tb.cell 1).trans rfl
  have g2 : W1.cell? ⟨w.heap.size + 1 + 1, 2, none⟩ = some (.slice a2 x.frames.length c2) := (TD2.out.tb.cell 2).trans rfl
  have g3 : W1.cell? ⟨w.heap.size + 1 + 1, 3, none⟩ = some (.slice s2 x.stack.length d2) := (TD2.out.tb.cell 3).trans rfl
  have g4 : W1.cell? ⟨w.heap.size + 1 + 1, 4, none⟩ = some (.int .i64 x.code) := (TD2.out.tb.cell 4).trans rfl
  have m0 : W1.cell? ⟨w.heap.size + 1 + 1 + 1 + 1, 0, none⟩ = some (.int .i64 0) := (HD1.out.r1.cell 0).trans rfl
  have k0 : W1.frozen? ⟨w.heap.size + 1 + 1 + 1 + 1, 0, none⟩ = false := HD1.out.r1.frozen 0
  have m1 : W1.cell? ⟨w.heap.size + 1 + 1 + 1 + 1, 1, none⟩ = some (.int .i64 0) := (HD1.out.r1.cell 1).trans rfl
  have k1 : W1.frozen? ⟨w.heap.size + 1 + 1 + 1 + 1, 1, none⟩ = false := HD1.out.r1.frozen 1
  have m2 : W1.cell? ⟨w.heap.size + 1 + 1 + 1 + 1, 2, none⟩ = some (.slice none 0 0) := (HD1.out.r1.cell 2).trans rfl
  have k2 : W1.frozen? ⟨w.heap.size + 1 + 1 + 1 + 1, 2, none⟩ = false := HD1.out.r1.frozen 2
  have m3 : W1.cell? ⟨w.heap.size + 1 + 1 + 1 + 1, 3, none⟩ = some (.slice none 0 0) := (HD1.out.r1.cell 3).trans rfl
  have k3 : W1.frozen? ⟨w.heap.size + 1 + 1 + 1 + 1, 3, none⟩ = false := HD1.out.r1.frozen 3
  have m4 : W1.cell? ⟨w.heap.size + 1 + 1 + 1 + 1, 4, none⟩ = some (.int .i64 0) := (HD1.out.r1.cell 4).trans rfl
  have k4 : W1.frozen? ⟨w.heap.size + 1 + 1 + 1 + 1, 4, none⟩ = false := HD1.out.r1.frozen 4
  have o0 : W1.cell? ⟨w.heap.size + 1 + 1 + 1 + 1 + 1, 0, none⟩ = some (.int .i64 0) := (HD1.out.r2.cell 0).trans rfl
  have q0 : W1.frozen? ⟨w.heap.size + 1 + 1 + 1 + 1 + 1, 0, none⟩ = false := HD1.out.r2.frozen 0
  have o1 : W1.cell? ⟨w.heap.size + 1 + 1 + 1 + 1 + 1, 1, none⟩ = some (.int .i64 0) := (HD1.out.r2.cell 1).trans rfl
  have q1 : W1.frozen? ⟨w.heap.size + 1 + 1 + 1 + 1 + 1, 1, none⟩ = false := HD1.out.r2.frozen 1
  have o2 : W1.cell? ⟨w.heap.size + 1 + 1 + 1 + 1 + 1, 2, none⟩ = some (.slice none 0 0) := (HD1.out.r2.cell 2).trans rfl
  have q2 : W1.frozen? ⟨w.heap.size + 1 + 1 + 1 + 1 + 1, 2, none⟩ = false := HD1.out.r2.frozen 2
  have o3 : W1.cell? ⟨w.heap.size + 1 + 1 + 1 + 1 + 1, 3, none⟩ = some (.slice none 0 0) := (HD1.out.r2.cell 3).trans rfl
  have q3 : W1.frozen? ⟨w.heap.size + 1 + 1 + 1 + 1 + 1, 3, none⟩ = false := HD1.out.r2.frozen 3
  have o4 : W1.cell? ⟨w.heap.size + 1 + 1 + 1 + 1 + 1, 4, none⟩ = some (.int .i64 0) := (HD1.out.r2.cell 4).trans rfl
  have q4 : W1.frozen? ⟨w.heap.size + 1 + 1 + 1 + 1 + 1, 4, none⟩ = false := HD1.out.r2.frozen 4
  have za := TD1.out.tb.lt
  have zb := TD2.out.tb.lt
  have ne14 : ¬ w.heap.size + 1 + 1 + 1 + 1 = w.heap.size + 1 := by omega
  have nf14 : ¬ w.heap.size + 1 = w.heap.size + 1 + 1 + 1 + 1 := by omega
  have ne15 : ¬ w.heap.size + 1 + 1 + 1 + 1 + 1 = w.heap.size + 1 := by omega
  have nf15 : ¬ w.heap.size + 1 = w.heap.size + 1 + 1 + 1 + 1 + 1 := by omega
  have ne24 : ¬ w.heap.size + 1 + 1 + 1 + 1 = w.heap.size + 1 + 1 := by omega
  have nf24 : ¬ w.heap.size + 1 + 1 = w.heap.size + 1 + 1 + 1 + 1 := by omega
  have ne25 : ¬ w.heap.size + 1 + 1 + 1 + 1 + 1 = w.heap.size + 1 + 1 := by omega
  have nf25 : ¬ w.heap.size + 1 + 1 = w.heap.size + 1 + 1 + 1 + 1 + 1 := by omega
  go_region
  all_goals
    go_wp2_with fail
    have hfin := HD1.out.fin TD1.out.rt TD2.out.rt
    refine bodyPost_ret (v := .tuple #[.agg #[.int .i64 x.state, .int .i64 x.on, .slice a1 x.frames.length c1, .slice s1 x.stack.length d1, .int .i64 x.code], .agg #[.int .i64 x.state, .int .i64 x.on, .slice a2 x.frames.length c2, .slice s2 x.stack.length d2, .int .i64 x.code], .bool true]) (results_cells2_slot rfl _ _ (w.heap.size + 1 + 1 + 1 + 1) (w.heap.size + 1 + 1 + 1 + 1 + 1) 51 _ _ (0, 0) (0, 0) _ _ rfl rfl rfl hfin.1.drew hfin.2.1.drew Try.underlying51 rfl (by kernel_rfl) (by kernel_rfl)) rfl ?_
    exact ⟨⟨a1, c1, s1, d1⟩, ⟨a2, c2, s2, d2⟩, rfl, RT.drew hfin.2.2.1, RT.drew hfin.2.2.2.1, hfin.2.2.2.2.drew⟩

set_option maxHeartbeats 4000000 in
set_option maxRecDepth 100000 in
theorem does_k5 (h : PH) (p : PV) (h1 h2 : TH) (t : TV) (kind : Int) (v i : Int) (w : World) (hp : RP w w.heap.size h p) (ht1 : RT w (fun _ => True) h1 t) (ht2 : RT w (fun _ => True) h2 t) (hfl : FewLoc p) (hpl : p.funcs.length ≤ 1000000) (hl : LensT t) (hm : 1 ≤ t.frames.length ∧ t.frames.length ≤ 8 ∧ t.stack.length ≤ 16) (hv : -9223372036854775808 ≤ v ∧ v ≤ 9223372036854775807) (hi : -9223372036854775808 ≤ i ∧ i ≤ 9223372036854775807) (n0 : (kind == 0) = false) (n1 : (kind == 1) = false) (n2 : (kind == 2) = false) (n3 : (kind == 3) = false) (n4 : (kind == 4) = false) (f : Nat) (hf : f < p.funcs.length) (hfu : (lastFr t).func = (f : Int)) (hcl : (funcAt p (lastFr t).func).code.length ≤ 1000000) (x : TV) (il : Nat) (hil : around i (funcAt p (lastFr t).func).locals = (il : Int)) (hlp : 0 < (funcAt p (lastFr t).func).locals ∧ (funcAt p (lastFr t).func).locals ≤ 8) (hlt : il < (lastFr t).locals.length) (hl8 : (lastFr t).locals.length ≤ 1000000) (hxf : 1 ≤ x.frames.length ∧ x.frames.length ≤ 1000000) (hxl : il < (lastFr x).locals.length ∧ (lastFr x).locals.length ≤ 1000000) (hx : x = setT t (il : Int) v) :
    Calls Try.prog 34 #[.agg #[.slice h.fA p.funcs.length h.fc, .int .i64 p.mutexes, .slice h.cA p.conds.length h.cc, .slice h.sA p.semas.length h.sc, .slice h.hA p.chans.length h.hc, .slice h.xA p.choices.length h.xc, .int .i64 p.threads], .agg #[.int .i64 t.state, .int .i64 t.on, .slice h1.fA t.frames.length h1.fc, .slice h1.sA t.stack.length h1.sc, .int .i64 t.code], .agg #[.int .i64 t.state, .int .i64 t.on, .slice h2.fA t.frames.length h2.fc, .slice h2.sA t.stack.length h2.sc, .int .i64 t.code], .agg #[.int .i64 kind, .int .i64 v, .int .i64 i]] w
      fun e w' => ∃ ha hb : TH, e = .returned (.tuple #[.agg #[.int .i64 x.state, .int .i64 x.on, .slice ha.fA x.frames.length ha.fc, .slice ha.sA x.stack.length ha.sc, .int .i64 x.code], .agg #[.int .i64 x.state, .int .i64 x.on, .slice hb.fA x.frames.length hb.fc, .slice hb.sA x.stack.length hb.sc, .int .i64 x.code], .bool true]) ∧ RT w' (fun _ => True) ha x ∧ RT w' (fun _ => True) hb x ∧ Below w.heap.size w w' := by
  have hds := DSt.new (kind := kind) (v := v) (i := i) hp ht1 ht2
  obtain ⟨fA, fc, cA, cc, sA, sc, hA, hc, xA, xc⟩ := h
  obtain ⟨a1, c1, s1, d1⟩ := h1
  obtain ⟨a2, c2, s2, d2⟩ := h2
  have HDs := Lib.hid hds; have HL := Lib.hid hl; have HX := Lib.hid hx; have HFL := Lib.hid hfl
  obtain ⟨hm1, hm8, hm16⟩ := hm
  obtain ⟨k, hk, hkl⟩ := lastFr_ex hm1
  have HK := Lib.hid hk; have HKL := Lib.hid hkl; have HFU := Lib.hid hfu
  have hk8 : k < 8 := by omega
  clear hk hkl hfu
  clear hds hp ht1 ht2 hl hx hfl
  go_enter Try.func34, Try.ntmps34
  go_upto_region 21 with fail
  obtain ⟨W0, hW0⟩ : ∃ W, W = ((((((w.alloc (.cells #[.slice fA p.funcs.length fc, .int .i64 p.mutexes, .slice cA p.conds.length cc, .slice sA p.semas.length sc, .slice hA p.chans.length hc, .slice xA p.choices.length xc, .int .i64 p.threads] 26)).alloc (.cells #[.int .i64 t.state, .int .i64 t.on, .slice a1 t.frames.length c1, .slice s1 t.stack.length d1, .int .i64 t.code] 51)).alloc (.cells #[.int .i64 t.state, .int .i64 t.on, .slice a2 t.frames.length c2, .slice s2 t.stack.length d2, .int .i64 t.code] 51)).alloc (.cells #[.int .i64 kind, .int .i64 v, .int .i64 i] 53)).alloc (.cells #[.int .i64 0, .int .i64 0, .slice none 0 0, .slice none 0 0, .int .i64 0] 51)).alloc (.cells #[.int .i64 0, .int .i64 0, .slice none 0 0, .slice none 0 0, .int .i64 0] 51)) := ⟨_, rfl⟩
  have hd0 : DSt w W0 ⟨fA, fc, cA, cc, sA, sc, hA, hc, xA, xc⟩ p ⟨a1, c1, s1, d1⟩ ⟨a2, c2, s2, d2⟩ t kind v i := by rw [hW0]; exact HDs.out
  have HD0 := Lib.hid hd0
  rw [← hW0]
  clear hW0 hd0 HDs
  have p0 : W0.cell? ⟨w.heap.size, 0, none⟩ = some (.slice fA p.funcs.length fc) := (HD0.out.pb.cell 0).trans rfl
  have p1 : W0.cell? ⟨w.heap.size, 1, none⟩ = some (.int .i64 p.mutexes) := (HD0.out.pb.cell 1).trans rfl
  have p2 : W0.cell? ⟨w.heap.size, 2, none⟩ = some (.slice cA p.conds.length cc) := (HD0.out.pb.cell 2).trans rfl
  have p3 : W0.cell? ⟨w.heap.size, 3, none⟩ = some (.slice sA p.semas.length sc) := (HD0.out.pb.cell 3).trans rfl
  have p4 : W0.cell? ⟨w.heap.size, 4, none⟩ = some (.slice hA p.chans.length hc) := (HD0.out.pb.cell 4).trans rfl
  have p5 : W0.cell? ⟨w.heap.size, 5, none⟩ = some (.slice xA p.choices.length xc) := (HD0.out.pb.cell 5).trans rfl
  have p6 : W0.cell? ⟨w.heap.size, 6, none⟩ = some (.int .i64 p.threads) := (HD0.out.pb.cell 6).trans rfl
  have t0 : W0.cell? ⟨w.heap.size + 1, 0, none⟩ = some (.int .i64 t.state) := (HD0.out.b1.cell 0).trans rfl
  have t1 : W0.cell? ⟨w.heap.size + 1, 1, none⟩ = some (.int .i64 t.on) := (HD0.out.b1.cell 1).trans rfl
  have t2 : W0.cell? ⟨w.heap.size + 1, 2, none⟩ = some (.slice a1 t.frames.length c1) := (HD0.out.b1.cell 2).trans rfl
  have t3 : W0.cell? ⟨w.heap.size + 1, 3, none⟩ = some (.slice s1 t.stack.length d1) := (HD0.out.b1.cell 3).trans rfl
  have t4 : W0.cell? ⟨w.heap.size + 1, 4, none⟩ = some (.int .i64 t.code) := (HD0.out.b1.cell 4).trans rfl
  have r0 : W0.cell? ⟨w.heap.size + 1 + 1, 0, none⟩ = some (.int .i64 t.state) := (HD0.out.b2.cell 0).trans rfl
  have r1 : W0.cell? ⟨w.heap.size + 1 + 1, 1, none⟩ = some (.int .i64 t.on) := (HD0.out.b2.cell 1).trans rfl
  have r2 : W0.cell? ⟨w.heap.size + 1 + 1, 2, none⟩ = some (.slice a2 t.frames.length c2) := (HD0.out.b2.cell 2).trans rfl
  have r3 : W0.cell? ⟨w.heap.size + 1 + 1, 3, none⟩ = some (.slice s2 t.stack.length d2) := (HD0.out.b2.cell 3).trans rfl
  have r4 : W0.cell? ⟨w.heap.size + 1 + 1, 4, none⟩ = some (.int .i64 t.code) := (HD0.out.b2.cell 4).trans rfl
  have e0 : W0.cell? ⟨w.heap.size + 1 + 1 + 1, 0, none⟩ = some (.int .i64 kind) := (HD0.out.bd.cell 0).trans rfl
  have e1 : W0.cell? ⟨w.heap.size + 1 + 1 + 1, 1, none⟩ = some (.int .i64 v) := (HD0.out.bd.cell 1).trans rfl
  have e2 : W0.cell? ⟨w.heap.size + 1 + 1 + 1, 2, none⟩ = some (.int .i64 i) := (HD0.out.bd.cell 2).trans rfl
  have zN : w.heap.size + 1 + 1 + 1 + 1 + 1 < W0.heap.size := HD0.out.r2.lt
  have zN0 : w.heap.size < W0.heap.size := by omega
  have zN1 : w.heap.size + 1 < W0.heap.size := by omega
  have zN2 : w.heap.size + 1 + 1 < W0.heap.size := by omega
  have zN3 : w.heap.size + 1 + 1 + 1 < W0.heap.size := by omega
  have zN4 : w.heap.size + 1 + 1 + 1 + 1 < W0.heap.size := by omega
  have hrg := HD0.out.t2.frames.rg
  obtain ⟨ad, y, hA, hab, hy, y0, y1, y2, hyr⟩ := hrg.at_ (k := k) (by have := HK.out; omega)
  have hsp : ad.spot = none := by obtain ⟨ts, _, _, _, h4, _⟩ := hrg; rw [hA] at h4; exact h4.spot (by have := HK.out; omega) (by omega)
  have hyl : y.f = lastFr t := by have := HKL.out; rw [hy] at this; injection this
  obtain ⟨ap, z, hP, hpb, hz, z0, z1, hzc⟩ := HD0.out.rp.funcs.at_ hf
  have hrf := HD0.out.rp.funcs
  have hsq : ap.spot = none := by obtain ⟨ts, _, _, _, h4, _⟩ := hrf; rw [hP] at h4; exact h4.spot (by omega) (by omega)
  have hzl : funcAt p (lastFr t).func = z.f := by unfold funcAt; rw [HFU.out, show ((f : Int)).toNat = f by omega, List.getD_eq_getElem?_getD, hz]; rfl
  have HZL := Lib.hid hzl
  rw [hyl, HFU.out] at y0
  obtain ⟨bA, oA, pA⟩ := ad
  obtain ⟨bP, oP, pP⟩ := ap
  simp only at hA hP hsp hsq hab hpb
  subst hsp hsq
  have had1 : ((⟨bA, oA, none⟩ : Addr).add (k * 3)) = ⟨bA, oA + k * 3, none⟩ := by unfold Addr.add; by_cases h0 : k * 3 = 0 <;> simp [h0]
  have had2 : ((⟨bP, oP, none⟩ : Addr).add (f * 2)) = ⟨bP, oP + f * 2, none⟩ := by unfold Addr.add; by_cases h0 : f * 2 = 0 <;> simp [h0]
  rw [had1] at y0
  rw [had2] at z0 z1
  simp only at z1
  have iw : IntKind.i64.wrap (k : Int) = (k : Int) := IntWalk.i64_in _ (by omega)
  have hpb' : bP < W0.heap.size := by have := HD0.out.bel.size; omega
  clear had1 had2 hrg hrf
  clear r2
  have r2 : W0.cell? ⟨w.heap.size + 1 + 1, 2, none⟩ = some (.slice (some ⟨bA, oA, none⟩) (k + 1) c2) := (HD0.out.b2.cell 2).trans (show some (Value.slice a2 t.frames.length c2) = _ by rw [hA, HK.out])
  clear p0
  have p0 : W0.cell? ⟨w.heap.size, 0, none⟩ = some (.slice (some ⟨bP, oP, none⟩) p.funcs.length fc) := (HD0.out.pb.cell 0).trans (show some (Value.slice fA p.funcs.length fc) = _ by rw [hP])
  clear hA hP
  have ik : (k : Int) < (k : Int) + 1 := by omega
  have ifu : (f : Int) < (p.funcs.length : Int) := by omega
  clear hy y1 y2 hyr hyl hpb hz hzc hzl
  go_cut [30] (fun s30 wx => s30 = .pointer (some ⟨W0.heap.size, 0, none⟩) ∧ wx = (W0.alloc (.cells #[.int .i64 z.f.locals, .slice z.A z.f.code.length z.c] 45)).drew)
  case first =>
    go_region
    all_goals
      go_wp2_with fail
      go_meet
      exact ⟨rfl, rfl⟩
  case rest =>
  obtain ⟨rfl, rfl⟩ := hcut
  have hal : Below W0.heap.size W0 ((W0.alloc (.cells #[.int .i64 z.f.locals, .slice z.A z.f.code.length z.c] 45)).drew) := ((Below.refl _ _).alloc (Nat.le_refl _) _).drew
  have hds := HD0.out.below hal
  have hbo : Blk ((W0.alloc (.cells #[.int .i64 z.f.locals, .slice z.A z.f.code.length z.c] 45)).drew) W0.heap.size 45 #[.int .i64 z.f.locals, .slice z.A z.f.code.length z.c] := (Blk.new _ _ _).drew
  have hzo : w.heap.size + 1 + 1 + 1 + 1 + 1 + 1 ≤ W0.heap.size := HD0.out.r2.lt
  obtain ⟨ob, hob⟩ : ∃ b, b = W0.heap.size := ⟨_, rfl⟩
  obtain ⟨W1, hW1⟩ : ∃ W, W = (W0.alloc (.cells #[.int .i64 z.f.locals, .slice z.A z.f.code.length z.c] 45)).drew := ⟨_, rfl⟩
  rw [← hW1] at hds hbo ⊢
  rw [← hob] at hbo hzo ⊢
  have HD1 := Lib.hid hds; have HBO := Lib.hid hbo
  have hcz := hcl
  rw [HZL.out] at hcz
  clear hal hds hbo hW1 hob HD0 y0 z0 z1 iw ik ifu hcl p0 p1 p2 p3 p4 p5 p6 t0 t1 t2 t3 t4 r0 r1 r2 r3 r4 e0 e1 e2 zN zN0 zN1 zN2 zN3 zN4
  have zob : ob < W1.heap.size := HBO.out.lt
  have o0 : W1.cell? ⟨ob, 0, none⟩ = some (.int .i64 z.f.locals) := (HBO.out.cell 0).trans rfl
  have o1 : W1.cell? ⟨ob, 1, none⟩ = some (.slice z.A z.f.code.length z.c) := (HBO.out.cell 1).trans rfl
  have t0 : W1.cell? ⟨w.heap.size + 1, 0, none⟩ = some (.int .i64 t.state) := (HD1.out.b1.cell 0).trans rfl
  have t1 : W1.cell? ⟨w.heap.size + 1, 1, none⟩ = some (.int .i64 t.on) := (HD1.out.b1.cell 1).trans rfl
  have t2 : W1.cell? ⟨w.heap.size + 1, 2, none⟩ = some (.slice a1 t.frames.length c1) := (HD1.out.b1.cell 2).trans rfl
  have t3 : W1.cell? ⟨w.heap.size + 1, 3, none⟩ = some (.slice s1 t.stack.length d1) := (HD1.out.b1.cell 3).trans rfl
  have t4 : W1.cell? ⟨w.heap.size + 1, 4, none⟩ = some (.int .i64 t.code) := (HD1.out.b1.cell 4).trans rfl
  have r0 : W1.cell? ⟨w.heap.size + 1 + 1, 0, none⟩ = some (.int .i64 t.state) := (HD1.out.b2.cell 0).trans rfl
  have r1 : W1.cell? ⟨w.heap.size + 1 + 1, 1, none⟩ = some (.int .i64 t.on) := (HD1.out.b2.cell 1).trans rfl
  have r2 : W1.cell? ⟨w.heap.size + 1 + 1, 2, none⟩ = some (.slice a2 t.frames.length c2) := (HD1.out.b2.cell 2).trans rfl
  have r3 : W1.cell? ⟨w.heap.size + 1 + 1, 3, none⟩ = some (.slice s2 t.stack.length d2) := (HD1.out.b2.cell 3).trans rfl
  have r4 : W1.cell? ⟨w.heap.size + 1 + 1, 4, none⟩ = some (.int .i64 t.code) := (HD1.out.b2.cell 4).trans rfl
  have e0 : W1.cell? ⟨w.heap.size + 1 + 1 + 1, 0, none⟩ = some (.int .i64 kind) := (HD1.out.bd.cell 0).trans rfl
  have e1 : W1.cell? ⟨w.heap.size + 1 + 1 + 1, 1, none⟩ = some (.int .i64 v) := (HD1.out.bd.cell 1).trans rfl
  have e2 : W1.cell? ⟨w.heap.size + 1 + 1 + 1, 2, none⟩ = some (.int .i64 i) := (HD1.out.bd.cell 2).trans rfl
  have zN : w.heap.size + 1 + 1 + 1 + 1 + 1 < W1.heap.size := HD1.out.r2.lt
  have zN0 : w.heap.size < W1.heap.size := by omega
  have zN1 : w.heap.size + 1 < W1.heap.size := by omega
  have zN2 : w.heap.size + 1 + 1 < W1.heap.size := by omega
  have zN3 : w.heap.size + 1 + 1 + 1 < W1.heap.size := by omega
  have zN4 : w.heap.size + 1 + 1 + 1 + 1 < W1.heap.size := by omega
  have hlz1 : (z.f.locals == 0) = false := by rw [HZL.out] at hlp; rw [beq_eq_false_iff_ne]; omega
  have hlp2 : 0 < z.f.locals ∧ z.f.locals ≤ 8 := by rw [HZL.out] at hlp; exact hlp
  have hil2 : around i z.f.locals = (il : Int) := by rw [← HZL.out]; exact hil
  have HIL := Lib.hid hil2
  clear hlp hil hil2
  go_upto_region 27 with fail
  clear hlz1
  go_wp2_with fail
  refine (around_any i z.f.locals W1 hi.1 hi.2 (by omega) (by omega)).mono ?_
  rintro e wq ⟨rfl, rfl⟩
  rw [HIL.out]
  go_wp2_with fail
  refine (set_all ⟨a1, c1, s1, d1⟩ t il v W1 _ HD1.out.t1 HL.out hm1 (by omega) hlt hl8 x HX.out).mono ?_
  rintro e w1 ⟨⟨au, cu, su, du⟩, rfl, hrt, hb⟩
  have hal : Below w1.heap.size w1 (w1.alloc (.cells #[.int .i64 x.state, .int .i64 x.on, .slice au x.frames.length cu, .slice su x.stack.length du, .int .i64 x.code] 51)) := (Below.refl _ _).alloc (Nat.le_refl _) _
  have hz6 : w.heap.size + 1 + 1 + 1 + 1 + 1 + 1 ≤ W1.heap.size := HD1.out.r2.lt
  have htd := (TD.new hrt).mono (E := (fun i => i < w.heap.size ∨ w.heap.size + 1 + 1 + 1 + 1 + 1 + 1 ≤ i)) (fun j hj _ => by rcases hj with hj | hj; exact .inl hj; exact .inr (by omega))
  have hbw := hb.trans (hal.mono hb.size)
  have hds := HD1.out.below hbw
  obtain ⟨ab, hab⟩ : ∃ b, b = w1.heap.size := ⟨_, rfl⟩
  have yab : w.heap.size + 1 + 1 + 1 + 1 + 1 + 1 ≤ ab := by have := hb.size; omega
  have HD2 := Lib.hid hds; have TDu := Lib.hid htd
  clear hrt hb hal htd hbw hds hz6 HD1 t0 t1 t2 t3 t4 r0 r1 r2 r3 r4 e0 e1 e2 zN zN0 zN1 zN2 zN3 zN4 o0 o1 zob
  go_upto_region 29 with fail
  obtain ⟨W2, hW⟩ : ∃ W, W = w1.alloc (.cells #[.int .i64 x.state, .int .i64 x.on, .slice au x.frames.length cu, .slice su x.stack.length du, .int .i64 x.code] 51) := ⟨_, rfl⟩
  rw [← hW] at HD2 TDu ⊢
  rw [← hab] at TDu ⊢
  clear hW hab
  have r0 : W2.cell? ⟨w.heap.size + 1 + 1, 0, none⟩ = some (.int .i64 t.state) := (HD2.out.b2.cell 0).trans rfl
  have r1 : W2.cell? ⟨w.heap.size + 1 + 1, 1, none⟩ = some (.int .i64 t.on) := (HD2.out.b2.cell 1).trans rfl
  have r2 : W2.cell? ⟨w.heap.size + 1 + 1, 2, none⟩ = some (.slice a2 t.frames.length c2) := (HD2.out.b2.cell 2).trans rfl
  have r3 : W2.cell? ⟨w.heap.size + 1 + 1, 3, none⟩ = some (.slice s2 t.stack.length d2) := (HD2.out.b2.cell 3).trans rfl
  have r4 : W2.cell? ⟨w.heap.size + 1 + 1, 4, none⟩ = some (.int .i64 t.code) := (HD2.out.b2.cell 4).trans rfl
  have e0 : W2.cell? ⟨w.heap.size + 1 + 1 + 1, 0, none⟩ = some (.int .i64 kind) := (HD2.out.bd.cell 0).trans rfl
  have e1 : W2.cell? ⟨w.heap.size + 1 + 1 + 1, 1, none⟩ = some (.int .i64 v) := (HD2.out.bd.cell 1).trans rfl
  have e2 : W2.cell? ⟨w.heap.size + 1 + 1 + 1, 2, none⟩ = some (.int .i64 i) := (HD2.out.bd.cell 2).trans rfl
  have zN : w.heap.size + 1 + 1 + 1 + 1 + 1 < W2.heap.size := HD2.out.r2.lt
  have zN0 : w.heap.size < W2.heap.size := by omega
  have zN1 : w.heap.size + 1 < W2.heap.size := by omega
  have zN2 : w.heap.size + 1 + 1 < W2.heap.size := by omega
  have zN3 : w.heap.size + 1 + 1 + 1 < W2.heap.size := by omega
  have zN4 : w.heap.size + 1 + 1 + 1 + 1 < W2.heap.size := by omega
  have aa0 : W2.cell? ⟨ab, 0, none⟩ = some (.int .i64 x.state) := (TDu.out.tb.cell 0).trans rfl
  have aa1 : W2.cell? ⟨ab, 1, none⟩ = some (.int .i64 x.on) := (TDu.out.tb.cell 1).trans rfl
  have aa2 : W2.cell? ⟨ab, 2, none⟩ = some (.slice au x.frames.length cu) := (TDu.out.tb.cell 2).trans rfl
  have aa3 : W2.cell? ⟨ab, 3, none⟩ = some (.slice su x.stack.length du) := (TDu.out.tb.cell 3).trans rfl
  have aa4 : W2.cell? ⟨ab, 4, none⟩ = some (.int .i64 x.code) := (TDu.out.tb.cell 4).trans rfl
  have za := TDu.out.tb.lt
  have hx0 : ((x.frames.length : Int) == 0) = false := by rw [beq_eq_false_iff_ne]; omega
  go_upto_region 31 with fail
  clear hx0 za aa0 aa1 aa2 aa3 aa4
  go_wp2_with fail
  refine (refSet_all ⟨a2, c2, s2, d2⟩ t il v W2 _ HD2.out.t2 HL.out hm1 (by omega) hlt hl8 x HX.out).mono ?_
  rintro e w2 ⟨⟨ay, cy, sy, dy⟩, rfl, hrt, hb⟩
  have hal : Below w2.heap.size w2 (w2.alloc (.cells #[.int .i64 x.state, .int .i64 x.on, .slice ay x.frames.length cy, .slice sy x.stack.length dy, .int .i64 x.code] 51)) := (Below.refl _ _).alloc (Nat.le_refl _) _
  have hz6 : w.heap.size + 1 + 1 + 1 + 1 + 1 + 1 ≤ W2.heap.size := HD2.out.r2.lt
  have htd := (TD.new hrt).mono (E := (fun i => i < w.heap.size ∨ w.heap.size + 1 + 1 + 1 + 1 + 1 + 1 ≤ i)) (fun j hj _ => by rcases hj with hj | hj; exact .inl hj; exact .inr (by omega))
  have hbw := hb.trans (hal.mono hb.size)
  have hds := HD2.out.below hbw
  have hTDu := TDu.out.below hbw
  obtain ⟨bb, hbb⟩ : ∃ b, b = w2.heap.size := ⟨_, rfl⟩
  have ybb : w.heap.size + 1 + 1 + 1 + 1 + 1 + 1 ≤ bb := by have := hb.size; omega
  have HD3 := Lib.hid hds; have TDy := Lib.hid htd
  have NTDu := Lib.hid hTDu
  clear hrt hb hal htd hbw hds hz6 HD2 r0 r1 r2 r3 r4 e0 e1 e2 zN zN0 zN1 zN2 zN3 zN4 hTDu TDu
  go_upto_region 32 with fail
  obtain ⟨W3, hW⟩ : ∃ W, W = w2.alloc (.cells #[.int .i64 x.state, .int .i64 x.on, .slice ay x.frames.length cy, .slice sy x.stack.length dy, .int .i64 x.code] 51) := ⟨_, rfl⟩
  rw [← hW] at HD3 TDy NTDu ⊢
  rw [← hbb] at TDy ⊢
  clear hW hbb
  have TDu := NTDu
  clear NTDu
  have zN : w.heap.size + 1 + 1 + 1 + 1 + 1 < W3.heap.size := HD3.out.r2.lt
  have zN0 : w.heap.size < W3.heap.size := by omega
  have zN1 : w.heap.size + 1 < W3.heap.size := by omega
  have zN2 : w.heap.size + 1 + 1 < W3.heap.size := by omega
  have zN3 : w.heap.size + 1 + 1 + 1 < W3.heap.size := by omega
  have zN4 : w.heap.size + 1 + 1 + 1 + 1 < W3.heap.size := by omega
  have f0 : W3.cell? ⟨ab, 0, none⟩ = some (.int .i64 x.state) := (TDu.out.tb.cell 0).trans rfl
  have f1 : W3.cell? ⟨ab, 1, none⟩ = some (.int .i64 x.on) := (TDu.out.tb.cell 1).trans rfl
  have f2 : W3.cell? ⟨ab, 2, none⟩ = some (.slice au x.frames.length cu) := (TDu.out.tb.cell 2).trans rfl
  have f3 : W3.cell? ⟨ab, 3, none⟩ = some (.slice su x.stack.length du) := (TDu.out.tb.cell 3).trans rfl
  have f4 : W3.cell? ⟨ab, 4, none⟩ = some (.int .i64 x.code) := (TDu.out.tb.cell 4).trans rfl
  have g0 : W3.cell? ⟨bb, 0, none⟩ = some (.int .i64 x.state) := (TDy.out.tb.cell 0).trans rfl
  have g1 : W3.cell? ⟨bb, 1, none⟩ = some (.int .i64 x.on) := (TDy.out.tb.cell 1).trans rfl
  have g2 : W3.cell? ⟨bb, 2, none⟩ = some (.slice ay x.frames.length cy) := (TDy.out.tb.cell 2).trans rfl
  have g3 : W3.cell? ⟨bb, 3, none⟩ = some (.slice sy x.stack.length dy) := (TDy.out.tb.cell 3).trans rfl
  have g4 : W3.cell? ⟨bb, 4, none⟩ = some (.int .i64 x.code) := (TDy.out.tb.cell 4).trans rfl
  have m0 : W3.cell? ⟨w.heap.size + 1 + 1 + 1 + 1, 0, none⟩ = some (.int .i64 0) := (HD3.out.r1.cell 0).trans rfl
  have k0 : W3.frozen? ⟨w.heap.size + 1 + 1 + 1 + 1, 0, none⟩ = false := HD3.out.r1.frozen 0
  have m1 : W3.cell? ⟨w.heap.size + 1 + 1 + 1 + 1, 1, none⟩ = some (.int .i64 0) := (HD3.out.r1.cell 1).trans rfl
  have k1 : W3.frozen? ⟨w.heap.size + 1 + 1 + 1 + 1, 1, none⟩ = false := HD3.out.r1.frozen 1
  have m2 : W3.cell? ⟨w.heap.size + 1 + 1 + 1 + 1, 2, none⟩ = some (.slice none 0 0) := (HD3.out.r1.cell 2).trans rfl
  have k2 : W3.frozen? ⟨w.heap.size + 1 + 1 + 1 + 1, 2, none⟩ = false := HD3.out.r1.frozen 2
  have m3 : W3.cell? ⟨w.heap.size + 1 + 1 + 1 + 1, 3, none⟩ = some (.slice none 0 0) := (HD3.out.r1.cell 3).trans rfl
  have k3 : W3.frozen? ⟨w.heap.size + 1 + 1 + 1 + 1, 3, none⟩ = false := HD3.out.r1.frozen 3
  have m4 : W3.cell? ⟨w.heap.size + 1 + 1 + 1 + 1, 4, none⟩ = some (.int .i64 0) := (HD3.out.r1.cell 4).trans rfl
  have k4 : W3.frozen? ⟨w.heap.size + 1 + 1 + 1 + 1, 4, none⟩ = false := HD3.out.r1.frozen 4
  have o0 : W3.cell? ⟨w.heap.size + 1 + 1 + 1 + 1 + 1, 0, none⟩ = some (.int .i64 0) := (HD3.out.r2.cell 0).trans rfl
  have q0 : W3.frozen? ⟨w.heap.size + 1 + 1 + 1 + 1 + 1, 0, none⟩ = false := HD3.out.r2.frozen 0
  have o1 : W3.cell? ⟨w.heap.size + 1 + 1 + 1 + 1 + 1, 1, none⟩ = some (.int .i64 0) := (HD3.out.r2.cell 1).trans rfl
  have q1 : W3.frozen? ⟨w.heap.size + 1 + 1 + 1 + 1 + 1, 1, none⟩ = false := HD3.out.r2.frozen 1
  have o2 : W3.cell? ⟨w.heap.size + 1 + 1 + 1 + 1 + 1, 2, none⟩ = some (.slice none 0 0) := (HD3.out.r2.cell 2).trans rfl
  have q2 : W3.frozen? ⟨w.heap.size + 1 + 1 + 1 + 1 + 1, 2, none⟩ = false := HD3.out.r2.frozen 2
  have o3 : W3.cell? ⟨w.heap.size + 1 + 1 + 1 + 1 + 1, 3, none⟩ = some (.slice none 0 0) := (HD3.out.r2.cell 3).trans rfl
  have q3 : W3.frozen? ⟨w.heap.size + 1 + 1 + 1 + 1 + 1, 3, none⟩ = false := HD3.out.r2.frozen 3
  have o4 : W3.cell? ⟨w.heap.size + 1 + 1 + 1 + 1 + 1, 4, none⟩ = some (.int .i64 0) := (HD3.out.r2.cell 4).trans rfl
  have q4 : W3.frozen? ⟨w.heap.size + 1 + 1 + 1 + 1 + 1, 4, none⟩ = false := HD3.out.r2.frozen 4
  have za := TDu.out.tb.lt
  have zb := TDy.out.tb.lt
  have ne14 : ¬ w.heap.size + 1 + 1 + 1 + 1 = ab := by omega
  have nf14 : ¬ ab = w.heap.size + 1 + 1 + 1 + 1 := by omega
  have ne15 : ¬ w.heap.size + 1 + 1 + 1 + 1 + 1 = ab := by omega
  have nf15 : ¬ ab = w.heap.size + 1 + 1 + 1 + 1 + 1 := by omega
  have ne24 : ¬ w.heap.size + 1 + 1 + 1 + 1 = bb := by omega
  have nf24 : ¬ bb = w.heap.size + 1 + 1 + 1 + 1 := by omega
  have ne25 : ¬ w.heap.size + 1 + 1 + 1 + 1 + 1 = bb := by omega
  have nf25 : ¬ bb = w.heap.size + 1 + 1 + 1 + 1 + 1 := by omega
  have HG1 : Hid (∀ X, Fr (fun i => i = w.heap.size + 1 + 1 + 1 + 1 ∨ i = w.heap.size + 1 + 1 + 1 + 1 + 1) W3 X → Calls Try.prog 110 #[.agg #[.int .i64 x.state, .int .i64 x.on, .slice au x.frames.length cu, .slice su x.stack.length du, .int .i64 x.code], .int .i64 (il : Int)] X fun e w' => e = .returned (.int .i64 (getT x il)) ∧ Below X.heap.size X w' ∧ Fr (fun i => i = w.heap.size + 1 + 1 + 1 + 1 ∨ i = w.heap.size + 1 + 1 + 1 + 1 + 1) W3 w') := fun X hX => by
    refine (get_all ⟨au, cu, su, du⟩ x il X (fun i => i < w.heap.size ∨ w.heap.size + 1 + 1 + 1 + 1 + 1 + 1 ≤ i) (TDu.out.rt.keep (fun q hd hq => hX.cell hq (fun e => by rcases e with e | e <;> omega))) hxf.1 hxf.2 hxl.1 hxl.2).mono ?_
    rintro e w' ⟨he, hb⟩
    have hs := hX.size
    exact ⟨he, hb, hX.trans (Fr.of_below hb) (fun j hj hT => by omega)⟩
  have HG2 : Hid (∀ X, Fr (fun i => i = w.heap.size + 1 + 1 + 1 + 1 ∨ i = w.heap.size + 1 + 1 + 1 + 1 + 1) W3 X → Calls Try.prog 111 #[.agg #[.int .i64 x.state, .int .i64 x.on, .slice ay x.frames.length cy, .slice sy x.stack.length dy, .int .i64 x.code], .int .i64 (il : Int)] X fun e w' => e = .returned (.int .i64 (getT x il)) ∧ Below X.heap.size X w' ∧ Fr (fun i => i = w.heap.size + 1 + 1 + 1 + 1 ∨ i = w.heap.size + 1 + 1 + 1 + 1 + 1) W3 w') := fun X hX => by
    refine (refGet_all ⟨ay, cy, sy, dy⟩ x il X (fun i => i < w.heap.size ∨ w.heap.size + 1 + 1 + 1 + 1 + 1 + 1 ≤ i) (TDy.out.rt.keep (fun q hd hq => hX.cell hq (fun e => by rcases e with e | e <;> omega))) hxf.1 hxf.2 hxl.1 hxl.2).mono ?_
    rintro e w' ⟨he, hb⟩
    have hs := hX.size
    exact ⟨he, hb, hX.trans (Fr.of_below hb) (fun j hj hT => by omega)⟩
  have KS : Hid (∀ X, Fr (fun i => i = w.heap.size + 1 + 1 + 1 + 1 ∨ i = w.heap.size + 1 + 1 + 1 + 1 + 1) W3 X → X.cell? ⟨ab, 0, none⟩ = some (.int .i64 x.state) ∧ X.cell? ⟨ab, 1, none⟩ = some (.int .i64 x.on) ∧ X.cell? ⟨ab, 2, none⟩ = some (.slice au x.frames.length cu) ∧ X.cell? ⟨ab, 3, none⟩ = some (.slice su x.stack.length du) ∧ X.cell? ⟨ab, 4, none⟩ = some (.int .i64 x.code) ∧ X.cell? ⟨bb, 0, none⟩ = some (.int .i64 x.state) ∧ X.cell? ⟨bb, 1, none⟩ = some (.int .i64 x.on) ∧ X.cell? ⟨bb, 2, none⟩ = some (.slice ay x.frames.length cy) ∧ X.cell? ⟨bb, 3, none⟩ = some (.slice sy x.stack.length dy) ∧ X.cell? ⟨bb, 4, none⟩ = some (.int .i64 x.code)) := fun X hX => by
    have g1 := hX.blk TDu.out.tb (by omega)
    have g2 := hX.blk TDy.out.tb (by omega)
    exact ⟨(g1.cell 0).trans rfl, (g1.cell 1).trans rfl, (g1.cell 2).trans rfl, (g1.cell 3).trans rfl, (g1.cell 4).trans rfl, (g2.cell 0).trans rfl, (g2.cell 1).trans rfl, (g2.cell 2).trans rfl, (g2.cell 3).trans rfl, (g2.cell 4).trans rfl⟩
  have KR : Fr (fun i => i = w.heap.size + 1 + 1 + 1 + 1 ∨ i = w.heap.size + 1 + 1 + 1 + 1 + 1) W3 W3 := Fr.refl _ _
  go_region_held3 (fun w' => w'.cell? ⟨ab, 0, none⟩ = some (.int .i64 x.state) ∧ w'.cell? ⟨ab, 1, none⟩ = some (.int .i64 x.on) ∧ w'.cell? ⟨ab, 2, none⟩ = some (.slice au x.frames.length cu) ∧ w'.cell? ⟨ab, 3, none⟩ = some (.slice su x.stack.length du) ∧ w'.cell? ⟨ab, 4, none⟩ = some (.int .i64 x.code) ∧ w'.cell? ⟨bb, 0, none⟩ = some (.int .i64 x.state) ∧ w'.cell? ⟨bb, 1, none⟩ = some (.int .i64 x.on) ∧ w'.cell? ⟨bb, 2, none⟩ = some (.slice ay x.frames.length cy) ∧ w'.cell? ⟨bb, 3, none⟩ = some (.slice sy x.stack.length dy) ∧ w'.cell? ⟨bb, 4, none⟩ = some (.int .i64 x.code))
    (first | (with_reducible exact KS.out _ (by repeat (first | with_reducible assumption | with_reducible exact Fr.refl _ _ | with_reducible refine Fr.drew ?_ | with_reducible refine Fr.setCell ?_ (.inl (by first | exact .inl rfl | exact .inr rfl)) _))) | fail)
    (first
      | (go_simp; with_reducible refine (HG1.out _ (by repeat (first | with_reducible assumption | with_reducible exact Fr.refl _ _ | with_reducible refine Fr.drew ?_ | with_reducible refine Fr.setCell ?_ (.inl (by first | exact .inl rfl | exact .inr rfl)) _))).mono ?_; rintro e wA ⟨rfl, hbA, hkA⟩
         have HBA := Lib.hid hbA
         clear hbA
         first
           | (have R1A : Blk wA (w.heap.size + 1 + 1 + 1 + 1) 51 #[.int .i64 0, .int .i64 0, .slice none 0 0, .slice none 0 0, .int .i64 0] := (by repeat (first | with_reducible exact HD3.out.r1 | with_reducible exact HD3.out.r2 | with_reducible exact HR1A.out | with_reducible exact HR2A.out | with_reducible exact HR1B.out | with_reducible exact HR2B.out | with_reducible refine Blk.drew ?_ | with_reducible refine Blk.far5 ?_ (by omega) _ _ _ _ _ | with_reducible refine Blk.set5 ?_ _ _ _ _ _ | with_reducible refine Blk.below ?_ (Hid.out HBA) (by first | omega | (simp; omega)) | with_reducible refine Blk.below ?_ (Hid.out HBB) (by first | omega | (simp; omega))))
              have HR1A := Lib.hid R1A)
           | (have R1A : Blk wA (w.heap.size + 1 + 1 + 1 + 1) 51 #[.int .i64 x.state, .int .i64 x.on, .slice au x.frames.length cu, .slice su x.stack.length du, .int .i64 x.code] := (by repeat (first | with_reducible exact HD3.out.r1 | with_reducible exact HD3.out.r2 | with_reducible exact HR1A.out | with_reducible exact HR2A.out | with_reducible exact HR1B.out | with_reducible exact HR2B.out | with_reducible refine Blk.drew ?_ | with_reducible refine Blk.far5 ?_ (by omega) _ _ _ _ _ | with_reducible refine Blk.set5 ?_ _ _ _ _ _ | with_reducible refine Blk.below ?_ (Hid.out HBA) (by first | omega | (simp; omega)) | with_reducible refine Blk.below ?_ (Hid.out HBB) (by first | omega | (simp; omega))))
              have HR1A := Lib.hid R1A)
         first
           | (have R2A : Blk wA (w.heap.size + 1 + 1 + 1 + 1 + 1) 51 #[.int .i64 0, .int .i64 0, .slice none 0 0, .slice none 0 0, .int .i64 0] := (by repeat (first | with_reducible exact HD3.out.r1 | with_reducible exact HD3.out.r2 | with_reducible exact HR1A.out | with_reducible exact HR2A.out | with_reducible exact HR1B.out | with_reducible exact HR2B.out | with_reducible refine Blk.drew ?_ | with_reducible refine Blk.far5 ?_ (by omega) _ _ _ _ _ | with_reducible refine Blk.set5 ?_ _ _ _ _ _ | with_reducible refine Blk.below ?_ (Hid.out HBA) (by first | omega | (simp; omega)) | with_reducible refine Blk.below ?_ (Hid.out HBB) (by first | omega | (simp; omega))))
              have HR2A := Lib.hid R2A)
           | (have R2A : Blk wA (w.heap.size + 1 + 1 + 1 + 1 + 1) 51 #[.int .i64 x.state, .int .i64 x.on, .slice ay x.frames.length cy, .slice sy x.stack.length dy, .int .i64 x.code] := (by repeat (first | with_reducible exact HD3.out.r1 | with_reducible exact HD3.out.r2 | with_reducible exact HR1A.out | with_reducible exact HR2A.out | with_reducible exact HR1B.out | with_reducible exact HR2B.out | with_reducible refine Blk.drew ?_ | with_reducible refine Blk.far5 ?_ (by omega) _ _ _ _ _ | with_reducible refine Blk.set5 ?_ _ _ _ _ _ | with_reducible refine Blk.below ?_ (Hid.out HBA) (by first | omega | (simp; omega)) | with_reducible refine Blk.below ?_ (Hid.out HBB) (by first | omega | (simp; omega))))
              have HR2A := Lib.hid R2A)
         clear R1A R2A
         have c1A0 := (HR1A.out.cell 0).trans rfl
         have f1A0 := HR1A.out.frozen 0
         have c1A1 := (HR1A.out.cell 1).trans rfl
         have f1A1 := HR1A.out.frozen 1
         have c1A2 := (HR1A.out.cell 2).trans rfl
         have f1A2 := HR1A.out.frozen 2
         have c1A3 := (HR1A.out.cell 3).trans rfl
         have f1A3 := HR1A.out.frozen 3
         have c1A4 := (HR1A.out.cell 4).trans rfl
         have f1A4 := HR1A.out.frozen 4
         have c2A0 := (HR2A.out.cell 0).trans rfl
         have f2A0 := HR2A.out.frozen 0
         have c2A1 := (HR2A.out.cell 1).trans rfl
         have f2A1 := HR2A.out.frozen 1
         have c2A2 := (HR2A.out.cell 2).trans rfl
         have f2A2 := HR2A.out.frozen 2
         have c2A3 := (HR2A.out.cell 3).trans rfl
         have f2A3 := HR2A.out.frozen 3
         have c2A4 := (HR2A.out.cell 4).trans rfl
         have f2A4 := HR2A.out.frozen 4
         have l4A := HR1A.out.lt
         have l5A := HR2A.out.lt)
      | (go_simp; with_reducible refine (HG2.out _ (by repeat (first | with_reducible assumption | with_reducible exact Fr.refl _ _ | with_reducible refine Fr.drew ?_ | with_reducible refine Fr.setCell ?_ (.inl (by first | exact .inl rfl | exact .inr rfl)) _))).mono ?_; rintro e wB ⟨rfl, hbB, hkB⟩
         have HBB := Lib.hid hbB
         clear hbB
         first
           | (have R1B : Blk wB (w.heap.size + 1 + 1 + 1 + 1) 51 #[.int .i64 0, .int .i64 0, .slice none 0 0, .slice none 0 0, .int .i64 0] := (by repeat (first | with_reducible exact HD3.out.r1 | with_reducible exact HD3.out.r2 | with_reducible exact HR1A.out | with_reducible exact HR2A.out | with_reducible exact HR1B.out | with_reducible exact HR2B.out | with_reducible refine Blk.drew ?_ | with_reducible refine Blk.far5 ?_ (by omega) _ _ _ _ _ | with_reducible refine Blk.set5 ?_ _ _ _ _ _ | with_reducible refine Blk.below ?_ (Hid.out HBA) (by first | omega | (simp; omega)) | with_reducible refine Blk.below ?_ (Hid.out HBB) (by first | omega | (simp; omega))))
              have HR1B := Lib.hid R1B)
           | (have R1B : Blk wB (w.heap.size + 1 + 1 + 1 + 1) 51 #[.int .i64 x.state, .int .i64 x.on, .slice au x.frames.length cu, .slice su x.stack.length du, .int .i64 x.code] := (by repeat (first | with_reducible exact HD3.out.r1 | with_reducible exact HD3.out.r2 | with_reducible exact HR1A.out | with_reducible exact HR2A.out | with_reducible exact HR1B.out | with_reducible exact HR2B.out | with_reducible refine Blk.drew ?_ | with_reducible refine Blk.far5 ?_ (by omega) _ _ _ _ _ | with_reducible refine Blk.set5 ?_ _ _ _ _ _ | with_reducible refine Blk.below ?_ (Hid.out HBA) (by first | omega | (simp; omega)) | with_reducible refine Blk.below ?_ (Hid.out HBB) (by first | omega | (simp; omega))))
              have HR1B := Lib.hid R1B)
         first
           | (have R2B : Blk wB (w.heap.size + 1 + 1 + 1 + 1 + 1) 51 #[.int .i64 0, .int .i64 0, .slice none 0 0, .slice none 0 0, .int .i64 0] := (by repeat (first | with_reducible exact HD3.out.r1 | with_reducible exact HD3.out.r2 | with_reducible exact HR1A.out | with_reducible exact HR2A.out | with_reducible exact HR1B.out | with_reducible exact HR2B.out | with_reducible refine Blk.drew ?_ | with_reducible refine Blk.far5 ?_ (by omega) _ _ _ _ _ | with_reducible refine Blk.set5 ?_ _ _ _ _ _ | with_reducible refine Blk.below ?_ (Hid.out HBA) (by first | omega | (simp; omega)) | with_reducible refine Blk.below ?_ (Hid.out HBB) (by first | omega | (simp; omega))))
              have HR2B := Lib.hid R2B)
           | (have R2B : Blk wB (w.heap.size + 1 + 1 + 1 + 1 + 1) 51 #[.int .i64 x.state, .int .i64 x.on, .slice ay x.frames.length cy, .slice sy x.stack.length dy, .int .i64 x.code] := (by repeat (first | with_reducible exact HD3.out.r1 | with_reducible exact HD3.out.r2 | with_reducible exact HR1A.out | with_reducible exact HR2A.out | with_reducible exact HR1B.out | with_reducible exact HR2B.out | with_reducible refine Blk.drew ?_ | with_reducible refine Blk.far5 ?_ (by omega) _ _ _ _ _ | with_reducible refine Blk.set5 ?_ _ _ _ _ _ | with_reducible refine Blk.below ?_ (Hid.out HBA) (by first | omega | (simp; omega)) | with_reducible refine Blk.below ?_ (Hid.out HBB) (by first | omega | (simp; omega))))
              have HR2B := Lib.hid R2B)
         clear R1B R2B
         have c1B0 := (HR1B.out.cell 0).trans rfl
         have f1B0 := HR1B.out.frozen 0
         have c1B1 := (HR1B.out.cell 1).trans rfl
         have f1B1 := HR1B.out.frozen 1
         have c1B2 := (HR1B.out.cell 2).trans rfl
         have f1B2 := HR1B.out.frozen 2
         have c1B3 := (HR1B.out.cell 3).trans rfl
         have f1B3 := HR1B.out.frozen 3
         have c1B4 := (HR1B.out.cell 4).trans rfl
         have f1B4 := HR1B.out.frozen 4
         have c2B0 := (HR2B.out.cell 0).trans rfl
         have f2B0 := HR2B.out.frozen 0
         have c2B1 := (HR2B.out.cell 1).trans rfl
         have f2B1 := HR2B.out.frozen 1
         have c2B2 := (HR2B.out.cell 2).trans rfl
         have f2B2 := HR2B.out.frozen 2
         have c2B3 := (HR2B.out.cell 3).trans rfl
         have f2B3 := HR2B.out.frozen 3
         have c2B4 := (HR2B.out.cell 4).trans rfl
         have f2B4 := HR2B.out.frozen 4
         have l4B := HR1B.out.lt
         have l5B := HR2B.out.lt))
  all_goals
    go_wp2_with fail
    have hf := ((hkB).set5 (g := w.heap.size + 1 + 1 + 1 + 1) (.inl (.inl rfl)) (.int .i64 x.state) (.int .i64 x.on) (.slice au x.frames.length cu) (.slice su x.stack.length du) (.int .i64 x.code)).set5 (g := w.heap.size + 1 + 1 + 1 + 1 + 1) (.inl (.inr rfl)) (.int .i64 x.state) (.int .i64 x.on) (.slice ay x.frames.length cy) (.slice sy x.stack.length dy) (.int .i64 x.code)
    have hfin := HD3.out.finF TDu.out.rt TDy.out.rt hf
    have b1 := (HR1B.out.set5 (.int .i64 x.state) (.int .i64 x.on) (.slice au x.frames.length cu) (.slice su x.stack.length du) (.int .i64 x.code)).far5 (g' := w.heap.size + 1 + 1 + 1 + 1 + 1) (by omega) (.int .i64 x.state) (.int .i64 x.on) (.slice ay x.frames.length cy) (.slice sy x.stack.length dy) (.int .i64 x.code)
    have b2 := (HR2B.out.far5 (g' := w.heap.size + 1 + 1 + 1 + 1) (by omega) (.int .i64 x.state) (.int .i64 x.on) (.slice au x.frames.length cu) (.slice su x.stack.length du) (.int .i64 x.code)).set5 (.int .i64 x.state) (.int .i64 x.on) (.slice ay x.frames.length cy) (.slice sy x.stack.length dy) (.int .i64 x.code)
    refine bodyPost_ret (v := .tuple #[.agg #[.int .i64 x.state, .int .i64 x.on, .slice au x.frames.length cu, .slice su x.stack.length du, .int .i64 x.code], .agg #[.int .i64 x.state, .int .i64 x.on, .slice ay x.frames.length cy, .slice sy x.stack.length dy, .int .i64 x.code], .bool true]) (results_cells2_slot rfl _ _ (w.heap.size + 1 + 1 + 1 + 1) (w.heap.size + 1 + 1 + 1 + 1 + 1) 51 _ _ (0, 0) (0, 0) _ _ rfl rfl rfl b1 b2 Try.underlying51 rfl (by kernel_rfl) (by kernel_rfl)) rfl ?_
    exact ⟨⟨au, cu, su, du⟩, ⟨ay, cy, sy, dy⟩, rfl, hfin.1, hfin.2.1, hfin.2.2⟩
end Go.Proofs.Ythjfcpdebflppaa
