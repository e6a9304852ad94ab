
/-
  The walk of VmEnds.
-/
import Derived.Test.YtkciedcfphhenaaRows
import Derived.WalkKit
import Derived.ProofKit
import Derived.OpenShut
import Derived.ShutString
import Derived.ChangeOld
import Derived.Below
import Derived.Test.YtkciedcfphhenaaVmRun
import Derived.Test.YtkciedcfphhenaaThrI
import Derived.Test.YtkciedcfphhenaaPrOpen
import Derived.Test.YtkciedcfphhenaaThrOpen
namespace Go.Proofs.Ytkciedcfphhenaa.vmEnds
open Go.ChangeShapes Go.WideShapes Go.ChangeAt Go.RowKit Go.Proofs.Ytkciedcfphhenaa Go.Proofs.Ytkciedcfphhenaa.Plain
open Go.ChangeMaps (open_string shut_string)
set_option linter.unusedVariables false


theorem cells5 {W : World} {g : Nat} {T : TypeId} {x0 x1 x2 x3 x4 : Value} (h : Blk W g T #[x0, x1, x2, x3, x4]) :
    W.cell? ⟨g, 0, none⟩ = some x0 ∧ W.cell? ⟨g, 1, none⟩ = some x1 ∧ W.cell? ⟨g, 2, none⟩ = some x2 ∧ W.cell? ⟨g, 3, none⟩ = some x3 ∧ W.cell? ⟨g, 4, none⟩ = some x4 :=
  ⟨(h.cell 0).trans rfl, (h.cell 1).trans rfl, (h.cell 2).trans rfl, (h.cell 3).trans rfl, (h.cell 4).trans rfl⟩
theorem run_after {p : PV} (hp : mayB p = true) : ∀ (m : Nat) {t : TV}, mayT p t = true → t.state ≠ 9 → (∃ c, (c = 0 ∨ c = 1 ∨ c = 2 ∨ c = 3 ∨ c = 6) ∧ (runV p m t).1 = deadT c ∧ (runV p m t).2.1 = ⟨1, 0, c⟩) ∨ ((runV p m t).2.1.kind ≠ 1 ∧ mayT p (runV p m t).1 = true ∧ (runV p m t).1.state = t.state)
  | 0, t, h, hs => .inr ⟨(by decide : (0 : Int) ≠ 1), h, rfl⟩
  | m + 1, t, h, hs => by
    rw [runV_succ]
    rcases step_after hp h hs with ⟨c, hc, e⟩ | ⟨h1, h2, h3, h4⟩
    · rw [e]
      rw [if_neg (by show ¬ (1 : Int) = 0; decide)]
      exact .inl ⟨c, hc, rfl, rfl⟩
    · by_cases h0 : (stepV p t).2.kind = 0
      · rw [if_pos h0]
        have ih := run_after hp m h2 (by rw [h3]; exact hs)
        simp only [addN]
        rw [h3] at ih
        exact ih
      · rw [if_neg h0]
        exact .inr ⟨h1, h2, h3⟩
theorem rp_below {w w' : World} {B : Nat} {h : PH} {p : PV} {N : Nat} (hr : RP w B h p) (hB : Below N w w') (hN : B ≤ N) : RP w' B h p := hr.keep fun q hq => hB.cell (Nat.lt_of_lt_of_le hq hN)
set_option maxRecDepth 100000 in
set_option maxHeartbeats 40000000 in
theorem walk (hd0 : PH) (q0 : PV) (ht1 : TH) (t1 : TV) (a2 : Int) (w : World) (w0 : RP w w.heap.size hd0 q0 ∧ Fit q0 ∧ Lens q0) (w1 : RT w (fun _ => True) ht1 t1 ∧ FitT t1 ∧ LenT t1) (w2 : (Lit.int .i64 a2).wf = true) :
    Calls Try.prog 6 #[.agg #[.slice hd0.fA q0.funcs.length hd0.fc, .int .i64 q0.mutexes, .slice hd0.cA q0.conds.length hd0.cc, .slice hd0.sA q0.semas.length hd0.sc, .slice hd0.hA q0.chans.length hd0.hc, .slice hd0.xA q0.choices.length hd0.xc, .int .i64 q0.threads], .agg #[.int .i64 t1.state, .int .i64 t1.on, .slice ht1.fA t1.frames.length ht1.fc, .slice ht1.sA t1.stack.length ht1.sc, .int .i64 t1.code], .int .i64 a2] w fun e w' => e = .returned (.bool true) ∧ Below w.heap.size w w' := by
  obtain ⟨hrp, hfit, hlen⟩ := w0
  obtain ⟨hrt, hfitT, hlenT⟩ := w1
  have hv2 := bounds_i64 w2
  have HR := Lib.hid hrp; have HF := Lib.hid hfit; have HL := Lib.hid hlen; have HT := Lib.hid hrt; have HFT := Lib.hid hfitT; have HLT := Lib.hid hlenT
  clear hrp hfit hlen hrt hfitT hlenT w2
  go_enter Try.func6, Try.ntmps6
  go_wp2_with fail
  refine (good_any hd0 q0 _ w.heap.size ((HR.out.alloc (Nat.le_refl _) _).alloc (by simp) _) (by simp; omega) HF.out).mono ?_
  rintro e w1 hm
  obtain ⟨hg, rfl, hrp, hb⟩ := hm.rp
  have hgl := good_lens q0
  have hgmay := good_may q0 HF.out
  have hgn := good_funcs_len q0
  have hgf := good_few q0
  have hgc := good_code_len q0
  clear hm
  generalize good q0 = g at *
  obtain ⟨fA, fc, cA, cc, sA, sc, hA, hc, xA, xc⟩ := hg
  simp only at hrp ⊢
  have HGMAY := Lib.hid hgmay
  clear hgmay
  have hb0 : Below w.heap.size w ((w.alloc (.cells #[.slice hd0.fA q0.funcs.length hd0.fc, .int .i64 q0.mutexes, .slice hd0.cA q0.conds.length hd0.cc, .slice hd0.sA q0.semas.length hd0.sc, .slice hd0.hA q0.chans.length hd0.hc, .slice hd0.xA q0.choices.length hd0.xc, .int .i64 q0.threads] 26)).alloc (.cells #[.int .i64 t1.state, .int .i64 t1.on, .slice ht1.fA t1.frames.length ht1.fc, .slice ht1.sA t1.stack.length ht1.sc, .int .i64 t1.code] 29)) := ((Below.refl _ _).alloc (Nat.le_refl _) _).alloc (by simp) _
  have hbk : Blk ((w.alloc (.cells #[.slice hd0.fA q0.funcs.length hd0.fc, .int .i64 q0.mutexes, .slice hd0.cA q0.conds.length hd0.cc, .slice hd0.sA q0.semas.length hd0.sc, .slice hd0.hA q0.chans.length hd0.hc, .slice hd0.xA q0.choices.length hd0.xc, .int .i64 q0.threads] 26)).alloc (.cells #[.int .i64 t1.state, .int .i64 t1.on, .slice ht1.fA t1.frames.length ht1.fc, .slice ht1.sA t1.stack.length ht1.sc, .int .i64 t1.code] 29)) (w.heap.size + 1) 29 #[.int .i64 t1.state, .int .i64 t1.on, .slice ht1.fA t1.frames.length ht1.fc, .slice ht1.sA t1.stack.length ht1.sc, .int .i64 t1.code] := by
    simpa using Blk.new (w.alloc (.cells #[.slice hd0.fA q0.funcs.length hd0.fc, .int .i64 q0.mutexes, .slice hd0.cA q0.conds.length hd0.cc, .slice hd0.sA q0.semas.length hd0.sc, .slice hd0.hA q0.chans.length hd0.hc, .slice hd0.xA q0.choices.length hd0.xc, .int .i64 q0.threads] 26)) 29 #[.int .i64 t1.state, .int .i64 t1.on, .slice ht1.fA t1.frames.length ht1.fc, .slice ht1.sA t1.stack.length ht1.sc, .int .i64 t1.code]
  have hbw1 : Below w.heap.size w w1 := hb0.trans (hb.mono (by simp; omega))
  have hbk1 := (hbk.below hb (by simp)).alloc (.cells #[.slice fA g.funcs.length fc, .int .i64 g.mutexes, .slice cA g.conds.length cc, .slice sA g.semas.length sc, .slice hA g.chans.length hc, .slice xA g.choices.length xc, .int .i64 g.threads] 26)
  have hT1 := HT.out.below (hbw1.alloc hbw1.size (.cells #[.slice fA g.funcs.length fc, .int .i64 g.mutexes, .slice cA g.conds.length cc, .slice sA g.semas.length sc, .slice hA g.chans.length hc, .slice xA g.choices.length xc, .int .i64 g.threads] 26))
  have z1 : w.heap.size + 2 ≤ w1.heap.size := by have := hb.size; simpa using this
  have hPB : PB w (w1.alloc (.cells #[.slice fA g.funcs.length fc, .int .i64 g.mutexes, .slice cA g.conds.length cc, .slice sA g.semas.length sc, .slice hA g.chans.length hc, .slice xA g.choices.length xc, .int .i64 g.threads] 26)) w1.heap.size w1.heap.size ⟨fA, fc, cA, cc, sA, sc, hA, hc, xA, xc⟩ g := ⟨Blk.new _ _ _, hrp.alloc (Nat.le_refl _) _, hbw1.alloc hbw1.size _, by simp⟩
  obtain ⟨gb, hgb⟩ : ∃ b, b = w1.heap.size := ⟨_, rfl⟩
  have HPB := Lib.hid hPB; have HB1 := Lib.hid hbk1; have HT1 := Lib.hid hT1; have HGL := Lib.hid hgl; have HGF := Lib.hid hgf; have HGC := Lib.hid hgc
  clear hrp hb hgl hgf hgc hb0 hbk hbw1 hbk1 hT1 hPB
  go_upto_region 2 with fail
  obtain ⟨W2, hW2⟩ : ∃ W, W = w1.alloc (.cells #[.slice fA g.funcs.length fc, .int .i64 g.mutexes, .slice cA g.conds.length cc, .slice sA g.semas.length sc, .slice hA g.chans.length hc, .slice xA g.choices.length xc, .int .i64 g.threads] 26) := ⟨_, rfl⟩
  rw [← hW2] at HPB HB1 HT1 ⊢
  rw [← hgb] at HPB ⊢
  clear hW2
  have p0 : W2.cell? ⟨gb, 0, none⟩ = some (.slice fA g.funcs.length fc) := (HPB.out.pb.cell 0).trans rfl
  have p1 : W2.cell? ⟨gb, 1, none⟩ = some (.int .i64 g.mutexes) := (HPB.out.pb.cell 1).trans rfl
  have p2 : W2.cell? ⟨gb, 2, none⟩ = some (.slice cA g.conds.length cc) := (HPB.out.pb.cell 2).trans rfl
  have p3 : W2.cell? ⟨gb, 3, none⟩ = some (.slice sA g.semas.length sc) := (HPB.out.pb.cell 3).trans rfl
  have p4 : W2.cell? ⟨gb, 4, none⟩ = some (.slice hA g.chans.length hc) := (HPB.out.pb.cell 4).trans rfl
  have p5 : W2.cell? ⟨gb, 5, none⟩ = some (.slice xA g.choices.length xc) := (HPB.out.pb.cell 5).trans rfl
  have p6 : W2.cell? ⟨gb, 6, none⟩ = some (.int .i64 g.threads) := (HPB.out.pb.cell 6).trans rfl
  have y0 : W2.cell? ⟨w.heap.size + 1, 0, none⟩ = some (.int .i64 t1.state) := (HB1.out.cell 0).trans rfl
  have y1 : W2.cell? ⟨w.heap.size + 1, 1, none⟩ = some (.int .i64 t1.on) := (HB1.out.cell 1).trans rfl
  have y2 : W2.cell? ⟨w.heap.size + 1, 2, none⟩ = some (.slice ht1.fA t1.frames.length ht1.fc) := (HB1.out.cell 2).trans rfl
  have y3 : W2.cell? ⟨w.heap.size + 1, 3, none⟩ = some (.slice ht1.sA t1.stack.length ht1.sc) := (HB1.out.cell 3).trans rfl
  have y4 : W2.cell? ⟨w.heap.size + 1, 4, none⟩ = some (.int .i64 t1.code) := (HB1.out.cell 4).trans rfl
  have zg := HPB.out.pb.lt
  clear hgb z1
  go_wp2_with fail
  refine (good4_any ⟨fA, fc, cA, cc, sA, sc, hA, hc, xA, xc⟩ g W2 gb HPB.out.rp HPB.out.hBP HGF.out HGL.out (fun f hf => by have := HGC.out f hf; omega) hgn.1 ht1 t1 _ HT1.out HFT.out HLT.out).mono ?_
  rintro e w3 ⟨ht, rfl, hrt3, hb3⟩
  have hmay := goodT_may HGF.out hgn.1 t1
  have hst : (goodT g t1).state = 0 := rfl
  generalize goodT g t1 = x at *
  obtain ⟨tA, tc, kA, kc⟩ := ht
  simp only at hrt3 ⊢
  have hTB := TB.new hrt3
  have hPB3 := (HPB.out.below hb3).below ((Below.refl _ _).alloc (Nat.le_refl _) (.cells #[.int .i64 x.state, .int .i64 x.on, .slice tA x.frames.length tc, .slice kA x.stack.length kc, .int .i64 x.code] 29))
  have hlx := lenT_may hmay
  obtain ⟨xb, hxb⟩ : ∃ b, b = w3.heap.size := ⟨_, rfl⟩
  have HTB := Lib.hid hTB; have HPB3 := Lib.hid hPB3; have HMAY := Lib.hid hmay; have HST := Lib.hid hst
  clear hTB hPB3 hmay hst hrt3 hb3 HPB p0 p1 p2 p3 p4 p5 p6 y0 y1 y2 y3 y4 zg HB1 HT1
  go_upto_region 3 with fail
  obtain ⟨W3, hW3⟩ : ∃ W, W = w3.alloc (.cells #[.int .i64 x.state, .int .i64 x.on, .slice tA x.frames.length tc, .slice kA x.stack.length kc, .int .i64 x.code] 29) := ⟨_, rfl⟩
  rw [← hW3] at HTB HPB3 ⊢
  rw [← hxb] at HTB ⊢
  clear hW3 hxb
  have hlt := lensT_may HGF.out HMAY.out
  have hne9 : x.state ≠ 9 := by rw [HST.out]; decide
  have HLX := Lib.hid hlx; have HLXT := Lib.hid hlt; have HNE := Lib.hid hne9
  clear hlx hlt hne9
  have x0 : W3.cell? ⟨xb, 0, none⟩ = some (.int .i64 x.state) := (HTB.out.tb.cell 0).trans rfl
  have x1 : W3.cell? ⟨xb, 1, none⟩ = some (.int .i64 x.on) := (HTB.out.tb.cell 1).trans rfl
  have x2 : W3.cell? ⟨xb, 2, none⟩ = some (.slice tA x.frames.length tc) := (HTB.out.tb.cell 2).trans rfl
  have x3 : W3.cell? ⟨xb, 3, none⟩ = some (.slice kA x.stack.length kc) := (HTB.out.tb.cell 3).trans rfl
  have x4 : W3.cell? ⟨xb, 4, none⟩ = some (.int .i64 x.code) := (HTB.out.tb.cell 4).trans rfl
  have zx := HTB.out.tb.lt
  have har := fun W => around_any a2 101 W hv2.1 hv2.2 (by omega) (by omega)
  have hbd := around_bd a2 101 (by omega)
  obtain ⟨mo, hmo⟩ : ∃ m, around a2 101 = m := ⟨_, rfl⟩
  rw [hmo] at har hbd
  have HAR := Lib.hid har; have HBD := Lib.hid hbd
  clear har hbd hmo
  have hgm := HGMAY.out
  have hgfew := mayB_few hgm
  have hrun := fun (X : World) (hX : Below W3.heap.size W3 X) => vrun_any ⟨fA, fc, cA, cc, sA, sc, hA, hc, xA, xc⟩ g ⟨tA, tc, kA, kc⟩ x (mo) X gb _ (rp_below HPB3.out.rp hX HPB3.out.hBP) (Nat.le_trans HPB3.out.hBP hX.size) (HTB.out.rt.below hX) hgm HGL.out HMAY.out HNE.out (by have := HBD.out; omega)
  have haf := run_after hgm (mo).toNat HMAY.out HNE.out
  obtain ⟨y, rq, nn, hrv⟩ : ∃ y rq nn, runV g (mo).toNat x = (y, rq, nn) := ⟨_, _, _, rfl⟩
  rw [hrv] at hrun haf
  simp only at hrun haf
  have hks : ∀ X, Below W3.heap.size W3 X → X.cell? ⟨gb, 0, none⟩ = some (.slice fA g.funcs.length fc) ∧ X.cell? ⟨gb, 1, none⟩ = some (.int .i64 g.mutexes) ∧ X.cell? ⟨gb, 2, none⟩ = some (.slice cA g.conds.length cc) ∧ X.cell? ⟨gb, 3, none⟩ = some (.slice sA g.semas.length sc) ∧ X.cell? ⟨gb, 4, none⟩ = some (.slice hA g.chans.length hc) ∧ X.cell? ⟨gb, 5, none⟩ = some (.slice xA g.choices.length xc) ∧ X.cell? ⟨gb, 6, none⟩ = some (.int .i64 g.threads) ∧ X.cell? ⟨xb, 0, none⟩ = some (.int .i64 x.state) ∧ X.cell? ⟨xb, 1, none⟩ = some (.int .i64 x.on) ∧ X.cell? ⟨xb, 2, none⟩ = some (.slice tA x.frames.length tc) ∧ X.cell? ⟨xb, 3, none⟩ = some (.slice kA x.stack.length kc) ∧ X.cell? ⟨xb, 4, none⟩ = some (.int .i64 x.code) := fun X hX => by
    have k0 := (HPB3.out.below hX).pb
    have k1 := (HTB.out.below hX).tb
    exact ⟨(k0.cell 0).trans rfl, (k0.cell 1).trans rfl, (k0.cell 2).trans rfl, (k0.cell 3).trans rfl, (k0.cell 4).trans rfl, (k0.cell 5).trans rfl, (k0.cell 6).trans rfl, (k1.cell 0).trans rfl, (k1.cell 1).trans rfl, (k1.cell 2).trans rfl, (k1.cell 3).trans rfl, (k1.cell 4).trans rfl⟩
  have HRUN := Lib.hid hrun; have HAF := Lib.hid haf; have HKS := Lib.hid hks; have HRV := Lib.hid hrv
  clear hrun haf hks hrv hgm hgfew x0 x1 x2 x3 x4
  obtain ⟨m0, m1, m2, m3, m4, m5, m6, n0, n1, n2, n3, n4⟩ := HKS.out W3 (Below.refl _ _)
  go_cut [9, 10, 11] (fun s2 s3 s4 wx => LiC W3 y rq nn s2 s3 s4 wx)
  case first =>
    go_region_held3 (fun X => X.cell? ⟨gb, 0, none⟩ = some (.slice fA g.funcs.length fc) ∧ X.cell? ⟨gb, 1, none⟩ = some (.int .i64 g.mutexes) ∧ X.cell? ⟨gb, 2, none⟩ = some (.slice cA g.conds.length cc) ∧ X.cell? ⟨gb, 3, none⟩ = some (.slice sA g.semas.length sc) ∧ X.cell? ⟨gb, 4, none⟩ = some (.slice hA g.chans.length hc) ∧ X.cell? ⟨gb, 5, none⟩ = some (.slice xA g.choices.length xc) ∧ X.cell? ⟨gb, 6, none⟩ = some (.int .i64 g.threads) ∧ X.cell? ⟨xb, 0, none⟩ = some (.int .i64 x.state) ∧ X.cell? ⟨xb, 1, none⟩ = some (.int .i64 x.on) ∧ X.cell? ⟨xb, 2, none⟩ = some (.slice tA x.frames.length tc) ∧ X.cell? ⟨xb, 3, none⟩ = some (.slice kA x.stack.length kc) ∧ X.cell? ⟨xb, 4, none⟩ = some (.int .i64 x.code))
      (first | (exact HKS.out _ (by repeat (first | (with_reducible exact hbr) | (with_reducible exact Below.refl _ _) | (with_reducible refine Below.drew ?_) | (with_reducible refine Below.setCell ?_ ?hs _; case hs => first | omega | (simp <;> omega) | (have := hbr.size; first | omega | (simp <;> omega))) | (with_reducible refine Below.alloc ?_ ?hs _; case hs => first | omega | (simp <;> omega) | (have := hbr.size; first | omega | (simp <;> omega)))))))
      (first
        | (go_simp; go_at_call 22; refine (HAR.out _).mono ?_; rintro ea wa ⟨rfl, rfl⟩)
        | (go_simp; go_at_call 20; refine (HRUN.out _ (by repeat (first | (with_reducible exact hbr) | (with_reducible exact Below.refl _ _) | (with_reducible refine Below.drew ?_) | (with_reducible refine Below.setCell ?_ ?hs _; case hs => first | omega | (simp <;> omega) | (have := hbr.size; first | omega | (simp <;> omega))) | (with_reducible refine Below.alloc ?_ ?hs _; case hs => first | omega | (simp <;> omega) | (have := hbr.size; first | omega | (simp <;> omega)))))).mono ?_; rintro er wr ⟨⟨rA, rc, rB, rd⟩, rfl, hrr, hr4⟩
           have hbr : Below W3.heap.size W3 wr := Below.trans (by repeat (first | (with_reducible exact hbr) | (with_reducible exact Below.refl _ _) | (with_reducible refine Below.drew ?_) | (with_reducible refine Below.setCell ?_ ?hs _; case hs => first | omega | (simp <;> omega) | (have := hbr.size; first | omega | (simp <;> omega))) | (with_reducible refine Below.alloc ?_ ?hs _; case hs => first | omega | (simp <;> omega) | (have := hbr.size; first | omega | (simp <;> omega))))) (hr4.mono (by first | omega | (simp; omega) | simp))
           obtain ⟨hcr, hfr⟩ := bcellU hr4
           have hzr := hr4.size
           try simp at hzr
           try (have hr1 : W3.heap.size < wr.heap.size := by omega)
           try (have hr2 : W3.heap.size + 1 < wr.heap.size := by omega)))
    all_goals
      go_wp2_with fail
      go_meet
      refine ⟨_, _, ⟨rA, rc, rB, rd⟩, rfl, rfl, rfl, ⟨?b1, ?rt⟩, ?b2, (by repeat (first | (with_reducible exact hbr) | (with_reducible exact Below.refl _ _) | (with_reducible refine Below.drew ?_) | (with_reducible refine Below.setCell ?_ ?hs _; case hs => first | omega | (simp <;> omega) | (have := hbr.size; first | omega | (simp <;> omega))) | (with_reducible refine Below.alloc ?_ ?hs _; case hs => first | omega | (simp <;> omega) | (have := hbr.size; first | omega | (simp <;> omega)))))⟩
      case b1 => (show Blk _ _ _ #[.int .i64 y.state, .int .i64 y.on, .slice rA y.frames.length rc, .slice rB y.stack.length rd, .int .i64 y.code]; (repeat (first | (with_reducible refine blk_at ?hs; case hs => (first | rfl | (simp; done))) | (with_reducible refine Blk.set5 (v0 := .int .i64 0) (v1 := .int .i64 0) (v2 := .slice none 0 0) (v3 := .slice none 0 0) (v4 := .int .i64 0) ?_ _ _ _ _ _) | (with_reducible refine Blk.set3 (v0 := .int .i64 0) (v1 := .int .i64 0) (v2 := .int .i64 0) ?_ _ _ _) | (with_reducible refine Blk.far ?_ ?hs _; case hs => (show (_ : Nat) ≠ _; first | omega | (simp <;> omega) | (have := hbr.size; first | omega | (simp <;> omega)))) | (with_reducible refine Blk.alloc ?_ _) | (with_reducible refine Blk.below ?_ hr4 ?hs; (case hs => (first | omega | (simp <;> omega) | (have := hbr.size; first | omega | (simp <;> omega)))); (repeat (first | (with_reducible refine blk_at ?hs; case hs => (first | rfl | (simp; done))) | (with_reducible refine Blk.drew ?_) | (with_reducible refine Blk.alloc ?_ _))); done))))
      case b2 => (repeat (first | (with_reducible refine blk_at ?hs; case hs => (first | rfl | (simp; done))) | (with_reducible refine Blk.set5 (v0 := .int .i64 0) (v1 := .int .i64 0) (v2 := .slice none 0 0) (v3 := .slice none 0 0) (v4 := .int .i64 0) ?_ _ _ _ _ _) | (with_reducible refine Blk.set3 (v0 := .int .i64 0) (v1 := .int .i64 0) (v2 := .int .i64 0) ?_ _ _ _) | (with_reducible refine Blk.far ?_ ?hs _; case hs => (show (_ : Nat) ≠ _; first | omega | (simp <;> omega) | (have := hbr.size; first | omega | (simp <;> omega)))) | (with_reducible refine Blk.alloc ?_ _) | (with_reducible refine Blk.below ?_ hr4 ?hs; (case hs => (first | omega | (simp <;> omega) | (have := hbr.size; first | omega | (simp <;> omega)))); (repeat (first | (with_reducible refine blk_at ?hs; case hs => (first | rfl | (simp; done))) | (with_reducible refine Blk.drew ?_) | (with_reducible refine Blk.alloc ?_ _))); done)))
      case rt =>
        refine (hrr.keep fun q hq hl => ?_).mono fun _ _ _ => trivial
        have hq' : _ ≤ q.block := hq
        try simp at hq'
        refine Fr.cell (S := fun i => i ≠ q.block) ?_ hl (fun h => h rfl)
        (repeat (first | (with_reducible exact Fr.refl _ _) | (with_reducible refine Fr.alloc ?_ _) | (with_reducible refine Fr.setCell ?_ (.inl ?hs) _; case hs => (show (_ : Nat) ≠ q.block; first | omega | (simp <;> omega) | (have := hbr.size; first | omega | (simp <;> omega))))))
  case rest =>
  obtain ⟨yb, qb, ⟨yA, yc, uA, uc⟩, rfl, rfl, rfl, hyt, hqb, hbw⟩ := hcut
  clear m0 m1 m2 m3 m4 m5 m6 n0 n1 n2 n3 n4 HKS HRUN HAR
  have q0 := (hqb.cell 0).trans rfl
  have q1 := (hqb.cell 1).trans rfl
  have q2 := (hqb.cell 2).trans rfl
  obtain ⟨y0, y1, y2, y3, y4⟩ := cells5 hyt.tb
  have HBW := Lib.hid (HPB3.out.bel.trans (hbw.mono HPB3.out.bel.size))
  have HYT := Lib.hid hyt; have HQB := Lib.hid hqb
  clear hbw hyt hqb
  rcases HAF.out with ⟨c, hc, e1, e2⟩ | ⟨h1, h2, h3⟩
  · subst e1 e2
    have HYT2 : Hid (RT wc (fun _ => True) ⟨yA, yc, uA, uc⟩ (deadT c)) := Lib.hid HYT.out.rt
    simp only [deadT, List.length_nil] at y0 y1 y2 y3 y4 q0 q1 q2
    have hke : ∀ W' w4, Below wc.heap.size wc W' → Below W'.heap.size W' w4 → Hid (Below wc.heap.size wc w4) ∧ (w4.cell? ⟨yb, 0, none⟩ = some (.int .i64 9) ∧ w4.cell? ⟨yb, 1, none⟩ = some (.int .i64 0) ∧ w4.cell? ⟨yb, 2, none⟩ = some (.slice yA 0 yc) ∧ w4.cell? ⟨yb, 3, none⟩ = some (.slice uA 0 uc) ∧ w4.cell? ⟨yb, 4, none⟩ = some (.int .i64 c) ∧ w4.cell? ⟨qb, 0, none⟩ = some (.int .i64 1) ∧ w4.cell? ⟨qb, 1, none⟩ = some (.int .i64 0) ∧ w4.cell? ⟨qb, 2, none⟩ = some (.int .i64 c)) := fun W' w4 h1 h2 => by
      have hb := h1.trans (h2.mono h1.size)
      have k0 := HYT.out.tb.below hb HYT.out.tb.lt
      have k1 := HQB.out.below hb HQB.out.lt
      exact ⟨Lib.hid hb, (k0.cell 0).trans rfl, (k0.cell 1).trans rfl, (k0.cell 2).trans rfl, (k0.cell 3).trans rfl, (k0.cell 4).trans rfl, (k1.cell 0).trans rfl, (k1.cell 1).trans rfl, (k1.cell 2).trans rfl⟩
    have hc1 : ∀ W', Below wc.heap.size wc W' → Calls Try.prog 23 #[.int .i64 c] W' fun e w4 => e = .returned (.agg #[.int .i64 9, .int .i64 0, .slice none 0 0, .slice none 0 0, .int .i64 c]) ∧ Hid (Below wc.heap.size wc w4) ∧ (w4.cell? ⟨yb, 0, none⟩ = some (.int .i64 9) ∧ w4.cell? ⟨yb, 1, none⟩ = some (.int .i64 0) ∧ w4.cell? ⟨yb, 2, none⟩ = some (.slice yA 0 yc) ∧ w4.cell? ⟨yb, 3, none⟩ = some (.slice uA 0 uc) ∧ w4.cell? ⟨yb, 4, none⟩ = some (.int .i64 c) ∧ w4.cell? ⟨qb, 0, none⟩ = some (.int .i64 1) ∧ w4.cell? ⟨qb, 1, none⟩ = some (.int .i64 0) ∧ w4.cell? ⟨qb, 2, none⟩ = some (.int .i64 c)) := fun W' hb =>
      (refEnd_any c W').mono fun e w4 hq => ⟨hq.1, hke W' w4 hb hq.2⟩
    have hc2 : ∀ W', Below wc.heap.size wc W' → Calls Try.prog 15 #[.agg #[.int .i64 9, .int .i64 0, .slice yA 0 yc, .slice uA 0 uc, .int .i64 c], .agg #[.int .i64 9, .int .i64 0, .slice none 0 0, .slice none 0 0, .int .i64 c]] W' fun e w4 => e = .returned (.bool true) ∧ Hid (Below wc.heap.size wc w4) ∧ (w4.cell? ⟨yb, 0, none⟩ = some (.int .i64 9) ∧ w4.cell? ⟨yb, 1, none⟩ = some (.int .i64 0) ∧ w4.cell? ⟨yb, 2, none⟩ = some (.slice yA 0 yc) ∧ w4.cell? ⟨yb, 3, none⟩ = some (.slice uA 0 uc) ∧ w4.cell? ⟨yb, 4, none⟩ = some (.int .i64 c) ∧ w4.cell? ⟨qb, 0, none⟩ = some (.int .i64 1) ∧ w4.cell? ⟨qb, 1, none⟩ = some (.int .i64 0) ∧ w4.cell? ⟨qb, 2, none⟩ = some (.int .i64 c)) := fun W' hb =>
      (refSame_yes ⟨yA, yc, uA, uc⟩ ⟨none, 0, none, 0⟩ (deadT c) W' _ _ (HYT2.out.below hb) (dead_rt c W') dead_lens).mono fun e w4 hq => ⟨hq.1, hke W' w4 hb hq.2⟩
    have hc3 : ∀ W', Below wc.heap.size wc W' → Calls Try.prog 17 #[] W' fun e w4 => e = .returned (.bool true) ∧ Hid (Below wc.heap.size wc w4) ∧ (w4.cell? ⟨yb, 0, none⟩ = some (.int .i64 9) ∧ w4.cell? ⟨yb, 1, none⟩ = some (.int .i64 0) ∧ w4.cell? ⟨yb, 2, none⟩ = some (.slice yA 0 yc) ∧ w4.cell? ⟨yb, 3, none⟩ = some (.slice uA 0 uc) ∧ w4.cell? ⟨yb, 4, none⟩ = some (.int .i64 c) ∧ w4.cell? ⟨qb, 0, none⟩ = some (.int .i64 1) ∧ w4.cell? ⟨qb, 1, none⟩ = some (.int .i64 0) ∧ w4.cell? ⟨qb, 2, none⟩ = some (.int .i64 c)) := fun W' hb =>
      (vlives_any W').mono fun e w4 hq => ⟨hq.1, hke W' w4 hb hq.2⟩
    have HC1 := Lib.hid hc1; have HC2 := Lib.hid hc2; have HC3 := Lib.hid hc3
    have HBA := Lib.hid (Below.refl wc.heap.size wc)
    clear hc1 hc2 hc3 hke HYT HQB HAF HYT2
    have c0 : 0 ≤ c := by omega
    have c1 : c ≤ 6 := by omega
    have c2 : (c != 4) = true := by simp; omega
    have c3 : (c != 5) = true := by simp; omega
    have c4 : ¬ c = 4 := by omega
    have c5 : ¬ c = 5 := by omega
    clear hc
    go_upto_region 6 with fail
    go_region_held3 (fun w' => w'.cell? ⟨yb, 0, none⟩ = some (.int .i64 9) ∧ w'.cell? ⟨yb, 1, none⟩ = some (.int .i64 0) ∧ w'.cell? ⟨yb, 2, none⟩ = some (.slice yA 0 yc) ∧ w'.cell? ⟨yb, 3, none⟩ = some (.slice uA 0 uc) ∧ w'.cell? ⟨yb, 4, none⟩ = some (.int .i64 c) ∧ w'.cell? ⟨qb, 0, none⟩ = some (.int .i64 1) ∧ w'.cell? ⟨qb, 1, none⟩ = some (.int .i64 0) ∧ w'.cell? ⟨qb, 2, none⟩ = some (.int .i64 c))
      (first | with_reducible exact G3 | with_reducible exact ⟨y0, y1, y2, y3, y4, q0, q1, q2⟩ | go_keep)
      (first
          | (go_at_call 23; (with_reducible refine (HC1.out _ (by first | with_reducible exact HBA.out | with_reducible exact HBA.out.drew | with_reducible exact Below.refl _ _ | exact (Below.refl _ _).drew)).mono ?_); (rintro e w4 ⟨rfl, HBA, G3⟩))
          | (go_at_call 15; (with_reducible refine (HC2.out _ (by first | with_reducible exact HBA.out | with_reducible exact HBA.out.drew | with_reducible exact Below.refl _ _ | exact (Below.refl _ _).drew)).mono ?_); (rintro e w4 ⟨rfl, HBA, G3⟩))
          | (go_at_call 17; (with_reducible refine (HC3.out _ (by first | with_reducible exact HBA.out | with_reducible exact HBA.out.drew | with_reducible exact Below.refl _ _ | exact (Below.refl _ _).drew)).mono ?_); (rintro e w4 ⟨rfl, HBA, G3⟩))
          | fail)
    all_goals
      go_wp2_with fail
      go_ret
      exact ⟨rfl, HBW.out.trans (HBA.out.mono HBW.out.size)⟩
  · have hst0 : y.state = 0 := by rw [h3]; exact HST.out
    have hpos := frames_pos h2 (by rw [hst0]; decide)
    have hk1 : (rq.kind == 1) = false := by simpa using h1
    have hpos2 : (0 : Int) < (y.frames.length : Int) := by omega
    rw [hst0] at y0
    clear h1 h2 h3 hst0 hpos HAF HYT HQB
    generalize rq.kind = rk at *
    go_wp2_with fail
    refine (vlives_any _).mono ?_
    rintro e w7 ⟨rfl, hb7⟩
    go_wp2_with fail
    go_ret
    exact ⟨rfl, HBW.out.trans (hb7.mono HBW.out.size)⟩
end Go.Proofs.Ytkciedcfphhenaa.vmEnds
