
/-
  The walk of VmRuns.
-/
import Derived.Test.YtkciedcfphhenaaRows
import Derived.WalkKit
import Derived.ProofKit
import Derived.OpenShut
import Derived.ShutString
import Derived.ChangeOld
import Derived.Below
import Derived.Test.YtkciedcfphhenaaVmDocB
import Derived.Test.YtkciedcfphhenaaThrI
import Derived.Test.YtkciedcfphhenaaPrOpen
import Derived.Test.YtkciedcfphhenaaThrOpen
namespace Go.Proofs.Ytkciedcfphhenaa.vmRuns
open Go.ChangeShapes Go.WideShapes Go.ChangeAt Go.RowKit Go.Proofs.Ytkciedcfphhenaa Go.Proofs.Ytkciedcfphhenaa.Plain
open Go.ChangeMaps (open_string shut_string)
set_option linter.unusedVariables false


theorem cells5 {W : World} {g : Nat} {T : TypeId} {x0 x1 x2 x3 x4 : Value} (h : Blk W g T #[x0, x1, x2, x3, x4]) :
    W.cell? ⟨g, 0, none⟩ = some x0 ∧ W.cell? ⟨g, 1, none⟩ = some x1 ∧ W.cell? ⟨g, 2, none⟩ = some x2 ∧ W.cell? ⟨g, 3, none⟩ = some x3 ∧ W.cell? ⟨g, 4, none⟩ = some x4 :=
  ⟨(h.cell 0).trans rfl, (h.cell 1).trans rfl, (h.cell 2).trans rfl, (h.cell 3).trans rfl, (h.cell 4).trans rfl⟩
theorem run_after {p : PV} (hp : mayB p = true) : ∀ (m : Nat) {t : TV}, mayT p t = true → t.state ≠ 9 → (∃ c, (c = 0 ∨ c = 1 ∨ c = 2 ∨ c = 3 ∨ c = 6) ∧ (runV p m t).1 = deadT c ∧ (runV p m t).2.1 = ⟨1, 0, c⟩) ∨ ((runV p m t).2.1.kind ≠ 1 ∧ mayT p (runV p m t).1 = true ∧ (runV p m t).1.state = t.state)
  | 0, t, h, hs => .inr ⟨(by decide : (0 : Int) ≠ 1), h, rfl⟩
  | m + 1, t, h, hs => by
    rw [runV_succ]
    rcases step_after hp h hs with ⟨c, hc, e⟩ | ⟨h1, h2, h3, h4⟩
    · rw [e]
      rw [if_neg (by show ¬ (1 : Int) = 0; decide)]
      exact .inl ⟨c, hc, rfl, rfl⟩
    · by_cases h0 : (stepV p t).2.kind = 0
      · rw [if_pos h0]
        have ih := run_after hp m h2 (by rw [h3]; exact hs)
        simp only [addN]
        rw [h3] at ih
        exact ih
      · rw [if_neg h0]
        exact .inr ⟨h1, h2, h3⟩
theorem rp_below {w w' : World} {B : Nat} {h : PH} {p : PV} {N : Nat} (hr : RP w B h p) (hB : Below N w w') (hN : B ≤ N) : RP w' B h p := hr.keep fun q hq => hB.cell (Nat.lt_of_lt_of_le hq hN)
theorem as_any5 (k a v : Int) (w : World) : Calls Try.prog 16 #[.agg #[.int .i64 k, .int .i64 a, .int .i64 v]] w fun e w' => e = .returned (.agg #[.int .i64 k, .int .i64 a, .int .i64 v]) ∧ Below w.heap.size w w' := by
  obtain ⟨W0, hW0⟩ : ∃ W, W = (w.alloc (.cells #[.int .i64 k, .int .i64 a, .int .i64 v] 34)).alloc (.cells #[.int .i64 0, .int .i64 0, .int .i64 0] 37) := ⟨_, rfl⟩
  have h0 : Blk W0 w.heap.size 34 #[.int .i64 k, .int .i64 a, .int .i64 v] := by rw [hW0]; exact (Blk.new w _ _).alloc _
  have h1 : Blk W0 (w.heap.size + 1) 37 #[.int .i64 0, .int .i64 0, .int .i64 0] := by rw [hW0]; simpa using Blk.new (w.alloc (.cells #[.int .i64 k, .int .i64 a, .int .i64 v] 34)) 37 #[.int .i64 0, .int .i64 0, .int .i64 0]
  have hb : Below w.heap.size w W0 := by rw [hW0]; exact ((Below.refl _ w).alloc (Nat.le_refl _) _).alloc (by simp) _
  have a0 := (h0.cell 0).trans rfl
  have a1 := (h0.cell 1).trans rfl
  have a2 := (h0.cell 2).trans rfl
  have b0 := (h1.cell 0).trans rfl
  have b1 := (h1.cell 1).trans rfl
  have b2 := (h1.cell 2).trans rfl
  have f0 := h1.frozen 0
  have f1 := h1.frozen 1
  have f2 := h1.frozen 2
  have hs := h1.set3 (.int .i64 k) (.int .i64 a) (.int .i64 v)
  have hfr := (Fr.refl (fun i => i = w.heap.size + 1) W0).set3 (g := w.heap.size + 1) (.inl rfl) (.int .i64 k) (.int .i64 a) (.int .i64 v)
  have HE := Lib.hid (⟨hs, hb.trans (hfr.below hb.size (fun i e => by omega))⟩ : _ ∧ _)
  have HW0 := Lib.hid hW0
  clear hW0 h0 h1 hb hs hfr
  go_enter Try.func16, Try.ntmps16
  go_upto_region 1 with fail
  rw [← HW0.out]
  clear HW0
  go_wp2_with fail
  refine bodyPost_ret (v := .agg #[.int .i64 k, .int .i64 a, .int .i64 v]) (results_cell_row rfl _ _ (w.heap.size + 1) 37 _ (0, 0) _ rfl HE.out.1 Try.underlying37 rfl (by kernel_rfl)) rfl ?_
  exact ⟨rfl, HE.out.2⟩
set_option maxRecDepth 100000 in
set_option maxHeartbeats 40000000 in
theorem walk (hd0 : PH) (q0 : PV) (ht1 : TH) (t1 : TV) (a2 : Int) (w : World) (w0 : RP w w.heap.size hd0 q0 ∧ Fit q0 ∧ Lens q0) (w1 : RT w (fun _ => True) ht1 t1 ∧ FitT t1 ∧ LenT t1) (w2 : (Lit.int .i64 a2).wf = true) :
    Calls Try.prog 5 #[.agg #[.slice hd0.fA q0.funcs.length hd0.fc, .int .i64 q0.mutexes, .slice hd0.cA q0.conds.length hd0.cc, .slice hd0.sA q0.semas.length hd0.sc, .slice hd0.hA q0.chans.length hd0.hc, .slice hd0.xA q0.choices.length hd0.xc, .int .i64 q0.threads], .agg #[.int .i64 t1.state, .int .i64 t1.on, .slice ht1.fA t1.frames.length ht1.fc, .slice ht1.sA t1.stack.length ht1.sc, .int .i64 t1.code], .int .i64 a2] w fun e w' => e = .returned (.bool true) ∧ Below w.heap.size w w' := by
  obtain ⟨hrp, hfit, hlen⟩ := w0
  obtain ⟨hrt, hfitT, hlenT⟩ := w1
  have hv2 := bounds_i64 w2
  have HR := Lib.hid hrp; have HF := Lib.hid hfit; have HL := Lib.hid hlen; have HT := Lib.hid hrt; have HFT := Lib.hid hfitT; have HLT := Lib.hid hlenT
  clear hrp hfit hlen hrt hfitT hlenT w2
  go_enter Try.func5, Try.ntmps5
  go_wp2_with fail
  refine (good_any hd0 q0 _ w.heap.size ((HR.out.alloc (Nat.le_refl _) _).alloc (by simp) _) (by simp; omega) HF.out).mono ?_
  rintro e w1 hm
  obtain ⟨hg, rfl, hrp, hb⟩ := hm.rp
  have hgl := good_lens q0
  have hgmay := good_may q0 HF.out
  have hgn := good_funcs_len q0
  have hgf := good_few q0
  have hgc := good_code_len q0
  clear hm
  generalize good q0 = g at *
  obtain ⟨fA, fc, cA, cc, sA, sc, hA, hc, xA, xc⟩ := hg
  simp only at hrp ⊢
  have HGMAY := Lib.hid hgmay
  clear hgmay
  have hb0 : Below w.heap.size w ((w.alloc (.cells #[.slice hd0.fA q0.funcs.length hd0.fc, .int .i64 q0.mutexes, .slice hd0.cA q0.conds.length hd0.cc, .slice hd0.sA q0.semas.length hd0.sc, .slice hd0.hA q0.chans.length hd0.hc, .slice hd0.xA q0.choices.length hd0.xc, .int .i64 q0.threads] 26)).alloc (.cells #[.int .i64 t1.state, .int .i64 t1.on, .slice ht1.fA t1.frames.length ht1.fc, .slice ht1.sA t1.stack.length ht1.sc, .int .i64 t1.code] 29)) := ((Below.refl _ _).alloc (Nat.le_refl _) _).alloc (by simp) _
  have hbk : Blk ((w.alloc (.cells #[.slice hd0.fA q0.funcs.length hd0.fc, .int .i64 q0.mutexes, .slice hd0.cA q0.conds.length hd0.cc, .slice hd0.sA q0.semas.length hd0.sc, .slice hd0.hA q0.chans.length hd0.hc, .slice hd0.xA q0.choices.length hd0.xc, .int .i64 q0.threads] 26)).alloc (.cells #[.int .i64 t1.state, .int .i64 t1.on, .slice ht1.fA t1.frames.length ht1.fc, .slice ht1.sA t1.stack.length ht1.sc, .int .i64 t1.code] 29)) (w.heap.size + 1) 29 #[.int .i64 t1.state, .int .i64 t1.on, .slice ht1.fA t1.frames.length ht1.fc, .slice ht1.sA t1.stack.length ht1.sc, .int .i64 t1.code] := by
    simpa using Blk.new (w.alloc (.cells #[.slice hd0.fA q0.funcs.length hd0.fc, .int .i64 q0.mutexes, .slice hd0.cA q0.conds.length hd0.cc, .slice hd0.sA q0.semas.length hd0.sc, .slice hd0.hA q0.chans.length hd0.hc, .slice hd0.xA q0.choices.length hd0.xc, .int .i64 q0.threads] 26)) 29 #[.int .i64 t1.state, .int .i64 t1.on, .slice ht1.fA t1.frames.length ht1.fc, .slice ht1.sA t1.stack.length ht1.sc, .int .i64 t1.code]
  have hbw1 : Below w.heap.size w w1 := hb0.trans (hb.mono (by simp; omega))
  have hbk1 := (hbk.below hb (by simp)).alloc (.cells #[.slice fA g.funcs.length fc, .int .i64 g.mutexes, .slice cA g.conds.length cc, .slice sA g.semas.length sc, .slice hA g.chans.length hc, .slice xA g.choices.length xc, .int .i64 g.threads] 26)
  have hT1 := HT.out.below (hbw1.alloc hbw1.size (.cells #[.slice fA g.funcs.length fc, .int .i64 g.mutexes, .slice cA g.conds.length cc, .slice sA g.semas.length sc, .slice hA g.chans.length hc, .slice xA g.choices.length xc, .int .i64 g.threads] 26))
  have z1 : w.heap.size + 2 ≤ w1.heap.size := by have := hb.size; simpa using this
  have hPB : PB w (w1.alloc (.cells #[.slice fA g.funcs.length fc, .int .i64 g.mutexes, .slice cA g.conds.length cc, .slice sA g.semas.length sc, .slice hA g.chans.length hc, .slice xA g.choices.length xc, .int .i64 g.threads] 26)) w1.heap.size w1.heap.size ⟨fA, fc, cA, cc, sA, sc, hA, hc, xA, xc⟩ g := ⟨Blk.new _ _ _, hrp.alloc (Nat.le_refl _) _, hbw1.alloc hbw1.size _, by simp⟩
  obtain ⟨gb, hgb⟩ : ∃ b, b = w1.heap.size := ⟨_, rfl⟩
  have HPB := Lib.hid hPB; have HB1 := Lib.hid hbk1; have HT1 := Lib.hid hT1; have HGL := Lib.hid hgl; have HGF := Lib.hid hgf; have HGC := Lib.hid hgc
  clear hrp hb hgl hgf hgc hb0 hbk hbw1 hbk1 hT1 hPB
  go_upto_region 2 with fail
  obtain ⟨W2, hW2⟩ : ∃ W, W = w1.alloc (.cells #[.slice fA g.funcs.length fc, .int .i64 g.mutexes, .slice cA g.conds.length cc, .slice sA g.semas.length sc, .slice hA g.chans.length hc, .slice xA g.choices.length xc, .int .i64 g.threads] 26) := ⟨_, rfl⟩
  rw [← hW2] at HPB HB1 HT1 ⊢
  rw [← hgb] at HPB ⊢
  clear hW2
  have p0 : W2.cell? ⟨gb, 0, none⟩ = some (.slice fA g.funcs.length fc) := (HPB.out.pb.cell 0).trans rfl
  have p1 : W2.cell? ⟨gb, 1, none⟩ = some (.int .i64 g.mutexes) := (HPB.out.pb.cell 1).trans rfl
  have p2 : W2.cell? ⟨gb, 2, none⟩ = some (.slice cA g.conds.length cc) := (HPB.out.pb.cell 2).trans rfl
  have p3 : W2.cell? ⟨gb, 3, none⟩ = some (.slice sA g.semas.length sc) := (HPB.out.pb.cell 3).trans rfl
  have p4 : W2.cell? ⟨gb, 4, none⟩ = some (.slice hA g.chans.length hc) := (HPB.out.pb.cell 4).trans rfl
  have p5 : W2.cell? ⟨gb, 5, none⟩ = some (.slice xA g.choices.length xc) := (HPB.out.pb.cell 5).trans rfl
  have p6 : W2.cell? ⟨gb, 6, none⟩ = some (.int .i64 g.threads) := (HPB.out.pb.cell 6).trans rfl
  have y0 : W2.cell? ⟨w.heap.size + 1, 0, none⟩ = some (.int .i64 t1.state) := (HB1.out.cell 0).trans rfl
  have y1 : W2.cell? ⟨w.heap.size + 1, 1, none⟩ = some (.int .i64 t1.on) := (HB1.out.cell 1).trans rfl
  have y2 : W2.cell? ⟨w.heap.size + 1, 2, none⟩ = some (.slice ht1.fA t1.frames.length ht1.fc) := (HB1.out.cell 2).trans rfl
  have y3 : W2.cell? ⟨w.heap.size + 1, 3, none⟩ = some (.slice ht1.sA t1.stack.length ht1.sc) := (HB1.out.cell 3).trans rfl
  have y4 : W2.cell? ⟨w.heap.size + 1, 4, none⟩ = some (.int .i64 t1.code) := (HB1.out.cell 4).trans rfl
  have zg := HPB.out.pb.lt
  clear hgb z1
  go_wp2_with fail
  refine (good4_any ⟨fA, fc, cA, cc, sA, sc, hA, hc, xA, xc⟩ g W2 gb HPB.out.rp HPB.out.hBP HGF.out HGL.out (fun f hf => by have := HGC.out f hf; omega) hgn.1 ht1 t1 _ HT1.out HFT.out HLT.out).mono ?_
  rintro e w3 ⟨ht, rfl, hrt3, hb3⟩
  have hmay := goodT_may HGF.out hgn.1 t1
  have hst : (goodT g t1).state = 0 := rfl
  generalize goodT g t1 = x at *
  obtain ⟨tA, tc, kA, kc⟩ := ht
  simp only at hrt3 ⊢
  have hTB := TB.new hrt3
  have hPB3 := (HPB.out.below hb3).below ((Below.refl _ _).alloc (Nat.le_refl _) (.cells #[.int .i64 x.state, .int .i64 x.on, .slice tA x.frames.length tc, .slice kA x.stack.length kc, .int .i64 x.code] 29))
  have hlx := lenT_may hmay
  obtain ⟨xb, hxb⟩ : ∃ b, b = w3.heap.size := ⟨_, rfl⟩
  have HTB := Lib.hid hTB; have HPB3 := Lib.hid hPB3; have HMAY := Lib.hid hmay; have HST := Lib.hid hst
  clear hTB hPB3 hmay hst hrt3 hb3 HPB p0 p1 p2 p3 p4 p5 p6 y0 y1 y2 y3 y4 zg HB1 HT1
  go_upto_region 3 with fail
  obtain ⟨W3, hW3⟩ : ∃ W, W = w3.alloc (.cells #[.int .i64 x.state, .int .i64 x.on, .slice tA x.frames.length tc, .slice kA x.stack.length kc, .int .i64 x.code] 29) := ⟨_, rfl⟩
  rw [← hW3] at HTB HPB3 ⊢
  rw [← hxb] at HTB ⊢
  clear hW3 hxb
  have hlt := lensT_may HGF.out HMAY.out
  have hne9 : x.state ≠ 9 := by rw [HST.out]; decide
  have HLX := Lib.hid hlx; have HLXT := Lib.hid hlt; have HNE := Lib.hid hne9
  clear hlx hlt hne9
  have x0 : W3.cell? ⟨xb, 0, none⟩ = some (.int .i64 x.state) := (HTB.out.tb.cell 0).trans rfl
  have x1 : W3.cell? ⟨xb, 1, none⟩ = some (.int .i64 x.on) := (HTB.out.tb.cell 1).trans rfl
  have x2 : W3.cell? ⟨xb, 2, none⟩ = some (.slice tA x.frames.length tc) := (HTB.out.tb.cell 2).trans rfl
  have x3 : W3.cell? ⟨xb, 3, none⟩ = some (.slice kA x.stack.length kc) := (HTB.out.tb.cell 3).trans rfl
  have x4 : W3.cell? ⟨xb, 4, none⟩ = some (.int .i64 x.code) := (HTB.out.tb.cell 4).trans rfl
  have zx := HTB.out.tb.lt
  obtain ⟨mo, hmo⟩ : ∃ m, m = min a2 200 := ⟨_, rfl⟩
  have hmo2 : mo ≤ 200 := by omega
  have hmin : ∀ W, (Builtin.min_ #[3, 3] 3 #[.int .i64 a2, .int .i64 200]).run Try.prog W = .ok (.int .i64 mo) W := by
    intro W
    rw [run_min_int2, hmo]
    simp only [Int.min_def]
    split <;> split <;> first | rfl | (congr 2; omega)
  have hgm := HGMAY.out
  have hgfew := mayB_few hgm
  have hrun := fun (X : World) (hX : Below W3.heap.size W3 X) => vrun_any ⟨fA, fc, cA, cc, sA, sc, hA, hc, xA, xc⟩ g ⟨tA, tc, kA, kc⟩ x (mo) X gb _ (rp_below HPB3.out.rp hX HPB3.out.hBP) (Nat.le_trans HPB3.out.hBP hX.size) (HTB.out.rt.below hX) hgm HGL.out HMAY.out HNE.out (by omega)
  have haf := run_after hgm (mo).toNat HMAY.out HNE.out
  obtain ⟨y, rq, nn, hrv⟩ : ∃ y rq nn, runV g (mo).toNat x = (y, rq, nn) := ⟨_, _, _, rfl⟩
  rw [hrv] at hrun haf
  simp only at hrun haf
  have hks : ∀ X, Below W3.heap.size W3 X → X.cell? ⟨gb, 0, none⟩ = some (.slice fA g.funcs.length fc) ∧ X.cell? ⟨gb, 1, none⟩ = some (.int .i64 g.mutexes) ∧ X.cell? ⟨gb, 2, none⟩ = some (.slice cA g.conds.length cc) ∧ X.cell? ⟨gb, 3, none⟩ = some (.slice sA g.semas.length sc) ∧ X.cell? ⟨gb, 4, none⟩ = some (.slice hA g.chans.length hc) ∧ X.cell? ⟨gb, 5, none⟩ = some (.slice xA g.choices.length xc) ∧ X.cell? ⟨gb, 6, none⟩ = some (.int .i64 g.threads) ∧ X.cell? ⟨xb, 0, none⟩ = some (.int .i64 x.state) ∧ X.cell? ⟨xb, 1, none⟩ = some (.int .i64 x.on) ∧ X.cell? ⟨xb, 2, none⟩ = some (.slice tA x.frames.length tc) ∧ X.cell? ⟨xb, 3, none⟩ = some (.slice kA x.stack.length kc) ∧ X.cell? ⟨xb, 4, none⟩ = some (.int .i64 x.code) := fun X hX => by
    have k0 := (HPB3.out.below hX).pb
    have k1 := (HTB.out.below hX).tb
    exact ⟨(k0.cell 0).trans rfl, (k0.cell 1).trans rfl, (k0.cell 2).trans rfl, (k0.cell 3).trans rfl, (k0.cell 4).trans rfl, (k0.cell 5).trans rfl, (k0.cell 6).trans rfl, (k1.cell 0).trans rfl, (k1.cell 1).trans rfl, (k1.cell 2).trans rfl, (k1.cell 3).trans rfl, (k1.cell 4).trans rfl⟩
  have HRUN := Lib.hid hrun; have HAF := Lib.hid haf; have HKS := Lib.hid hks; have HRV := Lib.hid hrv
  clear hrun haf hks hrv hgm hgfew x0 x1 x2 x3 x4
  obtain ⟨m0, m1, m2, m3, m4, m5, m6, n0, n1, n2, n3, n4⟩ := HKS.out W3 (Below.refl _ _)
  have hdoc : ∀ X, Below W3.heap.size W3 X → Calls Try.prog 21 #[.agg #[.slice fA g.funcs.length fc, .int .i64 g.mutexes, .slice cA g.conds.length cc, .slice sA g.semas.length sc, .slice hA g.chans.length hc, .slice xA g.choices.length xc, .int .i64 g.threads], .agg #[.int .i64 x.state, .int .i64 x.on, .slice tA x.frames.length tc, .slice kA x.stack.length kc, .int .i64 x.code], .int .i64 mo] X fun e w' => ∃ hx : TH, e = .returned (.tuple #[.agg #[.int .i64 y.state, .int .i64 y.on, .slice hx.fA y.frames.length hx.fc, .slice hx.sA y.stack.length hx.sc, .int .i64 y.code], .agg #[.int .i64 rq.kind, .int .i64 rq.a, .int .i64 rq.v], .int .i64 (nn : Int)]) ∧ RT w' (fun _ => True) hx y ∧ Below X.heap.size X w' := fun X hX => by
    have h0 := refRun5_any ⟨fA, fc, cA, cc, sA, sc, hA, hc, xA, xc⟩ g ⟨tA, tc, kA, kc⟩ x X gb _ (rp_below HPB3.out.rp hX HPB3.out.hBP) (Nat.le_trans HPB3.out.hBP hX.size) (HTB.out.rt.below hX) HGMAY.out HMAY.out HNE.out mo (by omega)
    rw [HRV.out] at h0
    exact h0.mono fun e w' ⟨hx, e1, e2, e3⟩ => ⟨hx, e1, e2.mono (fun _ _ _ => trivial), e3⟩
  have HDOC := Lib.hid hdoc
  have hyl : LensT y := by
    rcases HAF.out with ⟨c, hc, e1, e2⟩ | ⟨h1, h2, h3⟩
    · rw [e1]; exact dead_lens
    · exact lensT_may HGF.out h2
  have HYL := Lib.hid hyl
  clear hdoc hyl hmo hv2
  go_wp2_with fail
  refine (HRUN.out _ (Below.refl _ _)).mono ?_
  rintro e w4 ⟨⟨yA, yc, uA, uc⟩, rfl, hrt4, hb4⟩
  try simp only at hrt4
  obtain ⟨yb, hyb⟩ : ∃ b, b = w4.heap.size := ⟨_, rfl⟩
  obtain ⟨W5, hW5⟩ : ∃ W, W = (w4.alloc (.cells #[.int .i64 y.state, .int .i64 y.on, .slice yA y.frames.length yc, .slice uA y.stack.length uc, .int .i64 y.code] 29)).alloc (.cells #[.int .i64 rq.kind, .int .i64 rq.a, .int .i64 rq.v] 34) := ⟨_, rfl⟩
  have ha5 : Below w4.heap.size w4 W5 := by rw [hW5]; exact ((Below.refl _ _).alloc (Nat.le_refl _) _).alloc (by simp) _
  have ky : Blk W5 yb 29 #[.int .i64 y.state, .int .i64 y.on, .slice yA y.frames.length yc, .slice uA y.stack.length uc, .int .i64 y.code] := by rw [hW5, hyb]; exact (Blk.new _ _ _).alloc _
  have kq : Blk W5 (yb + 1) 34 #[.int .i64 rq.kind, .int .i64 rq.a, .int .i64 rq.v] := by rw [hW5, hyb]; simpa using Blk.new (w4.alloc (.cells #[.int .i64 y.state, .int .i64 y.on, .slice yA y.frames.length yc, .slice uA y.stack.length uc, .int .i64 y.code] 29)) 34 #[.int .i64 rq.kind, .int .i64 rq.a, .int .i64 rq.v]
  have hb35 := hb4.trans (ha5.mono hb4.size)
  have hy5 := hrt4.below ha5
  have HB35 := Lib.hid hb35; have HY5 := Lib.hid hy5; have KY := Lib.hid ky; have KQ := Lib.hid kq; have HYB := Lib.hid hyb; have HW5 := Lib.hid hW5
  clear hrt4 hb4 hyb hW5 ha5 ky kq hb35 hy5 HRUN m0 m1 m2 m3 m4 m5 m6 n0 n1 n2 n3 n4
  go_upto_region 5 with fail
  rw [← HW5.out, ← HYB.out]
  clear HW5 HYB
  obtain ⟨m0, m1, m2, m3, m4, m5, m6, n0, n1, n2, n3, n4⟩ := HKS.out W5 HB35.out
  go_wp2_with fail
  refine (HDOC.out _ HB35.out).mono ?_
  rintro e w6 ⟨⟨zA, zc, vA, vc⟩, rfl, hrt6, hb6⟩
  try simp only at hrt6
  obtain ⟨zb, hzb⟩ : ∃ b, b = w6.heap.size := ⟨_, rfl⟩
  obtain ⟨W7, hW7⟩ : ∃ W, W = (w6.alloc (.cells #[.int .i64 y.state, .int .i64 y.on, .slice zA y.frames.length zc, .slice vA y.stack.length vc, .int .i64 y.code] 29)).alloc (.cells #[.int .i64 rq.kind, .int .i64 rq.a, .int .i64 rq.v] 37) := ⟨_, rfl⟩
  have ha7 : Below w6.heap.size w6 W7 := by rw [hW7]; exact ((Below.refl _ _).alloc (Nat.le_refl _) _).alloc (by simp) _
  have kz : Blk W7 zb 29 #[.int .i64 y.state, .int .i64 y.on, .slice zA y.frames.length zc, .slice vA y.stack.length vc, .int .i64 y.code] := by rw [hW7, hzb]; exact (Blk.new _ _ _).alloc _
  have kr : Blk W7 (zb + 1) 37 #[.int .i64 rq.kind, .int .i64 rq.a, .int .i64 rq.v] := by rw [hW7, hzb]; simpa using Blk.new (w6.alloc (.cells #[.int .i64 y.state, .int .i64 y.on, .slice zA y.frames.length zc, .slice vA y.stack.length vc, .int .i64 y.code] 29)) 37 #[.int .i64 rq.kind, .int .i64 rq.a, .int .i64 rq.v]
  have hb57 := hb6.trans (ha7.mono hb6.size)
  have hz7 := hrt6.below ha7
  have ky7 := KY.out.below hb57 KY.out.lt
  have kq7 := KQ.out.below hb57 KQ.out.lt
  have hy7 := HY5.out.below hb57
  have hbw := HPB3.out.bel.trans ((HB35.out.trans (hb57.mono HB35.out.size)).mono HPB3.out.bel.size)
  have hke : ∀ W' w4, Below W7.heap.size W7 W' → Below W'.heap.size W' w4 → Hid (Below W7.heap.size W7 w4) ∧ (w4.cell? ⟨yb, 0, none⟩ = some (.int .i64 y.state) ∧ w4.cell? ⟨yb, 1, none⟩ = some (.int .i64 y.on) ∧ w4.cell? ⟨yb, 2, none⟩ = some (.slice yA y.frames.length yc) ∧ w4.cell? ⟨yb, 3, none⟩ = some (.slice uA y.stack.length uc) ∧ w4.cell? ⟨yb, 4, none⟩ = some (.int .i64 y.code) ∧ w4.cell? ⟨yb + 1, 0, none⟩ = some (.int .i64 rq.kind) ∧ w4.cell? ⟨yb + 1, 1, none⟩ = some (.int .i64 rq.a) ∧ w4.cell? ⟨yb + 1, 2, none⟩ = some (.int .i64 rq.v) ∧ w4.cell? ⟨zb, 0, none⟩ = some (.int .i64 y.state) ∧ w4.cell? ⟨zb, 1, none⟩ = some (.int .i64 y.on) ∧ w4.cell? ⟨zb, 2, none⟩ = some (.slice zA y.frames.length zc) ∧ w4.cell? ⟨zb, 3, none⟩ = some (.slice vA y.stack.length vc) ∧ w4.cell? ⟨zb, 4, none⟩ = some (.int .i64 y.code) ∧ w4.cell? ⟨zb + 1, 0, none⟩ = some (.int .i64 rq.kind) ∧ w4.cell? ⟨zb + 1, 1, none⟩ = some (.int .i64 rq.a) ∧ w4.cell? ⟨zb + 1, 2, none⟩ = some (.int .i64 rq.v)) := fun W' w4 h1 h2 => by
    have hb := h1.trans (h2.mono h1.size)
    have k0 := ky7.below hb ky7.lt
    have k1 := kq7.below hb kq7.lt
    have k2 := kz.below hb kz.lt
    have k3 := kr.below hb kr.lt
    exact ⟨Lib.hid hb, (k0.cell 0).trans rfl, (k0.cell 1).trans rfl, (k0.cell 2).trans rfl, (k0.cell 3).trans rfl, (k0.cell 4).trans rfl, (k1.cell 0).trans rfl, (k1.cell 1).trans rfl, (k1.cell 2).trans rfl, (k2.cell 0).trans rfl, (k2.cell 1).trans rfl, (k2.cell 2).trans rfl, (k2.cell 3).trans rfl, (k2.cell 4).trans rfl, (k3.cell 0).trans rfl, (k3.cell 1).trans rfl, (k3.cell 2).trans rfl⟩
  have hc1 : ∀ W', Below W7.heap.size W7 W' → Calls Try.prog 15 #[.agg #[.int .i64 y.state, .int .i64 y.on, .slice yA y.frames.length yc, .slice uA y.stack.length uc, .int .i64 y.code], .agg #[.int .i64 y.state, .int .i64 y.on, .slice zA y.frames.length zc, .slice vA y.stack.length vc, .int .i64 y.code]] W' fun e w4 => e = .returned (.bool true) ∧ Hid (Below W7.heap.size W7 w4) ∧ (w4.cell? ⟨yb, 0, none⟩ = some (.int .i64 y.state) ∧ w4.cell? ⟨yb, 1, none⟩ = some (.int .i64 y.on) ∧ w4.cell? ⟨yb, 2, none⟩ = some (.slice yA y.frames.length yc) ∧ w4.cell? ⟨yb, 3, none⟩ = some (.slice uA y.stack.length uc) ∧ w4.cell? ⟨yb, 4, none⟩ = some (.int .i64 y.code) ∧ w4.cell? ⟨yb + 1, 0, none⟩ = some (.int .i64 rq.kind) ∧ w4.cell? ⟨yb + 1, 1, none⟩ = some (.int .i64 rq.a) ∧ w4.cell? ⟨yb + 1, 2, none⟩ = some (.int .i64 rq.v) ∧ w4.cell? ⟨zb, 0, none⟩ = some (.int .i64 y.state) ∧ w4.cell? ⟨zb, 1, none⟩ = some (.int .i64 y.on) ∧ w4.cell? ⟨zb, 2, none⟩ = some (.slice zA y.frames.length zc) ∧ w4.cell? ⟨zb, 3, none⟩ = some (.slice vA y.stack.length vc) ∧ w4.cell? ⟨zb, 4, none⟩ = some (.int .i64 y.code) ∧ w4.cell? ⟨zb + 1, 0, none⟩ = some (.int .i64 rq.kind) ∧ w4.cell? ⟨zb + 1, 1, none⟩ = some (.int .i64 rq.a) ∧ w4.cell? ⟨zb + 1, 2, none⟩ = some (.int .i64 rq.v)) := fun W' hb =>
    (refSame_yes ⟨yA, yc, uA, uc⟩ ⟨zA, zc, vA, vc⟩ y W' _ _ (hy7.below hb) (hz7.below hb) HYL.out).mono fun e w4 hq => ⟨hq.1, hke W' w4 hb hq.2⟩
  have hc2 : ∀ W', Below W7.heap.size W7 W' → Calls Try.prog 16 #[.agg #[.int .i64 rq.kind, .int .i64 rq.a, .int .i64 rq.v]] W' fun e w4 => e = .returned (.agg #[.int .i64 rq.kind, .int .i64 rq.a, .int .i64 rq.v]) ∧ Hid (Below W7.heap.size W7 w4) ∧ (w4.cell? ⟨yb, 0, none⟩ = some (.int .i64 y.state) ∧ w4.cell? ⟨yb, 1, none⟩ = some (.int .i64 y.on) ∧ w4.cell? ⟨yb, 2, none⟩ = some (.slice yA y.frames.length yc) ∧ w4.cell? ⟨yb, 3, none⟩ = some (.slice uA y.stack.length uc) ∧ w4.cell? ⟨yb, 4, none⟩ = some (.int .i64 y.code) ∧ w4.cell? ⟨yb + 1, 0, none⟩ = some (.int .i64 rq.kind) ∧ w4.cell? ⟨yb + 1, 1, none⟩ = some (.int .i64 rq.a) ∧ w4.cell? ⟨yb + 1, 2, none⟩ = some (.int .i64 rq.v) ∧ w4.cell? ⟨zb, 0, none⟩ = some (.int .i64 y.state) ∧ w4.cell? ⟨zb, 1, none⟩ = some (.int .i64 y.on) ∧ w4.cell? ⟨zb, 2, none⟩ = some (.slice zA y.frames.length zc) ∧ w4.cell? ⟨zb, 3, none⟩ = some (.slice vA y.stack.length vc) ∧ w4.cell? ⟨zb, 4, none⟩ = some (.int .i64 y.code) ∧ w4.cell? ⟨zb + 1, 0, none⟩ = some (.int .i64 rq.kind) ∧ w4.cell? ⟨zb + 1, 1, none⟩ = some (.int .i64 rq.a) ∧ w4.cell? ⟨zb + 1, 2, none⟩ = some (.int .i64 rq.v)) := fun W' hb =>
    (as_any5 _ _ _ W').mono fun e w4 hq => ⟨hq.1, hke W' w4 hb hq.2⟩
  have hc3 : ∀ W', Below W7.heap.size W7 W' → Calls Try.prog 17 #[] W' fun e w4 => e = .returned (.bool true) ∧ Hid (Below W7.heap.size W7 w4) ∧ (w4.cell? ⟨yb, 0, none⟩ = some (.int .i64 y.state) ∧ w4.cell? ⟨yb, 1, none⟩ = some (.int .i64 y.on) ∧ w4.cell? ⟨yb, 2, none⟩ = some (.slice yA y.frames.length yc) ∧ w4.cell? ⟨yb, 3, none⟩ = some (.slice uA y.stack.length uc) ∧ w4.cell? ⟨yb, 4, none⟩ = some (.int .i64 y.code) ∧ w4.cell? ⟨yb + 1, 0, none⟩ = some (.int .i64 rq.kind) ∧ w4.cell? ⟨yb + 1, 1, none⟩ = some (.int .i64 rq.a) ∧ w4.cell? ⟨yb + 1, 2, none⟩ = some (.int .i64 rq.v) ∧ w4.cell? ⟨zb, 0, none⟩ = some (.int .i64 y.state) ∧ w4.cell? ⟨zb, 1, none⟩ = some (.int .i64 y.on) ∧ w4.cell? ⟨zb, 2, none⟩ = some (.slice zA y.frames.length zc) ∧ w4.cell? ⟨zb, 3, none⟩ = some (.slice vA y.stack.length vc) ∧ w4.cell? ⟨zb, 4, none⟩ = some (.int .i64 y.code) ∧ w4.cell? ⟨zb + 1, 0, none⟩ = some (.int .i64 rq.kind) ∧ w4.cell? ⟨zb + 1, 1, none⟩ = some (.int .i64 rq.a) ∧ w4.cell? ⟨zb + 1, 2, none⟩ = some (.int .i64 rq.v)) := fun W' hb =>
    (vlives_any W').mono fun e w4 hq => ⟨hq.1, hke W' w4 hb hq.2⟩
  have h16 := hke W7 W7 (Below.refl _ _) (Below.refl _ _)
  have HC1 := Lib.hid hc1; have HC2 := Lib.hid hc2; have HC3 := Lib.hid hc3; have HBW := Lib.hid hbw; have HW7 := Lib.hid hW7; have HZB := Lib.hid hzb
  have HBA := Lib.hid (Below.refl W7.heap.size W7)
  have G0 := Lib.hid h16.2
  clear hc1 hc2 hc3 hke h16 hbw hW7 hzb ha7 kz kr hb57 hz7 ky7 kq7 hy7 hrt6 hb6 HDOC HY5 KY KQ HKS HAF m0 m1 m2 m3 m4 m5 m6 n0 n1 n2 n3 n4
  go_upto_region 6 with fail
  rw [← HW7.out, ← HZB.out]
  clear HW7 HZB
  obtain ⟨y0, y1, y2, y3, y4, q0, q1, q2, z0, z1, z2, z3, z4, r0, r1, r2⟩ := G0.out
  go_region_held3 (fun w' => w'.cell? ⟨yb, 0, none⟩ = some (.int .i64 y.state) ∧ w'.cell? ⟨yb, 1, none⟩ = some (.int .i64 y.on) ∧ w'.cell? ⟨yb, 2, none⟩ = some (.slice yA y.frames.length yc) ∧ w'.cell? ⟨yb, 3, none⟩ = some (.slice uA y.stack.length uc) ∧ w'.cell? ⟨yb, 4, none⟩ = some (.int .i64 y.code) ∧ w'.cell? ⟨yb + 1, 0, none⟩ = some (.int .i64 rq.kind) ∧ w'.cell? ⟨yb + 1, 1, none⟩ = some (.int .i64 rq.a) ∧ w'.cell? ⟨yb + 1, 2, none⟩ = some (.int .i64 rq.v) ∧ w'.cell? ⟨zb, 0, none⟩ = some (.int .i64 y.state) ∧ w'.cell? ⟨zb, 1, none⟩ = some (.int .i64 y.on) ∧ w'.cell? ⟨zb, 2, none⟩ = some (.slice zA y.frames.length zc) ∧ w'.cell? ⟨zb, 3, none⟩ = some (.slice vA y.stack.length vc) ∧ w'.cell? ⟨zb, 4, none⟩ = some (.int .i64 y.code) ∧ w'.cell? ⟨zb + 1, 0, none⟩ = some (.int .i64 rq.kind) ∧ w'.cell? ⟨zb + 1, 1, none⟩ = some (.int .i64 rq.a) ∧ w'.cell? ⟨zb + 1, 2, none⟩ = some (.int .i64 rq.v))
    (first | with_reducible exact G3 | with_reducible exact ⟨y0, y1, y2, y3, y4, q0, q1, q2, z0, z1, z2, z3, z4, r0, r1, r2⟩ | go_keep)
    (first
      | (go_at_call 15; (with_reducible refine (HC1.out _ (by first | with_reducible exact HBA.out | with_reducible exact HBA.out.drew | with_reducible exact Below.refl _ _ | exact (Below.refl _ _).drew)).mono ?_); (rintro e w4 ⟨rfl, HBA, G3⟩))
      | (go_at_call 16; (with_reducible refine (HC2.out _ (by first | with_reducible exact HBA.out | with_reducible exact HBA.out.drew | with_reducible exact Below.refl _ _ | exact (Below.refl _ _).drew)).mono ?_); (rintro e w4 ⟨rfl, HBA, G3⟩))
      | (go_at_call 17; (with_reducible refine (HC3.out _ (by first | with_reducible exact HBA.out | with_reducible exact HBA.out.drew | with_reducible exact Below.refl _ _ | exact (Below.refl _ _).drew)).mono ?_); (rintro e w4 ⟨rfl, HBA, G3⟩))
      | fail)
  all_goals
    go_wp2_with fail
    go_ret
    exact ⟨rfl, HBW.out.trans (HBA.out.mono HBW.out.size)⟩
end Go.Proofs.Ytkciedcfphhenaa.vmRuns
