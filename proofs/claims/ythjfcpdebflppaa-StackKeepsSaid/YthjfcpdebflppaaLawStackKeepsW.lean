/-
  The walk of StackKeeps.
-/
import Derived.Test.YthjfcpdebflppaaRows
import Derived.WalkKit
import Derived.ProofKit
import Derived.OpenShut
import Derived.ShutString
import Derived.ChangeOld
import Derived.Below
import Derived.Test.YthjfcpdebflppaaDoesC
import Derived.Test.YthjfcpdebflppaaSBox
import Derived.Test.YthjfcpdebflppaaPrOpen
import Derived.Test.YthjfcpdebflppaaThrOpen
import Derived.Test.YthjfcpdebflppaaDeedOpen
namespace Go.Proofs.Ythjfcpdebflppaa.stackKeeps
open Go.ChangeShapes Go.WideShapes Go.ChangeAt Go.RowKit Go.Proofs.Ythjfcpdebflppaa Go.Proofs.Ythjfcpdebflppaa.Plain
open Go.ChangeMaps (open_string shut_string)
set_option linter.unusedVariables false


set_option maxRecDepth 100000 in
set_option maxHeartbeats 40000000 in
theorem walk (hd0 : PH) (q0 : PV) (ht1 : TH) (t1 : TV) (x2 y2 z2 : Int) (x3 y3 z3 : Int) (w : World) (w0 : RP w w.heap.size hd0 q0 ∧ Fit q0 ∧ Lens q0) (w1 : RT w (fun _ => True) ht1 t1 ∧ FitT t1 ∧ LenT t1) (w2 : (-9223372036854775808 ≤ x2 ∧ x2 ≤ 9223372036854775807) ∧ (-9223372036854775808 ≤ y2 ∧ y2 ≤ 9223372036854775807) ∧ (-9223372036854775808 ≤ z2 ∧ z2 ≤ 9223372036854775807)) (w3 : (-9223372036854775808 ≤ x3 ∧ x3 ≤ 9223372036854775807) ∧ (-9223372036854775808 ≤ y3 ∧ y3 ≤ 9223372036854775807) ∧ (-9223372036854775808 ≤ z3 ∧ z3 ≤ 9223372036854775807)) :
    Calls Try.prog 8 #[.agg #[.slice hd0.fA q0.funcs.length hd0.fc, .int .i64 q0.mutexes, .slice hd0.cA q0.conds.length hd0.cc, .slice hd0.sA q0.semas.length hd0.sc, .slice hd0.hA q0.chans.length hd0.hc, .slice hd0.xA q0.choices.length hd0.xc, .int .i64 q0.threads], .agg #[.int .i64 t1.state, .int .i64 t1.on, .slice ht1.fA t1.frames.length ht1.fc, .slice ht1.sA t1.stack.length ht1.sc, .int .i64 t1.code], .agg #[.int .i64 x2, .int .i64 y2, .int .i64 z2], .agg #[.int .i64 x3, .int .i64 y3, .int .i64 z3]] w fun e w' => e = .returned (.bool true) ∧ Below w.heap.size w w' := by
  obtain ⟨hrp, hfit, hlen⟩ := w0
  obtain ⟨hrt, hfitT, hlenT⟩ := w1
  obtain ⟨hv2, hw2, hi2⟩ := w2
  obtain ⟨hv3, hw3, hi3⟩ := w3
  have HR := Lib.hid hrp; have HF := Lib.hid hfit; have HL := Lib.hid hlen; have HT := Lib.hid hrt; have HFT := Lib.hid hfitT; have HLT := Lib.hid hlenT
  have HV := Lib.hid (And.intro (And.intro hv2 (And.intro hw2 hi2)) (And.intro hv3 (And.intro hw3 hi3)))
  clear hrp hfit hlen hrt hfitT hlenT hv2 hw2 hi2 hv3 hw3 hi3
  go_enter Try.func8, Try.ntmps8
  go_upto_region 1 with fail
  obtain ⟨W0, hW0⟩ : ∃ W, W = ((((w.alloc (.cells #[.slice hd0.fA q0.funcs.length hd0.fc, .int .i64 q0.mutexes, .slice hd0.cA q0.conds.length hd0.cc, .slice hd0.sA q0.semas.length hd0.sc, .slice hd0.hA q0.chans.length hd0.hc, .slice hd0.xA q0.choices.length hd0.xc, .int .i64 q0.threads] 26)).alloc (.cells #[.int .i64 t1.state, .int .i64 t1.on, .slice ht1.fA t1.frames.length ht1.fc, .slice ht1.sA t1.stack.length ht1.sc, .int .i64 t1.code] 51)).alloc (.cells #[.int .i64 x2, .int .i64 y2, .int .i64 z2] 53)).alloc (.cells #[.int .i64 x3, .int .i64 y3, .int .i64 z3] 53)) := ⟨_, rfl⟩
  have hb0 : Below w.heap.size w W0 := by rw [hW0]; exact ((((Below.refl w.heap.size w).alloc (Nat.le_refl _) _).alloc (by simp) _).alloc (by simp; omega) _).alloc (by simp; omega) _
  have hbp : Blk W0 w.heap.size 26 #[.slice hd0.fA q0.funcs.length hd0.fc, .int .i64 q0.mutexes, .slice hd0.cA q0.conds.length hd0.cc, .slice hd0.sA q0.semas.length hd0.sc, .slice hd0.hA q0.chans.length hd0.hc, .slice hd0.xA q0.choices.length hd0.xc, .int .i64 q0.threads] := by rw [hW0]; exact (((Blk.new w _ _).alloc _).alloc _).alloc _
  have hbt : Blk W0 (w.heap.size + 1) 51 #[.int .i64 t1.state, .int .i64 t1.on, .slice ht1.fA t1.frames.length ht1.fc, .slice ht1.sA t1.stack.length ht1.sc, .int .i64 t1.code] := by
    rw [hW0]; refine ((?_ : Blk _ _ _ _).alloc _).alloc _
    simpa using Blk.new (w.alloc (.cells #[.slice hd0.fA q0.funcs.length hd0.fc, .int .i64 q0.mutexes, .slice hd0.cA q0.conds.length hd0.cc, .slice hd0.sA q0.semas.length hd0.sc, .slice hd0.hA q0.chans.length hd0.hc, .slice hd0.xA q0.choices.length hd0.xc, .int .i64 q0.threads] 26)) 51 #[.int .i64 t1.state, .int .i64 t1.on, .slice ht1.fA t1.frames.length ht1.fc, .slice ht1.sA t1.stack.length ht1.sc, .int .i64 t1.code]
  have hbd : Blk W0 (w.heap.size + 1 + 1) 53 #[.int .i64 x2, .int .i64 y2, .int .i64 z2] := by
    rw [hW0]; refine (?_ : Blk _ _ _ _).alloc _
    simpa using Blk.new ((w.alloc (.cells #[.slice hd0.fA q0.funcs.length hd0.fc, .int .i64 q0.mutexes, .slice hd0.cA q0.conds.length hd0.cc, .slice hd0.sA q0.semas.length hd0.sc, .slice hd0.hA q0.chans.length hd0.hc, .slice hd0.xA q0.choices.length hd0.xc, .int .i64 q0.threads] 26)).alloc (.cells #[.int .i64 t1.state, .int .i64 t1.on, .slice ht1.fA t1.frames.length ht1.fc, .slice ht1.sA t1.stack.length ht1.sc, .int .i64 t1.code] 51)) 53 #[.int .i64 x2, .int .i64 y2, .int .i64 z2]
  have hbe : Blk W0 (w.heap.size + 1 + 1 + 1) 53 #[.int .i64 x3, .int .i64 y3, .int .i64 z3] := by
    rw [hW0]
    simpa using Blk.new (((w.alloc (.cells #[.slice hd0.fA q0.funcs.length hd0.fc, .int .i64 q0.mutexes, .slice hd0.cA q0.conds.length hd0.cc, .slice hd0.sA q0.semas.length hd0.sc, .slice hd0.hA q0.chans.length hd0.hc, .slice hd0.xA q0.choices.length hd0.xc, .int .i64 q0.threads] 26)).alloc (.cells #[.int .i64 t1.state, .int .i64 t1.on, .slice ht1.fA t1.frames.length ht1.fc, .slice ht1.sA t1.stack.length ht1.sc, .int .i64 t1.code] 51)).alloc (.cells #[.int .i64 x2, .int .i64 y2, .int .i64 z2] 53)) 53 #[.int .i64 x3, .int .i64 y3, .int .i64 z3]
  have hRP := HR.out.below hb0
  have hRT := HT.out.below hb0
  rw [← hW0]
  have HB0 := Lib.hid hb0; have HBT := Lib.hid hbt; have HBD := Lib.hid hbd; have HBE := Lib.hid hbe; have HRP := Lib.hid hRP; have HRT := Lib.hid hRT
  have zp : w.heap.size < W0.heap.size := hbp.lt
  have p0 : W0.cell? ⟨w.heap.size, 0, none⟩ = some (.slice hd0.fA q0.funcs.length hd0.fc) := (hbp.cell 0).trans rfl
  have p1 : W0.cell? ⟨w.heap.size, 1, none⟩ = some (.int .i64 q0.mutexes) := (hbp.cell 1).trans rfl
  have p2 : W0.cell? ⟨w.heap.size, 2, none⟩ = some (.slice hd0.cA q0.conds.length hd0.cc) := (hbp.cell 2).trans rfl
  have p3 : W0.cell? ⟨w.heap.size, 3, none⟩ = some (.slice hd0.sA q0.semas.length hd0.sc) := (hbp.cell 3).trans rfl
  have p4 : W0.cell? ⟨w.heap.size, 4, none⟩ = some (.slice hd0.hA q0.chans.length hd0.hc) := (hbp.cell 4).trans rfl
  have p5 : W0.cell? ⟨w.heap.size, 5, none⟩ = some (.slice hd0.xA q0.choices.length hd0.xc) := (hbp.cell 5).trans rfl
  have p6 : W0.cell? ⟨w.heap.size, 6, none⟩ = some (.int .i64 q0.threads) := (hbp.cell 6).trans rfl
  clear hW0 hb0 hbp hbt hbd hbe hRP hRT HR HT
  go_wp2_with fail
  refine (good_any hd0 q0 _ w.heap.size HRP.out HB0.out.size HF.out).mono ?_
  rintro e w1 hm
  obtain ⟨hg, rfl, hrp, hb⟩ := hm.rp
  have hgl := good_lens q0
  have hgn := good_funcs_len q0
  have hgf := good_few q0
  have hgc := good_code_len q0
  clear hm
  generalize good q0 = g at *
  obtain ⟨fA, fc, cA, cc, sA, sc, hA, hc, xA, xc⟩ := hg
  simp only at hrp ⊢
  have hal : Below w1.heap.size w1 (w1.alloc (.cells #[.slice fA g.funcs.length fc, .int .i64 g.mutexes, .slice cA g.conds.length cc, .slice sA g.semas.length sc, .slice hA g.chans.length hc, .slice xA g.choices.length xc, .int .i64 g.threads] 26)) := (Below.refl _ _).alloc (Nat.le_refl _) _
  have hbw := hb.trans (hal.mono hb.size)
  have hPB : PB w (w1.alloc (.cells #[.slice fA g.funcs.length fc, .int .i64 g.mutexes, .slice cA g.conds.length cc, .slice sA g.semas.length sc, .slice hA g.chans.length hc, .slice xA g.choices.length xc, .int .i64 g.threads] 26)) w1.heap.size w1.heap.size ⟨fA, fc, cA, cc, sA, sc, hA, hc, xA, xc⟩ g := ⟨Blk.new _ _ _, hrp.alloc (Nat.le_refl _) _, HB0.out.trans (hbw.mono HB0.out.size), by simp⟩
  have hbt := HBT.out.below hbw HBT.out.lt
  have hbd := HBD.out.below hbw HBD.out.lt
  have hbe := HBE.out.below hbw HBE.out.lt
  have hRT := HRT.out.below hbw
  obtain ⟨gb, hgb⟩ : ∃ b, b = w1.heap.size := ⟨_, rfl⟩
  have HPB := Lib.hid hPB; have HGL := Lib.hid hgl; have HGF := Lib.hid hgf; have HGC := Lib.hid hgc; have HGN := Lib.hid hgn; have MT := Lib.hid hbt; have MD := Lib.hid hbd; have ME := Lib.hid hbe; have MR := Lib.hid hRT
  clear hrp hb hgl hgf hgc hgn hal hbw hPB hbt hbd hbe hRT HBT HBD HBE HRT HRP HB0 zp p0 p1 p2 p3 p4 p5 p6
  go_upto_region 2 with fail
  obtain ⟨W2, hW2⟩ : ∃ W, W = w1.alloc (.cells #[.slice fA g.funcs.length fc, .int .i64 g.mutexes, .slice cA g.conds.length cc, .slice sA g.semas.length sc, .slice hA g.chans.length hc, .slice xA g.choices.length xc, .int .i64 g.threads] 26) := ⟨_, rfl⟩
  rw [← hW2] at HPB MT MD ME MR ⊢
  rw [← hgb] at HPB ⊢
  clear hW2 hgb
  have g0 : W2.cell? ⟨gb, 0, none⟩ = some (.slice fA g.funcs.length fc) := (HPB.out.pb.cell 0).trans rfl
  have g1 : W2.cell? ⟨gb, 1, none⟩ = some (.int .i64 g.mutexes) := (HPB.out.pb.cell 1).trans rfl
  have g2 : W2.cell? ⟨gb, 2, none⟩ = some (.slice cA g.conds.length cc) := (HPB.out.pb.cell 2).trans rfl
  have g3 : W2.cell? ⟨gb, 3, none⟩ = some (.slice sA g.semas.length sc) := (HPB.out.pb.cell 3).trans rfl
  have g4 : W2.cell? ⟨gb, 4, none⟩ = some (.slice hA g.chans.length hc) := (HPB.out.pb.cell 4).trans rfl
  have g5 : W2.cell? ⟨gb, 5, none⟩ = some (.slice xA g.choices.length xc) := (HPB.out.pb.cell 5).trans rfl
  have g6 : W2.cell? ⟨gb, 6, none⟩ = some (.int .i64 g.threads) := (HPB.out.pb.cell 6).trans rfl
  have yt0 : W2.cell? ⟨w.heap.size + 1, 0, none⟩ = some (.int .i64 t1.state) := (MT.out.cell 0).trans rfl
  have yt1 : W2.cell? ⟨w.heap.size + 1, 1, none⟩ = some (.int .i64 t1.on) := (MT.out.cell 1).trans rfl
  have yt2 : W2.cell? ⟨w.heap.size + 1, 2, none⟩ = some (.slice ht1.fA t1.frames.length ht1.fc) := (MT.out.cell 2).trans rfl
  have yt3 : W2.cell? ⟨w.heap.size + 1, 3, none⟩ = some (.slice ht1.sA t1.stack.length ht1.sc) := (MT.out.cell 3).trans rfl
  have yt4 : W2.cell? ⟨w.heap.size + 1, 4, none⟩ = some (.int .i64 t1.code) := (MT.out.cell 4).trans rfl
  have zg := HPB.out.pb.lt
  have zt := MT.out.lt
  go_wp2_with fail
  refine (good4_any ⟨fA, fc, cA, cc, sA, sc, hA, hc, xA, xc⟩ g W2 gb HPB.out.rp HPB.out.hBP HGF.out HGL.out (fun f hf => by have := HGC.out f hf; omega) HGN.out.1 ht1 t1 _ MR.out HFT.out HLT.out).mono ?_
  rintro e w3 ⟨ht, rfl, hrt3, hb3⟩
  have hmay := goodT_may HGF.out HGN.out.1 t1
  have hst : (goodT g t1).state = 0 := rfl
  generalize goodT g t1 = x at *
  obtain ⟨ax, cx, sx, dx⟩ := ht
  simp only at hrt3 ⊢
  have hTB := TB.new hrt3
  have hal : Below w3.heap.size w3 (w3.alloc (.cells #[.int .i64 x.state, .int .i64 x.on, .slice ax x.frames.length cx, .slice sx x.stack.length dx, .int .i64 x.code] 51)) := (Below.refl _ _).alloc (Nat.le_refl _) _
  have hbw := hb3.trans (hal.mono hb3.size)
  have hPB3 := HPB.out.below hbw
  have hbd := MD.out.below hbw MD.out.lt
  have hbe := ME.out.below hbw ME.out.lt
  have hne : x.state ≠ 9 := by rw [hst]; decide
  obtain ⟨xb, hxb⟩ : ∃ b, b = w3.heap.size := ⟨_, rfl⟩
  have HTB := Lib.hid hTB; have HMAY := Lib.hid hmay; have HNE := Lib.hid hne; have GP := Lib.hid hPB3; have HLX := Lib.hid (lensT_may HGF.out hmay); have ND := Lib.hid hbd; have NE := Lib.hid hbe
  clear hTB hmay hst hne hrt3 hb3 hal hbw hPB3 hbd hbe zg zt g0 g1 g2 g3 g4 g5 g6 yt0 yt1 yt2 yt3 yt4 HPB MT MD ME MR
  go_upto_region 3 with fail
  obtain ⟨W3, hW3⟩ : ∃ W, W = w3.alloc (.cells #[.int .i64 x.state, .int .i64 x.on, .slice ax x.frames.length cx, .slice sx x.stack.length dx, .int .i64 x.code] 51) := ⟨_, rfl⟩
  rw [← hW3] at HTB GP ND NE ⊢
  rw [← hxb] at HTB ⊢
  clear hW3 hxb
  have x0 : W3.cell? ⟨xb, 0, none⟩ = some (.int .i64 x.state) := (HTB.out.tb.cell 0).trans rfl
  have x1 : W3.cell? ⟨xb, 1, none⟩ = some (.int .i64 x.on) := (HTB.out.tb.cell 1).trans rfl
  have x2 : W3.cell? ⟨xb, 2, none⟩ = some (.slice ax x.frames.length cx) := (HTB.out.tb.cell 2).trans rfl
  have x3 : W3.cell? ⟨xb, 3, none⟩ = some (.slice sx x.stack.length dx) := (HTB.out.tb.cell 3).trans rfl
  have x4 : W3.cell? ⟨xb, 4, none⟩ = some (.int .i64 x.code) := (HTB.out.tb.cell 4).trans rfl
  have zx := HTB.out.tb.lt
  go_wp2_with fail
  refine (refClone_any ⟨ax, cx, sx, dx⟩ x W3 _ HTB.out.rt HLX.out).mono ?_
  rintro e w4 ⟨aw, cw, sw, dw, ts, rfl, hot, hb⟩
  have hal : Below w4.heap.size w4 (w4.alloc (.cells #[.int .i64 x.state, .int .i64 x.on, .slice aw x.frames.length cw, .slice sw x.stack.length dw, .int .i64 x.code] 51)) := (Below.refl _ _).alloc (Nat.le_refl _) _
  have hHWB := TB.new hot.rt
  have hbw := hb.trans (hal.mono hb.size)
  have hHTB := HTB.out.below hbw
  have hGP := GP.out.below hbw
  have hND := ND.out.below hbw ND.out.lt
  have hNE := NE.out.below hbw NE.out.lt
  clear HTB
  have HTB := Lib.hid hHTB
  clear hHTB
  clear GP ND NE
  have GP := Lib.hid hGP; have ND := Lib.hid hND; have NE := Lib.hid hNE
  clear hGP hND hNE hbw
  have HWB := Lib.hid hHWB
  obtain ⟨wb, hwb⟩ : ∃ b, b = w4.heap.size := ⟨_, rfl⟩
  clear hal hb hHWB hot zx x0 x1 x2 x3 x4
  go_upto_region 4 with fail
  obtain ⟨W4, hW⟩ : ∃ W, W = (w4.alloc (.cells #[.int .i64 x.state, .int .i64 x.on, .slice aw x.frames.length cw, .slice sw x.stack.length dw, .int .i64 x.code] 51)) := ⟨_, rfl⟩
  rw [← hW] at HTB HWB GP ND NE ⊢
  rw [← hwb] at HWB ⊢
  clear hW hwb
  have g0 : W4.cell? ⟨gb, 0, none⟩ = some (.slice fA g.funcs.length fc) := (GP.out.pb.cell 0).trans rfl
  have g1 : W4.cell? ⟨gb, 1, none⟩ = some (.int .i64 g.mutexes) := (GP.out.pb.cell 1).trans rfl
  have g2 : W4.cell? ⟨gb, 2, none⟩ = some (.slice cA g.conds.length cc) := (GP.out.pb.cell 2).trans rfl
  have g3 : W4.cell? ⟨gb, 3, none⟩ = some (.slice sA g.semas.length sc) := (GP.out.pb.cell 3).trans rfl
  have g4 : W4.cell? ⟨gb, 4, none⟩ = some (.slice hA g.chans.length hc) := (GP.out.pb.cell 4).trans rfl
  have g5 : W4.cell? ⟨gb, 5, none⟩ = some (.slice xA g.choices.length xc) := (GP.out.pb.cell 5).trans rfl
  have g6 : W4.cell? ⟨gb, 6, none⟩ = some (.int .i64 g.threads) := (GP.out.pb.cell 6).trans rfl
  have zg := GP.out.pb.lt
  have vx0 : W4.cell? ⟨xb, 0, none⟩ = some (.int .i64 x.state) := (HTB.out.tb.cell 0).trans rfl
  have vx1 : W4.cell? ⟨xb, 1, none⟩ = some (.int .i64 x.on) := (HTB.out.tb.cell 1).trans rfl
  have vx2 : W4.cell? ⟨xb, 2, none⟩ = some (.slice ax x.frames.length cx) := (HTB.out.tb.cell 2).trans rfl
  have vx3 : W4.cell? ⟨xb, 3, none⟩ = some (.slice sx x.stack.length dx) := (HTB.out.tb.cell 3).trans rfl
  have vx4 : W4.cell? ⟨xb, 4, none⟩ = some (.int .i64 x.code) := (HTB.out.tb.cell 4).trans rfl
  have zvx := HTB.out.tb.lt
  have vw0 : W4.cell? ⟨wb, 0, none⟩ = some (.int .i64 x.state) := (HWB.out.tb.cell 0).trans rfl
  have vw1 : W4.cell? ⟨wb, 1, none⟩ = some (.int .i64 x.on) := (HWB.out.tb.cell 1).trans rfl
  have vw2 : W4.cell? ⟨wb, 2, none⟩ = some (.slice aw x.frames.length cw) := (HWB.out.tb.cell 2).trans rfl
  have vw3 : W4.cell? ⟨wb, 3, none⟩ = some (.slice sw x.stack.length dw) := (HWB.out.tb.cell 3).trans rfl
  have vw4 : W4.cell? ⟨wb, 4, none⟩ = some (.int .i64 x.code) := (HWB.out.tb.cell 4).trans rfl
  have zvw := HWB.out.tb.lt
  have d0 : W4.cell? ⟨w.heap.size + 1 + 1, 0, none⟩ = some (.int .i64 x2) := (ND.out.cell 0).trans rfl
  have d1 : W4.cell? ⟨w.heap.size + 1 + 1, 1, none⟩ = some (.int .i64 y2) := (ND.out.cell 1).trans rfl
  have d2 : W4.cell? ⟨w.heap.size + 1 + 1, 2, none⟩ = some (.int .i64 z2) := (ND.out.cell 2).trans rfl
  have zd := ND.out.lt
  go_wp2_with fail
  refine (does_any ⟨fA, fc, cA, cc, sA, sc, hA, hc, xA, xc⟩ g ⟨ax, cx, sx, dx⟩ ⟨aw, cw, sw, dw⟩ x x2 y2 z2 W4 (GP.out.rp.more GP.out.hBP) (HTB.out.rt) (HWB.out.rt) HGF.out (by have := HGN.out; omega) HGN.out.1 (fun f hf => by have := HGC.out f hf; omega) HMAY.out HNE.out HV.out.1.2.1 HV.out.1.2.2 _ rfl).mono ?_
  rintro e w5 ⟨⟨aa, ca, sa, da⟩, ⟨ar, cr, sr, dr⟩, rfl, hra, hrb, hb⟩
  have hmay := doesT_may x2 y2 z2 HGF.out HGN.out.1 HMAY.out HNE.out
  have hne : (doesT g x x2 y2 z2).state ≠ 9 := by rw [doesT_state]; exact HNE.out
  generalize doesT g x x2 y2 z2 = a at *
  have HMA := Lib.hid hmay; have HNA := Lib.hid hne; have HLA := Lib.hid (lensT_may HGF.out hmay)
  clear hmay hne
  have hal1 : Below w5.heap.size w5 (w5.alloc (.cells #[.int .i64 a.state, .int .i64 a.on, .slice aa a.frames.length ca, .slice sa a.stack.length da, .int .i64 a.code] 51)) := (Below.refl _ _).alloc (Nat.le_refl _) _
  have hal2 : Below (w5.alloc (.cells #[.int .i64 a.state, .int .i64 a.on, .slice aa a.frames.length ca, .slice sa a.stack.length da, .int .i64 a.code] 51)).heap.size (w5.alloc (.cells #[.int .i64 a.state, .int .i64 a.on, .slice aa a.frames.length ca, .slice sa a.stack.length da, .int .i64 a.code] 51)) ((w5.alloc (.cells #[.int .i64 a.state, .int .i64 a.on, .slice aa a.frames.length ca, .slice sa a.stack.length da, .int .i64 a.code] 51)).alloc (.cells #[.int .i64 a.state, .int .i64 a.on, .slice ar a.frames.length cr, .slice sr a.stack.length dr, .int .i64 a.code] 51)) := (Below.refl _ _).alloc (Nat.le_refl _) _
  have hal : Below w5.heap.size w5 ((w5.alloc (.cells #[.int .i64 a.state, .int .i64 a.on, .slice aa a.frames.length ca, .slice sa a.stack.length da, .int .i64 a.code] 51)).alloc (.cells #[.int .i64 a.state, .int .i64 a.on, .slice ar a.frames.length cr, .slice sr a.stack.length dr, .int .i64 a.code] 51)) := hal1.trans (hal2.mono hal1.size)
  have hHAB := (TB.new hra).below hal2
  have hHRB := TB.new (hrb.alloc (.cells #[.int .i64 a.state, .int .i64 a.on, .slice aa a.frames.length ca, .slice sa a.stack.length da, .int .i64 a.code] 51))
  have hsz : (w5.alloc (.cells #[.int .i64 a.state, .int .i64 a.on, .slice aa a.frames.length ca, .slice sa a.stack.length da, .int .i64 a.code] 51)).heap.size = w5.heap.size + 1 := by simp
  rw [hsz] at hHRB
  have hbw := hb.trans (hal.mono hb.size)
  have hHTB := HTB.out.below hbw
  have hHWB := HWB.out.below hbw
  have hGP := GP.out.below hbw
  have hND := ND.out.below hbw ND.out.lt
  have hNE := NE.out.below hbw NE.out.lt
  clear HTB
  have HTB := Lib.hid hHTB
  clear hHTB
  clear HWB
  have HWB := Lib.hid hHWB
  clear hHWB
  clear GP ND NE
  have GP := Lib.hid hGP; have ND := Lib.hid hND; have NE := Lib.hid hNE
  clear hGP hND hNE hbw
  have HAB := Lib.hid hHAB; have HRB := Lib.hid hHRB
  obtain ⟨ab, eqab⟩ : ∃ b, b = w5.heap.size := ⟨_, rfl⟩
  obtain ⟨rb, eqrb⟩ : ∃ b, b = w5.heap.size + 1 := ⟨_, rfl⟩
  clear hal hal1 hal2 hb hra hrb hsz hHAB hHRB g0 g1 g2 g3 g4 g5 g6 zg vx0 vx1 vx2 vx3 vx4 zvx vw0 vw1 vw2 vw3 vw4 zvw d0 d1 d2 zd
  go_upto_region 7 with fail
  obtain ⟨W5, hW⟩ : ∃ W, W = ((w5.alloc (.cells #[.int .i64 a.state, .int .i64 a.on, .slice aa a.frames.length ca, .slice sa a.stack.length da, .int .i64 a.code] 51)).alloc (.cells #[.int .i64 a.state, .int .i64 a.on, .slice ar a.frames.length cr, .slice sr a.stack.length dr, .int .i64 a.code] 51)) := ⟨_, rfl⟩
  rw [← hW] at HTB HWB HAB HRB GP ND NE ⊢
  rw [← eqrb] at HRB ⊢
  rw [← eqab] at HAB ⊢
  clear hW eqab eqrb
  have vr0 : W5.cell? ⟨rb, 0, none⟩ = some (.int .i64 a.state) := (HRB.out.tb.cell 0).trans rfl
  have vr1 : W5.cell? ⟨rb, 1, none⟩ = some (.int .i64 a.on) := (HRB.out.tb.cell 1).trans rfl
  have vr2 : W5.cell? ⟨rb, 2, none⟩ = some (.slice ar a.frames.length cr) := (HRB.out.tb.cell 2).trans rfl
  have vr3 : W5.cell? ⟨rb, 3, none⟩ = some (.slice sr a.stack.length dr) := (HRB.out.tb.cell 3).trans rfl
  have vr4 : W5.cell? ⟨rb, 4, none⟩ = some (.int .i64 a.code) := (HRB.out.tb.cell 4).trans rfl
  have zvr := HRB.out.tb.lt
  go_wp2_with fail
  refine (refClone_any ⟨ar, cr, sr, dr⟩ a W5 _ HRB.out.rt HLA.out).mono ?_
  rintro e w6 ⟨af, cf, sf, df, ts, rfl, hot, hb⟩
  have hal : Below w6.heap.size w6 (w6.alloc (.cells #[.int .i64 a.state, .int .i64 a.on, .slice af a.frames.length cf, .slice sf a.stack.length df, .int .i64 a.code] 51)) := (Below.refl _ _).alloc (Nat.le_refl _) _
  have hHFB := TB.new hot.rt
  have hbw := hb.trans (hal.mono hb.size)
  have hHTB := HTB.out.below hbw
  have hHWB := HWB.out.below hbw
  have hHAB := HAB.out.below hbw
  have hHRB := HRB.out.below hbw
  have hGP := GP.out.below hbw
  have hND := ND.out.below hbw ND.out.lt
  have hNE := NE.out.below hbw NE.out.lt
  clear HTB
  have HTB := Lib.hid hHTB
  clear hHTB
  clear HWB
  have HWB := Lib.hid hHWB
  clear hHWB
  clear HAB
  have HAB := Lib.hid hHAB
  clear hHAB
  clear HRB
  have HRB := Lib.hid hHRB
  clear hHRB
  clear GP ND NE
  have GP := Lib.hid hGP; have ND := Lib.hid hND; have NE := Lib.hid hNE
  clear hGP hND hNE hbw
  have HFB := Lib.hid hHFB
  obtain ⟨fb, hfb⟩ : ∃ b, b = w6.heap.size := ⟨_, rfl⟩
  clear hal hb hHFB hot vr0 vr1 vr2 vr3 vr4 zvr
  go_upto_region 8 with fail
  obtain ⟨W6, hW⟩ : ∃ W, W = (w6.alloc (.cells #[.int .i64 a.state, .int .i64 a.on, .slice af a.frames.length cf, .slice sf a.stack.length df, .int .i64 a.code] 51)) := ⟨_, rfl⟩
  rw [← hW] at HTB HWB HAB HRB HFB GP ND NE ⊢
  rw [← hfb] at HFB ⊢
  clear hW hfb
  have g0 : W6.cell? ⟨gb, 0, none⟩ = some (.slice fA g.funcs.length fc) := (GP.out.pb.cell 0).trans rfl
  have g1 : W6.cell? ⟨gb, 1, none⟩ = some (.int .i64 g.mutexes) := (GP.out.pb.cell 1).trans rfl
  have g2 : W6.cell? ⟨gb, 2, none⟩ = some (.slice cA g.conds.length cc) := (GP.out.pb.cell 2).trans rfl
  have g3 : W6.cell? ⟨gb, 3, none⟩ = some (.slice sA g.semas.length sc) := (GP.out.pb.cell 3).trans rfl
  have g4 : W6.cell? ⟨gb, 4, none⟩ = some (.slice hA g.chans.length hc) := (GP.out.pb.cell 4).trans rfl
  have g5 : W6.cell? ⟨gb, 5, none⟩ = some (.slice xA g.choices.length xc) := (GP.out.pb.cell 5).trans rfl
  have g6 : W6.cell? ⟨gb, 6, none⟩ = some (.int .i64 g.threads) := (GP.out.pb.cell 6).trans rfl
  have zg := GP.out.pb.lt
  have va0 : W6.cell? ⟨ab, 0, none⟩ = some (.int .i64 a.state) := (HAB.out.tb.cell 0).trans rfl
  have va1 : W6.cell? ⟨ab, 1, none⟩ = some (.int .i64 a.on) := (HAB.out.tb.cell 1).trans rfl
  have va2 : W6.cell? ⟨ab, 2, none⟩ = some (.slice aa a.frames.length ca) := (HAB.out.tb.cell 2).trans rfl
  have va3 : W6.cell? ⟨ab, 3, none⟩ = some (.slice sa a.stack.length da) := (HAB.out.tb.cell 3).trans rfl
  have va4 : W6.cell? ⟨ab, 4, none⟩ = some (.int .i64 a.code) := (HAB.out.tb.cell 4).trans rfl
  have zva := HAB.out.tb.lt
  have vr0 : W6.cell? ⟨rb, 0, none⟩ = some (.int .i64 a.state) := (HRB.out.tb.cell 0).trans rfl
  have vr1 : W6.cell? ⟨rb, 1, none⟩ = some (.int .i64 a.on) := (HRB.out.tb.cell 1).trans rfl
  have vr2 : W6.cell? ⟨rb, 2, none⟩ = some (.slice ar a.frames.length cr) := (HRB.out.tb.cell 2).trans rfl
  have vr3 : W6.cell? ⟨rb, 3, none⟩ = some (.slice sr a.stack.length dr) := (HRB.out.tb.cell 3).trans rfl
  have vr4 : W6.cell? ⟨rb, 4, none⟩ = some (.int .i64 a.code) := (HRB.out.tb.cell 4).trans rfl
  have zvr := HRB.out.tb.lt
  have e0 : W6.cell? ⟨w.heap.size + 1 + 1 + 1, 0, none⟩ = some (.int .i64 x3) := (NE.out.cell 0).trans rfl
  have e1 : W6.cell? ⟨w.heap.size + 1 + 1 + 1, 1, none⟩ = some (.int .i64 y3) := (NE.out.cell 1).trans rfl
  have e2 : W6.cell? ⟨w.heap.size + 1 + 1 + 1, 2, none⟩ = some (.int .i64 z3) := (NE.out.cell 2).trans rfl
  have ze := NE.out.lt
  go_wp2_with fail
  refine (does_any ⟨fA, fc, cA, cc, sA, sc, hA, hc, xA, xc⟩ g ⟨aa, ca, sa, da⟩ ⟨ar, cr, sr, dr⟩ a x3 y3 z3 W6 (GP.out.rp.more GP.out.hBP) (HAB.out.rt) (HRB.out.rt) HGF.out (by have := HGN.out; omega) HGN.out.1 (fun f hf => by have := HGC.out f hf; omega) HMA.out HNA.out HV.out.2.2.1 HV.out.2.2.2 _ rfl).mono ?_
  rintro e w7 ⟨⟨an, cn, sn, dn⟩, ⟨aq, cq, sq, dq⟩, rfl, hra, hrb, hb⟩
  have hmay := doesT_may x3 y3 z3 HGF.out HGN.out.1 HMA.out HNA.out
  have hne : (doesT g a x3 y3 z3).state ≠ 9 := by rw [doesT_state]; exact HNA.out
  generalize doesT g a x3 y3 z3 = b at *
  have HMB := Lib.hid hmay; have HNB := Lib.hid hne; have HLB := Lib.hid (lensT_may HGF.out hmay)
  clear hmay hne
  have hal1 : Below w7.heap.size w7 (w7.alloc (.cells #[.int .i64 b.state, .int .i64 b.on, .slice an b.frames.length cn, .slice sn b.stack.length dn, .int .i64 b.code] 51)) := (Below.refl _ _).alloc (Nat.le_refl _) _
  have hal2 : Below (w7.alloc (.cells #[.int .i64 b.state, .int .i64 b.on, .slice an b.frames.length cn, .slice sn b.stack.length dn, .int .i64 b.code] 51)).heap.size (w7.alloc (.cells #[.int .i64 b.state, .int .i64 b.on, .slice an b.frames.length cn, .slice sn b.stack.length dn, .int .i64 b.code] 51)) ((w7.alloc (.cells #[.int .i64 b.state, .int .i64 b.on, .slice an b.frames.length cn, .slice sn b.stack.length dn, .int .i64 b.code] 51)).alloc (.cells #[.int .i64 b.state, .int .i64 b.on, .slice aq b.frames.length cq, .slice sq b.stack.length dq, .int .i64 b.code] 51)) := (Below.refl _ _).alloc (Nat.le_refl _) _
  have hal : Below w7.heap.size w7 ((w7.alloc (.cells #[.int .i64 b.state, .int .i64 b.on, .slice an b.frames.length cn, .slice sn b.stack.length dn, .int .i64 b.code] 51)).alloc (.cells #[.int .i64 b.state, .int .i64 b.on, .slice aq b.frames.length cq, .slice sq b.stack.length dq, .int .i64 b.code] 51)) := hal1.trans (hal2.mono hal1.size)
  have hHBB := (TB.new hra).below hal2
  have hHQB := TB.new (hrb.alloc (.cells #[.int .i64 b.state, .int .i64 b.on, .slice an b.frames.length cn, .slice sn b.stack.length dn, .int .i64 b.code] 51))
  have hsz : (w7.alloc (.cells #[.int .i64 b.state, .int .i64 b.on, .slice an b.frames.length cn, .slice sn b.stack.length dn, .int .i64 b.code] 51)).heap.size = w7.heap.size + 1 := by simp
  rw [hsz] at hHQB
  have hbw := hb.trans (hal.mono hb.size)
  have hHTB := HTB.out.below hbw
  have hHWB := HWB.out.below hbw
  have hHAB := HAB.out.below hbw
  have hHRB := HRB.out.below hbw
  have hHFB := HFB.out.below hbw
  have hGP := GP.out.below hbw
  have hND := ND.out.below hbw ND.out.lt
  have hNE := NE.out.below hbw NE.out.lt
  clear HTB
  have HTB := Lib.hid hHTB
  clear hHTB
  clear HWB
  have HWB := Lib.hid hHWB
  clear hHWB
  clear HAB
  have HAB := Lib.hid hHAB
  clear hHAB
  clear HRB
  have HRB := Lib.hid hHRB
  clear hHRB
  clear HFB
  have HFB := Lib.hid hHFB
  clear hHFB
  clear GP ND NE
  have GP := Lib.hid hGP; have ND := Lib.hid hND; have NE := Lib.hid hNE
  clear hGP hND hNE hbw
  have HBB := Lib.hid hHBB; have HQB := Lib.hid hHQB
  obtain ⟨bb, eqbb⟩ : ∃ b, b = w7.heap.size := ⟨_, rfl⟩
  obtain ⟨qb, eqqb⟩ : ∃ b, b = w7.heap.size + 1 := ⟨_, rfl⟩
  clear hal hal1 hal2 hb hra hrb hsz hHBB hHQB g0 g1 g2 g3 g4 g5 g6 zg va0 va1 va2 va3 va4 zva vr0 vr1 vr2 vr3 vr4 zvr e0 e1 e2 ze
  go_upto_region 9 with fail
  obtain ⟨W7, hW⟩ : ∃ W, W = ((w7.alloc (.cells #[.int .i64 b.state, .int .i64 b.on, .slice an b.frames.length cn, .slice sn b.stack.length dn, .int .i64 b.code] 51)).alloc (.cells #[.int .i64 b.state, .int .i64 b.on, .slice aq b.frames.length cq, .slice sq b.stack.length dq, .int .i64 b.code] 51)) := ⟨_, rfl⟩
  rw [← hW] at HTB HWB HAB HRB HFB HBB HQB GP ND NE ⊢
  rw [← eqqb] at HQB ⊢
  rw [← eqbb] at HBB ⊢
  clear hW eqbb eqqb
  have g0 : W7.cell? ⟨gb, 0, none⟩ = some (.slice fA g.funcs.length fc) := (GP.out.pb.cell 0).trans rfl
  have g1 : W7.cell? ⟨gb, 1, none⟩ = some (.int .i64 g.mutexes) := (GP.out.pb.cell 1).trans rfl
  have g2 : W7.cell? ⟨gb, 2, none⟩ = some (.slice cA g.conds.length cc) := (GP.out.pb.cell 2).trans rfl
  have g3 : W7.cell? ⟨gb, 3, none⟩ = some (.slice sA g.semas.length sc) := (GP.out.pb.cell 3).trans rfl
  have g4 : W7.cell? ⟨gb, 4, none⟩ = some (.slice hA g.chans.length hc) := (GP.out.pb.cell 4).trans rfl
  have g5 : W7.cell? ⟨gb, 5, none⟩ = some (.slice xA g.choices.length xc) := (GP.out.pb.cell 5).trans rfl
  have g6 : W7.cell? ⟨gb, 6, none⟩ = some (.int .i64 g.threads) := (GP.out.pb.cell 6).trans rfl
  have zg := GP.out.pb.lt
  have vx0 : W7.cell? ⟨xb, 0, none⟩ = some (.int .i64 x.state) := (HTB.out.tb.cell 0).trans rfl
  have vx1 : W7.cell? ⟨xb, 1, none⟩ = some (.int .i64 x.on) := (HTB.out.tb.cell 1).trans rfl
  have vx2 : W7.cell? ⟨xb, 2, none⟩ = some (.slice ax x.frames.length cx) := (HTB.out.tb.cell 2).trans rfl
  have vx3 : W7.cell? ⟨xb, 3, none⟩ = some (.slice sx x.stack.length dx) := (HTB.out.tb.cell 3).trans rfl
  have vx4 : W7.cell? ⟨xb, 4, none⟩ = some (.int .i64 x.code) := (HTB.out.tb.cell 4).trans rfl
  have zvx := HTB.out.tb.lt
  have vw0 : W7.cell? ⟨wb, 0, none⟩ = some (.int .i64 x.state) := (HWB.out.tb.cell 0).trans rfl
  have vw1 : W7.cell? ⟨wb, 1, none⟩ = some (.int .i64 x.on) := (HWB.out.tb.cell 1).trans rfl
  have vw2 : W7.cell? ⟨wb, 2, none⟩ = some (.slice aw x.frames.length cw) := (HWB.out.tb.cell 2).trans rfl
  have vw3 : W7.cell? ⟨wb, 3, none⟩ = some (.slice sw x.stack.length dw) := (HWB.out.tb.cell 3).trans rfl
  have vw4 : W7.cell? ⟨wb, 4, none⟩ = some (.int .i64 x.code) := (HWB.out.tb.cell 4).trans rfl
  have zvw := HWB.out.tb.lt
  have e0 : W7.cell? ⟨w.heap.size + 1 + 1 + 1, 0, none⟩ = some (.int .i64 x3) := (NE.out.cell 0).trans rfl
  have e1 : W7.cell? ⟨w.heap.size + 1 + 1 + 1, 1, none⟩ = some (.int .i64 y3) := (NE.out.cell 1).trans rfl
  have e2 : W7.cell? ⟨w.heap.size + 1 + 1 + 1, 2, none⟩ = some (.int .i64 z3) := (NE.out.cell 2).trans rfl
  have ze := NE.out.lt
  go_wp2_with fail
  refine (does_any ⟨fA, fc, cA, cc, sA, sc, hA, hc, xA, xc⟩ g ⟨ax, cx, sx, dx⟩ ⟨aw, cw, sw, dw⟩ x x3 y3 z3 W7 (GP.out.rp.more GP.out.hBP) (HTB.out.rt) (HWB.out.rt) HGF.out (by have := HGN.out; omega) HGN.out.1 (fun f hf => by have := HGC.out f hf; omega) HMAY.out HNE.out HV.out.2.2.1 HV.out.2.2.2 _ rfl).mono ?_
  rintro e w8 ⟨⟨ai, ci, si, di⟩, ⟨aj, cj, sj, dj⟩, rfl, hra, hrb, hb⟩
  have hmay := doesT_may x3 y3 z3 HGF.out HGN.out.1 HMAY.out HNE.out
  have hne : (doesT g x x3 y3 z3).state ≠ 9 := by rw [doesT_state]; exact HNE.out
  generalize doesT g x x3 y3 z3 = y at *
  have HMY := Lib.hid hmay; have HNY := Lib.hid hne; have HLY := Lib.hid (lensT_may HGF.out hmay)
  clear hmay hne
  have hal1 : Below w8.heap.size w8 (w8.alloc (.cells #[.int .i64 y.state, .int .i64 y.on, .slice ai y.frames.length ci, .slice si y.stack.length di, .int .i64 y.code] 51)) := (Below.refl _ _).alloc (Nat.le_refl _) _
  have hal2 : Below (w8.alloc (.cells #[.int .i64 y.state, .int .i64 y.on, .slice ai y.frames.length ci, .slice si y.stack.length di, .int .i64 y.code] 51)).heap.size (w8.alloc (.cells #[.int .i64 y.state, .int .i64 y.on, .slice ai y.frames.length ci, .slice si y.stack.length di, .int .i64 y.code] 51)) ((w8.alloc (.cells #[.int .i64 y.state, .int .i64 y.on, .slice ai y.frames.length ci, .slice si y.stack.length di, .int .i64 y.code] 51)).alloc (.cells #[.int .i64 y.state, .int .i64 y.on, .slice aj y.frames.length cj, .slice sj y.stack.length dj, .int .i64 y.code] 51)) := (Below.refl _ _).alloc (Nat.le_refl _) _
  have hal : Below w8.heap.size w8 ((w8.alloc (.cells #[.int .i64 y.state, .int .i64 y.on, .slice ai y.frames.length ci, .slice si y.stack.length di, .int .i64 y.code] 51)).alloc (.cells #[.int .i64 y.state, .int .i64 y.on, .slice aj y.frames.length cj, .slice sj y.stack.length dj, .int .i64 y.code] 51)) := hal1.trans (hal2.mono hal1.size)
  have hHIB := (TB.new hra).below hal2
  have hHJB := TB.new (hrb.alloc (.cells #[.int .i64 y.state, .int .i64 y.on, .slice ai y.frames.length ci, .slice si y.stack.length di, .int .i64 y.code] 51))
  have hsz : (w8.alloc (.cells #[.int .i64 y.state, .int .i64 y.on, .slice ai y.frames.length ci, .slice si y.stack.length di, .int .i64 y.code] 51)).heap.size = w8.heap.size + 1 := by simp
  rw [hsz] at hHJB
  have hbw := hb.trans (hal.mono hb.size)
  have hHTB := HTB.out.below hbw
  have hHWB := HWB.out.below hbw
  have hHAB := HAB.out.below hbw
  have hHRB := HRB.out.below hbw
  have hHFB := HFB.out.below hbw
  have hHBB := HBB.out.below hbw
  have hHQB := HQB.out.below hbw
  have hGP := GP.out.below hbw
  have hND := ND.out.below hbw ND.out.lt
  have hNE := NE.out.below hbw NE.out.lt
  clear HTB
  have HTB := Lib.hid hHTB
  clear hHTB
  clear HWB
  have HWB := Lib.hid hHWB
  clear hHWB
  clear HAB
  have HAB := Lib.hid hHAB
  clear hHAB
  clear HRB
  have HRB := Lib.hid hHRB
  clear hHRB
  clear HFB
  have HFB := Lib.hid hHFB
  clear hHFB
  clear HBB
  have HBB := Lib.hid hHBB
  clear hHBB
  clear HQB
  have HQB := Lib.hid hHQB
  clear hHQB
  clear GP ND NE
  have GP := Lib.hid hGP; have ND := Lib.hid hND; have NE := Lib.hid hNE
  clear hGP hND hNE hbw
  have HIB := Lib.hid hHIB; have HJB := Lib.hid hHJB
  obtain ⟨ib, eqib⟩ : ∃ b, b = w8.heap.size := ⟨_, rfl⟩
  obtain ⟨jb, eqjb⟩ : ∃ b, b = w8.heap.size + 1 := ⟨_, rfl⟩
  clear hal hal1 hal2 hb hra hrb hsz hHIB hHJB g0 g1 g2 g3 g4 g5 g6 zg vx0 vx1 vx2 vx3 vx4 zvx vw0 vw1 vw2 vw3 vw4 zvw e0 e1 e2 ze
  go_upto_region 10 with fail
  obtain ⟨W8, hW⟩ : ∃ W, W = ((w8.alloc (.cells #[.int .i64 y.state, .int .i64 y.on, .slice ai y.frames.length ci, .slice si y.stack.length di, .int .i64 y.code] 51)).alloc (.cells #[.int .i64 y.state, .int .i64 y.on, .slice aj y.frames.length cj, .slice sj y.stack.length dj, .int .i64 y.code] 51)) := ⟨_, rfl⟩
  rw [← hW] at HTB HWB HAB HRB HFB HBB HQB HIB HJB GP ND NE ⊢
  rw [← eqjb] at HJB ⊢
  rw [← eqib] at HIB ⊢
  clear hW eqib eqjb
  have hbl := frames_pos HMB.out HNB.out
  have HPOS := Lib.hid hbl
  clear hbl
  have vx0 : W8.cell? ⟨xb, 0, none⟩ = some (.int .i64 x.state) := (HTB.out.tb.cell 0).trans rfl
  have vx1 : W8.cell? ⟨xb, 1, none⟩ = some (.int .i64 x.on) := (HTB.out.tb.cell 1).trans rfl
  have vx2 : W8.cell? ⟨xb, 2, none⟩ = some (.slice ax x.frames.length cx) := (HTB.out.tb.cell 2).trans rfl
  have vx3 : W8.cell? ⟨xb, 3, none⟩ = some (.slice sx x.stack.length dx) := (HTB.out.tb.cell 3).trans rfl
  have vx4 : W8.cell? ⟨xb, 4, none⟩ = some (.int .i64 x.code) := (HTB.out.tb.cell 4).trans rfl
  have zvx := HTB.out.tb.lt
  have vw0 : W8.cell? ⟨wb, 0, none⟩ = some (.int .i64 x.state) := (HWB.out.tb.cell 0).trans rfl
  have vw1 : W8.cell? ⟨wb, 1, none⟩ = some (.int .i64 x.on) := (HWB.out.tb.cell 1).trans rfl
  have vw2 : W8.cell? ⟨wb, 2, none⟩ = some (.slice aw x.frames.length cw) := (HWB.out.tb.cell 2).trans rfl
  have vw3 : W8.cell? ⟨wb, 3, none⟩ = some (.slice sw x.stack.length dw) := (HWB.out.tb.cell 3).trans rfl
  have vw4 : W8.cell? ⟨wb, 4, none⟩ = some (.int .i64 x.code) := (HWB.out.tb.cell 4).trans rfl
  have zvw := HWB.out.tb.lt
  go_wp2_with fail
  refine (refSame_yes ⟨ax, cx, sx, dx⟩ ⟨aw, cw, sw, dw⟩ x _ _ _ HTB.out.rt HWB.out.rt HLX.out).mono ?_
  rintro e W9 ⟨rfl, hb⟩
  clear vx0 vx1 vx2 vx3 vx4 zvx vw0 vw1 vw2 vw3 vw4 zvw
  have hHTB := HTB.out.below hb
  clear HTB
  have HTB := Lib.hid hHTB
  clear hHTB
  have hHWB := HWB.out.below hb
  clear HWB
  have HWB := Lib.hid hHWB
  clear hHWB
  have hHAB := HAB.out.below hb
  clear HAB
  have HAB := Lib.hid hHAB
  clear hHAB
  have hHRB := HRB.out.below hb
  clear HRB
  have HRB := Lib.hid hHRB
  clear hHRB
  have hHFB := HFB.out.below hb
  clear HFB
  have HFB := Lib.hid hHFB
  clear hHFB
  have hHBB := HBB.out.below hb
  clear HBB
  have HBB := Lib.hid hHBB
  clear hHBB
  have hHQB := HQB.out.below hb
  clear HQB
  have HQB := Lib.hid hHQB
  clear hHQB
  have hHIB := HIB.out.below hb
  clear HIB
  have HIB := Lib.hid hHIB
  clear hHIB
  have hHJB := HJB.out.below hb
  clear HJB
  have HJB := Lib.hid hHJB
  clear hHJB
  have hGP := GP.out.below hb
  clear GP
  have GP := Lib.hid hGP
  clear hGP hb
  clear ND NE
  have va0 : W9.cell? ⟨ab, 0, none⟩ = some (.int .i64 a.state) := (HAB.out.tb.cell 0).trans rfl
  have va1 : W9.cell? ⟨ab, 1, none⟩ = some (.int .i64 a.on) := (HAB.out.tb.cell 1).trans rfl
  have va2 : W9.cell? ⟨ab, 2, none⟩ = some (.slice aa a.frames.length ca) := (HAB.out.tb.cell 2).trans rfl
  have va3 : W9.cell? ⟨ab, 3, none⟩ = some (.slice sa a.stack.length da) := (HAB.out.tb.cell 3).trans rfl
  have va4 : W9.cell? ⟨ab, 4, none⟩ = some (.int .i64 a.code) := (HAB.out.tb.cell 4).trans rfl
  have zva := HAB.out.tb.lt
  have vf0 : W9.cell? ⟨fb, 0, none⟩ = some (.int .i64 a.state) := (HFB.out.tb.cell 0).trans rfl
  have vf1 : W9.cell? ⟨fb, 1, none⟩ = some (.int .i64 a.on) := (HFB.out.tb.cell 1).trans rfl
  have vf2 : W9.cell? ⟨fb, 2, none⟩ = some (.slice af a.frames.length cf) := (HFB.out.tb.cell 2).trans rfl
  have vf3 : W9.cell? ⟨fb, 3, none⟩ = some (.slice sf a.stack.length df) := (HFB.out.tb.cell 3).trans rfl
  have vf4 : W9.cell? ⟨fb, 4, none⟩ = some (.int .i64 a.code) := (HFB.out.tb.cell 4).trans rfl
  have zvf := HFB.out.tb.lt
  go_wp2_with fail
  refine (refSame_yes ⟨aa, ca, sa, da⟩ ⟨af, cf, sf, df⟩ a _ _ _ HAB.out.rt HFB.out.rt HLA.out).mono ?_
  rintro e W10 ⟨rfl, hb⟩
  clear va0 va1 va2 va3 va4 zva vf0 vf1 vf2 vf3 vf4 zvf
  have hHTB := HTB.out.below hb
  clear HTB
  have HTB := Lib.hid hHTB
  clear hHTB
  have hHWB := HWB.out.below hb
  clear HWB
  have HWB := Lib.hid hHWB
  clear hHWB
  have hHAB := HAB.out.below hb
  clear HAB
  have HAB := Lib.hid hHAB
  clear hHAB
  have hHRB := HRB.out.below hb
  clear HRB
  have HRB := Lib.hid hHRB
  clear hHRB
  have hHFB := HFB.out.below hb
  clear HFB
  have HFB := Lib.hid hHFB
  clear hHFB
  have hHBB := HBB.out.below hb
  clear HBB
  have HBB := Lib.hid hHBB
  clear hHBB
  have hHQB := HQB.out.below hb
  clear HQB
  have HQB := Lib.hid hHQB
  clear hHQB
  have hHIB := HIB.out.below hb
  clear HIB
  have HIB := Lib.hid hHIB
  clear hHIB
  have hHJB := HJB.out.below hb
  clear HJB
  have HJB := Lib.hid hHJB
  clear hHJB
  have hGP := GP.out.below hb
  clear GP
  have GP := Lib.hid hGP
  clear hGP hb
  have vi0 : W10.cell? ⟨ib, 0, none⟩ = some (.int .i64 y.state) := (HIB.out.tb.cell 0).trans rfl
  have vi1 : W10.cell? ⟨ib, 1, none⟩ = some (.int .i64 y.on) := (HIB.out.tb.cell 1).trans rfl
  have vi2 : W10.cell? ⟨ib, 2, none⟩ = some (.slice ai y.frames.length ci) := (HIB.out.tb.cell 2).trans rfl
  have vi3 : W10.cell? ⟨ib, 3, none⟩ = some (.slice si y.stack.length di) := (HIB.out.tb.cell 3).trans rfl
  have vi4 : W10.cell? ⟨ib, 4, none⟩ = some (.int .i64 y.code) := (HIB.out.tb.cell 4).trans rfl
  have zvi := HIB.out.tb.lt
  have vj0 : W10.cell? ⟨jb, 0, none⟩ = some (.int .i64 y.state) := (HJB.out.tb.cell 0).trans rfl
  have vj1 : W10.cell? ⟨jb, 1, none⟩ = some (.int .i64 y.on) := (HJB.out.tb.cell 1).trans rfl
  have vj2 : W10.cell? ⟨jb, 2, none⟩ = some (.slice aj y.frames.length cj) := (HJB.out.tb.cell 2).trans rfl
  have vj3 : W10.cell? ⟨jb, 3, none⟩ = some (.slice sj y.stack.length dj) := (HJB.out.tb.cell 3).trans rfl
  have vj4 : W10.cell? ⟨jb, 4, none⟩ = some (.int .i64 y.code) := (HJB.out.tb.cell 4).trans rfl
  have zvj := HJB.out.tb.lt
  go_wp2_with fail
  refine (refSame_yes ⟨ai, ci, si, di⟩ ⟨aj, cj, sj, dj⟩ y _ _ _ HIB.out.rt HJB.out.rt HLY.out).mono ?_
  rintro e W11 ⟨rfl, hb⟩
  clear vi0 vi1 vi2 vi3 vi4 zvi vj0 vj1 vj2 vj3 vj4 zvj
  have hHTB := HTB.out.below hb
  clear HTB
  have HTB := Lib.hid hHTB
  clear hHTB
  have hHWB := HWB.out.below hb
  clear HWB
  have HWB := Lib.hid hHWB
  clear hHWB
  have hHAB := HAB.out.below hb
  clear HAB
  have HAB := Lib.hid hHAB
  clear hHAB
  have hHRB := HRB.out.below hb
  clear HRB
  have HRB := Lib.hid hHRB
  clear hHRB
  have hHFB := HFB.out.below hb
  clear HFB
  have HFB := Lib.hid hHFB
  clear hHFB
  have hHBB := HBB.out.below hb
  clear HBB
  have HBB := Lib.hid hHBB
  clear hHBB
  have hHQB := HQB.out.below hb
  clear HQB
  have HQB := Lib.hid hHQB
  clear hHQB
  have hHIB := HIB.out.below hb
  clear HIB
  have HIB := Lib.hid hHIB
  clear hHIB
  have hHJB := HJB.out.below hb
  clear HJB
  have HJB := Lib.hid hHJB
  clear hHJB
  have hGP := GP.out.below hb
  clear GP
  have GP := Lib.hid hGP
  clear hGP hb
  have vn0 : W11.cell? ⟨bb, 0, none⟩ = some (.int .i64 b.state) := (HBB.out.tb.cell 0).trans rfl
  have vn1 : W11.cell? ⟨bb, 1, none⟩ = some (.int .i64 b.on) := (HBB.out.tb.cell 1).trans rfl
  have vn2 : W11.cell? ⟨bb, 2, none⟩ = some (.slice an b.frames.length cn) := (HBB.out.tb.cell 2).trans rfl
  have vn3 : W11.cell? ⟨bb, 3, none⟩ = some (.slice sn b.stack.length dn) := (HBB.out.tb.cell 3).trans rfl
  have vn4 : W11.cell? ⟨bb, 4, none⟩ = some (.int .i64 b.code) := (HBB.out.tb.cell 4).trans rfl
  have zvn := HBB.out.tb.lt
  have hbp := HPOS.out
  have hbi : (0 : Int) < (b.frames.length : Int) := by omega
  go_wp2_with fail
  refine (slives_any _).mono ?_
  rintro e W12 ⟨rfl, hb⟩
  go_wp2_with fail
  go_ret
  exact ⟨rfl, GP.out.bel.trans (hb.mono GP.out.bel.size)⟩
end Go.Proofs.Ythjfcpdebflppaa.stackKeeps
