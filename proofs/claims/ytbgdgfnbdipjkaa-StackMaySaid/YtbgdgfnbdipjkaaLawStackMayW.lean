
/-
  The walk of StackMay.
-/
import Derived.Test.YtbgdgfnbdipjkaaRows
import Derived.WalkKit
import Derived.ProofKit
import Derived.OpenShut
import Derived.ShutString
import Derived.ChangeOld
import Derived.Below
import Derived.SizedLaws
import Derived.Test.YtbgdgfnbdipjkaaTMay
import Derived.Test.YtbgdgfnbdipjkaaSmE
import Derived.Test.YtbgdgfnbdipjkaaKeepP
import Derived.Test.YtbgdgfnbdipjkaaThrI
import Derived.Test.YtbgdgfnbdipjkaaPrOpen
import Derived.Test.YtbgdgfnbdipjkaaThrSize
import Derived.Test.YtbgdgfnbdipjkaaThrOpen
import Derived.Test.YtbgdgfnbdipjkaaSLives
namespace Go.Proofs.Ytbgdgfnbdipjkaa.stackMay
open Go.ChangeShapes Go.WideShapes Go.ChangeAt Go.RowKit Go.Proofs.Ytbgdgfnbdipjkaa Go.Proofs.Ytbgdgfnbdipjkaa.Plain
open Go.ChangeMaps (open_string shut_string)
set_option linter.unusedVariables false


set_option maxRecDepth 100000 in
set_option maxHeartbeats 40000000 in
theorem walk (hd0 : PH) (q0 : PV) (ht1 : TH) (t1 : TV) (a2 : Int) (a3 : Int) (w : World) (w0 : RP w w.heap.size hd0 q0 ∧ Fit q0 ∧ Lens q0) (w1 : RT w (fun _ => True) ht1 t1 ∧ FitT t1 ∧ LensT t1) (w2 : (Lit.int .i64 a2).wf = true) (w3 : (Lit.int .i64 a3).wf = true) :
    Calls Try.prog 3 #[.agg #[.slice hd0.fA q0.funcs.length hd0.fc, .int .i64 q0.mutexes, .slice hd0.cA q0.conds.length hd0.cc, .slice hd0.sA q0.semas.length hd0.sc, .slice hd0.hA q0.chans.length hd0.hc, .slice hd0.xA q0.choices.length hd0.xc, .int .i64 q0.threads], .agg #[.int .i64 t1.state, .int .i64 t1.on, .slice ht1.fA t1.frames.length ht1.fc, .slice ht1.sA t1.stack.length ht1.sc, .int .i64 t1.code], .int .i64 a2, .int .i64 a3] w fun e w' => e = .returned (.bool true) ∧ Below w.heap.size w w' := by
  obtain ⟨hrp, hfit, hlen⟩ := w0
  obtain ⟨hrt, hfitT, hlenT⟩ := w1
  obtain ⟨i0, hi0, hz0, hz1, hz2⟩ := info_parts info_int
  have hn2 := wf_int w3
  have HR := Lib.hid hrp; have HF := Lib.hid hfit; have HL := Lib.hid hlen; have HT := Lib.hid hrt; have HFT := Lib.hid hfitT; have HLT := Lib.hid hlenT; have HN2 := Lib.hid hn2
  clear hrp hfit hlen hrt hfitT hlenT hn2
  go_enter Try.func3, Try.ntmps3
  go_upto_region 1 with fail
  obtain ⟨W0, hW0⟩ : ∃ W, W = ((w.alloc (.cells #[.slice hd0.fA q0.funcs.length hd0.fc, .int .i64 q0.mutexes, .slice hd0.cA q0.conds.length hd0.cc, .slice hd0.sA q0.semas.length hd0.sc, .slice hd0.hA q0.chans.length hd0.hc, .slice hd0.xA q0.choices.length hd0.xc, .int .i64 q0.threads] 26)).alloc (.cells #[.int .i64 t1.state, .int .i64 t1.on, .slice ht1.fA t1.frames.length ht1.fc, .slice ht1.sA t1.stack.length ht1.sc, .int .i64 t1.code] 29)) := ⟨_, rfl⟩
  have hb0 : Below w.heap.size w W0 := by rw [hW0]; exact ((Below.refl w.heap.size w).alloc (Nat.le_refl _) _).alloc (by simp) _
  have hbp : Blk W0 w.heap.size 26 #[.slice hd0.fA q0.funcs.length hd0.fc, .int .i64 q0.mutexes, .slice hd0.cA q0.conds.length hd0.cc, .slice hd0.sA q0.semas.length hd0.sc, .slice hd0.hA q0.chans.length hd0.hc, .slice hd0.xA q0.choices.length hd0.xc, .int .i64 q0.threads] := by rw [hW0]; exact (Blk.new w _ _).alloc _
  have hbt : Blk W0 (w.heap.size + 1) 29 #[.int .i64 t1.state, .int .i64 t1.on, .slice ht1.fA t1.frames.length ht1.fc, .slice ht1.sA t1.stack.length ht1.sc, .int .i64 t1.code] := by
    rw [hW0]
    simpa using Blk.new (w.alloc (.cells #[.slice hd0.fA q0.funcs.length hd0.fc, .int .i64 q0.mutexes, .slice hd0.cA q0.conds.length hd0.cc, .slice hd0.sA q0.semas.length hd0.sc, .slice hd0.hA q0.chans.length hd0.hc, .slice hd0.xA q0.choices.length hd0.xc, .int .i64 q0.threads] 26)) 29 #[.int .i64 t1.state, .int .i64 t1.on, .slice ht1.fA t1.frames.length ht1.fc, .slice ht1.sA t1.stack.length ht1.sc, .int .i64 t1.code]
  have hRP := HR.out.below hb0
  have hRT := HT.out.below hb0
  rw [← hW0]
  have HB0 := Lib.hid hb0; have HBT := Lib.hid hbt; have HRP := Lib.hid hRP; have HRT := Lib.hid hRT
  have p0 : W0.cell? ⟨w.heap.size, 0, none⟩ = some (.slice hd0.fA q0.funcs.length hd0.fc) := (hbp.cell 0).trans rfl
  have p1 : W0.cell? ⟨w.heap.size, 1, none⟩ = some (.int .i64 q0.mutexes) := (hbp.cell 1).trans rfl
  have p2 : W0.cell? ⟨w.heap.size, 2, none⟩ = some (.slice hd0.cA q0.conds.length hd0.cc) := (hbp.cell 2).trans rfl
  have p3 : W0.cell? ⟨w.heap.size, 3, none⟩ = some (.slice hd0.sA q0.semas.length hd0.sc) := (hbp.cell 3).trans rfl
  have p4 : W0.cell? ⟨w.heap.size, 4, none⟩ = some (.slice hd0.hA q0.chans.length hd0.hc) := (hbp.cell 4).trans rfl
  have p5 : W0.cell? ⟨w.heap.size, 5, none⟩ = some (.slice hd0.xA q0.choices.length hd0.xc) := (hbp.cell 5).trans rfl
  have p6 : W0.cell? ⟨w.heap.size, 6, none⟩ = some (.int .i64 q0.threads) := (hbp.cell 6).trans rfl
  clear hW0 hb0 hbp hbt hRP hRT HR HT
  go_wp2_with fail
  refine (good_any hd0 q0 _ w.heap.size HRP.out HB0.out.size HF.out).mono ?_
  rintro e w1 hm
  obtain ⟨hg, rfl, hrp, hb⟩ := hm.rp
  have hgl := good_lens q0
  have hgn := good_funcs_len q0
  have hgf := good_few q0
  have hgc := good_code_len q0
  clear hm
  generalize good q0 = g at *
  obtain ⟨fA, fc, cA, cc, sA, sc, hA, hc, xA, xc⟩ := hg
  simp only at hrp ⊢
  have hal : Below w1.heap.size w1 (w1.alloc (.cells #[.slice fA g.funcs.length fc, .int .i64 g.mutexes, .slice cA g.conds.length cc, .slice sA g.semas.length sc, .slice hA g.chans.length hc, .slice xA g.choices.length xc, .int .i64 g.threads] 26)) := (Below.refl _ _).alloc (Nat.le_refl _) _
  have hbw := hb.trans (hal.mono hb.size)
  have hPB : PB w (w1.alloc (.cells #[.slice fA g.funcs.length fc, .int .i64 g.mutexes, .slice cA g.conds.length cc, .slice sA g.semas.length sc, .slice hA g.chans.length hc, .slice xA g.choices.length xc, .int .i64 g.threads] 26)) w1.heap.size w1.heap.size ⟨fA, fc, cA, cc, sA, sc, hA, hc, xA, xc⟩ g := ⟨Blk.new _ _ _, hrp.alloc (Nat.le_refl _) _, HB0.out.trans (hbw.mono HB0.out.size), by simp⟩
  have hbt := HBT.out.below hbw HBT.out.lt
  have hRT := HRT.out.below hbw
  have hzw : w.heap.size ≤ w1.heap.size := (HB0.out.trans (hb.mono HB0.out.size)).size
  have hzs : (w1.alloc (.cells #[.slice fA g.funcs.length fc, .int .i64 g.mutexes, .slice cA g.conds.length cc, .slice sA g.semas.length sc, .slice hA g.chans.length hc, .slice xA g.choices.length xc, .int .i64 g.threads] 26)).heap.size = w1.heap.size + 1 := by simp
  obtain ⟨gb, hgb⟩ : ∃ b, b = w1.heap.size := ⟨_, rfl⟩
  have HPB := Lib.hid hPB; have HGL := Lib.hid hgl; have HGF := Lib.hid hgf; have HGC := Lib.hid hgc; have HGN := Lib.hid hgn; have MT := Lib.hid hbt; have MR' := Lib.hid hRT; have HZ := Lib.hid (And.intro hzw hzs)
  clear hrp hb hgl hgf hgc hgn hal hbw hPB hbt hRT hzw hzs HBT HRT HRP HB0  p0 p1 p2 p3 p4 p5 p6
  go_upto_region 2 with fail
  obtain ⟨W2, hW2⟩ : ∃ W, W = w1.alloc (.cells #[.slice fA g.funcs.length fc, .int .i64 g.mutexes, .slice cA g.conds.length cc, .slice sA g.semas.length sc, .slice hA g.chans.length hc, .slice xA g.choices.length xc, .int .i64 g.threads] 26) := ⟨_, rfl⟩
  rw [← hW2] at HPB MT MR' HZ ⊢
  rw [← hgb] at HPB HZ ⊢
  clear hW2 hgb
  have g0 : W2.cell? ⟨gb, 0, none⟩ = some (.slice fA g.funcs.length fc) := (HPB.out.pb.cell 0).trans rfl
  have g1 : W2.cell? ⟨gb, 1, none⟩ = some (.int .i64 g.mutexes) := (HPB.out.pb.cell 1).trans rfl
  have g2 : W2.cell? ⟨gb, 2, none⟩ = some (.slice cA g.conds.length cc) := (HPB.out.pb.cell 2).trans rfl
  have g3 : W2.cell? ⟨gb, 3, none⟩ = some (.slice sA g.semas.length sc) := (HPB.out.pb.cell 3).trans rfl
  have g4 : W2.cell? ⟨gb, 4, none⟩ = some (.slice hA g.chans.length hc) := (HPB.out.pb.cell 4).trans rfl
  have g5 : W2.cell? ⟨gb, 5, none⟩ = some (.slice xA g.choices.length xc) := (HPB.out.pb.cell 5).trans rfl
  have g6 : W2.cell? ⟨gb, 6, none⟩ = some (.int .i64 g.threads) := (HPB.out.pb.cell 6).trans rfl
  have y0 : W2.cell? ⟨w.heap.size + 1, 0, none⟩ = some (.int .i64 t1.state) := (MT.out.cell 0).trans rfl
  have y1 : W2.cell? ⟨w.heap.size + 1, 1, none⟩ = some (.int .i64 t1.on) := (MT.out.cell 1).trans rfl
  have y2 : W2.cell? ⟨w.heap.size + 1, 2, none⟩ = some (.slice ht1.fA t1.frames.length ht1.fc) := (MT.out.cell 2).trans rfl
  have y3 : W2.cell? ⟨w.heap.size + 1, 3, none⟩ = some (.slice ht1.sA t1.stack.length ht1.sc) := (MT.out.cell 3).trans rfl
  have y4 : W2.cell? ⟨w.heap.size + 1, 4, none⟩ = some (.int .i64 t1.code) := (MT.out.cell 4).trans rfl
  have zg := HPB.out.pb.lt
  have zt := MT.out.lt
  go_wp2_with fail
  refine (good4_own ⟨fA, fc, cA, cc, sA, sc, hA, hc, xA, xc⟩ g W2 gb HPB.out.rp HPB.out.hBP HGF.out HGL.out (fun f hf => by have := HGC.out f hf; omega) HGN.out.1 ht1 t1 _ MR'.out HFT.out ⟨by have := HLT.out.frames; omega, by have := HLT.out.stack; omega, fun f hf => by have := HLT.out.locals f hf; omega⟩).mono ?_
  rintro e w3' ⟨ht, rfl, ⟨ts, hown⟩, hb3⟩
  have hmay := goodT_may HGF.out HGN.out.1 t1
  have hst : (goodT g t1).state = 0 := rfl
  generalize goodT g t1 = x at *
  obtain ⟨aX, cX, sX, dX⟩ := ht
  have hlx := lensT_may HGF.out hmay
  have hlen0 : LenT x := ⟨by have := hlx.frames; omega, by have := hlx.stack; omega, fun f hf => by have := hlx.locals f hf; omega⟩
  have hpos : 0 < x.frames.length := frames_pos hmay (by rw [hst]; decide)
  have hs16 := (lenT_may hmay).2
  have hal : Below w3'.heap.size w3' (w3'.alloc (.cells #[.int .i64 x.state, .int .i64 x.on, .slice aX x.frames.length cX, .slice sX x.stack.length dX, .int .i64 x.code] 29)) := (Below.refl _ _).alloc (Nat.le_refl _) _
  have hbw := hb3.trans (hal.mono hb3.size)
  have hMW : MW w (w3'.alloc (.cells #[.int .i64 x.state, .int .i64 x.on, .slice aX x.frames.length cX, .slice sX x.stack.length dX, .int .i64 x.code] 29)) gb gb ⟨fA, fc, cA, cc, sA, sc, hA, hc, xA, xc⟩ g w3'.heap.size W2.heap.size ⟨aX, cX, sX, dX⟩ x ts :=
    ⟨HPB.out.below hbw, Blk.new _ _ _, hown.fr (Fr.of_below hal) (fun i _ h e => by omega), Nat.le_refl _, HZ.out.1, by rw [HZ.out.2]; omega, by have := hb3.size; rw [HZ.out.2] at this; omega, hlen0⟩
  have hbt := MT.out.below hbw MT.out.lt
  have hRT := MR'.out.below hbw
  obtain ⟨xb, hxb⟩ : ∃ b, b = w3'.heap.size := ⟨_, rfl⟩
  have HMW := Lib.hid hMW; have HMAY := Lib.hid hmay; have NT := Lib.hid hbt; have NR := Lib.hid hRT; have HPOS := Lib.hid hpos; have HS16 := Lib.hid hs16
  clear hmay hst hown hb3 hal hbw hMW hbt hRT hlx hlen0 hpos hs16 zg zt  g0 g1 g2 g3 g4 g5 g6 y0 y1 y2 y3 y4 HPB MT MR'
  go_upto_region 3 with fail
  obtain ⟨W3, hW3⟩ : ∃ W, W = w3'.alloc (.cells #[.int .i64 x.state, .int .i64 x.on, .slice aX x.frames.length cX, .slice sX x.stack.length dX, .int .i64 x.code] 29) := ⟨_, rfl⟩
  rw [← hW3] at HMW NT NR ⊢
  rw [← hxb] at HMW ⊢
  clear hW3 hxb HZ
  obtain ⟨bt, hbt⟩ : ∃ b, mayT g t1 = b := ⟨_, rfl⟩
  have hlt1 : LenT t1 := ⟨by have := HLT.out.frames; omega, by have := HLT.out.stack; omega, fun f hf => by have := HLT.out.locals f hf; omega⟩
  have hm1 : ∀ X, Below W3.heap.size W3 X → Calls Try.prog 13 #[.agg #[.slice fA g.funcs.length fc, .int .i64 g.mutexes, .slice cA g.conds.length cc, .slice sA g.semas.length sc, .slice hA g.chans.length hc, .slice xA g.choices.length xc, .int .i64 g.threads], .agg #[.int .i64 x.state, .int .i64 x.on, .slice aX x.frames.length cX, .slice sX x.stack.length dX, .int .i64 x.code]] X fun e w' => e = .returned (.bool true) ∧ Below W3.heap.size W3 w' := fun X hX => by
    have hp := HMW.out.pb.below hX
    exact (may_any ⟨fA, fc, cA, cc, sA, sc, hA, hc, xA, xc⟩ g X gb hp.rp hp.hBP HGL.out ⟨aX, cX, sX, dX⟩ x _ (HMW.out.own.rt.below hX) HMW.out.len).mono fun e w' h => ⟨by rw [h.1, HMAY.out], hX.trans (h.2.mono hX.size)⟩
  have hm2 : ∀ X, Below W3.heap.size W3 X → Calls Try.prog 13 #[.agg #[.slice fA g.funcs.length fc, .int .i64 g.mutexes, .slice cA g.conds.length cc, .slice sA g.semas.length sc, .slice hA g.chans.length hc, .slice xA g.choices.length xc, .int .i64 g.threads], .agg #[.int .i64 t1.state, .int .i64 t1.on, .slice ht1.fA t1.frames.length ht1.fc, .slice ht1.sA t1.stack.length ht1.sc, .int .i64 t1.code]] X fun e w' => e = .returned (.bool bt) ∧ Below W3.heap.size W3 w' := fun X hX => by
    have hp := HMW.out.pb.below hX
    exact (may_any ⟨fA, fc, cA, cc, sA, sc, hA, hc, xA, xc⟩ g X gb hp.rp hp.hBP HGL.out ht1 t1 _ (NR.out.below hX) hlt1).mono fun e w' h => ⟨by rw [h.1, hbt], hX.trans (h.2.mono hX.size)⟩
  have hm3 : ∀ X, Below W3.heap.size W3 X → Calls Try.prog 14 #[.agg #[.slice fA g.funcs.length fc, .int .i64 g.mutexes, .slice cA g.conds.length cc, .slice sA g.semas.length sc, .slice hA g.chans.length hc, .slice xA g.choices.length xc, .int .i64 g.threads], .agg #[.int .i64 t1.state, .int .i64 t1.on, .slice ht1.fA t1.frames.length ht1.fc, .slice ht1.sA t1.stack.length ht1.sc, .int .i64 t1.code]] X fun e w' => e = .returned (.bool bt) ∧ Below W3.heap.size W3 w' := fun X hX => by
    have hp := HMW.out.pb.below hX
    exact (refMay_any ⟨fA, fc, cA, cc, sA, sc, hA, hc, xA, xc⟩ g X gb hp.rp hp.hBP HGL.out ht1 t1 _ (NR.out.below hX) hlt1).mono fun e w' h => ⟨by rw [h.1, hbt], hX.trans (h.2.mono hX.size)⟩
  have hS : ∀ X, Below W3.heap.size W3 X → X.cell? ⟨gb, 0, none⟩ = some (.slice fA g.funcs.length fc) ∧ X.cell? ⟨gb, 1, none⟩ = some (.int .i64 g.mutexes) ∧ X.cell? ⟨gb, 2, none⟩ = some (.slice cA g.conds.length cc) ∧ X.cell? ⟨gb, 3, none⟩ = some (.slice sA g.semas.length sc) ∧ X.cell? ⟨gb, 4, none⟩ = some (.slice hA g.chans.length hc) ∧ X.cell? ⟨gb, 5, none⟩ = some (.slice xA g.choices.length xc) ∧ X.cell? ⟨gb, 6, none⟩ = some (.int .i64 g.threads) ∧ X.cell? ⟨xb, 0, none⟩ = some (.int .i64 x.state) ∧ X.cell? ⟨xb, 1, none⟩ = some (.int .i64 x.on) ∧ X.cell? ⟨xb, 2, none⟩ = some (.slice aX x.frames.length cX) ∧ X.cell? ⟨xb, 3, none⟩ = some (.slice sX x.stack.length dX) ∧ X.cell? ⟨xb, 4, none⟩ = some (.int .i64 x.code) ∧ X.cell? ⟨w.heap.size + 1, 0, none⟩ = some (.int .i64 t1.state) ∧ X.cell? ⟨w.heap.size + 1, 1, none⟩ = some (.int .i64 t1.on) ∧ X.cell? ⟨w.heap.size + 1, 2, none⟩ = some (.slice ht1.fA t1.frames.length ht1.fc) ∧ X.cell? ⟨w.heap.size + 1, 3, none⟩ = some (.slice ht1.sA t1.stack.length ht1.sc) ∧ X.cell? ⟨w.heap.size + 1, 4, none⟩ = some (.int .i64 t1.code) := fun X hX => by
    have k0 := (HMW.out.pb.below hX).pb
    have k1 := HMW.out.bx.below hX HMW.out.bx.lt
    have k2 := NT.out.below hX NT.out.lt
    exact ⟨(k0.cell 0).trans rfl, (k0.cell 1).trans rfl, (k0.cell 2).trans rfl, (k0.cell 3).trans rfl, (k0.cell 4).trans rfl, (k0.cell 5).trans rfl, (k0.cell 6).trans rfl, (k1.cell 0).trans rfl, (k1.cell 1).trans rfl, (k1.cell 2).trans rfl, (k1.cell 3).trans rfl, (k1.cell 4).trans rfl, (k2.cell 0).trans rfl, (k2.cell 1).trans rfl, (k2.cell 2).trans rfl, (k2.cell 3).trans rfl, (k2.cell 4).trans rfl⟩
  have hbq := Below.refl W3.heap.size W3
  have HS := Lib.hid hS; have M1 := Lib.hid hm1; have M2 := Lib.hid hm2; have M3 := Lib.hid hm3
  obtain ⟨n00, n01, n02, n03, n04, n05, n06, n10, n11, n12, n13, n14, n20, n21, n22, n23, n24⟩ := hS W3 hbq
  clear hS hm1 hm2 hm3 hbt hlt1
  go_region_held3 (fun w' => w'.cell? ⟨gb, 0, none⟩ = some (.slice fA g.funcs.length fc) ∧ w'.cell? ⟨gb, 1, none⟩ = some (.int .i64 g.mutexes) ∧ w'.cell? ⟨gb, 2, none⟩ = some (.slice cA g.conds.length cc) ∧ w'.cell? ⟨gb, 3, none⟩ = some (.slice sA g.semas.length sc) ∧ w'.cell? ⟨gb, 4, none⟩ = some (.slice hA g.chans.length hc) ∧ w'.cell? ⟨gb, 5, none⟩ = some (.slice xA g.choices.length xc) ∧ w'.cell? ⟨gb, 6, none⟩ = some (.int .i64 g.threads) ∧ w'.cell? ⟨xb, 0, none⟩ = some (.int .i64 x.state) ∧ w'.cell? ⟨xb, 1, none⟩ = some (.int .i64 x.on) ∧ w'.cell? ⟨xb, 2, none⟩ = some (.slice aX x.frames.length cX) ∧ w'.cell? ⟨xb, 3, none⟩ = some (.slice sX x.stack.length dX) ∧ w'.cell? ⟨xb, 4, none⟩ = some (.int .i64 x.code) ∧ w'.cell? ⟨w.heap.size + 1, 0, none⟩ = some (.int .i64 t1.state) ∧ w'.cell? ⟨w.heap.size + 1, 1, none⟩ = some (.int .i64 t1.on) ∧ w'.cell? ⟨w.heap.size + 1, 2, none⟩ = some (.slice ht1.fA t1.frames.length ht1.fc) ∧ w'.cell? ⟨w.heap.size + 1, 3, none⟩ = some (.slice ht1.sA t1.stack.length ht1.sc) ∧ w'.cell? ⟨w.heap.size + 1, 4, none⟩ = some (.int .i64 t1.code))
    (first | (with_reducible exact HS.out _ hbq) | (with_reducible exact HS.out _ hbq.drew) | go_keep)
    (first
      | (go_simp; go_at_call 13; first
          | ((with_reducible refine (M1.out _ (by first | with_reducible exact hbq | with_reducible exact hbq.drew)).mono ?_); rintro e wq ⟨rfl, hbq⟩)
          | ((with_reducible refine (M2.out _ (by first | with_reducible exact hbq | with_reducible exact hbq.drew)).mono ?_); rintro e wq ⟨rfl, hbq⟩))
      | (go_simp; go_at_call 14; ((with_reducible refine (M3.out _ (by first | with_reducible exact hbq | with_reducible exact hbq.drew)).mono ?_); rintro e wq ⟨rfl, hbq⟩)))
  have hMW := HMW.out.below hbq
  have hbl := hMW.pb.bel
  have NW := Lib.hid hMW
  clear hMW hbq HMW NT NR HS M1 M2 M3 hbl n00 n01 n02 n03 n04 n05 n06 n10 n11 n12 n13 n14 n20 n21 n22 n23 n24
  go_upto_block 0 with fail
  go_cut [] (fun wx => ∃ (hy : TH) (y : TV), MR w wx gb gb ⟨fA, fc, cA, cc, sA, sc, hA, hc, xA, xc⟩ g xb hy y)
  case first =>
    by_cases e0 : a2 = 0
    · have eb0 : (a2 == 0) = true := by simpa using e0
      clear e0
      have c0 := (NW.out.bx.cell 0).trans rfl
      have z0 := NW.out.bx.frozen 0
      go_wp2_with fail
      go_meet
      exact ⟨⟨aX, cX, sX, dX⟩, { x with state := a3 }, NW.out.box ((Fr.refl (fun i => i = xb) _).setCell (p := ⟨xb, 0, none⟩) (.inl rfl) _) (by simpa using NW.out.bx.set_ 0 (.int .i64 a3)) (fun o => ⟨(o.rt.mono (fun _ _ _ => trivial)).frames, (o.rt.mono (fun _ _ _ => trivial)).stack⟩) ⟨NW.out.len.frames, NW.out.len.stack, NW.out.len.locals⟩⟩
    · have eb0 : (a2 == 0) = false := by simpa using e0
      clear e0
      by_cases e1 : a2 = 1
      · have eb1 : (a2 == 1) = true := by simpa using e1
        clear e1
        have c0 := (NW.out.bx.cell 4).trans rfl
        have z0 := NW.out.bx.frozen 4
        go_wp2_with fail
        go_meet
        exact ⟨⟨aX, cX, sX, dX⟩, { x with code := a3 }, NW.out.box ((Fr.refl (fun i => i = xb) _).setCell (p := ⟨xb, 4, none⟩) (.inl rfl) _) (by simpa using NW.out.bx.set_ 4 (.int .i64 a3)) (fun o => ⟨(o.rt.mono (fun _ _ _ => trivial)).frames, (o.rt.mono (fun _ _ _ => trivial)).stack⟩) ⟨NW.out.len.frames, NW.out.len.stack, NW.out.len.locals⟩⟩
      · have eb1 : (a2 == 1) = false := by simpa using e1
        clear e1
        by_cases e2 : a2 = 2
        · have eb2 : (a2 == 2) = true := by simpa using e2
          clear e2
          have hpos := HPOS.out
          obtain ⟨b, cap, hv, hbb, hbz⟩ := NW.out.own.row.form (by omega)
          injection hv with hv1 _ hv2
          subst hv1 hv2
          have hfs := NW.out.own.fs
          obtain ⟨y0, hy0⟩ : ∃ y, ts[0]? = some y := ⟨ts[0]'(by have := congrArg List.length hfs; rw [List.length_map] at this; omega), List.getElem?_eq_getElem _⟩
          obtain ⟨e0, e1, e2⟩ := FrS_at hy0
          have r0 := (NW.out.own.row.cellAt 0 (by omega)).trans e0
          have r1 := (NW.out.own.row.cellAt 1 (by omega)).trans e1
          have r2 := (NW.out.own.row.cellAt 2 (by omega)).trans e2
          have f0 := NW.out.own.row.frozenAt 0
          have f1 := NW.out.own.row.frozenAt 1
          have f2 := NW.out.own.row.frozenAt 2
          have c2 := (NW.out.bx.cell 2).trans rfl
          have hposI : (0 : Int) < (x.frames.length : Int) := by omega
          have hneX : xb ≠ b := fun e => own_blk_ne NW.out.own.row NW.out.bx (by decide) (by simp [Value.ownBlock, e])
          have hneX2 := Ne.symm hneX
          have HY0 := Lib.hid hy0
          clear e0 e1 e2 hfs hy0
          go_wp2_with fail
          go_meet
          exact ⟨⟨some ⟨b, 0, none⟩, cX, sX, dX⟩, _, NW.out.row 1 (.int .i64 a3) (NW.out.own.setPc HY0.out a3) rfl rfl (by simp) rfl rfl ⟨by simpa using NW.out.len.frames, NW.out.len.stack, fun f hf => by have h0 := NW.out.len.locals; have hyl := h0 y0.f (by rw [← NW.out.own.fs]; exact List.mem_map_of_mem (List.mem_of_getElem? HY0.out)); rcases List.mem_or_eq_of_mem_set hf with hf | rfl <;> first | exact h0 f hf | exact hyl⟩⟩
        · have eb2 : (a2 == 2) = false := by simpa using e2
          clear e2
          by_cases e3 : a2 = 3
          · have eb3 : (a2 == 3) = true := by simpa using e3
            clear e3
            have hpos := HPOS.out
            obtain ⟨b, cap, hv, hbb, hbz⟩ := NW.out.own.row.form (by omega)
            injection hv with hv1 _ hv2
            subst hv1 hv2
            have hfs := NW.out.own.fs
            obtain ⟨y0, hy0⟩ : ∃ y, ts[0]? = some y := ⟨ts[0]'(by have := congrArg List.length hfs; rw [List.length_map] at this; omega), List.getElem?_eq_getElem _⟩
            obtain ⟨e0, e1, e2⟩ := FrS_at hy0
            have r0 := (NW.out.own.row.cellAt 0 (by omega)).trans e0
            have r1 := (NW.out.own.row.cellAt 1 (by omega)).trans e1
            have r2 := (NW.out.own.row.cellAt 2 (by omega)).trans e2
            have f0 := NW.out.own.row.frozenAt 0
            have f1 := NW.out.own.row.frozenAt 1
            have f2 := NW.out.own.row.frozenAt 2
            have c2 := (NW.out.bx.cell 2).trans rfl
            have hposI : (0 : Int) < (x.frames.length : Int) := by omega
            have hneX : xb ≠ b := fun e => own_blk_ne NW.out.own.row NW.out.bx (by decide) (by simp [Value.ownBlock, e])
            have hneX2 := Ne.symm hneX
            have HY0 := Lib.hid hy0
            clear e0 e1 e2 hfs hy0
            go_wp2_with fail
            go_meet
            exact ⟨⟨some ⟨b, 0, none⟩, cX, sX, dX⟩, _, NW.out.row 0 (.int .i64 a3) (NW.out.own.setFn HY0.out a3) rfl rfl (by simp) rfl rfl ⟨by simpa using NW.out.len.frames, NW.out.len.stack, fun f hf => by have h0 := NW.out.len.locals; have hyl := h0 y0.f (by rw [← NW.out.own.fs]; exact List.mem_map_of_mem (List.mem_of_getElem? HY0.out)); rcases List.mem_or_eq_of_mem_set hf with hf | rfl <;> first | exact h0 f hf | exact hyl⟩⟩
          · have eb3 : (a2 == 3) = false := by simpa using e3
            clear e3
            by_cases e4 : a2 = 4
            · have eb4 : (a2 == 4) = true := by simpa using e4
              clear e4
              have hpos := HPOS.out
              obtain ⟨b, cap, hv, hbb, hbz⟩ := NW.out.own.row.form (by omega)
              injection hv with hv1 _ hv2
              subst hv1 hv2
              have hfs := NW.out.own.fs
              obtain ⟨y0, hy0⟩ : ∃ y, ts[0]? = some y := ⟨ts[0]'(by have := congrArg List.length hfs; rw [List.length_map] at this; omega), List.getElem?_eq_getElem _⟩
              obtain ⟨e0, e1, e2⟩ := FrS_at hy0
              have r0 := (NW.out.own.row.cellAt 0 (by omega)).trans e0
              have r1 := (NW.out.own.row.cellAt 1 (by omega)).trans e1
              have r2 := (NW.out.own.row.cellAt 2 (by omega)).trans e2
              have f0 := NW.out.own.row.frozenAt 0
              have f1 := NW.out.own.row.frozenAt 1
              have f2 := NW.out.own.row.frozenAt 2
              have c2 := (NW.out.bx.cell 2).trans rfl
              have hposI : (0 : Int) < (x.frames.length : Int) := by omega
              have hneX : xb ≠ b := fun e => own_blk_ne NW.out.own.row NW.out.bx (by decide) (by simp [Value.ownBlock, e])
              have hneX2 := Ne.symm hneX
              have HY0 := Lib.hid hy0
              clear e0 e1 e2 hfs hy0
              have hn2 := HN2.out
              have har := fun W => around_any a3 10 W hn2.1 hn2.2 (by decide) (by decide)
              obtain ⟨hbd0, hbd1⟩ := around_bd a3 10 (by decide)
              have HAR := Lib.hid har
              clear har
              obtain ⟨k, hk⟩ := Int.eq_ofNat_of_zero_le hbd0
              rw [hk] at HAR hbd1
              have hmk := make_ints k (by omega)
              clear hbd0 hk
              go_upto_region 16 with fail
              obtain ⟨WF, hWF⟩ : ∃ W, W = wq := ⟨_, rfl⟩
              rw [← hWF] at NW c2 r0 r1 r2 f0 f1 f2 ⊢
              clear hWF
              have hS : ∀ X, Below WF.heap.size WF X → X.cell? ⟨xb, 2, none⟩ = some (.slice (some ⟨b, 0, none⟩) x.frames.length cX) := fun X hX => ((NW.out.bx.below hX NW.out.bx.lt).cell 2).trans rfl
              have hS2 : ∀ X v, Below WF.heap.size WF X → (X.setCell ⟨b, 2, none⟩ v).cell? ⟨xb, 2, none⟩ = some (.slice (some ⟨b, 0, none⟩) x.frames.length cX) := fun X v hX => (cell_far _ _ _ _ hneX).trans (hS X hX)
              have HS := Lib.hid hS; have HS2 := Lib.hid hS2
              have hb0 := Below.refl WF.heap.size WF
              have hbl := NW.out.own.row.lt b rfl
              have hb1 : ∀ o, Below WF.heap.size WF (WF.alloc o) := fun o => hb0.alloc (Nat.le_refl _) o
              have q2 : ∀ o, (WF.alloc o).cell? ⟨b, 2, none⟩ = some (.slice y0.A y0.f.locals.length y0.c) := fun o => (World.cell?_alloc_lt _ _ _ hbl.2).trans r2
              have g2 : ∀ o, (WF.alloc o).frozen? ⟨b, 2, none⟩ = false := fun o => (hb1 o).frozen (p := ⟨b, 2, none⟩) hbl.2 |>.trans f2
              clear hS hS2
              go_region_held3 (fun w' => w'.cell? ⟨xb, 2, none⟩ = some (.slice (some ⟨b, 0, none⟩) x.frames.length cX))
                (first | (with_reducible exact HS.out _ hb0) | (with_reducible exact HS.out _ hb0.drew) | (with_reducible exact HS.out _ (hb1 _)) | (with_reducible exact HS.out _ (hb1 _).drew) | (with_reducible exact HS2.out _ _ (hb1 _)) | (with_reducible exact HS2.out _ _ (hb1 _).drew) | go_keep)
                (first
                  | (go_simp; go_at_call 15; refine (HAR.out _).mono ?_; rintro e w6 ⟨rfl, rfl⟩))
              have hap : ∀ i, (Value.slice (some ⟨WF.heap.size, 0, none⟩) k k).ownBlock = some i → (Value.slice sX x.stack.length dX).ownBlock ≠ some i := fun i hi e => by
                have := (NW.out.own.stk.lt i e).2
                have hi' : WF.heap.size = i := by simpa [Value.ownBlock] using hi
                omega
              have hbs := (NW.out.own.row.lt b rfl).1
              have hbase : W2.heap.size ≤ WF.heap.size := by omega
              have mB := NW.out.below (hb1 (.cells (madeCells #[.int .i64 0] k) 3))
              have hlo := mB.own.setLo HY0.out (List.replicate k 0) (some ⟨WF.heap.size, 0, none⟩) k (by simpa using own_mono (own_made WF k (by omega)) hbase) (by simpa using hap)
              have mR := mB.row (y := { x with frames := x.frames.set 0 { y0.f with locals := List.replicate k 0 } }) 2 (.slice (some ⟨WF.heap.size, 0, none⟩) k k) (by simpa using hlo) rfl rfl (by simp) rfl rfl ⟨by simpa using NW.out.len.frames, NW.out.len.stack, fun f hf => by have h0 := NW.out.len.locals; have hyl := h0 y0.f (by rw [← NW.out.own.fs]; exact List.mem_map_of_mem (List.mem_of_getElem? HY0.out)); rcases List.mem_or_eq_of_mem_set hf with hf | rfl <;> first | exact h0 f hf | (simp; omega)⟩
              rw [World.setCell_alloc_past _ _ _ _ hbl.2] at mR
              have HM := Lib.hid mR.drew
              clear hap hbs hbase mB hlo mR
              go_wp2_with fail
              go_meet
              exact ⟨_, _, HM.out⟩
            · have eb4 : (a2 == 4) = false := by simpa using e4
              clear e4
              by_cases e5 : a2 = 5
              · have eb5 : (a2 == 5) = true := by simpa using e5
                clear e5
                have hS16 := HS16.out
                have c3 := (NW.out.bx.cell 3).trans rfl
                obtain ⟨WF, hWF⟩ : ∃ W, W = wq := ⟨_, rfl⟩
                rw [← hWF] at NW c3 ⊢
                clear hWF
                have hba : Below WF.heap.size WF (WF.alloc (.cells #[.int .i64 a3] 3)) := (Below.refl _ _).alloc (Nat.le_refl _) _
                have mA := NW.out.below hba
                have hbs : W2.heap.size ≤ WF.heap.size := by
                  obtain ⟨b, cap, hv, hbb, hbz⟩ := NW.out.own.row.form HPOS.out
                  have h1 := NW.out.own.row.lt b (by rw [hv]; rfl)
                  omega
                have MA := Lib.hid mA
                clear mA hba
                go_wp2_with (at_builtin; go_must (refine wpList_append_any _ rfl (.tmp 66) (.tmp 68) _ rfl W2.heap.size 3 i0 _ 1 8 Try.underlying23 hi0 hz0 hz1 hz2 rfl (by decide) (.slice sX x.stack.length dX) _ _ rfl MA.out.own.stk (WF.heap.size + 1) (some ⟨WF.heap.size, 0, none⟩) 1 1 [.int .i64 a3] rfl ?c0 ?c3 ?c1 ?c2 (by simp; omega) ?k))
                case c0 => exact ⟨rfl, fun _ => ⟨_, rfl, by simp, fun j u hj => by
                  match j, hj with
                  | 0, hj => simp at hj; subst hj; simp [Addr.add]⟩⟩
                case c3 => first | rfl | (intro u hu; have e := List.mem_singleton.1 hu; subst e; rfl)
                case c1 => unfold maxLen; omega
                case c2 => omega
                case k =>
                intro v' w8 hown8 hg8 hat8
                obtain ⟨A8, c8, rfl, _, _⟩ := own_slice hown8
                obtain ⟨hb8, hm8⟩ := MA.out.push a3 hown8 hg8 (by rw [World.size_alloc]; exact hat8) hS16
                have k3 := (hb8.cell 3).trans rfl
                have z3 := hb8.frozen 3
                have HM := Lib.hid hm8
                clear hown8 hg8 hat8 hb8 hm8 c3
                go_wp2_with fail
                go_meet
                exact ⟨_, _, HM.out⟩
              · have eb5 : (a2 == 5) = false := by simpa using e5
                clear e5
                by_cases e6 : a2 = 6
                · have eb6 : (a2 == 6) = true := by simpa using e6
                  clear e6
                  have c0 := (NW.out.bx.cell 1).trans rfl
                  have z0 := NW.out.bx.frozen 1
                  go_wp2_with fail
                  go_meet
                  exact ⟨⟨aX, cX, sX, dX⟩, { x with on := a3 }, NW.out.box ((Fr.refl (fun i => i = xb) _).setCell (p := ⟨xb, 1, none⟩) (.inl rfl) _) (by simpa using NW.out.bx.set_ 1 (.int .i64 a3)) (fun o => ⟨(o.rt.mono (fun _ _ _ => trivial)).frames, (o.rt.mono (fun _ _ _ => trivial)).stack⟩) ⟨NW.out.len.frames, NW.out.len.stack, NW.out.len.locals⟩⟩
                · have eb6 : (a2 == 6) = false := by simpa using e6
                  clear e6
                  by_cases e7 : a2 = 7
                  · have eb7 : (a2 == 7) = true := by simpa using e7
                    clear e7
                    have c2 := (NW.out.bx.cell 2).trans rfl
                    have z2 := NW.out.bx.frozen 2
                    go_wp2_with fail
                    go_meet
                    exact ⟨⟨none, 0, sX, dX⟩, { x with frames := [] }, NW.out.box ((Fr.refl (fun i => i = xb) _).setCell (p := ⟨xb, 2, none⟩) (.inl rfl) _) (by simpa using NW.out.bx.set_ 2 (.slice none 0 0)) (fun o => ⟨rgd_nil, (o.rt.mono (fun _ _ _ => trivial)).stack⟩) ⟨by simp, NW.out.len.stack, fun f hf => by simp at hf⟩⟩
                  · have eb7 : (a2 == 7) = false := by simpa using e7
                    clear e7
                    have c0 := (NW.out.bx.cell 0).trans rfl
                    have c1 := (NW.out.bx.cell 1).trans rfl
                    have c2 := (NW.out.bx.cell 2).trans rfl
                    have c3 := (NW.out.bx.cell 3).trans rfl
                    have c4 := (NW.out.bx.cell 4).trans rfl
                    go_wp2_with fail
                    refine (refEnd_any a3 _).mono ?_
                    rintro e w9 ⟨rfl, hb9⟩
                    have m9 := NW.out.below hb9
                    have M9 := Lib.hid m9
                    have c0 := (m9.bx.cell 0).trans rfl
                    have c1 := (m9.bx.cell 1).trans rfl
                    have c2 := (m9.bx.cell 2).trans rfl
                    have c3 := (m9.bx.cell 3).trans rfl
                    have c4 := (m9.bx.cell 4).trans rfl
                    have z0 := m9.bx.frozen 0
                    have z1 := m9.bx.frozen 1
                    have z2 := m9.bx.frozen 2
                    have z3 := m9.bx.frozen 3
                    have z4 := m9.bx.frozen 4
                    clear m9 hb9
                    go_wp2_with fail
                    go_meet
                    exact ⟨⟨none, 0, none, 0⟩, ⟨9, 0, [], [], a3⟩, M9.out.box ((Fr.refl (fun i => i = xb) w9).set5 (g := xb) (.inl rfl) _ _ _ _ _) (Blk.set5 M9.out.bx _ _ _ _ _) (fun _ => ⟨rgd_nil, rid_nil⟩) ⟨by simp, by simp, fun f hf => by simp at hf⟩⟩
  case rest =>
  obtain ⟨hy, y, m⟩ := hcut
  obtain ⟨aY, cY, sY, dY⟩ := hy
  obtain ⟨WR, hWR⟩ : ∃ W, W = wc := ⟨_, rfl⟩
  rw [← hWR] at m ⊢
  clear hWR NW HPOS HS16
  obtain ⟨bt2, hbt2⟩ : ∃ b, mayT g y = b := ⟨_, rfl⟩
  obtain ⟨kn, hkn⟩ : ∃ k, keep a3 = k := ⟨_, rfl⟩
  have hm1 : ∀ X, Below WR.heap.size WR X → Calls Try.prog 13 #[.agg #[.slice fA g.funcs.length fc, .int .i64 g.mutexes, .slice cA g.conds.length cc, .slice sA g.semas.length sc, .slice hA g.chans.length hc, .slice xA g.choices.length xc, .int .i64 g.threads], .agg #[.int .i64 y.state, .int .i64 y.on, .slice aY y.frames.length cY, .slice sY y.stack.length dY, .int .i64 y.code]] X fun e w' => e = .returned (.bool bt2) ∧ Below WR.heap.size WR w' := fun X hX => by
    have hp := m.pb.below hX
    exact (may_any ⟨fA, fc, cA, cc, sA, sc, hA, hc, xA, xc⟩ g X gb hp.rp hp.hBP HGL.out ⟨aY, cY, sY, dY⟩ y _ (m.tb.below hX).rt m.len).mono fun e w' h => ⟨by rw [h.1, hbt2], hX.trans (h.2.mono hX.size)⟩
  have hm2 : ∀ X, Below WR.heap.size WR X → Calls Try.prog 14 #[.agg #[.slice fA g.funcs.length fc, .int .i64 g.mutexes, .slice cA g.conds.length cc, .slice sA g.semas.length sc, .slice hA g.chans.length hc, .slice xA g.choices.length xc, .int .i64 g.threads], .agg #[.int .i64 y.state, .int .i64 y.on, .slice aY y.frames.length cY, .slice sY y.stack.length dY, .int .i64 y.code]] X fun e w' => e = .returned (.bool bt2) ∧ Below WR.heap.size WR w' := fun X hX => by
    have hp := m.pb.below hX
    exact (refMay_any ⟨fA, fc, cA, cc, sA, sc, hA, hc, xA, xc⟩ g X gb hp.rp hp.hBP HGL.out ⟨aY, cY, sY, dY⟩ y _ (m.tb.below hX).rt m.len).mono fun e w' h => ⟨by rw [h.1, hbt2], hX.trans (h.2.mono hX.size)⟩
  have hm3 : ∀ X, Below WR.heap.size WR X → Calls Try.prog 17 #[.int .i64 a3] X fun e w' => e = .returned (.int .i64 kn) ∧ Below WR.heap.size WR w' := fun X hX =>
    (keep_any a3 X).mono fun e w' h => ⟨by rw [h.1, hkn], by rw [h.2]; exact hX⟩
  have hm4 : ∀ X, Below WR.heap.size WR X → Calls Try.prog 18 #[.int .i64 a3] X fun e w' => e = .returned (.int .i64 kn) ∧ Below WR.heap.size WR w' := fun X hX =>
    (refKeep_any a3 X).mono fun e w' h => ⟨by rw [h.1, hkn], by rw [h.2]; exact hX⟩
  have hm5 : ∀ X, Below WR.heap.size WR X → Calls Try.prog 19 #[] X fun e w' => e = .returned (.bool true) ∧ Below WR.heap.size WR w' := fun X hX =>
    (slives_any X).mono fun e w' h => ⟨h.1, hX.trans (h.2.mono hX.size)⟩
  have hS : ∀ X, Below WR.heap.size WR X → X.cell? ⟨gb, 0, none⟩ = some (.slice fA g.funcs.length fc) ∧ X.cell? ⟨gb, 1, none⟩ = some (.int .i64 g.mutexes) ∧ X.cell? ⟨gb, 2, none⟩ = some (.slice cA g.conds.length cc) ∧ X.cell? ⟨gb, 3, none⟩ = some (.slice sA g.semas.length sc) ∧ X.cell? ⟨gb, 4, none⟩ = some (.slice hA g.chans.length hc) ∧ X.cell? ⟨gb, 5, none⟩ = some (.slice xA g.choices.length xc) ∧ X.cell? ⟨gb, 6, none⟩ = some (.int .i64 g.threads) ∧ X.cell? ⟨xb, 0, none⟩ = some (.int .i64 y.state) ∧ X.cell? ⟨xb, 1, none⟩ = some (.int .i64 y.on) ∧ X.cell? ⟨xb, 2, none⟩ = some (.slice aY y.frames.length cY) ∧ X.cell? ⟨xb, 3, none⟩ = some (.slice sY y.stack.length dY) ∧ X.cell? ⟨xb, 4, none⟩ = some (.int .i64 y.code) := fun X hX => by
    have k0 := (m.pb.below hX).pb
    have k1 := (m.tb.below hX).tb
    exact ⟨(k0.cell 0).trans rfl, (k0.cell 1).trans rfl, (k0.cell 2).trans rfl, (k0.cell 3).trans rfl, (k0.cell 4).trans rfl, (k0.cell 5).trans rfl, (k0.cell 6).trans rfl, (k1.cell 0).trans rfl, (k1.cell 1).trans rfl, (k1.cell 2).trans rfl, (k1.cell 3).trans rfl, (k1.cell 4).trans rfl⟩
  have hbq := Below.refl WR.heap.size WR
  have HS := Lib.hid hS; have M1 := Lib.hid hm1; have M2 := Lib.hid hm2; have M3 := Lib.hid hm3; have M4 := Lib.hid hm4; have M5 := Lib.hid hm5; have HBL := Lib.hid m.pb.bel
  obtain ⟨o00, o01, o02, o03, o04, o05, o06, o10, o11, o12, o13, o14⟩ := hS WR hbq
  clear hS hm1 hm2 hm3 hm4 hm5 hbt2 hkn m
  go_upto_region 23 with fail
  go_region_held3 (fun w' => w'.cell? ⟨gb, 0, none⟩ = some (.slice fA g.funcs.length fc) ∧ w'.cell? ⟨gb, 1, none⟩ = some (.int .i64 g.mutexes) ∧ w'.cell? ⟨gb, 2, none⟩ = some (.slice cA g.conds.length cc) ∧ w'.cell? ⟨gb, 3, none⟩ = some (.slice sA g.semas.length sc) ∧ w'.cell? ⟨gb, 4, none⟩ = some (.slice hA g.chans.length hc) ∧ w'.cell? ⟨gb, 5, none⟩ = some (.slice xA g.choices.length xc) ∧ w'.cell? ⟨gb, 6, none⟩ = some (.int .i64 g.threads) ∧ w'.cell? ⟨xb, 0, none⟩ = some (.int .i64 y.state) ∧ w'.cell? ⟨xb, 1, none⟩ = some (.int .i64 y.on) ∧ w'.cell? ⟨xb, 2, none⟩ = some (.slice aY y.frames.length cY) ∧ w'.cell? ⟨xb, 3, none⟩ = some (.slice sY y.stack.length dY) ∧ w'.cell? ⟨xb, 4, none⟩ = some (.int .i64 y.code))
    (first | (with_reducible exact HS.out _ hbq) | (with_reducible exact HS.out _ hbq.drew) | go_keep)
    (first
      | (go_simp; go_at_call 13; ((with_reducible refine (M1.out _ (by first | with_reducible exact hbq | with_reducible exact hbq.drew)).mono ?_); rintro e wq ⟨rfl, hbq⟩))
      | (go_simp; go_at_call 14; ((with_reducible refine (M2.out _ (by first | with_reducible exact hbq | with_reducible exact hbq.drew)).mono ?_); rintro e wq ⟨rfl, hbq⟩))
      | (go_simp; go_at_call 17; ((with_reducible refine (M3.out _ (by first | with_reducible exact hbq | with_reducible exact hbq.drew)).mono ?_); rintro e wq ⟨rfl, hbq⟩))
      | (go_simp; go_at_call 18; ((with_reducible refine (M4.out _ (by first | with_reducible exact hbq | with_reducible exact hbq.drew)).mono ?_); rintro e wq ⟨rfl, hbq⟩))
      | (go_simp; go_at_call 19; ((with_reducible refine (M5.out _ (by first | with_reducible exact hbq | with_reducible exact hbq.drew)).mono ?_); rintro e wq ⟨rfl, hbq⟩)))
  all_goals
    go_wp2_with fail
    go_ret
    exact ⟨rfl, HBL.out.trans (hbq.mono HBL.out.size)⟩
end Go.Proofs.Ytbgdgfnbdipjkaa.stackMay
