/-
  The walk of StackRound.
-/
import Derived.Test.YthjfcpdebflppaaRows
import Derived.WalkKit
import Derived.ProofKit
import Derived.OpenShut
import Derived.ShutString
import Derived.ChangeOld
import Derived.Below
import Derived.Test.YthjfcpdebflppaaSBox
import Derived.Test.YthjfcpdebflppaaPrOpen
import Derived.Test.YthjfcpdebflppaaThrOpen
namespace Go.Proofs.Ythjfcpdebflppaa.stackRound
open Go.ChangeShapes Go.WideShapes Go.ChangeAt Go.RowKit Go.Proofs.Ythjfcpdebflppaa Go.Proofs.Ythjfcpdebflppaa.Plain
open Go.ChangeMaps (open_string shut_string)
set_option linter.unusedVariables false


set_option maxRecDepth 100000 in
set_option maxHeartbeats 40000000 in
theorem walk (hd0 : PH) (q0 : PV) (ht1 : TH) (t1 : TV) (a2 : Int) (w : World) (w0 : RP w w.heap.size hd0 q0 ∧ Fit q0 ∧ Lens q0) (w1 : RT w (fun _ => True) ht1 t1 ∧ FitT t1 ∧ LenT t1) (w2 : (Lit.int .i64 a2).wf = true) :
    Calls Try.prog 10 #[.agg #[.slice hd0.fA q0.funcs.length hd0.fc, .int .i64 q0.mutexes, .slice hd0.cA q0.conds.length hd0.cc, .slice hd0.sA q0.semas.length hd0.sc, .slice hd0.hA q0.chans.length hd0.hc, .slice hd0.xA q0.choices.length hd0.xc, .int .i64 q0.threads], .agg #[.int .i64 t1.state, .int .i64 t1.on, .slice ht1.fA t1.frames.length ht1.fc, .slice ht1.sA t1.stack.length ht1.sc, .int .i64 t1.code], .int .i64 a2] w fun e w' => e = .returned (.bool true) ∧ Below w.heap.size w w' := by
  obtain ⟨hrp, hfit, hlen⟩ := w0
  obtain ⟨hrt, hfitT, hlenT⟩ := w1
  have hv := bounds_i64 w2
  have HR := Lib.hid hrp; have HF := Lib.hid hfit; have HL := Lib.hid hlen; have HT := Lib.hid hrt; have HFT := Lib.hid hfitT; have HLT := Lib.hid hlenT
  clear hrp hfit hlen hrt hfitT hlenT w2
  go_enter Try.func10, Try.ntmps10
  go_wp2_with fail
  refine (good_any hd0 q0 _ w.heap.size ((HR.out.alloc (Nat.le_refl _) _).alloc (by simp) _) (by simp; omega) HF.out).mono ?_
  rintro e w1 hm
  obtain ⟨hg, rfl, hrp, hb⟩ := hm.rp
  have hgl := good_lens q0
  have hgn := good_funcs_len q0
  have hgf := good_few q0
  have hgc := good_code_len q0
  clear hm
  generalize good q0 = g at *
  obtain ⟨fA, fc, cA, cc, sA, sc, hA, hc, xA, xc⟩ := hg
  simp only at hrp ⊢
  have hb0 : Below w.heap.size w ((w.alloc (.cells #[.slice hd0.fA q0.funcs.length hd0.fc, .int .i64 q0.mutexes, .slice hd0.cA q0.conds.length hd0.cc, .slice hd0.sA q0.semas.length hd0.sc, .slice hd0.hA q0.chans.length hd0.hc, .slice hd0.xA q0.choices.length hd0.xc, .int .i64 q0.threads] 26)).alloc (.cells #[.int .i64 t1.state, .int .i64 t1.on, .slice ht1.fA t1.frames.length ht1.fc, .slice ht1.sA t1.stack.length ht1.sc, .int .i64 t1.code] 51)) := ((Below.refl _ _).alloc (Nat.le_refl _) _).alloc (by simp) _
  have hbk : Blk ((w.alloc (.cells #[.slice hd0.fA q0.funcs.length hd0.fc, .int .i64 q0.mutexes, .slice hd0.cA q0.conds.length hd0.cc, .slice hd0.sA q0.semas.length hd0.sc, .slice hd0.hA q0.chans.length hd0.hc, .slice hd0.xA q0.choices.length hd0.xc, .int .i64 q0.threads] 26)).alloc (.cells #[.int .i64 t1.state, .int .i64 t1.on, .slice ht1.fA t1.frames.length ht1.fc, .slice ht1.sA t1.stack.length ht1.sc, .int .i64 t1.code] 51)) (w.heap.size + 1) 51 #[.int .i64 t1.state, .int .i64 t1.on, .slice ht1.fA t1.frames.length ht1.fc, .slice ht1.sA t1.stack.length ht1.sc, .int .i64 t1.code] := by
    simpa using Blk.new (w.alloc (.cells #[.slice hd0.fA q0.funcs.length hd0.fc, .int .i64 q0.mutexes, .slice hd0.cA q0.conds.length hd0.cc, .slice hd0.sA q0.semas.length hd0.sc, .slice hd0.hA q0.chans.length hd0.hc, .slice hd0.xA q0.choices.length hd0.xc, .int .i64 q0.threads] 26)) 51 #[.int .i64 t1.state, .int .i64 t1.on, .slice ht1.fA t1.frames.length ht1.fc, .slice ht1.sA t1.stack.length ht1.sc, .int .i64 t1.code]
  have hbw1 : Below w.heap.size w w1 := hb0.trans (hb.mono (by simp; omega))
  have hbk1 := (hbk.below hb (by simp)).alloc (.cells #[.slice fA g.funcs.length fc, .int .i64 g.mutexes, .slice cA g.conds.length cc, .slice sA g.semas.length sc, .slice hA g.chans.length hc, .slice xA g.choices.length xc, .int .i64 g.threads] 26)
  have hT1 := HT.out.below (hbw1.alloc hbw1.size (.cells #[.slice fA g.funcs.length fc, .int .i64 g.mutexes, .slice cA g.conds.length cc, .slice sA g.semas.length sc, .slice hA g.chans.length hc, .slice xA g.choices.length xc, .int .i64 g.threads] 26))
  have z1 : w.heap.size + 2 ≤ w1.heap.size := by have := hb.size; simpa using this
  have hPB : PB w (w1.alloc (.cells #[.slice fA g.funcs.length fc, .int .i64 g.mutexes, .slice cA g.conds.length cc, .slice sA g.semas.length sc, .slice hA g.chans.length hc, .slice xA g.choices.length xc, .int .i64 g.threads] 26)) w1.heap.size w1.heap.size ⟨fA, fc, cA, cc, sA, sc, hA, hc, xA, xc⟩ g := ⟨Blk.new _ _ _, hrp.alloc (Nat.le_refl _) _, hbw1.alloc hbw1.size _, by simp⟩
  obtain ⟨gb, hgb⟩ : ∃ b, b = w1.heap.size := ⟨_, rfl⟩
  have HPB := Lib.hid hPB; have HB1 := Lib.hid hbk1; have HT1 := Lib.hid hT1; have HGL := Lib.hid hgl; have HGF := Lib.hid hgf; have HGC := Lib.hid hgc
  clear hrp hb hgl hgf hgc hb0 hbk hbw1 hbk1 hT1 hPB
  go_upto_region 2 with fail
  obtain ⟨W2, hW2⟩ : ∃ W, W = w1.alloc (.cells #[.slice fA g.funcs.length fc, .int .i64 g.mutexes, .slice cA g.conds.length cc, .slice sA g.semas.length sc, .slice hA g.chans.length hc, .slice xA g.choices.length xc, .int .i64 g.threads] 26) := ⟨_, rfl⟩
  rw [← hW2] at HPB HB1 HT1 ⊢
  rw [← hgb] at HPB ⊢
  clear hW2
  have p0 : W2.cell? ⟨gb, 0, none⟩ = some (.slice fA g.funcs.length fc) := (HPB.out.pb.cell 0).trans rfl
  have p1 : W2.cell? ⟨gb, 1, none⟩ = some (.int .i64 g.mutexes) := (HPB.out.pb.cell 1).trans rfl
  have p2 : W2.cell? ⟨gb, 2, none⟩ = some (.slice cA g.conds.length cc) := (HPB.out.pb.cell 2).trans rfl
  have p3 : W2.cell? ⟨gb, 3, none⟩ = some (.slice sA g.semas.length sc) := (HPB.out.pb.cell 3).trans rfl
  have p4 : W2.cell? ⟨gb, 4, none⟩ = some (.slice hA g.chans.length hc) := (HPB.out.pb.cell 4).trans rfl
  have p5 : W2.cell? ⟨gb, 5, none⟩ = some (.slice xA g.choices.length xc) := (HPB.out.pb.cell 5).trans rfl
  have p6 : W2.cell? ⟨gb, 6, none⟩ = some (.int .i64 g.threads) := (HPB.out.pb.cell 6).trans rfl
  have y0 : W2.cell? ⟨w.heap.size + 1, 0, none⟩ = some (.int .i64 t1.state) := (HB1.out.cell 0).trans rfl
  have y1 : W2.cell? ⟨w.heap.size + 1, 1, none⟩ = some (.int .i64 t1.on) := (HB1.out.cell 1).trans rfl
  have y2 : W2.cell? ⟨w.heap.size + 1, 2, none⟩ = some (.slice ht1.fA t1.frames.length ht1.fc) := (HB1.out.cell 2).trans rfl
  have y3 : W2.cell? ⟨w.heap.size + 1, 3, none⟩ = some (.slice ht1.sA t1.stack.length ht1.sc) := (HB1.out.cell 3).trans rfl
  have y4 : W2.cell? ⟨w.heap.size + 1, 4, none⟩ = some (.int .i64 t1.code) := (HB1.out.cell 4).trans rfl
  have zg := HPB.out.pb.lt
  clear hgb z1
  go_wp2_with fail
  refine (good4_any ⟨fA, fc, cA, cc, sA, sc, hA, hc, xA, xc⟩ g W2 gb HPB.out.rp HPB.out.hBP HGF.out HGL.out (fun f hf => by have := HGC.out f hf; omega) hgn.1 ht1 t1 _ HT1.out HFT.out HLT.out).mono ?_
  rintro e w3 ⟨ht, rfl, hrt3, hb3⟩
  have hmay := goodT_may HGF.out hgn.1 t1
  have hst : (goodT g t1).state = 0 := rfl
  generalize goodT g t1 = x at *
  obtain ⟨tA, tc, kA, kc⟩ := ht
  simp only at hrt3 ⊢
  have hTB := TB.new hrt3
  have hPB3 := (HPB.out.below hb3).below ((Below.refl _ _).alloc (Nat.le_refl _) (.cells #[.int .i64 x.state, .int .i64 x.on, .slice tA x.frames.length tc, .slice kA x.stack.length kc, .int .i64 x.code] 51))
  have hlx := lenT_may hmay
  obtain ⟨xb, hxb⟩ : ∃ b, b = w3.heap.size := ⟨_, rfl⟩
  have HTB := Lib.hid hTB; have HPB3 := Lib.hid hPB3; have HMAY := Lib.hid hmay; have HST := Lib.hid hst
  clear hTB hPB3 hmay hst hrt3 hb3 HPB p0 p1 p2 p3 p4 p5 p6 y0 y1 y2 y3 y4 zg HB1 HT1
  go_upto_region 3 with fail
  obtain ⟨W3, hW3⟩ : ∃ W, W = w3.alloc (.cells #[.int .i64 x.state, .int .i64 x.on, .slice tA x.frames.length tc, .slice kA x.stack.length kc, .int .i64 x.code] 51) := ⟨_, rfl⟩
  rw [← hW3] at HTB HPB3 ⊢
  rw [← hxb] at HTB ⊢
  clear hW3 hxb
  have hlt := lensT_may HGF.out HMAY.out
  have hne9 : x.state ≠ 9 := by rw [HST.out]; decide
  have HLX := Lib.hid hlx; have HLXT := Lib.hid hlt; have HNE := Lib.hid hne9
  clear hlx hlt hne9
  have x0 : W3.cell? ⟨xb, 0, none⟩ = some (.int .i64 x.state) := (HTB.out.tb.cell 0).trans rfl
  have x1 : W3.cell? ⟨xb, 1, none⟩ = some (.int .i64 x.on) := (HTB.out.tb.cell 1).trans rfl
  have x2 : W3.cell? ⟨xb, 2, none⟩ = some (.slice tA x.frames.length tc) := (HTB.out.tb.cell 2).trans rfl
  have x3 : W3.cell? ⟨xb, 3, none⟩ = some (.slice kA x.stack.length kc) := (HTB.out.tb.cell 3).trans rfl
  have x4 : W3.cell? ⟨xb, 4, none⟩ = some (.int .i64 x.code) := (HTB.out.tb.cell 4).trans rfl
  have zx := HTB.out.tb.lt
  have hfb := around_bd a2 g.funcs.length (by omega)
  have har := fun W => around_any a2 g.funcs.length W hv.1 hv.2 (by omega) (by omega)
  have HAR := Lib.hid har
  clear har
  generalize around a2 g.funcs.length = f0 at *
  obtain ⟨f, rfl⟩ := Int.eq_ofNat_of_zero_le hfb.1
  have hfn : f < g.funcs.length := by omega
  clear hfb
  obtain ⟨one, a, hone, ha⟩ : ∃ (one : Bool) (a : TV), Hid (one = decide ((x.stack.length : Int) < 16)) ∧ Hid (a = if x.stack.length < 16 then pushT x a2 else x) := ⟨_, _, rfl, rfl⟩
  go_upto_region 3 with fail
  go_cut [9, 10] (fun s9 s10 wx => ∃ (ab : Nat) (h' : TH), s9 = .pointer (some ⟨ab, 0, none⟩) ∧ s10 = .bool one ∧ TB wx ab h' a ∧ Below W3.heap.size W3 wx)
  case first =>
    by_cases h16 : x.stack.length < 16
    · have h1 : one = true := by rw [hone.out]; simp; omega
      have h2 : a = pushT x a2 := by rw [ha.out, if_pos h16]
      subst h1 h2
      clear hone ha
      go_wp2_with fail
      refine (push_yes ⟨tA, tc, kA, kc⟩ x a2 W3 _ HTB.out.rt HLXT.out h16).mono ?_
      rintro e w5 ⟨⟨uA, uc, vA, vc⟩, rfl, hrt5, hb5⟩
      have HRT5 := Lib.hid hrt5; have HB5 := Lib.hid hb5
      clear hrt5 hb5 x0 x1 x2 x3 x4 zx HTB HPB3 HAR
      go_wp2_with fail
      go_meet
      exact ⟨_, ⟨uA, uc, vA, vc⟩, rfl, rfl, TB.new HRT5.out, HB5.out.alloc HB5.out.size _⟩
    · have h1 : one = false := by rw [hone.out]; simp; omega
      have h2 : a = x := by rw [ha.out, if_neg h16]
      subst h1 h2
      clear hone ha
      go_wp2_with fail
      refine (push_no ⟨tA, tc, kA, kc⟩ a a2 W3 _ HTB.out.rt HLXT.out (by omega)).mono ?_
      rintro e w5 ⟨⟨uA, uc, vA, vc⟩, rfl, hrt5, hb5⟩
      have HRT5 := Lib.hid hrt5; have HB5 := Lib.hid hb5
      clear hrt5 hb5 x0 x1 x2 x3 x4 zx HTB HPB3 HAR
      go_wp2_with fail
      go_meet
      exact ⟨_, ⟨uA, uc, vA, vc⟩, rfl, rfl, TB.new HRT5.out, HB5.out.alloc HB5.out.size _⟩
  case rest =>
  obtain ⟨ab, ⟨uA, uc, vA, vc⟩, rfl, rfl, hta, hbw⟩ := hcut
  have hX5 := HTB.out.below hbw
  have hP5 := HPB3.out.below hbw
  have HA5 := Lib.hid hta; have HX5 := Lib.hid hX5; have HP5 := Lib.hid hP5
  clear hX5 hP5 hta hbw x0 x1 x2 x3 x4 zx HTB HPB3
  obtain ⟨W5, hW5⟩ : ∃ W, W = wc := ⟨_, rfl⟩
  rw [← hW5] at HA5 HX5 HP5 ⊢
  clear hW5
  have x0 : W5.cell? ⟨xb, 0, none⟩ = some (.int .i64 x.state) := (HX5.out.tb.cell 0).trans rfl
  have x1 : W5.cell? ⟨xb, 1, none⟩ = some (.int .i64 x.on) := (HX5.out.tb.cell 1).trans rfl
  have x2 : W5.cell? ⟨xb, 2, none⟩ = some (.slice tA x.frames.length tc) := (HX5.out.tb.cell 2).trans rfl
  have x3 : W5.cell? ⟨xb, 3, none⟩ = some (.slice kA x.stack.length kc) := (HX5.out.tb.cell 3).trans rfl
  have x4 : W5.cell? ⟨xb, 4, none⟩ = some (.int .i64 x.code) := (HX5.out.tb.cell 4).trans rfl
  have zx := HX5.out.tb.lt
  have hq : decide ((x.stack.length : Int) < 16) = one := hone.out.symm
  go_upto_if 35 with fail
  clear hq
  go_cut [] (fun wx => Below W5.heap.size W5 wx)
  case first =>
    by_cases h16 : x.stack.length < 16
    · have h16i : (x.stack.length : Int) < 16 := by omega
      have h1 : one = true := by rw [hone.out]; simp; omega
      have h2 : a = pushT x a2 := by rw [ha.out, if_pos h16]
      subst h1 h2
      clear hone ha
      have ha0 : (pushT x a2).stack.length = x.stack.length + 1 := by simp [pushT]
      have ha1 : (pushT x a2).stack[x.stack.length]? = some (keep a2) := by simp [pushT]
      have ha2 : ({ pushT x a2 with stack := (pushT x a2).stack.take x.stack.length } : TV) = x := by simp [pushT]
      have ha3 : LensT (pushT x a2) := ⟨HLXT.out.frames, by rw [ha0]; have := HLX.out.2; omega, HLXT.out.locals⟩
      generalize pushT x a2 = a at *
      have HA0 := Lib.hid ha0; have HA1 := Lib.hid ha1; have HA2 := Lib.hid ha2; have HA3 := Lib.hid ha3
      clear ha0 ha1 ha2 ha3
      have a_0 : W5.cell? ⟨ab, 0, none⟩ = some (.int .i64 a.state) := (HA5.out.tb.cell 0).trans rfl
      have a_1 : W5.cell? ⟨ab, 1, none⟩ = some (.int .i64 a.on) := (HA5.out.tb.cell 1).trans rfl
      have a_2 : W5.cell? ⟨ab, 2, none⟩ = some (.slice uA a.frames.length uc) := (HA5.out.tb.cell 2).trans rfl
      have a_3 : W5.cell? ⟨ab, 3, none⟩ = some (.slice vA a.stack.length vc) := (HA5.out.tb.cell 3).trans rfl
      have a_4 : W5.cell? ⟨ab, 4, none⟩ = some (.int .i64 a.code) := (HA5.out.tb.cell 4).trans rfl
      have za := HA5.out.tb.lt
      go_wp2_with fail
      have hpop := pop_yes ⟨uA, uc, vA, vc⟩ a x.stack.length (keep a2) W5 _ HA5.out.rt HA3.out ⟨HA0.out, by omega, HA1.out⟩
      refine hpop.mono ?_
      rintro e w7 ⟨⟨bA, bc, dA, dc⟩, rfl, hrt7, hb7⟩
      rw [HA2.out] at hrt7
      have hb1 : x.state = a.state ∧ x.on = a.on ∧ x.frames.length = a.frames.length ∧ x.code = a.code := by rw [← HA2.out]; exact ⟨rfl, rfl, rfl, rfl⟩
      obtain ⟨e1, e2, e3, e4⟩ := hb1
      simp only [← e1, ← e2, ← e3, ← e4]
      have hTB7 := TB.new hrt7
      have hal : Below w7.heap.size w7 (w7.alloc (.cells #[.int .i64 x.state, .int .i64 x.on, .slice bA x.frames.length bc, .slice dA x.stack.length dc, .int .i64 x.code] 51)) := (Below.refl _ _).alloc (Nat.le_refl _) _
      have hX7 := (HX5.out.below hb7).below hal
      have hB7 := hb7.trans (hal.mono hb7.size)
      obtain ⟨bb, hbb⟩ : ∃ b, b = w7.heap.size := ⟨_, rfl⟩
      have HB7 := Lib.hid hTB7; have HX7 := Lib.hid hX7; have HBL := Lib.hid hB7
      clear hpop e1 e2 e3 e4 hTB7 hX7 hB7 hal hrt7 hb7 x0 x1 x2 x3 x4 zx za a_0 a_1 a_2 a_3 a_4 HA5 HX5 HP5
      go_upto_region 8 with fail
      obtain ⟨W7, hW7⟩ : ∃ W, W = w7.alloc (.cells #[.int .i64 x.state, .int .i64 x.on, .slice bA x.frames.length bc, .slice dA x.stack.length dc, .int .i64 x.code] 51) := ⟨_, rfl⟩
      rw [← hW7] at HB7 HX7 HBL ⊢
      rw [← hbb] at HB7 ⊢
      clear hW7 hbb
      have x0 : W7.cell? ⟨xb, 0, none⟩ = some (.int .i64 x.state) := (HX7.out.tb.cell 0).trans rfl
      have x1 : W7.cell? ⟨xb, 1, none⟩ = some (.int .i64 x.on) := (HX7.out.tb.cell 1).trans rfl
      have x2 : W7.cell? ⟨xb, 2, none⟩ = some (.slice tA x.frames.length tc) := (HX7.out.tb.cell 2).trans rfl
      have x3 : W7.cell? ⟨xb, 3, none⟩ = some (.slice kA x.stack.length kc) := (HX7.out.tb.cell 3).trans rfl
      have x4 : W7.cell? ⟨xb, 4, none⟩ = some (.int .i64 x.code) := (HX7.out.tb.cell 4).trans rfl
      have b_0 : W7.cell? ⟨bb, 0, none⟩ = some (.int .i64 x.state) := (HB7.out.tb.cell 0).trans rfl
      have b_1 : W7.cell? ⟨bb, 1, none⟩ = some (.int .i64 x.on) := (HB7.out.tb.cell 1).trans rfl
      have b_2 : W7.cell? ⟨bb, 2, none⟩ = some (.slice bA x.frames.length bc) := (HB7.out.tb.cell 2).trans rfl
      have b_3 : W7.cell? ⟨bb, 3, none⟩ = some (.slice dA x.stack.length dc) := (HB7.out.tb.cell 3).trans rfl
      have b_4 : W7.cell? ⟨bb, 4, none⟩ = some (.int .i64 x.code) := (HB7.out.tb.cell 4).trans rfl
      have zx := HX7.out.tb.lt
      have zb := HB7.out.tb.lt
      go_wp2_with fail
      refine (refKeep_any a2 _).mono ?_
      rintro e wq ⟨rfl, rfl⟩
      go_wp2_with fail
      refine (refSame_yes ⟨bA, bc, dA, dc⟩ ⟨tA, tc, kA, kc⟩ x _ _ _ HB7.out.rt HX7.out.rt HLXT.out).mono ?_
      rintro e W9 ⟨rfl, hb9⟩
      have HB9 := Lib.hid hb9
      clear hb9
      go_wp2_with fail
      go_meet
      exact HBL.out.trans (HB9.out.mono HBL.out.size)
    · have h1 : one = false := by rw [hone.out]; simp; omega
      subst h1
      clear hone
      go_wp2_with fail
      go_meet
      exact Below.refl _ _
  case rest =>
  have hX9 := HX5.out.below hcut
  have hP9 := HP5.out.below hcut
  have HTB := Lib.hid hX9; have HPB3 := Lib.hid hP9
  obtain ⟨W9, hW9⟩ : ∃ W, W = wc := ⟨_, rfl⟩
  clear hX9 hP9 hcut HX5 HP5 HA5 x0 x1 x2 x3 x4 zx hone ha
  rw [← hW9] at HTB HPB3 ⊢
  clear hW9
  have x0 : W9.cell? ⟨xb, 0, none⟩ = some (.int .i64 x.state) := (HTB.out.tb.cell 0).trans rfl
  have x1 : W9.cell? ⟨xb, 1, none⟩ = some (.int .i64 x.on) := (HTB.out.tb.cell 1).trans rfl
  have x2 : W9.cell? ⟨xb, 2, none⟩ = some (.slice tA x.frames.length tc) := (HTB.out.tb.cell 2).trans rfl
  have x3 : W9.cell? ⟨xb, 3, none⟩ = some (.slice kA x.stack.length kc) := (HTB.out.tb.cell 3).trans rfl
  have x4 : W9.cell? ⟨xb, 4, none⟩ = some (.int .i64 x.code) := (HTB.out.tb.cell 4).trans rfl
  have zx := HTB.out.tb.lt
  go_upto_region 10 with fail
  clear x0 x1 x2 x3 x4 zx
  have KS : Hid (∀ X, Below W9.heap.size W9 X → X.cell? ⟨gb, 0, none⟩ = some (.slice fA g.funcs.length fc) ∧ X.cell? ⟨gb, 1, none⟩ = some (.int .i64 g.mutexes) ∧ X.cell? ⟨gb, 2, none⟩ = some (.slice cA g.conds.length cc) ∧ X.cell? ⟨gb, 3, none⟩ = some (.slice sA g.semas.length sc) ∧ X.cell? ⟨gb, 4, none⟩ = some (.slice hA g.chans.length hc) ∧ X.cell? ⟨gb, 5, none⟩ = some (.slice xA g.choices.length xc) ∧ X.cell? ⟨gb, 6, none⟩ = some (.int .i64 g.threads) ∧ X.cell? ⟨xb, 0, none⟩ = some (.int .i64 x.state) ∧ X.cell? ⟨xb, 1, none⟩ = some (.int .i64 x.on) ∧ X.cell? ⟨xb, 2, none⟩ = some (.slice tA x.frames.length tc) ∧ X.cell? ⟨xb, 3, none⟩ = some (.slice kA x.stack.length kc) ∧ X.cell? ⟨xb, 4, none⟩ = some (.int .i64 x.code)) := by
    intro X hX
    have hx := HTB.out.below hX
    have hp := HPB3.out.below hX
    exact ⟨(hp.pb.cell 0).trans rfl, (hp.pb.cell 1).trans rfl, (hp.pb.cell 2).trans rfl, (hp.pb.cell 3).trans rfl, (hp.pb.cell 4).trans rfl, (hp.pb.cell 5).trans rfl, (hp.pb.cell 6).trans rfl, (hx.tb.cell 0).trans rfl, (hx.tb.cell 1).trans rfl, (hx.tb.cell 2).trans rfl, (hx.tb.cell 3).trans rfl, (hx.tb.cell 4).trans rfl⟩
  have zx := HTB.out.tb.lt
  have zg := HPB3.out.pb.lt
  have zb := HPB3.out.hBP
  obtain ⟨c, ok, HC, hco, hce⟩ : ∃ (c : TV) (ok : Bool), Hid (∀ X, Below W9.heap.size W9 X → Calls Try.prog 44 #[.agg #[.slice fA g.funcs.length fc, .int .i64 g.mutexes, .slice cA g.conds.length cc, .slice sA g.semas.length sc, .slice hA g.chans.length hc, .slice xA g.choices.length xc, .int .i64 g.threads], .agg #[.int .i64 x.state, .int .i64 x.on, .slice tA x.frames.length tc, .slice kA x.stack.length kc, .int .i64 x.code], .int .i64 (f : Int)] X fun e w' => ∃ h' : TH, e = .returned (.tuple #[.agg #[.int .i64 c.state, .int .i64 c.on, .slice h'.fA c.frames.length h'.fc, .slice h'.sA c.stack.length h'.sc, .int .i64 c.code], .bool ok]) ∧ RT w' (fun i => i < W9.heap.size ∨ X.heap.size ≤ i) h' c ∧ Below X.heap.size X w' ∧ Below W9.heap.size W9 w') ∧ Hid (ok = decide (x.frames.length < 8)) ∧ Hid (c = if x.frames.length < 8 then enterT g x f else x) := by
    by_cases h8 : x.frames.length < 8
    · refine ⟨enterT g x f, true, ?_, (by rw [decide_eq_true h8] : true = decide (x.frames.length < 8)), (by rw [if_pos h8] : enterT g x f = if x.frames.length < 8 then enterT g x f else x)⟩
      intro X hX
      refine (enter_yes ⟨fA, fc, cA, cc, sA, sc, hA, hc, xA, xc⟩ g ⟨tA, tc, kA, kc⟩ x X gb (fun i => i < W9.heap.size) (HPB3.out.below hX).rp (((HTB.out.rt.mono (E := fun i => i < W9.heap.size) (fun i _ hi => hi)).below hX)) (HPB3.out.below hX).hBP HGF.out HGL.out.funcs HLXT.out f hfn h8).mono ?_
      rintro e w' ⟨h', he, hrt, hb⟩
      exact ⟨h', he, hrt, hb, hX.trans (hb.mono hX.size)⟩
    · refine ⟨x, false, ?_, (by rw [decide_eq_false h8] : false = decide (x.frames.length < 8)), (by rw [if_neg h8] : x = if x.frames.length < 8 then enterT g x f else x)⟩
      intro X hX
      refine (enter_no ⟨fA, fc, cA, cc, sA, sc, hA, hc, xA, xc⟩ g ⟨tA, tc, kA, kc⟩ x X gb (fun i => i < W9.heap.size) (HPB3.out.below hX).rp (((HTB.out.rt.mono (E := fun i => i < W9.heap.size) (fun i _ hi => hi)).below hX)) (HPB3.out.below hX).hBP HGF.out HGL.out.funcs HLXT.out f hfn (by omega)).mono ?_
      rintro e w' ⟨h', he, hrt, hb⟩
      exact ⟨h', he, hrt, hb, hX.trans (hb.mono hX.size)⟩
  have k0 := (KS.out _ (Below.refl _ _)).1
  go_cut [14, 15] (fun s14 s15 wx => ∃ (cb : Nat) (h' : TH), s14 = .pointer (some ⟨cb, 0, none⟩) ∧ s15 = .bool ok ∧ TB wx cb h' c ∧ Below W9.heap.size W9 wx)
  case first =>
    go_region_held3 (fun w' => w'.cell? ⟨gb, 0, none⟩ = some (.slice fA g.funcs.length fc) ∧ w'.cell? ⟨gb, 1, none⟩ = some (.int .i64 g.mutexes) ∧ w'.cell? ⟨gb, 2, none⟩ = some (.slice cA g.conds.length cc) ∧ w'.cell? ⟨gb, 3, none⟩ = some (.slice sA g.semas.length sc) ∧ w'.cell? ⟨gb, 4, none⟩ = some (.slice hA g.chans.length hc) ∧ w'.cell? ⟨gb, 5, none⟩ = some (.slice xA g.choices.length xc) ∧ w'.cell? ⟨gb, 6, none⟩ = some (.int .i64 g.threads) ∧ w'.cell? ⟨xb, 0, none⟩ = some (.int .i64 x.state) ∧ w'.cell? ⟨xb, 1, none⟩ = some (.int .i64 x.on) ∧ w'.cell? ⟨xb, 2, none⟩ = some (.slice tA x.frames.length tc) ∧ w'.cell? ⟨xb, 3, none⟩ = some (.slice kA x.stack.length kc) ∧ w'.cell? ⟨xb, 4, none⟩ = some (.int .i64 x.code))
      (first | (exact KS.out _ (by repeat (first | assumption | exact Below.refl _ _ | exact H5.out | refine Below.drew ?_ | refine Below.setCell ?_ (by first | exact Nat.le_refl _ | exact h5.size | exact H5.out.size | omega) _ | refine Below.alloc ?_ (by first | exact h5.size | exact H5.out.size | exact Nat.le_refl _ | omega) _))) | fail)
      (first
        | (go_simp; with_reducible refine (HAR.out _).mono ?_; rintro e wq ⟨rfl, rfl⟩)
        | (go_simp; with_reducible refine (HC.out _ (by repeat (first | assumption | exact Below.refl _ _ | exact H5.out | refine Below.drew ?_ | refine Below.setCell ?_ (by first | exact Nat.le_refl _ | exact h5.size | exact H5.out.size | omega) _ | refine Below.alloc ?_ (by first | exact h5.size | exact H5.out.size | exact Nat.le_refl _ | omega) _))).mono ?_; rintro e w5 ⟨⟨cA', cc', dA', dc'⟩, rfl, hrt5, h4, h5⟩
           first
             | (have nb0 : Blk w5 W9.heap.size 51 #[.int .i64 0, .int .i64 0, .slice none 0 0, .slice none 0 0, .int .i64 0] := (Blk.drew (Blk.new W9 51 #[.int .i64 0, .int .i64 0, .slice none 0 0, .slice none 0 0, .int .i64 0])).below h4 (by simp)
                have n0 : w5.cell? ⟨W9.heap.size, 0, none⟩ = some (.int .i64 0) := (nb0.cell 0).trans rfl
                have m0 : w5.frozen? ⟨W9.heap.size, 0, none⟩ = false := nb0.frozen 0
                have n1 : w5.cell? ⟨W9.heap.size, 1, none⟩ = some (.int .i64 0) := (nb0.cell 1).trans rfl
                have m1 : w5.frozen? ⟨W9.heap.size, 1, none⟩ = false := nb0.frozen 1
                have n2 : w5.cell? ⟨W9.heap.size, 2, none⟩ = some (.slice none 0 0) := (nb0.cell 2).trans rfl
                have m2 : w5.frozen? ⟨W9.heap.size, 2, none⟩ = false := nb0.frozen 2
                have n3 : w5.cell? ⟨W9.heap.size, 3, none⟩ = some (.slice none 0 0) := (nb0.cell 3).trans rfl
                have m3 : w5.frozen? ⟨W9.heap.size, 3, none⟩ = false := nb0.frozen 3
                have n4 : w5.cell? ⟨W9.heap.size, 4, none⟩ = some (.int .i64 0) := (nb0.cell 4).trans rfl
                have m4 : w5.frozen? ⟨W9.heap.size, 4, none⟩ = false := nb0.frozen 4
                have hzz : W9.heap.size < w5.heap.size := nb0.lt
                have H5 := Lib.hid h5; have H4 := Lib.hid h4; have HRT5 := Lib.hid hrt5
                clear nb0 h5 h4 hrt5 HAR HC k0 zx zg zb HTB HPB3 HMAY HNE HLX HLXT HGF HGL HGC hco hce HST hfn)
             | (have H5 := Lib.hid h5; have H4 := Lib.hid h4; have HRT5 := Lib.hid hrt5
                clear h5 h4 hrt5 HAR HC k0 zx zg zb HTB HPB3 HMAY HNE HLX HLXT HGF HGL HGC hco hce HST hfn)))
    all_goals
      go_wp2_with fail
      go_meet
      have h5 := H5.out
      have h4 := H4.out
      have hrt5 := HRT5.out
      first
        | exact ⟨_, ⟨cA', cc', dA', dc'⟩, rfl, rfl, TB.new hrt5, h5.alloc h5.size _⟩
        | (have hp := TB.put (w1 := (W9.alloc (.cells #[.int .i64 0, .int .i64 0, .slice none 0 0, .slice none 0 0, .int .i64 0] 51)).drew) (b := W9.heap.size) hrt5 (fun i hi e => by simp at hi; omega) (Blk.drew (Blk.new W9 51 #[.int .i64 0, .int .i64 0, .slice none 0 0, .slice none 0 0, .int .i64 0])) h4
           have hfr := (Fr.refl (fun i => i = W9.heap.size) w5).set5 (g := W9.heap.size) (.inl rfl) (.int .i64 c.state) (.int .i64 c.on) (.slice cA' c.frames.length cc') (.slice dA' c.stack.length dc') (.int .i64 c.code)
           exact ⟨_, ⟨cA', cc', dA', dc'⟩, rfl, rfl, hp.1, h5.trans (hfr.below h5.size (fun i hi => by omega))⟩)
  case rest =>
    obtain ⟨cb, ⟨cA9, cc9, dA9, dc9⟩, rfl, rfl, htc, hbx⟩ := hcut
    have hX := HTB.out.below hbx
    have HX := Lib.hid hX; have HC9 := Lib.hid htc
    have hbw := HPB3.out.bel.trans (hbx.mono HPB3.out.bel.size)
    have HBW := Lib.hid hbw
    clear hX htc hbx hbw HC KS k0 zx zg zb
    have x0 : wc.cell? ⟨xb, 0, none⟩ = some (.int .i64 x.state) := (HX.out.tb.cell 0).trans rfl
    have x1 : wc.cell? ⟨xb, 1, none⟩ = some (.int .i64 x.on) := (HX.out.tb.cell 1).trans rfl
    have x2 : wc.cell? ⟨xb, 2, none⟩ = some (.slice tA x.frames.length tc) := (HX.out.tb.cell 2).trans rfl
    have x3 : wc.cell? ⟨xb, 3, none⟩ = some (.slice kA x.stack.length kc) := (HX.out.tb.cell 3).trans rfl
    have x4 : wc.cell? ⟨xb, 4, none⟩ = some (.int .i64 x.code) := (HX.out.tb.cell 4).trans rfl
    have c_0 : wc.cell? ⟨cb, 0, none⟩ = some (.int .i64 c.state) := (HC9.out.tb.cell 0).trans rfl
    have c_1 : wc.cell? ⟨cb, 1, none⟩ = some (.int .i64 c.on) := (HC9.out.tb.cell 1).trans rfl
    have c_2 : wc.cell? ⟨cb, 2, none⟩ = some (.slice cA9 c.frames.length cc9) := (HC9.out.tb.cell 2).trans rfl
    have c_3 : wc.cell? ⟨cb, 3, none⟩ = some (.slice dA9 c.stack.length dc9) := (HC9.out.tb.cell 3).trans rfl
    have c_4 : wc.cell? ⟨cb, 4, none⟩ = some (.int .i64 c.code) := (HC9.out.tb.cell 4).trans rfl
    have zx := HX.out.tb.lt
    have zc := HC9.out.tb.lt
    by_cases h8 : x.frames.length < 8
    · have hok : ok = true := by rw [hco.out, decide_eq_true h8]
      subst hok
      have hce2 : c = enterT g x f := by rw [hce.out, if_pos h8]
      have hc1 : c.frames.length = x.frames.length + 1 := by rw [hce2]; simp [enterT]
      have hc2 : ({ c with frames := c.frames.take x.frames.length } : TV) = x := by rw [hce2]; simp [enterT]
      have hc3 : LensT c := by rw [hce2]; exact lensT_may HGF.out (mayT_enter HGF.out (by omega) (by omega) HMAY.out HNE.out h8)
      have hx1 : 0 < x.frames.length := by
        have := ((mayT_iff g x HNE.out).1 HMAY.out).2.2.2.2.2.2.2.2.2.1
        rcases hd : x.frames with _ | ⟨y, r⟩
        · rw [hd] at this; simp at this
        · simp
      have HC1 := Lib.hid hc1; have HC2 := Lib.hid hc2; have HC3 := Lib.hid hc3
      have i1 : IntKind.i64.wrap ((x.frames.length : Int) + 1) = (x.frames.length : Int) + 1 := IntWalk.i64_in _ (by omega)
      have h8i : (x.frames.length : Int) < 8 := by omega
      rw [hc1] at c_2
      clear hce hco hce2 hc1 hc2 hc3
      go_upto_region 17 with fail
      have hlv := leave_yes ⟨cA9, cc9, dA9, dc9⟩ c x.frames.length wc _ HC9.out.rt HC3.out ⟨HC1.out, by omega⟩
      rw [HC2.out, HC1.out] at hlv
      have HLV := Lib.hid hlv
      clear hlv
      go_wp2_with fail
      refine HLV.out.mono ?_
      rintro e w7 ⟨⟨eA, ec, iA, ic⟩, rfl, hrt7, hb7⟩
      have hb1 : x.state = c.state ∧ x.on = c.on ∧ x.stack.length = c.stack.length ∧ x.code = c.code := by rw [← HC2.out]; exact ⟨rfl, rfl, rfl, rfl⟩
      obtain ⟨e1, e2, e3, e4⟩ := hb1
      simp only [← e1, ← e2, ← e3, ← e4]
      have hTB7 := TB.new hrt7
      have hal : Below w7.heap.size w7 (w7.alloc (.cells #[.int .i64 x.state, .int .i64 x.on, .slice eA x.frames.length ec, .slice iA x.stack.length ic, .int .i64 x.code] 51)) := (Below.refl _ _).alloc (Nat.le_refl _) _
      have hX7 := (HX.out.below hb7).below hal
      have hB7 := HBW.out.trans ((hb7.trans (hal.mono hb7.size)).mono HBW.out.size)
      obtain ⟨db, hdb⟩ : ∃ b, b = w7.heap.size := ⟨_, rfl⟩
      have HD7 := Lib.hid hTB7; have HX7 := Lib.hid hX7; have HB7 := Lib.hid hB7
      clear HLV e1 e2 e3 e4 hTB7 hX7 hB7 hal hrt7 hb7 x0 x1 x2 x3 x4 c_0 c_1 c_2 c_3 c_4 zx zc HX HC9 HBW i1 HC1 HC2 HC3
      go_upto_region 18 with fail
      obtain ⟨W8, hW8⟩ : ∃ W, W = w7.alloc (.cells #[.int .i64 x.state, .int .i64 x.on, .slice eA x.frames.length ec, .slice iA x.stack.length ic, .int .i64 x.code] 51) := ⟨_, rfl⟩
      rw [← hW8] at HD7 HX7 HB7 ⊢
      rw [← hdb] at HD7 ⊢
      clear hW8 hdb
      have x0 : W8.cell? ⟨xb, 0, none⟩ = some (.int .i64 x.state) := (HX7.out.tb.cell 0).trans rfl
      have x1 : W8.cell? ⟨xb, 1, none⟩ = some (.int .i64 x.on) := (HX7.out.tb.cell 1).trans rfl
      have x2 : W8.cell? ⟨xb, 2, none⟩ = some (.slice tA x.frames.length tc) := (HX7.out.tb.cell 2).trans rfl
      have x3 : W8.cell? ⟨xb, 3, none⟩ = some (.slice kA x.stack.length kc) := (HX7.out.tb.cell 3).trans rfl
      have x4 : W8.cell? ⟨xb, 4, none⟩ = some (.int .i64 x.code) := (HX7.out.tb.cell 4).trans rfl
      have d_0 : W8.cell? ⟨db, 0, none⟩ = some (.int .i64 x.state) := (HD7.out.tb.cell 0).trans rfl
      have d_1 : W8.cell? ⟨db, 1, none⟩ = some (.int .i64 x.on) := (HD7.out.tb.cell 1).trans rfl
      have d_2 : W8.cell? ⟨db, 2, none⟩ = some (.slice eA x.frames.length ec) := (HD7.out.tb.cell 2).trans rfl
      have d_3 : W8.cell? ⟨db, 3, none⟩ = some (.slice iA x.stack.length ic) := (HD7.out.tb.cell 3).trans rfl
      have d_4 : W8.cell? ⟨db, 4, none⟩ = some (.int .i64 x.code) := (HD7.out.tb.cell 4).trans rfl
      have zx := HX7.out.tb.lt
      have zd := HD7.out.tb.lt
      go_wp2_with fail
      refine (refSame_yes ⟨eA, ec, iA, ic⟩ ⟨tA, tc, kA, kc⟩ x _ _ _ HD7.out.rt HX7.out.rt HLXT.out).mono ?_
      rintro e W9 ⟨rfl, hb9⟩
      have hX9 := HX7.out.below hb9
      have hB9 := HB7.out.trans (hb9.mono HB7.out.size)
      have HX9 := Lib.hid hX9; have HB9 := Lib.hid hB9
      clear hX9 hB9 hb9 HX7 HB7 HD7 x0 x1 x2 x3 x4 d_0 d_1 d_2 d_3 d_4 zx zd
      have x0 : W9.cell? ⟨xb, 0, none⟩ = some (.int .i64 x.state) := (HX9.out.tb.cell 0).trans rfl
      have x1 : W9.cell? ⟨xb, 1, none⟩ = some (.int .i64 x.on) := (HX9.out.tb.cell 1).trans rfl
      have x2 : W9.cell? ⟨xb, 2, none⟩ = some (.slice tA x.frames.length tc) := (HX9.out.tb.cell 2).trans rfl
      have x3 : W9.cell? ⟨xb, 3, none⟩ = some (.slice kA x.stack.length kc) := (HX9.out.tb.cell 3).trans rfl
      have x4 : W9.cell? ⟨xb, 4, none⟩ = some (.int .i64 x.code) := (HX9.out.tb.cell 4).trans rfl
      have zx := HX9.out.tb.lt
      go_wp2_with fail
      refine (end_any x.state x.on tA kA x.frames.length tc x.stack.length kc x.code 3 _).mono ?_
      rintro e W10 ⟨rfl, hb10⟩
      have hB10 := HB9.out.trans (hb10.mono HB9.out.size)
      have HB10 := Lib.hid hB10
      clear hB10 hb10 HX9 HB9 x0 x1 x2 x3 x4 zx
      go_wp2_with fail
      refine (refEnd_any 3 _).mono ?_
      rintro e W11 ⟨rfl, hb11⟩
      have hB11 := HB10.out.trans (hb11.mono HB10.out.size)
      have HB11 := Lib.hid hB11
      clear hB11 hb11 HB10
      go_wp2_with fail
      refine (refSame_yes ⟨none, 0, none, 0⟩ ⟨none, 0, none, 0⟩ (deadT 3) _ _ _ (dead_rt 3 _) (dead_rt 3 _) dead_lens).mono ?_
      rintro e W12 ⟨rfl, hb12⟩
      have hB12 := HB11.out.trans (hb12.mono HB11.out.size)
      have HB12 := Lib.hid hB12
      clear hB12 hb12 HB11
      go_wp2_with fail
      refine (slives_any _).mono ?_
      rintro e W13 ⟨rfl, hb13⟩
      go_wp2_with fail
      go_ret
      exact ⟨rfl, HB12.out.trans (hb13.mono HB12.out.size)⟩
    · have h8i : ¬ (x.frames.length : Int) < 8 := by omega
      have hok : ok = false := by rw [hco.out, decide_eq_false h8]
      subst hok
      have hce2 : c = x := by rw [hce.out, if_neg h8]
      subst hce2
      clear hce hco
      go_wp2_with fail
      refine (refSame_yes ⟨cA9, cc9, dA9, dc9⟩ ⟨tA, tc, kA, kc⟩ c _ _ _ HC9.out.rt HX.out.rt HLXT.out).mono ?_
      rintro e W10 ⟨rfl, hb10⟩
      go_wp2_with fail
      refine (slives_any _).mono ?_
      rintro e W11 ⟨rfl, hb11⟩
      go_wp2_with fail
      go_ret
      exact ⟨rfl, HBW.out.trans ((hb10.trans (hb11.mono hb10.size)).mono HBW.out.size)⟩
end Go.Proofs.Ythjfcpdebflppaa.stackRound
