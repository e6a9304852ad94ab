
/-
  The walk of StackSame.
-/
import Derived.Test.YtbgdgfnbdipjkaaRows
import Derived.WalkKit
import Derived.ProofKit
import Derived.OpenShut
import Derived.ShutString
import Derived.ChangeOld
import Derived.Below
import Derived.SizedLaws
import Derived.Test.YtbgdgfnbdipjkaaSmC
import Derived.Test.YtbgdgfnbdipjkaaSmD
import Derived.Test.YtbgdgfnbdipjkaaThrN
import Derived.Test.YtbgdgfnbdipjkaaThrSize
import Derived.Test.YtbgdgfnbdipjkaaThrOpen
import Derived.Test.YtbgdgfnbdipjkaaSLives
namespace Go.Proofs.Ytbgdgfnbdipjkaa.stackSame
open Go.ChangeShapes Go.WideShapes Go.ChangeAt Go.RowKit Go.Proofs.Ytbgdgfnbdipjkaa Go.Proofs.Ytbgdgfnbdipjkaa.Plain
open Go.ChangeMaps (open_string shut_string)
set_option linter.unusedVariables false


set_option maxRecDepth 100000 in
set_option maxHeartbeats 40000000 in
theorem walk (ht0 : TH) (t0 : TV) (ht1 : TH) (t1 : TV) (a2 : Int) (w : World) (w0 : RT w (fun _ => True) ht0 t0 ∧ FitT t0 ∧ LensT t0) (w1 : RT w (fun _ => True) ht1 t1 ∧ FitT t1 ∧ LensT t1) (w2 : (Lit.int .i64 a2).wf = true) :
    Calls Try.prog 4 #[.agg #[.int .i64 t0.state, .int .i64 t0.on, .slice ht0.fA t0.frames.length ht0.fc, .slice ht0.sA t0.stack.length ht0.sc, .int .i64 t0.code], .agg #[.int .i64 t1.state, .int .i64 t1.on, .slice ht1.fA t1.frames.length ht1.fc, .slice ht1.sA t1.stack.length ht1.sc, .int .i64 t1.code], .int .i64 a2] w fun e w' => e = .returned (.bool true) ∧ Below w.heap.size w w' := by
  obtain ⟨hr0, _, hl0⟩ := w0
  obtain ⟨hr1, _, hl1⟩ := w1
  obtain ⟨hn0, hn1⟩ := wf_int w2
  have HR0 := Lib.hid hr0; have HR1 := Lib.hid hr1; have HL0 := Lib.hid hl0; have HL1 := Lib.hid hl1
  clear hr0 hr1 hl0 hl1
  go_enter Try.func4, Try.ntmps4
  go_upto_region 1 with fail
  obtain ⟨W0, hW0⟩ : ∃ W, W = ((w.alloc (.cells #[.int .i64 t0.state, .int .i64 t0.on, .slice ht0.fA t0.frames.length ht0.fc, .slice ht0.sA t0.stack.length ht0.sc, .int .i64 t0.code] 29)).alloc (.cells #[.int .i64 t1.state, .int .i64 t1.on, .slice ht1.fA t1.frames.length ht1.fc, .slice ht1.sA t1.stack.length ht1.sc, .int .i64 t1.code] 29)) := ⟨_, rfl⟩
  have hb0 : Below w.heap.size w W0 := by rw [hW0]; exact ((Below.refl w.heap.size w).alloc (Nat.le_refl _) _).alloc (by simp) _
  have hba : Blk W0 w.heap.size 29 #[.int .i64 t0.state, .int .i64 t0.on, .slice ht0.fA t0.frames.length ht0.fc, .slice ht0.sA t0.stack.length ht0.sc, .int .i64 t0.code] := by rw [hW0]; exact (Blk.new w _ _).alloc _
  have hbb : Blk W0 (w.heap.size + 1) 29 #[.int .i64 t1.state, .int .i64 t1.on, .slice ht1.fA t1.frames.length ht1.fc, .slice ht1.sA t1.stack.length ht1.sc, .int .i64 t1.code] := by
    rw [hW0]
    simpa using Blk.new (w.alloc (.cells #[.int .i64 t0.state, .int .i64 t0.on, .slice ht0.fA t0.frames.length ht0.fc, .slice ht0.sA t0.stack.length ht0.sc, .int .i64 t0.code] 29)) 29 #[.int .i64 t1.state, .int .i64 t1.on, .slice ht1.fA t1.frames.length ht1.fc, .slice ht1.sA t1.stack.length ht1.sc, .int .i64 t1.code]
  rw [← hW0]
  have hRA := (HR0.out.mono (E := fun i => i < w.heap.size) (fun i _ h => h)).below hb0
  have hRB := (HR1.out.mono (E := fun i => i < w.heap.size) (fun i _ h => h)).below hb0
  have a00 : W0.cell? ⟨w.heap.size, 0, none⟩ = some (.int .i64 t0.state) := (hba.cell 0).trans rfl
  have a01 : W0.cell? ⟨w.heap.size, 1, none⟩ = some (.int .i64 t0.on) := (hba.cell 1).trans rfl
  have a02 : W0.cell? ⟨w.heap.size, 2, none⟩ = some (.slice ht0.fA t0.frames.length ht0.fc) := (hba.cell 2).trans rfl
  have a03 : W0.cell? ⟨w.heap.size, 3, none⟩ = some (.slice ht0.sA t0.stack.length ht0.sc) := (hba.cell 3).trans rfl
  have a04 : W0.cell? ⟨w.heap.size, 4, none⟩ = some (.int .i64 t0.code) := (hba.cell 4).trans rfl
  have HB0 := Lib.hid hb0; have HBA := Lib.hid hba; have HBB := Lib.hid hbb; have HRA := Lib.hid hRA; have HRB := Lib.hid hRB
  clear hW0 hb0 hba hbb hRA hRB HR0 HR1
  go_wp2_with fail
  refine (refClone_any ht0 t0 W0 _ HRA.out HL0.out).mono ?_
  rintro e w1 ⟨cA, cc, qA, qc, ts, rfl, hot, hb1⟩
  have hal : Below w1.heap.size w1 (w1.alloc (.cells #[.int .i64 t0.state, .int .i64 t0.on, .slice cA t0.frames.length cc, .slice qA t0.stack.length qc, .int .i64 t0.code] 29)) := (Below.refl _ _).alloc (Nat.le_refl _) _
  have hb1a := hb1.trans (hal.mono hb1.size)
  have hba := HBA.out.below hb1a HBA.out.lt
  have hbb := HBB.out.below hb1a HBB.out.lt
  have hbc : Blk (w1.alloc (.cells #[.int .i64 t0.state, .int .i64 t0.on, .slice cA t0.frames.length cc, .slice qA t0.stack.length qc, .int .i64 t0.code] 29)) w1.heap.size 29 #[.int .i64 t0.state, .int .i64 t0.on, .slice cA t0.frames.length cc, .slice qA t0.stack.length qc, .int .i64 t0.code] := Blk.new _ _ _
  have hot1 := hot.below hal
  have hRA := HRA.out.below hb1a
  have hRB := HRB.out.below hb1a
  have hbel := HB0.out.trans (hb1a.mono HB0.out.size)
  have hz0 : w.heap.size + 1 < W0.heap.size := HBB.out.lt
  have hz1 := hb1.size
  obtain ⟨cb, hcb⟩ : ∃ b, b = w1.heap.size := ⟨_, rfl⟩
  have zcb : w.heap.size + 1 < cb := by rw [hcb]; have := HBB.out.lt; omega
  have hocb : ∀ i, W0.heap.size ≤ i → i < w1.heap.size → i ≠ cb := fun i _ h => by omega
  have KA := Lib.hid hba; have KB := Lib.hid hbb; have KC := Lib.hid hbc; have KO := Lib.hid (And.intro hot hot1); have KRA := Lib.hid hRA; have KRB := Lib.hid hRB; have KBL := Lib.hid hbel; have KZ := Lib.hid hz0
  clear hb1 hal hb1a hba hbb hbc hot hot1 hRA hRB hbel HB0 HBA HBB HRA HRB a00 a01 a02 a03 a04 hz1 hocb hz0
  go_upto_region 2 with fail
  obtain ⟨W1, hW1⟩ : ∃ W, W = w1.alloc (.cells #[.int .i64 t0.state, .int .i64 t0.on, .slice cA t0.frames.length cc, .slice qA t0.stack.length qc, .int .i64 t0.code] 29) := ⟨_, rfl⟩
  rw [← hW1] at KA KB KC KO KRA KRB KBL ⊢
  rw [← hcb] at KC ⊢
  clear hcb hW1
  have hbase : ∀ r : Value × Nat × List Value, True := fun _ => trivial
  have c0 : W1.cell? ⟨cb, 0, none⟩ = some (.int .i64 t0.state) := (KC.out.cell 0).trans rfl
  have c1 : W1.cell? ⟨cb, 1, none⟩ = some (.int .i64 t0.on) := (KC.out.cell 1).trans rfl
  have c2 : W1.cell? ⟨cb, 2, none⟩ = some (.slice cA t0.frames.length cc) := (KC.out.cell 2).trans rfl
  have c3 : W1.cell? ⟨cb, 3, none⟩ = some (.slice qA t0.stack.length qc) := (KC.out.cell 3).trans rfl
  have c4 : W1.cell? ⟨cb, 4, none⟩ = some (.int .i64 t0.code) := (KC.out.cell 4).trans rfl
  clear hbase
  have hss : SS w W1 ht0 t0 ht1 t1 ⟨cA, cc, qA, qc⟩ t0 cb := ⟨KA.out, KB.out, KC.out, KRA.out, KRB.out, KO.out.2.rt.mono (fun _ _ _ => trivial), HL0.out, KBL.out⟩
  have HSS := Lib.hid hss
  clear hss KA KB KC KRA KRB KBL
  go_upto_if 13 with fail
  go_cut [] (fun wx => ∃ u : TV, SS w wx ht0 t0 ht1 t1 ⟨cA, cc, qA, qc⟩ u cb)
  case first =>
    by_cases hp : 0 < t0.stack.length
    · have hpi : (0 : Int) < (t0.stack.length : Int) := by omega
      have hpj : ¬ ((t0.stack.length : Int) ≤ 0) := by omega
      obtain ⟨hbd0, hbd1⟩ := around_bd a2 (t0.stack.length : Int) hpi
      have hmx := HL0.out.stack
      have har := fun W => around_any a2 (t0.stack.length : Int) W hn0 hn1 hpi (by omega)
      have HAR := Lib.hid har
      clear har
      obtain ⟨k, hk⟩ := Int.eq_ofNat_of_zero_le hbd0
      rw [hk] at HAR hbd1
      have hkl : k < t0.stack.length := by omega
      obtain ⟨b, cap, hv, hbb, hbz⟩ := KO.out.2.stk.form (by omega)
      injection hv with hv1 _ hv2
      subst hv1 hv2
      have r0 := KO.out.2.stk.cellAt k (by omega)
      have z0 := KO.out.2.stk.frozenAt k
      rw [IS_at (List.getElem?_eq_getElem hkl)] at r0
      have hS := KO.out.2.setS k a2
      have hlt := (KO.out.2.stk.lt b rfl).1
      have hneA : b ≠ w.heap.size := by have := KZ.out; omega
      have hbase : W0.heap.size ≤ b := hlt
      have hnc : b ≠ cb := by
        have h1 := own_blk_ne KO.out.2.stk HSS.out.b2 (by decide)
        intro e
        exact h1 (by simp [Value.ownBlock, e])
      have hnc2 := Ne.symm hnc
      have hnA : w.heap.size ≠ b := by omega
      have hnB : w.heap.size + 1 ≠ b := fun e => own_blk_ne KO.out.2.stk HSS.out.b1 (by decide) (by simp [Value.ownBlock, e])
      have hfin : SS w (W1.setCell ⟨b, k, none⟩ (.int .i64 a2)) ht0 t0 ht1 t1 ⟨cA, cc, some ⟨b, 0, none⟩, qc⟩ { t0 with stack := t0.stack.set k a2 } cb := by
        refine ⟨hS.2.blk HSS.out.b0 (by omega), hS.2.blk HSS.out.b1 (by omega), by simpa using hS.2.blk HSS.out.b2 (by omega), ?_, ?_, hS.1.rt.mono (fun _ _ _ => trivial), ⟨HL0.out.frames, by simpa using HL0.out.stack, HL0.out.locals⟩, HSS.out.bel.trans (hS.2.below HSS.out.bel.size (fun i hi => by have := KZ.out; omega))⟩
        · exact HSS.out.r0.keep fun q hq hl => hS.2.cell hl (fun e => by have := KZ.out; omega)
        · exact HSS.out.r1.keep fun q hq hl => hS.2.cell hl (fun e => by have := KZ.out; omega)
      have HFIN := Lib.hid hfin
      clear hfin hS hlt hbase KO HSS
      go_upto_region 3 with fail
      go_region_held3 (fun w' => w'.cell? ⟨cb, 3, none⟩ = some (.slice (some ⟨b, 0, none⟩) t0.stack.length qc))
        (go_keep)
        ((go_simp
          refine (HAR.out _).mono ?_
          rintro e w6 ⟨rfl, rfl⟩))
      all_goals
        go_wp2_with fail
        go_meet
        first | exact ⟨_, HFIN.out⟩ | exact ⟨_, HFIN.out.drewN 1⟩
    · have hpi : ¬ ((0 : Int) < (t0.stack.length : Int)) := by omega
      go_wp2_with fail
      go_meet
      exact ⟨_, HSS.out⟩
  case rest =>
  obtain ⟨u, g⟩ := hcut
  obtain ⟨WR, hWR⟩ : ∃ W, W = wc := ⟨_, rfl⟩
  rw [← hWR] at g ⊢
  clear hWR c0 c1 c2 c3 c4 HSS KO
  have hl0 : LenT t0 := ⟨by have := HL0.out.frames; omega, by have := HL0.out.stack; omega, fun f hf => by have := HL0.out.locals f hf; omega⟩
  have hl1 : LenT t1 := ⟨by have := HL1.out.frames; omega, by have := HL1.out.stack; omega, fun f hf => by have := HL1.out.locals f hf; omega⟩
  have hl2 : LenT u := ⟨by have := g.len.frames; omega, by have := g.len.stack; omega, fun f hf => by have := g.len.locals f hf; omega⟩
  obtain ⟨b1, hb1⟩ : ∃ b, b = decide (t0 = t1) := ⟨_, rfl⟩
  obtain ⟨b2, hb2⟩ : ∃ b, b = decide (t0 = u) := ⟨_, rfl⟩
  have hs1 : ∀ X, Below WR.heap.size WR X → Calls Try.prog 21 #[.agg #[.int .i64 t0.state, .int .i64 t0.on, .slice ht0.fA t0.frames.length ht0.fc, .slice ht0.sA t0.stack.length ht0.sc, .int .i64 t0.code], .agg #[.int .i64 t1.state, .int .i64 t1.on, .slice ht1.fA t1.frames.length ht1.fc, .slice ht1.sA t1.stack.length ht1.sc, .int .i64 t1.code]] X fun e w' => e = .returned (.bool b1) ∧ Below WR.heap.size WR w' := fun X hX =>
    (same_any ht0 ht1 t0 t1 X _ _ (g.r0.below hX) (g.r1.below hX) hl0 hl1).mono fun e w' h => ⟨by rw [h.1, hb1], hX.trans (h.2.mono hX.size)⟩
  have hs2 : ∀ X, Below WR.heap.size WR X → Calls Try.prog 22 #[.agg #[.int .i64 t0.state, .int .i64 t0.on, .slice ht0.fA t0.frames.length ht0.fc, .slice ht0.sA t0.stack.length ht0.sc, .int .i64 t0.code], .agg #[.int .i64 t1.state, .int .i64 t1.on, .slice ht1.fA t1.frames.length ht1.fc, .slice ht1.sA t1.stack.length ht1.sc, .int .i64 t1.code]] X fun e w' => e = .returned (.bool b1) ∧ Below WR.heap.size WR w' := fun X hX =>
    (refSame_any ht0 ht1 t0 t1 X _ _ (g.r0.below hX) (g.r1.below hX) hl0 hl1).mono fun e w' h => ⟨by rw [h.1, hb1], hX.trans (h.2.mono hX.size)⟩
  have hs3 : ∀ X, Below WR.heap.size WR X → Calls Try.prog 21 #[.agg #[.int .i64 t0.state, .int .i64 t0.on, .slice ht0.fA t0.frames.length ht0.fc, .slice ht0.sA t0.stack.length ht0.sc, .int .i64 t0.code], .agg #[.int .i64 u.state, .int .i64 u.on, .slice cA u.frames.length cc, .slice qA u.stack.length qc, .int .i64 u.code]] X fun e w' => e = .returned (.bool b2) ∧ Below WR.heap.size WR w' := fun X hX =>
    (same_any ht0 ⟨cA, cc, qA, qc⟩ t0 u X _ _ (g.r0.below hX) (g.r2.below hX) hl0 hl2).mono fun e w' h => ⟨by rw [h.1, hb2], hX.trans (h.2.mono hX.size)⟩
  have hs4 : ∀ X, Below WR.heap.size WR X → Calls Try.prog 22 #[.agg #[.int .i64 t0.state, .int .i64 t0.on, .slice ht0.fA t0.frames.length ht0.fc, .slice ht0.sA t0.stack.length ht0.sc, .int .i64 t0.code], .agg #[.int .i64 u.state, .int .i64 u.on, .slice cA u.frames.length cc, .slice qA u.stack.length qc, .int .i64 u.code]] X fun e w' => e = .returned (.bool b2) ∧ Below WR.heap.size WR w' := fun X hX =>
    (refSame_any ht0 ⟨cA, cc, qA, qc⟩ t0 u X _ _ (g.r0.below hX) (g.r2.below hX) hl0 hl2).mono fun e w' h => ⟨by rw [h.1, hb2], hX.trans (h.2.mono hX.size)⟩
  have hs5 : ∀ X, Below WR.heap.size WR X → Calls Try.prog 23 #[.agg #[.int .i64 t0.state, .int .i64 t0.on, .slice ht0.fA t0.frames.length ht0.fc, .slice ht0.sA t0.stack.length ht0.sc, .int .i64 t0.code]] X fun e w' => ∃ h' : TH, e = .returned (.agg #[.int .i64 t0.state, .int .i64 t0.on, .slice h'.fA t0.frames.length h'.fc, .slice h'.sA t0.stack.length h'.sc, .int .i64 t0.code]) ∧ RT w' (fun _ => True) h' t0 ∧ Below WR.heap.size WR w' := fun X hX =>
    (clone_any ht0 t0 X _ (g.r0.below hX) HL0.out).mono fun e w' ⟨h', h1, h2, h3⟩ => ⟨h', h1, h2.mono (fun _ _ _ => trivial), hX.trans (h3.mono hX.size)⟩
  have hs6 : ∀ X (h' : TH), Below WR.heap.size WR X → RT X (fun _ => True) h' t0 → Calls Try.prog 21 #[.agg #[.int .i64 t0.state, .int .i64 t0.on, .slice ht0.fA t0.frames.length ht0.fc, .slice ht0.sA t0.stack.length ht0.sc, .int .i64 t0.code], .agg #[.int .i64 t0.state, .int .i64 t0.on, .slice h'.fA t0.frames.length h'.fc, .slice h'.sA t0.stack.length h'.sc, .int .i64 t0.code]] X fun e w' => e = .returned (.bool true) ∧ Below WR.heap.size WR w' := fun X h' hX hr =>
    (same_any ht0 h' t0 t0 X _ _ (g.r0.below hX) hr hl0 hl0).mono fun e w' h => ⟨by rw [h.1, decide_eq_true rfl], hX.trans (h.2.mono hX.size)⟩
  have hs7 : ∀ X, Below WR.heap.size WR X → Calls Try.prog 19 #[] X fun e w' => e = .returned (.bool true) ∧ Below WR.heap.size WR w' := fun X hX =>
    (slives_any X).mono fun e w' h => ⟨h.1, hX.trans (h.2.mono hX.size)⟩
  have hS : ∀ X, Below WR.heap.size WR X → X.cell? ⟨w.heap.size, 0, none⟩ = some (.int .i64 t0.state) ∧ X.cell? ⟨w.heap.size, 1, none⟩ = some (.int .i64 t0.on) ∧ X.cell? ⟨w.heap.size, 2, none⟩ = some (.slice ht0.fA t0.frames.length ht0.fc) ∧ X.cell? ⟨w.heap.size, 3, none⟩ = some (.slice ht0.sA t0.stack.length ht0.sc) ∧ X.cell? ⟨w.heap.size, 4, none⟩ = some (.int .i64 t0.code) ∧ X.cell? ⟨w.heap.size + 1, 0, none⟩ = some (.int .i64 t1.state) ∧ X.cell? ⟨w.heap.size + 1, 1, none⟩ = some (.int .i64 t1.on) ∧ X.cell? ⟨w.heap.size + 1, 2, none⟩ = some (.slice ht1.fA t1.frames.length ht1.fc) ∧ X.cell? ⟨w.heap.size + 1, 3, none⟩ = some (.slice ht1.sA t1.stack.length ht1.sc) ∧ X.cell? ⟨w.heap.size + 1, 4, none⟩ = some (.int .i64 t1.code) ∧ X.cell? ⟨cb, 0, none⟩ = some (.int .i64 u.state) ∧ X.cell? ⟨cb, 1, none⟩ = some (.int .i64 u.on) ∧ X.cell? ⟨cb, 2, none⟩ = some (.slice cA u.frames.length cc) ∧ X.cell? ⟨cb, 3, none⟩ = some (.slice qA u.stack.length qc) ∧ X.cell? ⟨cb, 4, none⟩ = some (.int .i64 u.code) := fun X hX => by
    have k0 := g.b0.below hX g.b0.lt
    have k1 := g.b1.below hX g.b1.lt
    have k2 := g.b2.below hX g.b2.lt
    exact ⟨(k0.cell 0).trans rfl, (k0.cell 1).trans rfl, (k0.cell 2).trans rfl, (k0.cell 3).trans rfl, (k0.cell 4).trans rfl, (k1.cell 0).trans rfl, (k1.cell 1).trans rfl, (k1.cell 2).trans rfl, (k1.cell 3).trans rfl, (k1.cell 4).trans rfl, (k2.cell 0).trans rfl, (k2.cell 1).trans rfl, (k2.cell 2).trans rfl, (k2.cell 3).trans rfl, (k2.cell 4).trans rfl⟩
  have hbq := Below.refl WR.heap.size WR
  have hbl := g.bel
  have HS := Lib.hid hS; have S1 := Lib.hid hs1; have S2 := Lib.hid hs2; have S3 := Lib.hid hs3; have S4 := Lib.hid hs4; have S5 := Lib.hid hs5; have S6 := Lib.hid hs6; have S7 := Lib.hid hs7; have HBL := Lib.hid hbl
  obtain ⟨s00, s01, s02, s03, s04, s10, s11, s12, s13, s14, s20, s21, s22, s23, s24⟩ := hS WR hbq
  clear hS hs1 hs2 hs3 hs4 hs5 hs6 hs7 g hl0 hl1 hl2 hb1 hb2 hbl HL0 HL1 KZ zcb
  go_upto_region 4 with fail
  go_region_held3 (fun w' => w'.cell? ⟨w.heap.size, 0, none⟩ = some (.int .i64 t0.state) ∧ w'.cell? ⟨w.heap.size, 1, none⟩ = some (.int .i64 t0.on) ∧ w'.cell? ⟨w.heap.size, 2, none⟩ = some (.slice ht0.fA t0.frames.length ht0.fc) ∧ w'.cell? ⟨w.heap.size, 3, none⟩ = some (.slice ht0.sA t0.stack.length ht0.sc) ∧ w'.cell? ⟨w.heap.size, 4, none⟩ = some (.int .i64 t0.code) ∧ w'.cell? ⟨w.heap.size + 1, 0, none⟩ = some (.int .i64 t1.state) ∧ w'.cell? ⟨w.heap.size + 1, 1, none⟩ = some (.int .i64 t1.on) ∧ w'.cell? ⟨w.heap.size + 1, 2, none⟩ = some (.slice ht1.fA t1.frames.length ht1.fc) ∧ w'.cell? ⟨w.heap.size + 1, 3, none⟩ = some (.slice ht1.sA t1.stack.length ht1.sc) ∧ w'.cell? ⟨w.heap.size + 1, 4, none⟩ = some (.int .i64 t1.code) ∧ w'.cell? ⟨cb, 0, none⟩ = some (.int .i64 u.state) ∧ w'.cell? ⟨cb, 1, none⟩ = some (.int .i64 u.on) ∧ w'.cell? ⟨cb, 2, none⟩ = some (.slice cA u.frames.length cc) ∧ w'.cell? ⟨cb, 3, none⟩ = some (.slice qA u.stack.length qc) ∧ w'.cell? ⟨cb, 4, none⟩ = some (.int .i64 u.code))
    (first | (with_reducible exact HS.out _ hbq) | (with_reducible exact HS.out _ hbq.drew) | go_keep)
    (first
      | (go_simp; go_at_call 23; refine (S5.out _ (by first | with_reducible exact hbq | with_reducible exact hbq.drew)).mono ?_; rintro e wq ⟨hk, rfl, hrk, hbq⟩)
      | (go_simp; go_at_call 19; refine (S7.out _ (by first | with_reducible exact hbq | with_reducible exact hbq.drew)).mono ?_; rintro e wq ⟨rfl, hbq⟩)
      | (go_simp; go_at_call 22; first
          | ((with_reducible refine (S2.out _ (by first | with_reducible exact hbq | with_reducible exact hbq.drew)).mono ?_); rintro e wq ⟨rfl, hbq⟩)
          | ((with_reducible refine (S4.out _ (by first | with_reducible exact hbq | with_reducible exact hbq.drew)).mono ?_); rintro e wq ⟨rfl, hbq⟩))
      | (go_simp; go_at_call 21; first
          | ((with_reducible refine (S1.out _ (by first | with_reducible exact hbq | with_reducible exact hbq.drew)).mono ?_); rintro e wq ⟨rfl, hbq⟩)
          | ((with_reducible refine (S3.out _ (by first | with_reducible exact hbq | with_reducible exact hbq.drew)).mono ?_); rintro e wq ⟨rfl, hbq⟩)
          | (refine (S6.out _ hk (by first | with_reducible exact hbq | with_reducible exact hbq.drew) (by first | exact hrk | exact hrk.keep fun _ _ _ => rfl)).mono ?_; rintro e wq ⟨rfl, hbq⟩)))
  all_goals
    go_wp2_with fail
    go_ret
    exact ⟨rfl, HBL.out.trans (hbq.mono HBL.out.size)⟩
end Go.Proofs.Ytbgdgfnbdipjkaa.stackSame
