
/-
  vm: a turn's enter.
-/
import Derived.Test.YtkciedcfphhenaaVmE
import Derived.Deep.RegionLaw
import Derived.Deep.RegionHeld3
import Derived.Deep.DeepCutAuto
import Derived.Deep.CutBlock
set_option linter.unusedVariables false
set_option linter.unusedSimpArgs false
namespace Go.Proofs.Ytkciedcfphhenaa
open Go.RowKit Plain

theorem TD.put {w1 w2 : World} {b : Nat} {D : Nat → Prop} {ht : TH} {t : TV} (hr : RT w2 D ht t) (hD : ∀ i, D i → i ≠ b) (h0 : Blk w1 b 29 #[.int .i64 0, .int .i64 0, .slice none 0 0, .slice none 0 0, .int .i64 0]) (hb : Below w1.heap.size w1 w2) : TD (((((w2.setCell ⟨b, 0, none⟩ (.int .i64 t.state)).setCell ⟨b, 1, none⟩ (.int .i64 t.on)).setCell ⟨b, 2, none⟩ (.slice ht.fA t.frames.length ht.fc)).setCell ⟨b, 3, none⟩ (.slice ht.sA t.stack.length ht.sc)).setCell ⟨b, 4, none⟩ (.int .i64 t.code)) D b ht t := by
  have hfr := (Fr.refl (fun i => i = b) w2).set5 (g := b) (.inl rfl) (.int .i64 t.state) (.int .i64 t.on) (.slice ht.fA t.frames.length ht.fc) (.slice ht.sA t.stack.length ht.sc) (.int .i64 t.code)
  exact ⟨(h0.below hb h0.lt).set5 _ _ _ _ _, hr.keep fun x hd hx => hfr.cell hx (hD _ hd)⟩
set_option maxHeartbeats 4000000 in
set_option maxRecDepth 100000 in
theorem uenter_any (h : PH) (p : PV) (ht : TH) (t : TV) (f : Nat) (q : QV) (W : World) (ub B : Nat) (hu : US W ub B h p ht t (f : Int) q) (hl : LensT t) (hf : f < p.funcs.length) (hfl : FewLoc p) (hpl : p.funcs.length ≤ 9223372036854775807) (t2 : TV) (ok : Bool) (ht2 : t2 = if t.frames.length < 8 then enterT p t (f : Int) else t) (hok : ok = decide (t.frames.length < 8)) :
    Calls Try.prog 77 #[.pointer (some ⟨ub, 0, none⟩)] W fun e W' => e = .returned (.tuple #[]) ∧ (∃ ht' : TH, US W' ub B h p ht' (goV ok t2 q 3).1 (f : Int) (goV ok t2 q 3).2) ∧ Fr (fun i => i = ub) W W' := by
  obtain ⟨fA, fc, cA, cc, sA, sc, hA, hc, xA, xc⟩ := h
  obtain ⟨a1, c1, s1, d1⟩ := ht
  have HU := Lib.hid hu
  have hul := hu.bx.lt
  have hbb := hu.hB
  have KS : Hid (∀ X, Below W.heap.size W X → X.cell? ⟨ub, 0, none⟩ = some (.slice fA p.funcs.length fc) ∧ X.cell? ⟨ub, 1, none⟩ = some (.int .i64 p.mutexes) ∧ X.cell? ⟨ub, 2, none⟩ = some (.slice cA p.conds.length cc) ∧ X.cell? ⟨ub, 3, none⟩ = some (.slice sA p.semas.length sc) ∧ X.cell? ⟨ub, 4, none⟩ = some (.slice hA p.chans.length hc) ∧ X.cell? ⟨ub, 5, none⟩ = some (.slice xA p.choices.length xc) ∧ X.cell? ⟨ub, 6, none⟩ = some (.int .i64 p.threads) ∧ X.cell? ⟨ub, 7, none⟩ = some (.int .i64 t.state) ∧ X.cell? ⟨ub, 8, none⟩ = some (.int .i64 t.on) ∧ X.cell? ⟨ub, 9, none⟩ = some (.slice a1 t.frames.length c1) ∧ X.cell? ⟨ub, 10, none⟩ = some (.slice s1 t.stack.length d1) ∧ X.cell? ⟨ub, 11, none⟩ = some (.int .i64 t.code) ∧ X.cell? ⟨ub, 12, none⟩ = some (.int .i64 (f : Int))) := fun X hX => by
    have g1 := hu.bx.below hX hu.bx.lt
    exact ⟨(g1.cell 0).trans rfl, (g1.cell 1).trans rfl, (g1.cell 2).trans rfl, (g1.cell 3).trans rfl, (g1.cell 4).trans rfl, (g1.cell 5).trans rfl, (g1.cell 6).trans rfl, (g1.cell 7).trans rfl, (g1.cell 8).trans rfl, (g1.cell 9).trans rfl, (g1.cell 10).trans rfl, (g1.cell 11).trans rfl, (g1.cell 12).trans rfl⟩
  have HC : Hid (∀ X, Below W.heap.size W X → Calls Try.prog 95 #[.agg #[.slice fA p.funcs.length fc, .int .i64 p.mutexes, .slice cA p.conds.length cc, .slice sA p.semas.length sc, .slice hA p.chans.length hc, .slice xA p.choices.length xc, .int .i64 p.threads], .agg #[.int .i64 t.state, .int .i64 t.on, .slice a1 t.frames.length c1, .slice s1 t.stack.length d1, .int .i64 t.code], .int .i64 (f : Int)] X fun e w' => ∃ h' : TH, e = .returned (.tuple #[.agg #[.int .i64 t2.state, .int .i64 t2.on, .slice h'.fA t2.frames.length h'.fc, .slice h'.sA t2.stack.length h'.sc, .int .i64 t2.code], .bool ok]) ∧ RT w' (fun i => ((B ≤ i ∧ i ≠ ub) ∧ i < W.heap.size) ∨ X.heap.size ≤ i) h' t2 ∧ Below X.heap.size X w' ∧ Below W.heap.size W w') := fun X hX => by
    have hs := hX.size
    subst hok
    refine (enter_all ⟨fA, fc, cA, cc, sA, sc, hA, hc, xA, xc⟩ p ⟨a1, c1, s1, d1⟩ t f X B (fun i => (B ≤ i ∧ i ≠ ub) ∧ i < W.heap.size) (hu.rp.below (hX.mono (by omega))) (by omega) hfl hpl (hu.rt.cut.below hX) hl hf t2 ht2).mono ?_
    rintro e w' ⟨h', he, hrt, hb⟩
    exact ⟨h', he, hrt, hb, hX.trans (hb.mono hX.size)⟩
  have x0 : W.cell? ⟨ub, 0, none⟩ = some (.slice fA p.funcs.length fc) := (hu.bx.cell 0).trans rfl
  have x1 : W.cell? ⟨ub, 1, none⟩ = some (.int .i64 p.mutexes) := (hu.bx.cell 1).trans rfl
  have x2 : W.cell? ⟨ub, 2, none⟩ = some (.slice cA p.conds.length cc) := (hu.bx.cell 2).trans rfl
  have x3 : W.cell? ⟨ub, 3, none⟩ = some (.slice sA p.semas.length sc) := (hu.bx.cell 3).trans rfl
  have x4 : W.cell? ⟨ub, 4, none⟩ = some (.slice hA p.chans.length hc) := (hu.bx.cell 4).trans rfl
  have x5 : W.cell? ⟨ub, 5, none⟩ = some (.slice xA p.choices.length xc) := (hu.bx.cell 5).trans rfl
  have x6 : W.cell? ⟨ub, 6, none⟩ = some (.int .i64 p.threads) := (hu.bx.cell 6).trans rfl
  have x7 : W.cell? ⟨ub, 7, none⟩ = some (.int .i64 t.state) := (hu.bx.cell 7).trans rfl
  have x8 : W.cell? ⟨ub, 8, none⟩ = some (.int .i64 t.on) := (hu.bx.cell 8).trans rfl
  have x9 : W.cell? ⟨ub, 9, none⟩ = some (.slice a1 t.frames.length c1) := (hu.bx.cell 9).trans rfl
  have x10 : W.cell? ⟨ub, 10, none⟩ = some (.slice s1 t.stack.length d1) := (hu.bx.cell 10).trans rfl
  have x11 : W.cell? ⟨ub, 11, none⟩ = some (.int .i64 t.code) := (hu.bx.cell 11).trans rfl
  have x12 : W.cell? ⟨ub, 12, none⟩ = some (.int .i64 (f : Int)) := (hu.bx.cell 12).trans rfl
  have hBu := hu.hB
  clear hu hl ht2 hok
  go_enter Try.func77, Try.ntmps77
  go_upto_region 0 with fail
  go_cut [2, 3] (fun s2 s3 wx => ∃ (bx : Nat) (h2 : TH), s2 = .pointer (some ⟨bx, 0, none⟩) ∧ s3 = .bool ok ∧ TD wx (fun i => B ≤ i ∧ i ≠ ub) bx h2 t2 ∧ Below W.heap.size W wx)
  case first =>
    go_region_held3 (fun w' => w'.cell? ⟨ub, 0, none⟩ = some (.slice fA p.funcs.length fc) ∧ w'.cell? ⟨ub, 1, none⟩ = some (.int .i64 p.mutexes) ∧ w'.cell? ⟨ub, 2, none⟩ = some (.slice cA p.conds.length cc) ∧ w'.cell? ⟨ub, 3, none⟩ = some (.slice sA p.semas.length sc) ∧ w'.cell? ⟨ub, 4, none⟩ = some (.slice hA p.chans.length hc) ∧ w'.cell? ⟨ub, 5, none⟩ = some (.slice xA p.choices.length xc) ∧ w'.cell? ⟨ub, 6, none⟩ = some (.int .i64 p.threads) ∧ w'.cell? ⟨ub, 7, none⟩ = some (.int .i64 t.state) ∧ w'.cell? ⟨ub, 8, none⟩ = some (.int .i64 t.on) ∧ w'.cell? ⟨ub, 9, none⟩ = some (.slice a1 t.frames.length c1) ∧ w'.cell? ⟨ub, 10, none⟩ = some (.slice s1 t.stack.length d1) ∧ w'.cell? ⟨ub, 11, none⟩ = some (.int .i64 t.code) ∧ w'.cell? ⟨ub, 12, none⟩ = some (.int .i64 (f : Int)))
      (first | (with_reducible exact KS.out _ (by repeat (first | with_reducible assumption | with_reducible exact Below.refl _ _ | with_reducible exact H5.out | with_reducible refine Below.drew ?_ | with_reducible refine Below.setCell ?_ (by first | exact Nat.le_refl _ | exact h5.size | exact H5.out.size | omega) _ | with_reducible refine Below.alloc ?_ (by first | exact h5.size | exact H5.out.size | exact Nat.le_refl _ | omega) _))) | fail)
      (first
        | (go_simp; with_reducible refine (HC.out _ (by repeat (first | with_reducible assumption | with_reducible exact Below.refl _ _ | with_reducible exact H5.out | with_reducible refine Below.drew ?_ | with_reducible refine Below.setCell ?_ (by first | exact Nat.le_refl _ | exact h5.size | exact H5.out.size | omega) _ | with_reducible refine Below.alloc ?_ (by first | exact h5.size | exact H5.out.size | exact Nat.le_refl _ | omega) _))).mono ?_; rintro e w5 ⟨⟨a2, c2, s2, d2⟩, rfl, hrt5, h4, h5⟩
           first
             | (have nb0 : Blk w5 W.heap.size 29 #[.int .i64 0, .int .i64 0, .slice none 0 0, .slice none 0 0, .int .i64 0] := (Blk.drew (Blk.new W 29 #[.int .i64 0, .int .i64 0, .slice none 0 0, .slice none 0 0, .int .i64 0])).below h4 (by simp)
                have n0 : w5.cell? ⟨W.heap.size, 0, none⟩ = some (.int .i64 0) := (nb0.cell 0).trans rfl
                have m0 : w5.frozen? ⟨W.heap.size, 0, none⟩ = false := nb0.frozen 0
                have n1 : w5.cell? ⟨W.heap.size, 1, none⟩ = some (.int .i64 0) := (nb0.cell 1).trans rfl
                have m1 : w5.frozen? ⟨W.heap.size, 1, none⟩ = false := nb0.frozen 1
                have n2 : w5.cell? ⟨W.heap.size, 2, none⟩ = some (.slice none 0 0) := (nb0.cell 2).trans rfl
                have m2 : w5.frozen? ⟨W.heap.size, 2, none⟩ = false := nb0.frozen 2
                have n3 : w5.cell? ⟨W.heap.size, 3, none⟩ = some (.slice none 0 0) := (nb0.cell 3).trans rfl
                have m3 : w5.frozen? ⟨W.heap.size, 3, none⟩ = false := nb0.frozen 3
                have n4 : w5.cell? ⟨W.heap.size, 4, none⟩ = some (.int .i64 0) := (nb0.cell 4).trans rfl
                have m4 : w5.frozen? ⟨W.heap.size, 4, none⟩ = false := nb0.frozen 4
                have hzz : W.heap.size < w5.heap.size := nb0.lt
                have H5 := Lib.hid h5; have H4 := Lib.hid h4; have HRT5 := Lib.hid hrt5
                clear nb0 h5 h4 hrt5)
             | (have H5 := Lib.hid h5; have H4 := Lib.hid h4; have HRT5 := Lib.hid hrt5
                clear h5 h4 hrt5)))
    all_goals
      go_wp2_with fail
      go_meet
      have h5 := H5.out
      have h4 := H4.out
      have hrt5 := HRT5.out
      have hs5 := h5.size
      first
        | exact ⟨_, ⟨a2, c2, s2, d2⟩, rfl, rfl, (TD.new hrt5).mono (fun i hi _ => by rcases hi with hi | hi; exact hi.1; simp at hi; omega), h5.alloc h5.size _⟩
        | (have hp := TD.put (w1 := (W.alloc (.cells #[.int .i64 0, .int .i64 0, .slice none 0 0, .slice none 0 0, .int .i64 0] 29)).drew) (b := W.heap.size) hrt5 (fun i hi e => by simp at hi; omega) (Blk.drew (Blk.new W 29 #[.int .i64 0, .int .i64 0, .slice none 0 0, .slice none 0 0, .int .i64 0])) h4
           have hfr := (Fr.refl (fun i => i = W.heap.size) w5).set5 (g := W.heap.size) (.inl rfl) (.int .i64 t2.state) (.int .i64 t2.on) (.slice a2 t2.frames.length c2) (.slice s2 t2.stack.length d2) (.int .i64 t2.code)
           exact ⟨_, ⟨a2, c2, s2, d2⟩, rfl, rfl, hp.mono (fun i hi _ => by rcases hi with hi | hi; exact hi.1; simp at hi; omega), h5.trans (hfr.below h5.size (fun i hi => by omega))⟩)
  case rest =>
  obtain ⟨bx, ⟨a2, c2, s2, d2⟩, rfl, rfl, htd, hb⟩ := hcut
  have HTD := Lib.hid htd; have HB := Lib.hid hb
  have hu1 := HU.out.below hb
  have HU1 := Lib.hid hu1
  have hs := hb.size
  have v0 : wc.cell? ⟨bx, 0, none⟩ = some (.int .i64 t2.state) := (htd.tb.cell 0).trans rfl
  have v1 : wc.cell? ⟨bx, 1, none⟩ = some (.int .i64 t2.on) := (htd.tb.cell 1).trans rfl
  have v2 : wc.cell? ⟨bx, 2, none⟩ = some (.slice a2 t2.frames.length c2) := (htd.tb.cell 2).trans rfl
  have v3 : wc.cell? ⟨bx, 3, none⟩ = some (.slice s2 t2.stack.length d2) := (htd.tb.cell 3).trans rfl
  have v4 : wc.cell? ⟨bx, 4, none⟩ = some (.int .i64 t2.code) := (htd.tb.cell 4).trans rfl
  have hbl := htd.tb.lt
  clear htd hb hu1 KS HC x0 x1 x2 x3 x4 x5 x6 x7 x8 x9 x10 x11 x12
  go_wp2_with fail
  refine (goOn_any ⟨fA, fc, cA, cc, sA, sc, hA, hc, xA, xc⟩ p ⟨a1, c1, s1, d1⟩ t (f : Int) q ok a2 c2 s2 d2 t2 3 _ ub B HU1.out HTD.out.rt).mono ?_
  rintro e W2 ⟨rfl, hq, hf⟩
  go_wp2_with fail
  go_end0
  exact ⟨rfl, hq, ((Fr.of_below HB.out).mono (S := fun i => i = ub) (fun i hi hT => by omega)).trans hf (fun i _ h => h)⟩
set_option maxHeartbeats 4000000 in
set_option maxRecDepth 100000 in
theorem deed9 (h : PH) (p : PV) (ht : TH) (t : TV) (a : Int) (W : World) (ub B : Nat) (hu : US W ub B h p ht t a q0) (hl : LensT t) (hm : 1 ≤ t.frames.length ∧ t.frames.length ≤ 1000000 ∧ t.stack.length ≤ 1000000) (hi : 0 ≤ a ∧ a < p.funcs.length ∧ FewLoc p ∧ p.funcs.length ≤ 9223372036854775807) :
    Calls Try.prog 76 #[.pointer (some ⟨ub, 0, none⟩)] W fun e W' => e = .returned (.tuple #[]) ∧ (∃ ht' : TH, US W' ub B h p ht' (deedV p t ⟨9, a⟩).1 a (deedV p t ⟨9, a⟩).2) ∧ Fr (fun i => i = ub) W W' := by
  obtain ⟨fA, fc, cA, cc, sA, sc, hA, hc, xA, xc⟩ := h
  obtain ⟨a1, c1, s1, d1⟩ := ht
  have HU := Lib.hid hu
  have hul := hu.bx.lt
  have HL := Lib.hid hl; have HF := Lib.hid hi
  clear hu hl
  obtain ⟨hi0, hi1, hfl, hpl⟩ := hi
  obtain ⟨f, rfl⟩ := Int.eq_ofNat_of_zero_le hi0
  have hd : deedV p t ⟨9, (f : Int)⟩ = goV (decide (t.frames.length < 8)) (if t.frames.length < 8 then enterT p t (f : Int) else t) q0 3 := by
    by_cases hc : t.frames.length < 8
    · simp [deedV, goV, hc]
    · simp [deedV, goV, hc, endV]
  rw [hd]
  clear hd
  generalize ht2 : (if t.frames.length < 8 then enterT p t (f : Int) else t) = t2 at *
  generalize hok : decide (t.frames.length < 8) = ok at *
  have HT2 := Lib.hid ht2; have HOK := Lib.hid hok; have HFL := Lib.hid hfl
  have hfn : f < p.funcs.length := by omega
  clear ht2 hok hfl HF hi0 hi1
  go_enter Try.func76, Try.ntmps76
  go_wp2_with fail
  refine (uenter_any ⟨fA, fc, cA, cc, sA, sc, hA, hc, xA, xc⟩ p ⟨a1, c1, s1, d1⟩ t f q0 W ub B HU.out HL.out hfn HFL.out hpl t2 ok HT2.out.symm HOK.out.symm).mono ?_
  rintro e W1 ⟨rfl, hq, hf⟩
  go_wp2_with fail
  go_end0
  exact ⟨rfl, hq, hf⟩
end Go.Proofs.Ytkciedcfphhenaa
