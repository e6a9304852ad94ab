
/-
  The document's Enter.
-/
import Derived.Test.YtkciedcfphhenaaRefTC
import Derived.Deep.RegionHeld3
import Derived.Deep.AppendLies
import Derived.Deep.RegionLaw
import Derived.Deep.RegionHeld
import Derived.Deep.DeepCutAuto
import Derived.Deep.CutBlock
set_option linter.unusedVariables false
set_option linter.unusedSimpArgs false
namespace Go.Proofs.Ytkciedcfphhenaa
open Go.RowKit Plain

set_option maxHeartbeats 4000000 in
set_option maxRecDepth 100000 in
theorem refEnter_yes (h : PH) (p : PV) (ht : TH) (t : TV) (w : World) (B : Nat) (D : Nat → Prop) (hr : RP w B h p) (hr2 : RT w D ht t) (hB : B ≤ w.heap.size) (hfl : FewLoc p) (hplen : p.funcs.length ≤ 9223372036854775807) (hl : LensT t) (f : Nat) (hf : f < p.funcs.length) (hroom : t.frames.length < 8) :
    Calls Try.prog 43 #[.agg #[.slice h.fA p.funcs.length h.fc, .int .i64 p.mutexes, .slice h.cA p.conds.length h.cc, .slice h.sA p.semas.length h.sc, .slice h.hA p.chans.length h.hc, .slice h.xA p.choices.length h.xc, .int .i64 p.threads], .agg #[.int .i64 t.state, .int .i64 t.on, .slice ht.fA t.frames.length ht.fc, .slice ht.sA t.stack.length ht.sc, .int .i64 t.code], .int .i64 (f : Int)] w
      fun e w' => ∃ h' : TH, e = .returned (.tuple #[.agg #[.int .i64 t.state, .int .i64 t.on, .slice h'.fA (t.frames.length + 1) h'.fc, .slice h'.sA t.stack.length h'.sc, .int .i64 t.code], .bool true]) ∧ RT w' (fun i => w.heap.size ≤ i) h' (enterT p t f) ∧ Below w.heap.size w w' := by
  obtain ⟨i0, hi0, hz0, hz1, hz2⟩ := info_parts info_frame
  have hlen1 := hl.stack
  have hlen2 := hl.frames
  have hcl := fun (W : World) (hW : RT W D ht t) => refClone_any ht t W D hW hl
  have HC := Lib.hid hcl
  have hfr := fun (W : World) (hW : RP W B h p) (hBW : B ≤ W.heap.size) => refFrame_any h p W B hW hBW hfl f hf hplen
  have h8i : (t.frames.length : Int) < 8 := by omega
  obtain ⟨tA, tc, kA, kc⟩ := ht
  obtain ⟨fA, fc, cA, cc, sA, sc, hA, hc, xA, xc⟩ := h
  have HR := Lib.hid hr
  have HR2 := Lib.hid hr2
  have hm : (newFr p f).locals.length = (funcAt p f).locals.toNat := by simp [newFr]
  have HM := Lib.hid hm
  have hen : enterT p t f = { t with frames := t.frames ++ [newFr p f] } := rfl
  have HEN := Lib.hid hen
  have hnf : (newFr p f).func = (f : Int) ∧ (newFr p f).pc = 0 := ⟨rfl, rfl⟩
  have HNF := Lib.hid hnf
  clear hr hr2 hcl hl hfl hen hnf
  generalize (funcAt p f).locals.toNat = m at *
  generalize newFr p f = nf at *
  have HFR := Lib.hid hfr
  clear hfr hm
  go_enter Try.func43, Try.ntmps43
  go_wp2_with fail
  refine (HC.out _ (((HR2.out.alloc _).alloc _).alloc _)).mono ?_
  rintro e w1 ⟨A, c, qA, qc, ts, rfl, hot, hb⟩
  obtain ⟨W2, hW2⟩ : ∃ W, W = ((w.alloc (.cells #[.slice fA p.funcs.length fc, .int .i64 p.mutexes, .slice cA p.conds.length cc, .slice sA p.semas.length sc, .slice hA p.chans.length hc, .slice xA p.choices.length xc, .int .i64 p.threads] 26)).alloc (.cells #[.int .i64 t.state, .int .i64 t.on, .slice tA t.frames.length tc, .slice kA t.stack.length kc, .int .i64 t.code] 29)).alloc (.cells #[.int .i64 0, .int .i64 0, .slice none 0 0, .slice none 0 0, .int .i64 0] 29) := ⟨_, rfl⟩
  have hz : W2.heap.size = w.heap.size + 1 + 1 + 1 := by rw [hW2]; simp
  have hpb2 : Blk W2 w.heap.size 26 #[.slice fA p.funcs.length fc, .int .i64 p.mutexes, .slice cA p.conds.length cc, .slice sA p.semas.length sc, .slice hA p.chans.length hc, .slice xA p.choices.length xc, .int .i64 p.threads] := by rw [hW2]; exact ((Blk.new w _ _).alloc _).alloc _
  have hrb2 : Blk W2 (w.heap.size + 1 + 1) 29 #[.int .i64 0, .int .i64 0, .slice none 0 0, .slice none 0 0, .int .i64 0] := by rw [hW2]; simpa using Blk.new ((w.alloc (.cells #[.slice fA p.funcs.length fc, .int .i64 p.mutexes, .slice cA p.conds.length cc, .slice sA p.semas.length sc, .slice hA p.chans.length hc, .slice xA p.choices.length xc, .int .i64 p.threads] 26)).alloc (.cells #[.int .i64 t.state, .int .i64 t.on, .slice tA t.frames.length tc, .slice kA t.stack.length kc, .int .i64 t.code] 29)) 29 #[.int .i64 0, .int .i64 0, .slice none 0 0, .slice none 0 0, .int .i64 0]
  have hbel2 : Below w.heap.size w W2 := by rw [hW2]; exact (((Below.refl w.heap.size w).alloc (Nat.le_refl _) _).alloc (by simp) _).alloc (by simp; omega) _
  rw [← hW2] at hot hb
  clear hW2
  have hwk := wk_of (w := w) hrb2 hbel2 (by omega) hot hb
  have hpb1 := (hpb2.below hb (by omega)).alloc (.cells #[.int .i64 t.state, .int .i64 t.on, .slice A t.frames.length c, .slice qA t.stack.length qc, .int .i64 t.code] 29)
  rw [hz] at hwk
  have HW := Lib.hid hwk
  have HPB := Lib.hid hpb1
  obtain ⟨ob, hob⟩ : ∃ b, b = w1.heap.size := ⟨_, rfl⟩
  clear hot hb hwk hpb1 hpb2 hrb2 hbel2 hz HC
  go_upto_region 4 with fail
  obtain ⟨W3, hW3⟩ : ∃ W, W = w1.alloc (.cells #[.int .i64 t.state, .int .i64 t.on, .slice A t.frames.length c, .slice qA t.stack.length qc, .int .i64 t.code] 29) := ⟨_, rfl⟩
  rw [← hW3, ← hob] at HW
  rw [← hW3] at HPB
  rw [← hW3, ← hob]
  clear hW3 hob
  have zob := HW.out.bx.lt
  have zpb := HPB.out.lt
  have x2 : W3.cell? ⟨ob, 2, none⟩ = some (.slice A t.frames.length c) := (HW.out.bx.cell 2).trans rfl
  have p0 : W3.cell? ⟨w.heap.size, 0, none⟩ = some (.slice fA p.funcs.length fc) := (HPB.out.cell 0).trans rfl
  have p1 : W3.cell? ⟨w.heap.size, 1, none⟩ = some (.int .i64 p.mutexes) := (HPB.out.cell 1).trans rfl
  have p2 : W3.cell? ⟨w.heap.size, 2, none⟩ = some (.slice cA p.conds.length cc) := (HPB.out.cell 2).trans rfl
  have p3 : W3.cell? ⟨w.heap.size, 3, none⟩ = some (.slice sA p.semas.length sc) := (HPB.out.cell 3).trans rfl
  have p4 : W3.cell? ⟨w.heap.size, 4, none⟩ = some (.slice hA p.chans.length hc) := (HPB.out.cell 4).trans rfl
  have p5 : W3.cell? ⟨w.heap.size, 5, none⟩ = some (.slice xA p.choices.length xc) := (HPB.out.cell 5).trans rfl
  have p6 : W3.cell? ⟨w.heap.size, 6, none⟩ = some (.int .i64 p.threads) := (HPB.out.cell 6).trans rfl
  go_cut [] (fun wx => ∃ h' : TH, Fin5 w wx (w.heap.size + 1 + 1) ob (w.heap.size + 1 + 1 + 1) h' { t with frames := t.frames ++ [nf] })
  case first =>
    have zbs := HW.out.bel.size
    have zob2 := HW.out.h2
    go_region_law (first
      | (refine step_append_lies _ (by rfl) (.tmp 17) (.tmp 21) _ (by rfl) (w.heap.size + 1 + 1 + 1) 67 i0 _ 3 40 Try.underlying27 hi0 hz0 hz1 hz2 rfl (by decide) (.slice A t.frames.length c) t.frames.length (FrS ts) (by rfl) (HW4.out.ot.row.alloc _) ⟨w4.heap.size, 0, none⟩ 1 1 [.int .i64 (f : Int), .int .i64 0, .slice AL m cL] (by rfl) rfl
          (World.news_of_block (Blk.new w4 _ _)) (by intro u hu; simp at hu; rcases hu with rfl | rfl | rfl <;> rfl) (by omega) (by unfold maxLen; omega) (by omega) (by simp; omega) _ rfl ?_
         intro g' cap' w' hown' hg' hor' hlt'
         have hF : Fr (fun i => (Value.slice A t.frames.length c).ownBlock = some i) w4 w' := ((Fr.refl _ w4).alloc _).trans (Fr.of_grown hg') (fun i _ h => h)
         have hb' := hF.blk HW4.out.bx (own_blk_ne HW4.out.ot.row HW4.out.bx (by decide))
         have z2 := (hb'.cell 2).trans rfl
         have zf := hb'.frozen 2
         have hlo := hb'.lt)
      | (go_simp; refine (HFR.out _ ((HR.out.below (HW.out.bel.mono hB)).drew) (Nat.le_trans hB HW.out.bel.size)).mono ?_; rintro e w4 ⟨AL, cL, rfl, hownL, hb4⟩
         have hbw4 : Below W3.heap.size W3 w4 := ((Below.refl _ _).drew).trans hb4
         have HW4 := Lib.hid (HW.out.below hbw4)
         have HOL := Lib.hid hownL
         have y2 : w4.cell? ⟨ob, 2, none⟩ = some (.slice A t.frames.length c) := (HW4.out.bx.cell 2).trans rfl
         have zo4 : ob < w4.heap.size := HW4.out.bx.lt
         have zb4 := HW4.out.bel.size
         clear hownL hb4 hbw4))
    all_goals
      go_wp2_with fail
      go_meet
      have hrow : FrS ts ++ [.int .i64 (f : Int), .int .i64 0, .slice AL m cL] = FrS (ts ++ [⟨nf, AL, cL⟩]) := by
        rw [← FrS_append]; congr 1; simp [FrS, flat3, TFr.cells, HNF.out.1, HNF.out.2, HM.out]
      rw [hrow] at hown'
      have hol := own_mono (base := w.heap.size + 1 + 1 + 1) HOL.out (by have := HW.out.bel.size; have := HW.out.h2; have := HW.out.bx.lt; simp; omega)
      exact ⟨⟨some ⟨g', 0, none⟩, cap', qA, qc⟩, fin_enter HW4.out hF hown' (by rw [HM.out]; exact hF.own hol (own_ne hol HW4.out.ot.row (by decide)))⟩
  case rest =>
  obtain ⟨⟨An, cn, qA', qc'⟩, hfin⟩ := hcut
  have hlk : (t.frames ++ [nf]).length = t.frames.length + 1 := by simp
  have HLK := Lib.hid hlk
  have HFIN := Lib.hid hfin
  obtain ⟨W4, hW4⟩ : ∃ W, W = wc := ⟨_, rfl⟩
  rw [← hW4] at HFIN ⊢
  clear hfin hW4 x2 p0 p1 p2 p3 p4 p5 p6 zob zpb HW HPB hlk
  have hfb := HFIN.out.bx
  have hfr := HFIN.out.rs
  have q0 := (hfb.cell 0).trans rfl
  have qf0 := hfb.frozen 0
  have q1 := (hfb.cell 1).trans rfl
  have qf1 := hfb.frozen 1
  have q2 := (hfb.cell 2).trans rfl
  have qf2 := hfb.frozen 2
  have q3 := (hfb.cell 3).trans rfl
  have qf3 := hfb.frozen 3
  have q4 := (hfb.cell 4).trans rfl
  have qf4 := hfb.frozen 4
  have r0 : W4.cell? ⟨w.heap.size + 1 + 1, 0, none⟩ = some (.int .i64 0) := (hfr.cell 0).trans rfl
  have u0 : W4.frozen? ⟨w.heap.size + 1 + 1, 0, none⟩ = false := hfr.frozen 0
  have r1 : W4.cell? ⟨w.heap.size + 1 + 1, 1, none⟩ = some (.int .i64 0) := (hfr.cell 1).trans rfl
  have u1 : W4.frozen? ⟨w.heap.size + 1 + 1, 1, none⟩ = false := hfr.frozen 1
  have r2 : W4.cell? ⟨w.heap.size + 1 + 1, 2, none⟩ = some (.slice none 0 0) := (hfr.cell 2).trans rfl
  have u2 : W4.frozen? ⟨w.heap.size + 1 + 1, 2, none⟩ = false := hfr.frozen 2
  have r3 : W4.cell? ⟨w.heap.size + 1 + 1, 3, none⟩ = some (.slice none 0 0) := (hfr.cell 3).trans rfl
  have u3 : W4.frozen? ⟨w.heap.size + 1 + 1, 3, none⟩ = false := hfr.frozen 3
  have r4 : W4.cell? ⟨w.heap.size + 1 + 1, 4, none⟩ = some (.int .i64 0) := (hfr.cell 4).trans rfl
  have u4 : W4.frozen? ⟨w.heap.size + 1 + 1, 4, none⟩ = false := hfr.frozen 4
  have zo4 := hfb.lt
  have zr4 := hfr.lt
  clear hfb hfr
  simp only [HLK.out] at q2
  go_wp2_with fail
  have hret := HFIN.out.ret
  simp only [HLK.out] at hret
  refine bodyPost_ret (v := .tuple #[.agg #[.int .i64 t.state, .int .i64 t.on, .slice An (t.frames.length + 1) cn, .slice qA' t.stack.length qc', .int .i64 t.code], .bool true]) (results_cell_slot rfl _ _ (w.heap.size + 1 + 1) 29 _ (0, 0) _ _ rfl rfl (Blk.set5 HFIN.out.rs (.int .i64 t.state) (.int .i64 t.on) (.slice An (t.frames.length + 1) cn) (.slice qA' t.stack.length qc') (.int .i64 t.code)) Try.underlying29 rfl (by kernel_rfl)) rfl ?_
  exact ⟨⟨An, cn, qA', qc'⟩, rfl, by rw [HEN.out]; exact hret.1, hret.2⟩
end Go.Proofs.Ytkciedcfphhenaa
