
/-
  Whether a program may be: the program's own answer.
-/
import Derived.Test.YtoahomhnjmdbkaaMayE
set_option linter.unusedVariables false
set_option linter.unusedSimpArgs false
namespace Go.Proofs.Ytoahomhnjmdbkaa
open Go.RowKit Plain

def mayC (p : PV) : Bool :=
  (withinB (p.funcs.length : Int) 1 16) && (withinB p.mutexes 0 8) && (listB p.conds p.mutexes) && (listB p.semas 101) && (listB p.chans 9) && (choicesB p) && (withinB p.threads 1 32) && (p.funcs.all (funcC p))

set_option maxHeartbeats 40000000 in
set_option maxRecDepth 100000 in
theorem mayC_yes (h : PH) (p : PV) (w : World) (B : Nat) (hr : RP w B h p) (hB : B ≤ w.heap.size) (hlen : Lens p) (hm : mayC p = true) :
    Calls Try.prog 11 #[.agg #[.slice h.fA p.funcs.length h.fc, .int .i64 p.mutexes, .slice h.cA p.conds.length h.cc, .slice h.sA p.semas.length h.sc, .slice h.hA p.chans.length h.hc, .slice h.xA p.choices.length h.xc, .int .i64 p.threads]] w
      fun e w' => e = .returned (.bool true) ∧ Below w.heap.size w w' := by
  obtain ⟨W0, hW0⟩ : ∃ W, W = w.alloc (.cells (PC h p) 26) := ⟨_, rfl⟩
  have h0 : Below w.heap.size w W0 := by rw [hW0]; exact (Below.refl _ _).alloc (Nat.le_refl _) _
  have hk : Blk W0 w.heap.size 26 (PC h p) := by rw [hW0]; exact Blk.new _ _ _
  have z0 := h0.size
  have zk := hk.lt
  have hrw : ∀ W, Below W0.heap.size W0 W → RP W B h p := fun W hW => hr.below ((h0.mono hB).trans (hW.mono (by omega)))
  have BEL : Hid (∀ n W, Below W0.heap.size W0 W → Calls Try.prog 37 #[.int .i64 n] W fun e w' => ∃ g, e = .returned (.func (.func 72) #[] #[.pointer (some ⟨g, 0, none⟩)]) ∧ Blk w' g 3 #[.int .i64 n] ∧ Below W0.heap.size W0 w') := fun n W hW =>
    (below_any n W).mono fun e w' ⟨he, hw⟩ => by subst hw; exact ⟨_, he, Blk.new W _ _, hW.alloc hW.size _⟩
  have WA : Hid (∀ (b : Bool), withinB (p.funcs.length : Int) 1 16 = b → ∀ (W : World), Calls Try.prog 35 #[.int .i64 (p.funcs.length : Int), .int .i64 1, .int .i64 16] W fun e w' => e = .returned (.bool b) ∧ W = w') := fun b hb W => (within_any _ _ _ W).mono fun e w' ⟨he, hw⟩ => ⟨by rw [he, hb], hw⟩
  have WB : Hid (∀ (b : Bool), withinB p.mutexes 0 8 = b → ∀ (W : World), Calls Try.prog 35 #[.int .i64 p.mutexes, .int .i64 0, .int .i64 8] W fun e w' => e = .returned (.bool b) ∧ W = w') := fun b hb W => (within_any _ _ _ W).mono fun e w' ⟨he, hw⟩ => ⟨by rw [he, hb], hw⟩
  have WT : Hid (∀ (b : Bool), withinB p.threads 1 32 = b → ∀ (W : World), Calls Try.prog 35 #[.int .i64 p.threads, .int .i64 1, .int .i64 32] W fun e w' => e = .returned (.bool b) ∧ W = w') := fun b hb W => (within_any _ _ _ W).mono fun e w' ⟨he, hw⟩ => ⟨by rw [he, hb], hw⟩
  have LC : Hid (∀ (b : Bool), listB p.conds p.mutexes = b → ∀ (W : World) (g : Nat), Below W0.heap.size W0 W → Blk W g 3 #[.int .i64 p.mutexes] → Calls Try.prog 36 #[.slice h.cA p.conds.length h.cc, .func (.func 72) #[] #[.pointer (some ⟨g, 0, none⟩)]] W fun e w' => e = .returned (.bool b) ∧ W = w') := fun b hb W g hW hg =>
    (mayList_any p.conds p.mutexes g W B _ _ _ (hrw W hW).conds (by have := hlen.conds; omega) hg).mono fun e w' ⟨he, hw⟩ => ⟨by rw [he, hb], hw⟩
  have LS : Hid (∀ (b : Bool), listB p.semas 101 = b → ∀ (W : World) (g : Nat), Below W0.heap.size W0 W → Blk W g 3 #[.int .i64 101] → Calls Try.prog 36 #[.slice h.sA p.semas.length h.sc, .func (.func 72) #[] #[.pointer (some ⟨g, 0, none⟩)]] W fun e w' => e = .returned (.bool b) ∧ W = w') := fun b hb W g hW hg =>
    (mayList_any p.semas 101 g W B _ _ _ (hrw W hW).semas (by have := hlen.semas; omega) hg).mono fun e w' ⟨he, hw⟩ => ⟨by rw [he, hb], hw⟩
  have LH : Hid (∀ (b : Bool), listB p.chans 9 = b → ∀ (W : World) (g : Nat), Below W0.heap.size W0 W → Blk W g 3 #[.int .i64 9] → Calls Try.prog 36 #[.slice h.hA p.chans.length h.hc, .func (.func 72) #[] #[.pointer (some ⟨g, 0, none⟩)]] W fun e w' => e = .returned (.bool b) ∧ W = w') := fun b hb W g hW hg =>
    (mayList_any p.chans 9 g W B _ _ _ (hrw W hW).chans (by have := hlen.chans; omega) hg).mono fun e w' ⟨he, hw⟩ => ⟨by rw [he, hb], hw⟩
  have MX : Hid (∀ (b : Bool), choicesB p = b → ∀ W, Below W0.heap.size W0 W → Calls Try.prog 38 #[.agg #[.slice h.fA p.funcs.length h.fc, .int .i64 p.mutexes, .slice h.cA p.conds.length h.cc, .slice h.sA p.semas.length h.sc, .slice h.hA p.chans.length h.hc, .slice h.xA p.choices.length h.xc, .int .i64 p.threads]] W fun e w' => e = .returned (.bool b) ∧ Below W0.heap.size W0 w') := fun b hb W hW =>
    (mayChoices_any h p W B (hrw W hW) (by have := hW.size; omega) hlen).mono fun e w' ⟨he, hq⟩ => ⟨by rw [he, hb], hW.trans (hq.mono hW.size)⟩
  have MF : Hid (∀ (b : Bool), p.funcs.all (funcC p) = b → ∀ W, Below W0.heap.size W0 W → Calls Try.prog 39 #[.agg #[.slice h.fA p.funcs.length h.fc, .int .i64 p.mutexes, .slice h.cA p.conds.length h.cc, .slice h.sA p.semas.length h.sc, .slice h.hA p.chans.length h.hc, .slice h.xA p.choices.length h.xc, .int .i64 p.threads]] W fun e w' => e = .returned (.bool b) ∧ Below W0.heap.size W0 w') := fun b hb W hW =>
    (mayFuncs_any h p W B (hrw W hW) (by have := hW.size; omega) hlen).mono fun e w' ⟨he, hq⟩ => ⟨by rw [he, hb], hW.trans (hq.mono hW.size)⟩
  obtain ⟨fA, fc, cA, cc, sA, sc, hA, hc, xA, xc⟩ := h
  simp only at LC LS LH MX MF
  have KS : Hid (∀ X, Below W0.heap.size W0 X → X.cell? ⟨w.heap.size, 0, none⟩ = some (.slice fA p.funcs.length fc) ∧ X.cell? ⟨w.heap.size, 1, none⟩ = some (.int .i64 p.mutexes) ∧ X.cell? ⟨w.heap.size, 2, none⟩ = some (.slice cA p.conds.length cc) ∧ X.cell? ⟨w.heap.size, 3, none⟩ = some (.slice sA p.semas.length sc) ∧ X.cell? ⟨w.heap.size, 4, none⟩ = some (.slice hA p.chans.length hc) ∧ X.cell? ⟨w.heap.size, 5, none⟩ = some (.slice xA p.choices.length xc) ∧ X.cell? ⟨w.heap.size, 6, none⟩ = some (.int .i64 p.threads)) := by
    intro X hX
    exact ⟨(hX.cell (p := ⟨w.heap.size, 0, none⟩) zk).trans ((hk.cell 0).trans rfl), (hX.cell (p := ⟨w.heap.size, 1, none⟩) zk).trans ((hk.cell 1).trans rfl), (hX.cell (p := ⟨w.heap.size, 2, none⟩) zk).trans ((hk.cell 2).trans rfl), (hX.cell (p := ⟨w.heap.size, 3, none⟩) zk).trans ((hk.cell 3).trans rfl), (hX.cell (p := ⟨w.heap.size, 4, none⟩) zk).trans ((hk.cell 4).trans rfl), (hX.cell (p := ⟨w.heap.size, 5, none⟩) zk).trans ((hk.cell 5).trans rfl), (hX.cell (p := ⟨w.heap.size, 6, none⟩) zk).trans ((hk.cell 6).trans rfl)⟩
  have HW : Hid (w.alloc (.cells #[.slice fA p.funcs.length fc, .int .i64 p.mutexes, .slice cA p.conds.length cc, .slice sA p.semas.length sc, .slice hA p.chans.length hc, .slice xA p.choices.length xc, .int .i64 p.threads] 26) = W0) := hW0.symm
  have H0 := Lib.hid h0
  have hbq : Below W0.heap.size W0 W0 := Below.refl _ _
  obtain ⟨p0, p1, p2, p3, p4, p5, p6⟩ := KS.out W0 hbq
  simp only [mayC, Bool.and_eq_true] at hm
  obtain ⟨⟨⟨⟨⟨⟨⟨b0, b1⟩, b2⟩, b3⟩, b4⟩, b5⟩, b6⟩, b7⟩ := hm
  clear hW0 h0 hk hrw hr hlen
  go_enter Try.func11, Try.ntmps11
  have B0 := Lib.hid b0
  have B1 := Lib.hid b1
  have B2 := Lib.hid b2
  have B3 := Lib.hid b3
  have B4 := Lib.hid b4
  have B5 := Lib.hid b5
  have B6 := Lib.hid b6
  have B7 := Lib.hid b7
  clear b0 b1 b2 b3 b4 b5 b6 b7
  go_wp2_with fail
  rw [HW.out]
  go_region_held3 (fun w' => w'.cell? ⟨w.heap.size, 0, none⟩ = some (.slice fA p.funcs.length fc) ∧ w'.cell? ⟨w.heap.size, 1, none⟩ = some (.int .i64 p.mutexes) ∧ w'.cell? ⟨w.heap.size, 2, none⟩ = some (.slice cA p.conds.length cc) ∧ w'.cell? ⟨w.heap.size, 3, none⟩ = some (.slice sA p.semas.length sc) ∧ w'.cell? ⟨w.heap.size, 4, none⟩ = some (.slice hA p.chans.length hc) ∧ w'.cell? ⟨w.heap.size, 5, none⟩ = some (.slice xA p.choices.length xc) ∧ w'.cell? ⟨w.heap.size, 6, none⟩ = some (.int .i64 p.threads))
    (first | (exact KS.out _ hbq) | (exact KS.out _ hbq.drew) | go_keep)
    (first
      | (go_simp; go_at_call 35; first
          | ((with_reducible refine (WA.out _ B0.out _).mono ?_); rintro e wq ⟨rfl, rfl⟩)
          | ((with_reducible refine (WB.out _ B1.out _).mono ?_); rintro e wq ⟨rfl, rfl⟩)
          | ((with_reducible refine (WT.out _ B6.out _).mono ?_); rintro e wq ⟨rfl, rfl⟩))
      | (go_simp; go_at_call 37; refine (BEL.out _ _ (by first | exact hbq | exact hbq.drew)).mono ?_; rintro e wq ⟨g, rfl, hg, hbq⟩)
      | (go_simp; go_at_call 36; first
          | ((with_reducible refine (LC.out _ B2.out _ _ (by first | exact hbq | exact hbq.drew) (by first | exact hg | exact hg.drew)).mono ?_); rintro e wq ⟨rfl, rfl⟩)
          | ((with_reducible refine (LS.out _ B3.out _ _ (by first | exact hbq | exact hbq.drew) (by first | exact hg | exact hg.drew)).mono ?_); rintro e wq ⟨rfl, rfl⟩)
          | ((with_reducible refine (LH.out _ B4.out _ _ (by first | exact hbq | exact hbq.drew) (by first | exact hg | exact hg.drew)).mono ?_); rintro e wq ⟨rfl, rfl⟩))
      | (go_simp; go_at_call 38; refine (MX.out _ B5.out _ (by first | exact hbq | exact hbq.drew)).mono ?_; rintro e wq ⟨rfl, hbq⟩)
      | (go_simp; go_at_call 39; refine (MF.out _ B7.out _ (by first | exact hbq | exact hbq.drew)).mono ?_; rintro e wq ⟨rfl, hbq⟩))
  all_goals
    go_wp2_with fail
    go_ret
    exact ⟨rfl, H0.out.trans ((show Below W0.heap.size W0 _ from (by first | exact hbq | exact hbq.drew)).mono z0)⟩
end Go.Proofs.Ytoahomhnjmdbkaa
