
/-
  Whether a program may be: the program's own answer, where one of the rules does not hold.
-/
import Derived.Test.YtmjbfobjndiecaaMyD
import Derived.Test.YtmjbfobjndiecaaRegTake
set_option linter.unusedVariables false
set_option linter.unusedSimpArgs false
namespace Go.Proofs.Ytmjbfobjndiecaa
open Go.RowKit Plain

set_option maxHeartbeats 40000000 in
set_option maxRecDepth 100000 in
theorem mayC_no0 (h : PH) (p : PV) (w : World) (B : Nat) (hr : RP w B h p) (hB : B ≤ w.heap.size) (hlen : Lens p)  (b0 : withinB (p.funcs.length : Int) 1 16 = false) :
    Calls Try.prog 10 #[.agg #[.slice h.fA p.funcs.length h.fc, .int .i64 p.mutexes, .slice h.cA p.conds.length h.cc, .slice h.sA p.semas.length h.sc, .slice h.hA p.chans.length h.hc, .slice h.xA p.choices.length h.xc, .int .i64 p.threads]] w
      fun e w' => e = .returned (.bool false) ∧ Below w.heap.size w w' := by
  obtain ⟨W0, hW0⟩ : ∃ W, W = w.alloc (.cells (PC h p) 26) := ⟨_, rfl⟩
  have h0 : Below w.heap.size w W0 := by rw [hW0]; exact (Below.refl _ _).alloc (Nat.le_refl _) _
  have hk : Blk W0 w.heap.size 26 (PC h p) := by rw [hW0]; exact Blk.new _ _ _
  have z0 := h0.size
  have zk := hk.lt
  have hrw : ∀ W, Below W0.heap.size W0 W → RP W B h p := fun W hW => hr.below ((h0.mono hB).trans (hW.mono (by omega)))
  have BEL : Hid (∀ n W, Below W0.heap.size W0 W → Calls Try.prog 36 #[.int .i64 n] W fun e w' => ∃ g, e = .returned (.func (.func 71) #[] #[.pointer (some ⟨g, 0, none⟩)]) ∧ Blk w' g 3 #[.int .i64 n] ∧ Below W0.heap.size W0 w') := fun n W hW =>
    (below_any n W).mono fun e w' ⟨he, hw⟩ => by subst hw; exact ⟨_, he, Blk.new W _ _, hW.alloc hW.size _⟩
  have WA : Hid (∀ (b : Bool), withinB (p.funcs.length : Int) 1 16 = b → ∀ (W : World), Calls Try.prog 34 #[.int .i64 (p.funcs.length : Int), .int .i64 1, .int .i64 16] W fun e w' => e = .returned (.bool b) ∧ W = w') := fun b hb W => (within_any _ _ _ W).mono fun e w' ⟨he, hw⟩ => ⟨by rw [he, hb], hw⟩
  have WB : Hid (∀ (b : Bool), withinB p.mutexes 0 8 = b → ∀ (W : World), Calls Try.prog 34 #[.int .i64 p.mutexes, .int .i64 0, .int .i64 8] W fun e w' => e = .returned (.bool b) ∧ W = w') := fun b hb W => (within_any _ _ _ W).mono fun e w' ⟨he, hw⟩ => ⟨by rw [he, hb], hw⟩
  have WT : Hid (∀ (b : Bool), withinB p.threads 1 32 = b → ∀ (W : World), Calls Try.prog 34 #[.int .i64 p.threads, .int .i64 1, .int .i64 32] W fun e w' => e = .returned (.bool b) ∧ W = w') := fun b hb W => (within_any _ _ _ W).mono fun e w' ⟨he, hw⟩ => ⟨by rw [he, hb], hw⟩
  have LC : Hid (∀ (b : Bool), listB p.conds p.mutexes = b → ∀ (W : World) (g : Nat), Below W0.heap.size W0 W → Blk W g 3 #[.int .i64 p.mutexes] → Calls Try.prog 35 #[.slice h.cA p.conds.length h.cc, .func (.func 71) #[] #[.pointer (some ⟨g, 0, none⟩)]] W fun e w' => e = .returned (.bool b) ∧ W = w') := fun b hb W g hW hg =>
    (mayList_any p.conds p.mutexes g W B _ _ _ (hrw W hW).conds (by have := hlen.conds; omega) hg).mono fun e w' ⟨he, hw⟩ => ⟨by rw [he, hb], hw⟩
  have LS : Hid (∀ (b : Bool), listB p.semas 101 = b → ∀ (W : World) (g : Nat), Below W0.heap.size W0 W → Blk W g 3 #[.int .i64 101] → Calls Try.prog 35 #[.slice h.sA p.semas.length h.sc, .func (.func 71) #[] #[.pointer (some ⟨g, 0, none⟩)]] W fun e w' => e = .returned (.bool b) ∧ W = w') := fun b hb W g hW hg =>
    (mayList_any p.semas 101 g W B _ _ _ (hrw W hW).semas (by have := hlen.semas; omega) hg).mono fun e w' ⟨he, hw⟩ => ⟨by rw [he, hb], hw⟩
  have LH : Hid (∀ (b : Bool), listB p.chans 9 = b → ∀ (W : World) (g : Nat), Below W0.heap.size W0 W → Blk W g 3 #[.int .i64 9] → Calls Try.prog 35 #[.slice h.hA p.chans.length h.hc, .func (.func 71) #[] #[.pointer (some ⟨g, 0, none⟩)]] W fun e w' => e = .returned (.bool b) ∧ W = w') := fun b hb W g hW hg =>
    (mayList_any p.chans 9 g W B _ _ _ (hrw W hW).chans (by have := hlen.chans; omega) hg).mono fun e w' ⟨he, hw⟩ => ⟨by rw [he, hb], hw⟩
  have MX : Hid (∀ (b : Bool), choicesB p = b → ∀ W, Below W0.heap.size W0 W → Calls Try.prog 37 #[.agg #[.slice h.fA p.funcs.length h.fc, .int .i64 p.mutexes, .slice h.cA p.conds.length h.cc, .slice h.sA p.semas.length h.sc, .slice h.hA p.chans.length h.hc, .slice h.xA p.choices.length h.xc, .int .i64 p.threads]] W fun e w' => e = .returned (.bool b) ∧ Below W0.heap.size W0 w') := fun b hb W hW =>
    (mayChoices_any h p W B (hrw W hW) (by have := hW.size; omega) hlen).mono fun e w' ⟨he, hq⟩ => ⟨by rw [he, hb], hW.trans (hq.mono hW.size)⟩
  have MF : Hid (∀ (b : Bool), p.funcs.all (funcC p) = b → ∀ W, Below W0.heap.size W0 W → Calls Try.prog 38 #[.agg #[.slice h.fA p.funcs.length h.fc, .int .i64 p.mutexes, .slice h.cA p.conds.length h.cc, .slice h.sA p.semas.length h.sc, .slice h.hA p.chans.length h.hc, .slice h.xA p.choices.length h.xc, .int .i64 p.threads]] W fun e w' => e = .returned (.bool b) ∧ Below W0.heap.size W0 w') := fun b hb W hW =>
    (mayFuncs_any h p W B (hrw W hW) (by have := hW.size; omega) hlen).mono fun e w' ⟨he, hq⟩ => ⟨by rw [he, hb], hW.trans (hq.mono hW.size)⟩
  obtain ⟨fA, fc, cA, cc, sA, sc, hA, hc, xA, xc⟩ := h
  simp only at LC LS LH MX MF
  have KS : Hid (∀ X, Below W0.heap.size W0 X → X.cell? ⟨w.heap.size, 0, none⟩ = some (.slice fA p.funcs.length fc) ∧ X.cell? ⟨w.heap.size, 1, none⟩ = some (.int .i64 p.mutexes) ∧ X.cell? ⟨w.heap.size, 2, none⟩ = some (.slice cA p.conds.length cc) ∧ X.cell? ⟨w.heap.size, 3, none⟩ = some (.slice sA p.semas.length sc) ∧ X.cell? ⟨w.heap.size, 4, none⟩ = some (.slice hA p.chans.length hc) ∧ X.cell? ⟨w.heap.size, 5, none⟩ = some (.slice xA p.choices.length xc) ∧ X.cell? ⟨w.heap.size, 6, none⟩ = some (.int .i64 p.threads)) := by
    intro X hX
    exact ⟨(hX.cell (p := ⟨w.heap.size, 0, none⟩) zk).trans ((hk.cell 0).trans rfl), (hX.cell (p := ⟨w.heap.size, 1, none⟩) zk).trans ((hk.cell 1).trans rfl), (hX.cell (p := ⟨w.heap.size, 2, none⟩) zk).trans ((hk.cell 2).trans rfl), (hX.cell (p := ⟨w.heap.size, 3, none⟩) zk).trans ((hk.cell 3).trans rfl), (hX.cell (p := ⟨w.heap.size, 4, none⟩) zk).trans ((hk.cell 4).trans rfl), (hX.cell (p := ⟨w.heap.size, 5, none⟩) zk).trans ((hk.cell 5).trans rfl), (hX.cell (p := ⟨w.heap.size, 6, none⟩) zk).trans ((hk.cell 6).trans rfl)⟩
  have HW : Hid (w.alloc (.cells #[.slice fA p.funcs.length fc, .int .i64 p.mutexes, .slice cA p.conds.length cc, .slice sA p.semas.length sc, .slice hA p.chans.length hc, .slice xA p.choices.length xc, .int .i64 p.threads] 26) = W0) := hW0.symm
  have H0 := Lib.hid h0
  have hbq : Below W0.heap.size W0 W0 := Below.refl _ _
  obtain ⟨p0, p1, p2, p3, p4, p5, p6⟩ := KS.out W0 hbq
  clear hW0 h0 hk hrw hr hlen
  go_enter Try.func10, Try.ntmps10
  have B0 := Lib.hid b0
  clear b0 p0 p1 p2 p3 p4 p5 p6
  go_upto_region 1 with fail
  rw [HW.out]
  refine wp_region_held_drew (S := fun w' => Below W0.heap.size W0 w') (by kernel_rfl) hbq.drew (fun hHeld => ?_)
  refine take_yes (i := 0) (v := ?v0) rfl (by kernel_rfl) (by kernel_rfl) (by kernel_rfl) (fun _ _ _ h => h) (by rfl) (by assumption) ?hy0 ?rest0
  case hy0 => (intro w hSw; obtain ⟨p0, p1, p2, p3, p4, p5, p6⟩ := KS.out w hSw; go_simp; try (with_reducible rfl))
  try simp only [Act.put, List.setIfInBounds_toArray, List.set_cons_zero, List.set_cons_succ]
  refine take_yes (i := 1) (v := ?v1) rfl (by kernel_rfl) (by kernel_rfl) (by kernel_rfl) (fun _ _ _ h => h) (by rfl) (by assumption) ?hy1 ?rest1
  case hy1 => (intro w hSw; obtain ⟨p0, p1, p2, p3, p4, p5, p6⟩ := KS.out w hSw; go_simp; try (with_reducible rfl))
  try simp only [Act.put, List.setIfInBounds_toArray, List.set_cons_zero, List.set_cons_succ]
  refine take_yes (i := 2) (v := ?v2) rfl (by kernel_rfl) (by kernel_rfl) (by kernel_rfl) (fun _ _ _ h => h) (by rfl) (by assumption) ?hy2 ?rest2
  case hy2 => (intro w hSw; obtain ⟨p0, p1, p2, p3, p4, p5, p6⟩ := KS.out w hSw; go_simp; try (with_reducible rfl))
  try simp only [Act.put, List.setIfInBounds_toArray, List.set_cons_zero, List.set_cons_succ]
  refine ready_one (i := 3) rfl (by kernel_rfl) (fun K hK => ?_)
  go_simp
  refine (WA.out _ B0.out _).mono ?_
  rintro e wq ⟨rfl, rfl⟩
  refine hK.out _ _ hHeld (fun hHeld => ?_)
  clear hK K
  try simp only [Act.put, List.setIfInBounds_toArray, List.set_cons_zero, List.set_cons_succ]
  refine take_yes (i := 4) (v := ?v4) rfl (by kernel_rfl) (by kernel_rfl) (by kernel_rfl) (fun _ _ _ h => h) (by rfl) (by assumption) ?hy4 ?rest4
  case hy4 => (intro w hSw; obtain ⟨p0, p1, p2, p3, p4, p5, p6⟩ := KS.out w hSw; go_simp; try (with_reducible rfl))
  try simp only [Act.put, List.setIfInBounds_toArray, List.set_cons_zero, List.set_cons_succ]
  refine take_no (i := 5) rfl (by kernel_rfl) (by kernel_rfl) (by kernel_rfl) (fun _ _ _ h => h) (by rfl) (by assumption) ?_
  try simp only [Act.put, List.setIfInBounds_toArray, List.set_cons_zero, List.set_cons_succ]
  refine take_no (i := 6) rfl (by kernel_rfl) (by kernel_rfl) (by kernel_rfl) (fun _ _ _ h => h) (by rfl) (by assumption) ?_
  try simp only [Act.put, List.setIfInBounds_toArray, List.set_cons_zero, List.set_cons_succ]
  refine take_no (i := 7) rfl (by kernel_rfl) (by kernel_rfl) (by kernel_rfl) (fun _ _ _ h => h) (by rfl) (by assumption) ?_
  try simp only [Act.put, List.setIfInBounds_toArray, List.set_cons_zero, List.set_cons_succ]
  refine take_yes (i := 8) (v := ?v8) rfl (by kernel_rfl) (by kernel_rfl) (by kernel_rfl) (fun _ _ _ h => h) (by rfl) (by assumption) ?hy8 ?rest8
  case hy8 => (intro w hSw; obtain ⟨p0, p1, p2, p3, p4, p5, p6⟩ := KS.out w hSw; go_simp; try (with_reducible rfl))
  try simp only [Act.put, List.setIfInBounds_toArray, List.set_cons_zero, List.set_cons_succ]
  refine take_yes (i := 9) (v := ?v9) rfl (by kernel_rfl) (by kernel_rfl) (by kernel_rfl) (fun _ _ _ h => h) (by rfl) (by assumption) ?hy9 ?rest9
  case hy9 => (intro w hSw; obtain ⟨p0, p1, p2, p3, p4, p5, p6⟩ := KS.out w hSw; go_simp; try (with_reducible rfl))
  try simp only [Act.put, List.setIfInBounds_toArray, List.set_cons_zero, List.set_cons_succ]
  refine take_no (i := 10) rfl (by kernel_rfl) (by kernel_rfl) (by kernel_rfl) (fun _ _ _ h => h) (by rfl) (by assumption) ?_
  try simp only [Act.put, List.setIfInBounds_toArray, List.set_cons_zero, List.set_cons_succ]
  refine take_no (i := 11) rfl (by kernel_rfl) (by kernel_rfl) (by kernel_rfl) (fun _ _ _ h => h) (by rfl) (by assumption) ?_
  try simp only [Act.put, List.setIfInBounds_toArray, List.set_cons_zero, List.set_cons_succ]
  refine take_no (i := 12) rfl (by kernel_rfl) (by kernel_rfl) (by kernel_rfl) (fun _ _ _ h => h) (by rfl) (by assumption) ?_
  try simp only [Act.put, List.setIfInBounds_toArray, List.set_cons_zero, List.set_cons_succ]
  refine take_no (i := 13) rfl (by kernel_rfl) (by kernel_rfl) (by kernel_rfl) (fun _ _ _ h => h) (by rfl) (by assumption) ?_
  try simp only [Act.put, List.setIfInBounds_toArray, List.set_cons_zero, List.set_cons_succ]
  refine take_no (i := 14) rfl (by kernel_rfl) (by kernel_rfl) (by kernel_rfl) (fun _ _ _ h => h) (by rfl) (by assumption) ?_
  try simp only [Act.put, List.setIfInBounds_toArray, List.set_cons_zero, List.set_cons_succ]
  refine take_no (i := 15) rfl (by kernel_rfl) (by kernel_rfl) (by kernel_rfl) (fun _ _ _ h => h) (by rfl) (by assumption) ?_
  try simp only [Act.put, List.setIfInBounds_toArray, List.set_cons_zero, List.set_cons_succ]
  refine take_yes (i := 16) (v := ?v16) rfl (by kernel_rfl) (by kernel_rfl) (by kernel_rfl) (fun _ _ _ h => h) (by rfl) (by assumption) ?hy16 ?rest16
  case hy16 => (intro w hSw; obtain ⟨p0, p1, p2, p3, p4, p5, p6⟩ := KS.out w hSw; go_simp; try (with_reducible rfl))
  try simp only [Act.put, List.setIfInBounds_toArray, List.set_cons_zero, List.set_cons_succ]
  refine take_yes (i := 17) (v := ?v17) rfl (by kernel_rfl) (by kernel_rfl) (by kernel_rfl) (fun _ _ _ h => h) (by rfl) (by assumption) ?hy17 ?rest17
  case hy17 => (intro w hSw; obtain ⟨p0, p1, p2, p3, p4, p5, p6⟩ := KS.out w hSw; go_simp; try (with_reducible rfl))
  try simp only [Act.put, List.setIfInBounds_toArray, List.set_cons_zero, List.set_cons_succ]
  refine take_no (i := 18) rfl (by kernel_rfl) (by kernel_rfl) (by kernel_rfl) (fun _ _ _ h => h) (by rfl) (by assumption) ?_
  try simp only [Act.put, List.setIfInBounds_toArray, List.set_cons_zero, List.set_cons_succ]
  refine take_no (i := 19) rfl (by kernel_rfl) (by kernel_rfl) (by kernel_rfl) (fun _ _ _ h => h) (by rfl) (by assumption) ?_
  try simp only [Act.put, List.setIfInBounds_toArray, List.set_cons_zero, List.set_cons_succ]
  refine take_no (i := 20) rfl (by kernel_rfl) (by kernel_rfl) (by kernel_rfl) (fun _ _ _ h => h) (by rfl) (by assumption) ?_
  try simp only [Act.put, List.setIfInBounds_toArray, List.set_cons_zero, List.set_cons_succ]
  refine take_no (i := 21) rfl (by kernel_rfl) (by kernel_rfl) (by kernel_rfl) (fun _ _ _ h => h) (by rfl) (by assumption) ?_
  try simp only [Act.put, List.setIfInBounds_toArray, List.set_cons_zero, List.set_cons_succ]
  refine take_yes (i := 22) (v := ?v22) rfl (by kernel_rfl) (by kernel_rfl) (by kernel_rfl) (fun _ _ _ h => h) (by rfl) (by assumption) ?hy22 ?rest22
  case hy22 => (intro w hSw; obtain ⟨p0, p1, p2, p3, p4, p5, p6⟩ := KS.out w hSw; go_simp; try (with_reducible rfl))
  try simp only [Act.put, List.setIfInBounds_toArray, List.set_cons_zero, List.set_cons_succ]
  refine take_yes (i := 23) (v := ?v23) rfl (by kernel_rfl) (by kernel_rfl) (by kernel_rfl) (fun _ _ _ h => h) (by rfl) (by assumption) ?hy23 ?rest23
  case hy23 => (intro w hSw; obtain ⟨p0, p1, p2, p3, p4, p5, p6⟩ := KS.out w hSw; go_simp; try (with_reducible rfl))
  try simp only [Act.put, List.setIfInBounds_toArray, List.set_cons_zero, List.set_cons_succ]
  refine take_no (i := 24) rfl (by kernel_rfl) (by kernel_rfl) (by kernel_rfl) (fun _ _ _ h => h) (by rfl) (by assumption) ?_
  try simp only [Act.put, List.setIfInBounds_toArray, List.set_cons_zero, List.set_cons_succ]
  refine take_no (i := 25) rfl (by kernel_rfl) (by kernel_rfl) (by kernel_rfl) (fun _ _ _ h => h) (by rfl) (by assumption) ?_
  try simp only [Act.put, List.setIfInBounds_toArray, List.set_cons_zero, List.set_cons_succ]
  refine take_no (i := 26) rfl (by kernel_rfl) (by kernel_rfl) (by kernel_rfl) (fun _ _ _ h => h) (by rfl) (by assumption) ?_
  try simp only [Act.put, List.setIfInBounds_toArray, List.set_cons_zero, List.set_cons_succ]
  refine take_no (i := 27) rfl (by kernel_rfl) (by kernel_rfl) (by kernel_rfl) (fun _ _ _ h => h) (by rfl) (by assumption) ?_
  try simp only [Act.put, List.setIfInBounds_toArray, List.set_cons_zero, List.set_cons_succ]
  refine take_yes (i := 28) (v := ?v28) rfl (by kernel_rfl) (by kernel_rfl) (by kernel_rfl) (fun _ _ _ h => h) (by rfl) (by assumption) ?hy28 ?rest28
  case hy28 => (intro w hSw; obtain ⟨p0, p1, p2, p3, p4, p5, p6⟩ := KS.out w hSw; go_simp; try (with_reducible rfl))
  try simp only [Act.put, List.setIfInBounds_toArray, List.set_cons_zero, List.set_cons_succ]
  refine take_yes (i := 29) (v := ?v29) rfl (by kernel_rfl) (by kernel_rfl) (by kernel_rfl) (fun _ _ _ h => h) (by rfl) (by assumption) ?hy29 ?rest29
  case hy29 => (intro w hSw; obtain ⟨p0, p1, p2, p3, p4, p5, p6⟩ := KS.out w hSw; go_simp; try (with_reducible rfl))
  try simp only [Act.put, List.setIfInBounds_toArray, List.set_cons_zero, List.set_cons_succ]
  refine take_no (i := 30) rfl (by kernel_rfl) (by kernel_rfl) (by kernel_rfl) (fun _ _ _ h => h) (by rfl) (by assumption) ?_
  try simp only [Act.put, List.setIfInBounds_toArray, List.set_cons_zero, List.set_cons_succ]
  refine take_no (i := 31) rfl (by kernel_rfl) (by kernel_rfl) (by kernel_rfl) (fun _ _ _ h => h) (by rfl) (by assumption) ?_
  try simp only [Act.put, List.setIfInBounds_toArray, List.set_cons_zero, List.set_cons_succ]
  refine take_yes (i := 32) (v := ?v32) rfl (by kernel_rfl) (by kernel_rfl) (by kernel_rfl) (fun _ _ _ h => h) (by rfl) (by assumption) ?hy32 ?rest32
  case hy32 => (intro w hSw; obtain ⟨p0, p1, p2, p3, p4, p5, p6⟩ := KS.out w hSw; go_simp; try (with_reducible rfl))
  try simp only [Act.put, List.setIfInBounds_toArray, List.set_cons_zero, List.set_cons_succ]
  refine take_yes (i := 33) (v := ?v33) rfl (by kernel_rfl) (by kernel_rfl) (by kernel_rfl) (fun _ _ _ h => h) (by rfl) (by assumption) ?hy33 ?rest33
  case hy33 => (intro w hSw; obtain ⟨p0, p1, p2, p3, p4, p5, p6⟩ := KS.out w hSw; go_simp; try (with_reducible rfl))
  try simp only [Act.put, List.setIfInBounds_toArray, List.set_cons_zero, List.set_cons_succ]
  refine take_no (i := 34) rfl (by kernel_rfl) (by kernel_rfl) (by kernel_rfl) (fun _ _ _ h => h) (by rfl) (by assumption) ?_
  try simp only [Act.put, List.setIfInBounds_toArray, List.set_cons_zero, List.set_cons_succ]
  refine take_no (i := 35) rfl (by kernel_rfl) (by kernel_rfl) (by kernel_rfl) (fun _ _ _ h => h) (by rfl) (by assumption) ?_
  try simp only [Act.put, List.setIfInBounds_toArray, List.set_cons_zero, List.set_cons_succ]
  refine take_no (i := 36) rfl (by kernel_rfl) (by kernel_rfl) (by kernel_rfl) (fun _ _ _ h => h) (by rfl) (by assumption) ?_
  try simp only [Act.put, List.setIfInBounds_toArray, List.set_cons_zero, List.set_cons_succ]
  refine take_yes (i := 37) (v := ?v37) rfl (by kernel_rfl) (by kernel_rfl) (by kernel_rfl) (fun _ _ _ h => h) (by rfl) (by assumption) ?hy37 ?rest37
  case hy37 => (intro w hSw; obtain ⟨p0, p1, p2, p3, p4, p5, p6⟩ := KS.out w hSw; go_simp; try (with_reducible rfl))
  try simp only [Act.put, List.setIfInBounds_toArray, List.set_cons_zero, List.set_cons_succ]
  refine take_yes (i := 38) (v := ?v38) rfl (by kernel_rfl) (by kernel_rfl) (by kernel_rfl) (fun _ _ _ h => h) (by rfl) (by assumption) ?hy38 ?rest38
  case hy38 => (intro w hSw; obtain ⟨p0, p1, p2, p3, p4, p5, p6⟩ := KS.out w hSw; go_simp; try (with_reducible rfl))
  try simp only [Act.put, List.setIfInBounds_toArray, List.set_cons_zero, List.set_cons_succ]
  refine take_no (i := 39) rfl (by kernel_rfl) (by kernel_rfl) (by kernel_rfl) (fun _ _ _ h => h) (by rfl) (by assumption) ?_
  try simp only [Act.put, List.setIfInBounds_toArray, List.set_cons_zero, List.set_cons_succ]
  refine take_no (i := 40) rfl (by kernel_rfl) (by kernel_rfl) (by kernel_rfl) (fun _ _ _ h => h) (by rfl) (by assumption) ?_
  try simp only [Act.put, List.setIfInBounds_toArray, List.set_cons_zero, List.set_cons_succ]
  refine take_yes (i := 41) (v := ?v41) rfl (by kernel_rfl) (by kernel_rfl) (by kernel_rfl) (fun _ _ _ h => h) (by rfl) (by assumption) ?hy41 ?rest41
  case hy41 => (intro w hSw; obtain ⟨p0, p1, p2, p3, p4, p5, p6⟩ := KS.out w hSw; go_simp; try (with_reducible rfl))
  try simp only [Act.put, List.setIfInBounds_toArray, List.set_cons_zero, List.set_cons_succ]
  refine take_yes (i := 42) (v := ?v42) rfl (by kernel_rfl) (by kernel_rfl) (by kernel_rfl) (fun _ _ _ h => h) (by rfl) (by assumption) ?hy42 ?rest42
  case hy42 => (intro w hSw; obtain ⟨p0, p1, p2, p3, p4, p5, p6⟩ := KS.out w hSw; go_simp; try (with_reducible rfl))
  try simp only [Act.put, List.setIfInBounds_toArray, List.set_cons_zero, List.set_cons_succ]
  refine wpAnyH_done (by kernel_rfl) ?_ _
  go_wp2_with fail
  go_ret
  exact ⟨rfl, H0.out.trans (hHeld.mono z0)⟩

set_option maxHeartbeats 40000000 in
set_option maxRecDepth 100000 in
theorem mayC_no1 (h : PH) (p : PV) (w : World) (B : Nat) (hr : RP w B h p) (hB : B ≤ w.heap.size) (hlen : Lens p) (b0 : withinB (p.funcs.length : Int) 1 16 = true) (b1 : withinB p.mutexes 0 8 = false) :
    Calls Try.prog 10 #[.agg #[.slice h.fA p.funcs.length h.fc, .int .i64 p.mutexes, .slice h.cA p.conds.length h.cc, .slice h.sA p.semas.length h.sc, .slice h.hA p.chans.length h.hc, .slice h.xA p.choices.length h.xc, .int .i64 p.threads]] w
      fun e w' => e = .returned (.bool false) ∧ Below w.heap.size w w' := by
  obtain ⟨W0, hW0⟩ : ∃ W, W = w.alloc (.cells (PC h p) 26) := ⟨_, rfl⟩
  have h0 : Below w.heap.size w W0 := by rw [hW0]; exact (Below.refl _ _).alloc (Nat.le_refl _) _
  have hk : Blk W0 w.heap.size 26 (PC h p) := by rw [hW0]; exact Blk.new _ _ _
  have z0 := h0.size
  have zk := hk.lt
  have hrw : ∀ W, Below W0.heap.size W0 W → RP W B h p := fun W hW => hr.below ((h0.mono hB).trans (hW.mono (by omega)))
  have BEL : Hid (∀ n W, Below W0.heap.size W0 W → Calls Try.prog 36 #[.int .i64 n] W fun e w' => ∃ g, e = .returned (.func (.func 71) #[] #[.pointer (some ⟨g, 0, none⟩)]) ∧ Blk w' g 3 #[.int .i64 n] ∧ Below W0.heap.size W0 w') := fun n W hW =>
    (below_any n W).mono fun e w' ⟨he, hw⟩ => by subst hw; exact ⟨_, he, Blk.new W _ _, hW.alloc hW.size _⟩
  have WA : Hid (∀ (b : Bool), withinB (p.funcs.length : Int) 1 16 = b → ∀ (W : World), Calls Try.prog 34 #[.int .i64 (p.funcs.length : Int), .int .i64 1, .int .i64 16] W fun e w' => e = .returned (.bool b) ∧ W = w') := fun b hb W => (within_any _ _ _ W).mono fun e w' ⟨he, hw⟩ => ⟨by rw [he, hb], hw⟩
  have WB : Hid (∀ (b : Bool), withinB p.mutexes 0 8 = b → ∀ (W : World), Calls Try.prog 34 #[.int .i64 p.mutexes, .int .i64 0, .int .i64 8] W fun e w' => e = .returned (.bool b) ∧ W = w') := fun b hb W => (within_any _ _ _ W).mono fun e w' ⟨he, hw⟩ => ⟨by rw [he, hb], hw⟩
  have WT : Hid (∀ (b : Bool), withinB p.threads 1 32 = b → ∀ (W : World), Calls Try.prog 34 #[.int .i64 p.threads, .int .i64 1, .int .i64 32] W fun e w' => e = .returned (.bool b) ∧ W = w') := fun b hb W => (within_any _ _ _ W).mono fun e w' ⟨he, hw⟩ => ⟨by rw [he, hb], hw⟩
  have LC : Hid (∀ (b : Bool), listB p.conds p.mutexes = b → ∀ (W : World) (g : Nat), Below W0.heap.size W0 W → Blk W g 3 #[.int .i64 p.mutexes] → Calls Try.prog 35 #[.slice h.cA p.conds.length h.cc, .func (.func 71) #[] #[.pointer (some ⟨g, 0, none⟩)]] W fun e w' => e = .returned (.bool b) ∧ W = w') := fun b hb W g hW hg =>
    (mayList_any p.conds p.mutexes g W B _ _ _ (hrw W hW).conds (by have := hlen.conds; omega) hg).mono fun e w' ⟨he, hw⟩ => ⟨by rw [he, hb], hw⟩
  have LS : Hid (∀ (b : Bool), listB p.semas 101 = b → ∀ (W : World) (g : Nat), Below W0.heap.size W0 W → Blk W g 3 #[.int .i64 101] → Calls Try.prog 35 #[.slice h.sA p.semas.length h.sc, .func (.func 71) #[] #[.pointer (some ⟨g, 0, none⟩)]] W fun e w' => e = .returned (.bool b) ∧ W = w') := fun b hb W g hW hg =>
    (mayList_any p.semas 101 g W B _ _ _ (hrw W hW).semas (by have := hlen.semas; omega) hg).mono fun e w' ⟨he, hw⟩ => ⟨by rw [he, hb], hw⟩
  have LH : Hid (∀ (b : Bool), listB p.chans 9 = b → ∀ (W : World) (g : Nat), Below W0.heap.size W0 W → Blk W g 3 #[.int .i64 9] → Calls Try.prog 35 #[.slice h.hA p.chans.length h.hc, .func (.func 71) #[] #[.pointer (some ⟨g, 0, none⟩)]] W fun e w' => e = .returned (.bool b) ∧ W = w') := fun b hb W g hW hg =>
    (mayList_any p.chans 9 g W B _ _ _ (hrw W hW).chans (by have := hlen.chans; omega) hg).mono fun e w' ⟨he, hw⟩ => ⟨by rw [he, hb], hw⟩
  have MX : Hid (∀ (b : Bool), choicesB p = b → ∀ W, Below W0.heap.size W0 W → Calls Try.prog 37 #[.agg #[.slice h.fA p.funcs.length h.fc, .int .i64 p.mutexes, .slice h.cA p.conds.length h.cc, .slice h.sA p.semas.length h.sc, .slice h.hA p.chans.length h.hc, .slice h.xA p.choices.length h.xc, .int .i64 p.threads]] W fun e w' => e = .returned (.bool b) ∧ Below W0.heap.size W0 w') := fun b hb W hW =>
    (mayChoices_any h p W B (hrw W hW) (by have := hW.size; omega) hlen).mono fun e w' ⟨he, hq⟩ => ⟨by rw [he, hb], hW.trans (hq.mono hW.size)⟩
  have MF : Hid (∀ (b : Bool), p.funcs.all (funcC p) = b → ∀ W, Below W0.heap.size W0 W → Calls Try.prog 38 #[.agg #[.slice h.fA p.funcs.length h.fc, .int .i64 p.mutexes, .slice h.cA p.conds.length h.cc, .slice h.sA p.semas.length h.sc, .slice h.hA p.chans.length h.hc, .slice h.xA p.choices.length h.xc, .int .i64 p.threads]] W fun e w' => e = .returned (.bool b) ∧ Below W0.heap.size W0 w') := fun b hb W hW =>
    (mayFuncs_any h p W B (hrw W hW) (by have := hW.size; omega) hlen).mono fun e w' ⟨he, hq⟩ => ⟨by rw [he, hb], hW.trans (hq.mono hW.size)⟩
  obtain ⟨fA, fc, cA, cc, sA, sc, hA, hc, xA, xc⟩ := h
  simp only at LC LS LH MX MF
  have KS : Hid (∀ X, Below W0.heap.size W0 X → X.cell? ⟨w.heap.size, 0, none⟩ = some (.slice fA p.funcs.length fc) ∧ X.cell? ⟨w.heap.size, 1, none⟩ = some (.int .i64 p.mutexes) ∧ X.cell? ⟨w.heap.size, 2, none⟩ = some (.slice cA p.conds.length cc) ∧ X.cell? ⟨w.heap.size, 3, none⟩ = some (.slice sA p.semas.length sc) ∧ X.cell? ⟨w.heap.size, 4, none⟩ = some (.slice hA p.chans.length hc) ∧ X.cell? ⟨w.heap.size, 5, none⟩ = some (.slice xA p.choices.length xc) ∧ X.cell? ⟨w.heap.size, 6, none⟩ = some (.int .i64 p.threads)) := by
    intro X hX
    exact ⟨(hX.cell (p := ⟨w.heap.size, 0, none⟩) zk).trans ((hk.cell 0).trans rfl), (hX.cell (p := ⟨w.heap.size, 1, none⟩) zk).trans ((hk.cell 1).trans rfl), (hX.cell (p := ⟨w.heap.size, 2, none⟩) zk).trans ((hk.cell 2).trans rfl), (hX.cell (p := ⟨w.heap.size, 3, none⟩) zk).trans ((hk.cell 3).trans rfl), (hX.cell (p := ⟨w.heap.size, 4, none⟩) zk).trans ((hk.cell 4).trans rfl), (hX.cell (p := ⟨w.heap.size, 5, none⟩) zk).trans ((hk.cell 5).trans rfl), (hX.cell (p := ⟨w.heap.size, 6, none⟩) zk).trans ((hk.cell 6).trans rfl)⟩
  have HW : Hid (w.alloc (.cells #[.slice fA p.funcs.length fc, .int .i64 p.mutexes, .slice cA p.conds.length cc, .slice sA p.semas.length sc, .slice hA p.chans.length hc, .slice xA p.choices.length xc, .int .i64 p.threads] 26) = W0) := hW0.symm
  have H0 := Lib.hid h0
  have hbq : Below W0.heap.size W0 W0 := Below.refl _ _
  obtain ⟨p0, p1, p2, p3, p4, p5, p6⟩ := KS.out W0 hbq
  clear hW0 h0 hk hrw hr hlen
  go_enter Try.func10, Try.ntmps10
  have B0 := Lib.hid b0
  have B1 := Lib.hid b1
  clear b0 b1 p0 p1 p2 p3 p4 p5 p6
  go_upto_region 1 with fail
  rw [HW.out]
  refine wp_region_held_drew (S := fun w' => Below W0.heap.size W0 w') (by kernel_rfl) hbq.drew (fun hHeld => ?_)
  refine take_yes (i := 0) (v := ?v0) rfl (by kernel_rfl) (by kernel_rfl) (by kernel_rfl) (fun _ _ _ h => h) (by rfl) (by assumption) ?hy0 ?rest0
  case hy0 => (intro w hSw; obtain ⟨p0, p1, p2, p3, p4, p5, p6⟩ := KS.out w hSw; go_simp; try (with_reducible rfl))
  try simp only [Act.put, List.setIfInBounds_toArray, List.set_cons_zero, List.set_cons_succ]
  refine take_yes (i := 1) (v := ?v1) rfl (by kernel_rfl) (by kernel_rfl) (by kernel_rfl) (fun _ _ _ h => h) (by rfl) (by assumption) ?hy1 ?rest1
  case hy1 => (intro w hSw; obtain ⟨p0, p1, p2, p3, p4, p5, p6⟩ := KS.out w hSw; go_simp; try (with_reducible rfl))
  try simp only [Act.put, List.setIfInBounds_toArray, List.set_cons_zero, List.set_cons_succ]
  refine take_yes (i := 2) (v := ?v2) rfl (by kernel_rfl) (by kernel_rfl) (by kernel_rfl) (fun _ _ _ h => h) (by rfl) (by assumption) ?hy2 ?rest2
  case hy2 => (intro w hSw; obtain ⟨p0, p1, p2, p3, p4, p5, p6⟩ := KS.out w hSw; go_simp; try (with_reducible rfl))
  try simp only [Act.put, List.setIfInBounds_toArray, List.set_cons_zero, List.set_cons_succ]
  refine ready_one (i := 3) rfl (by kernel_rfl) (fun K hK => ?_)
  go_simp
  refine (WA.out _ B0.out _).mono ?_
  rintro e wq ⟨rfl, rfl⟩
  refine hK.out _ _ hHeld (fun hHeld => ?_)
  clear hK K
  try simp only [Act.put, List.setIfInBounds_toArray, List.set_cons_zero, List.set_cons_succ]
  refine take_yes (i := 4) (v := ?v4) rfl (by kernel_rfl) (by kernel_rfl) (by kernel_rfl) (fun _ _ _ h => h) (by rfl) (by assumption) ?hy4 ?rest4
  case hy4 => (intro w hSw; obtain ⟨p0, p1, p2, p3, p4, p5, p6⟩ := KS.out w hSw; go_simp; try (with_reducible rfl))
  try simp only [Act.put, List.setIfInBounds_toArray, List.set_cons_zero, List.set_cons_succ]
  refine take_yes (i := 5) (v := ?v5) rfl (by kernel_rfl) (by kernel_rfl) (by kernel_rfl) (fun _ _ _ h => h) (by rfl) (by assumption) ?hy5 ?rest5
  case hy5 => (intro w hSw; obtain ⟨p0, p1, p2, p3, p4, p5, p6⟩ := KS.out w hSw; go_simp; try (with_reducible rfl))
  try simp only [Act.put, List.setIfInBounds_toArray, List.set_cons_zero, List.set_cons_succ]
  refine take_yes (i := 6) (v := ?v6) rfl (by kernel_rfl) (by kernel_rfl) (by kernel_rfl) (fun _ _ _ h => h) (by rfl) (by assumption) ?hy6 ?rest6
  case hy6 => (intro w hSw; obtain ⟨p0, p1, p2, p3, p4, p5, p6⟩ := KS.out w hSw; go_simp; try (with_reducible rfl))
  try simp only [Act.put, List.setIfInBounds_toArray, List.set_cons_zero, List.set_cons_succ]
  refine ready_one (i := 7) rfl (by kernel_rfl) (fun K hK => ?_)
  go_simp
  refine (WB.out _ B1.out _).mono ?_
  rintro e wq ⟨rfl, rfl⟩
  refine hK.out _ _ hHeld (fun hHeld => ?_)
  clear hK K
  try simp only [Act.put, List.setIfInBounds_toArray, List.set_cons_zero, List.set_cons_succ]
  refine take_yes (i := 8) (v := ?v8) rfl (by kernel_rfl) (by kernel_rfl) (by kernel_rfl) (fun _ _ _ h => h) (by rfl) (by assumption) ?hy8 ?rest8
  case hy8 => (intro w hSw; obtain ⟨p0, p1, p2, p3, p4, p5, p6⟩ := KS.out w hSw; go_simp; try (with_reducible rfl))
  try simp only [Act.put, List.setIfInBounds_toArray, List.set_cons_zero, List.set_cons_succ]
  refine take_yes (i := 9) (v := ?v9) rfl (by kernel_rfl) (by kernel_rfl) (by kernel_rfl) (fun _ _ _ h => h) (by rfl) (by assumption) ?hy9 ?rest9
  case hy9 => (intro w hSw; obtain ⟨p0, p1, p2, p3, p4, p5, p6⟩ := KS.out w hSw; go_simp; try (with_reducible rfl))
  try simp only [Act.put, List.setIfInBounds_toArray, List.set_cons_zero, List.set_cons_succ]
  refine take_no (i := 10) rfl (by kernel_rfl) (by kernel_rfl) (by kernel_rfl) (fun _ _ _ h => h) (by rfl) (by assumption) ?_
  try simp only [Act.put, List.setIfInBounds_toArray, List.set_cons_zero, List.set_cons_succ]
  refine take_no (i := 11) rfl (by kernel_rfl) (by kernel_rfl) (by kernel_rfl) (fun _ _ _ h => h) (by rfl) (by assumption) ?_
  try simp only [Act.put, List.setIfInBounds_toArray, List.set_cons_zero, List.set_cons_succ]
  refine take_no (i := 12) rfl (by kernel_rfl) (by kernel_rfl) (by kernel_rfl) (fun _ _ _ h => h) (by rfl) (by assumption) ?_
  try simp only [Act.put, List.setIfInBounds_toArray, List.set_cons_zero, List.set_cons_succ]
  refine take_no (i := 13) rfl (by kernel_rfl) (by kernel_rfl) (by kernel_rfl) (fun _ _ _ h => h) (by rfl) (by assumption) ?_
  try simp only [Act.put, List.setIfInBounds_toArray, List.set_cons_zero, List.set_cons_succ]
  refine take_no (i := 14) rfl (by kernel_rfl) (by kernel_rfl) (by kernel_rfl) (fun _ _ _ h => h) (by rfl) (by assumption) ?_
  try simp only [Act.put, List.setIfInBounds_toArray, List.set_cons_zero, List.set_cons_succ]
  refine take_no (i := 15) rfl (by kernel_rfl) (by kernel_rfl) (by kernel_rfl) (fun _ _ _ h => h) (by rfl) (by assumption) ?_
  try simp only [Act.put, List.setIfInBounds_toArray, List.set_cons_zero, List.set_cons_succ]
  refine take_yes (i := 16) (v := ?v16) rfl (by kernel_rfl) (by kernel_rfl) (by kernel_rfl) (fun _ _ _ h => h) (by rfl) (by assumption) ?hy16 ?rest16
  case hy16 => (intro w hSw; obtain ⟨p0, p1, p2, p3, p4, p5, p6⟩ := KS.out w hSw; go_simp; try (with_reducible rfl))
  try simp only [Act.put, List.setIfInBounds_toArray, List.set_cons_zero, List.set_cons_succ]
  refine take_yes (i := 17) (v := ?v17) rfl (by kernel_rfl) (by kernel_rfl) (by kernel_rfl) (fun _ _ _ h => h) (by rfl) (by assumption) ?hy17 ?rest17
  case hy17 => (intro w hSw; obtain ⟨p0, p1, p2, p3, p4, p5, p6⟩ := KS.out w hSw; go_simp; try (with_reducible rfl))
  try simp only [Act.put, List.setIfInBounds_toArray, List.set_cons_zero, List.set_cons_succ]
  refine take_no (i := 18) rfl (by kernel_rfl) (by kernel_rfl) (by kernel_rfl) (fun _ _ _ h => h) (by rfl) (by assumption) ?_
  try simp only [Act.put, List.setIfInBounds_toArray, List.set_cons_zero, List.set_cons_succ]
  refine take_no (i := 19) rfl (by kernel_rfl) (by kernel_rfl) (by kernel_rfl) (fun _ _ _ h => h) (by rfl) (by assumption) ?_
  try simp only [Act.put, List.setIfInBounds_toArray, List.set_cons_zero, List.set_cons_succ]
  refine take_no (i := 20) rfl (by kernel_rfl) (by kernel_rfl) (by kernel_rfl) (fun _ _ _ h => h) (by rfl) (by assumption) ?_
  try simp only [Act.put, List.setIfInBounds_toArray, List.set_cons_zero, List.set_cons_succ]
  refine take_no (i := 21) rfl (by kernel_rfl) (by kernel_rfl) (by kernel_rfl) (fun _ _ _ h => h) (by rfl) (by assumption) ?_
  try simp only [Act.put, List.setIfInBounds_toArray, List.set_cons_zero, List.set_cons_succ]
  refine take_yes (i := 22) (v := ?v22) rfl (by kernel_rfl) (by kernel_rfl) (by kernel_rfl) (fun _ _ _ h => h) (by rfl) (by assumption) ?hy22 ?rest22
  case hy22 => (intro w hSw; obtain ⟨p0, p1, p2, p3, p4, p5, p6⟩ := KS.out w hSw; go_simp; try (with_reducible rfl))
  try simp only [Act.put, List.setIfInBounds_toArray, List.set_cons_zero, List.set_cons_succ]
  refine take_yes (i := 23) (v := ?v23) rfl (by kernel_rfl) (by kernel_rfl) (by kernel_rfl) (fun _ _ _ h => h) (by rfl) (by assumption) ?hy23 ?rest23
  case hy23 => (intro w hSw; obtain ⟨p0, p1, p2, p3, p4, p5, p6⟩ := KS.out w hSw; go_simp; try (with_reducible rfl))
  try simp only [Act.put, List.setIfInBounds_toArray, List.set_cons_zero, List.set_cons_succ]
  refine take_no (i := 24) rfl (by kernel_rfl) (by kernel_rfl) (by kernel_rfl) (fun _ _ _ h => h) (by rfl) (by assumption) ?_
  try simp only [Act.put, List.setIfInBounds_toArray, List.set_cons_zero, List.set_cons_succ]
  refine take_no (i := 25) rfl (by kernel_rfl) (by kernel_rfl) (by kernel_rfl) (fun _ _ _ h => h) (by rfl) (by assumption) ?_
  try simp only [Act.put, List.setIfInBounds_toArray, List.set_cons_zero, List.set_cons_succ]
  refine take_no (i := 26) rfl (by kernel_rfl) (by kernel_rfl) (by kernel_rfl) (fun _ _ _ h => h) (by rfl) (by assumption) ?_
  try simp only [Act.put, List.setIfInBounds_toArray, List.set_cons_zero, List.set_cons_succ]
  refine take_no (i := 27) rfl (by kernel_rfl) (by kernel_rfl) (by kernel_rfl) (fun _ _ _ h => h) (by rfl) (by assumption) ?_
  try simp only [Act.put, List.setIfInBounds_toArray, List.set_cons_zero, List.set_cons_succ]
  refine take_yes (i := 28) (v := ?v28) rfl (by kernel_rfl) (by kernel_rfl) (by kernel_rfl) (fun _ _ _ h => h) (by rfl) (by assumption) ?hy28 ?rest28
  case hy28 => (intro w hSw; obtain ⟨p0, p1, p2, p3, p4, p5, p6⟩ := KS.out w hSw; go_simp; try (with_reducible rfl))
  try simp only [Act.put, List.setIfInBounds_toArray, List.set_cons_zero, List.set_cons_succ]
  refine take_yes (i := 29) (v := ?v29) rfl (by kernel_rfl) (by kernel_rfl) (by kernel_rfl) (fun _ _ _ h => h) (by rfl) (by assumption) ?hy29 ?rest29
  case hy29 => (intro w hSw; obtain ⟨p0, p1, p2, p3, p4, p5, p6⟩ := KS.out w hSw; go_simp; try (with_reducible rfl))
  try simp only [Act.put, List.setIfInBounds_toArray, List.set_cons_zero, List.set_cons_succ]
  refine take_no (i := 30) rfl (by kernel_rfl) (by kernel_rfl) (by kernel_rfl) (fun _ _ _ h => h) (by rfl) (by assumption) ?_
  try simp only [Act.put, List.setIfInBounds_toArray, List.set_cons_zero, List.set_cons_succ]
  refine take_no (i := 31) rfl (by kernel_rfl) (by kernel_rfl) (by kernel_rfl) (fun _ _ _ h => h) (by rfl) (by assumption) ?_
  try simp only [Act.put, List.setIfInBounds_toArray, List.set_cons_zero, List.set_cons_succ]
  refine take_yes (i := 32) (v := ?v32) rfl (by kernel_rfl) (by kernel_rfl) (by kernel_rfl) (fun _ _ _ h => h) (by rfl) (by assumption) ?hy32 ?rest32
  case hy32 => (intro w hSw; obtain ⟨p0, p1, p2, p3, p4, p5, p6⟩ := KS.out w hSw; go_simp; try (with_reducible rfl))
  try simp only [Act.put, List.setIfInBounds_toArray, List.set_cons_zero, List.set_cons_succ]
  refine take_yes (i := 33) (v := ?v33) rfl (by kernel_rfl) (by kernel_rfl) (by kernel_rfl) (fun _ _ _ h => h) (by rfl) (by assumption) ?hy33 ?rest33
  case hy33 => (intro w hSw; obtain ⟨p0, p1, p2, p3, p4, p5, p6⟩ := KS.out w hSw; go_simp; try (with_reducible rfl))
  try simp only [Act.put, List.setIfInBounds_toArray, List.set_cons_zero, List.set_cons_succ]
  refine take_no (i := 34) rfl (by kernel_rfl) (by kernel_rfl) (by kernel_rfl) (fun _ _ _ h => h) (by rfl) (by assumption) ?_
  try simp only [Act.put, List.setIfInBounds_toArray, List.set_cons_zero, List.set_cons_succ]
  refine take_no (i := 35) rfl (by kernel_rfl) (by kernel_rfl) (by kernel_rfl) (fun _ _ _ h => h) (by rfl) (by assumption) ?_
  try simp only [Act.put, List.setIfInBounds_toArray, List.set_cons_zero, List.set_cons_succ]
  refine take_no (i := 36) rfl (by kernel_rfl) (by kernel_rfl) (by kernel_rfl) (fun _ _ _ h => h) (by rfl) (by assumption) ?_
  try simp only [Act.put, List.setIfInBounds_toArray, List.set_cons_zero, List.set_cons_succ]
  refine take_yes (i := 37) (v := ?v37) rfl (by kernel_rfl) (by kernel_rfl) (by kernel_rfl) (fun _ _ _ h => h) (by rfl) (by assumption) ?hy37 ?rest37
  case hy37 => (intro w hSw; obtain ⟨p0, p1, p2, p3, p4, p5, p6⟩ := KS.out w hSw; go_simp; try (with_reducible rfl))
  try simp only [Act.put, List.setIfInBounds_toArray, List.set_cons_zero, List.set_cons_succ]
  refine take_yes (i := 38) (v := ?v38) rfl (by kernel_rfl) (by kernel_rfl) (by kernel_rfl) (fun _ _ _ h => h) (by rfl) (by assumption) ?hy38 ?rest38
  case hy38 => (intro w hSw; obtain ⟨p0, p1, p2, p3, p4, p5, p6⟩ := KS.out w hSw; go_simp; try (with_reducible rfl))
  try simp only [Act.put, List.setIfInBounds_toArray, List.set_cons_zero, List.set_cons_succ]
  refine take_no (i := 39) rfl (by kernel_rfl) (by kernel_rfl) (by kernel_rfl) (fun _ _ _ h => h) (by rfl) (by assumption) ?_
  try simp only [Act.put, List.setIfInBounds_toArray, List.set_cons_zero, List.set_cons_succ]
  refine take_no (i := 40) rfl (by kernel_rfl) (by kernel_rfl) (by kernel_rfl) (fun _ _ _ h => h) (by rfl) (by assumption) ?_
  try simp only [Act.put, List.setIfInBounds_toArray, List.set_cons_zero, List.set_cons_succ]
  refine take_yes (i := 41) (v := ?v41) rfl (by kernel_rfl) (by kernel_rfl) (by kernel_rfl) (fun _ _ _ h => h) (by rfl) (by assumption) ?hy41 ?rest41
  case hy41 => (intro w hSw; obtain ⟨p0, p1, p2, p3, p4, p5, p6⟩ := KS.out w hSw; go_simp; try (with_reducible rfl))
  try simp only [Act.put, List.setIfInBounds_toArray, List.set_cons_zero, List.set_cons_succ]
  refine take_yes (i := 42) (v := ?v42) rfl (by kernel_rfl) (by kernel_rfl) (by kernel_rfl) (fun _ _ _ h => h) (by rfl) (by assumption) ?hy42 ?rest42
  case hy42 => (intro w hSw; obtain ⟨p0, p1, p2, p3, p4, p5, p6⟩ := KS.out w hSw; go_simp; try (with_reducible rfl))
  try simp only [Act.put, List.setIfInBounds_toArray, List.set_cons_zero, List.set_cons_succ]
  refine wpAnyH_done (by kernel_rfl) ?_ _
  go_wp2_with fail
  go_ret
  exact ⟨rfl, H0.out.trans (hHeld.mono z0)⟩

set_option maxHeartbeats 40000000 in
set_option maxRecDepth 100000 in
theorem mayC_no2 (h : PH) (p : PV) (w : World) (B : Nat) (hr : RP w B h p) (hB : B ≤ w.heap.size) (hlen : Lens p) (b0 : withinB (p.funcs.length : Int) 1 16 = true) (b1 : withinB p.mutexes 0 8 = true) (b2 : listB p.conds p.mutexes = false) :
    Calls Try.prog 10 #[.agg #[.slice h.fA p.funcs.length h.fc, .int .i64 p.mutexes, .slice h.cA p.conds.length h.cc, .slice h.sA p.semas.length h.sc, .slice h.hA p.chans.length h.hc, .slice h.xA p.choices.length h.xc, .int .i64 p.threads]] w
      fun e w' => e = .returned (.bool false) ∧ Below w.heap.size w w' := by
  obtain ⟨W0, hW0⟩ : ∃ W, W = w.alloc (.cells (PC h p) 26) := ⟨_, rfl⟩
  have h0 : Below w.heap.size w W0 := by rw [hW0]; exact (Below.refl _ _).alloc (Nat.le_refl _) _
  have hk : Blk W0 w.heap.size 26 (PC h p) := by rw [hW0]; exact Blk.new _ _ _
  have z0 := h0.size
  have zk := hk.lt
  have hrw : ∀ W, Below W0.heap.size W0 W → RP W B h p := fun W hW => hr.below ((h0.mono hB).trans (hW.mono (by omega)))
  have BEL : Hid (∀ n W, Below W0.heap.size W0 W → Calls Try.prog 36 #[.int .i64 n] W fun e w' => ∃ g, e = .returned (.func (.func 71) #[] #[.pointer (some ⟨g, 0, none⟩)]) ∧ Blk w' g 3 #[.int .i64 n] ∧ Below W0.heap.size W0 w') := fun n W hW =>
    (below_any n W).mono fun e w' ⟨he, hw⟩ => by subst hw; exact ⟨_, he, Blk.new W _ _, hW.alloc hW.size _⟩
  have WA : Hid (∀ (b : Bool), withinB (p.funcs.length : Int) 1 16 = b → ∀ (W : World), Calls Try.prog 34 #[.int .i64 (p.funcs.length : Int), .int .i64 1, .int .i64 16] W fun e w' => e = .returned (.bool b) ∧ W = w') := fun b hb W => (within_any _ _ _ W).mono fun e w' ⟨he, hw⟩ => ⟨by rw [he, hb], hw⟩
  have WB : Hid (∀ (b : Bool), withinB p.mutexes 0 8 = b → ∀ (W : World), Calls Try.prog 34 #[.int .i64 p.mutexes, .int .i64 0, .int .i64 8] W fun e w' => e = .returned (.bool b) ∧ W = w') := fun b hb W => (within_any _ _ _ W).mono fun e w' ⟨he, hw⟩ => ⟨by rw [he, hb], hw⟩
  have WT : Hid (∀ (b : Bool), withinB p.threads 1 32 = b → ∀ (W : World), Calls Try.prog 34 #[.int .i64 p.threads, .int .i64 1, .int .i64 32] W fun e w' => e = .returned (.bool b) ∧ W = w') := fun b hb W => (within_any _ _ _ W).mono fun e w' ⟨he, hw⟩ => ⟨by rw [he, hb], hw⟩
  have LC : Hid (∀ (b : Bool), listB p.conds p.mutexes = b → ∀ (W : World) (g : Nat), Below W0.heap.size W0 W → Blk W g 3 #[.int .i64 p.mutexes] → Calls Try.prog 35 #[.slice h.cA p.conds.length h.cc, .func (.func 71) #[] #[.pointer (some ⟨g, 0, none⟩)]] W fun e w' => e = .returned (.bool b) ∧ W = w') := fun b hb W g hW hg =>
    (mayList_any p.conds p.mutexes g W B _ _ _ (hrw W hW).conds (by have := hlen.conds; omega) hg).mono fun e w' ⟨he, hw⟩ => ⟨by rw [he, hb], hw⟩
  have LS : Hid (∀ (b : Bool), listB p.semas 101 = b → ∀ (W : World) (g : Nat), Below W0.heap.size W0 W → Blk W g 3 #[.int .i64 101] → Calls Try.prog 35 #[.slice h.sA p.semas.length h.sc, .func (.func 71) #[] #[.pointer (some ⟨g, 0, none⟩)]] W fun e w' => e = .returned (.bool b) ∧ W = w') := fun b hb W g hW hg =>
    (mayList_any p.semas 101 g W B _ _ _ (hrw W hW).semas (by have := hlen.semas; omega) hg).mono fun e w' ⟨he, hw⟩ => ⟨by rw [he, hb], hw⟩
  have LH : Hid (∀ (b : Bool), listB p.chans 9 = b → ∀ (W : World) (g : Nat), Below W0.heap.size W0 W → Blk W g 3 #[.int .i64 9] → Calls Try.prog 35 #[.slice h.hA p.chans.length h.hc, .func (.func 71) #[] #[.pointer (some ⟨g, 0, none⟩)]] W fun e w' => e = .returned (.bool b) ∧ W = w') := fun b hb W g hW hg =>
    (mayList_any p.chans 9 g W B _ _ _ (hrw W hW).chans (by have := hlen.chans; omega) hg).mono fun e w' ⟨he, hw⟩ => ⟨by rw [he, hb], hw⟩
  have MX : Hid (∀ (b : Bool), choicesB p = b → ∀ W, Below W0.heap.size W0 W → Calls Try.prog 37 #[.agg #[.slice h.fA p.funcs.length h.fc, .int .i64 p.mutexes, .slice h.cA p.conds.length h.cc, .slice h.sA p.semas.length h.sc, .slice h.hA p.chans.length h.hc, .slice h.xA p.choices.length h.xc, .int .i64 p.threads]] W fun e w' => e = .returned (.bool b) ∧ Below W0.heap.size W0 w') := fun b hb W hW =>
    (mayChoices_any h p W B (hrw W hW) (by have := hW.size; omega) hlen).mono fun e w' ⟨he, hq⟩ => ⟨by rw [he, hb], hW.trans (hq.mono hW.size)⟩
  have MF : Hid (∀ (b : Bool), p.funcs.all (funcC p) = b → ∀ W, Below W0.heap.size W0 W → Calls Try.prog 38 #[.agg #[.slice h.fA p.funcs.length h.fc, .int .i64 p.mutexes, .slice h.cA p.conds.length h.cc, .slice h.sA p.semas.length h.sc, .slice h.hA p.chans.length h.hc, .slice h.xA p.choices.length h.xc, .int .i64 p.threads]] W fun e w' => e = .returned (.bool b) ∧ Below W0.heap.size W0 w') := fun b hb W hW =>
    (mayFuncs_any h p W B (hrw W hW) (by have := hW.size; omega) hlen).mono fun e w' ⟨he, hq⟩ => ⟨by rw [he, hb], hW.trans (hq.mono hW.size)⟩
  obtain ⟨fA, fc, cA, cc, sA, sc, hA, hc, xA, xc⟩ := h
  simp only at LC LS LH MX MF
  have KS : Hid (∀ X, Below W0.heap.size W0 X → X.cell? ⟨w.heap.size, 0, none⟩ = some (.slice fA p.funcs.length fc) ∧ X.cell? ⟨w.heap.size, 1, none⟩ = some (.int .i64 p.mutexes) ∧ X.cell? ⟨w.heap.size, 2, none⟩ = some (.slice cA p.conds.length cc) ∧ X.cell? ⟨w.heap.size, 3, none⟩ = some (.slice sA p.semas.length sc) ∧ X.cell? ⟨w.heap.size, 4, none⟩ = some (.slice hA p.chans.length hc) ∧ X.cell? ⟨w.heap.size, 5, none⟩ = some (.slice xA p.choices.length xc) ∧ X.cell? ⟨w.heap.size, 6, none⟩ = some (.int .i64 p.threads)) := by
    intro X hX
    exact ⟨(hX.cell (p := ⟨w.heap.size, 0, none⟩) zk).trans ((hk.cell 0).trans rfl), (hX.cell (p := ⟨w.heap.size, 1, none⟩) zk).trans ((hk.cell 1).trans rfl), (hX.cell (p := ⟨w.heap.size, 2, none⟩) zk).trans ((hk.cell 2).trans rfl), (hX.cell (p := ⟨w.heap.size, 3, none⟩) zk).trans ((hk.cell 3).trans rfl), (hX.cell (p := ⟨w.heap.size, 4, none⟩) zk).trans ((hk.cell 4).trans rfl), (hX.cell (p := ⟨w.heap.size, 5, none⟩) zk).trans ((hk.cell 5).trans rfl), (hX.cell (p := ⟨w.heap.size, 6, none⟩) zk).trans ((hk.cell 6).trans rfl)⟩
  have HW : Hid (w.alloc (.cells #[.slice fA p.funcs.length fc, .int .i64 p.mutexes, .slice cA p.conds.length cc, .slice sA p.semas.length sc, .slice hA p.chans.length hc, .slice xA p.choices.length xc, .int .i64 p.threads] 26) = W0) := hW0.symm
  have H0 := Lib.hid h0
  have hbq : Below W0.heap.size W0 W0 := Below.refl _ _
  obtain ⟨p0, p1, p2, p3, p4, p5, p6⟩ := KS.out W0 hbq
  clear hW0 h0 hk hrw hr hlen
  go_enter Try.func10, Try.ntmps10
  have B0 := Lib.hid b0
  have B1 := Lib.hid b1
  have B2 := Lib.hid b2
  clear b0 b1 b2 p0 p1 p2 p3 p4 p5 p6
  go_upto_region 1 with fail
  rw [HW.out]
  refine wp_region_held_drew (S := fun w' => Below W0.heap.size W0 w') (by kernel_rfl) hbq.drew (fun hHeld => ?_)
  refine take_yes (i := 0) (v := ?v0) rfl (by kernel_rfl) (by kernel_rfl) (by kernel_rfl) (fun _ _ _ h => h) (by rfl) (by assumption) ?hy0 ?rest0
  case hy0 => (intro w hSw; obtain ⟨p0, p1, p2, p3, p4, p5, p6⟩ := KS.out w hSw; go_simp; try (with_reducible rfl))
  try simp only [Act.put, List.setIfInBounds_toArray, List.set_cons_zero, List.set_cons_succ]
  refine take_yes (i := 1) (v := ?v1) rfl (by kernel_rfl) (by kernel_rfl) (by kernel_rfl) (fun _ _ _ h => h) (by rfl) (by assumption) ?hy1 ?rest1
  case hy1 => (intro w hSw; obtain ⟨p0, p1, p2, p3, p4, p5, p6⟩ := KS.out w hSw; go_simp; try (with_reducible rfl))
  try simp only [Act.put, List.setIfInBounds_toArray, List.set_cons_zero, List.set_cons_succ]
  refine take_yes (i := 2) (v := ?v2) rfl (by kernel_rfl) (by kernel_rfl) (by kernel_rfl) (fun _ _ _ h => h) (by rfl) (by assumption) ?hy2 ?rest2
  case hy2 => (intro w hSw; obtain ⟨p0, p1, p2, p3, p4, p5, p6⟩ := KS.out w hSw; go_simp; try (with_reducible rfl))
  try simp only [Act.put, List.setIfInBounds_toArray, List.set_cons_zero, List.set_cons_succ]
  refine ready_one (i := 3) rfl (by kernel_rfl) (fun K hK => ?_)
  go_simp
  refine (WA.out _ B0.out _).mono ?_
  rintro e wq ⟨rfl, rfl⟩
  refine hK.out _ _ hHeld (fun hHeld => ?_)
  clear hK K
  try simp only [Act.put, List.setIfInBounds_toArray, List.set_cons_zero, List.set_cons_succ]
  refine take_yes (i := 4) (v := ?v4) rfl (by kernel_rfl) (by kernel_rfl) (by kernel_rfl) (fun _ _ _ h => h) (by rfl) (by assumption) ?hy4 ?rest4
  case hy4 => (intro w hSw; obtain ⟨p0, p1, p2, p3, p4, p5, p6⟩ := KS.out w hSw; go_simp; try (with_reducible rfl))
  try simp only [Act.put, List.setIfInBounds_toArray, List.set_cons_zero, List.set_cons_succ]
  refine take_yes (i := 5) (v := ?v5) rfl (by kernel_rfl) (by kernel_rfl) (by kernel_rfl) (fun _ _ _ h => h) (by rfl) (by assumption) ?hy5 ?rest5
  case hy5 => (intro w hSw; obtain ⟨p0, p1, p2, p3, p4, p5, p6⟩ := KS.out w hSw; go_simp; try (with_reducible rfl))
  try simp only [Act.put, List.setIfInBounds_toArray, List.set_cons_zero, List.set_cons_succ]
  refine take_yes (i := 6) (v := ?v6) rfl (by kernel_rfl) (by kernel_rfl) (by kernel_rfl) (fun _ _ _ h => h) (by rfl) (by assumption) ?hy6 ?rest6
  case hy6 => (intro w hSw; obtain ⟨p0, p1, p2, p3, p4, p5, p6⟩ := KS.out w hSw; go_simp; try (with_reducible rfl))
  try simp only [Act.put, List.setIfInBounds_toArray, List.set_cons_zero, List.set_cons_succ]
  refine ready_one (i := 7) rfl (by kernel_rfl) (fun K hK => ?_)
  go_simp
  refine (WB.out _ B1.out _).mono ?_
  rintro e wq ⟨rfl, rfl⟩
  refine hK.out _ _ hHeld (fun hHeld => ?_)
  clear hK K
  try simp only [Act.put, List.setIfInBounds_toArray, List.set_cons_zero, List.set_cons_succ]
  refine take_yes (i := 8) (v := ?v8) rfl (by kernel_rfl) (by kernel_rfl) (by kernel_rfl) (fun _ _ _ h => h) (by rfl) (by assumption) ?hy8 ?rest8
  case hy8 => (intro w hSw; obtain ⟨p0, p1, p2, p3, p4, p5, p6⟩ := KS.out w hSw; go_simp; try (with_reducible rfl))
  try simp only [Act.put, List.setIfInBounds_toArray, List.set_cons_zero, List.set_cons_succ]
  refine take_yes (i := 9) (v := ?v9) rfl (by kernel_rfl) (by kernel_rfl) (by kernel_rfl) (fun _ _ _ h => h) (by rfl) (by assumption) ?hy9 ?rest9
  case hy9 => (intro w hSw; obtain ⟨p0, p1, p2, p3, p4, p5, p6⟩ := KS.out w hSw; go_simp; try (with_reducible rfl))
  try simp only [Act.put, List.setIfInBounds_toArray, List.set_cons_zero, List.set_cons_succ]
  refine take_yes (i := 10) (v := ?v10) rfl (by kernel_rfl) (by kernel_rfl) (by kernel_rfl) (fun _ _ _ h => h) (by rfl) (by assumption) ?hy10 ?rest10
  case hy10 => (intro w hSw; obtain ⟨p0, p1, p2, p3, p4, p5, p6⟩ := KS.out w hSw; go_simp; try (with_reducible rfl))
  try simp only [Act.put, List.setIfInBounds_toArray, List.set_cons_zero, List.set_cons_succ]
  refine take_yes (i := 11) (v := ?v11) rfl (by kernel_rfl) (by kernel_rfl) (by kernel_rfl) (fun _ _ _ h => h) (by rfl) (by assumption) ?hy11 ?rest11
  case hy11 => (intro w hSw; obtain ⟨p0, p1, p2, p3, p4, p5, p6⟩ := KS.out w hSw; go_simp; try (with_reducible rfl))
  try simp only [Act.put, List.setIfInBounds_toArray, List.set_cons_zero, List.set_cons_succ]
  refine take_yes (i := 12) (v := ?v12) rfl (by kernel_rfl) (by kernel_rfl) (by kernel_rfl) (fun _ _ _ h => h) (by rfl) (by assumption) ?hy12 ?rest12
  case hy12 => (intro w hSw; obtain ⟨p0, p1, p2, p3, p4, p5, p6⟩ := KS.out w hSw; go_simp; try (with_reducible rfl))
  try simp only [Act.put, List.setIfInBounds_toArray, List.set_cons_zero, List.set_cons_succ]
  refine take_yes (i := 13) (v := ?v13) rfl (by kernel_rfl) (by kernel_rfl) (by kernel_rfl) (fun _ _ _ h => h) (by rfl) (by assumption) ?hy13 ?rest13
  case hy13 => (intro w hSw; obtain ⟨p0, p1, p2, p3, p4, p5, p6⟩ := KS.out w hSw; go_simp; try (with_reducible rfl))
  try simp only [Act.put, List.setIfInBounds_toArray, List.set_cons_zero, List.set_cons_succ]
  refine ready_one (i := 14) rfl (by kernel_rfl) (fun K hK => ?_)
  go_simp
  refine (BEL.out _ _ hHeld).mono ?_
  rintro e wq ⟨g, rfl, hg, hbq2⟩
  refine hK.out _ _ hbq2 (fun hHeld => ?_)
  clear hK K
  try simp only [Act.put, List.setIfInBounds_toArray, List.set_cons_zero, List.set_cons_succ]
  refine ready_one (i := 15) rfl (by kernel_rfl) (fun K hK => ?_)
  go_simp
  refine (LC.out _ B2.out _ _ hHeld hg).mono ?_
  rintro e wq ⟨rfl, rfl⟩
  refine hK.out _ _ hHeld (fun hHeld => ?_)
  clear hK K
  try simp only [Act.put, List.setIfInBounds_toArray, List.set_cons_zero, List.set_cons_succ]
  clear hg
  refine take_yes (i := 16) (v := ?v16) rfl (by kernel_rfl) (by kernel_rfl) (by kernel_rfl) (fun _ _ _ h => h) (by rfl) (by assumption) ?hy16 ?rest16
  case hy16 => (intro w hSw; obtain ⟨p0, p1, p2, p3, p4, p5, p6⟩ := KS.out w hSw; go_simp; try (with_reducible rfl))
  try simp only [Act.put, List.setIfInBounds_toArray, List.set_cons_zero, List.set_cons_succ]
  refine take_yes (i := 17) (v := ?v17) rfl (by kernel_rfl) (by kernel_rfl) (by kernel_rfl) (fun _ _ _ h => h) (by rfl) (by assumption) ?hy17 ?rest17
  case hy17 => (intro w hSw; obtain ⟨p0, p1, p2, p3, p4, p5, p6⟩ := KS.out w hSw; go_simp; try (with_reducible rfl))
  try simp only [Act.put, List.setIfInBounds_toArray, List.set_cons_zero, List.set_cons_succ]
  refine take_no (i := 18) rfl (by kernel_rfl) (by kernel_rfl) (by kernel_rfl) (fun _ _ _ h => h) (by rfl) (by assumption) ?_
  try simp only [Act.put, List.setIfInBounds_toArray, List.set_cons_zero, List.set_cons_succ]
  refine take_no (i := 19) rfl (by kernel_rfl) (by kernel_rfl) (by kernel_rfl) (fun _ _ _ h => h) (by rfl) (by assumption) ?_
  try simp only [Act.put, List.setIfInBounds_toArray, List.set_cons_zero, List.set_cons_succ]
  refine take_no (i := 20) rfl (by kernel_rfl) (by kernel_rfl) (by kernel_rfl) (fun _ _ _ h => h) (by rfl) (by assumption) ?_
  try simp only [Act.put, List.setIfInBounds_toArray, List.set_cons_zero, List.set_cons_succ]
  refine take_no (i := 21) rfl (by kernel_rfl) (by kernel_rfl) (by kernel_rfl) (fun _ _ _ h => h) (by rfl) (by assumption) ?_
  try simp only [Act.put, List.setIfInBounds_toArray, List.set_cons_zero, List.set_cons_succ]
  refine take_yes (i := 22) (v := ?v22) rfl (by kernel_rfl) (by kernel_rfl) (by kernel_rfl) (fun _ _ _ h => h) (by rfl) (by assumption) ?hy22 ?rest22
  case hy22 => (intro w hSw; obtain ⟨p0, p1, p2, p3, p4, p5, p6⟩ := KS.out w hSw; go_simp; try (with_reducible rfl))
  try simp only [Act.put, List.setIfInBounds_toArray, List.set_cons_zero, List.set_cons_succ]
  refine take_yes (i := 23) (v := ?v23) rfl (by kernel_rfl) (by kernel_rfl) (by kernel_rfl) (fun _ _ _ h => h) (by rfl) (by assumption) ?hy23 ?rest23
  case hy23 => (intro w hSw; obtain ⟨p0, p1, p2, p3, p4, p5, p6⟩ := KS.out w hSw; go_simp; try (with_reducible rfl))
  try simp only [Act.put, List.setIfInBounds_toArray, List.set_cons_zero, List.set_cons_succ]
  refine take_no (i := 24) rfl (by kernel_rfl) (by kernel_rfl) (by kernel_rfl) (fun _ _ _ h => h) (by rfl) (by assumption) ?_
  try simp only [Act.put, List.setIfInBounds_toArray, List.set_cons_zero, List.set_cons_succ]
  refine take_no (i := 25) rfl (by kernel_rfl) (by kernel_rfl) (by kernel_rfl) (fun _ _ _ h => h) (by rfl) (by assumption) ?_
  try simp only [Act.put, List.setIfInBounds_toArray, List.set_cons_zero, List.set_cons_succ]
  refine take_no (i := 26) rfl (by kernel_rfl) (by kernel_rfl) (by kernel_rfl) (fun _ _ _ h => h) (by rfl) (by assumption) ?_
  try simp only [Act.put, List.setIfInBounds_toArray, List.set_cons_zero, List.set_cons_succ]
  refine take_no (i := 27) rfl (by kernel_rfl) (by kernel_rfl) (by kernel_rfl) (fun _ _ _ h => h) (by rfl) (by assumption) ?_
  try simp only [Act.put, List.setIfInBounds_toArray, List.set_cons_zero, List.set_cons_succ]
  refine take_yes (i := 28) (v := ?v28) rfl (by kernel_rfl) (by kernel_rfl) (by kernel_rfl) (fun _ _ _ h => h) (by rfl) (by assumption) ?hy28 ?rest28
  case hy28 => (intro w hSw; obtain ⟨p0, p1, p2, p3, p4, p5, p6⟩ := KS.out w hSw; go_simp; try (with_reducible rfl))
  try simp only [Act.put, List.setIfInBounds_toArray, List.set_cons_zero, List.set_cons_succ]
  refine take_yes (i := 29) (v := ?v29) rfl (by kernel_rfl) (by kernel_rfl) (by kernel_rfl) (fun _ _ _ h => h) (by rfl) (by assumption) ?hy29 ?rest29
  case hy29 => (intro w hSw; obtain ⟨p0, p1, p2, p3, p4, p5, p6⟩ := KS.out w hSw; go_simp; try (with_reducible rfl))
  try simp only [Act.put, List.setIfInBounds_toArray, List.set_cons_zero, List.set_cons_succ]
  refine take_no (i := 30) rfl (by kernel_rfl) (by kernel_rfl) (by kernel_rfl) (fun _ _ _ h => h) (by rfl) (by assumption) ?_
  try simp only [Act.put, List.setIfInBounds_toArray, List.set_cons_zero, List.set_cons_succ]
  refine take_no (i := 31) rfl (by kernel_rfl) (by kernel_rfl) (by kernel_rfl) (fun _ _ _ h => h) (by rfl) (by assumption) ?_
  try simp only [Act.put, List.setIfInBounds_toArray, List.set_cons_zero, List.set_cons_succ]
  refine take_yes (i := 32) (v := ?v32) rfl (by kernel_rfl) (by kernel_rfl) (by kernel_rfl) (fun _ _ _ h => h) (by rfl) (by assumption) ?hy32 ?rest32
  case hy32 => (intro w hSw; obtain ⟨p0, p1, p2, p3, p4, p5, p6⟩ := KS.out w hSw; go_simp; try (with_reducible rfl))
  try simp only [Act.put, List.setIfInBounds_toArray, List.set_cons_zero, List.set_cons_succ]
  refine take_yes (i := 33) (v := ?v33) rfl (by kernel_rfl) (by kernel_rfl) (by kernel_rfl) (fun _ _ _ h => h) (by rfl) (by assumption) ?hy33 ?rest33
  case hy33 => (intro w hSw; obtain ⟨p0, p1, p2, p3, p4, p5, p6⟩ := KS.out w hSw; go_simp; try (with_reducible rfl))
  try simp only [Act.put, List.setIfInBounds_toArray, List.set_cons_zero, List.set_cons_succ]
  refine take_no (i := 34) rfl (by kernel_rfl) (by kernel_rfl) (by kernel_rfl) (fun _ _ _ h => h) (by rfl) (by assumption) ?_
  try simp only [Act.put, List.setIfInBounds_toArray, List.set_cons_zero, List.set_cons_succ]
  refine take_no (i := 35) rfl (by kernel_rfl) (by kernel_rfl) (by kernel_rfl) (fun _ _ _ h => h) (by rfl) (by assumption) ?_
  try simp only [Act.put, List.setIfInBounds_toArray, List.set_cons_zero, List.set_cons_succ]
  refine take_no (i := 36) rfl (by kernel_rfl) (by kernel_rfl) (by kernel_rfl) (fun _ _ _ h => h) (by rfl) (by assumption) ?_
  try simp only [Act.put, List.setIfInBounds_toArray, List.set_cons_zero, List.set_cons_succ]
  refine take_yes (i := 37) (v := ?v37) rfl (by kernel_rfl) (by kernel_rfl) (by kernel_rfl) (fun _ _ _ h => h) (by rfl) (by assumption) ?hy37 ?rest37
  case hy37 => (intro w hSw; obtain ⟨p0, p1, p2, p3, p4, p5, p6⟩ := KS.out w hSw; go_simp; try (with_reducible rfl))
  try simp only [Act.put, List.setIfInBounds_toArray, List.set_cons_zero, List.set_cons_succ]
  refine take_yes (i := 38) (v := ?v38) rfl (by kernel_rfl) (by kernel_rfl) (by kernel_rfl) (fun _ _ _ h => h) (by rfl) (by assumption) ?hy38 ?rest38
  case hy38 => (intro w hSw; obtain ⟨p0, p1, p2, p3, p4, p5, p6⟩ := KS.out w hSw; go_simp; try (with_reducible rfl))
  try simp only [Act.put, List.setIfInBounds_toArray, List.set_cons_zero, List.set_cons_succ]
  refine take_no (i := 39) rfl (by kernel_rfl) (by kernel_rfl) (by kernel_rfl) (fun _ _ _ h => h) (by rfl) (by assumption) ?_
  try simp only [Act.put, List.setIfInBounds_toArray, List.set_cons_zero, List.set_cons_succ]
  refine take_no (i := 40) rfl (by kernel_rfl) (by kernel_rfl) (by kernel_rfl) (fun _ _ _ h => h) (by rfl) (by assumption) ?_
  try simp only [Act.put, List.setIfInBounds_toArray, List.set_cons_zero, List.set_cons_succ]
  refine take_yes (i := 41) (v := ?v41) rfl (by kernel_rfl) (by kernel_rfl) (by kernel_rfl) (fun _ _ _ h => h) (by rfl) (by assumption) ?hy41 ?rest41
  case hy41 => (intro w hSw; obtain ⟨p0, p1, p2, p3, p4, p5, p6⟩ := KS.out w hSw; go_simp; try (with_reducible rfl))
  try simp only [Act.put, List.setIfInBounds_toArray, List.set_cons_zero, List.set_cons_succ]
  refine take_yes (i := 42) (v := ?v42) rfl (by kernel_rfl) (by kernel_rfl) (by kernel_rfl) (fun _ _ _ h => h) (by rfl) (by assumption) ?hy42 ?rest42
  case hy42 => (intro w hSw; obtain ⟨p0, p1, p2, p3, p4, p5, p6⟩ := KS.out w hSw; go_simp; try (with_reducible rfl))
  try simp only [Act.put, List.setIfInBounds_toArray, List.set_cons_zero, List.set_cons_succ]
  refine wpAnyH_done (by kernel_rfl) ?_ _
  go_wp2_with fail
  go_ret
  exact ⟨rfl, H0.out.trans (hHeld.mono z0)⟩

set_option maxHeartbeats 40000000 in
set_option maxRecDepth 100000 in
theorem mayC_no3 (h : PH) (p : PV) (w : World) (B : Nat) (hr : RP w B h p) (hB : B ≤ w.heap.size) (hlen : Lens p) (b0 : withinB (p.funcs.length : Int) 1 16 = true) (b1 : withinB p.mutexes 0 8 = true) (b2 : listB p.conds p.mutexes = true) (b3 : listB p.semas 101 = false) :
    Calls Try.prog 10 #[.agg #[.slice h.fA p.funcs.length h.fc, .int .i64 p.mutexes, .slice h.cA p.conds.length h.cc, .slice h.sA p.semas.length h.sc, .slice h.hA p.chans.length h.hc, .slice h.xA p.choices.length h.xc, .int .i64 p.threads]] w
      fun e w' => e = .returned (.bool false) ∧ Below w.heap.size w w' := by
  obtain ⟨W0, hW0⟩ : ∃ W, W = w.alloc (.cells (PC h p) 26) := ⟨_, rfl⟩
  have h0 : Below w.heap.size w W0 := by rw [hW0]; exact (Below.refl _ _).alloc (Nat.le_refl _) _
  have hk : Blk W0 w.heap.size 26 (PC h p) := by rw [hW0]; exact Blk.new _ _ _
  have z0 := h0.size
  have zk := hk.lt
  have hrw : ∀ W, Below W0.heap.size W0 W → RP W B h p := fun W hW => hr.below ((h0.mono hB).trans (hW.mono (by omega)))
  have BEL : Hid (∀ n W, Below W0.heap.size W0 W → Calls Try.prog 36 #[.int .i64 n] W fun e w' => ∃ g, e = .returned (.func (.func 71) #[] #[.pointer (some ⟨g, 0, none⟩)]) ∧ Blk w' g 3 #[.int .i64 n] ∧ Below W0.heap.size W0 w') := fun n W hW =>
    (below_any n W).mono fun e w' ⟨he, hw⟩ => by subst hw; exact ⟨_, he, Blk.new W _ _, hW.alloc hW.size _⟩
  have WA : Hid (∀ (b : Bool), withinB (p.funcs.length : Int) 1 16 = b → ∀ (W : World), Calls Try.prog 34 #[.int .i64 (p.funcs.length : Int), .int .i64 1, .int .i64 16] W fun e w' => e = .returned (.bool b) ∧ W = w') := fun b hb W => (within_any _ _ _ W).mono fun e w' ⟨he, hw⟩ => ⟨by rw [he, hb], hw⟩
  have WB : Hid (∀ (b : Bool), withinB p.mutexes 0 8 = b → ∀ (W : World), Calls Try.prog 34 #[.int .i64 p.mutexes, .int .i64 0, .int .i64 8] W fun e w' => e = .returned (.bool b) ∧ W = w') := fun b hb W => (within_any _ _ _ W).mono fun e w' ⟨he, hw⟩ => ⟨by rw [he, hb], hw⟩
  have WT : Hid (∀ (b : Bool), withinB p.threads 1 32 = b → ∀ (W : World), Calls Try.prog 34 #[.int .i64 p.threads, .int .i64 1, .int .i64 32] W fun e w' => e = .returned (.bool b) ∧ W = w') := fun b hb W => (within_any _ _ _ W).mono fun e w' ⟨he, hw⟩ => ⟨by rw [he, hb], hw⟩
  have LC : Hid (∀ (b : Bool), listB p.conds p.mutexes = b → ∀ (W : World) (g : Nat), Below W0.heap.size W0 W → Blk W g 3 #[.int .i64 p.mutexes] → Calls Try.prog 35 #[.slice h.cA p.conds.length h.cc, .func (.func 71) #[] #[.pointer (some ⟨g, 0, none⟩)]] W fun e w' => e = .returned (.bool b) ∧ W = w') := fun b hb W g hW hg =>
    (mayList_any p.conds p.mutexes g W B _ _ _ (hrw W hW).conds (by have := hlen.conds; omega) hg).mono fun e w' ⟨he, hw⟩ => ⟨by rw [he, hb], hw⟩
  have LS : Hid (∀ (b : Bool), listB p.semas 101 = b → ∀ (W : World) (g : Nat), Below W0.heap.size W0 W → Blk W g 3 #[.int .i64 101] → Calls Try.prog 35 #[.slice h.sA p.semas.length h.sc, .func (.func 71) #[] #[.pointer (some ⟨g, 0, none⟩)]] W fun e w' => e = .returned (.bool b) ∧ W = w') := fun b hb W g hW hg =>
    (mayList_any p.semas 101 g W B _ _ _ (hrw W hW).semas (by have := hlen.semas; omega) hg).mono fun e w' ⟨he, hw⟩ => ⟨by rw [he, hb], hw⟩
  have LH : Hid (∀ (b : Bool), listB p.chans 9 = b → ∀ (W : World) (g : Nat), Below W0.heap.size W0 W → Blk W g 3 #[.int .i64 9] → Calls Try.prog 35 #[.slice h.hA p.chans.length h.hc, .func (.func 71) #[] #[.pointer (some ⟨g, 0, none⟩)]] W fun e w' => e = .returned (.bool b) ∧ W = w') := fun b hb W g hW hg =>
    (mayList_any p.chans 9 g W B _ _ _ (hrw W hW).chans (by have := hlen.chans; omega) hg).mono fun e w' ⟨he, hw⟩ => ⟨by rw [he, hb], hw⟩
  have MX : Hid (∀ (b : Bool), choicesB p = b → ∀ W, Below W0.heap.size W0 W → Calls Try.prog 37 #[.agg #[.slice h.fA p.funcs.length h.fc, .int .i64 p.mutexes, .slice h.cA p.conds.length h.cc, .slice h.sA p.semas.length h.sc, .slice h.hA p.chans.length h.hc, .slice h.xA p.choices.length h.xc, .int .i64 p.threads]] W fun e w' => e = .returned (.bool b) ∧ Below W0.heap.size W0 w') := fun b hb W hW =>
    (mayChoices_any h p W B (hrw W hW) (by have := hW.size; omega) hlen).mono fun e w' ⟨he, hq⟩ => ⟨by rw [he, hb], hW.trans (hq.mono hW.size)⟩
  have MF : Hid (∀ (b : Bool), p.funcs.all (funcC p) = b → ∀ W, Below W0.heap.size W0 W → Calls Try.prog 38 #[.agg #[.slice h.fA p.funcs.length h.fc, .int .i64 p.mutexes, .slice h.cA p.conds.length h.cc, .slice h.sA p.semas.length h.sc, .slice h.hA p.chans.length h.hc, .slice h.xA p.choices.length h.xc, .int .i64 p.threads]] W fun e w' => e = .returned (.bool b) ∧ Below W0.heap.size W0 w') := fun b hb W hW =>
    (mayFuncs_any h p W B (hrw W hW) (by have := hW.size; omega) hlen).mono fun e w' ⟨he, hq⟩ => ⟨by rw [he, hb], hW.trans (hq.mono hW.size)⟩
  obtain ⟨fA, fc, cA, cc, sA, sc, hA, hc, xA, xc⟩ := h
  simp only at LC LS LH MX MF
  have KS : Hid (∀ X, Below W0.heap.size W0 X → X.cell? ⟨w.heap.size, 0, none⟩ = some (.slice fA p.funcs.length fc) ∧ X.cell? ⟨w.heap.size, 1, none⟩ = some (.int .i64 p.mutexes) ∧ X.cell? ⟨w.heap.size, 2, none⟩ = some (.slice cA p.conds.length cc) ∧ X.cell? ⟨w.heap.size, 3, none⟩ = some (.slice sA p.semas.length sc) ∧ X.cell? ⟨w.heap.size, 4, none⟩ = some (.slice hA p.chans.length hc) ∧ X.cell? ⟨w.heap.size, 5, none⟩ = some (.slice xA p.choices.length xc) ∧ X.cell? ⟨w.heap.size, 6, none⟩ = some (.int .i64 p.threads)) := by
    intro X hX
    exact ⟨(hX.cell (p := ⟨w.heap.size, 0, none⟩) zk).trans ((hk.cell 0).trans rfl), (hX.cell (p := ⟨w.heap.size, 1, none⟩) zk).trans ((hk.cell 1).trans rfl), (hX.cell (p := ⟨w.heap.size, 2, none⟩) zk).trans ((hk.cell 2).trans rfl), (hX.cell (p := ⟨w.heap.size, 3, none⟩) zk).trans ((hk.cell 3).trans rfl), (hX.cell (p := ⟨w.heap.size, 4, none⟩) zk).trans ((hk.cell 4).trans rfl), (hX.cell (p := ⟨w.heap.size, 5, none⟩) zk).trans ((hk.cell 5).trans rfl), (hX.cell (p := ⟨w.heap.size, 6, none⟩) zk).trans ((hk.cell 6).trans rfl)⟩
  have HW : Hid (w.alloc (.cells #[.slice fA p.funcs.length fc, .int .i64 p.mutexes, .slice cA p.conds.length cc, .slice sA p.semas.length sc, .slice hA p.chans.length hc, .slice xA p.choices.length xc, .int .i64 p.threads] 26) = W0) := hW0.symm
  have H0 := Lib.hid h0
  have hbq : Below W0.heap.size W0 W0 := Below.refl _ _
  obtain ⟨p0, p1, p2, p3, p4, p5, p6⟩ := KS.out W0 hbq
  clear hW0 h0 hk hrw hr hlen
  go_enter Try.func10, Try.ntmps10
  have B0 := Lib.hid b0
  have B1 := Lib.hid b1
  have B2 := Lib.hid b2
  have B3 := Lib.hid b3
  clear b0 b1 b2 b3 p0 p1 p2 p3 p4 p5 p6
  go_upto_region 1 with fail
  rw [HW.out]
  refine wp_region_held_drew (S := fun w' => Below W0.heap.size W0 w') (by kernel_rfl) hbq.drew (fun hHeld => ?_)
  refine take_yes (i := 0) (v := ?v0) rfl (by kernel_rfl) (by kernel_rfl) (by kernel_rfl) (fun _ _ _ h => h) (by rfl) (by assumption) ?hy0 ?rest0
  case hy0 => (intro w hSw; obtain ⟨p0, p1, p2, p3, p4, p5, p6⟩ := KS.out w hSw; go_simp; try (with_reducible rfl))
  try simp only [Act.put, List.setIfInBounds_toArray, List.set_cons_zero, List.set_cons_succ]
  refine take_yes (i := 1) (v := ?v1) rfl (by kernel_rfl) (by kernel_rfl) (by kernel_rfl) (fun _ _ _ h => h) (by rfl) (by assumption) ?hy1 ?rest1
  case hy1 => (intro w hSw; obtain ⟨p0, p1, p2, p3, p4, p5, p6⟩ := KS.out w hSw; go_simp; try (with_reducible rfl))
  try simp only [Act.put, List.setIfInBounds_toArray, List.set_cons_zero, List.set_cons_succ]
  refine take_yes (i := 2) (v := ?v2) rfl (by kernel_rfl) (by kernel_rfl) (by kernel_rfl) (fun _ _ _ h => h) (by rfl) (by assumption) ?hy2 ?rest2
  case hy2 => (intro w hSw; obtain ⟨p0, p1, p2, p3, p4, p5, p6⟩ := KS.out w hSw; go_simp; try (with_reducible rfl))
  try simp only [Act.put, List.setIfInBounds_toArray, List.set_cons_zero, List.set_cons_succ]
  refine ready_one (i := 3) rfl (by kernel_rfl) (fun K hK => ?_)
  go_simp
  refine (WA.out _ B0.out _).mono ?_
  rintro e wq ⟨rfl, rfl⟩
  refine hK.out _ _ hHeld (fun hHeld => ?_)
  clear hK K
  try simp only [Act.put, List.setIfInBounds_toArray, List.set_cons_zero, List.set_cons_succ]
  refine take_yes (i := 4) (v := ?v4) rfl (by kernel_rfl) (by kernel_rfl) (by kernel_rfl) (fun _ _ _ h => h) (by rfl) (by assumption) ?hy4 ?rest4
  case hy4 => (intro w hSw; obtain ⟨p0, p1, p2, p3, p4, p5, p6⟩ := KS.out w hSw; go_simp; try (with_reducible rfl))
  try simp only [Act.put, List.setIfInBounds_toArray, List.set_cons_zero, List.set_cons_succ]
  refine take_yes (i := 5) (v := ?v5) rfl (by kernel_rfl) (by kernel_rfl) (by kernel_rfl) (fun _ _ _ h => h) (by rfl) (by assumption) ?hy5 ?rest5
  case hy5 => (intro w hSw; obtain ⟨p0, p1, p2, p3, p4, p5, p6⟩ := KS.out w hSw; go_simp; try (with_reducible rfl))
  try simp only [Act.put, List.setIfInBounds_toArray, List.set_cons_zero, List.set_cons_succ]
  refine take_yes (i := 6) (v := ?v6) rfl (by kernel_rfl) (by kernel_rfl) (by kernel_rfl) (fun _ _ _ h => h) (by rfl) (by assumption) ?hy6 ?rest6
  case hy6 => (intro w hSw; obtain ⟨p0, p1, p2, p3, p4, p5, p6⟩ := KS.out w hSw; go_simp; try (with_reducible rfl))
  try simp only [Act.put, List.setIfInBounds_toArray, List.set_cons_zero, List.set_cons_succ]
  refine ready_one (i := 7) rfl (by kernel_rfl) (fun K hK => ?_)
  go_simp
  refine (WB.out _ B1.out _).mono ?_
  rintro e wq ⟨rfl, rfl⟩
  refine hK.out _ _ hHeld (fun hHeld => ?_)
  clear hK K
  try simp only [Act.put, List.setIfInBounds_toArray, List.set_cons_zero, List.set_cons_succ]
  refine take_yes (i := 8) (v := ?v8) rfl (by kernel_rfl) (by kernel_rfl) (by kernel_rfl) (fun _ _ _ h => h) (by rfl) (by assumption) ?hy8 ?rest8
  case hy8 => (intro w hSw; obtain ⟨p0, p1, p2, p3, p4, p5, p6⟩ := KS.out w hSw; go_simp; try (with_reducible rfl))
  try simp only [Act.put, List.setIfInBounds_toArray, List.set_cons_zero, List.set_cons_succ]
  refine take_yes (i := 9) (v := ?v9) rfl (by kernel_rfl) (by kernel_rfl) (by kernel_rfl) (fun _ _ _ h => h) (by rfl) (by assumption) ?hy9 ?rest9
  case hy9 => (intro w hSw; obtain ⟨p0, p1, p2, p3, p4, p5, p6⟩ := KS.out w hSw; go_simp; try (with_reducible rfl))
  try simp only [Act.put, List.setIfInBounds_toArray, List.set_cons_zero, List.set_cons_succ]
  refine take_yes (i := 10) (v := ?v10) rfl (by kernel_rfl) (by kernel_rfl) (by kernel_rfl) (fun _ _ _ h => h) (by rfl) (by assumption) ?hy10 ?rest10
  case hy10 => (intro w hSw; obtain ⟨p0, p1, p2, p3, p4, p5, p6⟩ := KS.out w hSw; go_simp; try (with_reducible rfl))
  try simp only [Act.put, List.setIfInBounds_toArray, List.set_cons_zero, List.set_cons_succ]
  refine take_yes (i := 11) (v := ?v11) rfl (by kernel_rfl) (by kernel_rfl) (by kernel_rfl) (fun _ _ _ h => h) (by rfl) (by assumption) ?hy11 ?rest11
  case hy11 => (intro w hSw; obtain ⟨p0, p1, p2, p3, p4, p5, p6⟩ := KS.out w hSw; go_simp; try (with_reducible rfl))
  try simp only [Act.put, List.setIfInBounds_toArray, List.set_cons_zero, List.set_cons_succ]
  refine take_yes (i := 12) (v := ?v12) rfl (by kernel_rfl) (by kernel_rfl) (by kernel_rfl) (fun _ _ _ h => h) (by rfl) (by assumption) ?hy12 ?rest12
  case hy12 => (intro w hSw; obtain ⟨p0, p1, p2, p3, p4, p5, p6⟩ := KS.out w hSw; go_simp; try (with_reducible rfl))
  try simp only [Act.put, List.setIfInBounds_toArray, List.set_cons_zero, List.set_cons_succ]
  refine take_yes (i := 13) (v := ?v13) rfl (by kernel_rfl) (by kernel_rfl) (by kernel_rfl) (fun _ _ _ h => h) (by rfl) (by assumption) ?hy13 ?rest13
  case hy13 => (intro w hSw; obtain ⟨p0, p1, p2, p3, p4, p5, p6⟩ := KS.out w hSw; go_simp; try (with_reducible rfl))
  try simp only [Act.put, List.setIfInBounds_toArray, List.set_cons_zero, List.set_cons_succ]
  refine ready_one (i := 14) rfl (by kernel_rfl) (fun K hK => ?_)
  go_simp
  refine (BEL.out _ _ hHeld).mono ?_
  rintro e wq ⟨g, rfl, hg, hbq2⟩
  refine hK.out _ _ hbq2 (fun hHeld => ?_)
  clear hK K
  try simp only [Act.put, List.setIfInBounds_toArray, List.set_cons_zero, List.set_cons_succ]
  refine ready_one (i := 15) rfl (by kernel_rfl) (fun K hK => ?_)
  go_simp
  refine (LC.out _ B2.out _ _ hHeld hg).mono ?_
  rintro e wq ⟨rfl, rfl⟩
  refine hK.out _ _ hHeld (fun hHeld => ?_)
  clear hK K
  try simp only [Act.put, List.setIfInBounds_toArray, List.set_cons_zero, List.set_cons_succ]
  clear hg
  refine take_yes (i := 16) (v := ?v16) rfl (by kernel_rfl) (by kernel_rfl) (by kernel_rfl) (fun _ _ _ h => h) (by rfl) (by assumption) ?hy16 ?rest16
  case hy16 => (intro w hSw; obtain ⟨p0, p1, p2, p3, p4, p5, p6⟩ := KS.out w hSw; go_simp; try (with_reducible rfl))
  try simp only [Act.put, List.setIfInBounds_toArray, List.set_cons_zero, List.set_cons_succ]
  refine take_yes (i := 17) (v := ?v17) rfl (by kernel_rfl) (by kernel_rfl) (by kernel_rfl) (fun _ _ _ h => h) (by rfl) (by assumption) ?hy17 ?rest17
  case hy17 => (intro w hSw; obtain ⟨p0, p1, p2, p3, p4, p5, p6⟩ := KS.out w hSw; go_simp; try (with_reducible rfl))
  try simp only [Act.put, List.setIfInBounds_toArray, List.set_cons_zero, List.set_cons_succ]
  refine take_yes (i := 18) (v := ?v18) rfl (by kernel_rfl) (by kernel_rfl) (by kernel_rfl) (fun _ _ _ h => h) (by rfl) (by assumption) ?hy18 ?rest18
  case hy18 => (intro w hSw; obtain ⟨p0, p1, p2, p3, p4, p5, p6⟩ := KS.out w hSw; go_simp; try (with_reducible rfl))
  try simp only [Act.put, List.setIfInBounds_toArray, List.set_cons_zero, List.set_cons_succ]
  refine take_yes (i := 19) (v := ?v19) rfl (by kernel_rfl) (by kernel_rfl) (by kernel_rfl) (fun _ _ _ h => h) (by rfl) (by assumption) ?hy19 ?rest19
  case hy19 => (intro w hSw; obtain ⟨p0, p1, p2, p3, p4, p5, p6⟩ := KS.out w hSw; go_simp; try (with_reducible rfl))
  try simp only [Act.put, List.setIfInBounds_toArray, List.set_cons_zero, List.set_cons_succ]
  refine ready_one (i := 20) rfl (by kernel_rfl) (fun K hK => ?_)
  go_simp
  refine (BEL.out _ _ hHeld).mono ?_
  rintro e wq ⟨g, rfl, hg, hbq2⟩
  refine hK.out _ _ hbq2 (fun hHeld => ?_)
  clear hK K
  try simp only [Act.put, List.setIfInBounds_toArray, List.set_cons_zero, List.set_cons_succ]
  refine ready_one (i := 21) rfl (by kernel_rfl) (fun K hK => ?_)
  go_simp
  refine (LS.out _ B3.out _ _ hHeld hg).mono ?_
  rintro e wq ⟨rfl, rfl⟩
  refine hK.out _ _ hHeld (fun hHeld => ?_)
  clear hK K
  try simp only [Act.put, List.setIfInBounds_toArray, List.set_cons_zero, List.set_cons_succ]
  clear hg
  refine take_yes (i := 22) (v := ?v22) rfl (by kernel_rfl) (by kernel_rfl) (by kernel_rfl) (fun _ _ _ h => h) (by rfl) (by assumption) ?hy22 ?rest22
  case hy22 => (intro w hSw; obtain ⟨p0, p1, p2, p3, p4, p5, p6⟩ := KS.out w hSw; go_simp; try (with_reducible rfl))
  try simp only [Act.put, List.setIfInBounds_toArray, List.set_cons_zero, List.set_cons_succ]
  refine take_yes (i := 23) (v := ?v23) rfl (by kernel_rfl) (by kernel_rfl) (by kernel_rfl) (fun _ _ _ h => h) (by rfl) (by assumption) ?hy23 ?rest23
  case hy23 => (intro w hSw; obtain ⟨p0, p1, p2, p3, p4, p5, p6⟩ := KS.out w hSw; go_simp; try (with_reducible rfl))
  try simp only [Act.put, List.setIfInBounds_toArray, List.set_cons_zero, List.set_cons_succ]
  refine take_no (i := 24) rfl (by kernel_rfl) (by kernel_rfl) (by kernel_rfl) (fun _ _ _ h => h) (by rfl) (by assumption) ?_
  try simp only [Act.put, List.setIfInBounds_toArray, List.set_cons_zero, List.set_cons_succ]
  refine take_no (i := 25) rfl (by kernel_rfl) (by kernel_rfl) (by kernel_rfl) (fun _ _ _ h => h) (by rfl) (by assumption) ?_
  try simp only [Act.put, List.setIfInBounds_toArray, List.set_cons_zero, List.set_cons_succ]
  refine take_no (i := 26) rfl (by kernel_rfl) (by kernel_rfl) (by kernel_rfl) (fun _ _ _ h => h) (by rfl) (by assumption) ?_
  try simp only [Act.put, List.setIfInBounds_toArray, List.set_cons_zero, List.set_cons_succ]
  refine take_no (i := 27) rfl (by kernel_rfl) (by kernel_rfl) (by kernel_rfl) (fun _ _ _ h => h) (by rfl) (by assumption) ?_
  try simp only [Act.put, List.setIfInBounds_toArray, List.set_cons_zero, List.set_cons_succ]
  refine take_yes (i := 28) (v := ?v28) rfl (by kernel_rfl) (by kernel_rfl) (by kernel_rfl) (fun _ _ _ h => h) (by rfl) (by assumption) ?hy28 ?rest28
  case hy28 => (intro w hSw; obtain ⟨p0, p1, p2, p3, p4, p5, p6⟩ := KS.out w hSw; go_simp; try (with_reducible rfl))
  try simp only [Act.put, List.setIfInBounds_toArray, List.set_cons_zero, List.set_cons_succ]
  refine take_yes (i := 29) (v := ?v29) rfl (by kernel_rfl) (by kernel_rfl) (by kernel_rfl) (fun _ _ _ h => h) (by rfl) (by assumption) ?hy29 ?rest29
  case hy29 => (intro w hSw; obtain ⟨p0, p1, p2, p3, p4, p5, p6⟩ := KS.out w hSw; go_simp; try (with_reducible rfl))
  try simp only [Act.put, List.setIfInBounds_toArray, List.set_cons_zero, List.set_cons_succ]
  refine take_no (i := 30) rfl (by kernel_rfl) (by kernel_rfl) (by kernel_rfl) (fun _ _ _ h => h) (by rfl) (by assumption) ?_
  try simp only [Act.put, List.setIfInBounds_toArray, List.set_cons_zero, List.set_cons_succ]
  refine take_no (i := 31) rfl (by kernel_rfl) (by kernel_rfl) (by kernel_rfl) (fun _ _ _ h => h) (by rfl) (by assumption) ?_
  try simp only [Act.put, List.setIfInBounds_toArray, List.set_cons_zero, List.set_cons_succ]
  refine take_yes (i := 32) (v := ?v32) rfl (by kernel_rfl) (by kernel_rfl) (by kernel_rfl) (fun _ _ _ h => h) (by rfl) (by assumption) ?hy32 ?rest32
  case hy32 => (intro w hSw; obtain ⟨p0, p1, p2, p3, p4, p5, p6⟩ := KS.out w hSw; go_simp; try (with_reducible rfl))
  try simp only [Act.put, List.setIfInBounds_toArray, List.set_cons_zero, List.set_cons_succ]
  refine take_yes (i := 33) (v := ?v33) rfl (by kernel_rfl) (by kernel_rfl) (by kernel_rfl) (fun _ _ _ h => h) (by rfl) (by assumption) ?hy33 ?rest33
  case hy33 => (intro w hSw; obtain ⟨p0, p1, p2, p3, p4, p5, p6⟩ := KS.out w hSw; go_simp; try (with_reducible rfl))
  try simp only [Act.put, List.setIfInBounds_toArray, List.set_cons_zero, List.set_cons_succ]
  refine take_no (i := 34) rfl (by kernel_rfl) (by kernel_rfl) (by kernel_rfl) (fun _ _ _ h => h) (by rfl) (by assumption) ?_
  try simp only [Act.put, List.setIfInBounds_toArray, List.set_cons_zero, List.set_cons_succ]
  refine take_no (i := 35) rfl (by kernel_rfl) (by kernel_rfl) (by kernel_rfl) (fun _ _ _ h => h) (by rfl) (by assumption) ?_
  try simp only [Act.put, List.setIfInBounds_toArray, List.set_cons_zero, List.set_cons_succ]
  refine take_no (i := 36) rfl (by kernel_rfl) (by kernel_rfl) (by kernel_rfl) (fun _ _ _ h => h) (by rfl) (by assumption) ?_
  try simp only [Act.put, List.setIfInBounds_toArray, List.set_cons_zero, List.set_cons_succ]
  refine take_yes (i := 37) (v := ?v37) rfl (by kernel_rfl) (by kernel_rfl) (by kernel_rfl) (fun _ _ _ h => h) (by rfl) (by assumption) ?hy37 ?rest37
  case hy37 => (intro w hSw; obtain ⟨p0, p1, p2, p3, p4, p5, p6⟩ := KS.out w hSw; go_simp; try (with_reducible rfl))
  try simp only [Act.put, List.setIfInBounds_toArray, List.set_cons_zero, List.set_cons_succ]
  refine take_yes (i := 38) (v := ?v38) rfl (by kernel_rfl) (by kernel_rfl) (by kernel_rfl) (fun _ _ _ h => h) (by rfl) (by assumption) ?hy38 ?rest38
  case hy38 => (intro w hSw; obtain ⟨p0, p1, p2, p3, p4, p5, p6⟩ := KS.out w hSw; go_simp; try (with_reducible rfl))
  try simp only [Act.put, List.setIfInBounds_toArray, List.set_cons_zero, List.set_cons_succ]
  refine take_no (i := 39) rfl (by kernel_rfl) (by kernel_rfl) (by kernel_rfl) (fun _ _ _ h => h) (by rfl) (by assumption) ?_
  try simp only [Act.put, List.setIfInBounds_toArray, List.set_cons_zero, List.set_cons_succ]
  refine take_no (i := 40) rfl (by kernel_rfl) (by kernel_rfl) (by kernel_rfl) (fun _ _ _ h => h) (by rfl) (by assumption) ?_
  try simp only [Act.put, List.setIfInBounds_toArray, List.set_cons_zero, List.set_cons_succ]
  refine take_yes (i := 41) (v := ?v41) rfl (by kernel_rfl) (by kernel_rfl) (by kernel_rfl) (fun _ _ _ h => h) (by rfl) (by assumption) ?hy41 ?rest41
  case hy41 => (intro w hSw; obtain ⟨p0, p1, p2, p3, p4, p5, p6⟩ := KS.out w hSw; go_simp; try (with_reducible rfl))
  try simp only [Act.put, List.setIfInBounds_toArray, List.set_cons_zero, List.set_cons_succ]
  refine take_yes (i := 42) (v := ?v42) rfl (by kernel_rfl) (by kernel_rfl) (by kernel_rfl) (fun _ _ _ h => h) (by rfl) (by assumption) ?hy42 ?rest42
  case hy42 => (intro w hSw; obtain ⟨p0, p1, p2, p3, p4, p5, p6⟩ := KS.out w hSw; go_simp; try (with_reducible rfl))
  try simp only [Act.put, List.setIfInBounds_toArray, List.set_cons_zero, List.set_cons_succ]
  refine wpAnyH_done (by kernel_rfl) ?_ _
  go_wp2_with fail
  go_ret
  exact ⟨rfl, H0.out.trans (hHeld.mono z0)⟩

set_option maxHeartbeats 40000000 in
set_option maxRecDepth 100000 in
theorem mayC_no4 (h : PH) (p : PV) (w : World) (B : Nat) (hr : RP w B h p) (hB : B ≤ w.heap.size) (hlen : Lens p) (b0 : withinB (p.funcs.length : Int) 1 16 = true) (b1 : withinB p.mutexes 0 8 = true) (b2 : listB p.conds p.mutexes = true) (b3 : listB p.semas 101 = true) (b4 : listB p.chans 9 = false) :
    Calls Try.prog 10 #[.agg #[.slice h.fA p.funcs.length h.fc, .int .i64 p.mutexes, .slice h.cA p.conds.length h.cc, .slice h.sA p.semas.length h.sc, .slice h.hA p.chans.length h.hc, .slice h.xA p.choices.length h.xc, .int .i64 p.threads]] w
      fun e w' => e = .returned (.bool false) ∧ Below w.heap.size w w' := by
  obtain ⟨W0, hW0⟩ : ∃ W, W = w.alloc (.cells (PC h p) 26) := ⟨_, rfl⟩
  have h0 : Below w.heap.size w W0 := by rw [hW0]; exact (Below.refl _ _).alloc (Nat.le_refl _) _
  have hk : Blk W0 w.heap.size 26 (PC h p) := by rw [hW0]; exact Blk.new _ _ _
  have z0 := h0.size
  have zk := hk.lt
  have hrw : ∀ W, Below W0.heap.size W0 W → RP W B h p := fun W hW => hr.below ((h0.mono hB).trans (hW.mono (by omega)))
  have BEL : Hid (∀ n W, Below W0.heap.size W0 W → Calls Try.prog 36 #[.int .i64 n] W fun e w' => ∃ g, e = .returned (.func (.func 71) #[] #[.pointer (some ⟨g, 0, none⟩)]) ∧ Blk w' g 3 #[.int .i64 n] ∧ Below W0.heap.size W0 w') := fun n W hW =>
    (below_any n W).mono fun e w' ⟨he, hw⟩ => by subst hw; exact ⟨_, he, Blk.new W _ _, hW.alloc hW.size _⟩
  have WA : Hid (∀ (b : Bool), withinB (p.funcs.length : Int) 1 16 = b → ∀ (W : World), Calls Try.prog 34 #[.int .i64 (p.funcs.length : Int), .int .i64 1, .int .i64 16] W fun e w' => e = .returned (.bool b) ∧ W = w') := fun b hb W => (within_any _ _ _ W).mono fun e w' ⟨he, hw⟩ => ⟨by rw [he, hb], hw⟩
  have WB : Hid (∀ (b : Bool), withinB p.mutexes 0 8 = b → ∀ (W : World), Calls Try.prog 34 #[.int .i64 p.mutexes, .int .i64 0, .int .i64 8] W fun e w' => e = .returned (.bool b) ∧ W = w') := fun b hb W => (within_any _ _ _ W).mono fun e w' ⟨he, hw⟩ => ⟨by rw [he, hb], hw⟩
  have WT : Hid (∀ (b : Bool), withinB p.threads 1 32 = b → ∀ (W : World), Calls Try.prog 34 #[.int .i64 p.threads, .int .i64 1, .int .i64 32] W fun e w' => e = .returned (.bool b) ∧ W = w') := fun b hb W => (within_any _ _ _ W).mono fun e w' ⟨he, hw⟩ => ⟨by rw [he, hb], hw⟩
  have LC : Hid (∀ (b : Bool), listB p.conds p.mutexes = b → ∀ (W : World) (g : Nat), Below W0.heap.size W0 W → Blk W g 3 #[.int .i64 p.mutexes] → Calls Try.prog 35 #[.slice h.cA p.conds.length h.cc, .func (.func 71) #[] #[.pointer (some ⟨g, 0, none⟩)]] W fun e w' => e = .returned (.bool b) ∧ W = w') := fun b hb W g hW hg =>
    (mayList_any p.conds p.mutexes g W B _ _ _ (hrw W hW).conds (by have := hlen.conds; omega) hg).mono fun e w' ⟨he, hw⟩ => ⟨by rw [he, hb], hw⟩
  have LS : Hid (∀ (b : Bool), listB p.semas 101 = b → ∀ (W : World) (g : Nat), Below W0.heap.size W0 W → Blk W g 3 #[.int .i64 101] → Calls Try.prog 35 #[.slice h.sA p.semas.length h.sc, .func (.func 71) #[] #[.pointer (some ⟨g, 0, none⟩)]] W fun e w' => e = .returned (.bool b) ∧ W = w') := fun b hb W g hW hg =>
    (mayList_any p.semas 101 g W B _ _ _ (hrw W hW).semas (by have := hlen.semas; omega) hg).mono fun e w' ⟨he, hw⟩ => ⟨by rw [he, hb], hw⟩
  have LH : Hid (∀ (b : Bool), listB p.chans 9 = b → ∀ (W : World) (g : Nat), Below W0.heap.size W0 W → Blk W g 3 #[.int .i64 9] → Calls Try.prog 35 #[.slice h.hA p.chans.length h.hc, .func (.func 71) #[] #[.pointer (some ⟨g, 0, none⟩)]] W fun e w' => e = .returned (.bool b) ∧ W = w') := fun b hb W g hW hg =>
    (mayList_any p.chans 9 g W B _ _ _ (hrw W hW).chans (by have := hlen.chans; omega) hg).mono fun e w' ⟨he, hw⟩ => ⟨by rw [he, hb], hw⟩
  have MX : Hid (∀ (b : Bool), choicesB p = b → ∀ W, Below W0.heap.size W0 W → Calls Try.prog 37 #[.agg #[.slice h.fA p.funcs.length h.fc, .int .i64 p.mutexes, .slice h.cA p.conds.length h.cc, .slice h.sA p.semas.length h.sc, .slice h.hA p.chans.length h.hc, .slice h.xA p.choices.length h.xc, .int .i64 p.threads]] W fun e w' => e = .returned (.bool b) ∧ Below W0.heap.size W0 w') := fun b hb W hW =>
    (mayChoices_any h p W B (hrw W hW) (by have := hW.size; omega) hlen).mono fun e w' ⟨he, hq⟩ => ⟨by rw [he, hb], hW.trans (hq.mono hW.size)⟩
  have MF : Hid (∀ (b : Bool), p.funcs.all (funcC p) = b → ∀ W, Below W0.heap.size W0 W → Calls Try.prog 38 #[.agg #[.slice h.fA p.funcs.length h.fc, .int .i64 p.mutexes, .slice h.cA p.conds.length h.cc, .slice h.sA p.semas.length h.sc, .slice h.hA p.chans.length h.hc, .slice h.xA p.choices.length h.xc, .int .i64 p.threads]] W fun e w' => e = .returned (.bool b) ∧ Below W0.heap.size W0 w') := fun b hb W hW =>
    (mayFuncs_any h p W B (hrw W hW) (by have := hW.size; omega) hlen).mono fun e w' ⟨he, hq⟩ => ⟨by rw [he, hb], hW.trans (hq.mono hW.size)⟩
  obtain ⟨fA, fc, cA, cc, sA, sc, hA, hc, xA, xc⟩ := h
  simp only at LC LS LH MX MF
  have KS : Hid (∀ X, Below W0.heap.size W0 X → X.cell? ⟨w.heap.size, 0, none⟩ = some (.slice fA p.funcs.length fc) ∧ X.cell? ⟨w.heap.size, 1, none⟩ = some (.int .i64 p.mutexes) ∧ X.cell? ⟨w.heap.size, 2, none⟩ = some (.slice cA p.conds.length cc) ∧ X.cell? ⟨w.heap.size, 3, none⟩ = some (.slice sA p.semas.length sc) ∧ X.cell? ⟨w.heap.size, 4, none⟩ = some (.slice hA p.chans.length hc) ∧ X.cell? ⟨w.heap.size, 5, none⟩ = some (.slice xA p.choices.length xc) ∧ X.cell? ⟨w.heap.size, 6, none⟩ = some (.int .i64 p.threads)) := by
    intro X hX
    exact ⟨(hX.cell (p := ⟨w.heap.size, 0, none⟩) zk).trans ((hk.cell 0).trans rfl), (hX.cell (p := ⟨w.heap.size, 1, none⟩) zk).trans ((hk.cell 1).trans rfl), (hX.cell (p := ⟨w.heap.size, 2, none⟩) zk).trans ((hk.cell 2).trans rfl), (hX.cell (p := ⟨w.heap.size, 3, none⟩) zk).trans ((hk.cell 3).trans rfl), (hX.cell (p := ⟨w.heap.size, 4, none⟩) zk).trans ((hk.cell 4).trans rfl), (hX.cell (p := ⟨w.heap.size, 5, none⟩) zk).trans ((hk.cell 5).trans rfl), (hX.cell (p := ⟨w.heap.size, 6, none⟩) zk).trans ((hk.cell 6).trans rfl)⟩
  have HW : Hid (w.alloc (.cells #[.slice fA p.funcs.length fc, .int .i64 p.mutexes, .slice cA p.conds.length cc, .slice sA p.semas.length sc, .slice hA p.chans.length hc, .slice xA p.choices.length xc, .int .i64 p.threads] 26) = W0) := hW0.symm
  have H0 := Lib.hid h0
  have hbq : Below W0.heap.size W0 W0 := Below.refl _ _
  obtain ⟨p0, p1, p2, p3, p4, p5, p6⟩ := KS.out W0 hbq
  clear hW0 h0 hk hrw hr hlen
  go_enter Try.func10, Try.ntmps10
  have B0 := Lib.hid b0
  have B1 := Lib.hid b1
  have B2 := Lib.hid b2
  have B3 := Lib.hid b3
  have B4 := Lib.hid b4
  clear b0 b1 b2 b3 b4 p0 p1 p2 p3 p4 p5 p6
  go_upto_region 1 with fail
  rw [HW.out]
  refine wp_region_held_drew (S := fun w' => Below W0.heap.size W0 w') (by kernel_rfl) hbq.drew (fun hHeld => ?_)
  refine take_yes (i := 0) (v := ?v0) rfl (by kernel_rfl) (by kernel_rfl) (by kernel_rfl) (fun _ _ _ h => h) (by rfl) (by assumption) ?hy0 ?rest0
  case hy0 => (intro w hSw; obtain ⟨p0, p1, p2, p3, p4, p5, p6⟩ := KS.out w hSw; go_simp; try (with_reducible rfl))
  try simp only [Act.put, List.setIfInBounds_toArray, List.set_cons_zero, List.set_cons_succ]
  refine take_yes (i := 1) (v := ?v1) rfl (by kernel_rfl) (by kernel_rfl) (by kernel_rfl) (fun _ _ _ h => h) (by rfl) (by assumption) ?hy1 ?rest1
  case hy1 => (intro w hSw; obtain ⟨p0, p1, p2, p3, p4, p5, p6⟩ := KS.out w hSw; go_simp; try (with_reducible rfl))
  try simp only [Act.put, List.setIfInBounds_toArray, List.set_cons_zero, List.set_cons_succ]
  refine take_yes (i := 2) (v := ?v2) rfl (by kernel_rfl) (by kernel_rfl) (by kernel_rfl) (fun _ _ _ h => h) (by rfl) (by assumption) ?hy2 ?rest2
  case hy2 => (intro w hSw; obtain ⟨p0, p1, p2, p3, p4, p5, p6⟩ := KS.out w hSw; go_simp; try (with_reducible rfl))
  try simp only [Act.put, List.setIfInBounds_toArray, List.set_cons_zero, List.set_cons_succ]
  refine ready_one (i := 3) rfl (by kernel_rfl) (fun K hK => ?_)
  go_simp
  refine (WA.out _ B0.out _).mono ?_
  rintro e wq ⟨rfl, rfl⟩
  refine hK.out _ _ hHeld (fun hHeld => ?_)
  clear hK K
  try simp only [Act.put, List.setIfInBounds_toArray, List.set_cons_zero, List.set_cons_succ]
  refine take_yes (i := 4) (v := ?v4) rfl (by kernel_rfl) (by kernel_rfl) (by kernel_rfl) (fun _ _ _ h => h) (by rfl) (by assumption) ?hy4 ?rest4
  case hy4 => (intro w hSw; obtain ⟨p0, p1, p2, p3, p4, p5, p6⟩ := KS.out w hSw; go_simp; try (with_reducible rfl))
  try simp only [Act.put, List.setIfInBounds_toArray, List.set_cons_zero, List.set_cons_succ]
  refine take_yes (i := 5) (v := ?v5) rfl (by kernel_rfl) (by kernel_rfl) (by kernel_rfl) (fun _ _ _ h => h) (by rfl) (by assumption) ?hy5 ?rest5
  case hy5 => (intro w hSw; obtain ⟨p0, p1, p2, p3, p4, p5, p6⟩ := KS.out w hSw; go_simp; try (with_reducible rfl))
  try simp only [Act.put, List.setIfInBounds_toArray, List.set_cons_zero, List.set_cons_succ]
  refine take_yes (i := 6) (v := ?v6) rfl (by kernel_rfl) (by kernel_rfl) (by kernel_rfl) (fun _ _ _ h => h) (by rfl) (by assumption) ?hy6 ?rest6
  case hy6 => (intro w hSw; obtain ⟨p0, p1, p2, p3, p4, p5, p6⟩ := KS.out w hSw; go_simp; try (with_reducible rfl))
  try simp only [Act.put, List.setIfInBounds_toArray, List.set_cons_zero, List.set_cons_succ]
  refine ready_one (i := 7) rfl (by kernel_rfl) (fun K hK => ?_)
  go_simp
  refine (WB.out _ B1.out _).mono ?_
  rintro e wq ⟨rfl, rfl⟩
  refine hK.out _ _ hHeld (fun hHeld => ?_)
  clear hK K
  try simp only [Act.put, List.setIfInBounds_toArray, List.set_cons_zero, List.set_cons_succ]
  refine take_yes (i := 8) (v := ?v8) rfl (by kernel_rfl) (by kernel_rfl) (by kernel_rfl) (fun _ _ _ h => h) (by rfl) (by assumption) ?hy8 ?rest8
  case hy8 => (intro w hSw; obtain ⟨p0, p1, p2, p3, p4, p5, p6⟩ := KS.out w hSw; go_simp; try (with_reducible rfl))
  try simp only [Act.put, List.setIfInBounds_toArray, List.set_cons_zero, List.set_cons_succ]
  refine take_yes (i := 9) (v := ?v9) rfl (by kernel_rfl) (by kernel_rfl) (by kernel_rfl) (fun _ _ _ h => h) (by rfl) (by assumption) ?hy9 ?rest9
  case hy9 => (intro w hSw; obtain ⟨p0, p1, p2, p3, p4, p5, p6⟩ := KS.out w hSw; go_simp; try (with_reducible rfl))
  try simp only [Act.put, List.setIfInBounds_toArray, List.set_cons_zero, List.set_cons_succ]
  refine take_yes (i := 10) (v := ?v10) rfl (by kernel_rfl) (by kernel_rfl) (by kernel_rfl) (fun _ _ _ h => h) (by rfl) (by assumption) ?hy10 ?rest10
  case hy10 => (intro w hSw; obtain ⟨p0, p1, p2, p3, p4, p5, p6⟩ := KS.out w hSw; go_simp; try (with_reducible rfl))
  try simp only [Act.put, List.setIfInBounds_toArray, List.set_cons_zero, List.set_cons_succ]
  refine take_yes (i := 11) (v := ?v11) rfl (by kernel_rfl) (by kernel_rfl) (by kernel_rfl) (fun _ _ _ h => h) (by rfl) (by assumption) ?hy11 ?rest11
  case hy11 => (intro w hSw; obtain ⟨p0, p1, p2, p3, p4, p5, p6⟩ := KS.out w hSw; go_simp; try (with_reducible rfl))
  try simp only [Act.put, List.setIfInBounds_toArray, List.set_cons_zero, List.set_cons_succ]
  refine take_yes (i := 12) (v := ?v12) rfl (by kernel_rfl) (by kernel_rfl) (by kernel_rfl) (fun _ _ _ h => h) (by rfl) (by assumption) ?hy12 ?rest12
  case hy12 => (intro w hSw; obtain ⟨p0, p1, p2, p3, p4, p5, p6⟩ := KS.out w hSw; go_simp; try (with_reducible rfl))
  try simp only [Act.put, List.setIfInBounds_toArray, List.set_cons_zero, List.set_cons_succ]
  refine take_yes (i := 13) (v := ?v13) rfl (by kernel_rfl) (by kernel_rfl) (by kernel_rfl) (fun _ _ _ h => h) (by rfl) (by assumption) ?hy13 ?rest13
  case hy13 => (intro w hSw; obtain ⟨p0, p1, p2, p3, p4, p5, p6⟩ := KS.out w hSw; go_simp; try (with_reducible rfl))
  try simp only [Act.put, List.setIfInBounds_toArray, List.set_cons_zero, List.set_cons_succ]
  refine ready_one (i := 14) rfl (by kernel_rfl) (fun K hK => ?_)
  go_simp
  refine (BEL.out _ _ hHeld).mono ?_
  rintro e wq ⟨g, rfl, hg, hbq2⟩
  refine hK.out _ _ hbq2 (fun hHeld => ?_)
  clear hK K
  try simp only [Act.put, List.setIfInBounds_toArray, List.set_cons_zero, List.set_cons_succ]
  refine ready_one (i := 15) rfl (by kernel_rfl) (fun K hK => ?_)
  go_simp
  refine (LC.out _ B2.out _ _ hHeld hg).mono ?_
  rintro e wq ⟨rfl, rfl⟩
  refine hK.out _ _ hHeld (fun hHeld => ?_)
  clear hK K
  try simp only [Act.put, List.setIfInBounds_toArray, List.set_cons_zero, List.set_cons_succ]
  clear hg
  refine take_yes (i := 16) (v := ?v16) rfl (by kernel_rfl) (by kernel_rfl) (by kernel_rfl) (fun _ _ _ h => h) (by rfl) (by assumption) ?hy16 ?rest16
  case hy16 => (intro w hSw; obtain ⟨p0, p1, p2, p3, p4, p5, p6⟩ := KS.out w hSw; go_simp; try (with_reducible rfl))
  try simp only [Act.put, List.setIfInBounds_toArray, List.set_cons_zero, List.set_cons_succ]
  refine take_yes (i := 17) (v := ?v17) rfl (by kernel_rfl) (by kernel_rfl) (by kernel_rfl) (fun _ _ _ h => h) (by rfl) (by assumption) ?hy17 ?rest17
  case hy17 => (intro w hSw; obtain ⟨p0, p1, p2, p3, p4, p5, p6⟩ := KS.out w hSw; go_simp; try (with_reducible rfl))
  try simp only [Act.put, List.setIfInBounds_toArray, List.set_cons_zero, List.set_cons_succ]
  refine take_yes (i := 18) (v := ?v18) rfl (by kernel_rfl) (by kernel_rfl) (by kernel_rfl) (fun _ _ _ h => h) (by rfl) (by assumption) ?hy18 ?rest18
  case hy18 => (intro w hSw; obtain ⟨p0, p1, p2, p3, p4, p5, p6⟩ := KS.out w hSw; go_simp; try (with_reducible rfl))
  try simp only [Act.put, List.setIfInBounds_toArray, List.set_cons_zero, List.set_cons_succ]
  refine take_yes (i := 19) (v := ?v19) rfl (by kernel_rfl) (by kernel_rfl) (by kernel_rfl) (fun _ _ _ h => h) (by rfl) (by assumption) ?hy19 ?rest19
  case hy19 => (intro w hSw; obtain ⟨p0, p1, p2, p3, p4, p5, p6⟩ := KS.out w hSw; go_simp; try (with_reducible rfl))
  try simp only [Act.put, List.setIfInBounds_toArray, List.set_cons_zero, List.set_cons_succ]
  refine ready_one (i := 20) rfl (by kernel_rfl) (fun K hK => ?_)
  go_simp
  refine (BEL.out _ _ hHeld).mono ?_
  rintro e wq ⟨g, rfl, hg, hbq2⟩
  refine hK.out _ _ hbq2 (fun hHeld => ?_)
  clear hK K
  try simp only [Act.put, List.setIfInBounds_toArray, List.set_cons_zero, List.set_cons_succ]
  refine ready_one (i := 21) rfl (by kernel_rfl) (fun K hK => ?_)
  go_simp
  refine (LS.out _ B3.out _ _ hHeld hg).mono ?_
  rintro e wq ⟨rfl, rfl⟩
  refine hK.out _ _ hHeld (fun hHeld => ?_)
  clear hK K
  try simp only [Act.put, List.setIfInBounds_toArray, List.set_cons_zero, List.set_cons_succ]
  clear hg
  refine take_yes (i := 22) (v := ?v22) rfl (by kernel_rfl) (by kernel_rfl) (by kernel_rfl) (fun _ _ _ h => h) (by rfl) (by assumption) ?hy22 ?rest22
  case hy22 => (intro w hSw; obtain ⟨p0, p1, p2, p3, p4, p5, p6⟩ := KS.out w hSw; go_simp; try (with_reducible rfl))
  try simp only [Act.put, List.setIfInBounds_toArray, List.set_cons_zero, List.set_cons_succ]
  refine take_yes (i := 23) (v := ?v23) rfl (by kernel_rfl) (by kernel_rfl) (by kernel_rfl) (fun _ _ _ h => h) (by rfl) (by assumption) ?hy23 ?rest23
  case hy23 => (intro w hSw; obtain ⟨p0, p1, p2, p3, p4, p5, p6⟩ := KS.out w hSw; go_simp; try (with_reducible rfl))
  try simp only [Act.put, List.setIfInBounds_toArray, List.set_cons_zero, List.set_cons_succ]
  refine take_yes (i := 24) (v := ?v24) rfl (by kernel_rfl) (by kernel_rfl) (by kernel_rfl) (fun _ _ _ h => h) (by rfl) (by assumption) ?hy24 ?rest24
  case hy24 => (intro w hSw; obtain ⟨p0, p1, p2, p3, p4, p5, p6⟩ := KS.out w hSw; go_simp; try (with_reducible rfl))
  try simp only [Act.put, List.setIfInBounds_toArray, List.set_cons_zero, List.set_cons_succ]
  refine take_yes (i := 25) (v := ?v25) rfl (by kernel_rfl) (by kernel_rfl) (by kernel_rfl) (fun _ _ _ h => h) (by rfl) (by assumption) ?hy25 ?rest25
  case hy25 => (intro w hSw; obtain ⟨p0, p1, p2, p3, p4, p5, p6⟩ := KS.out w hSw; go_simp; try (with_reducible rfl))
  try simp only [Act.put, List.setIfInBounds_toArray, List.set_cons_zero, List.set_cons_succ]
  refine ready_one (i := 26) rfl (by kernel_rfl) (fun K hK => ?_)
  go_simp
  refine (BEL.out _ _ hHeld).mono ?_
  rintro e wq ⟨g, rfl, hg, hbq2⟩
  refine hK.out _ _ hbq2 (fun hHeld => ?_)
  clear hK K
  try simp only [Act.put, List.setIfInBounds_toArray, List.set_cons_zero, List.set_cons_succ]
  refine ready_one (i := 27) rfl (by kernel_rfl) (fun K hK => ?_)
  go_simp
  refine (LH.out _ B4.out _ _ hHeld hg).mono ?_
  rintro e wq ⟨rfl, rfl⟩
  refine hK.out _ _ hHeld (fun hHeld => ?_)
  clear hK K
  try simp only [Act.put, List.setIfInBounds_toArray, List.set_cons_zero, List.set_cons_succ]
  clear hg
  refine take_yes (i := 28) (v := ?v28) rfl (by kernel_rfl) (by kernel_rfl) (by kernel_rfl) (fun _ _ _ h => h) (by rfl) (by assumption) ?hy28 ?rest28
  case hy28 => (intro w hSw; obtain ⟨p0, p1, p2, p3, p4, p5, p6⟩ := KS.out w hSw; go_simp; try (with_reducible rfl))
  try simp only [Act.put, List.setIfInBounds_toArray, List.set_cons_zero, List.set_cons_succ]
  refine take_yes (i := 29) (v := ?v29) rfl (by kernel_rfl) (by kernel_rfl) (by kernel_rfl) (fun _ _ _ h => h) (by rfl) (by assumption) ?hy29 ?rest29
  case hy29 => (intro w hSw; obtain ⟨p0, p1, p2, p3, p4, p5, p6⟩ := KS.out w hSw; go_simp; try (with_reducible rfl))
  try simp only [Act.put, List.setIfInBounds_toArray, List.set_cons_zero, List.set_cons_succ]
  refine take_no (i := 30) rfl (by kernel_rfl) (by kernel_rfl) (by kernel_rfl) (fun _ _ _ h => h) (by rfl) (by assumption) ?_
  try simp only [Act.put, List.setIfInBounds_toArray, List.set_cons_zero, List.set_cons_succ]
  refine take_no (i := 31) rfl (by kernel_rfl) (by kernel_rfl) (by kernel_rfl) (fun _ _ _ h => h) (by rfl) (by assumption) ?_
  try simp only [Act.put, List.setIfInBounds_toArray, List.set_cons_zero, List.set_cons_succ]
  refine take_yes (i := 32) (v := ?v32) rfl (by kernel_rfl) (by kernel_rfl) (by kernel_rfl) (fun _ _ _ h => h) (by rfl) (by assumption) ?hy32 ?rest32
  case hy32 => (intro w hSw; obtain ⟨p0, p1, p2, p3, p4, p5, p6⟩ := KS.out w hSw; go_simp; try (with_reducible rfl))
  try simp only [Act.put, List.setIfInBounds_toArray, List.set_cons_zero, List.set_cons_succ]
  refine take_yes (i := 33) (v := ?v33) rfl (by kernel_rfl) (by kernel_rfl) (by kernel_rfl) (fun _ _ _ h => h) (by rfl) (by assumption) ?hy33 ?rest33
  case hy33 => (intro w hSw; obtain ⟨p0, p1, p2, p3, p4, p5, p6⟩ := KS.out w hSw; go_simp; try (with_reducible rfl))
  try simp only [Act.put, List.setIfInBounds_toArray, List.set_cons_zero, List.set_cons_succ]
  refine take_no (i := 34) rfl (by kernel_rfl) (by kernel_rfl) (by kernel_rfl) (fun _ _ _ h => h) (by rfl) (by assumption) ?_
  try simp only [Act.put, List.setIfInBounds_toArray, List.set_cons_zero, List.set_cons_succ]
  refine take_no (i := 35) rfl (by kernel_rfl) (by kernel_rfl) (by kernel_rfl) (fun _ _ _ h => h) (by rfl) (by assumption) ?_
  try simp only [Act.put, List.setIfInBounds_toArray, List.set_cons_zero, List.set_cons_succ]
  refine take_no (i := 36) rfl (by kernel_rfl) (by kernel_rfl) (by kernel_rfl) (fun _ _ _ h => h) (by rfl) (by assumption) ?_
  try simp only [Act.put, List.setIfInBounds_toArray, List.set_cons_zero, List.set_cons_succ]
  refine take_yes (i := 37) (v := ?v37) rfl (by kernel_rfl) (by kernel_rfl) (by kernel_rfl) (fun _ _ _ h => h) (by rfl) (by assumption) ?hy37 ?rest37
  case hy37 => (intro w hSw; obtain ⟨p0, p1, p2, p3, p4, p5, p6⟩ := KS.out w hSw; go_simp; try (with_reducible rfl))
  try simp only [Act.put, List.setIfInBounds_toArray, List.set_cons_zero, List.set_cons_succ]
  refine take_yes (i := 38) (v := ?v38) rfl (by kernel_rfl) (by kernel_rfl) (by kernel_rfl) (fun _ _ _ h => h) (by rfl) (by assumption) ?hy38 ?rest38
  case hy38 => (intro w hSw; obtain ⟨p0, p1, p2, p3, p4, p5, p6⟩ := KS.out w hSw; go_simp; try (with_reducible rfl))
  try simp only [Act.put, List.setIfInBounds_toArray, List.set_cons_zero, List.set_cons_succ]
  refine take_no (i := 39) rfl (by kernel_rfl) (by kernel_rfl) (by kernel_rfl) (fun _ _ _ h => h) (by rfl) (by assumption) ?_
  try simp only [Act.put, List.setIfInBounds_toArray, List.set_cons_zero, List.set_cons_succ]
  refine take_no (i := 40) rfl (by kernel_rfl) (by kernel_rfl) (by kernel_rfl) (fun _ _ _ h => h) (by rfl) (by assumption) ?_
  try simp only [Act.put, List.setIfInBounds_toArray, List.set_cons_zero, List.set_cons_succ]
  refine take_yes (i := 41) (v := ?v41) rfl (by kernel_rfl) (by kernel_rfl) (by kernel_rfl) (fun _ _ _ h => h) (by rfl) (by assumption) ?hy41 ?rest41
  case hy41 => (intro w hSw; obtain ⟨p0, p1, p2, p3, p4, p5, p6⟩ := KS.out w hSw; go_simp; try (with_reducible rfl))
  try simp only [Act.put, List.setIfInBounds_toArray, List.set_cons_zero, List.set_cons_succ]
  refine take_yes (i := 42) (v := ?v42) rfl (by kernel_rfl) (by kernel_rfl) (by kernel_rfl) (fun _ _ _ h => h) (by rfl) (by assumption) ?hy42 ?rest42
  case hy42 => (intro w hSw; obtain ⟨p0, p1, p2, p3, p4, p5, p6⟩ := KS.out w hSw; go_simp; try (with_reducible rfl))
  try simp only [Act.put, List.setIfInBounds_toArray, List.set_cons_zero, List.set_cons_succ]
  refine wpAnyH_done (by kernel_rfl) ?_ _
  go_wp2_with fail
  go_ret
  exact ⟨rfl, H0.out.trans (hHeld.mono z0)⟩

set_option maxHeartbeats 40000000 in
set_option maxRecDepth 100000 in
theorem mayC_no5 (h : PH) (p : PV) (w : World) (B : Nat) (hr : RP w B h p) (hB : B ≤ w.heap.size) (hlen : Lens p) (b0 : withinB (p.funcs.length : Int) 1 16 = true) (b1 : withinB p.mutexes 0 8 = true) (b2 : listB p.conds p.mutexes = true) (b3 : listB p.semas 101 = true) (b4 : listB p.chans 9 = true) (b5 : choicesB p = false) :
    Calls Try.prog 10 #[.agg #[.slice h.fA p.funcs.length h.fc, .int .i64 p.mutexes, .slice h.cA p.conds.length h.cc, .slice h.sA p.semas.length h.sc, .slice h.hA p.chans.length h.hc, .slice h.xA p.choices.length h.xc, .int .i64 p.threads]] w
      fun e w' => e = .returned (.bool false) ∧ Below w.heap.size w w' := by
  obtain ⟨W0, hW0⟩ : ∃ W, W = w.alloc (.cells (PC h p) 26) := ⟨_, rfl⟩
  have h0 : Below w.heap.size w W0 := by rw [hW0]; exact (Below.refl _ _).alloc (Nat.le_refl _) _
  have hk : Blk W0 w.heap.size 26 (PC h p) := by rw [hW0]; exact Blk.new _ _ _
  have z0 := h0.size
  have zk := hk.lt
  have hrw : ∀ W, Below W0.heap.size W0 W → RP W B h p := fun W hW => hr.below ((h0.mono hB).trans (hW.mono (by omega)))
  have BEL : Hid (∀ n W, Below W0.heap.size W0 W → Calls Try.prog 36 #[.int .i64 n] W fun e w' => ∃ g, e = .returned (.func (.func 71) #[] #[.pointer (some ⟨g, 0, none⟩)]) ∧ Blk w' g 3 #[.int .i64 n] ∧ Below W0.heap.size W0 w') := fun n W hW =>
    (below_any n W).mono fun e w' ⟨he, hw⟩ => by subst hw; exact ⟨_, he, Blk.new W _ _, hW.alloc hW.size _⟩
  have WA : Hid (∀ (b : Bool), withinB (p.funcs.length : Int) 1 16 = b → ∀ (W : World), Calls Try.prog 34 #[.int .i64 (p.funcs.length : Int), .int .i64 1, .int .i64 16] W fun e w' => e = .returned (.bool b) ∧ W = w') := fun b hb W => (within_any _ _ _ W).mono fun e w' ⟨he, hw⟩ => ⟨by rw [he, hb], hw⟩
  have WB : Hid (∀ (b : Bool), withinB p.mutexes 0 8 = b → ∀ (W : World), Calls Try.prog 34 #[.int .i64 p.mutexes, .int .i64 0, .int .i64 8] W fun e w' => e = .returned (.bool b) ∧ W = w') := fun b hb W => (within_any _ _ _ W).mono fun e w' ⟨he, hw⟩ => ⟨by rw [he, hb], hw⟩
  have WT : Hid (∀ (b : Bool), withinB p.threads 1 32 = b → ∀ (W : World), Calls Try.prog 34 #[.int .i64 p.threads, .int .i64 1, .int .i64 32] W fun e w' => e = .returned (.bool b) ∧ W = w') := fun b hb W => (within_any _ _ _ W).mono fun e w' ⟨he, hw⟩ => ⟨by rw [he, hb], hw⟩
  have LC : Hid (∀ (b : Bool), listB p.conds p.mutexes = b → ∀ (W : World) (g : Nat), Below W0.heap.size W0 W → Blk W g 3 #[.int .i64 p.mutexes] → Calls Try.prog 35 #[.slice h.cA p.conds.length h.cc, .func (.func 71) #[] #[.pointer (some ⟨g, 0, none⟩)]] W fun e w' => e = .returned (.bool b) ∧ W = w') := fun b hb W g hW hg =>
    (mayList_any p.conds p.mutexes g W B _ _ _ (hrw W hW).conds (by have := hlen.conds; omega) hg).mono fun e w' ⟨he, hw⟩ => ⟨by rw [he, hb], hw⟩
  have LS : Hid (∀ (b : Bool), listB p.semas 101 = b → ∀ (W : World) (g : Nat), Below W0.heap.size W0 W → Blk W g 3 #[.int .i64 101] → Calls Try.prog 35 #[.slice h.sA p.semas.length h.sc, .func (.func 71) #[] #[.pointer (some ⟨g, 0, none⟩)]] W fun e w' => e = .returned (.bool b) ∧ W = w') := fun b hb W g hW hg =>
    (mayList_any p.semas 101 g W B _ _ _ (hrw W hW).semas (by have := hlen.semas; omega) hg).mono fun e w' ⟨he, hw⟩ => ⟨by rw [he, hb], hw⟩
  have LH : Hid (∀ (b : Bool), listB p.chans 9 = b → ∀ (W : World) (g : Nat), Below W0.heap.size W0 W → Blk W g 3 #[.int .i64 9] → Calls Try.prog 35 #[.slice h.hA p.chans.length h.hc, .func (.func 71) #[] #[.pointer (some ⟨g, 0, none⟩)]] W fun e w' => e = .returned (.bool b) ∧ W = w') := fun b hb W g hW hg =>
    (mayList_any p.chans 9 g W B _ _ _ (hrw W hW).chans (by have := hlen.chans; omega) hg).mono fun e w' ⟨he, hw⟩ => ⟨by rw [he, hb], hw⟩
  have MX : Hid (∀ (b : Bool), choicesB p = b → ∀ W, Below W0.heap.size W0 W → Calls Try.prog 37 #[.agg #[.slice h.fA p.funcs.length h.fc, .int .i64 p.mutexes, .slice h.cA p.conds.length h.cc, .slice h.sA p.semas.length h.sc, .slice h.hA p.chans.length h.hc, .slice h.xA p.choices.length h.xc, .int .i64 p.threads]] W fun e w' => e = .returned (.bool b) ∧ Below W0.heap.size W0 w') := fun b hb W hW =>
    (mayChoices_any h p W B (hrw W hW) (by have := hW.size; omega) hlen).mono fun e w' ⟨he, hq⟩ => ⟨by rw [he, hb], hW.trans (hq.mono hW.size)⟩
  have MF : Hid (∀ (b : Bool), p.funcs.all (funcC p) = b → ∀ W, Below W0.heap.size W0 W → Calls Try.prog 38 #[.agg #[.slice h.fA p.funcs.length h.fc, .int .i64 p.mutexes, .slice h.cA p.conds.length h.cc, .slice h.sA p.semas.length h.sc, .slice h.hA p.chans.length h.hc, .slice h.xA p.choices.length h.xc, .int .i64 p.threads]] W fun e w' => e = .returned (.bool b) ∧ Below W0.heap.size W0 w') := fun b hb W hW =>
    (mayFuncs_any h p W B (hrw W hW) (by have := hW.size; omega) hlen).mono fun e w' ⟨he, hq⟩ => ⟨by rw [he, hb], hW.trans (hq.mono hW.size)⟩
  obtain ⟨fA, fc, cA, cc, sA, sc, hA, hc, xA, xc⟩ := h
  simp only at LC LS LH MX MF
  have KS : Hid (∀ X, Below W0.heap.size W0 X → X.cell? ⟨w.heap.size, 0, none⟩ = some (.slice fA p.funcs.length fc) ∧ X.cell? ⟨w.heap.size, 1, none⟩ = some (.int .i64 p.mutexes) ∧ X.cell? ⟨w.heap.size, 2, none⟩ = some (.slice cA p.conds.length cc) ∧ X.cell? ⟨w.heap.size, 3, none⟩ = some (.slice sA p.semas.length sc) ∧ X.cell? ⟨w.heap.size, 4, none⟩ = some (.slice hA p.chans.length hc) ∧ X.cell? ⟨w.heap.size, 5, none⟩ = some (.slice xA p.choices.length xc) ∧ X.cell? ⟨w.heap.size, 6, none⟩ = some (.int .i64 p.threads)) := by
    intro X hX
    exact ⟨(hX.cell (p := ⟨w.heap.size, 0, none⟩) zk).trans ((hk.cell 0).trans rfl), (hX.cell (p := ⟨w.heap.size, 1, none⟩) zk).trans ((hk.cell 1).trans rfl), (hX.cell (p := ⟨w.heap.size, 2, none⟩) zk).trans ((hk.cell 2).trans rfl), (hX.cell (p := ⟨w.heap.size, 3, none⟩) zk).trans ((hk.cell 3).trans rfl), (hX.cell (p := ⟨w.heap.size, 4, none⟩) zk).trans ((hk.cell 4).trans rfl), (hX.cell (p := ⟨w.heap.size, 5, none⟩) zk).trans ((hk.cell 5).trans rfl), (hX.cell (p := ⟨w.heap.size, 6, none⟩) zk).trans ((hk.cell 6).trans rfl)⟩
  have HW : Hid (w.alloc (.cells #[.slice fA p.funcs.length fc, .int .i64 p.mutexes, .slice cA p.conds.length cc, .slice sA p.semas.length sc, .slice hA p.chans.length hc, .slice xA p.choices.length xc, .int .i64 p.threads] 26) = W0) := hW0.symm
  have H0 := Lib.hid h0
  have hbq : Below W0.heap.size W0 W0 := Below.refl _ _
  obtain ⟨p0, p1, p2, p3, p4, p5, p6⟩ := KS.out W0 hbq
  clear hW0 h0 hk hrw hr hlen
  go_enter Try.func10, Try.ntmps10
  have B0 := Lib.hid b0
  have B1 := Lib.hid b1
  have B2 := Lib.hid b2
  have B3 := Lib.hid b3
  have B4 := Lib.hid b4
  have B5 := Lib.hid b5
  clear b0 b1 b2 b3 b4 b5 p0 p1 p2 p3 p4 p5 p6
  go_upto_region 1 with fail
  rw [HW.out]
  refine wp_region_held_drew (S := fun w' => Below W0.heap.size W0 w') (by kernel_rfl) hbq.drew (fun hHeld => ?_)
  refine take_yes (i := 0) (v := ?v0) rfl (by kernel_rfl) (by kernel_rfl) (by kernel_rfl) (fun _ _ _ h => h) (by rfl) (by assumption) ?hy0 ?rest0
  case hy0 => (intro w hSw; obtain ⟨p0, p1, p2, p3, p4, p5, p6⟩ := KS.out w hSw; go_simp; try (with_reducible rfl))
  try simp only [Act.put, List.setIfInBounds_toArray, List.set_cons_zero, List.set_cons_succ]
  refine take_yes (i := 1) (v := ?v1) rfl (by kernel_rfl) (by kernel_rfl) (by kernel_rfl) (fun _ _ _ h => h) (by rfl) (by assumption) ?hy1 ?rest1
  case hy1 => (intro w hSw; obtain ⟨p0, p1, p2, p3, p4, p5, p6⟩ := KS.out w hSw; go_simp; try (with_reducible rfl))
  try simp only [Act.put, List.setIfInBounds_toArray, List.set_cons_zero, List.set_cons_succ]
  refine take_yes (i := 2) (v := ?v2) rfl (by kernel_rfl) (by kernel_rfl) (by kernel_rfl) (fun _ _ _ h => h) (by rfl) (by assumption) ?hy2 ?rest2
  case hy2 => (intro w hSw; obtain ⟨p0, p1, p2, p3, p4, p5, p6⟩ := KS.out w hSw; go_simp; try (with_reducible rfl))
  try simp only [Act.put, List.setIfInBounds_toArray, List.set_cons_zero, List.set_cons_succ]
  refine ready_one (i := 3) rfl (by kernel_rfl) (fun K hK => ?_)
  go_simp
  refine (WA.out _ B0.out _).mono ?_
  rintro e wq ⟨rfl, rfl⟩
  refine hK.out _ _ hHeld (fun hHeld => ?_)
  clear hK K
  try simp only [Act.put, List.setIfInBounds_toArray, List.set_cons_zero, List.set_cons_succ]
  refine take_yes (i := 4) (v := ?v4) rfl (by kernel_rfl) (by kernel_rfl) (by kernel_rfl) (fun _ _ _ h => h) (by rfl) (by assumption) ?hy4 ?rest4
  case hy4 => (intro w hSw; obtain ⟨p0, p1, p2, p3, p4, p5, p6⟩ := KS.out w hSw; go_simp; try (with_reducible rfl))
  try simp only [Act.put, List.setIfInBounds_toArray, List.set_cons_zero, List.set_cons_succ]
  refine take_yes (i := 5) (v := ?v5) rfl (by kernel_rfl) (by kernel_rfl) (by kernel_rfl) (fun _ _ _ h => h) (by rfl) (by assumption) ?hy5 ?rest5
  case hy5 => (intro w hSw; obtain ⟨p0, p1, p2, p3, p4, p5, p6⟩ := KS.out w hSw; go_simp; try (with_reducible rfl))
  try simp only [Act.put, List.setIfInBounds_toArray, List.set_cons_zero, List.set_cons_succ]
  refine take_yes (i := 6) (v := ?v6) rfl (by kernel_rfl) (by kernel_rfl) (by kernel_rfl) (fun _ _ _ h => h) (by rfl) (by assumption) ?hy6 ?rest6
  case hy6 => (intro w hSw; obtain ⟨p0, p1, p2, p3, p4, p5, p6⟩ := KS.out w hSw; go_simp; try (with_reducible rfl))
  try simp only [Act.put, List.setIfInBounds_toArray, List.set_cons_zero, List.set_cons_succ]
  refine ready_one (i := 7) rfl (by kernel_rfl) (fun K hK => ?_)
  go_simp
  refine (WB.out _ B1.out _).mono ?_
  rintro e wq ⟨rfl, rfl⟩
  refine hK.out _ _ hHeld (fun hHeld => ?_)
  clear hK K
  try simp only [Act.put, List.setIfInBounds_toArray, List.set_cons_zero, List.set_cons_succ]
  refine take_yes (i := 8) (v := ?v8) rfl (by kernel_rfl) (by kernel_rfl) (by kernel_rfl) (fun _ _ _ h => h) (by rfl) (by assumption) ?hy8 ?rest8
  case hy8 => (intro w hSw; obtain ⟨p0, p1, p2, p3, p4, p5, p6⟩ := KS.out w hSw; go_simp; try (with_reducible rfl))
  try simp only [Act.put, List.setIfInBounds_toArray, List.set_cons_zero, List.set_cons_succ]
  refine take_yes (i := 9) (v := ?v9) rfl (by kernel_rfl) (by kernel_rfl) (by kernel_rfl) (fun _ _ _ h => h) (by rfl) (by assumption) ?hy9 ?rest9
  case hy9 => (intro w hSw; obtain ⟨p0, p1, p2, p3, p4, p5, p6⟩ := KS.out w hSw; go_simp; try (with_reducible rfl))
  try simp only [Act.put, List.setIfInBounds_toArray, List.set_cons_zero, List.set_cons_succ]
  refine take_yes (i := 10) (v := ?v10) rfl (by kernel_rfl) (by kernel_rfl) (by kernel_rfl) (fun _ _ _ h => h) (by rfl) (by assumption) ?hy10 ?rest10
  case hy10 => (intro w hSw; obtain ⟨p0, p1, p2, p3, p4, p5, p6⟩ := KS.out w hSw; go_simp; try (with_reducible rfl))
  try simp only [Act.put, List.setIfInBounds_toArray, List.set_cons_zero, List.set_cons_succ]
  refine take_yes (i := 11) (v := ?v11) rfl (by kernel_rfl) (by kernel_rfl) (by kernel_rfl) (fun _ _ _ h => h) (by rfl) (by assumption) ?hy11 ?rest11
  case hy11 => (intro w hSw; obtain ⟨p0, p1, p2, p3, p4, p5, p6⟩ := KS.out w hSw; go_simp; try (with_reducible rfl))
  try simp only [Act.put, List.setIfInBounds_toArray, List.set_cons_zero, List.set_cons_succ]
  refine take_yes (i := 12) (v := ?v12) rfl (by kernel_rfl) (by kernel_rfl) (by kernel_rfl) (fun _ _ _ h => h) (by rfl) (by assumption) ?hy12 ?rest12
  case hy12 => (intro w hSw; obtain ⟨p0, p1, p2, p3, p4, p5, p6⟩ := KS.out w hSw; go_simp; try (with_reducible rfl))
  try simp only [Act.put, List.setIfInBounds_toArray, List.set_cons_zero, List.set_cons_succ]
  refine take_yes (i := 13) (v := ?v13) rfl (by kernel_rfl) (by kernel_rfl) (by kernel_rfl) (fun _ _ _ h => h) (by rfl) (by assumption) ?hy13 ?rest13
  case hy13 => (intro w hSw; obtain ⟨p0, p1, p2, p3, p4, p5, p6⟩ := KS.out w hSw; go_simp; try (with_reducible rfl))
  try simp only [Act.put, List.setIfInBounds_toArray, List.set_cons_zero, List.set_cons_succ]
  refine ready_one (i := 14) rfl (by kernel_rfl) (fun K hK => ?_)
  go_simp
  refine (BEL.out _ _ hHeld).mono ?_
  rintro e wq ⟨g, rfl, hg, hbq2⟩
  refine hK.out _ _ hbq2 (fun hHeld => ?_)
  clear hK K
  try simp only [Act.put, List.setIfInBounds_toArray, List.set_cons_zero, List.set_cons_succ]
  refine ready_one (i := 15) rfl (by kernel_rfl) (fun K hK => ?_)
  go_simp
  refine (LC.out _ B2.out _ _ hHeld hg).mono ?_
  rintro e wq ⟨rfl, rfl⟩
  refine hK.out _ _ hHeld (fun hHeld => ?_)
  clear hK K
  try simp only [Act.put, List.setIfInBounds_toArray, List.set_cons_zero, List.set_cons_succ]
  clear hg
  refine take_yes (i := 16) (v := ?v16) rfl (by kernel_rfl) (by kernel_rfl) (by kernel_rfl) (fun _ _ _ h => h) (by rfl) (by assumption) ?hy16 ?rest16
  case hy16 => (intro w hSw; obtain ⟨p0, p1, p2, p3, p4, p5, p6⟩ := KS.out w hSw; go_simp; try (with_reducible rfl))
  try simp only [Act.put, List.setIfInBounds_toArray, List.set_cons_zero, List.set_cons_succ]
  refine take_yes (i := 17) (v := ?v17) rfl (by kernel_rfl) (by kernel_rfl) (by kernel_rfl) (fun _ _ _ h => h) (by rfl) (by assumption) ?hy17 ?rest17
  case hy17 => (intro w hSw; obtain ⟨p0, p1, p2, p3, p4, p5, p6⟩ := KS.out w hSw; go_simp; try (with_reducible rfl))
  try simp only [Act.put, List.setIfInBounds_toArray, List.set_cons_zero, List.set_cons_succ]
  refine take_yes (i := 18) (v := ?v18) rfl (by kernel_rfl) (by kernel_rfl) (by kernel_rfl) (fun _ _ _ h => h) (by rfl) (by assumption) ?hy18 ?rest18
  case hy18 => (intro w hSw; obtain ⟨p0, p1, p2, p3, p4, p5, p6⟩ := KS.out w hSw; go_simp; try (with_reducible rfl))
  try simp only [Act.put, List.setIfInBounds_toArray, List.set_cons_zero, List.set_cons_succ]
  refine take_yes (i := 19) (v := ?v19) rfl (by kernel_rfl) (by kernel_rfl) (by kernel_rfl) (fun _ _ _ h => h) (by rfl) (by assumption) ?hy19 ?rest19
  case hy19 => (intro w hSw; obtain ⟨p0, p1, p2, p3, p4, p5, p6⟩ := KS.out w hSw; go_simp; try (with_reducible rfl))
  try simp only [Act.put, List.setIfInBounds_toArray, List.set_cons_zero, List.set_cons_succ]
  refine ready_one (i := 20) rfl (by kernel_rfl) (fun K hK => ?_)
  go_simp
  refine (BEL.out _ _ hHeld).mono ?_
  rintro e wq ⟨g, rfl, hg, hbq2⟩
  refine hK.out _ _ hbq2 (fun hHeld => ?_)
  clear hK K
  try simp only [Act.put, List.setIfInBounds_toArray, List.set_cons_zero, List.set_cons_succ]
  refine ready_one (i := 21) rfl (by kernel_rfl) (fun K hK => ?_)
  go_simp
  refine (LS.out _ B3.out _ _ hHeld hg).mono ?_
  rintro e wq ⟨rfl, rfl⟩
  refine hK.out _ _ hHeld (fun hHeld => ?_)
  clear hK K
  try simp only [Act.put, List.setIfInBounds_toArray, List.set_cons_zero, List.set_cons_succ]
  clear hg
  refine take_yes (i := 22) (v := ?v22) rfl (by kernel_rfl) (by kernel_rfl) (by kernel_rfl) (fun _ _ _ h => h) (by rfl) (by assumption) ?hy22 ?rest22
  case hy22 => (intro w hSw; obtain ⟨p0, p1, p2, p3, p4, p5, p6⟩ := KS.out w hSw; go_simp; try (with_reducible rfl))
  try simp only [Act.put, List.setIfInBounds_toArray, List.set_cons_zero, List.set_cons_succ]
  refine take_yes (i := 23) (v := ?v23) rfl (by kernel_rfl) (by kernel_rfl) (by kernel_rfl) (fun _ _ _ h => h) (by rfl) (by assumption) ?hy23 ?rest23
  case hy23 => (intro w hSw; obtain ⟨p0, p1, p2, p3, p4, p5, p6⟩ := KS.out w hSw; go_simp; try (with_reducible rfl))
  try simp only [Act.put, List.setIfInBounds_toArray, List.set_cons_zero, List.set_cons_succ]
  refine take_yes (i := 24) (v := ?v24) rfl (by kernel_rfl) (by kernel_rfl) (by kernel_rfl) (fun _ _ _ h => h) (by rfl) (by assumption) ?hy24 ?rest24
  case hy24 => (intro w hSw; obtain ⟨p0, p1, p2, p3, p4, p5, p6⟩ := KS.out w hSw; go_simp; try (with_reducible rfl))
  try simp only [Act.put, List.setIfInBounds_toArray, List.set_cons_zero, List.set_cons_succ]
  refine take_yes (i := 25) (v := ?v25) rfl (by kernel_rfl) (by kernel_rfl) (by kernel_rfl) (fun _ _ _ h => h) (by rfl) (by assumption) ?hy25 ?rest25
  case hy25 => (intro w hSw; obtain ⟨p0, p1, p2, p3, p4, p5, p6⟩ := KS.out w hSw; go_simp; try (with_reducible rfl))
  try simp only [Act.put, List.setIfInBounds_toArray, List.set_cons_zero, List.set_cons_succ]
  refine ready_one (i := 26) rfl (by kernel_rfl) (fun K hK => ?_)
  go_simp
  refine (BEL.out _ _ hHeld).mono ?_
  rintro e wq ⟨g, rfl, hg, hbq2⟩
  refine hK.out _ _ hbq2 (fun hHeld => ?_)
  clear hK K
  try simp only [Act.put, List.setIfInBounds_toArray, List.set_cons_zero, List.set_cons_succ]
  refine ready_one (i := 27) rfl (by kernel_rfl) (fun K hK => ?_)
  go_simp
  refine (LH.out _ B4.out _ _ hHeld hg).mono ?_
  rintro e wq ⟨rfl, rfl⟩
  refine hK.out _ _ hHeld (fun hHeld => ?_)
  clear hK K
  try simp only [Act.put, List.setIfInBounds_toArray, List.set_cons_zero, List.set_cons_succ]
  clear hg
  refine take_yes (i := 28) (v := ?v28) rfl (by kernel_rfl) (by kernel_rfl) (by kernel_rfl) (fun _ _ _ h => h) (by rfl) (by assumption) ?hy28 ?rest28
  case hy28 => (intro w hSw; obtain ⟨p0, p1, p2, p3, p4, p5, p6⟩ := KS.out w hSw; go_simp; try (with_reducible rfl))
  try simp only [Act.put, List.setIfInBounds_toArray, List.set_cons_zero, List.set_cons_succ]
  refine take_yes (i := 29) (v := ?v29) rfl (by kernel_rfl) (by kernel_rfl) (by kernel_rfl) (fun _ _ _ h => h) (by rfl) (by assumption) ?hy29 ?rest29
  case hy29 => (intro w hSw; obtain ⟨p0, p1, p2, p3, p4, p5, p6⟩ := KS.out w hSw; go_simp; try (with_reducible rfl))
  try simp only [Act.put, List.setIfInBounds_toArray, List.set_cons_zero, List.set_cons_succ]
  refine take_yes (i := 30) (v := ?v30) rfl (by kernel_rfl) (by kernel_rfl) (by kernel_rfl) (fun _ _ _ h => h) (by rfl) (by assumption) ?hy30 ?rest30
  case hy30 => (intro w hSw; obtain ⟨p0, p1, p2, p3, p4, p5, p6⟩ := KS.out w hSw; go_simp; try (with_reducible rfl))
  try simp only [Act.put, List.setIfInBounds_toArray, List.set_cons_zero, List.set_cons_succ]
  refine ready_one (i := 31) rfl (by kernel_rfl) (fun K hK => ?_)
  go_simp
  refine (MX.out _ B5.out _ hHeld).mono ?_
  rintro e wq ⟨rfl, hbq2⟩
  refine hK.out _ _ hbq2 (fun hHeld => ?_)
  clear hK K
  try simp only [Act.put, List.setIfInBounds_toArray, List.set_cons_zero, List.set_cons_succ]
  refine take_yes (i := 32) (v := ?v32) rfl (by kernel_rfl) (by kernel_rfl) (by kernel_rfl) (fun _ _ _ h => h) (by rfl) (by assumption) ?hy32 ?rest32
  case hy32 => (intro w hSw; obtain ⟨p0, p1, p2, p3, p4, p5, p6⟩ := KS.out w hSw; go_simp; try (with_reducible rfl))
  try simp only [Act.put, List.setIfInBounds_toArray, List.set_cons_zero, List.set_cons_succ]
  refine take_yes (i := 33) (v := ?v33) rfl (by kernel_rfl) (by kernel_rfl) (by kernel_rfl) (fun _ _ _ h => h) (by rfl) (by assumption) ?hy33 ?rest33
  case hy33 => (intro w hSw; obtain ⟨p0, p1, p2, p3, p4, p5, p6⟩ := KS.out w hSw; go_simp; try (with_reducible rfl))
  try simp only [Act.put, List.setIfInBounds_toArray, List.set_cons_zero, List.set_cons_succ]
  refine take_no (i := 34) rfl (by kernel_rfl) (by kernel_rfl) (by kernel_rfl) (fun _ _ _ h => h) (by rfl) (by assumption) ?_
  try simp only [Act.put, List.setIfInBounds_toArray, List.set_cons_zero, List.set_cons_succ]
  refine take_no (i := 35) rfl (by kernel_rfl) (by kernel_rfl) (by kernel_rfl) (fun _ _ _ h => h) (by rfl) (by assumption) ?_
  try simp only [Act.put, List.setIfInBounds_toArray, List.set_cons_zero, List.set_cons_succ]
  refine take_no (i := 36) rfl (by kernel_rfl) (by kernel_rfl) (by kernel_rfl) (fun _ _ _ h => h) (by rfl) (by assumption) ?_
  try simp only [Act.put, List.setIfInBounds_toArray, List.set_cons_zero, List.set_cons_succ]
  refine take_yes (i := 37) (v := ?v37) rfl (by kernel_rfl) (by kernel_rfl) (by kernel_rfl) (fun _ _ _ h => h) (by rfl) (by assumption) ?hy37 ?rest37
  case hy37 => (intro w hSw; obtain ⟨p0, p1, p2, p3, p4, p5, p6⟩ := KS.out w hSw; go_simp; try (with_reducible rfl))
  try simp only [Act.put, List.setIfInBounds_toArray, List.set_cons_zero, List.set_cons_succ]
  refine take_yes (i := 38) (v := ?v38) rfl (by kernel_rfl) (by kernel_rfl) (by kernel_rfl) (fun _ _ _ h => h) (by rfl) (by assumption) ?hy38 ?rest38
  case hy38 => (intro w hSw; obtain ⟨p0, p1, p2, p3, p4, p5, p6⟩ := KS.out w hSw; go_simp; try (with_reducible rfl))
  try simp only [Act.put, List.setIfInBounds_toArray, List.set_cons_zero, List.set_cons_succ]
  refine take_no (i := 39) rfl (by kernel_rfl) (by kernel_rfl) (by kernel_rfl) (fun _ _ _ h => h) (by rfl) (by assumption) ?_
  try simp only [Act.put, List.setIfInBounds_toArray, List.set_cons_zero, List.set_cons_succ]
  refine take_no (i := 40) rfl (by kernel_rfl) (by kernel_rfl) (by kernel_rfl) (fun _ _ _ h => h) (by rfl) (by assumption) ?_
  try simp only [Act.put, List.setIfInBounds_toArray, List.set_cons_zero, List.set_cons_succ]
  refine take_yes (i := 41) (v := ?v41) rfl (by kernel_rfl) (by kernel_rfl) (by kernel_rfl) (fun _ _ _ h => h) (by rfl) (by assumption) ?hy41 ?rest41
  case hy41 => (intro w hSw; obtain ⟨p0, p1, p2, p3, p4, p5, p6⟩ := KS.out w hSw; go_simp; try (with_reducible rfl))
  try simp only [Act.put, List.setIfInBounds_toArray, List.set_cons_zero, List.set_cons_succ]
  refine take_yes (i := 42) (v := ?v42) rfl (by kernel_rfl) (by kernel_rfl) (by kernel_rfl) (fun _ _ _ h => h) (by rfl) (by assumption) ?hy42 ?rest42
  case hy42 => (intro w hSw; obtain ⟨p0, p1, p2, p3, p4, p5, p6⟩ := KS.out w hSw; go_simp; try (with_reducible rfl))
  try simp only [Act.put, List.setIfInBounds_toArray, List.set_cons_zero, List.set_cons_succ]
  refine wpAnyH_done (by kernel_rfl) ?_ _
  go_wp2_with fail
  go_ret
  exact ⟨rfl, H0.out.trans (hHeld.mono z0)⟩

set_option maxHeartbeats 40000000 in
set_option maxRecDepth 100000 in
theorem mayC_no6 (h : PH) (p : PV) (w : World) (B : Nat) (hr : RP w B h p) (hB : B ≤ w.heap.size) (hlen : Lens p) (b0 : withinB (p.funcs.length : Int) 1 16 = true) (b1 : withinB p.mutexes 0 8 = true) (b2 : listB p.conds p.mutexes = true) (b3 : listB p.semas 101 = true) (b4 : listB p.chans 9 = true) (b5 : choicesB p = true) (b6 : withinB p.threads 1 32 = false) :
    Calls Try.prog 10 #[.agg #[.slice h.fA p.funcs.length h.fc, .int .i64 p.mutexes, .slice h.cA p.conds.length h.cc, .slice h.sA p.semas.length h.sc, .slice h.hA p.chans.length h.hc, .slice h.xA p.choices.length h.xc, .int .i64 p.threads]] w
      fun e w' => e = .returned (.bool false) ∧ Below w.heap.size w w' := by
  obtain ⟨W0, hW0⟩ : ∃ W, W = w.alloc (.cells (PC h p) 26) := ⟨_, rfl⟩
  have h0 : Below w.heap.size w W0 := by rw [hW0]; exact (Below.refl _ _).alloc (Nat.le_refl _) _
  have hk : Blk W0 w.heap.size 26 (PC h p) := by rw [hW0]; exact Blk.new _ _ _
  have z0 := h0.size
  have zk := hk.lt
  have hrw : ∀ W, Below W0.heap.size W0 W → RP W B h p := fun W hW => hr.below ((h0.mono hB).trans (hW.mono (by omega)))
  have BEL : Hid (∀ n W, Below W0.heap.size W0 W → Calls Try.prog 36 #[.int .i64 n] W fun e w' => ∃ g, e = .returned (.func (.func 71) #[] #[.pointer (some ⟨g, 0, none⟩)]) ∧ Blk w' g 3 #[.int .i64 n] ∧ Below W0.heap.size W0 w') := fun n W hW =>
    (below_any n W).mono fun e w' ⟨he, hw⟩ => by subst hw; exact ⟨_, he, Blk.new W _ _, hW.alloc hW.size _⟩
  have WA : Hid (∀ (b : Bool), withinB (p.funcs.length : Int) 1 16 = b → ∀ (W : World), Calls Try.prog 34 #[.int .i64 (p.funcs.length : Int), .int .i64 1, .int .i64 16] W fun e w' => e = .returned (.bool b) ∧ W = w') := fun b hb W => (within_any _ _ _ W).mono fun e w' ⟨he, hw⟩ => ⟨by rw [he, hb], hw⟩
  have WB : Hid (∀ (b : Bool), withinB p.mutexes 0 8 = b → ∀ (W : World), Calls Try.prog 34 #[.int .i64 p.mutexes, .int .i64 0, .int .i64 8] W fun e w' => e = .returned (.bool b) ∧ W = w') := fun b hb W => (within_any _ _ _ W).mono fun e w' ⟨he, hw⟩ => ⟨by rw [he, hb], hw⟩
  have WT : Hid (∀ (b : Bool), withinB p.threads 1 32 = b → ∀ (W : World), Calls Try.prog 34 #[.int .i64 p.threads, .int .i64 1, .int .i64 32] W fun e w' => e = .returned (.bool b) ∧ W = w') := fun b hb W => (within_any _ _ _ W).mono fun e w' ⟨he, hw⟩ => ⟨by rw [he, hb], hw⟩
  have LC : Hid (∀ (b : Bool), listB p.conds p.mutexes = b → ∀ (W : World) (g : Nat), Below W0.heap.size W0 W → Blk W g 3 #[.int .i64 p.mutexes] → Calls Try.prog 35 #[.slice h.cA p.conds.length h.cc, .func (.func 71) #[] #[.pointer (some ⟨g, 0, none⟩)]] W fun e w' => e = .returned (.bool b) ∧ W = w') := fun b hb W g hW hg =>
    (mayList_any p.conds p.mutexes g W B _ _ _ (hrw W hW).conds (by have := hlen.conds; omega) hg).mono fun e w' ⟨he, hw⟩ => ⟨by rw [he, hb], hw⟩
  have LS : Hid (∀ (b : Bool), listB p.semas 101 = b → ∀ (W : World) (g : Nat), Below W0.heap.size W0 W → Blk W g 3 #[.int .i64 101] → Calls Try.prog 35 #[.slice h.sA p.semas.length h.sc, .func (.func 71) #[] #[.pointer (some ⟨g, 0, none⟩)]] W fun e w' => e = .returned (.bool b) ∧ W = w') := fun b hb W g hW hg =>
    (mayList_any p.semas 101 g W B _ _ _ (hrw W hW).semas (by have := hlen.semas; omega) hg).mono fun e w' ⟨he, hw⟩ => ⟨by rw [he, hb], hw⟩
  have LH : Hid (∀ (b : Bool), listB p.chans 9 = b → ∀ (W : World) (g : Nat), Below W0.heap.size W0 W → Blk W g 3 #[.int .i64 9] → Calls Try.prog 35 #[.slice h.hA p.chans.length h.hc, .func (.func 71) #[] #[.pointer (some ⟨g, 0, none⟩)]] W fun e w' => e = .returned (.bool b) ∧ W = w') := fun b hb W g hW hg =>
    (mayList_any p.chans 9 g W B _ _ _ (hrw W hW).chans (by have := hlen.chans; omega) hg).mono fun e w' ⟨he, hw⟩ => ⟨by rw [he, hb], hw⟩
  have MX : Hid (∀ (b : Bool), choicesB p = b → ∀ W, Below W0.heap.size W0 W → Calls Try.prog 37 #[.agg #[.slice h.fA p.funcs.length h.fc, .int .i64 p.mutexes, .slice h.cA p.conds.length h.cc, .slice h.sA p.semas.length h.sc, .slice h.hA p.chans.length h.hc, .slice h.xA p.choices.length h.xc, .int .i64 p.threads]] W fun e w' => e = .returned (.bool b) ∧ Below W0.heap.size W0 w') := fun b hb W hW =>
    (mayChoices_any h p W B (hrw W hW) (by have := hW.size; omega) hlen).mono fun e w' ⟨he, hq⟩ => ⟨by rw [he, hb], hW.trans (hq.mono hW.size)⟩
  have MF : Hid (∀ (b : Bool), p.funcs.all (funcC p) = b → ∀ W, Below W0.heap.size W0 W → Calls Try.prog 38 #[.agg #[.slice h.fA p.funcs.length h.fc, .int .i64 p.mutexes, .slice h.cA p.conds.length h.cc, .slice h.sA p.semas.length h.sc, .slice h.hA p.chans.length h.hc, .slice h.xA p.choices.length h.xc, .int .i64 p.threads]] W fun e w' => e = .returned (.bool b) ∧ Below W0.heap.size W0 w') := fun b hb W hW =>
    (mayFuncs_any h p W B (hrw W hW) (by have := hW.size; omega) hlen).mono fun e w' ⟨he, hq⟩ => ⟨by rw [he, hb], hW.trans (hq.mono hW.size)⟩
  obtain ⟨fA, fc, cA, cc, sA, sc, hA, hc, xA, xc⟩ := h
  simp only at LC LS LH MX MF
  have KS : Hid (∀ X, Below W0.heap.size W0 X → X.cell? ⟨w.heap.size, 0, none⟩ = some (.slice fA p.funcs.length fc) ∧ X.cell? ⟨w.heap.size, 1, none⟩ = some (.int .i64 p.mutexes) ∧ X.cell? ⟨w.heap.size, 2, none⟩ = some (.slice cA p.conds.length cc) ∧ X.cell? ⟨w.heap.size, 3, none⟩ = some (.slice sA p.semas.length sc) ∧ X.cell? ⟨w.heap.size, 4, none⟩ = some (.slice hA p.chans.length hc) ∧ X.cell? ⟨w.heap.size, 5, none⟩ = some (.slice xA p.choices.length xc) ∧ X.cell? ⟨w.heap.size, 6, none⟩ = some (.int .i64 p.threads)) := by
    intro X hX
    exact ⟨(hX.cell (p := ⟨w.heap.size, 0, none⟩) zk).trans ((hk.cell 0).trans rfl), (hX.cell (p := ⟨w.heap.size, 1, none⟩) zk).trans ((hk.cell 1).trans rfl), (hX.cell (p := ⟨w.heap.size, 2, none⟩) zk).trans ((hk.cell 2).trans rfl), (hX.cell (p := ⟨w.heap.size, 3, none⟩) zk).trans ((hk.cell 3).trans rfl), (hX.cell (p := ⟨w.heap.size, 4, none⟩) zk).trans ((hk.cell 4).trans rfl), (hX.cell (p := ⟨w.heap.size, 5, none⟩) zk).trans ((hk.cell 5).trans rfl), (hX.cell (p := ⟨w.heap.size, 6, none⟩) zk).trans ((hk.cell 6).trans rfl)⟩
  have HW : Hid (w.alloc (.cells #[.slice fA p.funcs.length fc, .int .i64 p.mutexes, .slice cA p.conds.length cc, .slice sA p.semas.length sc, .slice hA p.chans.length hc, .slice xA p.choices.length xc, .int .i64 p.threads] 26) = W0) := hW0.symm
  have H0 := Lib.hid h0
  have hbq : Below W0.heap.size W0 W0 := Below.refl _ _
  obtain ⟨p0, p1, p2, p3, p4, p5, p6⟩ := KS.out W0 hbq
  clear hW0 h0 hk hrw hr hlen
  go_enter Try.func10, Try.ntmps10
  have B0 := Lib.hid b0
  have B1 := Lib.hid b1
  have B2 := Lib.hid b2
  have B3 := Lib.hid b3
  have B4 := Lib.hid b4
  have B5 := Lib.hid b5
  have B6 := Lib.hid b6
  clear b0 b1 b2 b3 b4 b5 b6 p0 p1 p2 p3 p4 p5 p6
  go_upto_region 1 with fail
  rw [HW.out]
  refine wp_region_held_drew (S := fun w' => Below W0.heap.size W0 w') (by kernel_rfl) hbq.drew (fun hHeld => ?_)
  refine take_yes (i := 0) (v := ?v0) rfl (by kernel_rfl) (by kernel_rfl) (by kernel_rfl) (fun _ _ _ h => h) (by rfl) (by assumption) ?hy0 ?rest0
  case hy0 => (intro w hSw; obtain ⟨p0, p1, p2, p3, p4, p5, p6⟩ := KS.out w hSw; go_simp; try (with_reducible rfl))
  try simp only [Act.put, List.setIfInBounds_toArray, List.set_cons_zero, List.set_cons_succ]
  refine take_yes (i := 1) (v := ?v1) rfl (by kernel_rfl) (by kernel_rfl) (by kernel_rfl) (fun _ _ _ h => h) (by rfl) (by assumption) ?hy1 ?rest1
  case hy1 => (intro w hSw; obtain ⟨p0, p1, p2, p3, p4, p5, p6⟩ := KS.out w hSw; go_simp; try (with_reducible rfl))
  try simp only [Act.put, List.setIfInBounds_toArray, List.set_cons_zero, List.set_cons_succ]
  refine take_yes (i := 2) (v := ?v2) rfl (by kernel_rfl) (by kernel_rfl) (by kernel_rfl) (fun _ _ _ h => h) (by rfl) (by assumption) ?hy2 ?rest2
  case hy2 => (intro w hSw; obtain ⟨p0, p1, p2, p3, p4, p5, p6⟩ := KS.out w hSw; go_simp; try (with_reducible rfl))
  try simp only [Act.put, List.setIfInBounds_toArray, List.set_cons_zero, List.set_cons_succ]
  refine ready_one (i := 3) rfl (by kernel_rfl) (fun K hK => ?_)
  go_simp
  refine (WA.out _ B0.out _).mono ?_
  rintro e wq ⟨rfl, rfl⟩
  refine hK.out _ _ hHeld (fun hHeld => ?_)
  clear hK K
  try simp only [Act.put, List.setIfInBounds_toArray, List.set_cons_zero, List.set_cons_succ]
  refine take_yes (i := 4) (v := ?v4) rfl (by kernel_rfl) (by kernel_rfl) (by kernel_rfl) (fun _ _ _ h => h) (by rfl) (by assumption) ?hy4 ?rest4
  case hy4 => (intro w hSw; obtain ⟨p0, p1, p2, p3, p4, p5, p6⟩ := KS.out w hSw; go_simp; try (with_reducible rfl))
  try simp only [Act.put, List.setIfInBounds_toArray, List.set_cons_zero, List.set_cons_succ]
  refine take_yes (i := 5) (v := ?v5) rfl (by kernel_rfl) (by kernel_rfl) (by kernel_rfl) (fun _ _ _ h => h) (by rfl) (by assumption) ?hy5 ?rest5
  case hy5 => (intro w hSw; obtain ⟨p0, p1, p2, p3, p4, p5, p6⟩ := KS.out w hSw; go_simp; try (with_reducible rfl))
  try simp only [Act.put, List.setIfInBounds_toArray, List.set_cons_zero, List.set_cons_succ]
  refine take_yes (i := 6) (v := ?v6) rfl (by kernel_rfl) (by kernel_rfl) (by kernel_rfl) (fun _ _ _ h => h) (by rfl) (by assumption) ?hy6 ?rest6
  case hy6 => (intro w hSw; obtain ⟨p0, p1, p2, p3, p4, p5, p6⟩ := KS.out w hSw; go_simp; try (with_reducible rfl))
  try simp only [Act.put, List.setIfInBounds_toArray, List.set_cons_zero, List.set_cons_succ]
  refine ready_one (i := 7) rfl (by kernel_rfl) (fun K hK => ?_)
  go_simp
  refine (WB.out _ B1.out _).mono ?_
  rintro e wq ⟨rfl, rfl⟩
  refine hK.out _ _ hHeld (fun hHeld => ?_)
  clear hK K
  try simp only [Act.put, List.setIfInBounds_toArray, List.set_cons_zero, List.set_cons_succ]
  refine take_yes (i := 8) (v := ?v8) rfl (by kernel_rfl) (by kernel_rfl) (by kernel_rfl) (fun _ _ _ h => h) (by rfl) (by assumption) ?hy8 ?rest8
  case hy8 => (intro w hSw; obtain ⟨p0, p1, p2, p3, p4, p5, p6⟩ := KS.out w hSw; go_simp; try (with_reducible rfl))
  try simp only [Act.put, List.setIfInBounds_toArray, List.set_cons_zero, List.set_cons_succ]
  refine take_yes (i := 9) (v := ?v9) rfl (by kernel_rfl) (by kernel_rfl) (by kernel_rfl) (fun _ _ _ h => h) (by rfl) (by assumption) ?hy9 ?rest9
  case hy9 => (intro w hSw; obtain ⟨p0, p1, p2, p3, p4, p5, p6⟩ := KS.out w hSw; go_simp; try (with_reducible rfl))
  try simp only [Act.put, List.setIfInBounds_toArray, List.set_cons_zero, List.set_cons_succ]
  refine take_yes (i := 10) (v := ?v10) rfl (by kernel_rfl) (by kernel_rfl) (by kernel_rfl) (fun _ _ _ h => h) (by rfl) (by assumption) ?hy10 ?rest10
  case hy10 => (intro w hSw; obtain ⟨p0, p1, p2, p3, p4, p5, p6⟩ := KS.out w hSw; go_simp; try (with_reducible rfl))
  try simp only [Act.put, List.setIfInBounds_toArray, List.set_cons_zero, List.set_cons_succ]
  refine take_yes (i := 11) (v := ?v11) rfl (by kernel_rfl) (by kernel_rfl) (by kernel_rfl) (fun _ _ _ h => h) (by rfl) (by assumption) ?hy11 ?rest11
  case hy11 => (intro w hSw; obtain ⟨p0, p1, p2, p3, p4, p5, p6⟩ := KS.out w hSw; go_simp; try (with_reducible rfl))
  try simp only [Act.put, List.setIfInBounds_toArray, List.set_cons_zero, List.set_cons_succ]
  refine take_yes (i := 12) (v := ?v12) rfl (by kernel_rfl) (by kernel_rfl) (by kernel_rfl) (fun _ _ _ h => h) (by rfl) (by assumption) ?hy12 ?rest12
  case hy12 => (intro w hSw; obtain ⟨p0, p1, p2, p3, p4, p5, p6⟩ := KS.out w hSw; go_simp; try (with_reducible rfl))
  try simp only [Act.put, List.setIfInBounds_toArray, List.set_cons_zero, List.set_cons_succ]
  refine take_yes (i := 13) (v := ?v13) rfl (by kernel_rfl) (by kernel_rfl) (by kernel_rfl) (fun _ _ _ h => h) (by rfl) (by assumption) ?hy13 ?rest13
  case hy13 => (intro w hSw; obtain ⟨p0, p1, p2, p3, p4, p5, p6⟩ := KS.out w hSw; go_simp; try (with_reducible rfl))
  try simp only [Act.put, List.setIfInBounds_toArray, List.set_cons_zero, List.set_cons_succ]
  refine ready_one (i := 14) rfl (by kernel_rfl) (fun K hK => ?_)
  go_simp
  refine (BEL.out _ _ hHeld).mono ?_
  rintro e wq ⟨g, rfl, hg, hbq2⟩
  refine hK.out _ _ hbq2 (fun hHeld => ?_)
  clear hK K
  try simp only [Act.put, List.setIfInBounds_toArray, List.set_cons_zero, List.set_cons_succ]
  refine ready_one (i := 15) rfl (by kernel_rfl) (fun K hK => ?_)
  go_simp
  refine (LC.out _ B2.out _ _ hHeld hg).mono ?_
  rintro e wq ⟨rfl, rfl⟩
  refine hK.out _ _ hHeld (fun hHeld => ?_)
  clear hK K
  try simp only [Act.put, List.setIfInBounds_toArray, List.set_cons_zero, List.set_cons_succ]
  clear hg
  refine take_yes (i := 16) (v := ?v16) rfl (by kernel_rfl) (by kernel_rfl) (by kernel_rfl) (fun _ _ _ h => h) (by rfl) (by assumption) ?hy16 ?rest16
  case hy16 => (intro w hSw; obtain ⟨p0, p1, p2, p3, p4, p5, p6⟩ := KS.out w hSw; go_simp; try (with_reducible rfl))
  try simp only [Act.put, List.setIfInBounds_toArray, List.set_cons_zero, List.set_cons_succ]
  refine take_yes (i := 17) (v := ?v17) rfl (by kernel_rfl) (by kernel_rfl) (by kernel_rfl) (fun _ _ _ h => h) (by rfl) (by assumption) ?hy17 ?rest17
  case hy17 => (intro w hSw; obtain ⟨p0, p1, p2, p3, p4, p5, p6⟩ := KS.out w hSw; go_simp; try (with_reducible rfl))
  try simp only [Act.put, List.setIfInBounds_toArray, List.set_cons_zero, List.set_cons_succ]
  refine take_yes (i := 18) (v := ?v18) rfl (by kernel_rfl) (by kernel_rfl) (by kernel_rfl) (fun _ _ _ h => h) (by rfl) (by assumption) ?hy18 ?rest18
  case hy18 => (intro w hSw; obtain ⟨p0, p1, p2, p3, p4, p5, p6⟩ := KS.out w hSw; go_simp; try (with_reducible rfl))
  try simp only [Act.put, List.setIfInBounds_toArray, List.set_cons_zero, List.set_cons_succ]
  refine take_yes (i := 19) (v := ?v19) rfl (by kernel_rfl) (by kernel_rfl) (by kernel_rfl) (fun _ _ _ h => h) (by rfl) (by assumption) ?hy19 ?rest19
  case hy19 => (intro w hSw; obtain ⟨p0, p1, p2, p3, p4, p5, p6⟩ := KS.out w hSw; go_simp; try (with_reducible rfl))
  try simp only [Act.put, List.setIfInBounds_toArray, List.set_cons_zero, List.set_cons_succ]
  refine ready_one (i := 20) rfl (by kernel_rfl) (fun K hK => ?_)
  go_simp
  refine (BEL.out _ _ hHeld).mono ?_
  rintro e wq ⟨g, rfl, hg, hbq2⟩
  refine hK.out _ _ hbq2 (fun hHeld => ?_)
  clear hK K
  try simp only [Act.put, List.setIfInBounds_toArray, List.set_cons_zero, List.set_cons_succ]
  refine ready_one (i := 21) rfl (by kernel_rfl) (fun K hK => ?_)
  go_simp
  refine (LS.out _ B3.out _ _ hHeld hg).mono ?_
  rintro e wq ⟨rfl, rfl⟩
  refine hK.out _ _ hHeld (fun hHeld => ?_)
  clear hK K
  try simp only [Act.put, List.setIfInBounds_toArray, List.set_cons_zero, List.set_cons_succ]
  clear hg
  refine take_yes (i := 22) (v := ?v22) rfl (by kernel_rfl) (by kernel_rfl) (by kernel_rfl) (fun _ _ _ h => h) (by rfl) (by assumption) ?hy22 ?rest22
  case hy22 => (intro w hSw; obtain ⟨p0, p1, p2, p3, p4, p5, p6⟩ := KS.out w hSw; go_simp; try (with_reducible rfl))
  try simp only [Act.put, List.setIfInBounds_toArray, List.set_cons_zero, List.set_cons_succ]
  refine take_yes (i := 23) (v := ?v23) rfl (by kernel_rfl) (by kernel_rfl) (by kernel_rfl) (fun _ _ _ h => h) (by rfl) (by assumption) ?hy23 ?rest23
  case hy23 => (intro w hSw; obtain ⟨p0, p1, p2, p3, p4, p5, p6⟩ := KS.out w hSw; go_simp; try (with_reducible rfl))
  try simp only [Act.put, List.setIfInBounds_toArray, List.set_cons_zero, List.set_cons_succ]
  refine take_yes (i := 24) (v := ?v24) rfl (by kernel_rfl) (by kernel_rfl) (by kernel_rfl) (fun _ _ _ h => h) (by rfl) (by assumption) ?hy24 ?rest24
  case hy24 => (intro w hSw; obtain ⟨p0, p1, p2, p3, p4, p5, p6⟩ := KS.out w hSw; go_simp; try (with_reducible rfl))
  try simp only [Act.put, List.setIfInBounds_toArray, List.set_cons_zero, List.set_cons_succ]
  refine take_yes (i := 25) (v := ?v25) rfl (by kernel_rfl) (by kernel_rfl) (by kernel_rfl) (fun _ _ _ h => h) (by rfl) (by assumption) ?hy25 ?rest25
  case hy25 => (intro w hSw; obtain ⟨p0, p1, p2, p3, p4, p5, p6⟩ := KS.out w hSw; go_simp; try (with_reducible rfl))
  try simp only [Act.put, List.setIfInBounds_toArray, List.set_cons_zero, List.set_cons_succ]
  refine ready_one (i := 26) rfl (by kernel_rfl) (fun K hK => ?_)
  go_simp
  refine (BEL.out _ _ hHeld).mono ?_
  rintro e wq ⟨g, rfl, hg, hbq2⟩
  refine hK.out _ _ hbq2 (fun hHeld => ?_)
  clear hK K
  try simp only [Act.put, List.setIfInBounds_toArray, List.set_cons_zero, List.set_cons_succ]
  refine ready_one (i := 27) rfl (by kernel_rfl) (fun K hK => ?_)
  go_simp
  refine (LH.out _ B4.out _ _ hHeld hg).mono ?_
  rintro e wq ⟨rfl, rfl⟩
  refine hK.out _ _ hHeld (fun hHeld => ?_)
  clear hK K
  try simp only [Act.put, List.setIfInBounds_toArray, List.set_cons_zero, List.set_cons_succ]
  clear hg
  refine take_yes (i := 28) (v := ?v28) rfl (by kernel_rfl) (by kernel_rfl) (by kernel_rfl) (fun _ _ _ h => h) (by rfl) (by assumption) ?hy28 ?rest28
  case hy28 => (intro w hSw; obtain ⟨p0, p1, p2, p3, p4, p5, p6⟩ := KS.out w hSw; go_simp; try (with_reducible rfl))
  try simp only [Act.put, List.setIfInBounds_toArray, List.set_cons_zero, List.set_cons_succ]
  refine take_yes (i := 29) (v := ?v29) rfl (by kernel_rfl) (by kernel_rfl) (by kernel_rfl) (fun _ _ _ h => h) (by rfl) (by assumption) ?hy29 ?rest29
  case hy29 => (intro w hSw; obtain ⟨p0, p1, p2, p3, p4, p5, p6⟩ := KS.out w hSw; go_simp; try (with_reducible rfl))
  try simp only [Act.put, List.setIfInBounds_toArray, List.set_cons_zero, List.set_cons_succ]
  refine take_yes (i := 30) (v := ?v30) rfl (by kernel_rfl) (by kernel_rfl) (by kernel_rfl) (fun _ _ _ h => h) (by rfl) (by assumption) ?hy30 ?rest30
  case hy30 => (intro w hSw; obtain ⟨p0, p1, p2, p3, p4, p5, p6⟩ := KS.out w hSw; go_simp; try (with_reducible rfl))
  try simp only [Act.put, List.setIfInBounds_toArray, List.set_cons_zero, List.set_cons_succ]
  refine ready_one (i := 31) rfl (by kernel_rfl) (fun K hK => ?_)
  go_simp
  refine (MX.out _ B5.out _ hHeld).mono ?_
  rintro e wq ⟨rfl, hbq2⟩
  refine hK.out _ _ hbq2 (fun hHeld => ?_)
  clear hK K
  try simp only [Act.put, List.setIfInBounds_toArray, List.set_cons_zero, List.set_cons_succ]
  refine take_yes (i := 32) (v := ?v32) rfl (by kernel_rfl) (by kernel_rfl) (by kernel_rfl) (fun _ _ _ h => h) (by rfl) (by assumption) ?hy32 ?rest32
  case hy32 => (intro w hSw; obtain ⟨p0, p1, p2, p3, p4, p5, p6⟩ := KS.out w hSw; go_simp; try (with_reducible rfl))
  try simp only [Act.put, List.setIfInBounds_toArray, List.set_cons_zero, List.set_cons_succ]
  refine take_yes (i := 33) (v := ?v33) rfl (by kernel_rfl) (by kernel_rfl) (by kernel_rfl) (fun _ _ _ h => h) (by rfl) (by assumption) ?hy33 ?rest33
  case hy33 => (intro w hSw; obtain ⟨p0, p1, p2, p3, p4, p5, p6⟩ := KS.out w hSw; go_simp; try (with_reducible rfl))
  try simp only [Act.put, List.setIfInBounds_toArray, List.set_cons_zero, List.set_cons_succ]
  refine take_yes (i := 34) (v := ?v34) rfl (by kernel_rfl) (by kernel_rfl) (by kernel_rfl) (fun _ _ _ h => h) (by rfl) (by assumption) ?hy34 ?rest34
  case hy34 => (intro w hSw; obtain ⟨p0, p1, p2, p3, p4, p5, p6⟩ := KS.out w hSw; go_simp; try (with_reducible rfl))
  try simp only [Act.put, List.setIfInBounds_toArray, List.set_cons_zero, List.set_cons_succ]
  refine take_yes (i := 35) (v := ?v35) rfl (by kernel_rfl) (by kernel_rfl) (by kernel_rfl) (fun _ _ _ h => h) (by rfl) (by assumption) ?hy35 ?rest35
  case hy35 => (intro w hSw; obtain ⟨p0, p1, p2, p3, p4, p5, p6⟩ := KS.out w hSw; go_simp; try (with_reducible rfl))
  try simp only [Act.put, List.setIfInBounds_toArray, List.set_cons_zero, List.set_cons_succ]
  refine ready_one (i := 36) rfl (by kernel_rfl) (fun K hK => ?_)
  go_simp
  refine (WT.out _ B6.out _).mono ?_
  rintro e wq ⟨rfl, rfl⟩
  refine hK.out _ _ hHeld (fun hHeld => ?_)
  clear hK K
  try simp only [Act.put, List.setIfInBounds_toArray, List.set_cons_zero, List.set_cons_succ]
  refine take_yes (i := 37) (v := ?v37) rfl (by kernel_rfl) (by kernel_rfl) (by kernel_rfl) (fun _ _ _ h => h) (by rfl) (by assumption) ?hy37 ?rest37
  case hy37 => (intro w hSw; obtain ⟨p0, p1, p2, p3, p4, p5, p6⟩ := KS.out w hSw; go_simp; try (with_reducible rfl))
  try simp only [Act.put, List.setIfInBounds_toArray, List.set_cons_zero, List.set_cons_succ]
  refine take_yes (i := 38) (v := ?v38) rfl (by kernel_rfl) (by kernel_rfl) (by kernel_rfl) (fun _ _ _ h => h) (by rfl) (by assumption) ?hy38 ?rest38
  case hy38 => (intro w hSw; obtain ⟨p0, p1, p2, p3, p4, p5, p6⟩ := KS.out w hSw; go_simp; try (with_reducible rfl))
  try simp only [Act.put, List.setIfInBounds_toArray, List.set_cons_zero, List.set_cons_succ]
  refine take_no (i := 39) rfl (by kernel_rfl) (by kernel_rfl) (by kernel_rfl) (fun _ _ _ h => h) (by rfl) (by assumption) ?_
  try simp only [Act.put, List.setIfInBounds_toArray, List.set_cons_zero, List.set_cons_succ]
  refine take_no (i := 40) rfl (by kernel_rfl) (by kernel_rfl) (by kernel_rfl) (fun _ _ _ h => h) (by rfl) (by assumption) ?_
  try simp only [Act.put, List.setIfInBounds_toArray, List.set_cons_zero, List.set_cons_succ]
  refine take_yes (i := 41) (v := ?v41) rfl (by kernel_rfl) (by kernel_rfl) (by kernel_rfl) (fun _ _ _ h => h) (by rfl) (by assumption) ?hy41 ?rest41
  case hy41 => (intro w hSw; obtain ⟨p0, p1, p2, p3, p4, p5, p6⟩ := KS.out w hSw; go_simp; try (with_reducible rfl))
  try simp only [Act.put, List.setIfInBounds_toArray, List.set_cons_zero, List.set_cons_succ]
  refine take_yes (i := 42) (v := ?v42) rfl (by kernel_rfl) (by kernel_rfl) (by kernel_rfl) (fun _ _ _ h => h) (by rfl) (by assumption) ?hy42 ?rest42
  case hy42 => (intro w hSw; obtain ⟨p0, p1, p2, p3, p4, p5, p6⟩ := KS.out w hSw; go_simp; try (with_reducible rfl))
  try simp only [Act.put, List.setIfInBounds_toArray, List.set_cons_zero, List.set_cons_succ]
  refine wpAnyH_done (by kernel_rfl) ?_ _
  go_wp2_with fail
  go_ret
  exact ⟨rfl, H0.out.trans (hHeld.mono z0)⟩

set_option maxHeartbeats 40000000 in
set_option maxRecDepth 100000 in
theorem mayC_no7 (h : PH) (p : PV) (w : World) (B : Nat) (hr : RP w B h p) (hB : B ≤ w.heap.size) (hlen : Lens p) (b0 : withinB (p.funcs.length : Int) 1 16 = true) (b1 : withinB p.mutexes 0 8 = true) (b2 : listB p.conds p.mutexes = true) (b3 : listB p.semas 101 = true) (b4 : listB p.chans 9 = true) (b5 : choicesB p = true) (b6 : withinB p.threads 1 32 = true) (b7 : p.funcs.all (funcC p) = false) :
    Calls Try.prog 10 #[.agg #[.slice h.fA p.funcs.length h.fc, .int .i64 p.mutexes, .slice h.cA p.conds.length h.cc, .slice h.sA p.semas.length h.sc, .slice h.hA p.chans.length h.hc, .slice h.xA p.choices.length h.xc, .int .i64 p.threads]] w
      fun e w' => e = .returned (.bool false) ∧ Below w.heap.size w w' := by
  obtain ⟨W0, hW0⟩ : ∃ W, W = w.alloc (.cells (PC h p) 26) := ⟨_, rfl⟩
  have h0 : Below w.heap.size w W0 := by rw [hW0]; exact (Below.refl _ _).alloc (Nat.le_refl _) _
  have hk : Blk W0 w.heap.size 26 (PC h p) := by rw [hW0]; exact Blk.new _ _ _
  have z0 := h0.size
  have zk := hk.lt
  have hrw : ∀ W, Below W0.heap.size W0 W → RP W B h p := fun W hW => hr.below ((h0.mono hB).trans (hW.mono (by omega)))
  have BEL : Hid (∀ n W, Below W0.heap.size W0 W → Calls Try.prog 36 #[.int .i64 n] W fun e w' => ∃ g, e = .returned (.func (.func 71) #[] #[.pointer (some ⟨g, 0, none⟩)]) ∧ Blk w' g 3 #[.int .i64 n] ∧ Below W0.heap.size W0 w') := fun n W hW =>
    (below_any n W).mono fun e w' ⟨he, hw⟩ => by subst hw; exact ⟨_, he, Blk.new W _ _, hW.alloc hW.size _⟩
  have WA : Hid (∀ (b : Bool), withinB (p.funcs.length : Int) 1 16 = b → ∀ (W : World), Calls Try.prog 34 #[.int .i64 (p.funcs.length : Int), .int .i64 1, .int .i64 16] W fun e w' => e = .returned (.bool b) ∧ W = w') := fun b hb W => (within_any _ _ _ W).mono fun e w' ⟨he, hw⟩ => ⟨by rw [he, hb], hw⟩
  have WB : Hid (∀ (b : Bool), withinB p.mutexes 0 8 = b → ∀ (W : World), Calls Try.prog 34 #[.int .i64 p.mutexes, .int .i64 0, .int .i64 8] W fun e w' => e = .returned (.bool b) ∧ W = w') := fun b hb W => (within_any _ _ _ W).mono fun e w' ⟨he, hw⟩ => ⟨by rw [he, hb], hw⟩
  have WT : Hid (∀ (b : Bool), withinB p.threads 1 32 = b → ∀ (W : World), Calls Try.prog 34 #[.int .i64 p.threads, .int .i64 1, .int .i64 32] W fun e w' => e = .returned (.bool b) ∧ W = w') := fun b hb W => (within_any _ _ _ W).mono fun e w' ⟨he, hw⟩ => ⟨by rw [he, hb], hw⟩
  have LC : Hid (∀ (b : Bool), listB p.conds p.mutexes = b → ∀ (W : World) (g : Nat), Below W0.heap.size W0 W → Blk W g 3 #[.int .i64 p.mutexes] → Calls Try.prog 35 #[.slice h.cA p.conds.length h.cc, .func (.func 71) #[] #[.pointer (some ⟨g, 0, none⟩)]] W fun e w' => e = .returned (.bool b) ∧ W = w') := fun b hb W g hW hg =>
    (mayList_any p.conds p.mutexes g W B _ _ _ (hrw W hW).conds (by have := hlen.conds; omega) hg).mono fun e w' ⟨he, hw⟩ => ⟨by rw [he, hb], hw⟩
  have LS : Hid (∀ (b : Bool), listB p.semas 101 = b → ∀ (W : World) (g : Nat), Below W0.heap.size W0 W → Blk W g 3 #[.int .i64 101] → Calls Try.prog 35 #[.slice h.sA p.semas.length h.sc, .func (.func 71) #[] #[.pointer (some ⟨g, 0, none⟩)]] W fun e w' => e = .returned (.bool b) ∧ W = w') := fun b hb W g hW hg =>
    (mayList_any p.semas 101 g W B _ _ _ (hrw W hW).semas (by have := hlen.semas; omega) hg).mono fun e w' ⟨he, hw⟩ => ⟨by rw [he, hb], hw⟩
  have LH : Hid (∀ (b : Bool), listB p.chans 9 = b → ∀ (W : World) (g : Nat), Below W0.heap.size W0 W → Blk W g 3 #[.int .i64 9] → Calls Try.prog 35 #[.slice h.hA p.chans.length h.hc, .func (.func 71) #[] #[.pointer (some ⟨g, 0, none⟩)]] W fun e w' => e = .returned (.bool b) ∧ W = w') := fun b hb W g hW hg =>
    (mayList_any p.chans 9 g W B _ _ _ (hrw W hW).chans (by have := hlen.chans; omega) hg).mono fun e w' ⟨he, hw⟩ => ⟨by rw [he, hb], hw⟩
  have MX : Hid (∀ (b : Bool), choicesB p = b → ∀ W, Below W0.heap.size W0 W → Calls Try.prog 37 #[.agg #[.slice h.fA p.funcs.length h.fc, .int .i64 p.mutexes, .slice h.cA p.conds.length h.cc, .slice h.sA p.semas.length h.sc, .slice h.hA p.chans.length h.hc, .slice h.xA p.choices.length h.xc, .int .i64 p.threads]] W fun e w' => e = .returned (.bool b) ∧ Below W0.heap.size W0 w') := fun b hb W hW =>
    (mayChoices_any h p W B (hrw W hW) (by have := hW.size; omega) hlen).mono fun e w' ⟨he, hq⟩ => ⟨by rw [he, hb], hW.trans (hq.mono hW.size)⟩
  have MF : Hid (∀ (b : Bool), p.funcs.all (funcC p) = b → ∀ W, Below W0.heap.size W0 W → Calls Try.prog 38 #[.agg #[.slice h.fA p.funcs.length h.fc, .int .i64 p.mutexes, .slice h.cA p.conds.length h.cc, .slice h.sA p.semas.length h.sc, .slice h.hA p.chans.length h.hc, .slice h.xA p.choices.length h.xc, .int .i64 p.threads]] W fun e w' => e = .returned (.bool b) ∧ Below W0.heap.size W0 w') := fun b hb W hW =>
    (mayFuncs_any h p W B (hrw W hW) (by have := hW.size; omega) hlen).mono fun e w' ⟨he, hq⟩ => ⟨by rw [he, hb], hW.trans (hq.mono hW.size)⟩
  obtain ⟨fA, fc, cA, cc, sA, sc, hA, hc, xA, xc⟩ := h
  simp only at LC LS LH MX MF
  have KS : Hid (∀ X, Below W0.heap.size W0 X → X.cell? ⟨w.heap.size, 0, none⟩ = some (.slice fA p.funcs.length fc) ∧ X.cell? ⟨w.heap.size, 1, none⟩ = some (.int .i64 p.mutexes) ∧ X.cell? ⟨w.heap.size, 2, none⟩ = some (.slice cA p.conds.length cc) ∧ X.cell? ⟨w.heap.size, 3, none⟩ = some (.slice sA p.semas.length sc) ∧ X.cell? ⟨w.heap.size, 4, none⟩ = some (.slice hA p.chans.length hc) ∧ X.cell? ⟨w.heap.size, 5, none⟩ = some (.slice xA p.choices.length xc) ∧ X.cell? ⟨w.heap.size, 6, none⟩ = some (.int .i64 p.threads)) := by
    intro X hX
    exact ⟨(hX.cell (p := ⟨w.heap.size, 0, none⟩) zk).trans ((hk.cell 0).trans rfl), (hX.cell (p := ⟨w.heap.size, 1, none⟩) zk).trans ((hk.cell 1).trans rfl), (hX.cell (p := ⟨w.heap.size, 2, none⟩) zk).trans ((hk.cell 2).trans rfl), (hX.cell (p := ⟨w.heap.size, 3, none⟩) zk).trans ((hk.cell 3).trans rfl), (hX.cell (p := ⟨w.heap.size, 4, none⟩) zk).trans ((hk.cell 4).trans rfl), (hX.cell (p := ⟨w.heap.size, 5, none⟩) zk).trans ((hk.cell 5).trans rfl), (hX.cell (p := ⟨w.heap.size, 6, none⟩) zk).trans ((hk.cell 6).trans rfl)⟩
  have HW : Hid (w.alloc (.cells #[.slice fA p.funcs.length fc, .int .i64 p.mutexes, .slice cA p.conds.length cc, .slice sA p.semas.length sc, .slice hA p.chans.length hc, .slice xA p.choices.length xc, .int .i64 p.threads] 26) = W0) := hW0.symm
  have H0 := Lib.hid h0
  have hbq : Below W0.heap.size W0 W0 := Below.refl _ _
  obtain ⟨p0, p1, p2, p3, p4, p5, p6⟩ := KS.out W0 hbq
  clear hW0 h0 hk hrw hr hlen
  go_enter Try.func10, Try.ntmps10
  have B0 := Lib.hid b0
  have B1 := Lib.hid b1
  have B2 := Lib.hid b2
  have B3 := Lib.hid b3
  have B4 := Lib.hid b4
  have B5 := Lib.hid b5
  have B6 := Lib.hid b6
  have B7 := Lib.hid b7
  clear b0 b1 b2 b3 b4 b5 b6 b7 p0 p1 p2 p3 p4 p5 p6
  go_upto_region 1 with fail
  rw [HW.out]
  refine wp_region_held_drew (S := fun w' => Below W0.heap.size W0 w') (by kernel_rfl) hbq.drew (fun hHeld => ?_)
  refine take_yes (i := 0) (v := ?v0) rfl (by kernel_rfl) (by kernel_rfl) (by kernel_rfl) (fun _ _ _ h => h) (by rfl) (by assumption) ?hy0 ?rest0
  case hy0 => (intro w hSw; obtain ⟨p0, p1, p2, p3, p4, p5, p6⟩ := KS.out w hSw; go_simp; try (with_reducible rfl))
  try simp only [Act.put, List.setIfInBounds_toArray, List.set_cons_zero, List.set_cons_succ]
  refine take_yes (i := 1) (v := ?v1) rfl (by kernel_rfl) (by kernel_rfl) (by kernel_rfl) (fun _ _ _ h => h) (by rfl) (by assumption) ?hy1 ?rest1
  case hy1 => (intro w hSw; obtain ⟨p0, p1, p2, p3, p4, p5, p6⟩ := KS.out w hSw; go_simp; try (with_reducible rfl))
  try simp only [Act.put, List.setIfInBounds_toArray, List.set_cons_zero, List.set_cons_succ]
  refine take_yes (i := 2) (v := ?v2) rfl (by kernel_rfl) (by kernel_rfl) (by kernel_rfl) (fun _ _ _ h => h) (by rfl) (by assumption) ?hy2 ?rest2
  case hy2 => (intro w hSw; obtain ⟨p0, p1, p2, p3, p4, p5, p6⟩ := KS.out w hSw; go_simp; try (with_reducible rfl))
  try simp only [Act.put, List.setIfInBounds_toArray, List.set_cons_zero, List.set_cons_succ]
  refine ready_one (i := 3) rfl (by kernel_rfl) (fun K hK => ?_)
  go_simp
  refine (WA.out _ B0.out _).mono ?_
  rintro e wq ⟨rfl, rfl⟩
  refine hK.out _ _ hHeld (fun hHeld => ?_)
  clear hK K
  try simp only [Act.put, List.setIfInBounds_toArray, List.set_cons_zero, List.set_cons_succ]
  refine take_yes (i := 4) (v := ?v4) rfl (by kernel_rfl) (by kernel_rfl) (by kernel_rfl) (fun _ _ _ h => h) (by rfl) (by assumption) ?hy4 ?rest4
  case hy4 => (intro w hSw; obtain ⟨p0, p1, p2, p3, p4, p5, p6⟩ := KS.out w hSw; go_simp; try (with_reducible rfl))
  try simp only [Act.put, List.setIfInBounds_toArray, List.set_cons_zero, List.set_cons_succ]
  refine take_yes (i := 5) (v := ?v5) rfl (by kernel_rfl) (by kernel_rfl) (by kernel_rfl) (fun _ _ _ h => h) (by rfl) (by assumption) ?hy5 ?rest5
  case hy5 => (intro w hSw; obtain ⟨p0, p1, p2, p3, p4, p5, p6⟩ := KS.out w hSw; go_simp; try (with_reducible rfl))
  try simp only [Act.put, List.setIfInBounds_toArray, List.set_cons_zero, List.set_cons_succ]
  refine take_yes (i := 6) (v := ?v6) rfl (by kernel_rfl) (by kernel_rfl) (by kernel_rfl) (fun _ _ _ h => h) (by rfl) (by assumption) ?hy6 ?rest6
  case hy6 => (intro w hSw; obtain ⟨p0, p1, p2, p3, p4, p5, p6⟩ := KS.out w hSw; go_simp; try (with_reducible rfl))
  try simp only [Act.put, List.setIfInBounds_toArray, List.set_cons_zero, List.set_cons_succ]
  refine ready_one (i := 7) rfl (by kernel_rfl) (fun K hK => ?_)
  go_simp
  refine (WB.out _ B1.out _).mono ?_
  rintro e wq ⟨rfl, rfl⟩
  refine hK.out _ _ hHeld (fun hHeld => ?_)
  clear hK K
  try simp only [Act.put, List.setIfInBounds_toArray, List.set_cons_zero, List.set_cons_succ]
  refine take_yes (i := 8) (v := ?v8) rfl (by kernel_rfl) (by kernel_rfl) (by kernel_rfl) (fun _ _ _ h => h) (by rfl) (by assumption) ?hy8 ?rest8
  case hy8 => (intro w hSw; obtain ⟨p0, p1, p2, p3, p4, p5, p6⟩ := KS.out w hSw; go_simp; try (with_reducible rfl))
  try simp only [Act.put, List.setIfInBounds_toArray, List.set_cons_zero, List.set_cons_succ]
  refine take_yes (i := 9) (v := ?v9) rfl (by kernel_rfl) (by kernel_rfl) (by kernel_rfl) (fun _ _ _ h => h) (by rfl) (by assumption) ?hy9 ?rest9
  case hy9 => (intro w hSw; obtain ⟨p0, p1, p2, p3, p4, p5, p6⟩ := KS.out w hSw; go_simp; try (with_reducible rfl))
  try simp only [Act.put, List.setIfInBounds_toArray, List.set_cons_zero, List.set_cons_succ]
  refine take_yes (i := 10) (v := ?v10) rfl (by kernel_rfl) (by kernel_rfl) (by kernel_rfl) (fun _ _ _ h => h) (by rfl) (by assumption) ?hy10 ?rest10
  case hy10 => (intro w hSw; obtain ⟨p0, p1, p2, p3, p4, p5, p6⟩ := KS.out w hSw; go_simp; try (with_reducible rfl))
  try simp only [Act.put, List.setIfInBounds_toArray, List.set_cons_zero, List.set_cons_succ]
  refine take_yes (i := 11) (v := ?v11) rfl (by kernel_rfl) (by kernel_rfl) (by kernel_rfl) (fun _ _ _ h => h) (by rfl) (by assumption) ?hy11 ?rest11
  case hy11 => (intro w hSw; obtain ⟨p0, p1, p2, p3, p4, p5, p6⟩ := KS.out w hSw; go_simp; try (with_reducible rfl))
  try simp only [Act.put, List.setIfInBounds_toArray, List.set_cons_zero, List.set_cons_succ]
  refine take_yes (i := 12) (v := ?v12) rfl (by kernel_rfl) (by kernel_rfl) (by kernel_rfl) (fun _ _ _ h => h) (by rfl) (by assumption) ?hy12 ?rest12
  case hy12 => (intro w hSw; obtain ⟨p0, p1, p2, p3, p4, p5, p6⟩ := KS.out w hSw; go_simp; try (with_reducible rfl))
  try simp only [Act.put, List.setIfInBounds_toArray, List.set_cons_zero, List.set_cons_succ]
  refine take_yes (i := 13) (v := ?v13) rfl (by kernel_rfl) (by kernel_rfl) (by kernel_rfl) (fun _ _ _ h => h) (by rfl) (by assumption) ?hy13 ?rest13
  case hy13 => (intro w hSw; obtain ⟨p0, p1, p2, p3, p4, p5, p6⟩ := KS.out w hSw; go_simp; try (with_reducible rfl))
  try simp only [Act.put, List.setIfInBounds_toArray, List.set_cons_zero, List.set_cons_succ]
  refine ready_one (i := 14) rfl (by kernel_rfl) (fun K hK => ?_)
  go_simp
  refine (BEL.out _ _ hHeld).mono ?_
  rintro e wq ⟨g, rfl, hg, hbq2⟩
  refine hK.out _ _ hbq2 (fun hHeld => ?_)
  clear hK K
  try simp only [Act.put, List.setIfInBounds_toArray, List.set_cons_zero, List.set_cons_succ]
  refine ready_one (i := 15) rfl (by kernel_rfl) (fun K hK => ?_)
  go_simp
  refine (LC.out _ B2.out _ _ hHeld hg).mono ?_
  rintro e wq ⟨rfl, rfl⟩
  refine hK.out _ _ hHeld (fun hHeld => ?_)
  clear hK K
  try simp only [Act.put, List.setIfInBounds_toArray, List.set_cons_zero, List.set_cons_succ]
  clear hg
  refine take_yes (i := 16) (v := ?v16) rfl (by kernel_rfl) (by kernel_rfl) (by kernel_rfl) (fun _ _ _ h => h) (by rfl) (by assumption) ?hy16 ?rest16
  case hy16 => (intro w hSw; obtain ⟨p0, p1, p2, p3, p4, p5, p6⟩ := KS.out w hSw; go_simp; try (with_reducible rfl))
  try simp only [Act.put, List.setIfInBounds_toArray, List.set_cons_zero, List.set_cons_succ]
  refine take_yes (i := 17) (v := ?v17) rfl (by kernel_rfl) (by kernel_rfl) (by kernel_rfl) (fun _ _ _ h => h) (by rfl) (by assumption) ?hy17 ?rest17
  case hy17 => (intro w hSw; obtain ⟨p0, p1, p2, p3, p4, p5, p6⟩ := KS.out w hSw; go_simp; try (with_reducible rfl))
  try simp only [Act.put, List.setIfInBounds_toArray, List.set_cons_zero, List.set_cons_succ]
  refine take_yes (i := 18) (v := ?v18) rfl (by kernel_rfl) (by kernel_rfl) (by kernel_rfl) (fun _ _ _ h => h) (by rfl) (by assumption) ?hy18 ?rest18
  case hy18 => (intro w hSw; obtain ⟨p0, p1, p2, p3, p4, p5, p6⟩ := KS.out w hSw; go_simp; try (with_reducible rfl))
  try simp only [Act.put, List.setIfInBounds_toArray, List.set_cons_zero, List.set_cons_succ]
  refine take_yes (i := 19) (v := ?v19) rfl (by kernel_rfl) (by kernel_rfl) (by kernel_rfl) (fun _ _ _ h => h) (by rfl) (by assumption) ?hy19 ?rest19
  case hy19 => (intro w hSw; obtain ⟨p0, p1, p2, p3, p4, p5, p6⟩ := KS.out w hSw; go_simp; try (with_reducible rfl))
  try simp only [Act.put, List.setIfInBounds_toArray, List.set_cons_zero, List.set_cons_succ]
  refine ready_one (i := 20) rfl (by kernel_rfl) (fun K hK => ?_)
  go_simp
  refine (BEL.out _ _ hHeld).mono ?_
  rintro e wq ⟨g, rfl, hg, hbq2⟩
  refine hK.out _ _ hbq2 (fun hHeld => ?_)
  clear hK K
  try simp only [Act.put, List.setIfInBounds_toArray, List.set_cons_zero, List.set_cons_succ]
  refine ready_one (i := 21) rfl (by kernel_rfl) (fun K hK => ?_)
  go_simp
  refine (LS.out _ B3.out _ _ hHeld hg).mono ?_
  rintro e wq ⟨rfl, rfl⟩
  refine hK.out _ _ hHeld (fun hHeld => ?_)
  clear hK K
  try simp only [Act.put, List.setIfInBounds_toArray, List.set_cons_zero, List.set_cons_succ]
  clear hg
  refine take_yes (i := 22) (v := ?v22) rfl (by kernel_rfl) (by kernel_rfl) (by kernel_rfl) (fun _ _ _ h => h) (by rfl) (by assumption) ?hy22 ?rest22
  case hy22 => (intro w hSw; obtain ⟨p0, p1, p2, p3, p4, p5, p6⟩ := KS.out w hSw; go_simp; try (with_reducible rfl))
  try simp only [Act.put, List.setIfInBounds_toArray, List.set_cons_zero, List.set_cons_succ]
  refine take_yes (i := 23) (v := ?v23) rfl (by kernel_rfl) (by kernel_rfl) (by kernel_rfl) (fun _ _ _ h => h) (by rfl) (by assumption) ?hy23 ?rest23
  case hy23 => (intro w hSw; obtain ⟨p0, p1, p2, p3, p4, p5, p6⟩ := KS.out w hSw; go_simp; try (with_reducible rfl))
  try simp only [Act.put, List.setIfInBounds_toArray, List.set_cons_zero, List.set_cons_succ]
  refine take_yes (i := 24) (v := ?v24) rfl (by kernel_rfl) (by kernel_rfl) (by kernel_rfl) (fun _ _ _ h => h) (by rfl) (by assumption) ?hy24 ?rest24
  case hy24 => (intro w hSw; obtain ⟨p0, p1, p2, p3, p4, p5, p6⟩ := KS.out w hSw; go_simp; try (with_reducible rfl))
  try simp only [Act.put, List.setIfInBounds_toArray, List.set_cons_zero, List.set_cons_succ]
  refine take_yes (i := 25) (v := ?v25) rfl (by kernel_rfl) (by kernel_rfl) (by kernel_rfl) (fun _ _ _ h => h) (by rfl) (by assumption) ?hy25 ?rest25
  case hy25 => (intro w hSw; obtain ⟨p0, p1, p2, p3, p4, p5, p6⟩ := KS.out w hSw; go_simp; try (with_reducible rfl))
  try simp only [Act.put, List.setIfInBounds_toArray, List.set_cons_zero, List.set_cons_succ]
  refine ready_one (i := 26) rfl (by kernel_rfl) (fun K hK => ?_)
  go_simp
  refine (BEL.out _ _ hHeld).mono ?_
  rintro e wq ⟨g, rfl, hg, hbq2⟩
  refine hK.out _ _ hbq2 (fun hHeld => ?_)
  clear hK K
  try simp only [Act.put, List.setIfInBounds_toArray, List.set_cons_zero, List.set_cons_succ]
  refine ready_one (i := 27) rfl (by kernel_rfl) (fun K hK => ?_)
  go_simp
  refine (LH.out _ B4.out _ _ hHeld hg).mono ?_
  rintro e wq ⟨rfl, rfl⟩
  refine hK.out _ _ hHeld (fun hHeld => ?_)
  clear hK K
  try simp only [Act.put, List.setIfInBounds_toArray, List.set_cons_zero, List.set_cons_succ]
  clear hg
  refine take_yes (i := 28) (v := ?v28) rfl (by kernel_rfl) (by kernel_rfl) (by kernel_rfl) (fun _ _ _ h => h) (by rfl) (by assumption) ?hy28 ?rest28
  case hy28 => (intro w hSw; obtain ⟨p0, p1, p2, p3, p4, p5, p6⟩ := KS.out w hSw; go_simp; try (with_reducible rfl))
  try simp only [Act.put, List.setIfInBounds_toArray, List.set_cons_zero, List.set_cons_succ]
  refine take_yes (i := 29) (v := ?v29) rfl (by kernel_rfl) (by kernel_rfl) (by kernel_rfl) (fun _ _ _ h => h) (by rfl) (by assumption) ?hy29 ?rest29
  case hy29 => (intro w hSw; obtain ⟨p0, p1, p2, p3, p4, p5, p6⟩ := KS.out w hSw; go_simp; try (with_reducible rfl))
  try simp only [Act.put, List.setIfInBounds_toArray, List.set_cons_zero, List.set_cons_succ]
  refine take_yes (i := 30) (v := ?v30) rfl (by kernel_rfl) (by kernel_rfl) (by kernel_rfl) (fun _ _ _ h => h) (by rfl) (by assumption) ?hy30 ?rest30
  case hy30 => (intro w hSw; obtain ⟨p0, p1, p2, p3, p4, p5, p6⟩ := KS.out w hSw; go_simp; try (with_reducible rfl))
  try simp only [Act.put, List.setIfInBounds_toArray, List.set_cons_zero, List.set_cons_succ]
  refine ready_one (i := 31) rfl (by kernel_rfl) (fun K hK => ?_)
  go_simp
  refine (MX.out _ B5.out _ hHeld).mono ?_
  rintro e wq ⟨rfl, hbq2⟩
  refine hK.out _ _ hbq2 (fun hHeld => ?_)
  clear hK K
  try simp only [Act.put, List.setIfInBounds_toArray, List.set_cons_zero, List.set_cons_succ]
  refine take_yes (i := 32) (v := ?v32) rfl (by kernel_rfl) (by kernel_rfl) (by kernel_rfl) (fun _ _ _ h => h) (by rfl) (by assumption) ?hy32 ?rest32
  case hy32 => (intro w hSw; obtain ⟨p0, p1, p2, p3, p4, p5, p6⟩ := KS.out w hSw; go_simp; try (with_reducible rfl))
  try simp only [Act.put, List.setIfInBounds_toArray, List.set_cons_zero, List.set_cons_succ]
  refine take_yes (i := 33) (v := ?v33) rfl (by kernel_rfl) (by kernel_rfl) (by kernel_rfl) (fun _ _ _ h => h) (by rfl) (by assumption) ?hy33 ?rest33
  case hy33 => (intro w hSw; obtain ⟨p0, p1, p2, p3, p4, p5, p6⟩ := KS.out w hSw; go_simp; try (with_reducible rfl))
  try simp only [Act.put, List.setIfInBounds_toArray, List.set_cons_zero, List.set_cons_succ]
  refine take_yes (i := 34) (v := ?v34) rfl (by kernel_rfl) (by kernel_rfl) (by kernel_rfl) (fun _ _ _ h => h) (by rfl) (by assumption) ?hy34 ?rest34
  case hy34 => (intro w hSw; obtain ⟨p0, p1, p2, p3, p4, p5, p6⟩ := KS.out w hSw; go_simp; try (with_reducible rfl))
  try simp only [Act.put, List.setIfInBounds_toArray, List.set_cons_zero, List.set_cons_succ]
  refine take_yes (i := 35) (v := ?v35) rfl (by kernel_rfl) (by kernel_rfl) (by kernel_rfl) (fun _ _ _ h => h) (by rfl) (by assumption) ?hy35 ?rest35
  case hy35 => (intro w hSw; obtain ⟨p0, p1, p2, p3, p4, p5, p6⟩ := KS.out w hSw; go_simp; try (with_reducible rfl))
  try simp only [Act.put, List.setIfInBounds_toArray, List.set_cons_zero, List.set_cons_succ]
  refine ready_one (i := 36) rfl (by kernel_rfl) (fun K hK => ?_)
  go_simp
  refine (WT.out _ B6.out _).mono ?_
  rintro e wq ⟨rfl, rfl⟩
  refine hK.out _ _ hHeld (fun hHeld => ?_)
  clear hK K
  try simp only [Act.put, List.setIfInBounds_toArray, List.set_cons_zero, List.set_cons_succ]
  refine take_yes (i := 37) (v := ?v37) rfl (by kernel_rfl) (by kernel_rfl) (by kernel_rfl) (fun _ _ _ h => h) (by rfl) (by assumption) ?hy37 ?rest37
  case hy37 => (intro w hSw; obtain ⟨p0, p1, p2, p3, p4, p5, p6⟩ := KS.out w hSw; go_simp; try (with_reducible rfl))
  try simp only [Act.put, List.setIfInBounds_toArray, List.set_cons_zero, List.set_cons_succ]
  refine take_yes (i := 38) (v := ?v38) rfl (by kernel_rfl) (by kernel_rfl) (by kernel_rfl) (fun _ _ _ h => h) (by rfl) (by assumption) ?hy38 ?rest38
  case hy38 => (intro w hSw; obtain ⟨p0, p1, p2, p3, p4, p5, p6⟩ := KS.out w hSw; go_simp; try (with_reducible rfl))
  try simp only [Act.put, List.setIfInBounds_toArray, List.set_cons_zero, List.set_cons_succ]
  refine take_yes (i := 39) (v := ?v39) rfl (by kernel_rfl) (by kernel_rfl) (by kernel_rfl) (fun _ _ _ h => h) (by rfl) (by assumption) ?hy39 ?rest39
  case hy39 => (intro w hSw; obtain ⟨p0, p1, p2, p3, p4, p5, p6⟩ := KS.out w hSw; go_simp; try (with_reducible rfl))
  try simp only [Act.put, List.setIfInBounds_toArray, List.set_cons_zero, List.set_cons_succ]
  refine ready_one (i := 40) rfl (by kernel_rfl) (fun K hK => ?_)
  go_simp
  refine (MF.out _ B7.out _ hHeld).mono ?_
  rintro e wq ⟨rfl, hbq2⟩
  refine hK.out _ _ hbq2 (fun hHeld => ?_)
  clear hK K
  try simp only [Act.put, List.setIfInBounds_toArray, List.set_cons_zero, List.set_cons_succ]
  refine take_yes (i := 41) (v := ?v41) rfl (by kernel_rfl) (by kernel_rfl) (by kernel_rfl) (fun _ _ _ h => h) (by rfl) (by assumption) ?hy41 ?rest41
  case hy41 => (intro w hSw; obtain ⟨p0, p1, p2, p3, p4, p5, p6⟩ := KS.out w hSw; go_simp; try (with_reducible rfl))
  try simp only [Act.put, List.setIfInBounds_toArray, List.set_cons_zero, List.set_cons_succ]
  refine take_yes (i := 42) (v := ?v42) rfl (by kernel_rfl) (by kernel_rfl) (by kernel_rfl) (fun _ _ _ h => h) (by rfl) (by assumption) ?hy42 ?rest42
  case hy42 => (intro w hSw; obtain ⟨p0, p1, p2, p3, p4, p5, p6⟩ := KS.out w hSw; go_simp; try (with_reducible rfl))
  try simp only [Act.put, List.setIfInBounds_toArray, List.set_cons_zero, List.set_cons_succ]
  refine wpAnyH_done (by kernel_rfl) ?_ _
  go_wp2_with fail
  go_ret
  exact ⟨rfl, H0.out.trans (hHeld.mono z0)⟩

theorem mayC_any (h : PH) (p : PV) (w : World) (B : Nat) (hr : RP w B h p) (hB : B ≤ w.heap.size) (hlen : Lens p) :
    Calls Try.prog 10 #[.agg #[.slice h.fA p.funcs.length h.fc, .int .i64 p.mutexes, .slice h.cA p.conds.length h.cc, .slice h.sA p.semas.length h.sc, .slice h.hA p.chans.length h.hc, .slice h.xA p.choices.length h.xc, .int .i64 p.threads]] w fun e w' => e = .returned (.bool (mayC p)) ∧ Below w.heap.size w w' := by
  cases b0 : withinB (p.funcs.length : Int) 1 16
  · have hv : mayC p = false := by unfold mayC; simp only [b0]; rfl
    rw [hv]
    exact mayC_no0 h p w B hr hB hlen b0
  cases b1 : withinB p.mutexes 0 8
  · have hv : mayC p = false := by unfold mayC; simp only [b0, b1]; rfl
    rw [hv]
    exact mayC_no1 h p w B hr hB hlen b0 b1
  cases b2 : listB p.conds p.mutexes
  · have hv : mayC p = false := by unfold mayC; simp only [b0, b1, b2]; rfl
    rw [hv]
    exact mayC_no2 h p w B hr hB hlen b0 b1 b2
  cases b3 : listB p.semas 101
  · have hv : mayC p = false := by unfold mayC; simp only [b0, b1, b2, b3]; rfl
    rw [hv]
    exact mayC_no3 h p w B hr hB hlen b0 b1 b2 b3
  cases b4 : listB p.chans 9
  · have hv : mayC p = false := by unfold mayC; simp only [b0, b1, b2, b3, b4]; rfl
    rw [hv]
    exact mayC_no4 h p w B hr hB hlen b0 b1 b2 b3 b4
  cases b5 : choicesB p
  · have hv : mayC p = false := by unfold mayC; simp only [b0, b1, b2, b3, b4, b5]; rfl
    rw [hv]
    exact mayC_no5 h p w B hr hB hlen b0 b1 b2 b3 b4 b5
  cases b6 : withinB p.threads 1 32
  · have hv : mayC p = false := by unfold mayC; simp only [b0, b1, b2, b3, b4, b5, b6]; rfl
    rw [hv]
    exact mayC_no6 h p w B hr hB hlen b0 b1 b2 b3 b4 b5 b6
  cases b7 : p.funcs.all (funcC p)
  · have hv : mayC p = false := by unfold mayC; simp only [b0, b1, b2, b3, b4, b5, b6, b7]; rfl
    rw [hv]
    exact mayC_no7 h p w B hr hB hlen b0 b1 b2 b3 b4 b5 b6 b7
  have hv : mayC p = true := by unfold mayC; simp only [b0, b1, b2, b3, b4, b5, b6, b7]; rfl
  rw [hv]
  exact mayC_yes h p w B hr hB hlen hv
end Go.Proofs.Ytmjbfobjndiecaa
