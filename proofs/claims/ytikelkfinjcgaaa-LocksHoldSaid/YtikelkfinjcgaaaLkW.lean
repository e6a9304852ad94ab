
/-
  The document's Wait that has no owner, and its Signal of nobody.
-/
import Derived.Test.YtikelkfinjcgaaaLkV
set_option linter.unusedVariables false
set_option linter.unusedSimpArgs false
namespace Go.Proofs.Ytikelkfinjcgaaa
open Go.RowKit Plain

set_option maxRecDepth 100000 in
set_option maxHeartbeats 8000000 in
theorem refWait_no (w : World) (E : Nat → Prop) (z : LkQ) (p q n : Nat) (s : Lk) (h : DocC w E z p q n s) (cc m : Nat) (hm : m < p) (t : Int) (hx : gn s.own m ≠ t) :
    Calls Try.prog 45 #[.agg (mkC z p q n), .int .i64 (cc : Int), .int .i64 (m : Int), .int .i64 t] w fun e w' => e = .returned (.tuple #[.agg (mkC z p q n), .int .i64 (-1), .int .i64 10]) ∧ Below w.heap.size w w' := by
  go_enter Try.func45, Try.ntmps45
  obtain ⟨W0, hW0⟩ : ∃ W, W = (w.alloc (.cells (mkC z p q n) 27)).alloc (.cells zeroC 27) := ⟨_, rfl⟩
  have k0 : Blk W0 w.heap.size 27 (mkC z p q n) := by rw [hW0]; exact (Blk.new w _ _).alloc _
  have r0 : Blk W0 (w.heap.size + 1) 27 zeroC := by rw [hW0]; simpa using Blk.new (w.alloc (.cells (mkC z p q n) 27)) 27 zeroC
  have l0 : Below w.heap.size w W0 := by rw [hW0]; exact ((Below.refl _ w).alloc (Nat.le_refl _) _).alloc (by simp) _
  have z0 : W0.heap.size = w.heap.size + 1 + 1 := by rw [hW0]; simp
  have co := refUnlock_no W0 E z p q n s (h.below l0 (Nat.le_refl _)) m hm t hx
  have HW0 := Lib.hid hW0; have K0 := Lib.hid k0; have R0 := Lib.hid r0; have L0 := Lib.hid l0; have Z0 := Lib.hid z0; have CO := Lib.hid co
  obtain ⟨x0, x1, x2, x3, x4, x5, x6, x7, x8, x9⟩ := blk10 k0
  clear hW0 k0 r0 l0 z0 co h hx
  go_upto_region 1 with fail
  rw [← HW0.out]
  clear HW0
  go_wp2_with fail
  refine CO.out.mono ?_
  rintro e w1 ⟨rfl, hb⟩
  obtain ⟨W1, hW1⟩ : ∃ W, W = w1.alloc (.cells (mkC z p q n) 27) := ⟨_, rfl⟩
  have f1 : Below w1.heap.size w1 W1 := by rw [hW1]; exact (Below.refl _ _).alloc (Nat.le_refl _) _
  have k1 : Blk W1 w.heap.size 27 (mkC z p q n) := ((K0.out.below hb K0.out.lt)).below f1 (by have := (K0.out.below hb K0.out.lt).lt; omega)
  have r1 : Blk W1 (w.heap.size + 1) 27 zeroC := ((R0.out.below hb R0.out.lt)).below f1 (by have := (R0.out.below hb R0.out.lt).lt; omega)
  have l1 : Below w.heap.size w W1 := (L0.out.trans (hb.mono L0.out.size)).trans (f1.mono (L0.out.trans (hb.mono L0.out.size)).size)
  have hB := r1.set10 (.int .i64 0) (.slice none 0 0) (.slice z.A0 p z.d0) (.slice z.A1 n z.d1) (.slice none 0 0) (.slice z.A2 p z.d2) (.slice z.A3 q z.d3) (.slice z.A4 n z.d4) (.slice none 0 0) (.slice none 0 0)
  have hF := fr_set10 W1 (w.heap.size + 1) (.int .i64 0) (.slice none 0 0) (.slice z.A0 p z.d0) (.slice z.A1 n z.d1) (.slice none 0 0) (.slice z.A2 p z.d2) (.slice z.A3 q z.d3) (.slice z.A4 n z.d4) (.slice none 0 0) (.slice none 0 0)
  have hL := l1.trans (hF.below l1.size (fun i hi => by omega))
  have HB := Lib.hid (⟨hB, hL⟩ : _ ∧ _)
  have K1 := Lib.hid k1; have R1 := Lib.hid r1; have HW1 := Lib.hid hW1
  clear hB hF hL k1 r1 l1 f1 hW1 hb R0 K0 L0 CO x0 x1 x2 x3 x4 x5 x6 x7 x8 x9
  go_upto_region 3 with fail
  rw [← HW1.out]
  clear HW1
  obtain ⟨x0, x1, x2, x3, x4, x5, x6, x7, x8, x9⟩ := blk10 K1.out
  obtain ⟨s0, s1, s2, s3, s4, s5, s6, s7, s8, s9⟩ := blk10 R1.out
  have t0 := (R1.out).frozen 0
  have t1 := (R1.out).frozen 1
  have t2 := (R1.out).frozen 2
  have t3 := (R1.out).frozen 3
  have t4 := (R1.out).frozen 4
  have t5 := (R1.out).frozen 5
  have t6 := (R1.out).frozen 6
  have t7 := (R1.out).frozen 7
  have t8 := (R1.out).frozen 8
  have t9 := (R1.out).frozen 9
  go_wp2_with fail
  refine bodyPost_ret (v := .tuple #[.agg #[.int .i64 0, .slice none 0 0, .slice z.A0 p z.d0, .slice z.A1 n z.d1, .slice none 0 0, .slice z.A2 p z.d2, .slice z.A3 q z.d3, .slice z.A4 n z.d4, .slice none 0 0, .slice none 0 0], .int .i64 (-1), .int .i64 10]) (res9_2 rfl _ _ (w.heap.size + 1) 27 _ (0, 0) _ _ _ rfl rfl rfl HB.out.1 Try.underlying27 rfl (by kernel_rfl)) rfl ?_
  exact ⟨rfl, HB.out.2⟩
set_option maxRecDepth 100000 in
set_option maxHeartbeats 8000000 in
theorem refSignal_none (w : World) (E : Nat → Prop) (z : LkQ) (p q n : Nat) (s : Lk) (h : DocC w E z p q n s) (cc m : Nat) (hc : cc < q) (hx : gl s.wq cc = []) :
    Calls Try.prog 46 #[.agg (mkC z p q n), .int .i64 (cc : Int), .int .i64 (m : Int)] w fun e w' => e = .returned (.tuple #[.agg (mkC z p q n), .int .i64 (-1), .bool false]) ∧ Below w.heap.size w w' := by
  have q1 : (cc : Int) < (q : Int) := by omega
  have q0 : (0 : Int) ≤ (cc : Int) := by omega
  have hmo : cc < s.wq.length := by rw [h.lw]; exact hc
  obtain ⟨ad, A1, c1, e1, e2, e3, e4, e6⟩ := h.wq.at_ hmo
  rw [hx, List.length_nil] at e4
  obtain ⟨W0, hW0⟩ : ∃ W, W = (w.alloc (.cells (mkC z p q n) 27)).alloc (.cells zeroC 27) := ⟨_, rfl⟩
  have k0 : Blk W0 w.heap.size 27 (mkC z p q n) := by rw [hW0]; exact (Blk.new w _ _).alloc _
  have r0 : Blk W0 (w.heap.size + 1) 27 zeroC := by rw [hW0]; simpa using Blk.new (w.alloc (.cells (mkC z p q n) 27)) 27 zeroC
  have l0 : Below w.heap.size w W0 := by rw [hW0]; exact ((Below.refl _ w).alloc (Nat.le_refl _) _).alloc (by simp) _
  have e5 : W0.cell? (ad.add cc) = some (.slice A1 0 c1) := (l0.cell (p := ad.add cc) (by rw [block_of_add]; exact e3)).trans e4
  obtain ⟨x0, x1, x2, x3, x4, x5, x6, x7, x8, x9⟩ := blk10 k0
  obtain ⟨s0, s1, s2, s3, s4, s5, s6, s7, s8, s9⟩ := blk10 r0
  have t0 := (r0).frozen 0
  have t1 := (r0).frozen 1
  have t2 := (r0).frozen 2
  have t3 := (r0).frozen 3
  have t4 := (r0).frozen 4
  have t5 := (r0).frozen 5
  have t6 := (r0).frozen 6
  have t7 := (r0).frozen 7
  have t8 := (r0).frozen 8
  have t9 := (r0).frozen 9
  have hB := r0.set10 (.int .i64 0) (.slice none 0 0) (.slice z.A0 p z.d0) (.slice z.A1 n z.d1) (.slice none 0 0) (.slice z.A2 p z.d2) (.slice z.A3 q z.d3) (.slice z.A4 n z.d4) (.slice none 0 0) (.slice none 0 0)
  have hF := fr_set10 W0 (w.heap.size + 1) (.int .i64 0) (.slice none 0 0) (.slice z.A0 p z.d0) (.slice z.A1 n z.d1) (.slice none 0 0) (.slice z.A2 p z.d2) (.slice z.A3 q z.d3) (.slice z.A4 n z.d4) (.slice none 0 0) (.slice none 0 0)
  have hL := l0.trans (hF.below l0.size (fun i hi => by omega))
  rw [e1] at hB hL
  have HW0 := Lib.hid hW0; have HBL := Lib.hid (⟨hB, hL⟩ : _ ∧ _)
  rw [e1] at x6
  have HE1 := Lib.hid e1
  clear hW0 k0 r0 l0 h e4 hB hF hL hmo e1 e2 e6 hx
  go_enter Try.func46, Try.ntmps46
  go_upto_region 1 with fail
  rw [← HW0.out]
  clear HW0
  go_wp2_with fail
  refine bodyPost_ret (v := .tuple #[.agg #[.int .i64 0, .slice none 0 0, .slice z.A0 p z.d0, .slice z.A1 n z.d1, .slice none 0 0, .slice z.A2 p z.d2, .slice (some ad) q z.d3, .slice z.A4 n z.d4, .slice none 0 0, .slice none 0 0], .int .i64 (-1), .bool false]) (res9_2 rfl _ _ (w.heap.size + 1) 27 _ (0, 0) _ _ _ rfl rfl rfl HBL.out.1 Try.underlying27 rfl (by kernel_rfl)) rfl ?_
  exact ⟨by rw [← show z.A3 = some ad from HE1.out], HBL.out.2⟩
end Go.Proofs.Ytikelkfinjcgaaa
