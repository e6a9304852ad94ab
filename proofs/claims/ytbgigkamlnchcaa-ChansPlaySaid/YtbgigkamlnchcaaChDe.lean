
/-
  The document's Send.
-/
import Derived.Test.YtbgigkamlnchcaaChDc
set_option linter.unusedVariables false
set_option linter.unusedSimpArgs false
namespace Go.Proofs.Ytbgigkamlnchcaa
open Go.RowKit Plain

set_option maxRecDepth 100000 in
set_option maxHeartbeats 8000000 in
theorem refSend_meet (w : World) (E : Nat → Prop) (z : ChZ) (n : Nat) (s : Ck) (h : DocC w E z n s) {K : Nat} (O : CkOk K n s) (hK : K ≤ 50000) (hn : n ≤ 1000) (m : Nat) (hm : m < n) (room t v : Int) (x : Int) (r : List Int) (hq : gl s.rq m = x :: r) :
    Calls Try.prog 30 #[.agg (mkD z n), .int .i64 (m : Int), .int .i64 room, .int .i64 t, .int .i64 v] w fun e w' => ∃ z' : ChZ, e = .returned (.tuple #[.agg (mkD z' n), .int .i64 x, .bool true]) ∧ DocC w' (fun k => w.heap.size ≤ k) z' n (cancelV s x) ∧ Below w.heap.size w w' := by
  obtain ⟨W0, hW0⟩ : ∃ W, W = (w.alloc (.cells (mkD z n) 28)).alloc (.cells zeroC 28) := ⟨_, rfl⟩
  have k0 : Blk W0 w.heap.size 28 (mkD z n) := by rw [hW0]; exact (Blk.new w _ _).alloc _
  have r0 : Blk W0 (w.heap.size + 1) 28 zeroC := by rw [hW0]; simpa using Blk.new (w.alloc (.cells (mkD z n) 28)) 28 zeroC
  have l0 : Below w.heap.size w W0 := by rw [hW0]; exact ((Below.refl _ w).alloc (Nat.le_refl _) _).alloc (by simp) _
  have z0 : W0.heap.size = w.heap.size + 1 + 1 := by rw [hW0]; simp
  have hd0 := h.below l0 (Nat.le_refl _)
  have co := refCancel_any W0 E z n s hd0 O (by omega) hn x
  have q1 : (m : Int) < (n : Int) := by omega
  have q0 : (0 : Int) ≤ (m : Int) := by omega
  obtain ⟨ad, A1, c1, e1, _, _, e4, e6⟩ := hd0.rq.at_ (i := m) (by rw [hd0.l3]; exact hm)
  rw [hq] at e4 e6
  obtain ⟨bd, rfl, _, _, g4⟩ := e6.at_ (i := 0) (by simp)
  have g4' : W0.cell? (bd.add 0) = some (.int .i64 x) := g4
  have hsp := World.cell?_spot g4'
  obtain ⟨ab, ao, asp⟩ := bd
  have hsp2 : asp = none := by simpa [Addr.add] using hsp
  subst hsp2
  simp only [show (⟨ab, ao, none⟩ : Addr).add 0 = ⟨ab, ao, none⟩ by simp [Addr.add]] at g4'
  have hrl : 0 < ((x :: r).length : Int) := by simp
  obtain ⟨x0, x1, x2, x3, x4, x5, x6, x7, x8, x9⟩ := blk10 k0
  rw [e1] at x9
  generalize (x :: r).length = rl at *
  have c0 : (0 : Int) < (rl : Int) := hrl
  clear g4 e6 e1 hq hsp
  have HW0 := Lib.hid hW0; have K0 := Lib.hid k0; have R0 := Lib.hid r0; have L0 := Lib.hid l0; have Z0 := Lib.hid z0; have CO := Lib.hid co
  clear hW0 k0 r0 l0 z0 co h O hd0
  go_enter Try.func30, Try.ntmps30
  go_upto_region 1 with fail
  rw [← HW0.out]
  clear HW0
  go_upto_region 3 with fail
  clear g4' e4 x0 x1 x2 x3 x4 x5 x6 x7 x8 x9
  obtain ⟨x0, x1, x2, x3, x4, x5, x6, x7, x8, x9⟩ := blk10 K0.out
  go_wp2_with fail
  refine CO.out.mono ?_
  rintro e w1 ⟨z', rfl, hd, hb⟩
  generalize didV s x = dd
  obtain ⟨nb, hnb⟩ : ∃ b, b = w1.heap.size := ⟨_, rfl⟩
  obtain ⟨W1, hW1⟩ : ∃ W, W = w1.alloc (.cells (mkD z' n) 28) := ⟨_, rfl⟩
  have h1 : Below w1.heap.size w1 W1 := by rw [hW1]; exact (Below.refl _ w1).alloc (Nat.le_refl _) _
  have hg : Blk W1 nb 28 (mkD z' n) := by rw [hnb, hW1]; exact Blk.new w1 _ _
  have hr := R0.out.below hb R0.out.lt
  have HR := Lib.hid (hr.below h1 hr.lt)
  have hl := L0.out.trans (hb.mono L0.out.size)
  have HE := Lib.hid (doc_fin2 HR.out (hl.trans (h1.mono hl.size)) ((hd.below h1 (Nat.le_refl _)).mono (fun k hk _ => by have := Z0.out; omega)))
  obtain ⟨g0, g1, g2, g3, g4, g5, g6, g7, g8, g9⟩ := blk10 hg
  have HW1 := Lib.hid hW1; have HNB := Lib.hid hnb
  clear hW1 hnb h1 hg hr hl hd hb x0 x1 x2 x3 x4 x5 x6 x7 x8 x9 K0 R0 L0 Z0 CO
  go_upto_region 4 with fail
  rw [← HW1.out, ← HNB.out]
  clear HW1 HNB
  obtain ⟨s0, s1, s2, s3, s4, s5, s6, s7, s8, s9⟩ := blk10 HR.out
  have t0 := HR.out.frozen 0
  have t1 := HR.out.frozen 1
  have t2 := HR.out.frozen 2
  have t3 := HR.out.frozen 3
  have t4 := HR.out.frozen 4
  have t5 := HR.out.frozen 5
  have t6 := HR.out.frozen 6
  have t7 := HR.out.frozen 7
  have t8 := HR.out.frozen 8
  have t9 := HR.out.frozen 9
  go_wp2_with fail
  refine bodyPost_ret (v := .tuple #[.agg (mkD z' n), .int .i64 x, .bool true]) (resC_2 rfl _ _ (w.heap.size + 1) 28 _ (0, 0) _ _ _ rfl rfl rfl HE.out.1 Try.underlying28 rfl (by kernel_rfl)) rfl ?_
  exact ⟨z', rfl, HE.out.2.1, HE.out.2.2⟩
set_option maxRecDepth 100000 in
set_option maxHeartbeats 8000000 in
theorem refSend_room (w : World) (E : Nat → Prop) (z : ChZ) (n : Nat) (s : Ck) (h : DocC w E z n s) {K : Nat} (O : CkOk K n s) (hK : K ≤ 50000) (hn : n ≤ 1000) (m : Nat) (hm : m < n) (room t v : Int) (hq : gl s.rq m = []) (hr : ((gl s.bf m).length : Int) < room) :
    Calls Try.prog 30 #[.agg (mkD z n), .int .i64 (m : Int), .int .i64 room, .int .i64 t, .int .i64 v] w fun e w' => ∃ z' : ChZ, e = .returned (.tuple #[.agg (mkD z' n), .int .i64 (-1), .bool true]) ∧ DocC w' (fun k => w.heap.size ≤ k) z' n ({ s with bf := s.bf.set m (gl s.bf m ++ [v]) }) ∧ Below w.heap.size w w' := by
  have hR1 : (gl s.bf m).length ≤ 50000 := by have := O.row m; omega
  have hR2 : (gl s.sq m).length ≤ 50000 := by have := O.row m; omega
  obtain ⟨W0, hW0⟩ : ∃ W, W = (w.alloc (.cells (mkD z n) 28)).alloc (.cells zeroC 28) := ⟨_, rfl⟩
  have k0 : Blk W0 w.heap.size 28 (mkD z n) := by rw [hW0]; exact (Blk.new w _ _).alloc _
  have r0 : Blk W0 (w.heap.size + 1) 28 zeroC := by rw [hW0]; simpa using Blk.new (w.alloc (.cells (mkD z n) 28)) 28 zeroC
  have l0 : Below w.heap.size w W0 := by rw [hW0]; exact ((Below.refl _ w).alloc (Nat.le_refl _) _).alloc (by simp) _
  have z0 : W0.heap.size = w.heap.size + 1 + 1 := by rw [hW0]; simp
  have hd0 := h.below l0 (Nat.le_refl _)
  have co := own_any W0 E z n s hd0 (by omega) (fun i => by have := O.row i; omega) (fun i => by have := O.row i; omega) (fun i => by have := O.row i; omega)
  have q1 : (m : Int) < (n : Int) := by omega
  have q0 : (0 : Int) ≤ (m : Int) := by omega
  obtain ⟨ad, A1, c1, e1, _, _, e4, e6⟩ := hd0.rq.at_ (i := m) (by rw [hd0.l3]; exact hm)
  rw [hq] at e4
  obtain ⟨x0, x1, x2, x3, x4, x5, x6, x7, x8, x9⟩ := blk10 k0
  rw [e1] at x9
  clear e6 e1 hq
  have HW0 := Lib.hid hW0; have K0 := Lib.hid k0; have R0 := Lib.hid r0; have L0 := Lib.hid l0; have Z0 := Lib.hid z0; have CO := Lib.hid co
  clear hW0 k0 r0 l0 z0 co h O hd0
  go_enter Try.func30, Try.ntmps30
  go_upto_region 1 with fail
  rw [← HW0.out]
  clear HW0
  go_upto_region 5 with fail
  clear e4 x0 x1 x2 x3 x4 x5 x6 x7 x8 x9
  obtain ⟨x0, x1, x2, x3, x4, x5, x6, x7, x8, x9⟩ := blk10 K0.out
  go_wp2_with fail
  refine CO.out.mono ?_
  rintro e w1 ⟨z', B, rfl, hlt, hle, hd, hb⟩
  have hk := K0.out.below hb K0.out.lt
  have hr := R0.out.below hb R0.out.lt
  have hl := L0.out.trans (hb.mono L0.out.size)
  obtain ⟨W1, hW1⟩ : ∃ W, W = ((((((((((w1.setCell ⟨w.heap.size, 0, none⟩ (.int .i64 0)).setCell ⟨w.heap.size, 1, none⟩ (.slice none 0 0)).setCell ⟨w.heap.size, 2, none⟩ (.slice none 0 0)).setCell ⟨w.heap.size, 3, none⟩ (.slice none 0 0)).setCell ⟨w.heap.size, 4, none⟩ (.slice z'.A1 n z'.d1)).setCell ⟨w.heap.size, 5, none⟩ (.slice none 0 0)).setCell ⟨w.heap.size, 6, none⟩ (.slice none 0 0)).setCell ⟨w.heap.size, 7, none⟩ (.slice none 0 0)).setCell ⟨w.heap.size, 8, none⟩ (.slice z'.A2 n z'.d2)).setCell ⟨w.heap.size, 9, none⟩ (.slice z'.A3 n z'.d3)) := ⟨_, rfl⟩
  have hF := fr_set10 w1 w.heap.size (.int .i64 0) (.slice none 0 0) (.slice none 0 0) (.slice none 0 0) (.slice z'.A1 n z'.d1) (.slice none 0 0) (.slice none 0 0) (.slice none 0 0) (.slice z'.A2 n z'.d2) (.slice z'.A3 n z'.d3)
  have hB := hk.set10 (.int .i64 0) (.slice none 0 0) (.slice none 0 0) (.slice none 0 0) (.slice z'.A1 n z'.d1) (.slice none 0 0) (.slice none 0 0) (.slice none 0 0) (.slice z'.A2 n z'.d2) (.slice z'.A3 n z'.d3)
  rw [← hW1] at hF hB
  have hlt2 : w.heap.size + 1 < B := by rw [Z0.out] at hlt; omega
  have HD := Lib.hid (⟨hB, hF.blk hr (by omega), hd.fr hF (fun i h1 _ e => by omega), hl.trans (hF.below hl.size (fun i hi => by omega)), hlt2, by have := hF.size; omega⟩ : DB w W1 B z' n s)
  obtain ⟨y0, y1, y2, y3, y4, y5, y6, y7, y8, y9⟩ := blk10 hk
  have g0 := hk.frozen 0
  have g1 := hk.frozen 1
  have g2 := hk.frozen 2
  have g3 := hk.frozen 3
  have g4 := hk.frozen 4
  have g5 := hk.frozen 5
  have g6 := hk.frozen 6
  have g7 := hk.frozen 7
  have g8 := hk.frozen 8
  have g9 := hk.frozen 9
  have HW1 := Lib.hid hW1
  clear hk hr hl hF hB hlt hlt2 hle hd hb hW1 x0 x1 x2 x3 x4 x5 x6 x7 x8 x9 K0 R0 L0 Z0 CO
  go_upto_region 6 with fail
  rw [← HW1.out]
  clear HW1 y0 y1 y2 y3 y4 y5 y6 y7 y8 y9 g0 g1 g2 g3 g4 g5 g6 g7 g8 g9
  obtain ⟨x0, x1, x2, x3, x4, x5, x6, x7, x8, x9⟩ := blk10 HD.out.k
  obtain ⟨bq, Aq, cq, f1, f2, f3, f4, f5, f6, f7, f8⟩ := HD.out.at_bf hm
  rw [f1] at x4
  obtain ⟨row, hrow⟩ : ∃ row, row = gl s.bf m := ⟨_, rfl⟩
  obtain ⟨rl, hrl⟩ : ∃ rl, rl = row.length := ⟨_, rfl⟩
  rw [← hrow] at f5 f7 f8 hr
  rw [← hrl] at f5 f7 f8 hr
  have hrk : rl ≤ 50000 := by rw [hrl, hrow]; exact hR1
  have f60 := f6 m
  have hBW := HD.out.le
  have hBl := HD.out.lt
  have hgl := HD.out.k.lt
  have hlim : ∀ k, (Value.slice Aq rl cq).ownBlock = some k → k < W1.heap.size := fun k hk => (f7.lt hk).2.1
  have F7 := Lib.hid f7; have F8 := Lib.hid f8; have HRL := Lib.hid hrl; have HRW := Lib.hid hrow; have HLIM := Lib.hid hlim
  have c0 : m < z'.d1 := by omega
  clear f7 f8 hrl hrow hlim f1 f6 HD
  go_upto_region 7 with fail
  go_cut [] (fun wx => Hid (DB w wx B z' n { s with bf := s.bf.set m (row ++ [v]) }))
  case first =>
    go_region_law (first
    | (refine step_append_sl (by rfl) (.tmp 55) (.tmp 57) (by rfl) B (.slice Aq rl cq) row [v] (by rfl) (F7.out.fr ((Fr.refl (fun _ => False) W1).drew.alloc _) (fun _ _ h => h)) ⟨W1.heap.size, 0, none⟩ 1 1 (by rfl) (by rfl) (reads_one_c W1.drew v _) (by rw [← HRL.out]; omega) (by simp; omega) ?_
       intro A' c' w2 hs2 hf2 hk2
       rw [← HRL.out] at hs2 hk2 ⊢
       have hf3 : Fr (fun k => (Value.slice Aq rl cq).ownBlock = some k) W1 w2 := ((Fr.refl (fun _ => False) W1).drew.alloc _ |>.mono (fun _ _ h => h.elim)).trans hf2 (fun _ _ h => h)
       obtain ⟨⟨v5, v6, v7⟩, HT⟩ := F8.out w2 A' (rl + 1) c' (row ++ [v]) (by rw [List.length_append, ← HRL.out]; rfl) hf3 hs2 (fun k hk => (hk2 k hk).imp_right (fun h => by simp at h; omega)))
    | fail)
    all_goals
      have HT2 := Lib.hid HT
      clear HT hs2 hf2 hf3 hk2 v5 v6 v7 f5 f60 F7 F8 HRL HLIM x0 x1 x2 x3 x4 x5 x6 x7 x8 x9
      go_wp2_with fail
      go_meet
      exact HT2
  case rest =>
  have HD := hcut
  obtain ⟨W3, hW3⟩ : ∃ W, W = wc := ⟨_, rfl⟩
  rw [← hW3] at HD ⊢
  clear hW3 hcut f5 f60 F7 F8 HRL HLIM x0 x1 x2 x3 x4 x5 x6 x7 x8 x9
  obtain ⟨x0, x1, x2, x3, x4, x5, x6, x7, x8, x9⟩ := blk10 HD.out.k
  obtain ⟨s0, s1, s2, s3, s4, s5, s6, s7, s8, s9⟩ := blk10 HD.out.r
  have t0 := HD.out.r.frozen 0
  have t1 := HD.out.r.frozen 1
  have t2 := HD.out.r.frozen 2
  have t3 := HD.out.r.frozen 3
  have t4 := HD.out.r.frozen 4
  have t5 := HD.out.r.frozen 5
  have t6 := HD.out.r.frozen 6
  have t7 := HD.out.r.frozen 7
  have t8 := HD.out.r.frozen 8
  have t9 := HD.out.r.frozen 9
  have HE := Lib.hid (doc_fin HD.out)
  clear HD
  go_wp2_with fail
  refine bodyPost_ret (v := .tuple #[.agg (mkD z' n), .int .i64 (-1), .bool true]) (resC_2 rfl _ _ (w.heap.size + 1) 28 _ (0, 0) _ _ _ rfl rfl rfl HE.out.1 Try.underlying28 rfl (by kernel_rfl)) rfl ?_
  exact ⟨z', rfl, by rw [← HRW.out]; exact HE.out.2.1, HE.out.2.2⟩
set_option maxRecDepth 100000 in
set_option maxHeartbeats 8000000 in
theorem refSend_wait (w : World) (E : Nat → Prop) (z : ChZ) (n : Nat) (s : Ck) (h : DocC w E z n s) {K : Nat} (O : CkOk K n s) (hK : K ≤ 50000) (hn : n ≤ 1000) (m : Nat) (hm : m < n) (room t v : Int) (hq : gl s.rq m = []) (hr : ¬ ((gl s.bf m).length : Int) < room) :
    Calls Try.prog 30 #[.agg (mkD z n), .int .i64 (m : Int), .int .i64 room, .int .i64 t, .int .i64 v] w fun e w' => ∃ z' : ChZ, e = .returned (.tuple #[.agg (mkD z' n), .int .i64 (-1), .bool false]) ∧ DocC w' (fun k => w.heap.size ≤ k) z' n ({ s with sq := s.sq.set m (gl s.sq m ++ [t, v]) }) ∧ Below w.heap.size w w' := by
  have hR1 : (gl s.bf m).length ≤ 50000 := by have := O.row m; omega
  have hR2 : (gl s.sq m).length ≤ 50000 := by have := O.row m; omega
  obtain ⟨W0, hW0⟩ : ∃ W, W = (w.alloc (.cells (mkD z n) 28)).alloc (.cells zeroC 28) := ⟨_, rfl⟩
  have k0 : Blk W0 w.heap.size 28 (mkD z n) := by rw [hW0]; exact (Blk.new w _ _).alloc _
  have r0 : Blk W0 (w.heap.size + 1) 28 zeroC := by rw [hW0]; simpa using Blk.new (w.alloc (.cells (mkD z n) 28)) 28 zeroC
  have l0 : Below w.heap.size w W0 := by rw [hW0]; exact ((Below.refl _ w).alloc (Nat.le_refl _) _).alloc (by simp) _
  have z0 : W0.heap.size = w.heap.size + 1 + 1 := by rw [hW0]; simp
  have hd0 := h.below l0 (Nat.le_refl _)
  have co := own_any W0 E z n s hd0 (by omega) (fun i => by have := O.row i; omega) (fun i => by have := O.row i; omega) (fun i => by have := O.row i; omega)
  have q1 : (m : Int) < (n : Int) := by omega
  have q0 : (0 : Int) ≤ (m : Int) := by omega
  obtain ⟨ad, A1, c1, e1, _, _, e4, e6⟩ := hd0.rq.at_ (i := m) (by rw [hd0.l3]; exact hm)
  rw [hq] at e4
  obtain ⟨x0, x1, x2, x3, x4, x5, x6, x7, x8, x9⟩ := blk10 k0
  rw [e1] at x9
  clear e6 e1 hq
  have HW0 := Lib.hid hW0; have K0 := Lib.hid k0; have R0 := Lib.hid r0; have L0 := Lib.hid l0; have Z0 := Lib.hid z0; have CO := Lib.hid co
  clear hW0 k0 r0 l0 z0 co h O hd0
  go_enter Try.func30, Try.ntmps30
  go_upto_region 1 with fail
  rw [← HW0.out]
  clear HW0
  go_upto_region 5 with fail
  clear e4 x0 x1 x2 x3 x4 x5 x6 x7 x8 x9
  obtain ⟨x0, x1, x2, x3, x4, x5, x6, x7, x8, x9⟩ := blk10 K0.out
  go_wp2_with fail
  refine CO.out.mono ?_
  rintro e w1 ⟨z', B, rfl, hlt, hle, hd, hb⟩
  have hk := K0.out.below hb K0.out.lt
  have hr := R0.out.below hb R0.out.lt
  have hl := L0.out.trans (hb.mono L0.out.size)
  obtain ⟨W1, hW1⟩ : ∃ W, W = ((((((((((w1.setCell ⟨w.heap.size, 0, none⟩ (.int .i64 0)).setCell ⟨w.heap.size, 1, none⟩ (.slice none 0 0)).setCell ⟨w.heap.size, 2, none⟩ (.slice none 0 0)).setCell ⟨w.heap.size, 3, none⟩ (.slice none 0 0)).setCell ⟨w.heap.size, 4, none⟩ (.slice z'.A1 n z'.d1)).setCell ⟨w.heap.size, 5, none⟩ (.slice none 0 0)).setCell ⟨w.heap.size, 6, none⟩ (.slice none 0 0)).setCell ⟨w.heap.size, 7, none⟩ (.slice none 0 0)).setCell ⟨w.heap.size, 8, none⟩ (.slice z'.A2 n z'.d2)).setCell ⟨w.heap.size, 9, none⟩ (.slice z'.A3 n z'.d3)) := ⟨_, rfl⟩
  have hF := fr_set10 w1 w.heap.size (.int .i64 0) (.slice none 0 0) (.slice none 0 0) (.slice none 0 0) (.slice z'.A1 n z'.d1) (.slice none 0 0) (.slice none 0 0) (.slice none 0 0) (.slice z'.A2 n z'.d2) (.slice z'.A3 n z'.d3)
  have hB := hk.set10 (.int .i64 0) (.slice none 0 0) (.slice none 0 0) (.slice none 0 0) (.slice z'.A1 n z'.d1) (.slice none 0 0) (.slice none 0 0) (.slice none 0 0) (.slice z'.A2 n z'.d2) (.slice z'.A3 n z'.d3)
  rw [← hW1] at hF hB
  have hlt2 : w.heap.size + 1 < B := by rw [Z0.out] at hlt; omega
  have HD := Lib.hid (⟨hB, hF.blk hr (by omega), hd.fr hF (fun i h1 _ e => by omega), hl.trans (hF.below hl.size (fun i hi => by omega)), hlt2, by have := hF.size; omega⟩ : DB w W1 B z' n s)
  obtain ⟨y0, y1, y2, y3, y4, y5, y6, y7, y8, y9⟩ := blk10 hk
  have g0 := hk.frozen 0
  have g1 := hk.frozen 1
  have g2 := hk.frozen 2
  have g3 := hk.frozen 3
  have g4 := hk.frozen 4
  have g5 := hk.frozen 5
  have g6 := hk.frozen 6
  have g7 := hk.frozen 7
  have g8 := hk.frozen 8
  have g9 := hk.frozen 9
  have HW1 := Lib.hid hW1
  clear hk hr hl hF hB hlt hlt2 hle hd hb hW1 x0 x1 x2 x3 x4 x5 x6 x7 x8 x9 K0 R0 L0 Z0 CO
  go_upto_region 6 with fail
  rw [← HW1.out]
  clear HW1 y0 y1 y2 y3 y4 y5 y6 y7 y8 y9 g0 g1 g2 g3 g4 g5 g6 g7 g8 g9
  obtain ⟨x0, x1, x2, x3, x4, x5, x6, x7, x8, x9⟩ := blk10 HD.out.k
  obtain ⟨bp, Ap, cp, p1, p2, p3, p4, p5, p6, p7, p8⟩ := HD.out.at_bf hm
  rw [p1] at x4
  have c1 : m < z'.d1 := by omega
  clear p1 p6 p7 p8
  generalize (gl s.bf m).length = bl at *
  obtain ⟨bq, Aq, cq, f1, f2, f3, f4, f5, f6, f7, f8⟩ := HD.out.at_sq hm
  rw [f1] at x8
  obtain ⟨row, hrow⟩ : ∃ row, row = gl s.sq m := ⟨_, rfl⟩
  obtain ⟨rl, hrl⟩ : ∃ rl, rl = row.length := ⟨_, rfl⟩
  rw [← hrow] at f5 f7 f8
  rw [← hrl] at f5 f7 f8
  have hrk : rl ≤ 50000 := by rw [hrl, hrow]; exact hR2
  have f60 := f6 m
  have hBW := HD.out.le
  have hBl := HD.out.lt
  have hgl := HD.out.k.lt
  have hlim : ∀ k, (Value.slice Aq rl cq).ownBlock = some k → k < W1.heap.size := fun k hk => (f7.lt hk).2.1
  have F7 := Lib.hid f7; have F8 := Lib.hid f8; have HRL := Lib.hid hrl; have HRW := Lib.hid hrow; have HLIM := Lib.hid hlim
  have c0 : m < z'.d2 := by omega
  clear f7 f8 hrl hrow hlim f1 f6 HD
  go_upto_region 9 with fail
  go_cut [] (fun wx => Hid (DB w wx B z' n { s with sq := s.sq.set m (row ++ [t, v]) }))
  case first =>
    go_region_law (first
    | (refine step_append_sl (by rfl) (.tmp 68) (.tmp 71) (by rfl) B (.slice Aq rl cq) row [t, v] (by rfl) (F7.out.fr ((Fr.refl (fun _ => False) W1).drew.alloc _) (fun _ _ h => h)) ⟨W1.heap.size, 0, none⟩ 2 2 (by rfl) (by rfl) (reads_two_c W1.drew t v _) (by rw [← HRL.out]; omega) (by simp; omega) ?_
       intro A' c' w2 hs2 hf2 hk2
       rw [← HRL.out] at hs2 hk2 ⊢
       have hf3 : Fr (fun k => (Value.slice Aq rl cq).ownBlock = some k) W1 w2 := ((Fr.refl (fun _ => False) W1).drew.alloc _ |>.mono (fun _ _ h => h.elim)).trans hf2 (fun _ _ h => h)
       obtain ⟨⟨v5, v6, v7⟩, HT⟩ := F8.out w2 A' (rl + 2) c' (row ++ [t, v]) (by rw [List.length_append, ← HRL.out]; rfl) hf3 hs2 (fun k hk => (hk2 k hk).imp_right (fun h => by simp at h; omega)))
    | fail)
    all_goals
      have HT2 := Lib.hid HT
      clear HT hs2 hf2 hf3 hk2 v5 v6 v7 f5 f60 F7 F8 HRL HLIM x0 x1 x2 x3 x4 x5 x6 x7 x8 x9
      go_wp2_with fail
      go_meet
      exact HT2
  case rest =>
  have HD := hcut
  obtain ⟨W3, hW3⟩ : ∃ W, W = wc := ⟨_, rfl⟩
  rw [← hW3] at HD ⊢
  clear hW3 hcut f5 f60 F7 F8 HRL HLIM x0 x1 x2 x3 x4 x5 x6 x7 x8 x9
  obtain ⟨x0, x1, x2, x3, x4, x5, x6, x7, x8, x9⟩ := blk10 HD.out.k
  obtain ⟨s0, s1, s2, s3, s4, s5, s6, s7, s8, s9⟩ := blk10 HD.out.r
  have t0 := HD.out.r.frozen 0
  have t1 := HD.out.r.frozen 1
  have t2 := HD.out.r.frozen 2
  have t3 := HD.out.r.frozen 3
  have t4 := HD.out.r.frozen 4
  have t5 := HD.out.r.frozen 5
  have t6 := HD.out.r.frozen 6
  have t7 := HD.out.r.frozen 7
  have t8 := HD.out.r.frozen 8
  have t9 := HD.out.r.frozen 9
  have HE := Lib.hid (doc_fin HD.out)
  clear HD
  go_wp2_with fail
  refine bodyPost_ret (v := .tuple #[.agg (mkD z' n), .int .i64 (-1), .bool false]) (resC_2 rfl _ _ (w.heap.size + 1) 28 _ (0, 0) _ _ _ rfl rfl rfl HE.out.1 Try.underlying28 rfl (by kernel_rfl)) rfl ?_
  exact ⟨z', rfl, by rw [← HRW.out]; exact HE.out.2.1, HE.out.2.2⟩
theorem refSend_any (w : World) (E : Nat → Prop) (z : ChZ) (n : Nat) (s : Ck) (h : DocC w E z n s) {K : Nat} (O : CkOk K n s) (hK : K ≤ 50000) (hn : n ≤ 1000) (m : Nat) (hm : m < n) (room t v : Int) :
    Calls Try.prog 30 #[.agg (mkD z n), .int .i64 (m : Int), .int .i64 room, .int .i64 t, .int .i64 v] w fun e w' => ∃ z' : ChZ, e = .returned (.tuple #[.agg (mkD z' n), .int .i64 (sendV s m room t v).2.1, .bool (sendV s m room t v).2.2]) ∧ DocC w' (fun k => w.heap.size ≤ k) z' n (sendV s m room t v).1 ∧ Below w.heap.size w w' := by
  unfold sendV
  cases hq : gl s.rq m with
  | cons x r => exact refSend_meet w E z n s h O hK hn m hm room t v x r hq
  | nil =>
    by_cases hr : ((gl s.bf m).length : Int) < room
    · simp only [hr, if_true]
      exact refSend_room w E z n s h O hK hn m hm room t v hq hr
    · simp only [hr, if_false]
      exact refSend_wait w E z n s h O hK hn m hm room t v hq hr
end Go.Proofs.Ytbgigkamlnchcaa
