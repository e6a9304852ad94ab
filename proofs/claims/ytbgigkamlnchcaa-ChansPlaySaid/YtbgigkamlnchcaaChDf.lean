
/-
  The document's Recv: where nothing lies.
-/
import Derived.Test.YtbgigkamlnchcaaChDe
set_option linter.unusedVariables false
set_option linter.unusedSimpArgs false
namespace Go.Proofs.Ytbgigkamlnchcaa
open Go.RowKit Plain

theorem SlI.head {w : World} {B n c : Nat} {A : Option Addr} {l : List Int} (h : SlI w B (.slice A n c) l) (h0 : 0 < l.length) : ∃ ab ao, A = some ⟨ab, ao, none⟩ ∧ l.length ≤ c ∧ ab < w.heap.size ∧ ∀ (j : Nat) (y : Int), l[j]? = some y → w.cell? ⟨ab, ao + j, none⟩ = some (.int .i64 y) := by
  obtain ⟨A', c', e, hc, hn, hA⟩ := h
  injection e with e1 e2 e3
  subst e1 e3
  rcases A with _ | ad
  · have := hn rfl
    omega
  · obtain ⟨b, o, cs, rfl, hb, hbl, ho, hcell⟩ := hA ad rfl
    refine ⟨b, o, rfl, hc, hbl.lt, fun j y hj => ?_⟩
    rw [hbl.cell]
    simpa using hcell j y hj
set_option maxRecDepth 100000 in
set_option maxHeartbeats 8000000 in
theorem refRecv_wait (w : World) (E : Nat → Prop) (z : ChZ) (n : Nat) (s : Ck) (h : DocC w E z n s) {K : Nat} (O : CkOk K n s) (hK : K ≤ 50000) (hn : n ≤ 1000) (m : Nat) (hm : m < n) (t : Int) (hb0 : gl s.bf m = []) (hs0 : gl s.sq m = []) :
    Calls Try.prog 31 #[.agg (mkD z n), .int .i64 (m : Int), .int .i64 t] w fun e w' => ∃ z' : ChZ, e = .returned (.tuple #[.agg (mkD z' n), .int .i64 0, .int .i64 (-1), .bool false]) ∧ DocC w' (fun k => w.heap.size ≤ k) z' n ({ s with rq := s.rq.set m (gl s.rq m ++ [t]) }) ∧ Below w.heap.size w w' := by
  have hR1 : (gl s.bf m).length ≤ 50000 := by have := O.row m; omega
  have hR2 : (gl s.sq m).length ≤ 50000 := by have := O.row m; omega
  have hR3 : (gl s.rq m).length ≤ 50000 := by have := O.row m; omega
  obtain ⟨W0, hW0⟩ : ∃ W, W = (w.alloc (.cells (mkD z n) 28)).alloc (.cells zeroC 28) := ⟨_, rfl⟩
  have k0 : Blk W0 w.heap.size 28 (mkD z n) := by rw [hW0]; exact (Blk.new w _ _).alloc _
  have r0 : Blk W0 (w.heap.size + 1) 28 zeroC := by rw [hW0]; simpa using Blk.new (w.alloc (.cells (mkD z n) 28)) 28 zeroC
  have l0 : Below w.heap.size w W0 := by rw [hW0]; exact ((Below.refl _ w).alloc (Nat.le_refl _) _).alloc (by simp) _
  have z0 : W0.heap.size = w.heap.size + 1 + 1 := by rw [hW0]; simp
  have hd0 := h.below l0 (Nat.le_refl _)
  have co := own_any W0 E z n s hd0 (by omega) (fun i => by have := O.row i; omega) (fun i => by have := O.row i; omega) (fun i => by have := O.row i; omega)
  have q1 : (m : Int) < (n : Int) := by omega
  have q0 : (0 : Int) ≤ (m : Int) := by omega
  have HW0 := Lib.hid hW0; have K0 := Lib.hid k0; have R0 := Lib.hid r0; have L0 := Lib.hid l0; have Z0 := Lib.hid z0; have CO := Lib.hid co
  clear hW0 k0 r0 l0 z0 co h O hd0
  go_enter Try.func31, Try.ntmps31
  go_upto_region 1 with fail
  rw [← HW0.out]
  clear HW0
  obtain ⟨x0, x1, x2, x3, x4, x5, x6, x7, x8, x9⟩ := blk10 K0.out
  go_wp2_with fail
  refine CO.out.mono ?_
  rintro e w1 ⟨z', B, rfl, hlt, hle, hd, hb⟩
  have hk := K0.out.below hb K0.out.lt
  have hr := R0.out.below hb R0.out.lt
  have hl := L0.out.trans (hb.mono L0.out.size)
  obtain ⟨W1, hW1⟩ : ∃ W, W = ((((((((((w1.setCell ⟨w.heap.size, 0, none⟩ (.int .i64 0)).setCell ⟨w.heap.size, 1, none⟩ (.slice none 0 0)).setCell ⟨w.heap.size, 2, none⟩ (.slice none 0 0)).setCell ⟨w.heap.size, 3, none⟩ (.slice none 0 0)).setCell ⟨w.heap.size, 4, none⟩ (.slice z'.A1 n z'.d1)).setCell ⟨w.heap.size, 5, none⟩ (.slice none 0 0)).setCell ⟨w.heap.size, 6, none⟩ (.slice none 0 0)).setCell ⟨w.heap.size, 7, none⟩ (.slice none 0 0)).setCell ⟨w.heap.size, 8, none⟩ (.slice z'.A2 n z'.d2)).setCell ⟨w.heap.size, 9, none⟩ (.slice z'.A3 n z'.d3)) := ⟨_, rfl⟩
  have hF := fr_set10 w1 w.heap.size (.int .i64 0) (.slice none 0 0) (.slice none 0 0) (.slice none 0 0) (.slice z'.A1 n z'.d1) (.slice none 0 0) (.slice none 0 0) (.slice none 0 0) (.slice z'.A2 n z'.d2) (.slice z'.A3 n z'.d3)
  have hB := hk.set10 (.int .i64 0) (.slice none 0 0) (.slice none 0 0) (.slice none 0 0) (.slice z'.A1 n z'.d1) (.slice none 0 0) (.slice none 0 0) (.slice none 0 0) (.slice z'.A2 n z'.d2) (.slice z'.A3 n z'.d3)
  rw [← hW1] at hF hB
  have hlt2 : w.heap.size + 1 < B := by rw [Z0.out] at hlt; omega
  have HD := Lib.hid (⟨hB, hF.blk hr (by omega), hd.fr hF (fun i h1 _ e => by omega), hl.trans (hF.below hl.size (fun i hi => by omega)), hlt2, by have := hF.size; omega⟩ : DB w W1 B z' n s)
  obtain ⟨y0, y1, y2, y3, y4, y5, y6, y7, y8, y9⟩ := blk10 hk
  have g0 := hk.frozen 0
  have g1 := hk.frozen 1
  have g2 := hk.frozen 2
  have g3 := hk.frozen 3
  have g4 := hk.frozen 4
  have g5 := hk.frozen 5
  have g6 := hk.frozen 6
  have g7 := hk.frozen 7
  have g8 := hk.frozen 8
  have g9 := hk.frozen 9
  have HW1 := Lib.hid hW1
  clear hk hr hl hF hB hlt hlt2 hle hd hb hW1 x0 x1 x2 x3 x4 x5 x6 x7 x8 x9 K0 R0 L0 Z0 CO
  go_upto_region 2 with fail
  rw [← HW1.out]
  clear HW1 y0 y1 y2 y3 y4 y5 y6 y7 y8 y9 g0 g1 g2 g3 g4 g5 g6 g7 g8 g9
  obtain ⟨x0, x1, x2, x3, x4, x5, x6, x7, x8, x9⟩ := blk10 HD.out.k
  obtain ⟨bp, Ap, cp, p1, p2, p3, p4, p5, p6, p7, p8⟩ := HD.out.at_bf hm
  rw [p1] at x4
  rw [hb0] at p5
  have c7 : m < z'.d1 := by omega
  have p50 : W1.cell? ⟨bp, m, none⟩ = some (.slice Ap 0 cp) := p5
  clear p1 p2 p3 p5 p6 p7 p8
  go_upto_region 11 with fail
  clear p50 p4 c7
  obtain ⟨bp2, Ap, cp, p1, p2, p3, p4, p5, p6, p7, p8⟩ := HD.out.at_sq hm
  rw [p1] at x8
  rw [hs0] at p5
  have c7 : m < z'.d2 := by omega
  have p50 : W1.cell? ⟨bp2, m, none⟩ = some (.slice Ap 0 cp) := p5
  clear p1 p2 p3 p5 p6 p7 p8
  go_upto_region 16 with fail
  clear p50 p4 c7
  obtain ⟨bq, Aq, cq, f1, f2, f3, f4, f5, f6, f7, f8⟩ := HD.out.at_rq hm
  rw [f1] at x9
  obtain ⟨row, hrow⟩ : ∃ row, row = gl s.rq m := ⟨_, rfl⟩
  obtain ⟨rl, hrl⟩ : ∃ rl, rl = row.length := ⟨_, rfl⟩
  rw [← hrow] at f5 f7 f8
  rw [← hrl] at f5 f7 f8
  have hrk : rl ≤ 50000 := by rw [hrl, hrow]; exact hR3
  have f60 := f6 m
  have hBW := HD.out.le
  have hBl := HD.out.lt
  have hgl := HD.out.k.lt
  have hlim : ∀ k, (Value.slice Aq rl cq).ownBlock = some k → k < W1.heap.size := fun k hk => (f7.lt hk).2.1
  have F7 := Lib.hid f7; have F8 := Lib.hid f8; have HRL := Lib.hid hrl; have HRW := Lib.hid hrow; have HLIM := Lib.hid hlim
  have c0 : m < z'.d3 := by omega
  clear f7 f8 hrl hrow hlim f1 f6 HD
  go_upto_region 16 with fail
  go_cut [] (fun wx => Hid (DB w wx B z' n { s with rq := s.rq.set m (row ++ [t]) }))
  case first =>
    go_region_law (first
    | (refine step_append_sl (by rfl) (.tmp 126) (.tmp 128) (by rfl) B (.slice Aq rl cq) row [t] (by rfl) (F7.out.fr ((Fr.refl (fun _ => False) W1).drew.alloc _) (fun _ _ h => h)) ⟨W1.heap.size, 0, none⟩ 1 1 (by rfl) (by rfl) (reads_one_c W1.drew t _) (by rw [← HRL.out]; omega) (by simp; omega) ?_
       intro A' c' w2 hs2 hf2 hk2
       rw [← HRL.out] at hs2 hk2 ⊢
       have hf3 : Fr (fun k => (Value.slice Aq rl cq).ownBlock = some k) W1 w2 := ((Fr.refl (fun _ => False) W1).drew.alloc _ |>.mono (fun _ _ h => h.elim)).trans hf2 (fun _ _ h => h)
       obtain ⟨⟨v5, v6, v7⟩, HT⟩ := F8.out w2 A' (rl + 1) c' (row ++ [t]) (by rw [List.length_append, ← HRL.out]; rfl) hf3 hs2 (fun k hk => (hk2 k hk).imp_right (fun h => by simp at h; omega)))
    | fail)
    all_goals
      have HT2 := Lib.hid HT
      clear HT hs2 hf2 hf3 hk2 v5 v6 v7 f5 f60 F7 F8 HRL HLIM x0 x1 x2 x3 x4 x5 x6 x7 x8 x9
      go_wp2_with fail
      go_meet
      exact HT2
  case rest =>
  have HD := hcut
  obtain ⟨W3, hW3⟩ : ∃ W, W = wc := ⟨_, rfl⟩
  rw [← hW3] at HD ⊢
  clear hW3 hcut f5 f60 F7 F8 HRL HLIM x0 x1 x2 x3 x4 x5 x6 x7 x8 x9
  obtain ⟨x0, x1, x2, x3, x4, x5, x6, x7, x8, x9⟩ := blk10 HD.out.k
  obtain ⟨s0, s1, s2, s3, s4, s5, s6, s7, s8, s9⟩ := blk10 HD.out.r
  have t0 := HD.out.r.frozen 0
  have t1 := HD.out.r.frozen 1
  have t2 := HD.out.r.frozen 2
  have t3 := HD.out.r.frozen 3
  have t4 := HD.out.r.frozen 4
  have t5 := HD.out.r.frozen 5
  have t6 := HD.out.r.frozen 6
  have t7 := HD.out.r.frozen 7
  have t8 := HD.out.r.frozen 8
  have t9 := HD.out.r.frozen 9
  have HE := Lib.hid (doc_fin HD.out)
  clear HD
  go_wp2_with fail
  refine bodyPost_ret (v := .tuple #[.agg (mkD z' n), .int .i64 0, .int .i64 (-1), .bool false]) (resC_3 rfl _ _ (w.heap.size + 1) 28 _ (0, 0) _ _ _ _ rfl rfl rfl rfl HE.out.1 Try.underlying28 rfl (by kernel_rfl)) rfl ?_
  exact ⟨z', rfl, by rw [← HRW.out]; exact HE.out.2.1, HE.out.2.2⟩
set_option maxRecDepth 100000 in
set_option maxHeartbeats 8000000 in
theorem refRecv_take (w : World) (E : Nat → Prop) (z : ChZ) (n : Nat) (s : Ck) (h : DocC w E z n s) {K : Nat} (O : CkOk K n s) (hK : K ≤ 50000) (hn : n ≤ 1000) (m : Nat) (hm : m < n) (t : Int) (hb0 : gl s.bf m = []) (x y : Int) (r : List Int) (hs0 : gl s.sq m = x :: y :: r) :
    Calls Try.prog 31 #[.agg (mkD z n), .int .i64 (m : Int), .int .i64 t] w fun e w' => ∃ z' : ChZ, e = .returned (.tuple #[.agg (mkD z' n), .int .i64 y, .int .i64 x, .bool true]) ∧ DocC w' (fun k => w.heap.size ≤ k) z' n ({ s with sq := s.sq.set m r }) ∧ Below w.heap.size w w' := by
  have hR1 : (gl s.bf m).length ≤ 50000 := by have := O.row m; omega
  have hR2 : (gl s.sq m).length ≤ 50000 := by have := O.row m; omega
  have hR3 : (gl s.rq m).length ≤ 50000 := by have := O.row m; omega
  obtain ⟨W0, hW0⟩ : ∃ W, W = (w.alloc (.cells (mkD z n) 28)).alloc (.cells zeroC 28) := ⟨_, rfl⟩
  have k0 : Blk W0 w.heap.size 28 (mkD z n) := by rw [hW0]; exact (Blk.new w _ _).alloc _
  have r0 : Blk W0 (w.heap.size + 1) 28 zeroC := by rw [hW0]; simpa using Blk.new (w.alloc (.cells (mkD z n) 28)) 28 zeroC
  have l0 : Below w.heap.size w W0 := by rw [hW0]; exact ((Below.refl _ w).alloc (Nat.le_refl _) _).alloc (by simp) _
  have z0 : W0.heap.size = w.heap.size + 1 + 1 := by rw [hW0]; simp
  have hd0 := h.below l0 (Nat.le_refl _)
  have co := own_any W0 E z n s hd0 (by omega) (fun i => by have := O.row i; omega) (fun i => by have := O.row i; omega) (fun i => by have := O.row i; omega)
  have q1 : (m : Int) < (n : Int) := by omega
  have q0 : (0 : Int) ≤ (m : Int) := by omega
  have HW0 := Lib.hid hW0; have K0 := Lib.hid k0; have R0 := Lib.hid r0; have L0 := Lib.hid l0; have Z0 := Lib.hid z0; have CO := Lib.hid co
  clear hW0 k0 r0 l0 z0 co h O hd0
  go_enter Try.func31, Try.ntmps31
  go_upto_region 1 with fail
  rw [← HW0.out]
  clear HW0
  obtain ⟨x0, x1, x2, x3, x4, x5, x6, x7, x8, x9⟩ := blk10 K0.out
  go_wp2_with fail
  refine CO.out.mono ?_
  rintro e w1 ⟨z', B, rfl, hlt, hle, hd, hb⟩
  have hk := K0.out.below hb K0.out.lt
  have hr := R0.out.below hb R0.out.lt
  have hl := L0.out.trans (hb.mono L0.out.size)
  obtain ⟨W1, hW1⟩ : ∃ W, W = ((((((((((w1.setCell ⟨w.heap.size, 0, none⟩ (.int .i64 0)).setCell ⟨w.heap.size, 1, none⟩ (.slice none 0 0)).setCell ⟨w.heap.size, 2, none⟩ (.slice none 0 0)).setCell ⟨w.heap.size, 3, none⟩ (.slice none 0 0)).setCell ⟨w.heap.size, 4, none⟩ (.slice z'.A1 n z'.d1)).setCell ⟨w.heap.size, 5, none⟩ (.slice none 0 0)).setCell ⟨w.heap.size, 6, none⟩ (.slice none 0 0)).setCell ⟨w.heap.size, 7, none⟩ (.slice none 0 0)).setCell ⟨w.heap.size, 8, none⟩ (.slice z'.A2 n z'.d2)).setCell ⟨w.heap.size, 9, none⟩ (.slice z'.A3 n z'.d3)) := ⟨_, rfl⟩
  have hF := fr_set10 w1 w.heap.size (.int .i64 0) (.slice none 0 0) (.slice none 0 0) (.slice none 0 0) (.slice z'.A1 n z'.d1) (.slice none 0 0) (.slice none 0 0) (.slice none 0 0) (.slice z'.A2 n z'.d2) (.slice z'.A3 n z'.d3)
  have hB := hk.set10 (.int .i64 0) (.slice none 0 0) (.slice none 0 0) (.slice none 0 0) (.slice z'.A1 n z'.d1) (.slice none 0 0) (.slice none 0 0) (.slice none 0 0) (.slice z'.A2 n z'.d2) (.slice z'.A3 n z'.d3)
  rw [← hW1] at hF hB
  have hlt2 : w.heap.size + 1 < B := by rw [Z0.out] at hlt; omega
  have HD := Lib.hid (⟨hB, hF.blk hr (by omega), hd.fr hF (fun i h1 _ e => by omega), hl.trans (hF.below hl.size (fun i hi => by omega)), hlt2, by have := hF.size; omega⟩ : DB w W1 B z' n s)
  obtain ⟨y0, y1, y2, y3, y4, y5, y6, y7, y8, y9⟩ := blk10 hk
  have g0 := hk.frozen 0
  have g1 := hk.frozen 1
  have g2 := hk.frozen 2
  have g3 := hk.frozen 3
  have g4 := hk.frozen 4
  have g5 := hk.frozen 5
  have g6 := hk.frozen 6
  have g7 := hk.frozen 7
  have g8 := hk.frozen 8
  have g9 := hk.frozen 9
  have HW1 := Lib.hid hW1
  clear hk hr hl hF hB hlt hlt2 hle hd hb hW1 x0 x1 x2 x3 x4 x5 x6 x7 x8 x9 K0 R0 L0 Z0 CO
  go_upto_region 2 with fail
  rw [← HW1.out]
  clear HW1 y0 y1 y2 y3 y4 y5 y6 y7 y8 y9 g0 g1 g2 g3 g4 g5 g6 g7 g8 g9
  obtain ⟨x0, x1, x2, x3, x4, x5, x6, x7, x8, x9⟩ := blk10 HD.out.k
  obtain ⟨bp, Ap, cp, p1, p2, p3, p4, p5, p6, p7, p8⟩ := HD.out.at_bf hm
  rw [p1] at x4
  rw [hb0] at p5
  have c7 : m < z'.d1 := by omega
  have p50 : W1.cell? ⟨bp, m, none⟩ = some (.slice Ap 0 cp) := p5
  clear p1 p2 p3 p5 p6 p7 p8
  go_upto_region 11 with fail
  clear p50 p4 c7
  obtain ⟨bq, Aq, cq, f1, f2, f3, f4, f5, f6, f7, f8⟩ := HD.out.at_sq hm
  rw [f1] at x8
  rw [hs0] at f5 f7 f8
  obtain ⟨ab, ao, hA, hrc, hab, hcl⟩ := f7.head (by simp)
  subst hA
  have e0 : W1.cell? ⟨ab, ao + 0, none⟩ = some (.int .i64 x) := hcl 0 x rfl
  rw [Nat.add_zero] at e0
  have e1 : W1.cell? ⟨ab, ao + 1, none⟩ = some (.int .i64 y) := hcl 1 y rfl
  have hput : ∀ A' n' c', A' = (if cq = 2 then some ⟨ab, ao, none⟩ else some ⟨ab, ao + 2, none⟩) → n' = r.length → c' = cq - 2 → Hid (DB w (W1.setCell ⟨bq, m, none⟩ (.slice A' n' c')) B z' n { s with sq := s.sq.set m r }) := by
    intro A' n' c' e1 e2 e3
    subst e1 e2 e3
    refine Lib.hid (f8 W1 _ _ _ r rfl (Fr.refl _ _) ?_ ?_).2
    · exact f7.drop 2 (by simp)
    · intro k hk
      left
      split at hk <;> simpa [Value.ownBlock] using hk
  have HPUT := Lib.hid hput
  have hlen : (x :: y :: r).length = r.length + 2 := rfl
  rw [hlen] at f5 hrc
  have f60 := f6 m
  have hgl := HD.out.k.lt
  have hBl := HD.out.lt
  have hgb1 : ¬ w.heap.size = bq := by omega
  have hgb2 : ¬ bq = w.heap.size := by omega
  have c0 : m < z'.d2 := by omega
  obtain ⟨rl, hrl⟩ : ∃ rl, rl = r.length := ⟨_, rfl⟩
  rw [← hrl] at f5 hrc HPUT
  have c1 : (2 : Int) ≤ (rl : Int) + 2 := by omega
  have c2 : (rl : Int) + 2 ≤ (cq : Int) := by omega
  have c3 : (0 : Int) < (rl : Int) + 2 := by omega
  have c4 : (0 : Int) ≤ (rl : Int) + 2 := by omega
  have hrlk : rl ≤ 50000 := by have := hR2; rw [hs0] at this; simp at this; omega
  have HRL := Lib.hid hrl
  clear f1 f2 f6 f7 f8 hput hcl hrl hlen
  clear HD hs0 hb0
  go_upto_region 14 with fail
  go_cut [] (fun wx => Hid (DB w wx B z' n { s with sq := s.sq.set m r }))
  case first =>
    clear e0 e1
    by_cases hc1 : cq = 2
    · subst hc1
      have hr0 : rl = 0 := by omega
      subst hr0
      have HT := HPUT.out (some ⟨ab, ao, none⟩) 0 0 (by simp) rfl (by omega)
      go_region
      all_goals
        clear HPUT
        go_wp2_with fail
        go_meet
        first | exact HT | exact Lib.hid (HT.out.drewN 1)
    · have hc2 : ¬ (cq : Int) = 2 := by omega
      have hc3 : ¬ cq = 2 := hc1
      have HT := HPUT.out (some ⟨ab, ao + 2, none⟩) rl (cq - 2) (by simp [hc3]) rfl rfl
      go_region
      all_goals
        clear HPUT
        go_wp2_with fail
        go_meet
        first | exact HT | exact Lib.hid (HT.out.drewN 1)
  case rest =>
  have HD := hcut
  obtain ⟨W3, hW3⟩ : ∃ W, W = wc := ⟨_, rfl⟩
  rw [← hW3] at HD ⊢
  clear hW3 hcut HPUT HRL f5 f60 e0 e1 x0 x1 x2 x3 x4 x5 x6 x7 x8 x9
  obtain ⟨x0, x1, x2, x3, x4, x5, x6, x7, x8, x9⟩ := blk10 HD.out.k
  obtain ⟨s0, s1, s2, s3, s4, s5, s6, s7, s8, s9⟩ := blk10 HD.out.r
  have t0 := HD.out.r.frozen 0
  have t1 := HD.out.r.frozen 1
  have t2 := HD.out.r.frozen 2
  have t3 := HD.out.r.frozen 3
  have t4 := HD.out.r.frozen 4
  have t5 := HD.out.r.frozen 5
  have t6 := HD.out.r.frozen 6
  have t7 := HD.out.r.frozen 7
  have t8 := HD.out.r.frozen 8
  have t9 := HD.out.r.frozen 9
  have HE := Lib.hid (doc_fin HD.out)
  clear HD
  go_wp2_with fail
  refine bodyPost_ret (v := .tuple #[.agg (mkD z' n), .int .i64 y, .int .i64 x, .bool true]) (resC_3 rfl _ _ (w.heap.size + 1) 28 _ (0, 0) _ _ _ _ rfl rfl rfl rfl HE.out.1 Try.underlying28 rfl (by kernel_rfl)) rfl ?_
  exact ⟨z', rfl, HE.out.2.1, HE.out.2.2⟩
end Go.Proofs.Ytbgigkamlnchcaa
