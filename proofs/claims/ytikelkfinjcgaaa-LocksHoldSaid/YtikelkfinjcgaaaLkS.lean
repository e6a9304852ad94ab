
/-
  The document's Lock.
-/
import Derived.Test.YtikelkfinjcgaaaLkQ
set_option linter.unusedVariables false
set_option linter.unusedSimpArgs false
namespace Go.Proofs.Ytikelkfinjcgaaa
open Go.RowKit Plain

set_option maxRecDepth 100000 in
set_option maxHeartbeats 8000000 in
theorem refLock_free (w : World) (E : Nat → Prop) (z : LkQ) (p q n : Nat) (s : Lk) (h : DocC w E z p q n s) (hs : SzL s) (m : Nat) (hm : m < p) (t : Int) (hx : gn s.own m = -1) :
    Calls Try.prog 43 #[.agg (mkC z p q n), .int .i64 (m : Int), .int .i64 t] w fun e w' => ∃ z' : LkQ, e = .returned (.tuple #[.agg (mkC z' p q n), .bool true]) ∧ DocC w' (fun k => w.heap.size ≤ k) z' p q n { s with own := s.own.set m t } ∧ Below w.heap.size w w' := by
  obtain ⟨i0, hi0, hz0, hz1, hz2⟩ := info_parts info_int
  have hpa : p ≤ 100000 := by have := hs.a; have := h.lo; omega
  have hna : n ≤ 100000 := by have := hs.b; have := h.ln; omega
  have hqa : q ≤ 100000 := by have := hs.c; have := h.lw; omega
  have q1 : (m : Int) < (p : Int) := by omega
  have q0 : (0 : Int) ≤ (m : Int) := by omega
  go_enter Try.func43, Try.ntmps43
  obtain ⟨W0, hW0⟩ : ∃ W, W = (w.alloc (.cells (mkC z p q n) 27)).alloc (.cells zeroC 27) := ⟨_, rfl⟩
  have k0 : Blk W0 w.heap.size 27 (mkC z p q n) := by rw [hW0]; exact (Blk.new w _ _).alloc _
  have r0 : Blk W0 (w.heap.size + 1) 27 zeroC := by rw [hW0]; simpa using Blk.new (w.alloc (.cells (mkC z p q n) 27)) 27 zeroC
  have l0 : Below w.heap.size w W0 := by rw [hW0]; exact ((Below.refl _ w).alloc (Nat.le_refl _) _).alloc (by simp) _
  have z0 : W0.heap.size = w.heap.size + 1 + 1 := by rw [hW0]; simp
  have co := own_any W0 E z p q n s (h.below l0 (Nat.le_refl _)) hs
  have HW0 := Lib.hid hW0; have K0 := Lib.hid k0; have R0 := Lib.hid r0; have L0 := Lib.hid l0; have Z0 := Lib.hid z0; have CO := Lib.hid co
  clear hW0 k0 r0 l0 z0 co h hs
  go_upto_region 1 with fail
  rw [← HW0.out]
  clear HW0
  obtain ⟨x0, x1, x2, x3, x4, x5, x6, x7, x8, x9⟩ := blk10 K0.out
  go_wp2_with fail
  refine CO.out.mono ?_
  rintro e w1 ⟨z', b0, b1, b2, b3, b4, b5, rfl, hlt, hd, hb⟩
  have hk := K0.out.below hb K0.out.lt
  have hr := R0.out.below hb R0.out.lt
  have hl := L0.out.trans (hb.mono L0.out.size)
  obtain ⟨W1, hW1⟩ : ∃ W, W = ((((((((((w1.setCell ⟨w.heap.size, 0, none⟩ (.int .i64 0)).setCell ⟨w.heap.size, 1, none⟩ (.slice none 0 0)).setCell ⟨w.heap.size, 2, none⟩ (.slice z'.A0 p z'.d0)).setCell ⟨w.heap.size, 3, none⟩ (.slice z'.A1 n z'.d1)).setCell ⟨w.heap.size, 4, none⟩ (.slice none 0 0)).setCell ⟨w.heap.size, 5, none⟩ (.slice z'.A2 p z'.d2)).setCell ⟨w.heap.size, 6, none⟩ (.slice z'.A3 q z'.d3)).setCell ⟨w.heap.size, 7, none⟩ (.slice z'.A4 n z'.d4)).setCell ⟨w.heap.size, 8, none⟩ (.slice none 0 0)).setCell ⟨w.heap.size, 9, none⟩ (.slice none 0 0)) := ⟨_, rfl⟩
  have hF := fr_set10 w1 w.heap.size (.int .i64 0) (.slice none 0 0) (.slice z'.A0 p z'.d0) (.slice z'.A1 n z'.d1) (.slice none 0 0) (.slice z'.A2 p z'.d2) (.slice z'.A3 q z'.d3) (.slice z'.A4 n z'.d4) (.slice none 0 0) (.slice none 0 0)
  have hB := hk.set10 (.int .i64 0) (.slice none 0 0) (.slice z'.A0 p z'.d0) (.slice z'.A1 n z'.d1) (.slice none 0 0) (.slice z'.A2 p z'.d2) (.slice z'.A3 q z'.d3) (.slice z'.A4 n z'.d4) (.slice none 0 0) (.slice none 0 0)
  rw [← hW1] at hF hB
  have hlt2 : w.heap.size + 1 < b0 := by rw [Z0.out] at hlt; omega
  have HD := Lib.hid (⟨hB, hF.blk hr (by omega), hd.fr hF (fun i h1 _ e => by omega), hl.trans (hF.below hl.size (fun i hi => by omega)), hlt2⟩ : DB w W1 b0 b1 b2 b3 b4 b5 z' p q n s)
  obtain ⟨y0, y1, y2, y3, y4, y5, y6, y7, y8, y9⟩ := blk10 hk
  have g0 := hk.frozen 0
  have g1 := hk.frozen 1
  have g2 := hk.frozen 2
  have g3 := hk.frozen 3
  have g4 := hk.frozen 4
  have g5 := hk.frozen 5
  have g6 := hk.frozen 6
  have g7 := hk.frozen 7
  have g8 := hk.frozen 8
  have g9 := hk.frozen 9
  have HW1 := Lib.hid hW1
  clear hk hr hl hF hB hlt hlt2 hd hb hW1 x0 x1 x2 x3 x4 x5 x6 x7 x8 x9 K0 R0 L0 Z0 CO
  go_upto_region 2 with fail
  rw [← HW1.out]
  clear HW1 y0 y1 y2 y3 y4 y5 y6 y7 y8 y9 g0 g1 g2 g3 g4 g5 g6 g7 g8 g9
  obtain ⟨x0, x1, x2, x3, x4, x5, x6, x7, x8, x9⟩ := blk10 HD.out.k
  have hmo : m < s.own.length := by rw [HD.out.d.lo]; exact hm
  obtain ⟨bo, co, e1, e2, e3, e4, e5, e6⟩ := OwnI.at_ HD.out.d.own hmo
  have e0 := e1
  injection e1 with e1 e1a e1b
  rw [e1] at x2
  rw [hx] at e5
  have f0 := e6 m
  obtain ⟨W2, hW2⟩ : ∃ W, W = W1.setCell ⟨bo, m, none⟩ (.int .i64 t) := ⟨_, rfl⟩
  have hT := (HD.out.setOwn e0 m t).all
  rw [← hW2] at hT
  have HT := Lib.hid hT; have HW2 := Lib.hid hW2
  clear hT hW2 e0 e1 e1a e1b e2 e4 e6 x0 x1 x3 x4 x5 x6 x7 x8 x9 hmo hx HD
  go_upto_region 6 with fail
  rw [← HW2.out]
  clear HW2 x2 e5 f0
  obtain ⟨x0, x1, x2, x3, x4, x5, x6, x7, x8, x9⟩ := blk10 HT.out.1
  obtain ⟨s0, s1, s2, s3, s4, s5, s6, s7, s8, s9⟩ := blk10 HT.out.2.1
  have t0 := HT.out.2.1.frozen 0
  have t1 := HT.out.2.1.frozen 1
  have t2 := HT.out.2.1.frozen 2
  have t3 := HT.out.2.1.frozen 3
  have t4 := HT.out.2.1.frozen 4
  have t5 := HT.out.2.1.frozen 5
  have t6 := HT.out.2.1.frozen 6
  have t7 := HT.out.2.1.frozen 7
  have t8 := HT.out.2.1.frozen 8
  have t9 := HT.out.2.1.frozen 9
  have HE := Lib.hid (doc_fin HT.out.2.1 HT.out.2.2.1 HT.out.2.2.2)
  clear HT
  go_wp2_with fail
  refine bodyPost_ret (v := .tuple #[.agg #[.int .i64 0, .slice none 0 0, .slice z'.A0 p z'.d0, .slice z'.A1 n z'.d1, .slice none 0 0, .slice z'.A2 p z'.d2, .slice z'.A3 q z'.d3, .slice z'.A4 n z'.d4, .slice none 0 0, .slice none 0 0], .bool true]) (res9_1 rfl _ _ (w.heap.size + 1) 27 _ (0, 0) _ _ rfl rfl HE.out.1 Try.underlying27 rfl (by kernel_rfl)) rfl ?_
  first
    | exact ⟨z', rfl, HE.out.2.1, HE.out.2.2⟩
    | exact ⟨z', rfl, by rw [HROW.out]; exact HE.out.2.1, HE.out.2.2⟩
set_option maxRecDepth 100000 in
set_option maxHeartbeats 8000000 in
theorem refLock_busy (w : World) (E : Nat → Prop) (z : LkQ) (p q n : Nat) (s : Lk) (h : DocC w E z p q n s) (hs : SzL s) (m : Nat) (hm : m < p) (t : Int) (hx : 0 ≤ gn s.own m) :
    Calls Try.prog 43 #[.agg (mkC z p q n), .int .i64 (m : Int), .int .i64 t] w fun e w' => ∃ z' : LkQ, e = .returned (.tuple #[.agg (mkC z' p q n), .bool false]) ∧ DocC w' (fun k => w.heap.size ≤ k) z' p q n { s with lq := s.lq.set m (gl s.lq m ++ [t]) } ∧ Below w.heap.size w w' := by
  obtain ⟨i0, hi0, hz0, hz1, hz2⟩ := info_parts info_int
  have hpa : p ≤ 100000 := by have := hs.a; have := h.lo; omega
  have hna : n ≤ 100000 := by have := hs.b; have := h.ln; omega
  have hqa : q ≤ 100000 := by have := hs.c; have := h.lw; omega
  have hrl := hs.d m
  have q1 : (m : Int) < (p : Int) := by omega
  have q0 : (0 : Int) ≤ (m : Int) := by omega
  go_enter Try.func43, Try.ntmps43
  obtain ⟨W0, hW0⟩ : ∃ W, W = (w.alloc (.cells (mkC z p q n) 27)).alloc (.cells zeroC 27) := ⟨_, rfl⟩
  have k0 : Blk W0 w.heap.size 27 (mkC z p q n) := by rw [hW0]; exact (Blk.new w _ _).alloc _
  have r0 : Blk W0 (w.heap.size + 1) 27 zeroC := by rw [hW0]; simpa using Blk.new (w.alloc (.cells (mkC z p q n) 27)) 27 zeroC
  have l0 : Below w.heap.size w W0 := by rw [hW0]; exact ((Below.refl _ w).alloc (Nat.le_refl _) _).alloc (by simp) _
  have z0 : W0.heap.size = w.heap.size + 1 + 1 := by rw [hW0]; simp
  have co := own_any W0 E z p q n s (h.below l0 (Nat.le_refl _)) hs
  have HW0 := Lib.hid hW0; have K0 := Lib.hid k0; have R0 := Lib.hid r0; have L0 := Lib.hid l0; have Z0 := Lib.hid z0; have CO := Lib.hid co
  clear hW0 k0 r0 l0 z0 co h hs
  go_upto_region 1 with fail
  rw [← HW0.out]
  clear HW0
  obtain ⟨x0, x1, x2, x3, x4, x5, x6, x7, x8, x9⟩ := blk10 K0.out
  go_wp2_with fail
  refine CO.out.mono ?_
  rintro e w1 ⟨z', b0, b1, b2, b3, b4, b5, rfl, hlt, hd, hb⟩
  have hk := K0.out.below hb K0.out.lt
  have hr := R0.out.below hb R0.out.lt
  have hl := L0.out.trans (hb.mono L0.out.size)
  obtain ⟨W1, hW1⟩ : ∃ W, W = ((((((((((w1.setCell ⟨w.heap.size, 0, none⟩ (.int .i64 0)).setCell ⟨w.heap.size, 1, none⟩ (.slice none 0 0)).setCell ⟨w.heap.size, 2, none⟩ (.slice z'.A0 p z'.d0)).setCell ⟨w.heap.size, 3, none⟩ (.slice z'.A1 n z'.d1)).setCell ⟨w.heap.size, 4, none⟩ (.slice none 0 0)).setCell ⟨w.heap.size, 5, none⟩ (.slice z'.A2 p z'.d2)).setCell ⟨w.heap.size, 6, none⟩ (.slice z'.A3 q z'.d3)).setCell ⟨w.heap.size, 7, none⟩ (.slice z'.A4 n z'.d4)).setCell ⟨w.heap.size, 8, none⟩ (.slice none 0 0)).setCell ⟨w.heap.size, 9, none⟩ (.slice none 0 0)) := ⟨_, rfl⟩
  have hF := fr_set10 w1 w.heap.size (.int .i64 0) (.slice none 0 0) (.slice z'.A0 p z'.d0) (.slice z'.A1 n z'.d1) (.slice none 0 0) (.slice z'.A2 p z'.d2) (.slice z'.A3 q z'.d3) (.slice z'.A4 n z'.d4) (.slice none 0 0) (.slice none 0 0)
  have hB := hk.set10 (.int .i64 0) (.slice none 0 0) (.slice z'.A0 p z'.d0) (.slice z'.A1 n z'.d1) (.slice none 0 0) (.slice z'.A2 p z'.d2) (.slice z'.A3 q z'.d3) (.slice z'.A4 n z'.d4) (.slice none 0 0) (.slice none 0 0)
  rw [← hW1] at hF hB
  have hlt2 : w.heap.size + 1 < b0 := by rw [Z0.out] at hlt; omega
  have HD := Lib.hid (⟨hB, hF.blk hr (by omega), hd.fr hF (fun i h1 _ e => by omega), hl.trans (hF.below hl.size (fun i hi => by omega)), hlt2⟩ : DB w W1 b0 b1 b2 b3 b4 b5 z' p q n s)
  obtain ⟨y0, y1, y2, y3, y4, y5, y6, y7, y8, y9⟩ := blk10 hk
  have g0 := hk.frozen 0
  have g1 := hk.frozen 1
  have g2 := hk.frozen 2
  have g3 := hk.frozen 3
  have g4 := hk.frozen 4
  have g5 := hk.frozen 5
  have g6 := hk.frozen 6
  have g7 := hk.frozen 7
  have g8 := hk.frozen 8
  have g9 := hk.frozen 9
  have HW1 := Lib.hid hW1
  clear hk hr hl hF hB hlt hlt2 hd hb hW1 x0 x1 x2 x3 x4 x5 x6 x7 x8 x9 K0 R0 L0 Z0 CO
  go_upto_region 2 with fail
  rw [← HW1.out]
  clear HW1 y0 y1 y2 y3 y4 y5 y6 y7 y8 y9 g0 g1 g2 g3 g4 g5 g6 g7 g8 g9
  obtain ⟨x0, x1, x2, x3, x4, x5, x6, x7, x8, x9⟩ := blk10 HD.out.k
  have hmo : m < s.own.length := by rw [HD.out.d.lo]; exact hm
  have hml : m < s.lq.length := by rw [HD.out.d.ll]; exact hm
  obtain ⟨bo, co, e1, e2, e3, e4, e5, e6⟩ := OwnI.at_ HD.out.d.own hmo
  injection e1 with e1 e1a e1b
  rw [e1] at x2
  clear e1 e1a e1b e2 e4 e6
  generalize gn s.own m = y at *
  obtain ⟨bq, cq, A, c, f1, f2, f3, f4, f5, f6, f7, f8, f9⟩ := HD.out.d.lq.at_ hml
  injection f1 with f1 f1a f1b
  rw [f1] at x5
  have hbo : ∀ k, (Value.slice A (gl s.lq m).length c).ownBlock = some k → k ≠ w.heap.size ∧ k ≠ bq := fun k hk => by
    obtain ⟨o1, o2, o3, o4, o5, o6⟩ := HD.out.d.o
    have := HD.out.lt
    have h1 := f9 k hk
    exact ⟨by omega, h1.2.2⟩
  have hn : ∀ W, Below W1.heap.size W1 W → W.ownsRow b2 3 1 (.slice A (gl s.lq m).length c) (gl s.lq m).length ((gl s.lq m).map EnI) := fun W hb => own_later f8 hb
  have hfin : ∀ W2 A' c', OwnI W2 b2 (.slice A' ((gl s.lq m).length + 1) c') (gl s.lq m ++ [t]) → Fr (fun k => (Value.slice A (gl s.lq m).length c).ownBlock = some k) W1 W2 →
      (W2.cell? ⟨w.heap.size, 5, none⟩ = some (.slice (some ⟨bq, 0, none⟩) p z'.d2) ∧ W2.cell? ⟨bq, m, none⟩ = some (.slice A (gl s.lq m).length c) ∧ W2.frozen? ⟨bq, m, none⟩ = false) ∧
      Hid (Blk (W2.setCell ⟨bq, m, none⟩ (.slice A' ((gl s.lq m).length + 1) c')) w.heap.size 27 (mkC z' p q n) ∧ Blk (W2.setCell ⟨bq, m, none⟩ (.slice A' ((gl s.lq m).length + 1) c')) (w.heap.size + 1) 27 zeroC ∧ Below w.heap.size w (W2.setCell ⟨bq, m, none⟩ (.slice A' ((gl s.lq m).length + 1) c')) ∧ DocC (W2.setCell ⟨bq, m, none⟩ (.slice A' ((gl s.lq m).length + 1) c')) (fun k => w.heap.size + 1 < k) z' p q n { s with lq := s.lq.set m (gl s.lq m ++ [t]) }) := by
    intro W2 A' c' hown hf
    have hll : (gl s.lq m ++ [t]).length = (gl s.lq m).length + 1 := by simp
    obtain ⟨a1, a2⟩ := HD.out.d.lq.append (by rw [f1]) hml f6 hf (by rw [hll]) hown
    have hkb := hf.blk HD.out.k (fun e => (hbo _ e).1 rfl)
    refine ⟨⟨by rw [← f1]; exact (hkb.cell 5).trans rfl, (hf.cell (p := ⟨bq, m, none⟩) f5 (fun e => (hbo _ e).2 rfl)).trans f6, ?_⟩, Lib.hid (HD.out.turnLq a2 a1 (by simp))⟩
    have : W2.heap[bq]? = W1.heap[bq]? := hf.block bq f5 (fun e => (hbo _ e).2 rfl)
    have h7 := f7 m
    unfold World.frozen? at h7 ⊢
    rw [this]
    exact h7
  have hgl := HD.out.k.lt
  have HN := Lib.hid hn; have HF := Lib.hid hfin
  have hbz : b2 ≤ W1.heap.size := by obtain ⟨o1, o2, o3, o4, o5, o6⟩ := HD.out.d.o; omega
  have hob : ∀ k, (Value.slice A (gl s.lq m).length c).ownBlock = some k → k < W1.heap.size := fun k hk => (own_blk f8 hk).2.1
  have f70 := f7 m
  clear hn hfin f1 f1a f1b f2 f8 f7 f9 hbo hml HD
  generalize hrow : gl s.lq m = row at *
  have HROW := Lib.hid hrow
  clear hrow
  obtain ⟨rl, hrl2⟩ : ∃ rl, rl = row.length := ⟨_, rfl⟩
  rw [← hrl2] at HN HF hrl f6 hob
  have HRL := Lib.hid hrl2; have HOB := Lib.hid hob
  clear hrl2 hob
  go_upto_region 3 with fail
  go_cut [] (fun wx => Hid (Blk wx w.heap.size 27 (mkC z' p q n) ∧ Blk wx (w.heap.size + 1) 27 zeroC ∧ Below w.heap.size w wx ∧ DocC wx (fun k => w.heap.size + 1 < k) z' p q n { s with lq := s.lq.set m (row ++ [t]) }))
  case first =>
    go_region_law (first
    | (refine step_append_any _ (by rfl) (.tmp 23) (.tmp 25) _ (by rfl) b2 3 i0 _ 1 8 Try.underlying22 hi0 hz0 hz1 hz2 rfl (by decide) (.slice A rl c) rl (row.map EnI) (by rfl) (HN.out _ ((Below.refl W1.heap.size W1).drew.alloc (Nat.le_refl _) _)) _ (some ⟨W1.heap.size, 0, none⟩) 1 1 [.int .i64 t] (by rfl) (reads_one_int W1.drew t _) (by simp [Value.oneCell']) (by unfold maxLen; omega) (by omega) (by simp; omega) ?_
       intro v2 w2 hown hgr hat
       have hown2 : OwnI w2 b2 v2 (row ++ [t]) := OwnI.snoc (by rw [← HRL.out]; exact hown)
       obtain ⟨A', c', hv2, _, _⟩ := hown2.slice
       have hll : (row ++ [t]).length = rl + 1 := by simp [HRL.out]
       rw [hll] at hv2
       subst hv2
       have hf2 : Fr (fun k => (Value.slice A rl c).ownBlock = some k) W1 w2 := ((Fr.refl (fun _ => False) W1).drew.alloc _ |>.mono (fun _ _ h => h.elim)).trans (Fr.of_grown hgr) (fun _ _ h => h)
       obtain ⟨⟨v5, v6, v7⟩, HT⟩ := HF.out w2 A' c' hown2 hf2)
    | fail)
    all_goals
      have HT2 := HT
      clear hown hgr hat hown2 hf2 hll HF HN HRL HOB v5 v6 v7 f6 f70 x0 x1 x2 x3 x4 x5 x6 x7 x8 x9
      go_wp2_with fail
      go_meet
      exact HT2
  case rest =>
  have HT := hcut
  obtain ⟨W3, hW3⟩ : ∃ W, W = wc := ⟨_, rfl⟩
  rw [← hW3] at HT ⊢
  clear hW3 hcut HF HN HRL HOB f6 f70 x0 x1 x2 x3 x4 x5 x6 x7 x8 x9
  obtain ⟨x0, x1, x2, x3, x4, x5, x6, x7, x8, x9⟩ := blk10 HT.out.1
  obtain ⟨s0, s1, s2, s3, s4, s5, s6, s7, s8, s9⟩ := blk10 HT.out.2.1
  have t0 := HT.out.2.1.frozen 0
  have t1 := HT.out.2.1.frozen 1
  have t2 := HT.out.2.1.frozen 2
  have t3 := HT.out.2.1.frozen 3
  have t4 := HT.out.2.1.frozen 4
  have t5 := HT.out.2.1.frozen 5
  have t6 := HT.out.2.1.frozen 6
  have t7 := HT.out.2.1.frozen 7
  have t8 := HT.out.2.1.frozen 8
  have t9 := HT.out.2.1.frozen 9
  have HE := Lib.hid (doc_fin HT.out.2.1 HT.out.2.2.1 HT.out.2.2.2)
  clear HT
  go_wp2_with fail
  refine bodyPost_ret (v := .tuple #[.agg #[.int .i64 0, .slice none 0 0, .slice z'.A0 p z'.d0, .slice z'.A1 n z'.d1, .slice none 0 0, .slice z'.A2 p z'.d2, .slice z'.A3 q z'.d3, .slice z'.A4 n z'.d4, .slice none 0 0, .slice none 0 0], .bool false]) (res9_1 rfl _ _ (w.heap.size + 1) 27 _ (0, 0) _ _ rfl rfl HE.out.1 Try.underlying27 rfl (by kernel_rfl)) rfl ?_
  first
    | exact ⟨z', rfl, HE.out.2.1, HE.out.2.2⟩
    | exact ⟨z', rfl, by rw [HROW.out]; exact HE.out.2.1, HE.out.2.2⟩
end Go.Proofs.Ytikelkfinjcgaaa
