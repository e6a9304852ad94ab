
/-
  The document's Down and Up.
-/
import Derived.Test.YtikelkfinjcgaaaLkQ
set_option linter.unusedVariables false
set_option linter.unusedSimpArgs false
namespace Go.Proofs.Ytikelkfinjcgaaa
open Go.RowKit Plain

theorem all_drew {w W : World} {z : LkQ} {p q n : Nat} {s : Lk} (h : Hid (Blk W w.heap.size 27 (mkC z p q n) ∧ Blk W (w.heap.size + 1) 27 zeroC ∧ Below w.heap.size w W ∧ DocC W (fun k => w.heap.size + 1 < k) z p q n s)) :
    Hid (Blk W.drew w.heap.size 27 (mkC z p q n) ∧ Blk W.drew (w.heap.size + 1) 27 zeroC ∧ Below w.heap.size w W.drew ∧ DocC W.drew (fun k => w.heap.size + 1 < k) z p q n s) :=
  Lib.hid ⟨h.out.1, h.out.2.1, h.out.2.2.1.drew, h.out.2.2.2.fr (S := fun _ => False) ((Fr.refl _ W).drew) (fun _ _ _ h => h)⟩
set_option maxRecDepth 100000 in
set_option maxHeartbeats 8000000 in
theorem refDown_free (w : World) (E : Nat → Prop) (z : LkQ) (p q n : Nat) (s : Lk) (h : DocC w E z p q n s) (hs : SzL s) (m : Nat) (hm : m < n) (t : Int) (hx : 0 < gn s.cnt m) (hx2 : gn s.cnt m ≤ 1000000) :
    Calls Try.prog 26 #[.agg (mkC z p q n), .int .i64 (m : Int), .int .i64 t] w fun e w' => ∃ z' : LkQ, e = .returned (.tuple #[.agg (mkC z' p q n), .bool true]) ∧ DocC w' (fun k => w.heap.size ≤ k) z' p q n { s with cnt := s.cnt.set m (gn s.cnt m - 1) } ∧ Below w.heap.size w w' := by
  obtain ⟨i0, hi0, hz0, hz1, hz2⟩ := info_parts info_int
  have hpa : p ≤ 100000 := by have := hs.a; have := h.lo; omega
  have hna : n ≤ 100000 := by have := hs.b; have := h.ln; omega
  have hqa : q ≤ 100000 := by have := hs.c; have := h.lw; omega
  have q1 : (m : Int) < (n : Int) := by omega
  have q0 : (0 : Int) ≤ (m : Int) := by omega
  have hwr : IntKind.i64.wrap (gn s.cnt m - 1) = gn s.cnt m - 1 := IntWalk.i64_in _ (by omega)
  go_enter Try.func26, Try.ntmps26
  obtain ⟨W0, hW0⟩ : ∃ W, W = (w.alloc (.cells (mkC z p q n) 27)).alloc (.cells zeroC 27) := ⟨_, rfl⟩
  have k0 : Blk W0 w.heap.size 27 (mkC z p q n) := by rw [hW0]; exact (Blk.new w _ _).alloc _
  have r0 : Blk W0 (w.heap.size + 1) 27 zeroC := by rw [hW0]; simpa using Blk.new (w.alloc (.cells (mkC z p q n) 27)) 27 zeroC
  have l0 : Below w.heap.size w W0 := by rw [hW0]; exact ((Below.refl _ w).alloc (Nat.le_refl _) _).alloc (by simp) _
  have z0 : W0.heap.size = w.heap.size + 1 + 1 := by rw [hW0]; simp
  have co := own_any W0 E z p q n s (h.below l0 (Nat.le_refl _)) hs
  have HW0 := Lib.hid hW0; have K0 := Lib.hid k0; have R0 := Lib.hid r0; have L0 := Lib.hid l0; have Z0 := Lib.hid z0; have CO := Lib.hid co
  clear hW0 k0 r0 l0 z0 co h hs
  go_upto_region 1 with fail
  rw [← HW0.out]
  clear HW0
  obtain ⟨x0, x1, x2, x3, x4, x5, x6, x7, x8, x9⟩ := blk10 K0.out
  go_wp2_with fail
  refine CO.out.mono ?_
  rintro e w1 ⟨z', b0, b1, b2, b3, b4, b5, rfl, hlt, hd, hb⟩
  have hk := K0.out.below hb K0.out.lt
  have hr := R0.out.below hb R0.out.lt
  have hl := L0.out.trans (hb.mono L0.out.size)
  obtain ⟨W1, hW1⟩ : ∃ W, W = ((((((((((w1.setCell ⟨w.heap.size, 0, none⟩ (.int .i64 0)).setCell ⟨w.heap.size, 1, none⟩ (.slice none 0 0)).setCell ⟨w.heap.size, 2, none⟩ (.slice z'.A0 p z'.d0)).setCell ⟨w.heap.size, 3, none⟩ (.slice z'.A1 n z'.d1)).setCell ⟨w.heap.size, 4, none⟩ (.slice none 0 0)).setCell ⟨w.heap.size, 5, none⟩ (.slice z'.A2 p z'.d2)).setCell ⟨w.heap.size, 6, none⟩ (.slice z'.A3 q z'.d3)).setCell ⟨w.heap.size, 7, none⟩ (.slice z'.A4 n z'.d4)).setCell ⟨w.heap.size, 8, none⟩ (.slice none 0 0)).setCell ⟨w.heap.size, 9, none⟩ (.slice none 0 0)) := ⟨_, rfl⟩
  have hF := fr_set10 w1 w.heap.size (.int .i64 0) (.slice none 0 0) (.slice z'.A0 p z'.d0) (.slice z'.A1 n z'.d1) (.slice none 0 0) (.slice z'.A2 p z'.d2) (.slice z'.A3 q z'.d3) (.slice z'.A4 n z'.d4) (.slice none 0 0) (.slice none 0 0)
  have hB := hk.set10 (.int .i64 0) (.slice none 0 0) (.slice z'.A0 p z'.d0) (.slice z'.A1 n z'.d1) (.slice none 0 0) (.slice z'.A2 p z'.d2) (.slice z'.A3 q z'.d3) (.slice z'.A4 n z'.d4) (.slice none 0 0) (.slice none 0 0)
  rw [← hW1] at hF hB
  have hlt2 : w.heap.size + 1 < b0 := by rw [Z0.out] at hlt; omega
  have HD := Lib.hid (⟨hB, hF.blk hr (by omega), hd.fr hF (fun i h1 _ e => by omega), hl.trans (hF.below hl.size (fun i hi => by omega)), hlt2⟩ : DB w W1 b0 b1 b2 b3 b4 b5 z' p q n s)
  obtain ⟨y0, y1, y2, y3, y4, y5, y6, y7, y8, y9⟩ := blk10 hk
  have g0 := hk.frozen 0
  have g1 := hk.frozen 1
  have g2 := hk.frozen 2
  have g3 := hk.frozen 3
  have g4 := hk.frozen 4
  have g5 := hk.frozen 5
  have g6 := hk.frozen 6
  have g7 := hk.frozen 7
  have g8 := hk.frozen 8
  have g9 := hk.frozen 9
  have HW1 := Lib.hid hW1
  clear hk hr hl hF hB hlt hlt2 hd hb hW1 x0 x1 x2 x3 x4 x5 x6 x7 x8 x9 K0 R0 L0 Z0 CO
  go_upto_region 2 with fail
  rw [← HW1.out]
  clear HW1 y0 y1 y2 y3 y4 y5 y6 y7 y8 y9 g0 g1 g2 g3 g4 g5 g6 g7 g8 g9
  obtain ⟨x0, x1, x2, x3, x4, x5, x6, x7, x8, x9⟩ := blk10 HD.out.k
  have hmo : m < s.cnt.length := by rw [HD.out.d.ln]; exact hm
  obtain ⟨bo, co, e1, e2, e3, e4, e5, e6⟩ := OwnI.at_ HD.out.d.cnt hmo
  have e0 := e1
  injection e1 with e1 e1a e1b
  rw [e1] at x3
  have f0 := e6 m
  obtain ⟨W2, hW2⟩ : ∃ W, W = W1.setCell ⟨bo, m, none⟩ (.int .i64 (gn s.cnt m - 1)) := ⟨_, rfl⟩
  have hT := (HD.out.setCnt e0 m (gn s.cnt m - 1)).all
  rw [← hW2] at hT
  have HT := Lib.hid hT; have HW2 := Lib.hid hW2
  generalize hy : gn s.cnt m = y at *
  have hy1 : ¬ y = 0 := by omega
  have HROW := Lib.hid hy
  clear hT hW2 e0 e1 e1a e1b e2 e4 e6 x0 x1 x2 x4 x5 x6 x7 x8 x9 hmo HD hy
  go_upto_region 6 with fail
  rw [← HW2.out]
  clear HW2 x3 e5 f0
  obtain ⟨x0, x1, x2, x3, x4, x5, x6, x7, x8, x9⟩ := blk10 HT.out.1
  obtain ⟨s0, s1, s2, s3, s4, s5, s6, s7, s8, s9⟩ := blk10 HT.out.2.1
  have t0 := HT.out.2.1.frozen 0
  have t1 := HT.out.2.1.frozen 1
  have t2 := HT.out.2.1.frozen 2
  have t3 := HT.out.2.1.frozen 3
  have t4 := HT.out.2.1.frozen 4
  have t5 := HT.out.2.1.frozen 5
  have t6 := HT.out.2.1.frozen 6
  have t7 := HT.out.2.1.frozen 7
  have t8 := HT.out.2.1.frozen 8
  have t9 := HT.out.2.1.frozen 9
  have HE := Lib.hid (doc_fin HT.out.2.1 HT.out.2.2.1 HT.out.2.2.2)
  clear HT
  go_wp2_with fail
  refine bodyPost_ret (v := .tuple #[.agg #[.int .i64 0, .slice none 0 0, .slice z'.A0 p z'.d0, .slice z'.A1 n z'.d1, .slice none 0 0, .slice z'.A2 p z'.d2, .slice z'.A3 q z'.d3, .slice z'.A4 n z'.d4, .slice none 0 0, .slice none 0 0], .bool true]) (res9_1 rfl _ _ (w.heap.size + 1) 27 _ (0, 0) _ _ rfl rfl HE.out.1 Try.underlying27 rfl (by kernel_rfl)) rfl ?_
  first
    | exact ⟨z', rfl, HE.out.2.1, HE.out.2.2⟩
    | exact ⟨z', rfl, by rw [HROW.out]; exact HE.out.2.1, HE.out.2.2⟩
set_option maxRecDepth 100000 in
set_option maxHeartbeats 8000000 in
theorem refDown_busy (w : World) (E : Nat → Prop) (z : LkQ) (p q n : Nat) (s : Lk) (h : DocC w E z p q n s) (hs : SzL s) (m : Nat) (hm : m < n) (t : Int) (hx : gn s.cnt m = 0) :
    Calls Try.prog 26 #[.agg (mkC z p q n), .int .i64 (m : Int), .int .i64 t] w fun e w' => ∃ z' : LkQ, e = .returned (.tuple #[.agg (mkC z' p q n), .bool false]) ∧ DocC w' (fun k => w.heap.size ≤ k) z' p q n { s with dq := s.dq.set m (gl s.dq m ++ [t]) } ∧ Below w.heap.size w w' := by
  obtain ⟨i0, hi0, hz0, hz1, hz2⟩ := info_parts info_int
  have hpa : p ≤ 100000 := by have := hs.a; have := h.lo; omega
  have hna : n ≤ 100000 := by have := hs.b; have := h.ln; omega
  have hqa : q ≤ 100000 := by have := hs.c; have := h.lw; omega
  have hrl := hs.f m
  have q1 : (m : Int) < (n : Int) := by omega
  have q0 : (0 : Int) ≤ (m : Int) := by omega
  go_enter Try.func26, Try.ntmps26
  obtain ⟨W0, hW0⟩ : ∃ W, W = (w.alloc (.cells (mkC z p q n) 27)).alloc (.cells zeroC 27) := ⟨_, rfl⟩
  have k0 : Blk W0 w.heap.size 27 (mkC z p q n) := by rw [hW0]; exact (Blk.new w _ _).alloc _
  have r0 : Blk W0 (w.heap.size + 1) 27 zeroC := by rw [hW0]; simpa using Blk.new (w.alloc (.cells (mkC z p q n) 27)) 27 zeroC
  have l0 : Below w.heap.size w W0 := by rw [hW0]; exact ((Below.refl _ w).alloc (Nat.le_refl _) _).alloc (by simp) _
  have z0 : W0.heap.size = w.heap.size + 1 + 1 := by rw [hW0]; simp
  have co := own_any W0 E z p q n s (h.below l0 (Nat.le_refl _)) hs
  have HW0 := Lib.hid hW0; have K0 := Lib.hid k0; have R0 := Lib.hid r0; have L0 := Lib.hid l0; have Z0 := Lib.hid z0; have CO := Lib.hid co
  clear hW0 k0 r0 l0 z0 co h hs
  go_upto_region 1 with fail
  rw [← HW0.out]
  clear HW0
  obtain ⟨x0, x1, x2, x3, x4, x5, x6, x7, x8, x9⟩ := blk10 K0.out
  go_wp2_with fail
  refine CO.out.mono ?_
  rintro e w1 ⟨z', b0, b1, b2, b3, b4, b5, rfl, hlt, hd, hb⟩
  have hk := K0.out.below hb K0.out.lt
  have hr := R0.out.below hb R0.out.lt
  have hl := L0.out.trans (hb.mono L0.out.size)
  obtain ⟨W1, hW1⟩ : ∃ W, W = ((((((((((w1.setCell ⟨w.heap.size, 0, none⟩ (.int .i64 0)).setCell ⟨w.heap.size, 1, none⟩ (.slice none 0 0)).setCell ⟨w.heap.size, 2, none⟩ (.slice z'.A0 p z'.d0)).setCell ⟨w.heap.size, 3, none⟩ (.slice z'.A1 n z'.d1)).setCell ⟨w.heap.size, 4, none⟩ (.slice none 0 0)).setCell ⟨w.heap.size, 5, none⟩ (.slice z'.A2 p z'.d2)).setCell ⟨w.heap.size, 6, none⟩ (.slice z'.A3 q z'.d3)).setCell ⟨w.heap.size, 7, none⟩ (.slice z'.A4 n z'.d4)).setCell ⟨w.heap.size, 8, none⟩ (.slice none 0 0)).setCell ⟨w.heap.size, 9, none⟩ (.slice none 0 0)) := ⟨_, rfl⟩
  have hF := fr_set10 w1 w.heap.size (.int .i64 0) (.slice none 0 0) (.slice z'.A0 p z'.d0) (.slice z'.A1 n z'.d1) (.slice none 0 0) (.slice z'.A2 p z'.d2) (.slice z'.A3 q z'.d3) (.slice z'.A4 n z'.d4) (.slice none 0 0) (.slice none 0 0)
  have hB := hk.set10 (.int .i64 0) (.slice none 0 0) (.slice z'.A0 p z'.d0) (.slice z'.A1 n z'.d1) (.slice none 0 0) (.slice z'.A2 p z'.d2) (.slice z'.A3 q z'.d3) (.slice z'.A4 n z'.d4) (.slice none 0 0) (.slice none 0 0)
  rw [← hW1] at hF hB
  have hlt2 : w.heap.size + 1 < b0 := by rw [Z0.out] at hlt; omega
  have HD := Lib.hid (⟨hB, hF.blk hr (by omega), hd.fr hF (fun i h1 _ e => by omega), hl.trans (hF.below hl.size (fun i hi => by omega)), hlt2⟩ : DB w W1 b0 b1 b2 b3 b4 b5 z' p q n s)
  obtain ⟨y0, y1, y2, y3, y4, y5, y6, y7, y8, y9⟩ := blk10 hk
  have g0 := hk.frozen 0
  have g1 := hk.frozen 1
  have g2 := hk.frozen 2
  have g3 := hk.frozen 3
  have g4 := hk.frozen 4
  have g5 := hk.frozen 5
  have g6 := hk.frozen 6
  have g7 := hk.frozen 7
  have g8 := hk.frozen 8
  have g9 := hk.frozen 9
  have HW1 := Lib.hid hW1
  clear hk hr hl hF hB hlt hlt2 hd hb hW1 x0 x1 x2 x3 x4 x5 x6 x7 x8 x9 K0 R0 L0 Z0 CO
  go_upto_region 2 with fail
  rw [← HW1.out]
  clear HW1 y0 y1 y2 y3 y4 y5 y6 y7 y8 y9 g0 g1 g2 g3 g4 g5 g6 g7 g8 g9
  obtain ⟨x0, x1, x2, x3, x4, x5, x6, x7, x8, x9⟩ := blk10 HD.out.k
  have hmo : m < s.cnt.length := by rw [HD.out.d.ln]; exact hm
  have hml : m < s.dq.length := by rw [HD.out.d.ld]; exact hm
  obtain ⟨bo, co, e1, e2, e3, e4, e5, e6⟩ := OwnI.at_ HD.out.d.cnt hmo
  injection e1 with e1 e1a e1b
  rw [e1] at x3
  rw [hx] at e5
  clear e1 e1a e1b e2 e4 e6 hx
  obtain ⟨bq, cq, A, c, f1, f2, f3, f4, f5, f6, f7, f8, f9⟩ := HD.out.d.dq.at_ hml
  injection f1 with f1 f1a f1b
  rw [f1] at x7
  have hbo : ∀ k, (Value.slice A (gl s.dq m).length c).ownBlock = some k → k ≠ w.heap.size ∧ k ≠ bq := fun k hk => by
    obtain ⟨o1, o2, o3, o4, o5, o6⟩ := HD.out.d.o
    have := HD.out.lt
    have h1 := f9 k hk
    exact ⟨by omega, h1.2.2⟩
  have hn : ∀ W, Below W1.heap.size W1 W → W.ownsRow b4 3 1 (.slice A (gl s.dq m).length c) (gl s.dq m).length ((gl s.dq m).map EnI) := fun W hb => own_later f8 hb
  have hfin : ∀ W2 A' c', OwnI W2 b4 (.slice A' ((gl s.dq m).length + 1) c') (gl s.dq m ++ [t]) → Fr (fun k => (Value.slice A (gl s.dq m).length c).ownBlock = some k) W1 W2 →
      (W2.cell? ⟨w.heap.size, 7, none⟩ = some (.slice (some ⟨bq, 0, none⟩) n z'.d4) ∧ W2.cell? ⟨bq, m, none⟩ = some (.slice A (gl s.dq m).length c) ∧ W2.frozen? ⟨bq, m, none⟩ = false) ∧
      Hid (Blk (W2.setCell ⟨bq, m, none⟩ (.slice A' ((gl s.dq m).length + 1) c')) w.heap.size 27 (mkC z' p q n) ∧ Blk (W2.setCell ⟨bq, m, none⟩ (.slice A' ((gl s.dq m).length + 1) c')) (w.heap.size + 1) 27 zeroC ∧ Below w.heap.size w (W2.setCell ⟨bq, m, none⟩ (.slice A' ((gl s.dq m).length + 1) c')) ∧ DocC (W2.setCell ⟨bq, m, none⟩ (.slice A' ((gl s.dq m).length + 1) c')) (fun k => w.heap.size + 1 < k) z' p q n { s with dq := s.dq.set m (gl s.dq m ++ [t]) }) := by
    intro W2 A' c' hown hf
    have hll : (gl s.dq m ++ [t]).length = (gl s.dq m).length + 1 := by simp
    obtain ⟨a1, a2⟩ := HD.out.d.dq.append (by rw [f1]) hml f6 hf (by rw [hll]) hown
    have hkb := hf.blk HD.out.k (fun e => (hbo _ e).1 rfl)
    refine ⟨⟨by rw [← f1]; exact (hkb.cell 7).trans rfl, (hf.cell (p := ⟨bq, m, none⟩) f5 (fun e => (hbo _ e).2 rfl)).trans f6, ?_⟩, Lib.hid (HD.out.turnDq a2 a1 (by simp))⟩
    have : W2.heap[bq]? = W1.heap[bq]? := hf.block bq f5 (fun e => (hbo _ e).2 rfl)
    have h7 := f7 m
    unfold World.frozen? at h7 ⊢
    rw [this]
    exact h7
  have hgl := HD.out.k.lt
  have HN := Lib.hid hn; have HF := Lib.hid hfin
  have hbz : b4 ≤ W1.heap.size := by obtain ⟨o1, o2, o3, o4, o5, o6⟩ := HD.out.d.o; omega
  have hob : ∀ k, (Value.slice A (gl s.dq m).length c).ownBlock = some k → k < W1.heap.size := fun k hk => (own_blk f8 hk).2.1
  have f70 := f7 m
  clear hn hfin f1 f1a f1b f2 f8 f7 f9 hbo hml HD
  generalize hrow : gl s.dq m = row at *
  have HROW := Lib.hid hrow
  clear hrow
  obtain ⟨rl, hrl2⟩ : ∃ rl, rl = row.length := ⟨_, rfl⟩
  rw [← hrl2] at HN HF hrl f6 hob
  have HRL := Lib.hid hrl2; have HOB := Lib.hid hob
  clear hrl2 hob
  go_upto_region 3 with fail
  go_cut [] (fun wx => Hid (Blk wx w.heap.size 27 (mkC z' p q n) ∧ Blk wx (w.heap.size + 1) 27 zeroC ∧ Below w.heap.size w wx ∧ DocC wx (fun k => w.heap.size + 1 < k) z' p q n { s with dq := s.dq.set m (row ++ [t]) }))
  case first =>
    go_region_law (first
    | (refine step_append_any _ (by rfl) (.tmp 23) (.tmp 25) _ (by rfl) b4 3 i0 _ 1 8 Try.underlying22 hi0 hz0 hz1 hz2 rfl (by decide) (.slice A rl c) rl (row.map EnI) (by rfl) (HN.out _ ((Below.refl W1.heap.size W1).drew.alloc (Nat.le_refl _) _)) _ (some ⟨W1.heap.size, 0, none⟩) 1 1 [.int .i64 t] (by rfl) (reads_one_int W1.drew t _) (by simp [Value.oneCell']) (by unfold maxLen; omega) (by omega) (by simp; omega) ?_
       intro v2 w2 hown hgr hat
       have hown2 : OwnI w2 b4 v2 (row ++ [t]) := OwnI.snoc (by rw [← HRL.out]; exact hown)
       obtain ⟨A', c', hv2, _, _⟩ := hown2.slice
       have hll : (row ++ [t]).length = rl + 1 := by simp [HRL.out]
       rw [hll] at hv2
       subst hv2
       have hf2 : Fr (fun k => (Value.slice A rl c).ownBlock = some k) W1 w2 := ((Fr.refl (fun _ => False) W1).drew.alloc _ |>.mono (fun _ _ h => h.elim)).trans (Fr.of_grown hgr) (fun _ _ h => h)
       obtain ⟨⟨v5, v6, v7⟩, HT⟩ := HF.out w2 A' c' hown2 hf2)
    | fail)
    all_goals
      have HT2 := HT
      clear hown hgr hat hown2 hf2 hll HF HN HRL HOB v5 v6 v7 f6 f70 x0 x1 x2 x3 x4 x5 x6 x7 x8 x9
      go_wp2_with fail
      go_meet
      exact HT2
  case rest =>
  have HT := hcut
  obtain ⟨W3, hW3⟩ : ∃ W, W = wc := ⟨_, rfl⟩
  rw [← hW3] at HT ⊢
  clear hW3 hcut HF HN HRL HOB f6 f70 x0 x1 x2 x3 x4 x5 x6 x7 x8 x9
  obtain ⟨x0, x1, x2, x3, x4, x5, x6, x7, x8, x9⟩ := blk10 HT.out.1
  obtain ⟨s0, s1, s2, s3, s4, s5, s6, s7, s8, s9⟩ := blk10 HT.out.2.1
  have t0 := HT.out.2.1.frozen 0
  have t1 := HT.out.2.1.frozen 1
  have t2 := HT.out.2.1.frozen 2
  have t3 := HT.out.2.1.frozen 3
  have t4 := HT.out.2.1.frozen 4
  have t5 := HT.out.2.1.frozen 5
  have t6 := HT.out.2.1.frozen 6
  have t7 := HT.out.2.1.frozen 7
  have t8 := HT.out.2.1.frozen 8
  have t9 := HT.out.2.1.frozen 9
  have HE := Lib.hid (doc_fin HT.out.2.1 HT.out.2.2.1 HT.out.2.2.2)
  clear HT
  go_wp2_with fail
  refine bodyPost_ret (v := .tuple #[.agg #[.int .i64 0, .slice none 0 0, .slice z'.A0 p z'.d0, .slice z'.A1 n z'.d1, .slice none 0 0, .slice z'.A2 p z'.d2, .slice z'.A3 q z'.d3, .slice z'.A4 n z'.d4, .slice none 0 0, .slice none 0 0], .bool false]) (res9_1 rfl _ _ (w.heap.size + 1) 27 _ (0, 0) _ _ rfl rfl HE.out.1 Try.underlying27 rfl (by kernel_rfl)) rfl ?_
  first
    | exact ⟨z', rfl, HE.out.2.1, HE.out.2.2⟩
    | exact ⟨z', rfl, by rw [HROW.out]; exact HE.out.2.1, HE.out.2.2⟩
set_option maxRecDepth 100000 in
set_option maxHeartbeats 8000000 in
theorem refUp_none (w : World) (E : Nat → Prop) (z : LkQ) (p q n : Nat) (s : Lk) (h : DocC w E z p q n s) (hs : SzL s) (m : Nat) (hm : m < n) (hx : gl s.dq m = []) (hc0 : 0 ≤ gn s.cnt m) (hx2 : gn s.cnt m ≤ 1000000) :
    Calls Try.prog 27 #[.agg (mkC z p q n), .int .i64 (m : Int)] w fun e w' => ∃ z' : LkQ, e = .returned (.tuple #[.agg (mkC z' p q n), .int .i64 (-1)]) ∧ DocC w' (fun k => w.heap.size ≤ k) z' p q n { s with cnt := s.cnt.set m (gn s.cnt m + 1) } ∧ Below w.heap.size w w' := by
  obtain ⟨i0, hi0, hz0, hz1, hz2⟩ := info_parts info_int
  have hpa : p ≤ 100000 := by have := hs.a; have := h.lo; omega
  have hna : n ≤ 100000 := by have := hs.b; have := h.ln; omega
  have hqa : q ≤ 100000 := by have := hs.c; have := h.lw; omega
  have q1 : (m : Int) < (n : Int) := by omega
  have q0 : (0 : Int) ≤ (m : Int) := by omega
  have hwr : IntKind.i64.wrap (gn s.cnt m + 1) = gn s.cnt m + 1 := IntWalk.i64_in _ (by omega)
  go_enter Try.func27, Try.ntmps27
  obtain ⟨W0, hW0⟩ : ∃ W, W = (w.alloc (.cells (mkC z p q n) 27)).alloc (.cells zeroC 27) := ⟨_, rfl⟩
  have k0 : Blk W0 w.heap.size 27 (mkC z p q n) := by rw [hW0]; exact (Blk.new w _ _).alloc _
  have r0 : Blk W0 (w.heap.size + 1) 27 zeroC := by rw [hW0]; simpa using Blk.new (w.alloc (.cells (mkC z p q n) 27)) 27 zeroC
  have l0 : Below w.heap.size w W0 := by rw [hW0]; exact ((Below.refl _ w).alloc (Nat.le_refl _) _).alloc (by simp) _
  have z0 : W0.heap.size = w.heap.size + 1 + 1 := by rw [hW0]; simp
  have co := own_any W0 E z p q n s (h.below l0 (Nat.le_refl _)) hs
  have HW0 := Lib.hid hW0; have K0 := Lib.hid k0; have R0 := Lib.hid r0; have L0 := Lib.hid l0; have Z0 := Lib.hid z0; have CO := Lib.hid co
  clear hW0 k0 r0 l0 z0 co h hs
  go_upto_region 1 with fail
  rw [← HW0.out]
  clear HW0
  obtain ⟨x0, x1, x2, x3, x4, x5, x6, x7, x8, x9⟩ := blk10 K0.out
  go_wp2_with fail
  refine CO.out.mono ?_
  rintro e w1 ⟨z', b0, b1, b2, b3, b4, b5, rfl, hlt, hd, hb⟩
  have hk := K0.out.below hb K0.out.lt
  have hr := R0.out.below hb R0.out.lt
  have hl := L0.out.trans (hb.mono L0.out.size)
  obtain ⟨W1, hW1⟩ : ∃ W, W = ((((((((((w1.setCell ⟨w.heap.size, 0, none⟩ (.int .i64 0)).setCell ⟨w.heap.size, 1, none⟩ (.slice none 0 0)).setCell ⟨w.heap.size, 2, none⟩ (.slice z'.A0 p z'.d0)).setCell ⟨w.heap.size, 3, none⟩ (.slice z'.A1 n z'.d1)).setCell ⟨w.heap.size, 4, none⟩ (.slice none 0 0)).setCell ⟨w.heap.size, 5, none⟩ (.slice z'.A2 p z'.d2)).setCell ⟨w.heap.size, 6, none⟩ (.slice z'.A3 q z'.d3)).setCell ⟨w.heap.size, 7, none⟩ (.slice z'.A4 n z'.d4)).setCell ⟨w.heap.size, 8, none⟩ (.slice none 0 0)).setCell ⟨w.heap.size, 9, none⟩ (.slice none 0 0)) := ⟨_, rfl⟩
  have hF := fr_set10 w1 w.heap.size (.int .i64 0) (.slice none 0 0) (.slice z'.A0 p z'.d0) (.slice z'.A1 n z'.d1) (.slice none 0 0) (.slice z'.A2 p z'.d2) (.slice z'.A3 q z'.d3) (.slice z'.A4 n z'.d4) (.slice none 0 0) (.slice none 0 0)
  have hB := hk.set10 (.int .i64 0) (.slice none 0 0) (.slice z'.A0 p z'.d0) (.slice z'.A1 n z'.d1) (.slice none 0 0) (.slice z'.A2 p z'.d2) (.slice z'.A3 q z'.d3) (.slice z'.A4 n z'.d4) (.slice none 0 0) (.slice none 0 0)
  rw [← hW1] at hF hB
  have hlt2 : w.heap.size + 1 < b0 := by rw [Z0.out] at hlt; omega
  have HD := Lib.hid (⟨hB, hF.blk hr (by omega), hd.fr hF (fun i h1 _ e => by omega), hl.trans (hF.below hl.size (fun i hi => by omega)), hlt2⟩ : DB w W1 b0 b1 b2 b3 b4 b5 z' p q n s)
  obtain ⟨y0, y1, y2, y3, y4, y5, y6, y7, y8, y9⟩ := blk10 hk
  have g0 := hk.frozen 0
  have g1 := hk.frozen 1
  have g2 := hk.frozen 2
  have g3 := hk.frozen 3
  have g4 := hk.frozen 4
  have g5 := hk.frozen 5
  have g6 := hk.frozen 6
  have g7 := hk.frozen 7
  have g8 := hk.frozen 8
  have g9 := hk.frozen 9
  have HW1 := Lib.hid hW1
  clear hk hr hl hF hB hlt hlt2 hd hb hW1 x0 x1 x2 x3 x4 x5 x6 x7 x8 x9 K0 R0 L0 Z0 CO
  go_upto_region 2 with fail
  rw [← HW1.out]
  clear HW1 y0 y1 y2 y3 y4 y5 y6 y7 y8 y9 g0 g1 g2 g3 g4 g5 g6 g7 g8 g9
  obtain ⟨x0, x1, x2, x3, x4, x5, x6, x7, x8, x9⟩ := blk10 HD.out.k
  have hmo : m < s.cnt.length := by rw [HD.out.d.ln]; exact hm
  have hml : m < s.dq.length := by rw [HD.out.d.ld]; exact hm
  obtain ⟨bo, co, e1, e2, e3, e4, e5, e6⟩ := OwnI.at_ HD.out.d.cnt hmo
  obtain ⟨bq, cq, A, c, g1, g2, g3, g4, g5, g6, g7, g8, g9⟩ := HD.out.d.dq.at_ hml
  have e0 := e1
  injection e1 with e1 e1a e1b
  injection g1 with g1 g1a g1b
  rw [e1] at x3
  rw [g1] at x7
  rw [hx, List.length_nil] at g6
  have f0 := e6 m
  obtain ⟨W2, hW2⟩ : ∃ W, W = W1.setCell ⟨bo, m, none⟩ (.int .i64 (gn s.cnt m + 1)) := ⟨_, rfl⟩
  have hT := (HD.out.setCnt e0 m (gn s.cnt m + 1)).all
  rw [← hW2] at hT
  have HT := Lib.hid hT; have HW2 := Lib.hid hW2
  generalize hy : gn s.cnt m = y at *
  have HROW := Lib.hid hy
  clear hT hW2 e0 e1 e1a e1b e2 e4 e6 x0 x1 x2 x4 x5 x6 x8 x9 hmo hml HD hy hx g1 g1a g1b g2 g7 g8 g9
  go_upto_region 4 with fail
  rw [← HW2.out]
  clear HW2 x3 x7 e5 f0 g6
  obtain ⟨x0, x1, x2, x3, x4, x5, x6, x7, x8, x9⟩ := blk10 HT.out.1
  obtain ⟨s0, s1, s2, s3, s4, s5, s6, s7, s8, s9⟩ := blk10 HT.out.2.1
  have t0 := HT.out.2.1.frozen 0
  have t1 := HT.out.2.1.frozen 1
  have t2 := HT.out.2.1.frozen 2
  have t3 := HT.out.2.1.frozen 3
  have t4 := HT.out.2.1.frozen 4
  have t5 := HT.out.2.1.frozen 5
  have t6 := HT.out.2.1.frozen 6
  have t7 := HT.out.2.1.frozen 7
  have t8 := HT.out.2.1.frozen 8
  have t9 := HT.out.2.1.frozen 9
  have HE := Lib.hid (doc_fin HT.out.2.1 HT.out.2.2.1 HT.out.2.2.2)
  clear HT
  go_wp2_with fail
  refine bodyPost_ret (v := .tuple #[.agg #[.int .i64 0, .slice none 0 0, .slice z'.A0 p z'.d0, .slice z'.A1 n z'.d1, .slice none 0 0, .slice z'.A2 p z'.d2, .slice z'.A3 q z'.d3, .slice z'.A4 n z'.d4, .slice none 0 0, .slice none 0 0], .int .i64 (-1)]) (res9_1 rfl _ _ (w.heap.size + 1) 27 _ (0, 0) _ _ rfl rfl HE.out.1 Try.underlying27 rfl (by kernel_rfl)) rfl ?_
  first
    | exact ⟨z', rfl, HE.out.2.1, HE.out.2.2⟩
    | exact ⟨z', rfl, by rw [HROW.out]; exact HE.out.2.1, HE.out.2.2⟩
set_option maxRecDepth 100000 in
set_option maxHeartbeats 8000000 in
theorem refUp_first (w : World) (E : Nat → Prop) (z : LkQ) (p q n : Nat) (s : Lk) (h : DocC w E z p q n s) (hs : SzL s) (m : Nat) (hm : m < n) (x : Int) (r : List Int) (hx : gl s.dq m = x :: r) :
    Calls Try.prog 27 #[.agg (mkC z p q n), .int .i64 (m : Int)] w fun e w' => ∃ z' : LkQ, e = .returned (.tuple #[.agg (mkC z' p q n), .int .i64 x]) ∧ DocC w' (fun k => w.heap.size ≤ k) z' p q n { s with dq := s.dq.set m r } ∧ Below w.heap.size w w' := by
  obtain ⟨i0, hi0, hz0, hz1, hz2⟩ := info_parts info_int
  have hpa : p ≤ 100000 := by have := hs.a; have := h.lo; omega
  have hna : n ≤ 100000 := by have := hs.b; have := h.ln; omega
  have hqa : q ≤ 100000 := by have := hs.c; have := h.lw; omega
  have hrl := hs.f m
  rw [hx] at hrl
  simp only [List.length_cons] at hrl
  have q1 : (m : Int) < (n : Int) := by omega
  have q0 : (0 : Int) ≤ (m : Int) := by omega
  go_enter Try.func27, Try.ntmps27
  obtain ⟨W0, hW0⟩ : ∃ W, W = (w.alloc (.cells (mkC z p q n) 27)).alloc (.cells zeroC 27) := ⟨_, rfl⟩
  have k0 : Blk W0 w.heap.size 27 (mkC z p q n) := by rw [hW0]; exact (Blk.new w _ _).alloc _
  have r0 : Blk W0 (w.heap.size + 1) 27 zeroC := by rw [hW0]; simpa using Blk.new (w.alloc (.cells (mkC z p q n) 27)) 27 zeroC
  have l0 : Below w.heap.size w W0 := by rw [hW0]; exact ((Below.refl _ w).alloc (Nat.le_refl _) _).alloc (by simp) _
  have z0 : W0.heap.size = w.heap.size + 1 + 1 := by rw [hW0]; simp
  have co := own_any W0 E z p q n s (h.below l0 (Nat.le_refl _)) hs
  have HW0 := Lib.hid hW0; have K0 := Lib.hid k0; have R0 := Lib.hid r0; have L0 := Lib.hid l0; have Z0 := Lib.hid z0; have CO := Lib.hid co
  clear hW0 k0 r0 l0 z0 co h hs
  go_upto_region 1 with fail
  rw [← HW0.out]
  clear HW0
  obtain ⟨x0, x1, x2, x3, x4, x5, x6, x7, x8, x9⟩ := blk10 K0.out
  go_wp2_with fail
  refine CO.out.mono ?_
  rintro e w1 ⟨z', b0, b1, b2, b3, b4, b5, rfl, hlt, hd, hb⟩
  have hk := K0.out.below hb K0.out.lt
  have hr := R0.out.below hb R0.out.lt
  have hl := L0.out.trans (hb.mono L0.out.size)
  obtain ⟨W1, hW1⟩ : ∃ W, W = ((((((((((w1.setCell ⟨w.heap.size, 0, none⟩ (.int .i64 0)).setCell ⟨w.heap.size, 1, none⟩ (.slice none 0 0)).setCell ⟨w.heap.size, 2, none⟩ (.slice z'.A0 p z'.d0)).setCell ⟨w.heap.size, 3, none⟩ (.slice z'.A1 n z'.d1)).setCell ⟨w.heap.size, 4, none⟩ (.slice none 0 0)).setCell ⟨w.heap.size, 5, none⟩ (.slice z'.A2 p z'.d2)).setCell ⟨w.heap.size, 6, none⟩ (.slice z'.A3 q z'.d3)).setCell ⟨w.heap.size, 7, none⟩ (.slice z'.A4 n z'.d4)).setCell ⟨w.heap.size, 8, none⟩ (.slice none 0 0)).setCell ⟨w.heap.size, 9, none⟩ (.slice none 0 0)) := ⟨_, rfl⟩
  have hF := fr_set10 w1 w.heap.size (.int .i64 0) (.slice none 0 0) (.slice z'.A0 p z'.d0) (.slice z'.A1 n z'.d1) (.slice none 0 0) (.slice z'.A2 p z'.d2) (.slice z'.A3 q z'.d3) (.slice z'.A4 n z'.d4) (.slice none 0 0) (.slice none 0 0)
  have hB := hk.set10 (.int .i64 0) (.slice none 0 0) (.slice z'.A0 p z'.d0) (.slice z'.A1 n z'.d1) (.slice none 0 0) (.slice z'.A2 p z'.d2) (.slice z'.A3 q z'.d3) (.slice z'.A4 n z'.d4) (.slice none 0 0) (.slice none 0 0)
  rw [← hW1] at hF hB
  have hlt2 : w.heap.size + 1 < b0 := by rw [Z0.out] at hlt; omega
  have HD := Lib.hid (⟨hB, hF.blk hr (by omega), hd.fr hF (fun i h1 _ e => by omega), hl.trans (hF.below hl.size (fun i hi => by omega)), hlt2⟩ : DB w W1 b0 b1 b2 b3 b4 b5 z' p q n s)
  obtain ⟨y0, y1, y2, y3, y4, y5, y6, y7, y8, y9⟩ := blk10 hk
  have g0 := hk.frozen 0
  have g1 := hk.frozen 1
  have g2 := hk.frozen 2
  have g3 := hk.frozen 3
  have g4 := hk.frozen 4
  have g5 := hk.frozen 5
  have g6 := hk.frozen 6
  have g7 := hk.frozen 7
  have g8 := hk.frozen 8
  have g9 := hk.frozen 9
  have HW1 := Lib.hid hW1
  clear hk hr hl hF hB hlt hlt2 hd hb hW1 x0 x1 x2 x3 x4 x5 x6 x7 x8 x9 K0 R0 L0 Z0 CO
  go_upto_region 2 with fail
  rw [← HW1.out]
  clear HW1 y0 y1 y2 y3 y4 y5 y6 y7 y8 y9 g0 g1 g2 g3 g4 g5 g6 g7 g8 g9
  obtain ⟨x0, x1, x2, x3, x4, x5, x6, x7, x8, x9⟩ := blk10 HD.out.k
  have hml : m < s.dq.length := by rw [HD.out.d.ld]; exact hm
  obtain ⟨bq, cq, A, c, g1, g2, g3, g4, g5, g6, g7, g8, g9⟩ := HD.out.d.dq.at_ hml
  have g0 := g1
  injection g1 with g1 g1a g1b
  rw [g1] at x7
  have hrn : RN W1 (fun k => b4 ≤ k ∧ k < b5 ∧ k ≠ bq) A c (x :: r) := by
    have h1 := RN.of_own (by rw [hx] at g8; exact g8 : OwnI W1 b4 (.slice A (x :: r).length c) (x :: r))
    refine ⟨h1.1, fun h0 => ?_⟩
    obtain ⟨ad, u1, u2, u3, u4⟩ := h1.2 h0
    subst u1
    rw [hx] at g8 g9
    obtain ⟨b9, c9, cs9, v1, _, _, _, v2, _⟩ := own_form g8 h0
    injection v1 with v1 _ _
    injection v1 with v1
    subst v1
    exact ⟨_, rfl, g9 _ v2, u3, u4⟩
  obtain ⟨ad, had, hDD, hab, hac⟩ := hrn.2 (by simp)
  have ha0 := hac 0 x rfl
  have hsp := World.cell?_spot ha0
  obtain ⟨ab, ao, asp⟩ := ad
  have hsp2 : asp = none := by simpa [Addr.add] using hsp
  subst hsp2
  simp only [show (⟨ab, ao, none⟩ : Addr).add 0 = ⟨ab, ao, none⟩ by simp [Addr.add]] at ha0
  have hcl := hrn.1
  rw [hx] at g6
  have hlen : (x :: r).length = r.length + 1 := rfl
  rw [hlen] at g6 hcl
  subst had
  have hput : ∀ A' c', RN W1 (fun k => b4 ≤ k ∧ k < b5 ∧ k ≠ bq) A' c' r → Hid (Blk (W1.setCell ⟨bq, m, none⟩ (.slice A' r.length c')) w.heap.size 27 (mkC z' p q n) ∧ Blk (W1.setCell ⟨bq, m, none⟩ (.slice A' r.length c')) (w.heap.size + 1) 27 zeroC ∧ Below w.heap.size w (W1.setCell ⟨bq, m, none⟩ (.slice A' r.length c')) ∧ DocC (W1.setCell ⟨bq, m, none⟩ (.slice A' r.length c')) (fun k => w.heap.size + 1 < k) z' p q n { s with dq := s.dq.set m r }) := by
    intro A' c' hrr
    obtain ⟨a1, a2⟩ := HD.out.d.dq.put g0 hml hrr
    exact Lib.hid (HD.out.turnDq a2 a1 (by simp))
  have hPUT := Lib.hid hput
  have f70 := g7 m
  have hgl := HD.out.k.lt
  have hgb1 : ¬ w.heap.size = bq := fun e => by obtain ⟨o1, o2, o3, o4, o5, o6⟩ := HD.out.d.o; have := HD.out.lt; omega
  have hgb2 : ¬ bq = w.heap.size := fun e => hgb1 e.symm
  have hgb3 : ¬ ab = bq := hDD.2.2
  have HRN := Lib.hid hrn; have HX := Lib.hid hx
  clear hrn hput hac hx g0 g1 g1a g1b g2 g3 g4 g7 g8 g9 hDD hlen HD x0 x1 x2 x3 x4 x5 x6 x8 x9 hml hsp
  have c1 : (1 : Int) ≤ (r.length : Int) + 1 := by omega
  have c2 : (r.length : Int) + 1 ≤ (c : Int) := by omega
  obtain ⟨rl, hrl2⟩ : ∃ rl, rl = r.length := ⟨_, rfl⟩
  rw [← hrl2] at g6 hrl hcl c1 c2 hPUT
  have HRL := Lib.hid hrl2
  clear hrl2
  go_upto_region 6 with fail
  go_cut [] (fun wx => Hid (Blk wx w.heap.size 27 (mkC z' p q n) ∧ Blk wx (w.heap.size + 1) 27 zeroC ∧ Below w.heap.size w wx ∧ DocC wx (fun k => w.heap.size + 1 < k) z' p q n { s with dq := s.dq.set m r }))
  case first =>
    by_cases hc1 : c = 1
    · subst hc1
      have hr0 : rl = 0 := by omega
      have HT := hPUT.out (some ⟨ab, ao, none⟩) 0 (by
        have : r = [] := List.eq_nil_of_length_eq_zero (by rw [← HRL.out]; exact hr0)
        rw [this]
        exact RN.nil _ _ _ _)
      subst hr0
      go_region
      all_goals
        go_wp2_with fail
        go_meet
        first | exact HT | exact all_drew HT
    · have hc2 : ¬ (c : Int) = 1 := by omega
      have hc3 : ¬ c = 1 := hc1
      have hrt : RN W1 (fun k => b4 ≤ k ∧ k < b5 ∧ k ≠ bq) (some ⟨ab, ao + 1, none⟩) (c - 1) r := by
        have h := HRN.out
        refine ⟨by have := h.1; simp at this; omega, fun h0 => ?_⟩
        obtain ⟨ad2, u1, u2, u3, u4⟩ := h.2 (by simp)
        injection u1 with u1
        subst u1
        refine ⟨_, rfl, u2, u3, fun j y hj => ?_⟩
        have := u4 (j + 1) y (by simpa using hj)
        have e : (⟨ab, ao, none⟩ : Addr).add (j + 1) = (⟨ab, ao + 1, none⟩ : Addr).add j := by
          rw [Addr.add_lit, Addr.add_lit]
          congr 1
          omega
        rw [← e]
        exact this
      have HT := hPUT.out _ _ hrt
      clear hrt
      go_region
      all_goals
        go_wp2_with fail
        go_meet
        first | exact HT | exact all_drew HT
  case rest =>
  have HT := hcut
  obtain ⟨W3, hW3⟩ : ∃ W, W = wc := ⟨_, rfl⟩
  rw [← hW3] at HT ⊢
  clear hW3 hcut hPUT HRN HX HRL g6 f70 ha0 x7
  obtain ⟨x0, x1, x2, x3, x4, x5, x6, x7, x8, x9⟩ := blk10 HT.out.1
  obtain ⟨s0, s1, s2, s3, s4, s5, s6, s7, s8, s9⟩ := blk10 HT.out.2.1
  have t0 := HT.out.2.1.frozen 0
  have t1 := HT.out.2.1.frozen 1
  have t2 := HT.out.2.1.frozen 2
  have t3 := HT.out.2.1.frozen 3
  have t4 := HT.out.2.1.frozen 4
  have t5 := HT.out.2.1.frozen 5
  have t6 := HT.out.2.1.frozen 6
  have t7 := HT.out.2.1.frozen 7
  have t8 := HT.out.2.1.frozen 8
  have t9 := HT.out.2.1.frozen 9
  have HE := Lib.hid (doc_fin HT.out.2.1 HT.out.2.2.1 HT.out.2.2.2)
  clear HT
  go_wp2_with fail
  refine bodyPost_ret (v := .tuple #[.agg #[.int .i64 0, .slice none 0 0, .slice z'.A0 p z'.d0, .slice z'.A1 n z'.d1, .slice none 0 0, .slice z'.A2 p z'.d2, .slice z'.A3 q z'.d3, .slice z'.A4 n z'.d4, .slice none 0 0, .slice none 0 0], .int .i64 x]) (res9_1 rfl _ _ (w.heap.size + 1) 27 _ (0, 0) _ _ rfl rfl HE.out.1 Try.underlying27 rfl (by kernel_rfl)) rfl ?_
  first
    | exact ⟨z', rfl, HE.out.2.1, HE.out.2.2⟩
    | exact ⟨z', rfl, by rw [HROW.out]; exact HE.out.2.1, HE.out.2.2⟩
end Go.Proofs.Ytikelkfinjcgaaa
