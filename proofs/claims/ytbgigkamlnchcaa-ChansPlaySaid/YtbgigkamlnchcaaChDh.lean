
/-
  The document's Recv: where something lies, and one waits to send.
-/
import Derived.Test.YtbgigkamlnchcaaChDe
set_option linter.unusedVariables false
set_option linter.unusedSimpArgs false
namespace Go.Proofs.Ytbgigkamlnchcaa
open Go.RowKit Plain

theorem SlI.head3 {w : World} {B n c : Nat} {A : Option Addr} {l : List Int} (h : SlI w B (.slice A n c) l) (h0 : 0 < l.length) : ∃ ab ao, A = some ⟨ab, ao, none⟩ ∧ l.length ≤ c ∧ ab < w.heap.size ∧ ∀ (j : Nat) (y : Int), l[j]? = some y → w.cell? ⟨ab, ao + j, none⟩ = some (.int .i64 y) := by
  obtain ⟨A', c', e, hc, hn, hA⟩ := h
  injection e with e1 e2 e3
  subst e1 e3
  rcases A with _ | ad
  · have := hn rfl
    omega
  · obtain ⟨b, o, cs, rfl, hb, hbl, ho, hcell⟩ := hA ad rfl
    refine ⟨b, o, rfl, hc, hbl.lt, fun j y hj => ?_⟩
    rw [hbl.cell]
    simpa using hcell j y hj
set_option maxRecDepth 100000 in
set_option maxHeartbeats 8000000 in
theorem refRecv_both (w : World) (E : Nat → Prop) (z : ChZ) (n : Nat) (s : Ck) (h : DocC w E z n s) {K : Nat} (O : CkOk K n s) (hK : K ≤ 50000) (hn : n ≤ 1000) (m : Nat) (hm : m < n) (t : Int) (v : Int) (r : List Int) (hb0 : gl s.bf m = v :: r) (x y : Int) (q : List Int) (hs0 : gl s.sq m = x :: y :: q) :
    Calls Try.prog 31 #[.agg (mkD z n), .int .i64 (m : Int), .int .i64 t] w fun e w' => ∃ z' : ChZ, e = .returned (.tuple #[.agg (mkD z' n), .int .i64 v, .int .i64 x, .bool true]) ∧ DocC w' (fun k => w.heap.size ≤ k) z' n ({ s with bf := (s.bf.set m r).set m (r ++ [y]), sq := s.sq.set m q }) ∧ Below w.heap.size w w' := by
  have hR1 : (gl s.bf m).length ≤ 50000 := by have := O.row m; omega
  have hR2 : (gl s.sq m).length ≤ 50000 := by have := O.row m; omega
  have hR3 : (gl s.rq m).length ≤ 50000 := by have := O.row m; omega
  obtain ⟨W0, hW0⟩ : ∃ W, W = (w.alloc (.cells (mkD z n) 28)).alloc (.cells zeroC 28) := ⟨_, rfl⟩
  have k0 : Blk W0 w.heap.size 28 (mkD z n) := by rw [hW0]; exact (Blk.new w _ _).alloc _
  have r0 : Blk W0 (w.heap.size + 1) 28 zeroC := by rw [hW0]; simpa using Blk.new (w.alloc (.cells (mkD z n) 28)) 28 zeroC
  have l0 : Below w.heap.size w W0 := by rw [hW0]; exact ((Below.refl _ w).alloc (Nat.le_refl _) _).alloc (by simp) _
  have z0 : W0.heap.size = w.heap.size + 1 + 1 := by rw [hW0]; simp
  have hd0 := h.below l0 (Nat.le_refl _)
  have co := own_any W0 E z n s hd0 (by omega) (fun i => by have := O.row i; omega) (fun i => by have := O.row i; omega) (fun i => by have := O.row i; omega)
  have q1 : (m : Int) < (n : Int) := by omega
  have q0 : (0 : Int) ≤ (m : Int) := by omega
  have HW0 := Lib.hid hW0; have K0 := Lib.hid k0; have R0 := Lib.hid r0; have L0 := Lib.hid l0; have Z0 := Lib.hid z0; have CO := Lib.hid co
  clear hW0 k0 r0 l0 z0 co h O hd0
  go_enter Try.func31, Try.ntmps31
  go_upto_region 1 with fail
  rw [← HW0.out]
  clear HW0
  obtain ⟨x0, x1, x2, x3, x4, x5, x6, x7, x8, x9⟩ := blk10 K0.out
  go_wp2_with fail
  refine CO.out.mono ?_
  rintro e w1 ⟨z', B, rfl, hlt, hle, hd, hb⟩
  have hk := K0.out.below hb K0.out.lt
  have hr := R0.out.below hb R0.out.lt
  have hl := L0.out.trans (hb.mono L0.out.size)
  obtain ⟨W1, hW1⟩ : ∃ W, W = ((((((((((w1.setCell ⟨w.heap.size, 0, none⟩ (.int .i64 0)).setCell ⟨w.heap.size, 1, none⟩ (.slice none 0 0)).setCell ⟨w.heap.size, 2, none⟩ (.slice none 0 0)).setCell ⟨w.heap.size, 3, none⟩ (.slice none 0 0)).setCell ⟨w.heap.size, 4, none⟩ (.slice z'.A1 n z'.d1)).setCell ⟨w.heap.size, 5, none⟩ (.slice none 0 0)).setCell ⟨w.heap.size, 6, none⟩ (.slice none 0 0)).setCell ⟨w.heap.size, 7, none⟩ (.slice none 0 0)).setCell ⟨w.heap.size, 8, none⟩ (.slice z'.A2 n z'.d2)).setCell ⟨w.heap.size, 9, none⟩ (.slice z'.A3 n z'.d3)) := ⟨_, rfl⟩
  have hF := fr_set10 w1 w.heap.size (.int .i64 0) (.slice none 0 0) (.slice none 0 0) (.slice none 0 0) (.slice z'.A1 n z'.d1) (.slice none 0 0) (.slice none 0 0) (.slice none 0 0) (.slice z'.A2 n z'.d2) (.slice z'.A3 n z'.d3)
  have hB := hk.set10 (.int .i64 0) (.slice none 0 0) (.slice none 0 0) (.slice none 0 0) (.slice z'.A1 n z'.d1) (.slice none 0 0) (.slice none 0 0) (.slice none 0 0) (.slice z'.A2 n z'.d2) (.slice z'.A3 n z'.d3)
  rw [← hW1] at hF hB
  have hlt2 : w.heap.size + 1 < B := by rw [Z0.out] at hlt; omega
  have HD := Lib.hid (⟨hB, hF.blk hr (by omega), hd.fr hF (fun i h1 _ e => by omega), hl.trans (hF.below hl.size (fun i hi => by omega)), hlt2, by have := hF.size; omega⟩ : DB w W1 B z' n s)
  obtain ⟨y0, y1, y2, y3, y4, y5, y6, y7, y8, y9⟩ := blk10 hk
  have g0 := hk.frozen 0
  have g1 := hk.frozen 1
  have g2 := hk.frozen 2
  have g3 := hk.frozen 3
  have g4 := hk.frozen 4
  have g5 := hk.frozen 5
  have g6 := hk.frozen 6
  have g7 := hk.frozen 7
  have g8 := hk.frozen 8
  have g9 := hk.frozen 9
  have HW1 := Lib.hid hW1
  clear hk hr hl hF hB hlt hlt2 hle hd hb hW1 x0 x1 x2 x3 x4 x5 x6 x7 x8 x9 K0 R0 L0 Z0 CO
  go_upto_region 2 with fail
  rw [← HW1.out]
  clear HW1 y0 y1 y2 y3 y4 y5 y6 y7 y8 y9 g0 g1 g2 g3 g4 g5 g6 g7 g8 g9
  obtain ⟨x0, x1, x2, x3, x4, x5, x6, x7, x8, x9⟩ := blk10 HD.out.k
  obtain ⟨bq, Aq, cq, f1, f2, f3, f4, f5, f6, f7, f8⟩ := HD.out.at_bf hm
  rw [f1] at x4
  rw [hb0] at f5 f7 f8
  obtain ⟨ab, ao, hA, hrc, hab, hcl⟩ := f7.head3 (by simp)
  subst hA
  have e0 : W1.cell? ⟨ab, ao + 0, none⟩ = some (.int .i64 v) := hcl 0 v rfl
  rw [Nat.add_zero] at e0
  have hput : ∀ A' n' c', A' = (if cq = 1 then some ⟨ab, ao, none⟩ else some ⟨ab, ao + 1, none⟩) → n' = r.length → c' = cq - 1 → Hid (DB w (W1.setCell ⟨bq, m, none⟩ (.slice A' n' c')) B z' n { s with bf := s.bf.set m r }) := by
    intro A' n' c' e1 e2 e3
    subst e1 e2 e3
    refine Lib.hid (f8 W1 _ _ _ r rfl (Fr.refl _ _) ?_ ?_).2
    · exact f7.drop 1 (by simp)
    · intro k hk
      left
      split at hk <;> simpa [Value.ownBlock] using hk
  have HPUT := Lib.hid hput
  have hlen : (v :: r).length = r.length + 1 := rfl
  rw [hlen] at f5 hrc
  have f60 := f6 m
  have hgl := HD.out.k.lt
  have hBl := HD.out.lt
  have hgb1 : ¬ w.heap.size = bq := by omega
  have hgb2 : ¬ bq = w.heap.size := by omega
  have c0 : m < z'.d1 := by omega
  obtain ⟨rl, hrl⟩ : ∃ rl, rl = r.length := ⟨_, rfl⟩
  rw [← hrl] at f5 hrc HPUT
  have c1 : (1 : Int) ≤ (rl : Int) + 1 := by omega
  have c2 : (rl : Int) + 1 ≤ (cq : Int) := by omega
  have c3 : (0 : Int) < (rl : Int) + 1 := by omega
  have c4 : (0 : Int) ≤ (rl : Int) + 1 := by omega
  have hrlk : rl ≤ 50000 := by have := hR1; rw [hb0] at this; simp at this; omega
  have HRL := Lib.hid hrl
  clear f1 f2 f6 f7 f8 hput hcl hrl hlen
  have hl1 := HD.out.d.l1
  clear HD
  go_upto_region 4 with fail
  go_cut [] (fun wx => Hid (DB w wx B z' n { s with bf := s.bf.set m r }))
  case first =>
    clear e0 
    by_cases hc1 : cq = 1
    · subst hc1
      have hr0 : rl = 0 := by omega
      subst hr0
      have HT := HPUT.out (some ⟨ab, ao, none⟩) 0 0 (by simp) rfl (by omega)
      go_region
      all_goals
        clear HPUT
        go_wp2_with fail
        go_meet
        first | exact HT | exact Lib.hid (HT.out.drewN 1)
    · have hc2 : ¬ (cq : Int) = 1 := by omega
      have hc3 : ¬ cq = 1 := hc1
      have HT := HPUT.out (some ⟨ab, ao + 1, none⟩) rl (cq - 1) (by simp [hc3]) rfl rfl
      go_region
      all_goals
        clear HPUT
        go_wp2_with fail
        go_meet
        first | exact HT | exact Lib.hid (HT.out.drewN 1)
  case rest =>
  have HD := hcut
  obtain ⟨W3, hW3⟩ : ∃ W, W = wc := ⟨_, rfl⟩
  rw [← hW3] at HD ⊢
  clear hW3 hcut HPUT HRL f5 f60 e0  x0 x1 x2 x3 x4 x5 x6 x7 x8 x9
  obtain ⟨s1, hs1⟩ : ∃ s1, s1 = { s with bf := s.bf.set m r } := ⟨_, rfl⟩
  rw [← hs1] at HD
  have hb1 : gl s1.bf m = r := by rw [hs1]; exact gl_set (by rw [hl1]; exact hm) r
  have hs2 : gl s1.sq m = x :: y :: q := by rw [hs1]; exact hs0
  have hrb : (gl s1.bf m).length ≤ 50000 := by rw [hb1]; rw [hb0] at hR1; simp at hR1; omega
  clear hb1
  have hR2' : (gl s1.sq m).length ≤ 50000 := by rw [hs2, ← hs0]; exact hR2
  obtain ⟨x0, x1, x2, x3, x4, x5, x6, x7, x8, x9⟩ := blk10 HD.out.k
  obtain ⟨bs, As, ds, g1, g2, g3, g4, g5, g6, g7, g8⟩ := HD.out.at_sq hm
  rw [g1] at x8
  rw [hs2] at g5 g7
  obtain ⟨ab, ao, hA, hrc, hab, hcl⟩ := g7.head3 (by simp)
  subst hA
  have e0 : W3.cell? ⟨ab, ao + 0, none⟩ = some (.int .i64 x) := hcl 0 x rfl
  rw [Nat.add_zero] at e0
  have e1 : W3.cell? ⟨ab, ao + 1, none⟩ = some (.int .i64 y) := hcl 1 y rfl
  have hlen : (x :: y :: q).length = q.length + 2 := rfl
  rw [hlen] at g5 hrc
  obtain ⟨ql, hql⟩ : ∃ ql, ql = q.length := ⟨_, rfl⟩
  rw [← hql] at g5 hrc
  have c0' : m < z'.d2 := by omega
  have c1' : (1 : Int) < (ql : Int) + 2 := by omega
  have c2' : (ql : Int) + 2 ≤ (ds : Int) := by omega
  have c3' : (0 : Int) < (ql : Int) + 2 := by omega
  have c4' : (0 : Int) ≤ (ql : Int) + 2 := by omega
  have hrlk' : ql ≤ 50000 := by have := hR2'; rw [hs2] at this; simp at this; omega
  clear g2 g3 g6 g8 hcl hql hlen hs0 hb0 c0 c1 c2 c3 c4 hrlk hrc
  obtain ⟨bq, Aq, cq, f1, f2, f3, f4, f5, f6, f7, f8⟩ := HD.out.at_bf hm
  rw [f1] at x4
  obtain ⟨row, hrow⟩ : ∃ row, row = gl s1.bf m := ⟨_, rfl⟩
  obtain ⟨rl, hrl⟩ : ∃ rl, rl = row.length := ⟨_, rfl⟩
  rw [← hrow] at f5 f7 f8
  rw [← hrl] at f5 f7 f8
  have hrk : rl ≤ 50000 := by rw [hrl, hrow]; exact hrb
  have hBW := HD.out.le
  have hBl := HD.out.lt
  have hgl := HD.out.k.lt
  have x40 : W3.cell? ⟨w.heap.size, 4, none⟩ = some (.slice (some ⟨bq, 0, none⟩) n z'.d1) := x4
  have x80 : W3.cell? ⟨w.heap.size, 8, none⟩ = some (.slice (some ⟨bs, 0, none⟩) n z'.d2) := x8
  obtain ⟨ap1, ap2, ap3⟩ := HD.out.apart f1 g1 hm f5 g5
  have hfb : ∀ k, (Value.slice Aq rl cq).ownBlock = some k → B ≤ k := fun k hk => (f7.lt hk).1
  have hab2 : bq ≠ ab := fun e => ap3 ab rfl e.symm
  have hBab : B ≤ ab := (g7.lt (k := ab) rfl).1
  have hkp : ∀ W', Fr (fun k => (Value.slice Aq rl cq).ownBlock = some k) W3 W' → W'.cell? ⟨w.heap.size, 4, none⟩ = some (.slice (some ⟨bq, 0, none⟩) n z'.d1) ∧ W'.cell? ⟨w.heap.size, 8, none⟩ = some (.slice (some ⟨bs, 0, none⟩) n z'.d2) ∧ W'.cell? ⟨bs, m, none⟩ = some (.slice (some ⟨ab, ao, none⟩) (ql + 2) ds) ∧ W'.cell? ⟨ab, ao + 1, none⟩ = some (.int .i64 y) := fun W' hf =>
    ⟨(hf.cell (p := ⟨w.heap.size, 4, none⟩) hgl (fun e => by have := hfb _ e; simp only at this; omega)).trans x40, (hf.cell (p := ⟨w.heap.size, 8, none⟩) hgl (fun e => by have := hfb _ e; simp only at this; omega)).trans x80,
      (hf.cell (p := ⟨bs, m, none⟩) g4 (fun e => (ap2 bs e).2.1 rfl)).trans g5, (hf.cell (p := ⟨ab, ao + 1, none⟩) hab (fun e => (ap2 ab e).2.2 rfl)).trans e1⟩
  have hks : ∀ W' u, Fr (fun k => (Value.slice Aq rl cq).ownBlock = some k) W3 W' → (W'.setCell ⟨bq, m, none⟩ u).cell? ⟨w.heap.size, 4, none⟩ = some (.slice (some ⟨bq, 0, none⟩) n z'.d1) ∧ (W'.setCell ⟨bq, m, none⟩ u).cell? ⟨w.heap.size, 8, none⟩ = some (.slice (some ⟨bs, 0, none⟩) n z'.d2) ∧ (W'.setCell ⟨bq, m, none⟩ u).cell? ⟨bs, m, none⟩ = some (.slice (some ⟨ab, ao, none⟩) (ql + 2) ds) ∧ (W'.setCell ⟨bq, m, none⟩ u).cell? ⟨ab, ao + 1, none⟩ = some (.int .i64 y) := fun W' u hf =>
    ⟨(World.cell?_setCell_far _ _ _ _ (by show bq ≠ w.heap.size; omega)).trans (hkp W' hf).1, (World.cell?_setCell_far _ _ _ _ (by show bq ≠ w.heap.size; omega)).trans (hkp W' hf).2.1,
      (World.cell?_setCell_far _ _ _ _ (by show bq ≠ bs; exact ap1)).trans (hkp W' hf).2.2.1, (World.cell?_setCell_far _ _ _ _ (by show bq ≠ ab; exact hab2)).trans (hkp W' hf).2.2.2⟩
  have hbqn : (Value.slice Aq rl cq).ownBlock ≠ some bq := fun e => (ap2 bq e).1 rfl
  have hkr : ∀ W', Fr (fun k => (Value.slice Aq rl cq).ownBlock = some k) W3 W' → W'.cell? ⟨bq, m, none⟩ = some (.slice Aq rl cq) ∧ W'.frozen? ⟨bq, m, none⟩ = false := fun W' hf =>
    ⟨(hf.cell (p := ⟨bq, m, none⟩) f4 hbqn).trans f5, by
      have h7 := f6 m
      unfold World.frozen? at h7 ⊢
      rw [hf.block bq f4 hbqn]
      exact h7⟩
  have KP := Lib.hid hkp; have KS := Lib.hid hks; have KR := Lib.hid hkr
  have F7 := Lib.hid f7; have F8 := Lib.hid f8; have HRL := Lib.hid hrl; have HRW := Lib.hid hrow
  have f60 := f6 m
  have hgq1 : ¬ bq = w.heap.size := by omega
  have hgq2 : ¬ w.heap.size = bq := by omega
  have c0 : m < z'.d1 := by omega
  clear f1 f2 f6 f7 f8 hrl hrow hkp hks hkr x40 x80 hfb g1 g7 ap2 ap3 HD
  go_upto_region 8 with fail
  clear e0
  go_cut [] (fun wx => Hid (DB w wx B z' n { s1 with bf := s1.bf.set m (row ++ [y]) }))
  case first =>
    refine wp_region_noPanic ?_
    refine wp_region_held_drew (S := fun w' => w'.cell? ⟨w.heap.size, 4, none⟩ = some (.slice (some ⟨bq, 0, none⟩) n z'.d1) ∧ w'.cell? ⟨w.heap.size, 8, none⟩ = some (.slice (some ⟨bs, 0, none⟩) n z'.d2) ∧ w'.cell? ⟨bs, m, none⟩ = some (.slice (some ⟨ab, ao, none⟩) (ql + 2) ds) ∧ w'.cell? ⟨ab, ao + 1, none⟩ = some (.int .i64 y)) (by kernel_rfl) (KP.out _ (Fr.refl _ _).drew) (fun hHeld => ?_)
    refine wpAnyH_take (i := 0) (v := ?v1) rfl (by kernel_rfl) (by kernel_rfl) (by kernel_rfl) (fun _ _ _ h => h) (Or.inl ⟨by rfl, ?hy1⟩) (by assumption) ?rest1
    case hy1 => (intro w hSw; (try dsimp only at hSw); go_simp; try (with_reducible rfl))
    try simp only [Act.put, List.setIfInBounds_toArray, List.set_cons_zero, List.set_cons_succ]
    refine wpAnyH_take (i := 1) (v := ?v2) rfl (by kernel_rfl) (by kernel_rfl) (by kernel_rfl) (fun _ _ _ h => h) (Or.inl ⟨by rfl, ?hy2⟩) (by assumption) ?rest2
    case hy2 => (intro w hSw; (try dsimp only at hSw); go_simp; try (with_reducible rfl))
    try simp only [Act.put, List.setIfInBounds_toArray, List.set_cons_zero, List.set_cons_succ]
    refine wpAnyH_take (i := 2) (v := ?v3) rfl (by kernel_rfl) (by kernel_rfl) (by kernel_rfl) (fun _ _ _ h => h) (Or.inl ⟨by rfl, ?hy3⟩) (by assumption) ?rest3
    case hy3 => (intro w hSw; (try dsimp only at hSw); go_simp; try (with_reducible rfl))
    try simp only [Act.put, List.setIfInBounds_toArray, List.set_cons_zero, List.set_cons_succ]
    refine wpAnyH_take (i := 3) (v := ?v4) rfl (by kernel_rfl) (by kernel_rfl) (by kernel_rfl) (fun _ _ _ h => h) (Or.inl ⟨by rfl, ?hy4⟩) (by assumption) ?rest4
    case hy4 => (intro w hSw; (try dsimp only at hSw); go_simp; try (with_reducible rfl))
    try simp only [Act.put, List.setIfInBounds_toArray, List.set_cons_zero, List.set_cons_succ]
    refine wpAnyH_take (i := 4) (v := ?v5) rfl (by kernel_rfl) (by kernel_rfl) (by kernel_rfl) (fun _ _ _ h => h) (Or.inl ⟨by rfl, ?hy5⟩) (by assumption) ?rest5
    case hy5 => (intro w hSw; (try dsimp only at hSw); go_simp; try (with_reducible rfl))
    try simp only [Act.put, List.setIfInBounds_toArray, List.set_cons_zero, List.set_cons_succ]
    refine wpAnyH_take (i := 5) (v := ?v6) rfl (by kernel_rfl) (by kernel_rfl) (by kernel_rfl) (fun _ _ _ h => h) (Or.inl ⟨by rfl, ?hy6⟩) (by assumption) ?rest6
    case hy6 => (intro w hSw; (try dsimp only at hSw); go_simp; try (with_reducible rfl))
    try simp only [Act.put, List.setIfInBounds_toArray, List.set_cons_zero, List.set_cons_succ]
    refine wpAnyH_take (i := 6) (v := ?v7) rfl (by kernel_rfl) (by kernel_rfl) (by kernel_rfl) (fun _ _ _ h => h) (Or.inl ⟨by rfl, ?hy7⟩) (by assumption) ?rest7
    case hy7 => (intro w hSw; (try dsimp only at hSw); go_simp; try (with_reducible rfl))
    try simp only [Act.put, List.setIfInBounds_toArray, List.set_cons_zero, List.set_cons_succ]
    refine wpAnyH_take (i := 8) (v := ?v8) rfl (by kernel_rfl) (by kernel_rfl) (by kernel_rfl) (fun _ _ _ h => h) (Or.inl ⟨by rfl, ?hy8⟩) (by assumption) ?rest8
    case hy8 => (intro w hSw; (try dsimp only at hSw); go_simp; try (with_reducible rfl))
    try simp only [Act.put, List.setIfInBounds_toArray, List.set_cons_zero, List.set_cons_succ]
    refine wpAnyH_take (i := 9) (v := ?v9) rfl (by kernel_rfl) (by kernel_rfl) (by kernel_rfl) (fun _ _ _ h => h) (Or.inl ⟨by rfl, ?hy9⟩) (by assumption) ?rest9
    case hy9 => (intro w hSw; (try dsimp only at hSw); go_simp; try (with_reducible rfl))
    try simp only [Act.put, List.setIfInBounds_toArray, List.set_cons_zero, List.set_cons_succ]
    refine wpAnyH_take (i := 10) (v := ?v10) rfl (by kernel_rfl) (by kernel_rfl) (by kernel_rfl) (fun _ _ _ h => h) (Or.inl ⟨by rfl, ?hy10⟩) (by assumption) ?rest10
    case hy10 => (intro w hSw; (try dsimp only at hSw); go_simp; try (with_reducible rfl))
    try simp only [Act.put, List.setIfInBounds_toArray, List.set_cons_zero, List.set_cons_succ]
    refine wpAnyH_take (i := 11) (v := ?v11) rfl (by kernel_rfl) (by kernel_rfl) (by kernel_rfl) (fun _ _ _ h => h) (Or.inl ⟨by rfl, ?hy11⟩) (by assumption) ?rest11
    case hy11 => (intro w hSw; (try dsimp only at hSw); go_simp; try (with_reducible rfl))
    try simp only [Act.put, List.setIfInBounds_toArray, List.set_cons_zero, List.set_cons_succ]
    refine wpAnyH_take (i := 12) (v := ?v12) rfl (by kernel_rfl) (by kernel_rfl) (by kernel_rfl) (fun _ _ _ h => h) (Or.inl ⟨by rfl, ?hy12⟩) (by assumption) ?rest12
    case hy12 => (intro w hSw; (try dsimp only at hSw); go_simp; try (with_reducible rfl))
    try simp only [Act.put, List.setIfInBounds_toArray, List.set_cons_zero, List.set_cons_succ]
    refine wpAnyH_take (i := 13) (v := ?v13) rfl (by kernel_rfl) (by kernel_rfl) (by kernel_rfl) (fun _ _ _ h => h) (Or.inl ⟨by rfl, ?hy13⟩) (by assumption) ?rest13
    case hy13 => (intro w hSw; (try dsimp only at hSw); go_simp; try (with_reducible rfl))
    try simp only [Act.put, List.setIfInBounds_toArray, List.set_cons_zero, List.set_cons_succ]
    refine wpAnyH_take (i := 14) (v := ?v14) rfl (by kernel_rfl) (by kernel_rfl) (by kernel_rfl) (fun _ _ _ h => h) (Or.inl ⟨by rfl, ?hy14⟩) (by assumption) ?rest14
    case hy14 => (intro w hSw; (try dsimp only at hSw); go_simp; try (with_reducible rfl))
    try simp only [Act.put, List.setIfInBounds_toArray, List.set_cons_zero, List.set_cons_succ]
    refine wpAnyH_ready (rs := [7, 15]) (by kernel_rfl) (by simp) ?_
    refine AllReadyH.cons rfl (fun K hK => ?_) (AllReadyH.cons rfl (fun K hK => ?_) AllReadyH.nil)
    · go_simp
      refine hK.out _ _ ?_ (fun hHeld => ?_)
      · first | exact KP.out _ (Fr.refl _ _).drew | exact KP.out _ ((Fr.refl _ _).drewN 1)
      clear hK K
      try simp only [Act.put, List.setIfInBounds_toArray, List.set_cons_zero, List.set_cons_succ]
      refine wpAnyH_ready (rs := [15]) (by kernel_rfl) (by simp) ?_
      refine AllReadyH.cons rfl (fun K hK => ?_) AllReadyH.nil
      go_simp
      refine hK.out _ _ ?_ (fun hHeld => ?_)
      · first | exact KP.out _ ((Fr.refl _ _).drew.alloc _) | exact KP.out _ (((Fr.refl _ _).alloc _).drew)
      clear hK K
      try simp only [Act.put, List.setIfInBounds_toArray, List.set_cons_zero, List.set_cons_succ]
      refine wpAnyH_ready (rs := [16]) (by kernel_rfl) (by simp) ?_
      refine AllReadyH.cons rfl (fun K hK => ?_) AllReadyH.nil
      refine wp_append_sl (.tmp 61) (.tmp 69) (by rfl) B (.slice Aq rl cq) row [y] (by rfl) (F7.out.fr ((Fr.refl (fun _ => False) W3).drew.alloc _) (fun _ _ h => h)) ⟨W3.heap.size, 0, none⟩ 1 1 (by rfl) (by rfl) (reads_one_c W3.drew y _) (by rw [← HRL.out]; omega) (by simp; omega) ?_
      intro A' c' w2 hs2 hf2 hk2
      rw [← HRL.out] at hs2 hk2 ⊢
      have hf3 : Fr (fun k => (Value.slice Aq rl cq).ownBlock = some k) W3 w2 := ((Fr.refl (fun _ => False) W3).drew.alloc _ |>.mono (fun _ _ h => h.elim)).trans hf2 (fun _ _ h => h)
      obtain ⟨⟨v5, v6, v7⟩, HT0⟩ := F8.out w2 A' (rl + 1) c' (row ++ [y]) (by rw [List.length_append, ← HRL.out]; rfl) hf3 hs2 (fun k hk => (hk2 k hk).imp_right (fun h => by simp at h; omega))
      have HT := Lib.hid HT0; have HF3 := Lib.hid hf3
      clear HT0 hs2 hf2 hk2 hf3
      refine hK.out _ _ ?_ (fun hHeld => ?_)
      · exact KP.out _ HF3.out
      clear hK K
      try simp only [Act.put, List.setIfInBounds_toArray, List.set_cons_zero, List.set_cons_succ]
      refine wpAnyH_take (i := 17) (v := ?v15) rfl (by kernel_rfl) (by kernel_rfl) (by kernel_rfl) (fun _ _ _ h => h) (Or.inl ⟨by rfl, ?hy15⟩) (by assumption) ?rest15
      case hy15 => (intro w hSw; (try dsimp only at hSw); go_simp; try (with_reducible rfl))
      try simp only [Act.put, List.setIfInBounds_toArray, List.set_cons_zero, List.set_cons_succ]
      refine wpAnyH_ready (rs := [18]) (by kernel_rfl) (by simp) ?_
      refine AllReadyH.cons rfl (fun K hK => ?_) AllReadyH.nil
      go_simp
      refine hK.out _ _ ?_ (fun hHeld => ?_)
      · exact KS.out _ _ HF3.out
      clear hK K
      try simp only [Act.put, List.setIfInBounds_toArray, List.set_cons_zero, List.set_cons_succ]
      refine wpAnyH_done (by kernel_rfl) ?_ _
      refine NoPanic.normal ?_
      go_wp2_with fail
      go_meet
      exact HT
    · go_simp
      refine hK.out _ _ ?_ (fun hHeld => ?_)
      · first | exact KP.out _ ((Fr.refl _ _).drew.alloc _) | exact KP.out _ (((Fr.refl _ _).alloc _).drew)
      clear hK K
      try simp only [Act.put, List.setIfInBounds_toArray, List.set_cons_zero, List.set_cons_succ]
      obtain ⟨y1, y2⟩ := KR.out _ ((Fr.refl _ W3).drew.alloc (.cells #[.int .i64 y] 3))
      obtain ⟨y3, y4⟩ := KR.out _ ((Fr.refl _ W3).alloc (.cells #[.int .i64 y] 3))
      refine wpAnyH_ready (rs := [7]) (by kernel_rfl) (by simp) ?_
      refine AllReadyH.cons rfl (fun K hK => ?_) AllReadyH.nil
      go_simp
      refine hK.out _ _ ?_ (fun hHeld => ?_)
      · first | exact KP.out _ ((Fr.refl _ _).drew.alloc _) | exact KP.out _ (((Fr.refl _ _).alloc _).drew)
      clear hK K
      try simp only [Act.put, List.setIfInBounds_toArray, List.set_cons_zero, List.set_cons_succ]
      refine wpAnyH_ready (rs := [16]) (by kernel_rfl) (by simp) ?_
      refine AllReadyH.cons rfl (fun K hK => ?_) AllReadyH.nil
      refine wp_append_sl (.tmp 61) (.tmp 69) (by rfl) B (.slice Aq rl cq) row [y] (by rfl) (F7.out.fr ((Fr.refl (fun _ => False) W3).drew.alloc _) (fun _ _ h => h)) ⟨W3.heap.size, 0, none⟩ 1 1 (by rfl) (by rfl) (reads_one_c W3.drew y _) (by rw [← HRL.out]; omega) (by simp; omega) ?_
      intro A' c' w2 hs2 hf2 hk2
      rw [← HRL.out] at hs2 hk2 ⊢
      have hf3 : Fr (fun k => (Value.slice Aq rl cq).ownBlock = some k) W3 w2 := ((Fr.refl (fun _ => False) W3).drew.alloc _ |>.mono (fun _ _ h => h.elim)).trans hf2 (fun _ _ h => h)
      obtain ⟨⟨v5, v6, v7⟩, HT0⟩ := F8.out w2 A' (rl + 1) c' (row ++ [y]) (by rw [List.length_append, ← HRL.out]; rfl) hf3 hs2 (fun k hk => (hk2 k hk).imp_right (fun h => by simp at h; omega))
      have HT := Lib.hid HT0; have HF3 := Lib.hid hf3
      clear HT0 hs2 hf2 hk2 hf3
      refine hK.out _ _ ?_ (fun hHeld => ?_)
      · exact KP.out _ HF3.out
      clear hK K
      try simp only [Act.put, List.setIfInBounds_toArray, List.set_cons_zero, List.set_cons_succ]
      refine wpAnyH_take (i := 17) (v := ?v16) rfl (by kernel_rfl) (by kernel_rfl) (by kernel_rfl) (fun _ _ _ h => h) (Or.inl ⟨by rfl, ?hy16⟩) (by assumption) ?rest16
      case hy16 => (intro w hSw; (try dsimp only at hSw); go_simp; try (with_reducible rfl))
      try simp only [Act.put, List.setIfInBounds_toArray, List.set_cons_zero, List.set_cons_succ]
      refine wpAnyH_ready (rs := [18]) (by kernel_rfl) (by simp) ?_
      refine AllReadyH.cons rfl (fun K hK => ?_) AllReadyH.nil
      go_simp
      refine hK.out _ _ ?_ (fun hHeld => ?_)
      · exact KS.out _ _ HF3.out
      clear hK K
      try simp only [Act.put, List.setIfInBounds_toArray, List.set_cons_zero, List.set_cons_succ]
      refine wpAnyH_done (by kernel_rfl) ?_ _
      refine NoPanic.normal ?_
      go_wp2_with fail
      go_meet
      exact HT
  case rest =>
  have HD := hcut
  obtain ⟨W4, hW4⟩ : ∃ W, W = wc := ⟨_, rfl⟩
  rw [← hW4] at HD ⊢
  clear hW4 hcut e1 g5 f5 f60 F7 F8 HRL KP KS KR x0 x1 x2 x3 x4 x5 x6 x7 x8 x9 ap1 hab2 hBab g4 hab
  have hrw : row = r := by rw [HRW.out, hs1]; exact gl_set (by rw [hl1]; exact hm) r
  have hst : { s1 with bf := s1.bf.set m (row ++ [y]) } = { s with bf := (s.bf.set m r).set m (r ++ [y]) } := by rw [hrw, hs1]
  obtain ⟨s2, hs3⟩ : ∃ s2, s2 = { s1 with bf := s1.bf.set m (row ++ [y]) } := ⟨_, rfl⟩
  rw [← hs3] at HD
  rw [hst] at hs3
  have hs4 : gl s2.sq m = x :: y :: q := by rw [hs3, ← hs2, hs1]
  have hsq : s2.sq = s.sq := by rw [hs3]
  have hR2 : (gl s2.sq m).length ≤ 50000 := by rw [hsq]; exact hR2
  have HS3 := Lib.hid hs3
  clear hs3 hst hrw HRW hs2 hs1 c0 f4 hrk hBW hBl hgl hsq hrb hR2' c0' c1' c2' c3' c4' hrlk'
  obtain ⟨x0, x1, x2, x3, x4, x5, x6, x7, x8, x9⟩ := blk10 HD.out.k
  obtain ⟨bq, Aq, cq, f1, f2, f3, f4, f5, f6, f7, f8⟩ := HD.out.at_sq hm
  rw [f1] at x8
  rw [hs4] at f5 f7 f8
  obtain ⟨ab, ao, hA, hrc, hab, hcl⟩ := f7.head3 (by simp)
  subst hA
  have e0 : W4.cell? ⟨ab, ao + 0, none⟩ = some (.int .i64 x) := hcl 0 x rfl
  rw [Nat.add_zero] at e0
  have e1 : W4.cell? ⟨ab, ao + 1, none⟩ = some (.int .i64 y) := hcl 1 y rfl
  have hput : ∀ A' n' c', A' = (if cq = 2 then some ⟨ab, ao, none⟩ else some ⟨ab, ao + 2, none⟩) → n' = q.length → c' = cq - 2 → Hid (DB w (W4.setCell ⟨bq, m, none⟩ (.slice A' n' c')) B z' n { s2 with sq := s2.sq.set m q }) := by
    intro A' n' c' e1 e2 e3
    subst e1 e2 e3
    refine Lib.hid (f8 W4 _ _ _ q rfl (Fr.refl _ _) ?_ ?_).2
    · exact f7.drop 2 (by simp)
    · intro k hk
      left
      split at hk <;> simpa [Value.ownBlock] using hk
  have HPUT := Lib.hid hput
  have hlen : (x :: y :: q).length = q.length + 2 := rfl
  rw [hlen] at f5 hrc
  have f60 := f6 m
  have hgl := HD.out.k.lt
  have hBl := HD.out.lt
  have hgb1 : ¬ w.heap.size = bq := by omega
  have hgb2 : ¬ bq = w.heap.size := by omega
  have c0 : m < z'.d2 := by omega
  obtain ⟨rl, hrl⟩ : ∃ rl, rl = q.length := ⟨_, rfl⟩
  rw [← hrl] at f5 hrc HPUT
  have c1 : (2 : Int) ≤ (rl : Int) + 2 := by omega
  have c2 : (rl : Int) + 2 ≤ (cq : Int) := by omega
  have c3 : (0 : Int) < (rl : Int) + 2 := by omega
  have c4 : (0 : Int) ≤ (rl : Int) + 2 := by omega
  have hrlk : rl ≤ 50000 := by have := hR2; rw [hs4] at this; simp at this; omega
  have HRL := Lib.hid hrl
  clear f1 f2 f6 f7 f8 hput hcl hrl hlen
  clear HD hs4
  go_upto_region 9 with fail
  go_cut [] (fun wx => Hid (DB w wx B z' n { s2 with sq := s2.sq.set m q }))
  case first =>
    clear e0 e1
    by_cases hc1 : cq = 2
    · subst hc1
      have hr0 : rl = 0 := by omega
      subst hr0
      have HT := HPUT.out (some ⟨ab, ao, none⟩) 0 0 (by simp) rfl (by omega)
      go_region
      all_goals
        clear HPUT
        go_wp2_with fail
        go_meet
        first | exact HT | exact Lib.hid (HT.out.drewN 1)
    · have hc2 : ¬ (cq : Int) = 2 := by omega
      have hc3 : ¬ cq = 2 := hc1
      have HT := HPUT.out (some ⟨ab, ao + 2, none⟩) rl (cq - 2) (by simp [hc3]) rfl rfl
      go_region
      all_goals
        clear HPUT
        go_wp2_with fail
        go_meet
        first | exact HT | exact Lib.hid (HT.out.drewN 1)
  case rest =>
  have HD := hcut
  obtain ⟨W5, hW3⟩ : ∃ W, W = wc := ⟨_, rfl⟩
  rw [← hW3] at HD ⊢
  clear hW3 hcut HPUT HRL f5 f60 e0 e1 x0 x1 x2 x3 x4 x5 x6 x7 x8 x9
  obtain ⟨x0, x1, x2, x3, x4, x5, x6, x7, x8, x9⟩ := blk10 HD.out.k
  obtain ⟨s0, s1, s2, s3, s4, s5, s6, s7, s8, s9⟩ := blk10 HD.out.r
  have t0 := HD.out.r.frozen 0
  have t1 := HD.out.r.frozen 1
  have t2 := HD.out.r.frozen 2
  have t3 := HD.out.r.frozen 3
  have t4 := HD.out.r.frozen 4
  have t5 := HD.out.r.frozen 5
  have t6 := HD.out.r.frozen 6
  have t7 := HD.out.r.frozen 7
  have t8 := HD.out.r.frozen 8
  have t9 := HD.out.r.frozen 9
  have HE := Lib.hid (doc_fin HD.out)
  clear HD
  go_wp2_with fail
  refine bodyPost_ret (v := .tuple #[.agg (mkD z' n), .int .i64 v, .int .i64 x, .bool true]) (resC_3 rfl _ _ (w.heap.size + 1) 28 _ (0, 0) _ _ _ _ rfl rfl rfl rfl HE.out.1 Try.underlying28 rfl (by kernel_rfl)) rfl ?_
  exact ⟨z', rfl, by have h9 := HE.out.2.1; rw [HS3.out] at h9; exact h9, HE.out.2.2⟩
end Go.Proofs.Ytbgigkamlnchcaa
