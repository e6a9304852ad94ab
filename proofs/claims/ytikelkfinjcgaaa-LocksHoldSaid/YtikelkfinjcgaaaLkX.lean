
/-
  The document's Lock in both cases, and its Signal of somebody.
-/
import Derived.Test.YtikelkfinjcgaaaLkW
import Derived.Test.YtikelkfinjcgaaaLkS
set_option linter.unusedVariables false
set_option linter.unusedSimpArgs false
namespace Go.Proofs.Ytikelkfinjcgaaa
open Go.RowKit Plain

theorem refLock_any (w : World) (E : Nat → Prop) (z : LkQ) (p q n : Nat) (s : Lk) (h : DocC w E z p q n s) (hs : SzL s) (m : Nat) (hm : m < p) (t : Int) (hx : -1 ≤ gn s.own m) :
    Calls Try.prog 43 #[.agg (mkC z p q n), .int .i64 (m : Int), .int .i64 t] w fun e w' => ∃ z' : LkQ, e = .returned (.tuple #[.agg (mkC z' p q n), .bool (lockV s m t).2]) ∧ DocC w' (fun k => w.heap.size ≤ k) z' p q n (lockV s m t).1 ∧ Below w.heap.size w w' := by
  by_cases h1 : gn s.own m = -1
  · have := refLock_free w E z p q n s h hs m hm t h1
    rw [show lockV s m t = ({ s with own := s.own.set m t }, true) by simp [lockV, h1]]
    exact this
  · have := refLock_busy w E z p q n s h hs m hm t (by omega)
    rw [show lockV s m t = ({ s with lq := s.lq.set m (gl s.lq m ++ [t]) }, false) by simp [lockV, h1]]
    exact this
theorem SzL.wq {s : Lk} (h : SzL s) (c : Nat) (r : List Int) (hr : r.length ≤ 100000) (hc : c < s.wq.length) : SzL { s with wq := s.wq.set c r } :=
  ⟨h.a, h.b, by have := h.c; simpa using this, h.d, fun i => by
    by_cases e : c = i
    · subst e
      rw [gl_set hc]
      exact hr
    · rw [gl_set_ne e]
      exact h.e i, h.f⟩
set_option maxRecDepth 100000 in
set_option maxHeartbeats 8000000 in
theorem refSignal_some (w : World) (E : Nat → Prop) (z : LkQ) (p q n : Nat) (s : Lk) (h : DocC w E z p q n s) (hs : SzL s) (cc m : Nat) (hc : cc < q) (hm : m < p) (ho : -1 ≤ gn s.own m) (x : Int) (r : List Int) (hx : gl s.wq cc = x :: r) :
    Calls Try.prog 46 #[.agg (mkC z p q n), .int .i64 (cc : Int), .int .i64 (m : Int)] w fun e w' => ∃ z' : LkQ, e = .returned (.tuple #[.agg (mkC z' p q n), .int .i64 x, .bool (lockV { s with wq := s.wq.set cc r } m x).2]) ∧ DocC w' (fun k => w.heap.size ≤ k) z' p q n (lockV { s with wq := s.wq.set cc r } m x).1 ∧ Below w.heap.size w w' := by
  obtain ⟨i0, hi0, hz0, hz1, hz2⟩ := info_parts info_int
  have hpa : p ≤ 100000 := by have := hs.a; have := h.lo; omega
  have hna : n ≤ 100000 := by have := hs.b; have := h.ln; omega
  have hqa : q ≤ 100000 := by have := hs.c; have := h.lw; omega
  have hrl := hs.e cc
  rw [hx] at hrl
  simp only [List.length_cons] at hrl
  have q1 : (cc : Int) < (q : Int) := by omega
  have q0 : (0 : Int) ≤ (cc : Int) := by omega
  have hmw : cc < s.wq.length := by rw [h.lw]; exact hc
  have hs2 := hs.wq cc r (by omega) hmw
  have HS2 := Lib.hid hs2
  have HO := Lib.hid ho
  clear hs2 ho hmw
  go_enter Try.func46, Try.ntmps46
  obtain ⟨W0, hW0⟩ : ∃ W, W = (w.alloc (.cells (mkC z p q n) 27)).alloc (.cells zeroC 27) := ⟨_, rfl⟩
  have k0 : Blk W0 w.heap.size 27 (mkC z p q n) := by rw [hW0]; exact (Blk.new w _ _).alloc _
  have r0 : Blk W0 (w.heap.size + 1) 27 zeroC := by rw [hW0]; simpa using Blk.new (w.alloc (.cells (mkC z p q n) 27)) 27 zeroC
  have l0 : Below w.heap.size w W0 := by rw [hW0]; exact ((Below.refl _ w).alloc (Nat.le_refl _) _).alloc (by simp) _
  have z0 : W0.heap.size = w.heap.size + 1 + 1 := by rw [hW0]; simp
  have hmo0 : cc < s.wq.length := by rw [h.lw]; exact hc
  obtain ⟨ad0, A1, d1, c1, c2, c3, c4, c6⟩ := h.wq.at_ hmo0
  have c5 : W0.cell? (ad0.add cc) = some (.slice A1 (gl s.wq cc).length d1) := (l0.cell (p := ad0.add cc) (by rw [block_of_add]; exact c3)).trans c4
  rw [hx, show (x :: r).length = r.length + 1 from rfl] at c5
  have hne : ¬ ((r.length : Int) + 1 = 0) := by omega
  have co := own_any W0 E z p q n s (h.below l0 (Nat.le_refl _)) hs
  have HW0 := Lib.hid hW0; have K0 := Lib.hid k0; have R0 := Lib.hid r0; have L0 := Lib.hid l0; have Z0 := Lib.hid z0; have CO := Lib.hid co
  clear hW0 k0 r0 l0 z0 co h hs c2 c3 c4 c6 hmo0
  go_upto_region 1 with fail
  rw [← HW0.out]
  clear HW0
  obtain ⟨x0, x1, x2, x3, x4, x5, x6, x7, x8, x9⟩ := blk10 K0.out
  have C1 := Lib.hid c1
  rw [c1] at x6
  rw [show mkC z p q n = mkC { z with A3 := some ad0 } p q n by simp only [mkC, C1.out]] at CO
  clear c1
  go_wp2_with fail
  refine CO.out.mono ?_
  rintro e w1 ⟨z', b0, b1, b2, b3, b4, b5, rfl, hlt, hd, hb⟩
  have hk := K0.out.below hb K0.out.lt
  have hr := R0.out.below hb R0.out.lt
  have hl := L0.out.trans (hb.mono L0.out.size)
  obtain ⟨W1, hW1⟩ : ∃ W, W = ((((((((((w1.setCell ⟨w.heap.size, 0, none⟩ (.int .i64 0)).setCell ⟨w.heap.size, 1, none⟩ (.slice none 0 0)).setCell ⟨w.heap.size, 2, none⟩ (.slice z'.A0 p z'.d0)).setCell ⟨w.heap.size, 3, none⟩ (.slice z'.A1 n z'.d1)).setCell ⟨w.heap.size, 4, none⟩ (.slice none 0 0)).setCell ⟨w.heap.size, 5, none⟩ (.slice z'.A2 p z'.d2)).setCell ⟨w.heap.size, 6, none⟩ (.slice z'.A3 q z'.d3)).setCell ⟨w.heap.size, 7, none⟩ (.slice z'.A4 n z'.d4)).setCell ⟨w.heap.size, 8, none⟩ (.slice none 0 0)).setCell ⟨w.heap.size, 9, none⟩ (.slice none 0 0)) := ⟨_, rfl⟩
  have hF := fr_set10 w1 w.heap.size (.int .i64 0) (.slice none 0 0) (.slice z'.A0 p z'.d0) (.slice z'.A1 n z'.d1) (.slice none 0 0) (.slice z'.A2 p z'.d2) (.slice z'.A3 q z'.d3) (.slice z'.A4 n z'.d4) (.slice none 0 0) (.slice none 0 0)
  have hB := hk.set10 (.int .i64 0) (.slice none 0 0) (.slice z'.A0 p z'.d0) (.slice z'.A1 n z'.d1) (.slice none 0 0) (.slice z'.A2 p z'.d2) (.slice z'.A3 q z'.d3) (.slice z'.A4 n z'.d4) (.slice none 0 0) (.slice none 0 0)
  rw [← hW1] at hF hB
  have hlt2 : w.heap.size + 1 < b0 := by rw [Z0.out] at hlt; omega
  have HD := Lib.hid (⟨hB, hF.blk hr (by omega), hd.fr hF (fun i h1 _ e => by omega), hl.trans (hF.below hl.size (fun i hi => by omega)), hlt2⟩ : DB w W1 b0 b1 b2 b3 b4 b5 z' p q n s)
  obtain ⟨y0, y1, y2, y3, y4, y5, y6, y7, y8, y9⟩ := blk10 hk
  have g0 := hk.frozen 0
  have g1 := hk.frozen 1
  have g2 := hk.frozen 2
  have g3 := hk.frozen 3
  have g4 := hk.frozen 4
  have g5 := hk.frozen 5
  have g6 := hk.frozen 6
  have g7 := hk.frozen 7
  have g8 := hk.frozen 8
  have g9 := hk.frozen 9
  have HW1 := Lib.hid hW1
  clear c5 hne hk hr hl hF hB hlt hlt2 hd hb hW1 x0 x1 x2 x3 x4 x5 x6 x7 x8 x9 K0 R0 L0 Z0 CO
  go_upto_region 4 with fail
  rw [← HW1.out]
  clear HW1 y0 y1 y2 y3 y4 y5 y6 y7 y8 y9 g0 g1 g2 g3 g4 g5 g6 g7 g8 g9
  obtain ⟨x0, x1, x2, x3, x4, x5, x6, x7, x8, x9⟩ := blk10 HD.out.k
  have hml : cc < s.wq.length := by rw [HD.out.d.lw]; exact hc
  obtain ⟨bq, cq, A, c, g1, g2, g3, g4, g5, g6, g7, g8, g9⟩ := HD.out.d.wq.at_ hml
  have g0 := g1
  injection g1 with g1 g1a g1b
  rw [g1] at x6
  have hrn : RN W1 (fun k => b3 ≤ k ∧ k < b4 ∧ k ≠ bq) A c (x :: r) := by
    have h1 := RN.of_own (by rw [hx] at g8; exact g8 : OwnI W1 b3 (.slice A (x :: r).length c) (x :: r))
    refine ⟨h1.1, fun h0 => ?_⟩
    obtain ⟨ad, u1, u2, u3, u4⟩ := h1.2 h0
    subst u1
    rw [hx] at g8 g9
    obtain ⟨b9, c9, cs9, v1, _, _, _, v2, _⟩ := own_form g8 h0
    injection v1 with v1 _ _
    injection v1 with v1
    subst v1
    exact ⟨_, rfl, g9 _ v2, u3, u4⟩
  obtain ⟨ad, had, hDD, hab, hac⟩ := hrn.2 (by simp)
  have ha0 := hac 0 x rfl
  have hsp := World.cell?_spot ha0
  obtain ⟨ab, ao, asp⟩ := ad
  have hsp2 : asp = none := by simpa [Addr.add] using hsp
  subst hsp2
  simp only [show (⟨ab, ao, none⟩ : Addr).add 0 = ⟨ab, ao, none⟩ by simp [Addr.add]] at ha0
  have hcl := hrn.1
  rw [hx] at g6
  have hlen : (x :: r).length = r.length + 1 := rfl
  rw [hlen] at g6 hcl
  subst had
  have hput : ∀ A' c', RN W1 (fun k => b3 ≤ k ∧ k < b4 ∧ k ≠ bq) A' c' r → Hid (Blk (W1.setCell ⟨bq, cc, none⟩ (.slice A' r.length c')) w.heap.size 27 (mkC z' p q n) ∧ Blk (W1.setCell ⟨bq, cc, none⟩ (.slice A' r.length c')) (w.heap.size + 1) 27 zeroC ∧ Below w.heap.size w (W1.setCell ⟨bq, cc, none⟩ (.slice A' r.length c')) ∧ DocC (W1.setCell ⟨bq, cc, none⟩ (.slice A' r.length c')) (fun k => w.heap.size + 1 < k) z' p q n { s with wq := s.wq.set cc r }) := by
    intro A' c' hrr
    obtain ⟨a1, a2⟩ := HD.out.d.wq.put g0 hml hrr
    exact Lib.hid (HD.out.turnWq a2 a1 (by simp))
  have hPUT := Lib.hid hput
  have f70 := g7 cc
  have hgl := HD.out.k.lt
  have hgb1 : ¬ w.heap.size = bq := fun e => by obtain ⟨o1, o2, o3, o4, o5, o6⟩ := HD.out.d.o; have := HD.out.lt; omega
  have hgb2 : ¬ bq = w.heap.size := fun e => hgb1 e.symm
  have hgb3 : ¬ ab = bq := hDD.2.2
  have HRN := Lib.hid hrn; have HX := Lib.hid hx
  clear hrn hput hac hx g0 g1 g1a g1b g2 g3 g4 g7 g8 g9 hDD hlen HD x0 x1 x2 x3 x4 x5 x7 x8 x9 hml hsp
  have c1 : (1 : Int) ≤ (r.length : Int) + 1 := by omega
  have c2 : (r.length : Int) + 1 ≤ (c : Int) := by omega
  obtain ⟨rl, hrl2⟩ : ∃ rl, rl = r.length := ⟨_, rfl⟩
  rw [← hrl2] at g6 hrl hcl c1 c2 hPUT
  have HRL := Lib.hid hrl2
  clear hrl2
  go_upto_region 5 with fail
  go_cut [] (fun wx => Hid (Blk wx w.heap.size 27 (mkC z' p q n) ∧ Blk wx (w.heap.size + 1) 27 zeroC ∧ Below w.heap.size w wx ∧ DocC wx (fun k => w.heap.size + 1 < k) z' p q n { s with wq := s.wq.set cc r }))
  case first =>
    by_cases hc1 : c = 1
    · subst hc1
      have hr0 : rl = 0 := by omega
      have HT := hPUT.out (some ⟨ab, ao, none⟩) 0 (by
        have : r = [] := List.eq_nil_of_length_eq_zero (by rw [← HRL.out]; exact hr0)
        rw [this]
        exact RN.nil _ _ _ _)
      subst hr0
      go_big_region
      all_goals
        go_wp2_with fail
        go_meet
        first | exact HT | exact all_drew HT
    · have hc2 : ¬ (c : Int) = 1 := by omega
      have hc3 : ¬ c = 1 := hc1
      have hrt : RN W1 (fun k => b3 ≤ k ∧ k < b4 ∧ k ≠ bq) (some ⟨ab, ao + 1, none⟩) (c - 1) r := by
        have h := HRN.out
        refine ⟨by have := h.1; simp at this; omega, fun h0 => ?_⟩
        obtain ⟨ad2, u1, u2, u3, u4⟩ := h.2 (by simp)
        injection u1 with u1
        subst u1
        refine ⟨_, rfl, u2, u3, fun j y hj => ?_⟩
        have := u4 (j + 1) y (by simpa using hj)
        have e : (⟨ab, ao, none⟩ : Addr).add (j + 1) = (⟨ab, ao + 1, none⟩ : Addr).add j := by
          rw [Addr.add_lit, Addr.add_lit]
          congr 1
          omega
        rw [← e]
        exact this
      have HT := hPUT.out _ _ hrt
      clear hrt
      go_big_region
      all_goals
        go_wp2_with fail
        go_meet
        first | exact HT | exact all_drew HT
  case rest =>
  have HT3 := hcut
  obtain ⟨W3, hW3⟩ : ∃ W, W = wc := ⟨_, rfl⟩
  rw [← hW3] at HT3 ⊢
  clear hW3 hcut hPUT HRN HX HRL g6 f70 ha0 x6
  have co := refLock_any W3 _ z' p q n _ HT3.out.2.2.2 HS2.out m hm x HO.out
  have CO := Lib.hid co
  obtain ⟨x0, x1, x2, x3, x4, x5, x6, x7, x8, x9⟩ := blk10 HT3.out.1
  clear co
  generalize hy2 : (lockV { s with wq := s.wq.set cc r } m x).2 = y at CO
  generalize hy1 : (lockV { s with wq := s.wq.set cc r } m x).1 = s9 at CO
  have HY1 := Lib.hid hy1; have HY2 := Lib.hid hy2
  clear hy1 hy2
  go_upto_region 6 with fail
  go_wp2_with fail
  refine CO.out.mono ?_
  rintro e w4 ⟨z2, rfl, hD4, hb4⟩
  obtain ⟨W5, hW5⟩ : ∃ W, W = w4.alloc (.cells (mkC z2 p q n) 27) := ⟨_, rfl⟩
  obtain ⟨tb, htb⟩ : ∃ b, b = w4.heap.size := ⟨_, rfl⟩
  have k5 : Blk W5 tb 27 (mkC z2 p q n) := by rw [hW5, htb]; exact Blk.new w4 _ _
  have f5 : Below w4.heap.size w4 W5 := by rw [hW5]; exact (Below.refl _ _).alloc (Nat.le_refl _) _
  have hsz := HT3.out.2.1.lt
  have r4 := HT3.out.2.1.below hb4 hsz
  have r5 : Blk W5 (w.heap.size + 1) 27 zeroC := r4.below f5 (by have := r4.lt; omega)
  have l4 := HT3.out.2.2.1.trans (hb4.mono HT3.out.2.2.1.size)
  have l5 : Below w.heap.size w W5 := l4.trans (f5.mono l4.size)
  have d5 : DocC W5 (fun k => w.heap.size + 1 < k) z2 p q n s9 := (hD4.below f5 (Nat.le_refl _)).mono (fun k hk _ => by omega)
  have HTK := Lib.hid k5; have HTR := Lib.hid r5; have HE := Lib.hid (doc_fin r5 l5 d5); have HW5 := Lib.hid hW5; have HTB := Lib.hid htb
  clear k5 f5 hsz r4 r5 l4 l5 d5 hW5 htb hD4 hb4 x0 x1 x2 x3 x4 x5 x6 x7 x8 x9 CO HT3
  go_upto_region 7 with fail
  rw [← HW5.out, ← HTB.out]
  clear HW5 HTB
  obtain ⟨x0, x1, x2, x3, x4, x5, x6, x7, x8, x9⟩ := blk10 HTK.out
  obtain ⟨s0, s1, s2, s3, s4, s5, s6, s7, s8, s9⟩ := blk10 HTR.out
  have t0 := (HTR.out).frozen 0
  have t1 := (HTR.out).frozen 1
  have t2 := (HTR.out).frozen 2
  have t3 := (HTR.out).frozen 3
  have t4 := (HTR.out).frozen 4
  have t5 := (HTR.out).frozen 5
  have t6 := (HTR.out).frozen 6
  have t7 := (HTR.out).frozen 7
  have t8 := (HTR.out).frozen 8
  have t9 := (HTR.out).frozen 9
  go_wp2_with fail
  refine bodyPost_ret (v := .tuple #[.agg #[.int .i64 0, .slice none 0 0, .slice z2.A0 p z2.d0, .slice z2.A1 n z2.d1, .slice none 0 0, .slice z2.A2 p z2.d2, .slice z2.A3 q z2.d3, .slice z2.A4 n z2.d4, .slice none 0 0, .slice none 0 0], .int .i64 x, .bool y]) (res9_2 rfl _ _ (w.heap.size + 1) 27 _ (0, 0) _ _ _ rfl rfl rfl HE.out.1 Try.underlying27 rfl (by kernel_rfl)) rfl ?_
  exact ⟨z2, by rw [HY2.out], by rw [HY1.out]; exact HE.out.2.1, HE.out.2.2⟩
end Go.Proofs.Ytikelkfinjcgaaa
