
/-
  SameLists and Same of the document, of two that are one.
-/
import Derived.Test.YtikelkfinjcgaaaLkY
set_option linter.unusedVariables false
set_option linter.unusedSimpArgs false
namespace Go.Proofs.Ytikelkfinjcgaaa
open Go.RowKit Plain

set_option maxRecDepth 100000 in
set_option maxHeartbeats 8000000 in
theorem sameLists_yes (L : List (List Int)) (n : Nat) (hl : L.length = n) (w : World) (E E' : Nat → Prop) (A A' : Option Addr) (c c' : Nat) (ha : RNs w E A c L) (hb : RNs w E' A' c' L) (hn : n ≤ 1000000) (hg : ∀ i, (gl L i).length ≤ 1000000) :
    Calls Try.prog 29 #[.slice A n c, .slice A' n c'] w fun e w' => e = .returned (.bool true) ∧ ∃ k, w' = w.drewN k := by
  have HA := Lib.hid ha; have HB := Lib.hid hb; have HL := Lib.hid hl; have HG := Lib.hid hg
  clear ha hb hl hg
  go_enter Try.func29, Try.ntmps29
  go_wp2_with fail
  go_loopw [5] (fun s wr => ∃ k : Nat, k ≤ n ∧ s = .int .i64 (k : Int) ∧ Hid (∃ d, wr = w.drewN d)) (fun s _ => n - (intOf s).toNat)
  case atStart =>
    exact ⟨0, by omega, rfl, Lib.hid ⟨0, rfl⟩⟩
  case round =>
    obtain ⟨k, hk, rfl, HD⟩ := hrel
    by_cases hlt : k < n
    · have hf : Fr (fun _ => False) w wr := by
        obtain ⟨d, h⟩ := HD.out
        rw [h]
        exact Fr.of_below (below_drews (B := w.heap.size) (Below.refl _ w) d) |>.mono (fun i hi h => by omega)
      have hkL : k < L.length := by rw [HL.out]; exact hlt
      obtain ⟨ad, A1, d1, rfl, _, _, e4, e6⟩ := (HA.out.fr hf (fun _ _ _ h => h)).at_ hkL
      obtain ⟨ad', A1', d1', rfl, _, _, e4', e6'⟩ := (HB.out.fr hf (fun _ _ _ h => h)).at_ hkL
      have hlen := HG.out k
      have hq : ∀ j, _ := fun j => Calls.quiet_of (sameInts_yes (gl L k) _ rfl (wr.drewN j) _ _ A1 A1' d1 d1' (e6.drewN j).reads (e6'.drewN j).reads (by omega))
      have HQ := Lib.hid hq
      have q1 : (k : Int) < (n : Int) := by omega
      have q0 : (0 : Int) ≤ (k : Int) := by omega
      generalize (gl L k).length = rl at *
      clear e6 e6' hf hq hkL
      go_wp2_with fail
      go_quiet ((exact HQ.out _))
      go_wp2_with fail
      exact ⟨⟨k + 1, by omega, by go_num, Lib.hid (by obtain ⟨d, h⟩ := HD.out; exact ⟨_, by rw [h, World.drewN_drewN]⟩)⟩, by simp [intOf]; omega⟩
    · go_wp2_with fail
      go_ret
      exact ⟨rfl, HD.out⟩
theorem RNs.drewN {w : World} {E : Nat → Prop} {A : Option Addr} {c : Nat} {L : List (List Int)} (h : RNs w E A c L) (k : Nat) : RNs (w.drewN k) E A c L := h
theorem DocC.drewN {w : World} {E : Nat → Prop} {z : LkQ} {p q n : Nat} {s : Lk} (h : DocC w E z p q n s) (k : Nat) : DocC (w.drewN k) E z p q n s := ⟨h.lo, h.ln, h.ll, h.lw, h.ld, h.own, h.cnt, h.lq, h.wq, h.dq⟩
set_option maxRecDepth 100000 in
set_option maxHeartbeats 8000000 in
theorem refSame_yes (w : World) (E E' : Nat → Prop) (c0 c1 c4 c8 c9 : Value) (z z' : LkQ) (p q n : Nat) (s : Lk) (h : DocC w E z p q n s) (h' : DocC w E' z' p q n s) (hs : SzL s) :
    Calls Try.prog 10 #[.agg #[c0, c1, .slice z.A0 p z.d0, .slice z.A1 n z.d1, c4, .slice z.A2 p z.d2, .slice z.A3 q z.d3, .slice z.A4 n z.d4, c8, c9], .agg (mkC z' p q n)] w fun e w' => e = .returned (.bool true) ∧ Below w.heap.size w w' := by
  have hpa : p ≤ 100000 := by have := hs.a; have := h.lo; omega
  have hna : n ≤ 100000 := by have := hs.b; have := h.ln; omega
  have hqa : q ≤ 100000 := by have := hs.c; have := h.lw; omega
  obtain ⟨W0, hW0⟩ : ∃ W, W = (w.alloc (.cells #[c0, c1, .slice z.A0 p z.d0, .slice z.A1 n z.d1, c4, .slice z.A2 p z.d2, .slice z.A3 q z.d3, .slice z.A4 n z.d4, c8, c9] 27)).alloc (.cells (mkC z' p q n) 27) := ⟨_, rfl⟩
  have k0 : Blk W0 w.heap.size 27 #[c0, c1, .slice z.A0 p z.d0, .slice z.A1 n z.d1, c4, .slice z.A2 p z.d2, .slice z.A3 q z.d3, .slice z.A4 n z.d4, c8, c9] := by rw [hW0]; exact (Blk.new w _ _).alloc _
  have r0 : Blk W0 (w.heap.size + 1) 27 (mkC z' p q n) := by rw [hW0]; simpa using Blk.new (w.alloc (.cells #[c0, c1, .slice z.A0 p z.d0, .slice z.A1 n z.d1, c4, .slice z.A2 p z.d2, .slice z.A3 q z.d3, .slice z.A4 n z.d4, c8, c9] 27)) 27 (mkC z' p q n)
  have l0 : Below w.heap.size w W0 := by rw [hW0]; exact ((Below.refl _ w).alloc (Nat.le_refl _) _).alloc (by simp) _
  have h1 := h.below l0 (Nat.le_refl _)
  have h2 := h'.below l0 (Nat.le_refl _)
  obtain ⟨x0, x1, x2, x3, x4, x5, x6, x7, x8, x9⟩ := blk10 k0
  obtain ⟨y0, y1, y2, y3, y4, y5, y6, y7, y8, y9⟩ := blk10 r0
  have c1 : ∀ W, Hid (∃ k, W = W0.drewN k) → Calls Try.prog 28 #[.slice z.A0 p z.d0, .slice z'.A0 p z'.d0] W fun e w' => e = .returned (.bool true) ∧ ∃ k, w' = W.drewN k := by
    rintro W ⟨k, rfl⟩
    exact sameInts_yes s.own p h.lo _ _ _ _ _ _ _ (by have := (h1.own.drewN k).reads; rwa [h.lo] at this) (by have := (h2.own.drewN k).reads; rwa [h.lo] at this) (by omega)
  have c2 : ∀ W, Hid (∃ k, W = W0.drewN k) → Calls Try.prog 28 #[.slice z.A1 n z.d1, .slice z'.A1 n z'.d1] W fun e w' => e = .returned (.bool true) ∧ ∃ k, w' = W.drewN k := by
    rintro W ⟨k, rfl⟩
    exact sameInts_yes s.cnt n h.ln _ _ _ _ _ _ _ (by have := (h1.cnt.drewN k).reads; rwa [h.ln] at this) (by have := (h2.cnt.drewN k).reads; rwa [h.ln] at this) (by omega)
  have c3 : ∀ W, Hid (∃ k, W = W0.drewN k) → Calls Try.prog 29 #[.slice z.A2 p z.d2, .slice z'.A2 p z'.d2] W fun e w' => e = .returned (.bool true) ∧ ∃ k, w' = W.drewN k := by
    rintro W ⟨k, rfl⟩
    exact sameLists_yes s.lq p h.ll _ _ _ _ _ _ _ (h1.lq.drewN k) (h2.lq.drewN k) (by omega) (fun i => by have := hs.d i; omega)
  have c4 : ∀ W, Hid (∃ k, W = W0.drewN k) → Calls Try.prog 29 #[.slice z.A3 q z.d3, .slice z'.A3 q z'.d3] W fun e w' => e = .returned (.bool true) ∧ ∃ k, w' = W.drewN k := by
    rintro W ⟨k, rfl⟩
    exact sameLists_yes s.wq q h.lw _ _ _ _ _ _ _ (h1.wq.drewN k) (h2.wq.drewN k) (by omega) (fun i => by have := hs.e i; omega)
  have c5 : ∀ W, Hid (∃ k, W = W0.drewN k) → Calls Try.prog 29 #[.slice z.A4 n z.d4, .slice z'.A4 n z'.d4] W fun e w' => e = .returned (.bool true) ∧ ∃ k, w' = W.drewN k := by
    rintro W ⟨k, rfl⟩
    exact sameLists_yes s.dq n h.ld _ _ _ _ _ _ _ (h1.dq.drewN k) (h2.dq.drewN k) (by omega) (fun i => by have := hs.f i; omega)
  have HW0 := Lib.hid hW0; have C1 := Lib.hid c1; have C2 := Lib.hid c2; have C3 := Lib.hid c3; have C4 := Lib.hid c4; have C5 := Lib.hid c5; have L0 := Lib.hid l0
  clear hW0 c1 c2 c3 c4 c5 h1 h2 h h' hs k0 r0 l0
  go_enter Try.func10, Try.ntmps10
  go_upto_region 1 with fail
  rw [← HW0.out]
  clear HW0
  go_wp2_with fail
  refine (C1.out _ (Lib.hid ⟨0, rfl⟩)).mono ?_
  rintro e w1 ⟨rfl, k1, rfl⟩
  go_wp2_with fail
  refine (C2.out _ (Lib.hid ⟨k1, rfl⟩)).mono ?_
  rintro e w1 ⟨rfl, k2, rfl⟩
  go_wp2_with fail
  refine (C3.out _ (Lib.hid ⟨k1 + k2, rfl⟩)).mono ?_
  rintro e w1 ⟨rfl, k3, rfl⟩
  go_wp2_with fail
  refine (C4.out _ (Lib.hid ⟨k1 + k2 + k3, rfl⟩)).mono ?_
  rintro e w1 ⟨rfl, k4, rfl⟩
  go_wp2_with fail
  refine (C5.out _ (Lib.hid ⟨k1 + k2 + k3 + k4, rfl⟩)).mono ?_
  rintro e w1 ⟨rfl, k5, rfl⟩
  go_wp2_with fail
  go_ret
  exact ⟨rfl, below_drews L0.out _⟩
end Go.Proofs.Ytikelkfinjcgaaa
