
/-
  The law's waits.
-/
import Derived.Test.YtikelkfinjcgaaaLkFr
set_option linter.unusedVariables false
set_option linter.unusedSimpArgs false
namespace Go.Proofs.Ytikelkfinjcgaaa
open Go.RowKit Plain

set_option maxRecDepth 100000 in
set_option maxHeartbeats 8000000 in
theorem lawWaits_any (w : World) (E : Nat → Prop) (z : LkQ) (p q n : Nat) (s : Lk) (h : DocC w E z p q n s) (hs : SzL s) (t : Int) :
    Calls Try.prog 24 #[.agg (mkC z p q n), .int .i64 t] w fun e w' => ∃ b, e = .returned (.bool b) ∧ Below w.heap.size w w' := by
  have hpa : p ≤ 100000 := by have := hs.a; have := h.lo; omega
  have hna : n ≤ 100000 := by have := hs.b; have := h.ln; omega
  have hqa : q ≤ 100000 := by have := hs.c; have := h.lw; omega
  obtain ⟨W0, hW0⟩ : ∃ W, W = w.alloc (.cells (mkC z p q n) 27) := ⟨_, rfl⟩
  have k0 : Blk W0 w.heap.size 27 (mkC z p q n) := by rw [hW0]; exact Blk.new w _ _
  have l0 : Below w.heap.size w W0 := by rw [hW0]; exact (Below.refl _ w).alloc (Nat.le_refl _) _
  have hd := h.below l0 (Nat.le_refl _)
  obtain ⟨x0, x1, x2, x3, x4, x5, x6, x7, x8, x9⟩ := blk10 k0
  have HW0 := Lib.hid hW0; have HD := Lib.hid hd; have L0 := Lib.hid l0; have HS := Lib.hid hs
  clear hW0 hd l0 h k0 x0 x1 x2 x3 x4 x8 x9 hs
  go_enter Try.func24, Try.ntmps24
  go_upto_region 1 with fail
  rw [← HW0.out]
  clear HW0
  go_upto_region 2 with fail
  obtain ⟨W1, hW1⟩ : ∃ W, W = W0.alloc (.cells #[.slice z.A2 p z.d2, .slice z.A3 q z.d3, .slice z.A4 n z.d4] 25) := ⟨_, rfl⟩
  obtain ⟨bb, hbb⟩ : ∃ b, b = W0.heap.size := ⟨_, rfl⟩
  rw [← hW1, ← hbb]
  have kb : Blk W1 bb 25 #[.slice z.A2 p z.d2, .slice z.A3 q z.d3, .slice z.A4 n z.d4] := by rw [hW1, hbb]; exact Blk.new W0 _ _
  have l1 : Below w.heap.size w W1 := by rw [hW1]; exact L0.out.alloc L0.out.size _
  have b1 : Below W0.heap.size W0 W1 := by rw [hW1]; exact (Below.refl _ W0).alloc (Nat.le_refl _) _
  have hd1 := HD.out.below b1 (Nat.le_refl _)
  have hrows : ∀ i, i < 3 → ∃ (A : Option Addr) (m c : Nat) (L : List (List Int)), W1.cell? ⟨bb, i, none⟩ = some (.slice A m c) ∧ RNs W1 E A c L ∧ L.length = m ∧ m ≤ 100000 ∧ ∀ j, (gl L j).length ≤ 100000 := by
    intro i hi
    match i, hi with
    | 0, _ => exact ⟨_, _, _, s.lq, (kb.cell 0).trans rfl, hd1.lq, hd1.ll, hpa, HS.out.d⟩
    | 1, _ => exact ⟨_, _, _, s.wq, (kb.cell 1).trans rfl, hd1.wq, hd1.lw, hqa, HS.out.e⟩
    | 2, _ => exact ⟨_, _, _, s.dq, (kb.cell 2).trans rfl, hd1.dq, hd1.ld, hna, HS.out.f⟩
  have HR := Lib.hid hrows; have L1 := Lib.hid l1
  clear hrows l1 kb b1 hd1 hW1 hbb L0 HD HS x5 x6 x7 hpa hna hqa
  go_wp2_with fail
  go_loopw [6] (fun s6 wr => ∃ i : Nat, i ≤ 3 ∧ s6 = .int .i64 (i : Int) ∧ W1 = wr) (fun s6 _ => 3 - (intOf s6).toNat)
  case atStart => exact ⟨0, by omega, rfl, rfl⟩
  case round =>
    obtain ⟨i, hi, rfl, rfl⟩ := hrel
    by_cases hlt : i < 3
    · have q1 : (i : Int) < 3 := by omega
      have q0 : (0 : Int) ≤ (i : Int) := by omega
      obtain ⟨A, m, c, L, e1, e2, e3, e4, e5⟩ := HR.out i hlt
      have H2 := Lib.hid e2; have H3 := Lib.hid e3; have H5 := Lib.hid e5
      clear e2 e3 e5
      go_wp2_with fail
      go_loopw [7] (fun s7 wr => ∃ j : Nat, j ≤ m ∧ s7 = .int .i64 (j : Int) ∧ W1 = wr) (fun s7 _ => m - (intOf s7).toNat)
      case atStart => exact ⟨0, by omega, rfl, rfl⟩
      case round =>
        obtain ⟨j, hj, rfl, rfl⟩ := hrel
        by_cases hltj : j < m
        · have q3 : (j : Int) < (m : Int) := by omega
          have q2 : (0 : Int) ≤ (j : Int) := by omega
          obtain ⟨ad, A1, c1, rfl, _, _, f4, f6⟩ := H2.out.at_ (i := j) (by rw [H3.out]; exact hltj)
          obtain ⟨rl, hrl⟩ : ∃ rl, rl = (gl L j).length := ⟨_, rfl⟩
          have hrk : rl ≤ 100000 := by rw [hrl]; exact H5.out j
          rw [← hrl] at f4
          have F6 := Lib.hid f6; have HRL := Lib.hid hrl
          clear f6 hrl
          go_wp2_with fail
          go_loopw [8] (fun s8 wr => ∃ k : Nat, k ≤ rl ∧ s8 = .int .i64 (k : Int) ∧ W1 = wr) (fun s8 _ => rl - (intOf s8).toNat)
          case atStart => exact ⟨0, by omega, rfl, rfl⟩
          case round =>
            obtain ⟨k, hk, rfl, rfl⟩ := hrel
            by_cases hltk : k < rl
            · have q5 : (k : Int) < (rl : Int) := by omega
              have q4 : (0 : Int) ≤ (k : Int) := by omega
              obtain ⟨bd, rfl, _, _, g4⟩ := F6.out.at_ (i := k) (by rw [← HRL.out]; exact hltk)
              generalize gn (gl L j) k = y at *
              by_cases hy : y = t
              · go_wp2_with fail
                go_ret
                exact ⟨true, rfl, L1.out⟩
              · have hy2 : (y == t) = false := by simpa using hy
                go_wp2_with fail
                exact ⟨⟨k + 1, by omega, by go_num, by trivial⟩, by simp [intOf]; omega⟩
            · obtain rfl : k = rl := by omega
              go_wp2_with fail
              exact ⟨⟨j + 1, by omega, by go_num, by trivial⟩, by simp [intOf]; omega⟩
        · obtain rfl : j = m := by omega
          go_wp2_with fail
          exact ⟨⟨i + 1, by omega, by go_num, by trivial⟩, by simp [intOf]; omega⟩
    · obtain rfl : i = 3 := by omega
      go_wp2_with fail
      go_ret
      exact ⟨false, rfl, L1.out⟩
end Go.Proofs.Ytikelkfinjcgaaa
