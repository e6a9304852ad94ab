
/-
  The document's Ready and Senders; whether a thread is free is left open.
-/
import Derived.Test.YtbgigkamlnchcaaChDc
set_option linter.unusedVariables false
set_option linter.unusedSimpArgs false
namespace Go.Proofs.Ytbgigkamlnchcaa
open Go.RowKit Plain

set_option maxRecDepth 100000 in
set_option maxHeartbeats 8000000 in
theorem refReady_any (w : World) (E : Nat → Prop) (z : ChZ) (n : Nat) (s : Ck) (h : DocC w E z n s) {K : Nat} (O : CkOk K n s) (hK : K ≤ 50000) (hn : n ≤ 1000) (m : Nat) (hm : m < n) :
    Calls Try.prog 13 #[.agg (mkD z n), .int .i64 (m : Int)] w fun e w' => e = .returned (.bool (readyV s m)) ∧ Below w.heap.size w w' := by
  obtain ⟨W0, hW0⟩ : ∃ W, W = w.alloc (.cells (mkD z n) 28) := ⟨_, rfl⟩
  have k0 : Blk W0 w.heap.size 28 (mkD z n) := by rw [hW0]; exact Blk.new w _ _
  have l0 : Below w.heap.size w W0 := by rw [hW0]; exact (Below.refl _ w).alloc (Nat.le_refl _) _
  have hd := h.below l0 (Nat.le_refl _)
  obtain ⟨ad, A1, c1, e1, _, _, e4, e6⟩ := hd.bf.at_ (i := m) (by rw [hd.l1]; exact hm)
  obtain ⟨bd, A2, c2, f1, _, _, f4, f6⟩ := hd.sq.at_ (i := m) (by rw [hd.l2]; exact hm)
  obtain ⟨x0, x1, x2, x3, x4, x5, x6, x7, x8, x9⟩ := blk10 k0
  rw [e1] at x4
  rw [f1] at x8
  have q1 : (m : Int) < (n : Int) := by omega
  have q0 : (0 : Int) ≤ (m : Int) := by omega
  have r1 := O.row m
  have hv : readyV s m = (decide (0 < (gl s.bf m).length) || decide (0 < (gl s.sq m).length)) := by
    unfold readyV
    cases gl s.bf m <;> cases gl s.sq m <;> simp
  rw [hv]
  clear hv
  obtain ⟨a, ha⟩ : ∃ a, a = (gl s.bf m).length := ⟨_, rfl⟩
  obtain ⟨b, hb⟩ : ∃ b, b = (gl s.sq m).length := ⟨_, rfl⟩
  rw [← ha, ← hb] at r1
  rw [← ha] at e4
  rw [← hb] at f4
  rw [← ha, ← hb]
  have L0 := Lib.hid l0; have HW0 := Lib.hid hW0
  clear l0 hd e6 f6 k0 h O ha hb hW0 e1 f1
  go_enter Try.func13, Try.ntmps13
  go_upto_region 1 with fail
  rw [← HW0.out]
  clear HW0
  by_cases h1 : 0 < a
  · have h2 : (0 : Int) < (a : Int) := by omega
    go_wp2_with fail
    go_ret
    exact ⟨by simp [h1], L0.out⟩
  · have h0 : a = 0 := by omega
    subst h0
    by_cases h3 : 0 < b
    · have h2 : (0 : Int) < (b : Int) := by omega
      go_wp2_with fail
      go_ret
      exact ⟨by simp [h3], L0.out⟩
    · have h4 : b = 0 := by omega
      subst h4
      go_wp2_with fail
      go_ret
      exact ⟨by simp, L0.out⟩
/-- Senders under way. -/
structure TellD (w wr : World) (A : Option Addr) (c j : Nat) (l : List Int) : Prop where
  s : SlI wr w.heap.size (.slice A j c) l
  b : Below w.heap.size w wr
set_option maxRecDepth 100000 in
set_option maxHeartbeats 8000000 in
theorem refSenders_any (w : World) (E : Nat → Prop) (z : ChZ) (n : Nat) (s : Ck) (h : DocC w E z n s) {K : Nat} (O : CkOk K n s) (hK : K ≤ 50000) (hn : n ≤ 1000) (m : Nat) (hm : m < n) :
    Calls Try.prog 16 #[.agg (mkD z n), .int .i64 (m : Int)] w fun e w' => ∃ A j c, e = .returned (.slice A j c) ∧ j = (sendersV s m).length ∧ RN w' (fun k => w.heap.size ≤ k) A c (sendersV s m) ∧ Below w.heap.size w w' := by
  obtain ⟨W0, hW0⟩ : ∃ W, W = w.alloc (.cells (mkD z n) 28) := ⟨_, rfl⟩
  have k0 : Blk W0 w.heap.size 28 (mkD z n) := by rw [hW0]; exact Blk.new w _ _
  have l0 : Below w.heap.size w W0 := by rw [hW0]; exact (Below.refl _ w).alloc (Nat.le_refl _) _
  have hd := h.below l0 (Nat.le_refl _)
  obtain ⟨bd, A2, c2, f1, _, fl, f4, f6⟩ := hd.sq.at_ (i := m) (by rw [hd.l2]; exact hm)
  have q1 : (m : Int) < (n : Int) := by omega
  have q0 : (0 : Int) ≤ (m : Int) := by omega
  have hrow := O.row m
  have hev := O.ev m
  unfold sendersV
  obtain ⟨row, hrw⟩ : ∃ row, row = gl s.sq m := ⟨_, rfl⟩
  rw [← hrw] at f4 f6 hrow hev ⊢
  obtain ⟨k, hk⟩ : ∃ k, k = row.length := ⟨_, rfl⟩
  rw [← hk] at f4 hrow hev ⊢
  have hcl : ∀ W, Below W0.heap.size W0 W → W.cell? ⟨w.heap.size, 8, none⟩ = some (.slice (some bd) n z.d2) ∧ W.cell? (bd.add m) = some (.slice A2 k c2) ∧ RN W E A2 c2 row := fun W hb =>
    ⟨by rw [← f1]; exact ((k0.below hb k0.lt).cell 8).trans rfl, (hb.cell (by rw [block_of_add]; exact fl)).trans f4, f6.below hb (Nat.le_refl _)⟩
  have hz : w.heap.size < W0.heap.size := k0.lt
  have HCL := Lib.hid hcl; have HK := Lib.hid hk; have HW0 := Lib.hid hW0; have L0 := Lib.hid l0
  clear hcl hk hrw hW0 l0 k0 hd f1 f4 f6 fl h O
  go_enter Try.func16, Try.ntmps16
  go_upto_region 1 with fail
  rw [← HW0.out]
  clear HW0
  go_wp2_with fail
  go_loopw [5, 6] (fun s5 s6 wr => ∃ (j p : Nat) (A3 : Option Addr) (c3 : Nat), p = 2 * j ∧ p ≤ k ∧ s5 = .slice A3 j c3 ∧ s6 = .int .i64 (p : Int) ∧ Hid (CaJ W0 wr A3 j c3 (evN row j))) (fun _ s6 _ => k - (intOf s6).toNat)
  case atStart => exact ⟨0, 0, none, 0, rfl, by omega, rfl, rfl, Lib.hid (CaJ.start W0)⟩
  case round =>
    obtain ⟨j, p, A3, c3, hp, hpk, rfl, rfl, HI⟩ := hrel
    obtain ⟨x8, e4, e6⟩ := HCL.out wr HI.out.b
    by_cases hlt : p < k
    · obtain ⟨ad, rfl, _, _, g4⟩ := e6.at_ (i := p) (by rw [← HK.out]; omega)
      have hsn := evN_succ row j
      rw [← hp] at hsn
      have HSN := Lib.hid hsn
      have HP := Lib.hid hp
      have hjl := HI.out.len
      have HJL := Lib.hid hjl
      generalize gn row p = x at *
      have q3 : (p : Int) < (k : Int) := by omega
      have q2 : (0 : Int) ≤ (p : Int) := by omega
      have hj : j ≤ 50000 := by omega
      have hp2 : p + 2 ≤ k := by omega
      clear hsn hp e6 hjl
      go_wp2_with (at_builtin; go_must (refine wpList_append_sl rfl (.tmp 17) (.tmp 26) rfl W0.heap.size (.slice A3 j c3) (evN row j) [x] rfl (HI.out.s.fr ((Fr.refl (fun _ => False) wr).alloc _) (fun _ _ h => h)) ⟨wr.heap.size, 0, none⟩ 1 1 rfl rfl (reads_one_c wr x _) ?f1 ?f2 ?f3))
      case f1 => rw [HJL.out]; omega
      case f2 => have := HI.out.b.size; simp; omega
      case f3 =>
      rw [HJL.out]
      intro A' c' w3 hs hf hk'
      have HN := Lib.hid (HI.out.next hs hf)
      clear hs hf hk' x8 e4 g4
      go_wp2_with fail
      exact ⟨⟨j + 1, p + 2, A', c', by have := HP.out; omega, by omega, rfl, by go_num, Lib.hid (by rw [HSN.out]; exact HN.out)⟩, by simp [intOf]; omega⟩
    · have hkp : k / 2 = j := by omega
      have HKP := Lib.hid hkp
      have hpk2 : p = k := by omega
      subst hpk2
      have hjl := HI.out.len
      have HJL := Lib.hid hjl
      clear hkp hp hjl e6
      go_wp2_with fail
      go_ret
      refine ⟨A3, j, c3, rfl, by rw [HKP.out, evN_len], ?_, L0.out.trans (HI.out.b.mono L0.out.size)⟩
      rw [HKP.out]
      exact HI.out.s.rn.mono (fun i hi _ => by have := L0.out.size; omega)
set_option maxRecDepth 100000 in
set_option maxHeartbeats 8000000 in
theorem refWaits_any (w : World) (E : Nat → Prop) (z : ChZ) (n : Nat) (s : Ck) (h : DocC w E z n s) {K : Nat} (O : CkOk K n s) (hK : K ≤ 50000) (hn : n ≤ 1000) (m : Nat) (hm : m < n) (t : Int) :
    Calls Try.prog 43 #[.agg (mkD z n), .int .i64 (m : Int), .int .i64 t] w fun e w' => ∃ b, e = .returned (.bool b) ∧ Below w.heap.size w w' := by
  obtain ⟨W0, hW0⟩ : ∃ W, W = w.alloc (.cells (mkD z n) 28) := ⟨_, rfl⟩
  have k0 : Blk W0 w.heap.size 28 (mkD z n) := by rw [hW0]; exact Blk.new w _ _
  have l0 : Below w.heap.size w W0 := by rw [hW0]; exact (Below.refl _ w).alloc (Nat.le_refl _) _
  have hd := h.below l0 (Nat.le_refl _)
  obtain ⟨bd, A2, c2, f1, _, fl, f4, f6⟩ := hd.rq.at_ (i := m) (by rw [hd.l3]; exact hm)
  have q1 : (m : Int) < (n : Int) := by omega
  have q0 : (0 : Int) ≤ (m : Int) := by omega
  have hrow := O.row m
  obtain ⟨row, hrw⟩ : ∃ row, row = gl s.rq m := ⟨_, rfl⟩
  rw [← hrw] at f4 f6 hrow
  obtain ⟨k, hk⟩ : ∃ k, k = row.length := ⟨_, rfl⟩
  rw [← hk] at f4 hrow
  obtain ⟨x0, x1, x2, x3, x4, x5, x6, x7, x8, x9⟩ := blk10 k0
  rw [f1] at x9
  have F6 := Lib.hid f6; have HK := Lib.hid hk; have HW0 := Lib.hid hW0; have L0 := Lib.hid l0
  clear f6 hk hrw hW0 l0 k0 hd f1 fl h O x0 x1 x2 x3 x4 x5 x6 x7 x8
  go_enter Try.func43, Try.ntmps43
  go_upto_region 1 with fail
  rw [← HW0.out]
  clear HW0
  go_wp2_with fail
  go_loopw [7] (fun s7 wr => ∃ i : Nat, i ≤ k ∧ s7 = .int .i64 (i : Int) ∧ W0 = wr) (fun s7 _ => k - (intOf s7).toNat)
  case atStart => exact ⟨0, by omega, rfl, rfl⟩
  case round =>
    obtain ⟨i, hi, rfl, rfl⟩ := hrel
    by_cases hlt : i < k
    · obtain ⟨ad, rfl, _, _, g4⟩ := F6.out.at_ (i := i) (by rw [← HK.out]; omega)
      generalize gn row i = y at *
      have q3 : (i : Int) < (k : Int) := by omega
      have q2 : (0 : Int) ≤ (i : Int) := by omega
      by_cases hy : y = t
      · go_wp2_with fail
        go_ret
        exact ⟨true, rfl, L0.out⟩
      · have hy2 : (y == t) = false := by simpa using hy
        go_wp2_with fail
        exact ⟨⟨i + 1, by omega, by go_num, by trivial⟩, by simp [intOf]; omega⟩
    · obtain rfl : i = k := by omega
      go_wp2_with fail
      go_ret
      exact ⟨false, rfl, L0.out⟩
set_option maxRecDepth 100000 in
set_option maxHeartbeats 8000000 in
theorem refFree_any (w : World) (E : Nat → Prop) (z : ChZ) (n : Nat) (s : Ck) (h : DocC w E z n s) {K : Nat} (O : CkOk K n s) (hK : K ≤ 50000) (hn : n ≤ 1000) (t : Int) :
    Calls Try.prog 28 #[.agg (mkD z n), .int .i64 t] w fun e w' => ∃ b, e = .returned (.bool b) ∧ Below w.heap.size w w' := by
  obtain ⟨W0, hW0⟩ : ∃ W, W = w.alloc (.cells (mkD z n) 28) := ⟨_, rfl⟩
  have k0 : Blk W0 w.heap.size 28 (mkD z n) := by rw [hW0]; exact Blk.new w _ _
  have l0 : Below w.heap.size w W0 := by rw [hW0]; exact (Below.refl _ w).alloc (Nat.le_refl _) _
  have hd := h.below l0 (Nat.le_refl _)
  have cw := fun (W : World) (hb : Below W0.heap.size W0 W) (m : Nat) (hm : m < n) => refWaits_any W E z n s (hd.below hb (Nat.le_refl _)) O hK hn m hm t
  have cs := fun (W : World) (hb : Below W0.heap.size W0 W) (m : Nat) (hm : m < n) => refSenders_any W E z n s (hd.below hb (Nat.le_refl _)) O hK hn m hm
  have hx := fun (W : World) (hb : Below W0.heap.size W0 W) => blk10 (k0.below hb k0.lt)
  have hsl : ∀ m, (sendersV s m).length ≤ 1000000 := fun m => by
    unfold sendersV
    rw [evN_len]
    have := O.row m
    omega
  have CW := Lib.hid cw; have CS := Lib.hid cs; have HW0 := Lib.hid hW0; have L0 := Lib.hid l0; have HX := Lib.hid hx; have HSL := Lib.hid hsl
  clear cw cs hW0 l0 k0 hd h O hx hsl
  go_enter Try.func28, Try.ntmps28
  go_upto_region 1 with fail
  rw [← HW0.out]
  clear HW0
  go_wp2_with fail
  go_loopw [5] (fun s5 wr => ∃ m : Nat, m ≤ n ∧ s5 = .int .i64 (m : Int) ∧ Hid (Below W0.heap.size W0 wr)) (fun s5 _ => n - (intOf s5).toNat)
  case atStart => exact ⟨0, by omega, rfl, Lib.hid (Below.refl _ _)⟩
  case round =>
    obtain ⟨m, hm, rfl, HB⟩ := hrel
    obtain ⟨x0, x1, x2, x3, x4, x5, x6, x7, x8, x9⟩ := HX.out wr HB.out
    by_cases hlt : m < n
    · have q1 : (m : Int) < (n : Int) := by omega
      have q0 : (0 : Int) ≤ (m : Int) := by omega
      have C1 := Lib.hid (CW.out wr HB.out m hlt)
      go_wp2_with fail
      refine C1.out.mono ?_
      rintro e w1 ⟨b, rfl, hb⟩
      have HB1 := Lib.hid (HB.out.trans (hb.mono HB.out.size))
      have C2 := Lib.hid (CS.out w1 HB1.out m hlt)
      clear hb C1 x0 x1 x2 x3 x4 x5 x6 x7 x8 x9 HB
      obtain ⟨x0, x1, x2, x3, x4, x5, x6, x7, x8, x9⟩ := HX.out w1 HB1.out
      go_wp2_with fail
      refine C2.out.mono ?_
      rintro e w2 ⟨A, j, c, rfl, hj, hrn, hb⟩
      have HB2 := Lib.hid (HB1.out.trans (hb.mono HB1.out.size))
      have C3 := Lib.hid (refIndex_any w2 _ A c j (sendersV s m) t hrn hj.symm (by rw [hj]; exact HSL.out m))
      clear hb C2 hrn hj x0 x1 x2 x3 x4 x5 x6 x7 x8 x9
      go_wp2_with fail
      refine C3.out.mono ?_
      rintro e w3 ⟨rfl, rfl⟩
      generalize idxV t (sendersV s m) 0 = ix
      clear C3
      have HBF := Lib.hid (L0.out.trans (HB2.out.mono L0.out.size))
      by_cases hix : 0 ≤ ix
      · cases b
        · go_wp2_with fail
          go_ret
          exact ⟨false, rfl, HBF.out⟩
        · go_wp2_with fail
          go_ret
          exact ⟨false, rfl, HBF.out⟩
      · cases b
        · go_wp2_with fail
          exact ⟨⟨m + 1, by omega, by go_num, HB2⟩, by simp [intOf]; omega⟩
        · go_wp2_with fail
          go_ret
          exact ⟨false, rfl, HBF.out⟩
    · obtain rfl : m = n := by omega
      go_wp2_with fail
      go_ret
      exact ⟨true, rfl, L0.out.trans (HB.out.mono L0.out.size)⟩
end Go.Proofs.Ytbgigkamlnchcaa
