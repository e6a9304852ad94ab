
/-
  A heap's calls: rise, sink, settle.
-/
import Derived.Test.YtglgficmfpecgaaHpO2
import Derived.Deep.DeepCutAuto
set_option linter.unusedVariables false
set_option linter.unusedSimpArgs false
namespace Go.Proofs.Ytglgficmfpecgaa
open Go.RowKit Plain

/-- A heap in block h that has these timers at these places, and so many steps. -/
def HP (w : World) (B h : Nat) (ts : List Tm) (n : Nat) : Prop := ∃ m v f, HpX w B h m v ts f n ∧ Inv ts f
section
variable {w : World} {B h n : Nat} {ts : List Tm}
theorem HP.lt (H : HP w B h ts n) : h < w.heap.size := by
  obtain ⟨m, v, f, H, _⟩ := H
  exact H.lt.1
theorem HP.drewN (H : HP w B h ts n) (k : Nat) : HP (w.drewN k) B h ts n := by
  obtain ⟨m, v, f, H, hv⟩ := H
  exact ⟨m, v, f, H.drewN k, hv⟩
theorem HP.below (H : HP w B h ts n) {w' : World} {B' : Nat} (hf : Below B' w w') (hB : w.heap.size ≤ B') : HP w' B h ts n := by
  obtain ⟨m, v, f, H, hv⟩ := H
  exact ⟨m, v, f, H.below hf hB, hv⟩
theorem ahead_hp (i j : Nat) (H : HP w B h ts n) (hB : B ≤ w.heap.size) (hi : i < ts.length) (hj : j < ts.length) (hs : ts.length ≤ 100000) :
    Calls Try.prog 50 #[.pointer (some ⟨h, 0, none⟩), .int .i64 (i : Int), .int .i64 (j : Int)] w fun e w' => e = .returned (.bool (decide (ahd (gt ts i) (gt ts j)))) ∧ HP w' B h ts (n + 1) ∧ Fx B w w' := by
  obtain ⟨m, v, f, H, hv⟩ := H
  refine (ahead_any i j H hB hi hj hs).mono ?_
  rintro e w' ⟨h1, h2, h3⟩
  exact ⟨h1, ⟨m, v, f, h2, hv⟩, h3⟩
theorem swap_hp (i j : Nat) (H : HP w B h ts n) (hB : B ≤ w.heap.size) (hi : i < ts.length) (hj : j < ts.length) (hij : i ≠ j) (hs : ts.length ≤ 100000) :
    Calls Try.prog 51 #[.pointer (some ⟨h, 0, none⟩), .int .i64 (i : Int), .int .i64 (j : Int)] w fun e w' => e = .returned (.tuple #[]) ∧ HP w' B h (sw ts i j) n ∧ Fx B w w' := by
  obtain ⟨m, v, f, H, hv⟩ := H
  refine (swap_any i j H hv hB hi hj hij hs).mono ?_
  rintro e w' ⟨h1, h2, h3⟩
  exact ⟨h1, ⟨m, v, _, h2, hv.sw hi hj hij⟩, h3⟩
/-- A heap's cell of timers, for len. -/
theorem HP.head (H : HP w B h ts n) : ∃ A c, w.cell? ⟨h, 0, none⟩ = some (.slice A ts.length c) ∧ ts.length ≤ c := by
  obtain ⟨m, v, f, H, hv⟩ := H
  obtain ⟨A, c, e, hc, _⟩ := H.slice
  exact ⟨A, c, by rw [H.box_cells.1, e], hc⟩

set_option maxRecDepth 100000 in
set_option maxHeartbeats 4000000 in
theorem rise_any (i : Nat) (H : HP w B h ts n) (hB : B ≤ w.heap.size) (hi : i < ts.length) (hs : ts.length ≤ 100000) :
    Calls Try.prog 37 #[.pointer (some ⟨h, 0, none⟩), .int .i64 (i : Int)] w fun e w' => e = .returned (.bool (!decide ((riseV ts i n).2.1 = i))) ∧ HP w' B h (riseV ts i n).1 (riseV ts i n).2.2 ∧ Fx B w w' := by
  have HH := Lib.hid H
  have HI := Lib.hid hi
  have HS := Lib.hid hs
  clear H hi hs
  go_enter Try.func37, Try.ntmps37
  go_wp2_with fail
  go_loopw [1] (fun s wr => ∃ (k : Nat) (us : List Tm) (q : Nat), s = .int .i64 (k : Int) ∧ k < us.length ∧ us.length ≤ 100000 ∧ Hid (riseV us k q = riseV ts i n) ∧ Hid (HP wr B h us q) ∧ Hid (Fx B w wr)) (fun s _ => (intOf s).toNat)
  case atStart => exact ⟨i, ts, n, rfl, HI.out, HS.out, Lib.hid rfl, HH, Lib.hid (Fx.refl _ _)⟩
  case round =>
    obtain ⟨k, us, q, rfl, hk, hl, hr, hh, hf⟩ := hrel
    have hBw := Nat.le_trans hB hf.out.bel.size
    by_cases h0 : 0 < k
    · have hw1 : IntKind.i64.wrap ((k : Int) - 1) = (k : Int) - 1 := IntWalk.i64_in _ (by omega)
      have hq1 : ((k : Int) - 1).tdiv 2 = (((k - 1) / 2 : Nat) : Int) := by
        rw [show (k : Int) - 1 = ((k - 1 : Nat) : Int) by omega]
        rfl
      have ha := Lib.hid (ahead_hp k ((k - 1) / 2) hh.out hBw hk (by omega) hl)
      have hp2 : (((k - 1) / 2 : Nat) : Int) = ((k - 1 : Nat) : Int) / 2 := rfl
      by_cases hah : ahd (gt us k) (gt us ((k - 1) / 2))
      · have hsw := fun (W : World) (hx : HP W B h us (q + 1)) (hxb : B ≤ W.heap.size) => swap_hp k ((k - 1) / 2) hx hxb hk (by omega) (by omega) hl
        have hrr : riseV us k q = riseV (sw us k ((k - 1) / 2)) ((k - 1) / 2) (q + 1) := by
          rw [riseV, dif_pos h0, if_pos hah]
        rw [decide_eq_true hah, hp2] at ha
        have HSW := Lib.hid hsw
        have HRR := Lib.hid hrr
        clear hsw hrr hah
        go_wp2_with fail
        refine ha.out.mono ?_
        rintro e w1 ⟨rfl, h1, f1⟩
        have ha2 := HSW.out w1 h1 (Nat.le_trans hBw f1.bel.size)
        rw [hp2] at ha2
        have HA2 := Lib.hid ha2; have HF1 := Lib.hid (hf.out.trans f1)
        clear h1 f1 ha2 ha
        go_wp2_with fail
        refine HA2.out.mono ?_
        rintro e w2 ⟨rfl, h2, f2⟩
        have HH2 := Lib.hid h2; have HF2 := Lib.hid (HF1.out.trans f2)
        clear h2 f2 HA2
        go_wp2_with fail
        refine ⟨⟨(k - 1) / 2, sw us k ((k - 1) / 2), q + 1, rfl, by rw [sw_length]; omega, by rw [sw_length]; exact hl, Lib.hid (HRR.out.symm.trans hr.out), HH2, HF2⟩, ?_⟩
        show (((k - 1 : Nat) : Int) / 2).toNat < ((k : Nat) : Int).toNat
        omega
      · have hrr : riseV us k q = (us, k, q + 1) := by
          rw [riseV, dif_pos h0, if_neg hah]
        rw [decide_eq_false hah, hp2] at ha
        have hrr2 := hr.out.symm.trans hrr
        have hdec : (!decide ((riseV ts i n).2.1 = i)) = ((k : Int) != (i : Int)) := by
          rw [hrr2]
          simp [bne]
          by_cases e : k = i <;> simp [e] <;> omega
        have HD := Lib.hid hdec
        have HRR := Lib.hid hrr2
        clear hrr hah hdec hrr2
        go_wp2_with fail
        refine ha.out.mono ?_
        rintro e w1 ⟨rfl, h1, f1⟩
        have HH1 := Lib.hid h1; have HF1 := Lib.hid (hf.out.trans f1)
        clear h1 f1 ha
        go_wp2_with fail
        go_ret
        rw [HD.out, HRR.out]
        exact ⟨rfl, HH1.out, HF1.out⟩
    · have hk0 : k = 0 := by omega
      subst hk0
      have hrr : riseV us 0 q = (us, 0, q) := by
        rw [riseV, dif_neg h0]
      have hrr2 := hr.out.symm.trans hrr
      have hdec : (!decide ((riseV ts i n).2.1 = i)) = (((0 : Nat) : Int) != (i : Int)) := by
        rw [hrr2]
        simp [bne]
        by_cases e : 0 = i <;> simp [e] <;> omega
      have HD := Lib.hid hdec
      have HRR := Lib.hid hrr2
      clear hrr hdec hrr2
      go_wp2_with fail
      go_ret
      rw [HD.out, HRR.out]
      exact ⟨rfl, hh.out, hf.out⟩
end
end Go.Proofs.Ytglgficmfpecgaa
