
/-
  A heap's calls: ahead, swap.
-/
import Derived.Test.YtglgficmfpecgaaHpO
set_option linter.unusedVariables false
set_option linter.unusedSimpArgs false
namespace Go.Proofs.Ytglgficmfpecgaa
open Go.RowKit Plain

section
variable {w : World} {B h m n : Nat} {v : Value} {ts : List Tm} {f : Int → Option Nat}
theorem wrap_succ (n : Nat) : IntKind.i64.wrap (IntKind.i64.wrap (n : Int) + 1) = IntKind.i64.wrap ((n + 1 : Nat) : Int) := by
  rw [IntKind.wrap_i64, IntKind.wrap_i64, IntKind.wrap_i64]
  omega
theorem HpX.step (H : HpX w B h m v ts f n) : HpX (w.setCell ⟨h, 2, none⟩ (.int .i64 (IntKind.i64.wrap (IntKind.i64.wrap (n : Int) + 1)))) B h m v ts f (n + 1) := by
  have hf : Fr (fun j => j = h) w (w.setCell ⟨h, 2, none⟩ (.int .i64 (IntKind.i64.wrap (IntKind.i64.wrap (n : Int) + 1)))) := (Fr.refl (fun j => j = h) w).setCell (p := ⟨h, 2, none⟩) (.inl rfl) _
  refine ⟨?_, hf.own H.row (fun j hj => (H.own_ne hj).1), H.mp.fr hf (fun e => H.hm e.symm), H.hb, H.mb⟩
  have := H.box.set_ 2 (.int .i64 (IntKind.i64.wrap (IntKind.i64.wrap (n : Int) + 1)))
  rw [wrap_succ] at this ⊢
  simpa using this
theorem HpX.step_fx (H : HpX w B h m v ts f n) (hB : B ≤ w.heap.size) (u : Value) : Fx B w (w.setCell ⟨h, 2, none⟩ u) :=
  H.fx hB ((Fr.refl (fun j => j = h ∨ j = m ∨ v.ownBlock = some j) w).setCell (p := ⟨h, 2, none⟩) (.inl (.inl rfl)) _)
theorem HpX.two (H : HpX w B h m v ts f n) {i j : Nat} (hi : i < ts.length) (hj : j < ts.length) : ∃ g c, v = .slice (some ⟨g, 0, none⟩) ts.length c ∧ ts.length ≤ c ∧ g < w.heap.size ∧ g ≠ h ∧ g ≠ m ∧
    w.cell? ⟨g, i * 2, none⟩ = some (.int .i64 (gt ts i).1) ∧ w.cell? ⟨g, i * 2 + 1, none⟩ = some (.int .i64 (gt ts i).2) ∧ w.cell? ⟨g, j * 2, none⟩ = some (.int .i64 (gt ts j).1) ∧ w.cell? ⟨g, j * 2 + 1, none⟩ = some (.int .i64 (gt ts j).2) := by
  obtain ⟨g, c, e, hc, hg, h1, h2, a1, a2, _⟩ := H.cells hi
  obtain ⟨g', c', e', _, _, _, _, b1, b2, _⟩ := H.cells hj
  rw [e] at e'
  injection e' with e1 e2 e3
  injection e1 with e1
  injection e1 with e1
  subst e1
  exact ⟨g, c, e, hc, hg, h1, h2, a1, a2, b1, b2⟩
set_option maxRecDepth 100000 in
set_option maxHeartbeats 4000000 in
theorem ahead_any (i j : Nat) (H : HpX w B h m v ts f n) (hB : B ≤ w.heap.size) (hi : i < ts.length) (hj : j < ts.length) (hs : ts.length ≤ 100000) :
    Calls Try.prog 50 #[.pointer (some ⟨h, 0, none⟩), .int .i64 (i : Int), .int .i64 (j : Int)] w fun e w' => e = .returned (.bool (decide (ahd (gt ts i) (gt ts j)))) ∧ HpX w' B h m v ts f (n + 1) ∧ Fx B w w' := by
  obtain ⟨k0, k1, k2, kz⟩ := H.box_cells
  have z2 := kz 2
  have H1 := H.step
  have hfx := H.step_fx hB (.int .i64 (IntKind.i64.wrap (IntKind.i64.wrap (n : Int) + 1)))
  obtain ⟨x, hx⟩ : ∃ x, x = IntKind.i64.wrap (n : Int) := ⟨_, rfl⟩
  obtain ⟨y, hy⟩ : ∃ y, y = IntKind.i64.wrap (x + 1) := ⟨_, rfl⟩
  rw [← hx] at k2 H1 hfx
  rw [← hy] at H1 hfx
  have hyy := hy.symm
  clear hx hy
  obtain ⟨r, hr⟩ : ∃ r, r = decide (ahd (gt ts i) (gt ts j)) := ⟨_, rfl⟩
  rw [← hr]
  have hrr : decide (cmpT (gt ts i) (gt ts j) < 0) = r := by rw [hr]; exact decide_eq_decide.2 (cmpT_neg _ _)
  have HFX := Lib.hid hfx; have HH := Lib.hid H1; have HR := Lib.hid hrr
  clear H kz hfx hr hrr
  have hi' : (i : Int) < (ts.length : Int) := by omega
  have hj' : (j : Int) < (ts.length : Int) := by omega
  go_enter Try.func50, Try.ntmps50
  go_wp2_with fail
  generalize World.setCell _ _ _ = W1 at HH HFX ⊢
  obtain ⟨g, c, rfl, hlc, hg, hgh, hgm, a0, a1, b0, b1⟩ := HH.out.two hi hj
  obtain ⟨l0, _, _, _⟩ := HH.out.box_cells
  have hh := HH.out.lt.1
  clear k0 k1 k2 z2 hyy
  have HC := fun W => compare_any (gt ts i) (gt ts j) W
  unfold tmV at HC
  obtain ⟨ai, hai⟩ : ∃ z, z = (gt ts i).1 := ⟨_, rfl⟩
  obtain ⟨bi, hbi⟩ : ∃ z, z = (gt ts i).2 := ⟨_, rfl⟩
  obtain ⟨aj, haj⟩ : ∃ z, z = (gt ts j).1 := ⟨_, rfl⟩
  obtain ⟨bj, hbj⟩ : ∃ z, z = (gt ts j).2 := ⟨_, rfl⟩
  obtain ⟨q, hq⟩ : ∃ z, z = cmpT (gt ts i) (gt ts j) := ⟨_, rfl⟩
  rw [← hai, ← hbi, ← haj, ← hbj, ← hq] at HC
  rw [← hai] at a0
  rw [← hbi] at a1
  rw [← haj] at b0
  rw [← hbj] at b1
  rw [← hq] at HR
  have hrr := HR.out
  clear hai hbi haj hbj hq HR
  have hne : ¬ g = h := hgh
  have HCC := Lib.hid HC
  clear HC
  have HKS : Hid (∀ w', Below W1.drew.heap.size W1.drew w' → w'.cell? ⟨h, 0, none⟩ = some (.slice (some ⟨g, 0, none⟩) ts.length c) ∧ w'.cell? ⟨g, i * 2, none⟩ = some (.int .i64 ai) ∧ w'.cell? ⟨g, i * 2 + 1, none⟩ = some (.int .i64 bi) ∧ w'.cell? ⟨g, j * 2, none⟩ = some (.int .i64 aj) ∧ w'.cell? ⟨g, j * 2 + 1, none⟩ = some (.int .i64 bj)) := Lib.hid (fun w' hb => ⟨(hb.cell (p := ⟨h, 0, none⟩) hh).trans l0, (hb.cell (p := ⟨g, i * 2, none⟩) hg).trans a0, (hb.cell (p := ⟨g, i * 2 + 1, none⟩) hg).trans a1, (hb.cell (p := ⟨g, j * 2, none⟩) hg).trans b0, (hb.cell (p := ⟨g, j * 2 + 1, none⟩) hg).trans b1⟩)
  go_region_held3 (fun w' => w'.cell? ⟨h, 0, none⟩ = some (.slice (some ⟨g, 0, none⟩) ts.length c) ∧ w'.cell? ⟨g, i * 2, none⟩ = some (.int .i64 ai) ∧ w'.cell? ⟨g, i * 2 + 1, none⟩ = some (.int .i64 bi) ∧ w'.cell? ⟨g, j * 2, none⟩ = some (.int .i64 aj) ∧ w'.cell? ⟨g, j * 2 + 1, none⟩ = some (.int .i64 bj))
    (first | with_reducible exact ⟨l0, a0, a1, b0, b1⟩ | with_reducible exact HKS.out _ hbz | go_keep)
    (first
      | (go_simp; go_at_call 29; (with_reducible refine (HCC.out _).mono ?_); rintro e wq ⟨rfl, hbz⟩)
      | fail)
  have HBZ := Lib.hid hbz
  clear hbz
  go_wp2_with fail
  go_ret
  exact ⟨rfl, (HH.out.drewN 1).below HBZ.out (Nat.le_refl _), HFX.out.drew.trans (Fx.of_below HBZ.out (Nat.le_trans hB HFX.out.bel.size) (Nat.le_refl _))⟩
set_option maxRecDepth 100000 in
set_option maxHeartbeats 4000000 in
theorem swap_any (i j : Nat) (H : HpX w B h m v ts f n) (hv : Inv ts f) (hB : B ≤ w.heap.size) (hi : i < ts.length) (hj : j < ts.length) (hij : i ≠ j) (hs : ts.length ≤ 100000) :
    Calls Try.prog 51 #[.pointer (some ⟨h, 0, none⟩), .int .i64 (i : Int), .int .i64 (j : Int)] w fun e w' => e = .returned (.tuple #[]) ∧ HpX w' B h m v (sw ts i j) (upd (upd f (gt ts j).1 (some i)) (gt ts i).1 (some j)) n ∧ Fx B w w' := by
  obtain ⟨k0, _, _, _⟩ := H.box_cells
  obtain ⟨g, c, rfl, hlc, hg, hgh, hgm, a0, a1, b0, b1⟩ := H.two hi hj
  have hh := H.lt.1
  have hi' : (i : Int) < (ts.length : Int) := by omega
  have hj' : (j : Int) < (ts.length : Int) := by omega
  obtain ⟨ai, hai⟩ : ∃ z, z = (gt ts i).1 := ⟨_, rfl⟩
  obtain ⟨bi, hbi⟩ : ∃ z, z = (gt ts i).2 := ⟨_, rfl⟩
  obtain ⟨aj, haj⟩ : ∃ z, z = (gt ts j).1 := ⟨_, rfl⟩
  obtain ⟨bj, hbj⟩ : ∃ z, z = (gt ts j).2 := ⟨_, rfl⟩
  rw [← hai] at a0
  rw [← hbi] at a1
  rw [← haj] at b0
  rw [← hbj] at b1
  have HA := Lib.hid hai; have HBI := Lib.hid hbi; have HAJ := Lib.hid haj; have HBJ := Lib.hid hbj
  have HH := Lib.hid H; have HI := Lib.hid hij
  clear H hai hbi haj hbj hij
  go_enter Try.func51, Try.ntmps51
  go_wp2_with fail
  go_cut [6, 7] (fun s6 s7 wx => ∃ p q, s6 = .pointer (some ⟨p, 0, none⟩) ∧ s7 = .pointer (some ⟨q, 0, none⟩) ∧ w.heap.size ≤ p ∧ w.heap.size ≤ q ∧ Blk wx p 59 #[.int .i64 ai, .int .i64 bi] ∧ Blk wx q 59 #[.int .i64 aj, .int .i64 bj] ∧ Below w.heap.size w wx)
  case first =>
    go_region
    · go_wp2_with fail
      go_meet
      refine ⟨w.heap.size, w.heap.size + 1, rfl, rfl, Nat.le_refl _, by omega, ((Blk.new w _ _).alloc _).drew, ?_, (((Below.refl _ w).alloc (Nat.le_refl _) _).alloc (by simp) _).drew⟩
      have := (Blk.new (w.alloc (.cells #[.int .i64 ai, .int .i64 bi] 59)) 59 #[.int .i64 aj, .int .i64 bj]).drew
      simpa using this
    · go_wp2_with fail
      go_meet
      refine ⟨w.heap.size + 1, w.heap.size, rfl, rfl, by omega, Nat.le_refl _, ?_, ((Blk.new w _ _).alloc _).drew, (((Below.refl _ w).alloc (Nat.le_refl _) _).alloc (by simp) _).drew⟩
      have := (Blk.new (w.alloc (.cells #[.int .i64 aj, .int .i64 bj] 59)) 59 #[.int .i64 ai, .int .i64 bi]).drew
      simpa using this
  rename_i s6 s7 wx hcut
  obtain ⟨p, q, rfl, rfl, hp, hq, x1, x2, hbl⟩ := hcut
  have H2 := HH.out.below hbl (Nat.le_refl _)
  have hput1 := put_any i (gt ts j) H2 (Nat.le_trans hB hbl.size) hi hs
  have HX1 := Lib.hid x1; have HBL := Lib.hid hbl; have HP1 := Lib.hid hput1
  have y0 := x2.cell 0
  have y1 := x2.cell 1
  simp at y0 y1
  unfold tmV at HP1
  rw [← HAJ.out, ← HBJ.out] at HP1
  clear k0 a0 a1 b0 b1 x1 hbl x2 hput1
  go_wp2_with fail
  refine HP1.out.mono ?_
  rintro e w3 ⟨rfl, h3, f3⟩
  have hpl := HX1.out.lt
  have hpS : ¬ (p = h ∨ p = m ∨ (Value.slice (some ⟨g, 0, none⟩) ts.length c).ownBlock = some p) := by
    rintro (e | e | e)
    · omega
    · have := HH.out.lt.2
      omega
    · simp [Value.ownBlock] at e
      omega
  have x3 := f3.blk HX1.out hpS
  have hput2 := put_any j (gt ts i) h3 (Nat.le_trans (Nat.le_trans hB HBL.out.size) f3.size) (by simpa using hj) (by simpa using hs)
  unfold tmV at hput2
  rw [← HA.out, ← HBI.out] at hput2
  have v0 := x3.cell 0
  have v1 := x3.cell 1
  simp at v0 v1
  have HP2 := Lib.hid hput2; have HF3 := Lib.hid f3
  clear y0 y1 HP1 h3 f3 hpS x3 hput2
  go_wp2_with fail
  refine HP2.out.mono ?_
  rintro e w4 ⟨rfl, h4, f4⟩
  go_wp2_with fail
  go_end0
  have hfr := HF3.out.trans f4 (fun _ _ h => h)
  refine ⟨rfl, ?_, (Fx.of_below HBL.out hB (Nat.le_refl _)).trans (H2.fx (Nat.le_trans hB HBL.out.size) hfr)⟩
  rw [← HAJ.out, ← HA.out]
  exact h4
end
end Go.Proofs.Ytglgficmfpecgaa
