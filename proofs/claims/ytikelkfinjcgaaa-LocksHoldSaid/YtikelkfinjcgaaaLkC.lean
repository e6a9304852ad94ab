
/-
  What changes a state's locks: handOn, Unlock, Wait, Signal.
-/
import Derived.Test.YtikelkfinjcgaaaLkB
set_option linter.unusedVariables false
set_option linter.unusedSimpArgs false
namespace Go.Proofs.Ytikelkfinjcgaaa
open Go.RowKit Plain

section
variable {w : World} {B : Nat} {h : LkH} {s : Lk}
set_option maxRecDepth 100000 in
set_option maxHeartbeats 8000000 in
theorem handOn_any (H : LkM w B h s) (l1 : s.lq.length = s.own.length) (m : Nat) (hm : m < s.own.length) (hK : s.own.length ≤ 1000000) (hl : (gl s.lq m).length ≤ 1000000) :
    Calls Try.prog 39 #[.pointer (some ⟨h.g, 0, none⟩), .int .i64 (m : Int)] w fun e w' => e = .returned (.int .i64 (hd1 (gl s.lq m))) ∧ LkT w w' B h (handV s m) := by
  obtain ⟨b0, b1, b2, b3, b4⟩ := H.cells
  obtain ⟨b, cap, e1, e2, e3, e4, e5, e6⟩ := OwnI.at_ H.own hm
  have hml : m < s.lq.length := by rw [l1]; exact hm
  obtain ⟨q, qcap, A, c, f1, f2, f3, f4, f5, f6, f7⟩ := H.lq.at_ hml
  have hfi := fun W (hb : Below w.heap.size w W) => first_any W _ A c _ (f7.below hb (Nat.le_refl _)) _ rfl hl
  have htl : (gl s.lq m).tail.length = (gl s.lq m).length - 1 := by simp
  have hgb := (H.wlt (.inl e4)).2.2
  have hgq := (H.wlt (.inr (.inr (.inl f4)))).2.2
  have hbq := own_not_row H.own H.lq f4 b e4
  have hfin1 : ∀ W A' c', Below w.heap.size w W → RN W h.D A' c' (gl s.lq m).tail → LkT w ((W.setCell ⟨b, m, none⟩ (.int .i64 (hd1 (gl s.lq m)))).setCell ⟨q, m, none⟩ (.slice A' ((gl s.lq m).length - 1) c')) B h (handV s m) := by
    intro W A' c' hb hr
    have hM := (H.below hb (Nat.le_refl _)).setOwn e1 m (hd1 (gl s.lq m))
    have hr2 := hr.fr (fr_set W b m (.int .i64 (hd1 (gl s.lq m)))) (fun i hi _ e => hi.1 (e ▸ .inl e4))
    have hM2 := hM.setLq f1 (by simpa using hml) hr2
    rw [htl] at hM2
    exact ⟨hM2, ((((Fr.refl h.W w).trans (Fr.of_below hb) (fun i hi e => by omega))).setCell (p := ⟨b, m, none⟩) (.inl (.inl e4)) _).setCell (p := ⟨q, m, none⟩) (.inl (.inr (.inr (.inl f4)))) _⟩
  have hfin2 : ∀ W A' c', Below w.heap.size w W → RN W h.D A' c' (gl s.lq m).tail → LkT w ((W.setCell ⟨q, m, none⟩ (.slice A' ((gl s.lq m).length - 1) c')).setCell ⟨b, m, none⟩ (.int .i64 (hd1 (gl s.lq m)))) B h (handV s m) := by
    intro W A' c' hb hr
    have hM := (H.below hb (Nat.le_refl _)).setLq f1 hml hr
    have hM2 := hM.setOwn e1 m (hd1 (gl s.lq m))
    rw [htl] at hM2
    exact ⟨hM2, ((((Fr.refl h.W w).trans (Fr.of_below hb) (fun i hi e => by omega))).setCell (p := ⟨q, m, none⟩) (.inl (.inr (.inr (.inl f4)))) _).setCell (p := ⟨b, m, none⟩) (.inl (.inl e4)) _⟩
  have hread : ∀ W, LkT w W B h (handV s m) → W.cell? ⟨h.g, 2, none⟩ = some (.slice (some ⟨b, 0, none⟩) s.own.length cap) ∧ W.cell? ⟨b, m, none⟩ = some (.int .i64 (hd1 (gl s.lq m))) := by
    intro W hT
    obtain ⟨y0, _⟩ := hT.1.cells
    have hm2 : m < (handV s m).own.length := by simpa [handV] using hm
    obtain ⟨b', cap', g1, g2, g3, g4, g5, g6⟩ := OwnI.at_ hT.1.own hm2
    rw [e1] at y0 g1
    injection g1 with g1 _ _
    injection g1 with g1
    injection g1 with g1
    subst g1
    refine ⟨y0, ?_⟩
    rw [g5]
    simp only [handV]
    rw [gn_set hm]
  rw [e1] at b0
  rw [f1, l1] at b2
  have hgl := H.box.lt
  have hkeep : ∀ W, Below w.heap.size w W → W.cell? ⟨h.g, 2, none⟩ = some (.slice (some ⟨b, 0, none⟩) s.own.length cap) ∧ W.cell? ⟨h.g, 5, none⟩ = some (.slice (some ⟨q, 0, none⟩) s.own.length qcap) ∧ W.cell? ⟨q, m, none⟩ = some (.slice A (gl s.lq m).length c) ∧ W.frozen? ⟨q, m, none⟩ = false ∧ W.cell? ⟨b, m, none⟩ = some (.int .i64 (gn s.own m)) ∧ W.frozen? ⟨b, m, none⟩ = false := fun W hb =>
    ⟨(hb.cell (p := ⟨h.g, 2, none⟩) hgl).trans b0, (hb.cell (p := ⟨h.g, 5, none⟩) hgl).trans b2, (hb.cell (p := ⟨q, m, none⟩) f3).trans f5, (hb.frozen (p := ⟨q, m, none⟩) f3).trans (f6 m), (hb.cell (p := ⟨b, m, none⟩) e3).trans e5, (hb.frozen (p := ⟨b, m, none⟩) e3).trans (e6 m)⟩
  clear H e1 e4 l1 b1 b3 b4 f1 f4 f7 hml htl
  generalize s.own.length = n at *
  generalize h.g = g at *
  generalize gn s.own m = x at *
  generalize gl s.lq m = row at *
  generalize hd1 row = y at *
  generalize row.length = k at *
  have HF1 := Lib.hid hfin1; have HF2 := Lib.hid hfin2; have HB := Lib.hid hfi; have HK := Lib.hid hkeep; have HR := Lib.hid hread
  clear hfi hfin1 hfin2 hkeep hread
  have h0 : (m : Int) < (n : Int) := by omega
  have h1 : (0 : Int) ≤ (m : Int) := by omega
  have e60 := e6 m
  have f60 := f6 m
  have hqb : ¬ q = b := fun e => hbq e.symm
  have hgb1 : ¬ b = g := hgb
  have hgb2 : ¬ g = b := fun e => hgb e.symm
  have hgq1 : ¬ q = g := hgq
  have hgq2 : ¬ g = q := fun e => hgq e.symm
  have hbq' : ¬ b = q := hbq
  go_enter Try.func39, Try.ntmps39
  go_wp2_with fail
  go_region_law (go_simp; (with_reducible refine (HB.out _ (by first | exact (Below.refl _ _).drew | exact Below.refl _ _ | exact below_drews (Below.refl _ _) _)).mono ?_); (rintro e w1 ⟨A', c', rfl, hr, j, rfl⟩))
  all_goals
    go_wp2_with fail
    go_ret
    first
      | (refine ⟨rfl, HF1.out _ _ _ ?_ ?_⟩ <;> first | exact hr | exact below_drews (Below.refl _ _) _ | exact (below_drews (Below.refl _ _) _).drew)
      | (refine ⟨rfl, HF2.out _ _ _ ?_ ?_⟩ <;> first | exact hr | exact below_drews (Below.refl _ _) _ | exact (below_drews (Below.refl _ _) _).drew)
end
end Go.Proofs.Ytikelkfinjcgaaa
