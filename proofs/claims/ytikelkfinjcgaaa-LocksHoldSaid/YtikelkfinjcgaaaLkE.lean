
/-
  Semaphores: Down, Up.
-/
import Derived.Test.YtikelkfinjcgaaaLkB
set_option linter.unusedVariables false
set_option linter.unusedSimpArgs false
namespace Go.Proofs.Ytikelkfinjcgaaa
open Go.RowKit Plain

section
variable {w : World} {B : Nat} {h : LkH} {s : Lk}
set_option maxRecDepth 100000 in
set_option maxHeartbeats 4000000 in
theorem down_wait (H : LkM w B h s) (l2 : s.dq.length = s.cnt.length) (m : Nat) (hm : m < s.cnt.length) (hK : s.cnt.length ≤ 1000000) (t : Int) (ht : 0 ≤ t) (hx : gn s.cnt m ≤ 0) (hl : (gl s.dq m).length ≤ 1000000) :
    Calls Try.prog 18 #[.pointer (some ⟨h.g, 0, none⟩), .int .i64 (m : Int), .int .i64 t] w fun e w' => e = .returned (.bool false) ∧ LkT w w' B h { s with dq := s.dq.set m (gl s.dq m ++ [t]) } := by
  obtain ⟨b0, b1, b2, b3, b4⟩ := H.cells
  obtain ⟨b, cap, e1, e2, e3, e4, e5, e6⟩ := OwnI.at_ H.cnt hm
  have hml : m < s.dq.length := by rw [l2]; exact hm
  obtain ⟨q, qcap, A, c, f1, f2, f3, f4, f5, f6, f7⟩ := H.dq.at_ hml
  have hh := hasSema_yes H l2 m hm hK
  have hbh := behind_all w _ A c _ f7 _ rfl hl t
  have hfin : ∀ W A' c', Below w.heap.size w W → RN W (fun k => w.heap.size ≤ k) A' c' (gl s.dq m ++ [t]) → LkT w (W.setCell ⟨q, m, none⟩ (.slice A' ((gl s.dq m).length + 1) c')) B h { s with dq := s.dq.set m (gl s.dq m ++ [t]) } := by
    intro W A' c' hb hr
    have hM := H.below hb (Nat.le_refl _)
    have := hM.setDq f1 hml (hr.mono (fun i hi _ => ⟨fun e => by have := (H.wlt e).2.1; omega, fun e => by have := H.xlt _ e; omega⟩))
    rw [show (gl s.dq m ++ [t]).length = (gl s.dq m).length + 1 by simp] at this
    exact ⟨this, (((Fr.refl h.W w).trans (Fr.of_below hb) (fun i hi e => by omega))).setCell (p := ⟨q, m, none⟩) (.inl (.inr (.inr (.inr (.inr f4))))) _⟩
  rw [e1] at b1
  rw [f1, l2] at b4
  have hgb := (H.wlt (.inr (.inl e4))).2.2
  have hgq := (H.wlt (.inr (.inr (.inr (.inr f4))))).2.2
  have hgl := H.box.lt
  have hkeep : ∀ W, Below w.heap.size w W → W.cell? ⟨h.g, 7, none⟩ = some (.slice (some ⟨q, 0, none⟩) s.cnt.length qcap) ∧ W.cell? ⟨q, m, none⟩ = some (.slice A (gl s.dq m).length c) ∧ W.frozen? ⟨q, m, none⟩ = false := fun W hb =>
    ⟨(hb.cell (p := ⟨h.g, 7, none⟩) hgl).trans b4, (hb.cell (p := ⟨q, m, none⟩) f3).trans f5, (hb.frozen (p := ⟨q, m, none⟩) f3).trans (f6 m)⟩
  clear H e1 e4 e6 l2 b0 b2 b3 f1 f4 f7 hml
  generalize s.cnt.length = n at *
  generalize h.g = g at *
  generalize gn s.cnt m = x at *
  generalize (gl s.dq m).length = k at *
  have HH := Lib.hid hh; have HF := Lib.hid hfin; have HB := Lib.hid hbh; have HK := Lib.hid hkeep
  clear hh hfin hbh hkeep
  have h0 : (m : Int) < (n : Int) := by omega
  have h1 : (0 : Int) ≤ (m : Int) := by omega
  have h2 : decide (t < 0) = false := by simp; omega
  have f60 := f6 m
  go_enter Try.func18, Try.ntmps18
  go_wp2_with fail
  refine HH.out.mono ?_
  rintro e w1 ⟨rfl, j, rfl⟩
  go_wp2_with fail
  go_region_law (go_simp; (with_reducible refine (HB.out _ (below_drews (Below.refl _ _) _)).mono ?_); (rintro e w1 ⟨A', c', rfl, hr, hb⟩); (obtain ⟨z1, z2, z3⟩ := HK.out w1 hb))
  all_goals
    go_wp2_with fail
    go_ret
    exact ⟨rfl, HF.out _ _ _ hb hr⟩
set_option maxHeartbeats 4000000 in
theorem down_free (H : LkM w B h s) (l2 : s.dq.length = s.cnt.length) (m : Nat) (hm : m < s.cnt.length) (hK : s.cnt.length ≤ 1000000) (t : Int) (ht : 0 ≤ t) (hx : 0 < gn s.cnt m) (hx2 : gn s.cnt m ≤ 1000000) :
    Calls Try.prog 18 #[.pointer (some ⟨h.g, 0, none⟩), .int .i64 (m : Int), .int .i64 t] w fun e w' => e = .returned (.bool true) ∧ LkT w w' B h { s with cnt := s.cnt.set m (gn s.cnt m - 1) } := by
  obtain ⟨b0, b1, b2, b3, b4⟩ := H.cells
  obtain ⟨b, cap, e1, e2, e3, e4, e5, e6⟩ := OwnI.at_ H.cnt hm
  have hh := hasSema_yes H l2 m hm hK
  have hfin : ∀ k, LkT w ((w.drewN k).setCell ⟨b, m, none⟩ (.int .i64 (gn s.cnt m - 1))) B h { s with cnt := s.cnt.set m (gn s.cnt m - 1) } := by
    intro k
    exact ⟨(H.drewN k).setCnt e1 m _, ((Fr.refl h.W w).drewN k).setCell (p := ⟨b, m, none⟩) (.inl (.inr (.inl e4))) _⟩
  rw [e1] at b1
  have hgb := (H.wlt (.inr (.inl e4))).2.2
  have hwr : IntKind.i64.wrap (gn s.cnt m - 1) = gn s.cnt m - 1 := IntWalk.i64_in _ (by omega)
  clear H e1 e4 l2 b0 b3 b4 b2
  generalize s.cnt.length = n at *
  generalize h.g = g at *
  generalize gn s.cnt m = x at *
  have HH := Lib.hid hh; have HF := Lib.hid hfin
  clear hh hfin
  have h0 : (m : Int) < (n : Int) := by omega
  have h1 : (0 : Int) ≤ (m : Int) := by omega
  have h2 : decide (t < 0) = false := by simp; omega
  have f60 := e6 m
  go_enter Try.func18, Try.ntmps18
  go_wp2_with fail
  refine HH.out.mono ?_
  rintro e w1 ⟨rfl, j, rfl⟩
  go_wp2_with fail
  go_ret
  exact ⟨rfl, HF.out _⟩
theorem down_any {K : Nat} (H : LkM w B h s) (O : LkOk K s) (hK : K ≤ 1000000) (m : Nat) (hm : m < s.cnt.length) (t : Int) (ht : 0 ≤ t) :
    Calls Try.prog 18 #[.pointer (some ⟨h.g, 0, none⟩), .int .i64 (m : Int), .int .i64 t] w fun e w' => e = .returned (.bool (downV s m t).2) ∧ LkT w w' B h (downV s m t).1 := by
  have h1 := O.n3
  have h2 := gl_le s.dq m
  have h3 := O.tt
  have h4 := O.cnt _ (gn_mem hm)
  unfold downV
  split
  · rename_i hx
    exact down_wait H O.l2 m hm (by omega) t ht hx (by omega)
  · rename_i hx
    exact down_free H O.l2 m hm (by omega) t ht (by omega) (by omega)
set_option maxRecDepth 100000 in
set_option maxHeartbeats 8000000 in
theorem up_first (H : LkM w B h s) (l2 : s.dq.length = s.cnt.length) (m : Nat) (hm : m < s.cnt.length) (hK : s.cnt.length ≤ 1000000) (x : Int) (r : List Int) (hx : gl s.dq m = x :: r) (hx0 : 0 ≤ x) (hl : (gl s.dq m).length ≤ 1000000) :
    Calls Try.prog 19 #[.pointer (some ⟨h.g, 0, none⟩), .int .i64 (m : Int)] w fun e w' => e = .returned (.int .i64 x) ∧ LkT w w' B h { s with dq := s.dq.set m r } := by
  obtain ⟨b0, b1, b2, b3, b4⟩ := H.cells
  have hml : m < s.dq.length := by rw [l2]; exact hm
  obtain ⟨q, qcap, A, c, f1, f2, f3, f4, f5, f6, f7⟩ := H.dq.at_ hml
  have hh := hasSema_yes H l2 m hm hK
  have hfi := fun W (hb : Below w.heap.size w W) => first_any W _ A c _ (f7.below hb (Nat.le_refl _)) _ rfl hl
  have hrl : r.length = (gl s.dq m).length - 1 := by rw [hx]; simp
  simp only [hx, hd1, List.tail_cons] at hfi
  have hfin : ∀ W A' c', Below w.heap.size w W → RN W h.D A' c' r → LkT w (W.setCell ⟨q, m, none⟩ (.slice A' ((gl s.dq m).length - 1) c')) B h { s with dq := s.dq.set m r } := by
    intro W A' c' hb hr
    have hM := (H.below hb (Nat.le_refl _)).setDq f1 hml hr
    rw [hrl] at hM
    exact ⟨hM, (((Fr.refl h.W w).trans (Fr.of_below hb) (fun i hi e => by omega))).setCell (p := ⟨q, m, none⟩) (.inl (.inr (.inr (.inr (.inr f4))))) _⟩
  rw [f1, l2] at b4
  have hgq := (H.wlt (.inr (.inr (.inr (.inr f4))))).2.2
  have hlx : (x :: r).length = (gl s.dq m).length := by rw [hx]
  rw [hlx] at hfi
  clear H l2 b0 b1 b2 b3 f1 f4 f7 hml hrl hx hlx
  generalize s.cnt.length = n at *
  generalize h.g = g at *
  generalize (gl s.dq m).length = k at *
  have HH := Lib.hid hh; have HF := Lib.hid hfin; have HB := Lib.hid hfi
  clear hh hfin hfi
  have h0 : (m : Int) < (n : Int) := by omega
  have h1 : (0 : Int) ≤ (m : Int) := by omega
  have h3 : (x == -1) = false := by rw [beq_eq_false_iff_ne]; omega
  have h4 : ¬ x = -1 := by omega
  have f60 := f6 m
  have hgq1 : ¬ q = g := hgq
  have hgq2 : ¬ g = q := fun e => hgq e.symm
  go_enter Try.func19, Try.ntmps19
  go_wp2_with fail
  refine HH.out.mono ?_
  rintro e w1 ⟨rfl, j, rfl⟩
  go_wp2_with fail
  go_region_law (go_simp; (with_reducible refine (HB.out _ (by first | exact (Below.refl _ _).drew | exact Below.refl _ _ | exact below_drews (Below.refl _ _) _ | exact (below_drews (Below.refl _ _) _).drew)).mono ?_); (rintro e w1 ⟨A', c', rfl, hr, i, rfl⟩))
  all_goals
    go_wp2_with fail
    go_ret
    exact ⟨rfl, HF.out _ _ _ (by first | exact below_drews (Below.refl _ _) _ | exact below_drews (Below.refl _ _).drew i) hr⟩
set_option maxRecDepth 100000 in
set_option maxHeartbeats 8000000 in
theorem up_none (H : LkM w B h s) (l2 : s.dq.length = s.cnt.length) (m : Nat) (hm : m < s.cnt.length) (hK : s.cnt.length ≤ 1000000) (hx : gl s.dq m = []) (hc0 : 0 ≤ gn s.cnt m) (hc1 : gn s.cnt m ≤ 1000000) :
    Calls Try.prog 19 #[.pointer (some ⟨h.g, 0, none⟩), .int .i64 (m : Int)] w fun e w' => e = .returned (.int .i64 (-1)) ∧ LkT w w' B h { s with cnt := s.cnt.set m (gn s.cnt m + 1) } := by
  obtain ⟨b0, b1, b2, b3, b4⟩ := H.cells
  obtain ⟨b, cap, e1, e2, e3, e4, e5, e6⟩ := OwnI.at_ H.cnt hm
  have hml : m < s.dq.length := by rw [l2]; exact hm
  obtain ⟨q, qcap, A, c, f1, f2, f3, f4, f5, f6, f7⟩ := H.dq.at_ hml
  have hh := hasSema_yes H l2 m hm hK
  have hfi := fun W => first_nil W A c
  have hset : s.dq.set m [] = s.dq := by
    refine List.ext_getElem? fun i => ?_
    by_cases hi : m = i
    · subst hi
      rw [List.getElem?_set_self hml, gl_some hml, hx]
    · rw [List.getElem?_set_ne hi]
  have hbq := own_not_row H.cnt H.dq f4 b e4
  have hfin : ∀ W, Below w.heap.size w W → LkT w ((W.setCell ⟨q, m, none⟩ (.slice none 0 0)).setCell ⟨b, m, none⟩ (.int .i64 (gn s.cnt m + 1))) B h { s with cnt := s.cnt.set m (gn s.cnt m + 1) } := by
    intro W hb
    have hM := (H.below hb (Nat.le_refl _)).setDq f1 hml (RN.nil _ _ none 0)
    rw [hset] at hM
    exact ⟨hM.setCnt e1 m _, ((((Fr.refl h.W w).trans (Fr.of_below hb) (fun i hi e => by omega))).setCell (p := ⟨q, m, none⟩) (.inl (.inr (.inr (.inr (.inr f4))))) _).setCell (p := ⟨b, m, none⟩) (.inl (.inr (.inl e4))) _⟩
  rw [e1] at b1
  rw [f1, l2] at b4
  rw [hx, List.length_nil] at f5
  have hgb := (H.wlt (.inr (.inl e4))).2.2
  have hgq := (H.wlt (.inr (.inr (.inr (.inr f4))))).2.2
  have hwr : IntKind.i64.wrap (gn s.cnt m + 1) = gn s.cnt m + 1 := IntWalk.i64_in _ (by omega)
  clear H l2 b0 b2 b3 f1 f4 f7 hml hx e1 e4 hset
  generalize s.cnt.length = n at *
  generalize h.g = g at *
  generalize gn s.cnt m = x at *
  have HH := Lib.hid hh; have HF := Lib.hid hfin; have HB := Lib.hid hfi
  clear hh hfin hfi
  have h0 : (m : Int) < (n : Int) := by omega
  have h1 : (0 : Int) ≤ (m : Int) := by omega
  have f60 := f6 m
  have e60 := e6 m
  have hgq1 : ¬ q = g := hgq
  have hgq2 : ¬ g = q := fun e => hgq e.symm
  have hgb1 : ¬ b = g := hgb
  have hgb2 : ¬ g = b := fun e => hgb e.symm
  have hbq1 : ¬ b = q := hbq
  have hbq2 : ¬ q = b := fun e => hbq e.symm
  go_enter Try.func19, Try.ntmps19
  go_wp2_with fail
  refine HH.out.mono ?_
  rintro e w1 ⟨rfl, j, rfl⟩
  go_wp2_with fail
  go_region_law (go_simp; (with_reducible refine (HB.out _).mono ?_); (rintro e w1 ⟨rfl, rfl⟩))
  all_goals
    go_wp2_with fail
    go_ret
    refine ⟨rfl, HF.out _ ?_⟩
    first | exact below_drews (Below.refl _ _) _ | exact (below_drews (Below.refl _ _) _).drew | exact Below.refl _ _ | exact (Below.refl _ _).drew
theorem up_any {K : Nat} (H : LkM w B h s) (O : LkOk K s) (hK : K ≤ 1000000) (m : Nat) (hm : m < s.cnt.length) :
    Calls Try.prog 19 #[.pointer (some ⟨h.g, 0, none⟩), .int .i64 (m : Int)] w fun e w' => e = .returned (.int .i64 (upV s m).2) ∧ LkT w w' B h (upV s m).1 := by
  have h1 := O.n3
  have h2 := gl_le s.dq m
  have h3 := O.tt
  have h4 := O.cnt _ (gn_mem hm)
  have h5 := O.t3.gl m
  unfold upV
  split
  · rename_i hx
    exact up_none H O.l2 m hm (by omega) hx h4.1 (by omega)
  · rename_i x r hx
    rw [hx] at h5
    exact up_first H O.l2 m hm (by omega) x r hx (h5 x (by simp)).1 (by omega)
end
end Go.Proofs.Ytikelkfinjcgaaa
