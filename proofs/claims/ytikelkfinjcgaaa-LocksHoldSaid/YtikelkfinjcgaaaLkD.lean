
/-
  Unlock, Wait, Signal, Broadcast.
-/
import Derived.Test.YtikelkfinjcgaaaLkC
set_option linter.unusedVariables false
set_option linter.unusedSimpArgs false
namespace Go.Proofs.Ytikelkfinjcgaaa
open Go.RowKit Plain

section
variable {w : World} {B : Nat} {h : LkH} {s : Lk} {K : Nat}
set_option maxHeartbeats 2000000 in
theorem unlock_any (H : LkM w B h s) (O : LkOk K s) (hK : K ≤ 1000000) (m : Nat) (hm : m < s.own.length) (t : Int) (ht : 0 ≤ t) :
    Calls Try.prog 17 #[.pointer (some ⟨h.g, 0, none⟩), .int .i64 (m : Int), .int .i64 t] w fun e w' => e = .returned (.tuple #[.int .i64 (unlockV s m t).2.1, .int .i64 (unlockV s m t).2.2]) ∧ LkT w w' B h (unlockV s m t).1 := by
  have h1 := O.n1
  have h2 := gl_le s.lq m
  have h3 := O.tt
  have hh := owns_any H O.l1 m hm (by omega) t ht
  have hd := fun k => handOn_any (H.drewN k) O.l1 m hm (by omega) (by omega)
  have hfr : ∀ k w' s', LkT (w.drewN k) w' B h s' → LkT w w' B h s' := fun k w' s' hT => ⟨hT.1, ((Fr.refl h.W w).drewN k).trans hT.2 (fun _ _ h => h)⟩
  have hno : ∀ k, LkT w (w.drewN k) B h s := fun k => ⟨H.drewN k, (Fr.refl h.W w).drewN k⟩
  have HH := Lib.hid hh; have HD := Lib.hid hd; have HF := Lib.hid hfr; have HN := Lib.hid hno
  clear H O hh hd hfr hno h1 h2 h3
  by_cases hx : gn s.own m = t
  · have e1 : unlockV s m t = (handV s m, hd1 (gl s.lq m), 0) := by unfold unlockV; rw [if_pos hx]
    rw [e1]
    have e2 : (gn s.own m == t) = true := by simpa using hx
    rw [e2] at HH
    clear e1 e2 hx
    go_enter Try.func17, Try.ntmps17
    go_wp2_with fail
    refine HH.out.mono ?_
    rintro e w1 ⟨rfl, k, rfl⟩
    go_wp2_with fail
    refine (HD.out k).mono ?_
    rintro e w2 ⟨rfl, hT⟩
    have HT := Lib.hid (HF.out _ _ _ hT)
    clear hT
    go_wp2_with fail
    go_ret2
    exact ⟨rfl, HT.out⟩
  · have e1 : unlockV s m t = (s, -1, 10) := by unfold unlockV; rw [if_neg hx]
    rw [e1]
    have e2 : (gn s.own m == t) = false := by simpa using hx
    rw [e2] at HH
    clear e1 e2 hx HD
    go_enter Try.func17, Try.ntmps17
    go_wp2_with fail
    refine HH.out.mono ?_
    rintro e w1 ⟨rfl, k, rfl⟩
    go_wp2_with fail
    go_ret2
    exact ⟨rfl, HN.out k⟩
set_option maxRecDepth 100000 in
set_option maxHeartbeats 4000000 in
theorem wait_any (H : LkM w B h s) (O : LkOk K s) (hK : K ≤ 1000000) (c m : Nat) (hc : c < s.wq.length) (hm : m < s.own.length) (t : Int) (ht : 0 ≤ t) (ht2 : t ≤ 1000000) (hT : tot s.lq + tot s.wq + tot s.dq + 1 ≤ K) :
    Calls Try.prog 20 #[.pointer (some ⟨h.g, 0, none⟩), .int .i64 (c : Int), .int .i64 (m : Int), .int .i64 t] w fun e w' => e = .returned (.tuple #[.int .i64 (waitV s c m t).2.1, .int .i64 (waitV s c m t).2.2]) ∧ LkT w w' B h (waitV s c m t).1 := by
  have h1 := O.n1
  have h12 := O.n2
  have h2 := gl_le s.lq m
  have h21 := gl_le s.wq c
  have h3 := O.tt
  have hh := owns_any H O.l1 m hm (by omega) t ht
  have hcd := fun k => hasCond_yes (H.drewN k) c hc (by omega)
  have hno : ∀ k, LkT w (w.drewN k) B h s := fun k => ⟨H.drewN k, (Fr.refl h.W w).drewN k⟩
  have HH := Lib.hid hh; have HN := Lib.hid hno; have HC := Lib.hid hcd
  clear hh hno hcd
  by_cases hx : gn s.own m = t
  · have e1 : waitV s c m t = (handV { s with wq := s.wq.set c (gl s.wq c ++ [t]) } m, hd1 (gl s.lq m), 0) := by unfold waitV; rw [if_pos hx]
    rw [e1]
    have e2 : (gn s.own m == t) = true := by simpa using hx
    rw [e2] at HH
    obtain ⟨b0, b1, b2, b3, b4⟩ := H.cells
    obtain ⟨q, qcap, A, ca, f1, f2, f3, f4, f5, f6, f7⟩ := H.wq.at_ hc
    have hbh := behind_all w _ A ca _ f7 _ rfl (by omega) t
    have O2 := O.waiting hc ht ht2 hT
    have hfin : ∀ W A' c', Below w.heap.size w W → RN W (fun k => w.heap.size ≤ k) A' c' (gl s.wq c ++ [t]) → LkT w (W.setCell ⟨q, c, none⟩ (.slice A' ((gl s.wq c).length + 1) c')) B h { s with wq := s.wq.set c (gl s.wq c ++ [t]) } := by
      intro W A' c' hb hr
      have hM := H.below hb (Nat.le_refl _)
      have := hM.setWq f1 hc (hr.mono (fun i hi _ => ⟨fun e => by have := (H.wlt e).2.1; omega, fun e => by have := H.xlt _ e; omega⟩))
      rw [show (gl s.wq c ++ [t]).length = (gl s.wq c).length + 1 by simp] at this
      exact ⟨this, (((Fr.refl h.W w).trans (Fr.of_below hb) (fun i hi e => by omega))).setCell (p := ⟨q, c, none⟩) (.inl (.inr (.inr (.inr (.inl f4))))) _⟩
    have hhand : ∀ W, LkT w W B h { s with wq := s.wq.set c (gl s.wq c ++ [t]) } → Calls Try.prog 39 #[.pointer (some ⟨h.g, 0, none⟩), .int .i64 (m : Int)] W fun e w' => e = .returned (.int .i64 (hd1 (gl s.lq m))) ∧ LkT w w' B h (handV { s with wq := s.wq.set c (gl s.wq c ++ [t]) } m) := by
      intro W hTW
      refine (handOn_any hTW.1 O2.l1 m hm (by show s.own.length ≤ 1000000; omega) (by show (gl s.lq m).length ≤ 1000000; omega)).mono ?_
      rintro e w' ⟨rfl, hT2⟩
      exact ⟨rfl, hTW.trans hT2⟩
    rw [f1] at b3
    have hgq := (H.wlt (.inr (.inr (.inr (.inl f4))))).2.2
    have hgl := H.box.lt
    have hkeep : ∀ W, Below w.heap.size w W → W.cell? ⟨h.g, 6, none⟩ = some (.slice (some ⟨q, 0, none⟩) s.wq.length qcap) ∧ W.cell? ⟨q, c, none⟩ = some (.slice A (gl s.wq c).length ca) ∧ W.frozen? ⟨q, c, none⟩ = false := fun W hb =>
      ⟨(hb.cell (p := ⟨h.g, 6, none⟩) hgl).trans b3, (hb.cell (p := ⟨q, c, none⟩) f3).trans f5, (hb.frozen (p := ⟨q, c, none⟩) f3).trans (f6 c)⟩
    have h0 : (c : Int) < (s.wq.length : Int) := by omega
    clear H O O2 h1 h12 h2 h21 h3 hT e1 e2 hx b0 b1 b2 b4 f1 f4 f7 hm
    generalize handV { s with wq := s.wq.set c (gl s.wq c ++ [t]) } m = sE at *
    generalize hd1 (gl s.lq m) = y at *
    have HF := Lib.hid hfin; have HB := Lib.hid hbh; have HK := Lib.hid hkeep; have HA := Lib.hid hhand
    clear hfin hbh hkeep hhand
    generalize s.wq.length = n at *
    generalize h.g = g at *
    generalize (gl s.wq c).length = k at *
    have h1 : (0 : Int) ≤ (c : Int) := by omega
    have f60 := f6 c
    go_enter Try.func20, Try.ntmps20
    go_wp2_with fail
    refine HH.out.mono ?_
    rintro e w1 ⟨rfl, j, rfl⟩
    go_wp2_with fail
    refine (HC.out j).mono ?_
    rintro e w1 ⟨rfl, j2, rfl⟩
    go_wp2_with fail
    go_region_law (go_simp; (with_reducible refine (HB.out _ (by first | exact below_drews (Below.refl _ _) _ | exact below_drews (below_drews (Below.refl _ _) _) _)).mono ?_); (rintro e w1 ⟨A', c', rfl, hr, hb⟩); (obtain ⟨z1, z2, z3⟩ := HK.out w1 hb))
    all_goals
      have HT := Lib.hid (HF.out _ _ _ hb hr)
      go_wp2_with fail
      refine (HA.out _ HT.out).mono ?_
      rintro e w2 ⟨rfl, hT2⟩
      have HT2 := Lib.hid hT2
      clear hT2 HT hr z1 z2 z3 hb
      go_wp2_with fail
      go_ret2
      exact ⟨rfl, HT2.out⟩
  · have e1 : waitV s c m t = (s, -1, 10) := by unfold waitV; rw [if_neg hx]
    rw [e1]
    have e2 : (gn s.own m == t) = false := by simpa using hx
    rw [e2] at HH
    clear e1 e2 hx H O
    go_enter Try.func20, Try.ntmps20
    go_wp2_with fail
    refine HH.out.mono ?_
    rintro e w1 ⟨rfl, k, rfl⟩
    go_wp2_with fail
    go_ret2
    exact ⟨rfl, HN.out k⟩
set_option maxRecDepth 100000 in
set_option maxHeartbeats 4000000 in
theorem signal_none (H : LkM w B h s) (O : LkOk K s) (hK : K ≤ 1000000) (c m : Nat) (hc : c < s.wq.length) (hm : m < s.own.length) (hx : gl s.wq c = []) :
    Calls Try.prog 21 #[.pointer (some ⟨h.g, 0, none⟩), .int .i64 (c : Int), .int .i64 (m : Int)] w fun e w' => e = .returned (.tuple #[.int .i64 (-1), .bool false]) ∧ LkT w w' B h s := by
  have h1 := O.n1
  have h12 := O.n2
  have hcd := hasCond_yes H c hc (by omega)
  have hh := fun k => hasMutex_yes (H.drewN k) O.l1 m hm (by omega)
  have hno : ∀ k, LkT w (w.drewN k) B h s := fun k => ⟨H.drewN k, (Fr.refl h.W w).drewN k⟩
  obtain ⟨b0, b1, b2, b3, b4⟩ := H.cells
  obtain ⟨q, qcap, A, ca, f1, f2, f3, f4, f5, f6, f7⟩ := H.wq.at_ hc
  rw [f1] at b3
  rw [hx, List.length_nil] at f5
  have h0 : (c : Int) < (s.wq.length : Int) := by omega
  have HH := Lib.hid hh; have HN := Lib.hid hno; have HC := Lib.hid hcd
  clear hh hno hcd H O h1 h12 b0 b1 b2 b4 f1 f4 f7 hx hm f6
  generalize s.wq.length = n at *
  generalize h.g = g at *
  have h1 : (0 : Int) ≤ (c : Int) := by omega
  go_enter Try.func21, Try.ntmps21
  go_wp2_with fail
  refine HC.out.mono ?_
  rintro e w1 ⟨rfl, j, rfl⟩
  go_wp2_with fail
  refine (HH.out j).mono ?_
  rintro e w1 ⟨rfl, j2, rfl⟩
  go_wp2_with fail
  go_ret2
  exact ⟨rfl, by simpa using HN.out (j + j2)⟩
set_option maxRecDepth 100000 in
set_option maxHeartbeats 8000000 in
theorem signal_some (H : LkM w B h s) (O : LkOk K s) (hK : K ≤ 1000000) (c m : Nat) (hc : c < s.wq.length) (hm : m < s.own.length) (x : Int) (r : List Int) (hx : gl s.wq c = x :: r) :
    Calls Try.prog 21 #[.pointer (some ⟨h.g, 0, none⟩), .int .i64 (c : Int), .int .i64 (m : Int)] w fun e w' => e = .returned (.tuple #[.int .i64 x, .bool (lockV { s with wq := s.wq.set c r } m x).2]) ∧ LkT w w' B h (lockV { s with wq := s.wq.set c r } m x).1 := by
  have h1 := O.n1
  have h12 := O.n2
  have h21 := gl_le s.wq c
  have h3 := O.tt
  have hcd := hasCond_yes H c hc (by omega)
  have hh := fun k => hasMutex_yes (H.drewN k) O.l1 m hm (by omega)
  obtain ⟨b0, b1, b2, b3, b4⟩ := H.cells
  obtain ⟨q, qcap, A, ca, f1, f2, f3, f4, f5, f6, f7⟩ := H.wq.at_ hc
  obtain ⟨O2, _, hx0, hx1⟩ := O.fewer hc hx
  have hl : (gl s.wq c).length ≤ 1000000 := by omega
  have hfi := fun W (hb : Below w.heap.size w W) => first_any W _ A ca _ (f7.below hb (Nat.le_refl _)) _ rfl hl
  have hrl : r.length = (gl s.wq c).length - 1 := by rw [hx]; simp
  have hlk : ∀ W A' c', Below w.heap.size w W → RN W h.D A' c' r →
      Calls Try.prog 16 #[.pointer (some ⟨h.g, 0, none⟩), .int .i64 (m : Int), .int .i64 x] (W.setCell ⟨q, c, none⟩ (.slice A' ((gl s.wq c).length - 1) c')) fun e w' => e = .returned (.bool (lockV { s with wq := s.wq.set c r } m x).2) ∧ LkT w w' B h (lockV { s with wq := s.wq.set c r } m x).1 := by
    intro W A' c' hb hr
    have hM := (H.below hb (Nat.le_refl _)).setWq f1 hc hr
    rw [hrl] at hM
    have hT : LkT w (W.setCell ⟨q, c, none⟩ (.slice A' ((gl s.wq c).length - 1) c')) B h { s with wq := s.wq.set c r } := ⟨hM, (((Fr.refl h.W w).trans (Fr.of_below hb) (fun i hi e => by omega))).setCell (p := ⟨q, c, none⟩) (.inl (.inr (.inr (.inr (.inl f4))))) _⟩
    refine (lock_any hT.1 O2 hK m hm x hx0).mono ?_
    rintro e w' ⟨rfl, hT2⟩
    exact ⟨rfl, hT.trans hT2⟩
  simp only [hx, hd1, List.tail_cons] at hfi
  have hlx : (x :: r).length = (gl s.wq c).length := by rw [hx]
  have hne : ¬ (gl s.wq c).length = 0 := by rw [hx]; simp
  rw [hlx] at hfi
  rw [f1] at b3
  have hgq := (H.wlt (.inr (.inr (.inr (.inl f4))))).2.2
  have h0 : (c : Int) < (s.wq.length : Int) := by omega
  have HH := Lib.hid hh; have HC := Lib.hid hcd; have HB := Lib.hid hfi; have HL := Lib.hid hlk
  have f60 := f6 c
  clear hh hcd hfi hlk H O O2 h1 h12 h21 h3 b0 b1 b2 b4 f1 f4 f7 hx hm f6 hrl hlx
  generalize s.wq.length = n at *
  generalize h.g = g at *
  generalize (gl s.wq c).length = k at *
  generalize lockV { s with wq := s.wq.set c r } m x = res at *
  have h1 : (0 : Int) ≤ (c : Int) := by omega
  have h2 : ((k : Int) == 0) = false := by rw [beq_eq_false_iff_ne]; omega
  have hgq1 : ¬ q = g := hgq
  have hgq2 : ¬ g = q := fun e => hgq e.symm
  go_enter Try.func21, Try.ntmps21
  go_wp2_with fail
  refine HC.out.mono ?_
  rintro e w1 ⟨rfl, j, rfl⟩
  go_wp2_with fail
  refine (HH.out j).mono ?_
  rintro e w1 ⟨rfl, j2, rfl⟩
  go_wp2_with fail
  go_region_law (go_simp; (with_reducible refine (HB.out _ (by first | exact (Below.refl _ _).drew | exact Below.refl _ _ | exact below_drews (Below.refl _ _) _ | exact (below_drews (Below.refl _ _) _).drew | exact (below_drews (below_drews (Below.refl _ _) _) _).drew)).mono ?_); (rintro e w1 ⟨A', c', rfl, hr, i, rfl⟩))
  all_goals
    go_wp2_with fail
    refine (HL.out _ _ _ ?_ ?_).mono ?_
    rotate_left
    · exact hr
    rotate_left
    · first | exact below_drews (Below.refl _ _) _ | exact (below_drews (Below.refl _ _) _).drew
    rintro e w2 ⟨rfl, hT⟩
    have HT := Lib.hid hT
    clear hT hr
    go_wp2_with fail
    go_ret2
    exact ⟨rfl, HT.out⟩
theorem signal_any (H : LkM w B h s) (O : LkOk K s) (hK : K ≤ 1000000) (c m : Nat) (hc : c < s.wq.length) (hm : m < s.own.length) :
    Calls Try.prog 21 #[.pointer (some ⟨h.g, 0, none⟩), .int .i64 (c : Int), .int .i64 (m : Int)] w fun e w' => e = .returned (.tuple #[.int .i64 (signalV s c m).2.1, .bool (signalV s c m).2.2]) ∧ LkT w w' B h (signalV s c m).1 := by
  unfold signalV
  split
  · rename_i hx
    exact signal_none H O hK c m hc hm hx
  · rename_i x r hx
    exact signal_some H O hK c m hc hm x r hx
end
end Go.Proofs.Ytikelkfinjcgaaa
