
/-
  What changes a state's locks: handOn, Lock, Unlock, Wait, Signal, Down, Up.
-/
import Derived.Test.YtikelkfinjcgaaaLkA
import Derived.Deep.RegionLawGrows
set_option linter.unusedVariables false
set_option linter.unusedSimpArgs false
namespace Go.Proofs.Ytikelkfinjcgaaa
open Go.RowKit Plain

section
variable {w : World} {B : Nat} {h : LkH} {s : Lk}
/-- A thread comes behind those of a row, in whatever world has come of this one by memory of its own. -/
theorem behind_all (w : World) (D : Nat → Prop) (A : Option Addr) (c : Nat) (l : List Int) (hr : RN w D A c l) (n : Nat) (hn : l.length = n) (hK : n ≤ 1000000) (t : Int) :
    ∀ W, Below w.heap.size w W → Calls Try.prog 37 #[.slice A n c, .int .i64 t] W fun e w' => ∃ A' c', e = .returned (.slice A' (n + 1) c') ∧ RN w' (fun k => w.heap.size ≤ k) A' c' (l ++ [t]) ∧ Below w.heap.size w w' := by
  intro W hb
  refine (behind_any W D A c l (hr.below hb (Nat.le_refl _)) n hn hK t).mono ?_
  rintro e w' ⟨A', c', e1, h1, h2⟩
  have := hb.size
  exact ⟨A', c', e1, h1.mono (fun i h _ => by omega), hb.trans (h2.mono this)⟩
set_option maxRecDepth 100000 in
set_option maxHeartbeats 4000000 in
theorem lock_busy (H : LkM w B h s) (l1 : s.lq.length = s.own.length) (m : Nat) (hm : m < s.own.length) (hK : s.own.length ≤ 1000000) (t : Int) (ht : 0 ≤ t) (hx : gn s.own m ≠ -1) (hl : (gl s.lq m).length ≤ 1000000) :
    Calls Try.prog 16 #[.pointer (some ⟨h.g, 0, none⟩), .int .i64 (m : Int), .int .i64 t] w fun e w' => e = .returned (.bool false) ∧ LkT w w' B h { s with lq := s.lq.set m (gl s.lq m ++ [t]) } := by
  obtain ⟨b0, b1, b2, b3, b4⟩ := H.cells
  obtain ⟨b, cap, e1, e2, e3, e4, e5, e6⟩ := OwnI.at_ H.own hm
  have hml : m < s.lq.length := by rw [l1]; exact hm
  obtain ⟨q, qcap, A, c, f1, f2, f3, f4, f5, f6, f7⟩ := H.lq.at_ hml
  have hh := hasMutex_yes H l1 m hm hK
  have hbh := behind_all w _ A c _ f7 _ rfl hl t
  have hfin : ∀ W A' c', Below w.heap.size w W → RN W (fun k => w.heap.size ≤ k) A' c' (gl s.lq m ++ [t]) → LkT w (W.setCell ⟨q, m, none⟩ (.slice A' ((gl s.lq m).length + 1) c')) B h { s with lq := s.lq.set m (gl s.lq m ++ [t]) } := by
    intro W A' c' hb hr
    have hM := H.below hb (Nat.le_refl _)
    have := hM.setLq f1 hml (hr.mono (fun i hi _ => ⟨fun e => by have := (H.wlt e).2.1; omega, fun e => by have := H.xlt _ e; omega⟩))
    rw [show (gl s.lq m ++ [t]).length = (gl s.lq m).length + 1 by simp] at this
    exact ⟨this, (((Fr.refl h.W w).trans (Fr.of_below hb) (fun i hi e => by omega))).setCell (p := ⟨q, m, none⟩) (.inl (.inr (.inr (.inl f4)))) _⟩
  rw [e1] at b0
  rw [f1, l1] at b2
  have hgb := (H.wlt (.inl e4)).2.2
  have hgq := (H.wlt (.inr (.inr (.inl f4)))).2.2
  have hgl := H.box.lt
  have hkeep : ∀ W, Below w.heap.size w W → W.cell? ⟨h.g, 5, none⟩ = some (.slice (some ⟨q, 0, none⟩) s.own.length qcap) ∧ W.cell? ⟨q, m, none⟩ = some (.slice A (gl s.lq m).length c) ∧ W.frozen? ⟨q, m, none⟩ = false := fun W hb =>
    ⟨(hb.cell (p := ⟨h.g, 5, none⟩) hgl).trans b2, (hb.cell (p := ⟨q, m, none⟩) f3).trans f5, (hb.frozen (p := ⟨q, m, none⟩) f3).trans (f6 m)⟩
  clear H e1 e4 e6 l1 b1 b3 b4 f1 f4 f7 hml
  generalize s.own.length = n at *
  generalize h.g = g at *
  generalize gn s.own m = x at *
  generalize (gl s.lq m).length = k at *
  have HH := Lib.hid hh; have HF := Lib.hid hfin; have HB := Lib.hid hbh; have HK := Lib.hid hkeep
  clear hh hfin hbh hkeep
  have h0 : (m : Int) < (n : Int) := by omega
  have h1 : (0 : Int) ≤ (m : Int) := by omega
  have h2 : decide (t < 0) = false := by simp; omega
  have h3 : (x == -1) = false := by simpa using hx
  have f60 := f6 m
  go_enter Try.func16, Try.ntmps16
  go_wp2_with fail
  refine HH.out.mono ?_
  rintro e w1 ⟨rfl, j, rfl⟩
  go_wp2_with fail
  go_region_law (go_simp; (with_reducible refine (HB.out _ (below_drews (Below.refl _ _) _)).mono ?_); (rintro e w1 ⟨A', c', rfl, hr, hb⟩); (obtain ⟨z1, z2, z3⟩ := HK.out w1 hb))
  all_goals
    go_wp2_with fail
    go_ret
    exact ⟨rfl, HF.out _ _ _ hb hr⟩
set_option maxHeartbeats 4000000 in
theorem lock_free (H : LkM w B h s) (l1 : s.lq.length = s.own.length) (m : Nat) (hm : m < s.own.length) (hK : s.own.length ≤ 1000000) (t : Int) (ht : 0 ≤ t) (hx : gn s.own m = -1) :
    Calls Try.prog 16 #[.pointer (some ⟨h.g, 0, none⟩), .int .i64 (m : Int), .int .i64 t] w fun e w' => e = .returned (.bool true) ∧ LkT w w' B h { s with own := s.own.set m t } := by
  obtain ⟨b0, b1, b2, b3, b4⟩ := H.cells
  obtain ⟨b, cap, e1, e2, e3, e4, e5, e6⟩ := OwnI.at_ H.own hm
  have hh := hasMutex_yes H l1 m hm hK
  have hfin : ∀ k, LkT w ((w.drewN k).setCell ⟨b, m, none⟩ (.int .i64 t)) B h { s with own := s.own.set m t } := by
    intro k
    exact ⟨(H.drewN k).setOwn e1 m t, ((Fr.refl h.W w).drewN k).setCell (p := ⟨b, m, none⟩) (.inl (.inl e4)) _⟩
  rw [e1] at b0
  rw [hx] at e5
  have hgb := (H.wlt (.inl e4)).2.2
  clear H e1 e4 l1 b1 b3 b4 b2
  generalize s.own.length = n at *
  generalize h.g = g at *
  have HH := Lib.hid hh; have HF := Lib.hid hfin
  clear hh hfin
  have h0 : (m : Int) < (n : Int) := by omega
  have h1 : (0 : Int) ≤ (m : Int) := by omega
  have h2 : decide (t < 0) = false := by simp; omega
  have f60 := e6 m
  go_enter Try.func16, Try.ntmps16
  go_wp2_with fail
  refine HH.out.mono ?_
  rintro e w1 ⟨rfl, j, rfl⟩
  go_wp2_with fail
  go_ret
  exact ⟨rfl, HF.out _⟩
theorem lock_any {K : Nat} (H : LkM w B h s) (O : LkOk K s) (hK : K ≤ 1000000) (m : Nat) (hm : m < s.own.length) (t : Int) (ht : 0 ≤ t) :
    Calls Try.prog 16 #[.pointer (some ⟨h.g, 0, none⟩), .int .i64 (m : Int), .int .i64 t] w fun e w' => e = .returned (.bool (lockV s m t).2) ∧ LkT w w' B h (lockV s m t).1 := by
  have h1 := O.n1
  have h2 := gl_le s.lq m
  have h3 := O.tt
  unfold lockV
  split
  · rename_i hx
    exact lock_free H O.l1 m hm (by omega) t ht hx
  · rename_i hx
    exact lock_busy H O.l1 m hm (by omega) t ht hx (by omega)
theorem first_any (w : World) (D : Nat → Prop) (A : Option Addr) (c : Nat) (l : List Int) (hr : RN w D A c l) (n : Nat) (hn : l.length = n) (hK : n ≤ 1000000) :
    Calls Try.prog 41 #[.slice A n c] w fun e w' => ∃ A' c', e = .returned (.tuple #[.int .i64 (hd1 l), .slice A' (n - 1) c']) ∧ RN w D A' c' l.tail ∧ ∃ k, w' = w.drewN k := by
  subst hn
  cases l with
  | nil =>
    refine (first_nil w A c).mono ?_
    rintro e w' ⟨rfl, rfl⟩
    exact ⟨none, 0, rfl, RN.nil _ _ _ _, 0, rfl⟩
  | cons x r =>
    refine (first_cons w D A c x r hr _ rfl hK).mono ?_
    rintro e w' ⟨A', rfl, h1, h2⟩
    exact ⟨A', _, rfl, h1, h2⟩
end
end Go.Proofs.Ytikelkfinjcgaaa
