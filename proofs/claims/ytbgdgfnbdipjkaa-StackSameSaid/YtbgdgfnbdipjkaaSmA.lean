
/-
  Whether two rows of numbers, or two frames, are one: of the program and of the document.
-/
import Derived.Test.YtbgdgfnbdipjkaaRefTA
import Derived.Deep.QuietTactic
import Derived.BigQuiet
set_option linter.unusedVariables false
set_option linter.unusedSimpArgs false
namespace Go.Proofs.Ytbgdgfnbdipjkaa
open Go.RowKit Plain

set_option maxHeartbeats 4000000 in
theorem sameInts_any (l m : List Int) (w : World) (B1 B2 : Nat) (A1 A2 : Option Addr) (n1 n2 c1 c2 : Nat) (h1 : RI w B1 A1 n1 c1 l) (h2 : RI w B2 A2 n2 c2 m) (hn1 : n1 ≤ 9223372036854775807) (hn2 : n2 ≤ 9223372036854775807) :
    Calls Try.prog 49 #[.slice A1 n1 c1, .slice A2 n2 c2] w fun e w' => e = .returned (.bool (decide (l = m))) ∧ ∃ d, w' = w.drewN d := by
  have hl1 := h1.1
  have hl2 := h2.1
  by_cases hnn : n1 = n2
  · subst hnn
    have H1 := Lib.hid h1; have H2 := Lib.hid h2; have L1 := Lib.hid hl1; have L2 := Lib.hid hl2
    clear h1 h2 hl1 hl2
    go_enter Try.func49, Try.ntmps49
    go_wp2_with fail
    go_loopw [5] (fun s wr => ∃ k d : Nat, k ≤ n1 ∧ s = .int .i64 (k : Int) ∧ wr = w.drewN d ∧ Hid (l.take k = m.take k)) (fun s _ => n1 - (intOf s).toNat)
    case atStart => exact ⟨0, 0, by omega, rfl, rfl, by show _ = _; simp⟩
    case round =>
      obtain ⟨k, d, hk, rfl, rfl, hp⟩ := hrel
      by_cases hlt : k < n1
      · obtain ⟨ad1, z1, rfl, _, hz1, hc1⟩ := H1.out.at_ hlt
        obtain ⟨ad2, z2, rfl, _, hz2, hc2⟩ := H2.out.at_ hlt
        by_cases hzz : z1 = z2
        · subst hzz
          have hnx : l.take (k + 1) = m.take (k + 1) := by rw [List.take_add_one, List.take_add_one, hp.out, hz1, hz2]
          have HN := Lib.hid hnx
          clear hz1 hz2 hnx
          go_wp2_with fail
          go_quiet (fail)
          go_wp2_with fail
          exact ⟨⟨k + 1, _, by omega, by go_num, rfl, HN.out⟩, by simp [intOf]; omega⟩
        · have hne : decide (l = m) = false := by
            refine decide_eq_false fun e => hzz ?_
            rw [e, hz2] at hz1
            injection hz1 with h
            exact h.symm
          have HN := Lib.hid hne
          have hzb : (z1 == z2) = false := by simpa using hzz
          clear hz1 hz2 hne hzz
          go_wp2_with fail
          go_quiet (fail)
          go_wp2_with fail
          go_ret
          exact ⟨ret_bool HN.out.symm, by first | exact ⟨_, rfl⟩ | exact ⟨_, World.drewN_drewN _ _ _⟩⟩
      · have he : decide (l = m) = true := by
          refine decide_eq_true ?_
          have := hp.out
          rwa [List.take_of_length_le (by rw [L1.out]; omega), List.take_of_length_le (by rw [L2.out]; omega)] at this
        have HE := Lib.hid he
        clear he
        go_wp2_with fail
        go_ret
        exact ⟨ret_bool HE.out.symm, d, rfl⟩
  · have hne : decide (l = m) = false := decide_eq_false fun e => hnn (by rw [← hl1, ← hl2, e])
    have HN := Lib.hid hne
    have hnb : ((n1 : Int) == (n2 : Int)) = false := by simp; omega
    clear h1 h2 hl1 hl2 hne hnn
    go_enter Try.func49, Try.ntmps49
    go_wp2_with fail
    go_ret
    exact ⟨ret_bool HN.out.symm, 0, rfl⟩

set_option maxHeartbeats 4000000 in
theorem equal_any (l m : List Int) (w : World) (B1 B2 : Nat) (A1 A2 : Option Addr) (n1 n2 c1 c2 : Nat) (h1 : RI w B1 A1 n1 c1 l) (h2 : RI w B2 A2 n2 c2 m) (hn1 : n1 ≤ 9223372036854775807) (hn2 : n2 ≤ 9223372036854775807) :
    Calls Try.prog 48 #[.slice A1 n1 c1, .slice A2 n2 c2] w fun e w' => e = .returned (.bool (decide (l = m))) ∧ ∃ d, w' = w.drewN d := by
  have hl1 := h1.1
  have hl2 := h2.1
  by_cases hnn : n1 = n2
  · subst hnn
    have H1 := Lib.hid h1; have H2 := Lib.hid h2; have L1 := Lib.hid hl1; have L2 := Lib.hid hl2
    clear h1 h2 hl1 hl2
    go_enter Try.func48, Try.ntmps48
    go_wp2_with fail
    go_loopw [13] (fun s wr => ∃ k d : Nat, k ≤ n1 ∧ s = .int .i64 (k : Int) ∧ wr = w.drewN d ∧ Hid (l.take k = m.take k)) (fun s _ => n1 - (intOf s).toNat)
    case atStart => exact ⟨0, 0, by omega, rfl, rfl, by show _ = _; simp⟩
    case round =>
      obtain ⟨k, d, hk, rfl, rfl, hp⟩ := hrel
      by_cases hlt : k < n1
      · obtain ⟨ad1, z1, rfl, _, hz1, hc1⟩ := H1.out.at_ hlt
        obtain ⟨ad2, z2, rfl, _, hz2, hc2⟩ := H2.out.at_ hlt
        by_cases hzz : z1 = z2
        · subst hzz
          have hnx : l.take (k + 1) = m.take (k + 1) := by rw [List.take_add_one, List.take_add_one, hp.out, hz1, hz2]
          have HN := Lib.hid hnx
          clear hz1 hz2 hnx
          go_wp2_with fail
          go_quiet (fail)
          go_wp2_with fail
          exact ⟨⟨k + 1, _, by omega, by go_num, rfl, HN.out⟩, by simp [intOf]; omega⟩
        · have hne : decide (l = m) = false := by
            refine decide_eq_false fun e => hzz ?_
            rw [e, hz2] at hz1
            injection hz1 with h
            exact h.symm
          have HN := Lib.hid hne
          have hzb : (z1 == z2) = false := by simpa using hzz
          clear hz1 hz2 hne hzz
          go_wp2_with fail
          go_quiet (fail)
          go_wp2_with fail
          go_ret
          exact ⟨ret_bool HN.out.symm, by first | exact ⟨_, rfl⟩ | exact ⟨_, World.drewN_drewN _ _ _⟩⟩
      · have he : decide (l = m) = true := by
          refine decide_eq_true ?_
          have := hp.out
          rwa [List.take_of_length_le (by rw [L1.out]; omega), List.take_of_length_le (by rw [L2.out]; omega)] at this
        have HE := Lib.hid he
        clear he
        go_wp2_with fail
        go_ret
        exact ⟨ret_bool HE.out.symm, d, rfl⟩
  · have hne : decide (l = m) = false := decide_eq_false fun e => hnn (by rw [← hl1, ← hl2, e])
    have HN := Lib.hid hne
    have hnb : ((n1 : Int) == (n2 : Int)) = false := by simp; omega
    clear h1 h2 hl1 hl2 hne hnn
    go_enter Try.func48, Try.ntmps48
    go_wp2_with fail
    go_ret
    exact ⟨ret_bool HN.out.symm, 0, rfl⟩

theorem frv_ext {x y : FrV} (h1 : x.func = y.func) (h2 : x.pc = y.pc) (h3 : x.locals = y.locals) : x = y := by cases x; cases y; simp_all

set_option maxHeartbeats 4000000 in
set_option maxRecDepth 100000 in
theorem sameFrame_any (x y : TFr) (w : World) (B1 B2 : Nat) (h1 : RI w B1 x.A x.f.locals.length x.c x.f.locals) (h2 : RI w B2 y.A y.f.locals.length y.c y.f.locals) (hB1 : B1 ≤ w.heap.size) (hB2 : B2 ≤ w.heap.size) (hn1 : x.f.locals.length ≤ 9223372036854775807) (hn2 : y.f.locals.length ≤ 9223372036854775807) :
    Calls Try.prog 47 #[.agg #[.int .i64 x.f.func, .int .i64 x.f.pc, .slice x.A x.f.locals.length x.c], .agg #[.int .i64 y.f.func, .int .i64 y.f.pc, .slice y.A y.f.locals.length y.c]] w
      fun e w' => e = .returned (.bool (decide (x.f = y.f))) ∧ Below w.heap.size w w' := by
  have hcon := fun o1 o2 => equal_any x.f.locals y.f.locals ((w.alloc o1).alloc o2) B1 B2 x.A y.A x.f.locals.length y.f.locals.length x.c y.c (h1.keep fun p hp => (((Below.refl w.heap.size w).alloc (Nat.le_refl _) o1).alloc (by simp) o2).cell (by omega)) (h2.keep fun p hp => (((Below.refl w.heap.size w).alloc (Nat.le_refl _) o1).alloc (by simp) o2).cell (by omega)) hn1 hn2
  have hend : ∀ o1 o2 d, Below w.heap.size w (((w.alloc o1).alloc o2).drewN d) := fun o1 o2 d => below_drews (((Below.refl w.heap.size w).alloc (Nat.le_refl _) o1).alloc (by simp) o2) d
  have HCON := Lib.hid hcon; have HEND := Lib.hid hend
  clear h1 h2 hcon hend
  obtain ⟨⟨xf, xp, xl⟩, xA, xc⟩ := x
  obtain ⟨⟨yf, yp, yl⟩, yA, yc⟩ := y
  simp only at hn1 hn2 ⊢
  by_cases e1 : xf = yf
  · subst e1
    by_cases e2 : xp = yp
    · subst e2
      have hv : decide ((⟨xf, xp, xl⟩ : FrV) = ⟨xf, xp, yl⟩) = decide (xl = yl) := by simp
      have HV := Lib.hid hv
      clear hv
      go_enter Try.func47, Try.ntmps47
      go_wp2_with fail
      refine (HCON.out _ _).mono ?_
      rintro e w1 ⟨rfl, d, rfl⟩
      go_wp2_with fail
      go_ret
      exact ⟨ret_bool HV.out.symm, HEND.out _ _ d⟩
    · have HV := Lib.hid e2
      have hb : (xp == yp) = false := by simpa using e2
      clear e2
      go_enter Try.func47, Try.ntmps47
      go_wp2_with fail
      go_ret
      exact ⟨ret_bool (by simp [HV.out]), HEND.out _ _ 0⟩
  · have HV := Lib.hid e1
    have hb : (xf == yf) = false := by simpa using e1
    clear e1
    go_enter Try.func47, Try.ntmps47
    go_wp2_with fail
    go_ret
    exact ⟨ret_bool (by simp [HV.out]), HEND.out _ _ 0⟩
end Go.Proofs.Ytbgdgfnbdipjkaa
