
/-
  The small calls on rows: own, cut, Keep; of the program and of the document.
-/
import Derived.Test.YtbgdgfnbdipjkaaThrM
import Derived.Test.YtbgdgfnbdipjkaaPrB
import Derived.OwnWalk
import Derived.ArgAppend
set_option linter.unusedVariables false
set_option linter.unusedSimpArgs false
namespace Go.Proofs.Ytbgdgfnbdipjkaa
open Go.RowKit Plain

theorem info_frame : (Try.prog.info? 34).map (fun i => (i.zero, i.size, i.bytes)) = some (some (.agg #[.int .i64 0, .int .i64 0, .slice none 0 0]), 3, 40) := by kernel_rfl

theorem own_ints (l : List Int) (w : World) (B : Nat) (A : Option Addr) (n c : Nat) (hr : RI w B A n c l) (hB : B ≤ w.heap.size) (hn : n ≤ 17592186044416) :
    Calls Try.prog 51 #[.slice A n c] w fun e w' => ∃ A' c', e = .returned (.slice A' n c') ∧ w'.ownsRow w.heap.size 3 1 (.slice A' n c') n (IS l) ∧ Below w.heap.size w w' := by
  obtain ⟨i0, hi0, hz0, hz1, hz2⟩ := info_parts info_int
  obtain ⟨h1, h2, h3⟩ := hr
  have HR := Lib.hid h3
  clear h3
  go_enter Try.func51, Try.ntmps51
  go_wp2_with (at_builtin; go_must (refine wpList_append_any _ rfl (.const (.slice none 0 0)) (.tmp 3) _ rfl w.heap.size 3 i0 _ 1 8 Try.underlying23 hi0 hz0 hz1 hz2 rfl (by decide) (.slice none 0 0) 0 [] rfl (World.ownsRow_nil _ _ _ _) B A n c (IS l) rfl HR.out (IS_one _) ?c1 ?c2 (Nat.le_refl _) ?k))
  case c1 => unfold maxLen; omega
  case c2 => omega
  case k =>
  intro v' w' hown hg hat
  obtain ⟨A', c', rfl, _, _⟩ := own_slice hown
  have hb : Below w.heap.size w w' := (Fr.of_grown hg).below (Nat.le_refl _) (fun i h => by simp [Value.ownBlock] at h)
  have HO := Lib.hid hown
  have HB := Lib.hid hb
  clear hown hg hat hb
  go_wp2_with fail
  go_ret
  exact ⟨_, _, rfl, HO.out, HB.out⟩

theorem own_frames (ts : List TFr) (w : World) (B : Nat) (A : Option Addr) (n c : Nat) (hr : Reads w B 3 A n (FrS ts)) (hB : B ≤ w.heap.size) (hn : n ≤ 3518437208883) :
    Calls Try.prog 72 #[.slice A n c] w fun e w' => ∃ A' c', e = .returned (.slice A' n c') ∧ w'.ownsRow w.heap.size 34 3 (.slice A' n c') n (FrS ts) ∧ Below w.heap.size w w' := by
  obtain ⟨i0, hi0, hz0, hz1, hz2⟩ := info_parts info_frame
  have HR := Lib.hid hr
  clear hr
  go_enter Try.func72, Try.ntmps72
  go_wp2_with (at_builtin; go_must (refine wpList_append_any _ rfl (.const (.slice none 0 0)) (.tmp 3) _ rfl w.heap.size 34 i0 _ 3 40 Try.underlying27 hi0 hz0 hz1 hz2 rfl (by decide) (.slice none 0 0) 0 [] rfl (World.ownsRow_nil _ _ _ _) B A n c (FrS ts) rfl HR.out (FrS_one _) ?c1 ?c2 (Nat.le_refl _) ?k))
  case c1 => unfold maxLen; omega
  case c2 => omega
  case k =>
  intro v' w' hown hg hat
  obtain ⟨A', c', rfl, _, _⟩ := own_slice hown
  have hb : Below w.heap.size w w' := (Fr.of_grown hg).below (Nat.le_refl _) (fun i h => by simp [Value.ownBlock] at h)
  have HO := Lib.hid hown
  have HB := Lib.hid hb
  clear hown hg hat hb
  go_wp2_with fail
  go_ret
  exact ⟨_, _, rfl, HO.out, HB.out⟩

theorem cut_ints (A : Option Addr) (n c k : Nat) (w : World) (hk : k ≤ c) :
    Calls Try.prog 73 #[.slice A n c, .int .i64 (k : Int)] w fun e w' => e = .returned (.slice A k k) ∧ w' = w := by
  go_enter Try.func73, Try.ntmps73
  go_wp2_with fail
  go_ret
  exact ⟨rfl, rfl⟩
theorem cut_frames (A : Option Addr) (n c k : Nat) (w : World) (hk : k ≤ c) :
    Calls Try.prog 118 #[.slice A n c, .int .i64 (k : Int)] w fun e w' => e = .returned (.slice A k k) ∧ w' = w := by
  go_enter Try.func118, Try.ntmps118
  go_wp2_with fail
  go_ret
  exact ⟨rfl, rfl⟩
theorem keep_any (n : Int) (w : World) : Calls Try.prog 17 #[.int .i64 n] w fun e w' => e = .returned (.int .i64 (keep n)) ∧ w' = w := by
  go_enter Try.func17, Try.ntmps17
  go_wp2_with fail
  all_goals
    go_ret
    exact ⟨ret_int (by unfold keep; first | omega | (split <;> (try split) <;> omega)), rfl⟩
theorem refKeep_any (n : Int) (w : World) : Calls Try.prog 18 #[.int .i64 n] w fun e w' => e = .returned (.int .i64 (keep n)) ∧ w' = w := by
  go_enter Try.func18, Try.ntmps18
  go_wp2_with fail
  all_goals
    go_ret
    exact ⟨ret_int (by unfold keep; first | omega | (split <;> (try split) <;> omega)), rfl⟩
theorem swithin_any (n a b : Int) (w : World) : Calls Try.prog 37 #[.int .i64 n, .int .i64 a, .int .i64 b] w fun e w' => e = .returned (.bool (decide (a ≤ n) && decide (n ≤ b))) ∧ w' = w := by
  by_cases h : a ≤ n
  · go_enter Try.func37, Try.ntmps37
    go_wp2_with fail
    all_goals
      go_ret
      exact ⟨ret_bool (by first | (simp [h]; done) | (simp [h]; omega) | (simp; omega)), rfl⟩
  · go_enter Try.func37, Try.ntmps37
    go_wp2_with fail
    all_goals
      go_ret
      exact ⟨ret_bool (by first | (simp [h]; done) | (simp [h]; omega) | (simp; omega)), rfl⟩
theorem isKept_any (n : Int) (w : World) : Calls Try.prog 40 #[.int .i64 n] w fun e w' => e = .returned (.bool (isKept n)) ∧ w' = w := by
  have hk : (keep n == n) = isKept n := by
    rw [Bool.eq_iff_iff, isKept_iff, beq_iff_eq]
  have HK := Lib.hid hk
  clear hk
  go_enter Try.func40, Try.ntmps40
  go_wp2_with fail
  refine (keep_any n w).mono ?_
  rintro e w' ⟨rfl, rfl⟩
  go_wp2_with fail
  go_ret
  exact ⟨ret_bool HK.out, rfl⟩
end Go.Proofs.Ytbgdgfnbdipjkaa
