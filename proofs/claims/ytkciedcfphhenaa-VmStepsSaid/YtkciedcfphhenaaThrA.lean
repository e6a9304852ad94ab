
/-
  The small calls on rows: own, cut, Keep; of the program and of the document.
-/
import Derived.Test.YtkciedcfphhenaaThrM
import Derived.Test.YtkciedcfphhenaaPrB
import Derived.OwnWalk
import Derived.ArgAppend
set_option linter.unusedVariables false
set_option linter.unusedSimpArgs false
namespace Go.Proofs.Ytkciedcfphhenaa
open Go.RowKit Plain

theorem info_frame : (Try.prog.info? 67).map (fun i => (i.zero, i.size, i.bytes)) = some (some (.agg #[.int .i64 0, .int .i64 0, .slice none 0 0]), 3, 40) := by kernel_rfl

theorem own_ints (l : List Int) (w : World) (B : Nat) (A : Option Addr) (n c : Nat) (hr : RI w B A n c l) (hB : B ≤ w.heap.size) (hn : n ≤ 17592186044416) :
    Calls Try.prog 86 #[.slice A n c] w fun e w' => ∃ A' c', e = .returned (.slice A' n c') ∧ w'.ownsRow w.heap.size 3 1 (.slice A' n c') n (IS l) ∧ Below w.heap.size w w' := by
  obtain ⟨i0, hi0, hz0, hz1, hz2⟩ := info_parts info_int
  obtain ⟨h1, h2, h3⟩ := hr
  have HR := Lib.hid h3
  clear h3
  go_enter Try.func86, Try.ntmps86
  go_wp2_with (at_builtin; go_must (refine wpList_append_any _ rfl (.const (.slice none 0 0)) (.tmp 3) _ rfl w.heap.size 3 i0 _ 1 8 Try.underlying23 hi0 hz0 hz1 hz2 rfl (by decide) (.slice none 0 0) 0 [] rfl (World.ownsRow_nil _ _ _ _) B A n c (IS l) rfl HR.out (IS_one _) ?c1 ?c2 (Nat.le_refl _) ?k))
  case c1 => unfold maxLen; omega
  case c2 => omega
  case k =>
  intro v' w' hown hg hat
  obtain ⟨A', c', rfl, _, _⟩ := own_slice hown
  have hb : Below w.heap.size w w' := (Fr.of_grown hg).below (Nat.le_refl _) (fun i h => by simp [Value.ownBlock] at h)
  have HO := Lib.hid hown
  have HB := Lib.hid hb
  clear hown hg hat hb
  go_wp2_with fail
  go_ret
  exact ⟨_, _, rfl, HO.out, HB.out⟩

theorem own_frames (ts : List TFr) (w : World) (B : Nat) (A : Option Addr) (n c : Nat) (hr : Reads w B 3 A n (FrS ts)) (hB : B ≤ w.heap.size) (hn : n ≤ 3518437208883) :
    Calls Try.prog 100 #[.slice A n c] w fun e w' => ∃ A' c', e = .returned (.slice A' n c') ∧ w'.ownsRow w.heap.size 67 3 (.slice A' n c') n (FrS ts) ∧ Below w.heap.size w w' := by
  obtain ⟨i0, hi0, hz0, hz1, hz2⟩ := info_parts info_frame
  have HR := Lib.hid hr
  clear hr
  go_enter Try.func100, Try.ntmps100
  go_wp2_with (at_builtin; go_must (refine wpList_append_any _ rfl (.const (.slice none 0 0)) (.tmp 3) _ rfl w.heap.size 67 i0 _ 3 40 Try.underlying27 hi0 hz0 hz1 hz2 rfl (by decide) (.slice none 0 0) 0 [] rfl (World.ownsRow_nil _ _ _ _) B A n c (FrS ts) rfl HR.out (FrS_one _) ?c1 ?c2 (Nat.le_refl _) ?k))
  case c1 => unfold maxLen; omega
  case c2 => omega
  case k =>
  intro v' w' hown hg hat
  obtain ⟨A', c', rfl, _, _⟩ := own_slice hown
  have hb : Below w.heap.size w w' := (Fr.of_grown hg).below (Nat.le_refl _) (fun i h => by simp [Value.ownBlock] at h)
  have HO := Lib.hid hown
  have HB := Lib.hid hb
  clear hown hg hat hb
  go_wp2_with fail
  go_ret
  exact ⟨_, _, rfl, HO.out, HB.out⟩

theorem cut_ints (A : Option Addr) (n c k : Nat) (w : World) (hk : k ≤ c) :
    Calls Try.prog 101 #[.slice A n c, .int .i64 (k : Int)] w fun e w' => e = .returned (.slice A k k) ∧ w' = w := by
  go_enter Try.func101, Try.ntmps101
  go_wp2_with fail
  go_ret
  exact ⟨rfl, rfl⟩
theorem cut_frames (A : Option Addr) (n c k : Nat) (w : World) (hk : k ≤ c) :
    Calls Try.prog 103 #[.slice A n c, .int .i64 (k : Int)] w fun e w' => e = .returned (.slice A k k) ∧ w' = w := by
  go_enter Try.func103, Try.ntmps103
  go_wp2_with fail
  go_ret
  exact ⟨rfl, rfl⟩
theorem keep_any (n : Int) (w : World) : Calls Try.prog 94 #[.int .i64 n] w fun e w' => e = .returned (.int .i64 (keep n)) ∧ w' = w := by
  go_enter Try.func94, Try.ntmps94
  go_wp2_with fail
  all_goals
    go_ret
    exact ⟨ret_int (by unfold keep; first | omega | (split <;> (try split) <;> omega)), rfl⟩
theorem refKeep_any (n : Int) (w : World) : Calls Try.prog 24 #[.int .i64 n] w fun e w' => e = .returned (.int .i64 (keep n)) ∧ w' = w := by
  go_enter Try.func24, Try.ntmps24
  go_wp2_with fail
  all_goals
    go_ret
    exact ⟨ret_int (by unfold keep; first | omega | (split <;> (try split) <;> omega)), rfl⟩
end Go.Proofs.Ytkciedcfphhenaa
