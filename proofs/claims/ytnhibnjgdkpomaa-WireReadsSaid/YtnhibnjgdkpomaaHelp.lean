/-
  The helpers of layer 1's statements: which width is meant, whether bytes are the same, the document's example, the first so many.
-/
import Derived.Test.YtnhibnjgdkpomaaWriter
import Derived.Test.YtnhibnjgdkpomaaSame
import Derived.Deep.QuietTactic
import Derived.BigQuiet
namespace Go.Proofs.Ytnhibnjgdkpomaa
open Go.RowKit Plain

def wideAt (m : Int) : Nat := if m = 0 then 1 else if m = 1 then 2 else if m = 2 then 4 else 8
def wideOf (a : Int) : Nat := wideAt ((if a < 0 then -(a + 1) else a) % 4)
theorem wideOf_wide (a : Int) : Wide (wideOf a) := by
  unfold wideOf wideAt Wide
  repeat' split
  all_goals simp

theorem wide_any (a : Int) (w : World) (h1 : -9223372036854775808 ≤ a) (h2 : a ≤ 9223372036854775807) :
    Calls Try.prog 20 #[.int .i64 a] w fun e w' => e = .returned (.int .i64 (wideOf a : Int)) ∧ w.alloc (.cells #[.int .i64 1, .int .i64 2, .int .i64 4, .int .i64 8] 3) = w' := by
  by_cases h : a < 0
  · rw [show wideOf a = wideAt (-(a + 1) % 4) by rw [wideOf, if_pos h]]
    have ht : (a + 1).tmod 4 = -(-(a + 1) % 4) := by
      rw [show (a + 1).tmod 4 = -((-(a + 1)).tmod 4) by rw [Int.neg_tmod, Int.neg_neg], Int.tmod_eq_emod_of_nonneg (by omega)]
    have h4 : -(a + 1) % 4 = 0 ∨ -(a + 1) % 4 = 1 ∨ -(a + 1) % 4 = 2 ∨ -(a + 1) % 4 = 3 := by omega
    rcases h4 with h4 | h4 | h4 | h4
    all_goals
      rw [h4] at ht ⊢
      clear h4
      go_enter Try.func20, Try.ntmps20
      go_wp2_with fail
      go_ret
      exact ⟨rfl, rfl⟩
  · rw [show wideOf a = wideAt (a % 4) by rw [wideOf, if_neg h]]
    have h4 : a % 4 = 0 ∨ a % 4 = 1 ∨ a % 4 = 2 ∨ a % 4 = 3 := by omega
    rcases h4 with h4 | h4 | h4 | h4
    all_goals
      rw [h4]
      go_enter Try.func20, Try.ntmps20
      go_wp2_with fail
      go_ret
      exact ⟨rfl, rfl⟩

theorem live_bytes1 : [] ++ shortL (Int.toNat 300) = [172, 2] := by rw [show Int.toNat 300 = 300 from rfl, shortL_big (by omega), shortL_small (by omega)]; rfl
theorem live_bytes2 : [172, 2] ++ shortL (zig (min (max (-1) (-2305843009213693952)) 2305843009213693951)) = [172, 2, 1] := by
  rw [show zig (min (max (-1) (-2305843009213693952)) 2305843009213693951) = 1 by decide, shortL_small (by omega)]; rfl

set_option maxHeartbeats 400000 in
theorem lives_any (w : World) : Calls Try.prog 12 #[] w fun e w' => e = .returned (.bool true) ∧ Below w.heap.size w w' := by
  have hw0 := Wr.new w w.heap.size
  have HW := Lib.hid hw0
  clear hw0
  go_enter Try.func12, Try.ntmps12
  go_wp2_with fail
  refine (short_any _ _ _ _ 300 _ HW.out (by omega) (by simp) (by simp)).mono ?_
  rintro e w1 ⟨rfl, v1, hw1, hf1, _⟩
  rw [live_bytes1] at hw1
  have hb1 := HW.out.step (Nat.le_refl _) hf1
  have z1 := hb1.size
  simp at z1
  clear hf1
  go_wp2_with fail
  refine (signed_any _ _ _ _ (-1) _ hw1 (by omega) (by omega) (by simp) (by omega)).mono ?_
  rintro e w2 ⟨rfl, v2, hw2, hf2, _⟩
  rw [live_bytes2] at hw2
  have hb2 := hw1.step (Nat.le_refl _) hf2
  have z2 := hb2.size
  clear hf2
  go_wp2_with fail
  refine (bytes_any _ _ _ _ _ hw2 (by simp)).mono ?_
  rintro e w3 ⟨v3, rfl, hown3, hb3⟩
  obtain ⟨A, c, rfl, hr3⟩ := reads_own hown3
  have hw3 := hw2.below hb3
  have z3 := hb3.size
  clear hown3
  simp only [List.length_cons, List.length_nil] at hr3
  go_wp2_with fail
  refine (same_yes [172, 2, 1] 3 rfl _ _ _ _ _ _ _ (hr3.alloc (Nat.le_refl _) _) (reads_three w3 172 2 1 _) (by omega)).mono ?_
  rintro e w4 ⟨rfl, k, rfl⟩
  go_wp2_with fail
  refine (len_any _ _ _ _ _ ((hw3.alloc _).drewN k)).mono ?_
  rintro e w5 ⟨rfl, rfl⟩
  go_wp2_with fail
  go_ret
  refine ⟨rfl, ?_⟩
  exact below_drews (((((Below.refl _ _).alloc (Nat.le_refl _) _).trans hb1).trans hb2 |>.trans (hb3.mono (by omega))).alloc (by omega) _) k

theorem len_at (base g : Nat) (v : Value) (bs : List Nat) (n : Nat) (hl : bs.length = n) (w : World) (hW : Wr w base g v bs) :
    Calls Try.prog 32 #[.pointer (some ⟨g, 0, none⟩)] w fun e w' => e = .returned (.int .i64 (n : Int)) ∧ w = w' := by
  subst hl
  exact len_any base g v bs w hW
end Go.Proofs.Ytnhibnjgdkpomaa
