/-
  The helpers of layer 1's statements: which width is meant, whether bytes are the same, the document's example, the first so many.
-/
import Derived.Test.YtmmajdabifeceaaWriter
import Derived.Deep.QuietTactic
import Derived.BigQuiet
namespace Go.Proofs.Ytmmajdabifeceaa
open Go.RowKit Plain

def wideAt (m : Int) : Nat := if m = 0 then 1 else if m = 1 then 2 else if m = 2 then 4 else 8
def wideOf (a : Int) : Nat := wideAt ((if a < 0 then -(a + 1) else a) % 4)
theorem wideOf_wide (a : Int) : Wide (wideOf a) := by
  unfold wideOf wideAt Wide
  repeat' split
  all_goals simp

theorem wide_any (a : Int) (w : World) (h1 : -9223372036854775808 ≤ a) (h2 : a ≤ 9223372036854775807) :
    Calls Try.prog 20 #[.int .i64 a] w fun e w' => e = .returned (.int .i64 (wideOf a : Int)) ∧ w.alloc (.cells #[.int .i64 1, .int .i64 2, .int .i64 4, .int .i64 8] 3) = w' := by
  by_cases h : a < 0
  · rw [show wideOf a = wideAt (-(a + 1) % 4) by rw [wideOf, if_pos h]]
    have ht : (a + 1).tmod 4 = -(-(a + 1) % 4) := by
      rw [show (a + 1).tmod 4 = -((-(a + 1)).tmod 4) by rw [Int.neg_tmod, Int.neg_neg], Int.tmod_eq_emod_of_nonneg (by omega)]
    have h4 : -(a + 1) % 4 = 0 ∨ -(a + 1) % 4 = 1 ∨ -(a + 1) % 4 = 2 ∨ -(a + 1) % 4 = 3 := by omega
    rcases h4 with h4 | h4 | h4 | h4
    all_goals
      rw [h4] at ht ⊢
      clear h4
      go_enter Try.func20, Try.ntmps20
      go_wp2_with fail
      go_ret
      exact ⟨rfl, rfl⟩
  · rw [show wideOf a = wideAt (a % 4) by rw [wideOf, if_neg h]]
    have h4 : a % 4 = 0 ∨ a % 4 = 1 ∨ a % 4 = 2 ∨ a % 4 = 3 := by omega
    rcases h4 with h4 | h4 | h4 | h4
    all_goals
      rw [h4]
      go_enter Try.func20, Try.ntmps20
      go_wp2_with fail
      go_ret
      exact ⟨rfl, rfl⟩

set_option maxHeartbeats 400000 in
theorem same_yes (xs : List Nat) (n : Nat) (hl : xs.length = n) (w : World) (BB CC : Nat) (A A' : Option Addr) (c c' : Nat) (ha : Reads w BB 1 A n (BS xs)) (hb : Reads w CC 1 A' n (BS xs)) (hn : n ≤ 140737488355328) :
    Calls Try.prog 11 #[.slice A n c, .slice A' n c'] w fun e w' => e = .returned (.bool true) ∧ ∃ k, w' = w.drewN k := by
  have HA := Lib.hid ha
  have HB := Lib.hid hb
  clear ha hb
  go_enter Try.func11, Try.ntmps11
  go_wp2_with fail
  go_loopw [5] (fun s wr => ∃ k d : Nat, k ≤ n ∧ s = .int .i64 (k : Int) ∧ wr = w.drewN d) (fun s _ => n - (intOf s).toNat)
  case atStart =>
    exact ⟨0, 0, by omega, rfl, rfl⟩
  case round =>
    obtain ⟨k, d, hk, rfl, rfl⟩ := hrel
    by_cases hlt : k < n
    · obtain ⟨ad, u, rfl, _, hu, hcell⟩ := HA.out.at_ hlt
      obtain ⟨ad', u', rfl, _, hu', hcell'⟩ := HB.out.at_ hlt
      rw [hu] at hu'
      injection hu' with hu'
      subst hu'
      obtain ⟨x, hx⟩ : ∃ x : Nat, u = .int .u8 (x : Int) := by
        simp [BS, B] at hu
        obtain ⟨x, _, rfl⟩ := hu
        exact ⟨x, rfl⟩
      subst hx
      clear hu
      go_wp2_with fail
      go_quiet (fail)
      go_wp2_with fail
      exact ⟨⟨k + 1, _, by omega, by go_num, rfl⟩, by simp [intOf]; omega⟩
    · go_wp2_with fail
      go_ret
      exact ⟨rfl, d, rfl⟩

/-- Three bytes that were just laid. -/
theorem reads_three (w : World) (x y z : Nat) (t : TypeId) : Reads (w.alloc (.cells #[.int .u8 (x : Int), .int .u8 (y : Int), .int .u8 (z : Int)] t)) (w.heap.size + 1) 1 (some ⟨w.heap.size, 0, none⟩) 3 (BS [x, y, z]) :=
  ⟨by simp [BS], fun _ => ⟨_, rfl, by simp, fun j u hj => by
    match j, hj with
    | 0, hj => simp [BS, B] at hj; subst hj; simp [Addr.add]
    | 1, hj => simp [BS, B] at hj; subst hj; simp [Addr.add]
    | 2, hj => simp [BS, B] at hj; subst hj; simp [Addr.add]⟩⟩

/-- What Bytes told reads as its bytes. -/
theorem reads_own {w : World} {base : Nat} {v : Value} {n : Nat} {xs : List Value} (h : w.ownsRow base 5 1 v n xs) : ∃ A c, v = .slice A n c ∧ Reads w w.heap.size 1 A n xs := by
  rcases h.2 with ⟨rfl, rfl⟩ | ⟨k, cap, _, rfl, _⟩
  · exact ⟨none, 0, rfl, Reads.of_own h⟩
  · exact ⟨_, cap, rfl, Reads.of_own h⟩

theorem live_bytes1 : [] ++ shortL (Int.toNat 300) = [172, 2] := by rw [show Int.toNat 300 = 300 from rfl, shortL_big (by omega), shortL_small (by omega)]; rfl
theorem live_bytes2 : [172, 2] ++ shortL (zig (min (max (-1) (-2305843009213693952)) 2305843009213693951)) = [172, 2, 1] := by
  rw [show zig (min (max (-1) (-2305843009213693952)) 2305843009213693951) = 1 by decide, shortL_small (by omega)]; rfl

set_option maxHeartbeats 400000 in
theorem lives_any (w : World) : Calls Try.prog 12 #[] w fun e w' => e = .returned (.bool true) ∧ Below w.heap.size w w' := by
  have hw0 := Wr.new w w.heap.size
  have HW := Lib.hid hw0
  clear hw0
  go_enter Try.func12, Try.ntmps12
  go_wp2_with fail
  refine (short_any _ _ _ _ 300 _ HW.out (by omega) (by simp) (by simp)).mono ?_
  rintro e w1 ⟨rfl, v1, hw1, hf1, _⟩
  rw [live_bytes1] at hw1
  have hb1 := HW.out.step (Nat.le_refl _) hf1
  have z1 := hb1.size
  simp at z1
  clear hf1
  go_wp2_with fail
  refine (signed_any _ _ _ _ (-1) _ hw1 (by omega) (by omega) (by simp) (by omega)).mono ?_
  rintro e w2 ⟨rfl, v2, hw2, hf2, _⟩
  rw [live_bytes2] at hw2
  have hb2 := hw1.step (Nat.le_refl _) hf2
  have z2 := hb2.size
  clear hf2
  go_wp2_with fail
  refine (bytes_any _ _ _ _ _ hw2 (by simp)).mono ?_
  rintro e w3 ⟨v3, rfl, hown3, hb3⟩
  obtain ⟨A, c, rfl, hr3⟩ := reads_own hown3
  have hw3 := hw2.below hb3
  have z3 := hb3.size
  clear hown3
  simp only [List.length_cons, List.length_nil] at hr3
  go_wp2_with fail
  refine (same_yes [172, 2, 1] 3 rfl _ _ _ _ _ _ _ (hr3.alloc (Nat.le_refl _) _) (reads_three w3 172 2 1 _) (by omega)).mono ?_
  rintro e w4 ⟨rfl, k, rfl⟩
  go_wp2_with fail
  refine (len_any _ _ _ _ _ ((hw3.alloc _).drewN k)).mono ?_
  rintro e w5 ⟨rfl, rfl⟩
  go_wp2_with fail
  go_ret
  refine ⟨rfl, ?_⟩
  exact below_drews (((((Below.refl _ _).alloc (Nat.le_refl _) _).trans hb1).trans hb2 |>.trans (hb3.mono (by omega))).alloc (by omega) _) k

theorem len_at (base g : Nat) (v : Value) (bs : List Nat) (n : Nat) (hl : bs.length = n) (w : World) (hW : Wr w base g v bs) :
    Calls Try.prog 32 #[.pointer (some ⟨g, 0, none⟩)] w fun e w' => e = .returned (.int .i64 (n : Int)) ∧ w = w' := by
  subst hl
  exact len_any base g v bs w hW
end Go.Proofs.Ytmmajdabifeceaa
