
/-
  What a Writer's Fixed, Signed, Text, Len and Bytes do.
-/
import Derived.Test.YtmjbfobjndiecaaShort
import Derived.Laws.IdiomStrings
namespace Go.Proofs.Ytmjbfobjndiecaa
open Go.RowKit Plain

/-- The widths that a number may have. -/
def Wide (n : Nat) : Prop := n = 1 ∨ n = 2 ∨ n = 4 ∨ n = 8

theorem isWidth_yes (n : Nat) (w : World) (h : Wide n) : Calls Try.prog 90 #[.int .i64 (n : Int)] w fun e w' => e = .returned (.bool true) ∧ w = w' := by
  rcases h with rfl | rfl | rfl | rfl
  all_goals
    go_enter Try.func90, Try.ntmps90
    go_wp2_with fail
    go_ret
    exact ⟨rfl, rfl⟩

/-- Where the loop of Fixed stands: k bytes are put. -/
def FixedRel (base g : Nat) (v : Value) (bs : List Nat) (a n : Nat) (w : World) (x s : Value) (wr : World) : Prop :=
  ∃ (k m : Nat) (pre : List Nat), k ≤ n ∧ s = .int .i64 (k : Int) ∧ x = .int .u64 (m : Int) ∧ m ≤ 18446744073709551615 ∧ pre.length = k ∧ pre ++ fixedL m (n - k) = fixedL a n ∧ WStep base g v (bs ++ pre) w wr

set_option maxHeartbeats 400000 in
theorem fixed_any (base g : Nat) (v : Value) (bs : List Nat) (a n : Nat) (w : World) (hW : Wr w base g v bs) (ha : a ≤ 18446744073709551615) (hw : Wide n)
    (hn : bs.length + 8 ≤ 140737488355328) (hbase : base ≤ w.heap.size) :
    Calls Try.prog 67 #[.pointer (some ⟨g, 0, none⟩), .int .u64 (a : Int), .int .i64 (n : Int)] w fun e w' => e = .returned (.tuple #[]) ∧ WStep base g v (bs ++ fixedL a n) w w' := by
  have HW := Lib.hid hW
  have Hw := Lib.hid hw
  have HA := Lib.hid ha
  have h8 : n ≤ 8 := by rcases hw with rfl | rfl | rfl | rfl <;> omega
  clear hW hw ha
  go_enter Try.func67, Try.ntmps67
  go_wp2_with fail
  refine (isWidth_yes n _ Hw.out).mono ?_
  rintro e w' ⟨rfl, rfl⟩
  go_wp2_with fail
  go_loopw [1, 10] (fun x s wr => FixedRel base g v bs a n w x s wr) (fun _ s _ => n - (intOf s).toNat)
  case atStart =>
    exact ⟨0, a, [], by omega, rfl, rfl, HA.out, rfl, rfl, by simpa using WStep.refl HW.out⟩
  case round =>
    obtain ⟨k, m, pre, hk, rfl, rfl, hm, hpl, hpre, hst⟩ := hrel
    have HP := Lib.hid hpre
    have HL := Lib.hid hpl
    have HM := Lib.hid hm
    clear hpre hpl hm
    by_cases hlt : k < n
    · obtain ⟨v1, hw1, hf1, ho1⟩ := hst
      have HB : Hid (pre.length + 1 ≤ 8) := by have := HL.out; show pre.length + 1 ≤ 8; omega
      go_wp2_with fail
      refine (raw_one base g v1 (bs ++ pre) _ wr hw1 (by omega) (by have := HB.out; simp; omega) (by have := hf1.size; omega)).mono ?_
      rintro e w' ⟨rfl, hq⟩
      go_wp2_with fail
      refine ⟨⟨k + 1, m / 256, pre ++ [m % 256], by omega, by go_num, rfl, by have := HM.out; omega, by simp [HL.out], ?_, ?_⟩, ?_⟩
      · rw [← HP.out, show n - k = (n - (k + 1)) + 1 by omega]
        simp [fixedL]
      · rw [show ((m : Int) % 256).toNat = m % 256 by omega, List.append_assoc] at hq
        exact WStep.trans hf1 ho1 hq
      · simp [intOf]; omega
    · go_wp2_with fail
      go_end0
      obtain rfl : k = n := by omega
      have := HP.out
      rw [Nat.sub_self] at this
      simp only [fixedL, List.append_nil] at this
      exact ⟨rfl, this ▸ hst⟩

theorem own_any (xs : List Nat) (w : World) (BB : Nat) (A : Option Addr) (c : Nat) (hr : Reads w BB 1 A xs.length (BS xs)) (hn : xs.length ≤ 140737488355328) :
    Calls Try.prog 70 #[.slice A xs.length c] w fun e w' => ∃ v, e = .returned v ∧ w'.ownsRow w.heap.size 5 1 v xs.length (BS xs) ∧ Below w.heap.size w w' := by
  obtain ⟨i0, hi0, hz0, hz1, hz2⟩ := info_parts info_byte
  go_enter Try.func70, Try.ntmps70
  go_wp2_with (at_builtin; go_must (refine wpList_append_any _ rfl (.const (.slice none 0 0)) (.tmp 3) _ rfl w.heap.size 5 i0 _ 1 1 Try.underlying29 hi0 hz0 hz1 hz2 rfl (by decide) (.slice none 0 0) 0 [] rfl (World.ownsRow_nil _ _ _ _) BB A xs.length c (BS xs) rfl hr (BS_one _) ?c1 ?c2 (Nat.le_refl _) ?k))
  case c1 => unfold maxLen; omega
  case c2 => omega
  case k =>
  intro v' w1 hown1 hg1 hat1
  go_wp2_with fail
  go_ret
  refine ⟨v', rfl, by simpa using hown1, (Below.refl _ _).grown hg1 (Nat.le_refl _) (by simp [Value.ownBlock])⟩

theorem own_at (xs : List Nat) (n : Nat) (hl : xs.length = n) (w : World) (BB : Nat) (A : Option Addr) (c : Nat) (hr : Reads w BB 1 A n (BS xs)) (hn : n ≤ 140737488355328) :
    Calls Try.prog 70 #[.slice A n c] w fun e w' => ∃ v, e = .returned v ∧ w'.ownsRow w.heap.size 5 1 v n (BS xs) ∧ Below w.heap.size w w' := by
  subst hl
  exact own_any xs w BB A c hr hn

theorem bytes_any (base g : Nat) (v : Value) (bs : List Nat) (w : World) (hW : Wr w base g v bs) (hn : bs.length ≤ 140737488355328) :
    Calls Try.prog 33 #[.pointer (some ⟨g, 0, none⟩)] w fun e w' => ∃ v', e = .returned v' ∧ w'.ownsRow w.heap.size 5 1 v' bs.length (BS bs) ∧ Below w.heap.size w w' := by
  have hc : w.cell? ⟨g, 0, none⟩ = some v := by rw [hW.1.cell]; rfl
  have hr : Reads w w.heap.size 1 (match v with | .slice A _ _ => A | _ => none) bs.length (BS bs) := by
    obtain ⟨A, c, rfl⟩ := hW.slice_
    exact Reads.of_own hW.2
  obtain ⟨A, c, rfl⟩ := hW.slice_
  go_enter Try.func33, Try.ntmps33
  go_wp2_with fail
  refine (own_any bs w _ A c hr hn).mono ?_
  rintro e w' ⟨v', rfl, h1, h2⟩
  go_wp2_with fail
  go_ret
  exact ⟨v', rfl, h1, h2⟩

/-- Where a signed number's two ways meet: the short number that is put. -/
def zig (a : Int) : Nat := if a < 0 then (2 * (-1 - a) + 1).toNat else (2 * a).toNat

set_option maxHeartbeats 400000 in
theorem signed_any (base g : Nat) (v : Value) (bs : List Nat) (a : Int) (w : World) (hW : Wr w base g v bs) (ha : -9223372036854775808 ≤ a) (ha' : a ≤ 9223372036854775807)
    (hn : bs.length + 9 ≤ 140737488355328) (hbase : base ≤ w.heap.size) :
    Calls Try.prog 68 #[.pointer (some ⟨g, 0, none⟩), .int .i64 a] w fun e w' => e = .returned (.tuple #[]) ∧ WStep base g v (bs ++ shortL (zig (min (max a (-2305843009213693952)) 2305843009213693951))) w w' := by
  by_cases h : a < 0
  · by_cases hlo : a < -2305843009213693952
    · obtain hz : min (max a (-2305843009213693952)) 2305843009213693951 = -2305843009213693952 := by omega
      rw [hz, show zig (-2305843009213693952) = (4611686018427387903 : Int).toNat by unfold zig; split <;> omega]
      clear hz
      go_enter Try.func68, Try.ntmps68
      go_wp2_with fail
      refine (short_any base g v bs _ w hW (by omega) hn hbase).mono ?_
      rintro e w' ⟨rfl, hq⟩
      go_wp2_with fail
      refine bodyPost_ret (results_none rfl _ _ _) rfl ?_
      exact ⟨rfl, hq⟩
    · obtain hz : min (max a (-2305843009213693952)) 2305843009213693951 = a := by omega
      rw [hz, show zig (a) = (2 * (-1 - a) + 1 : Int).toNat by unfold zig; split <;> omega]
      clear hz
      go_enter Try.func68, Try.ntmps68
      go_wp2_with fail
      refine (short_any base g v bs _ w hW (by omega) hn hbase).mono ?_
      rintro e w' ⟨rfl, hq⟩
      go_wp2_with fail
      refine bodyPost_ret (results_none rfl _ _ _) rfl ?_
      exact ⟨rfl, hq⟩
  · by_cases hhi : 2305843009213693951 < a
    · obtain hz : min (max a (-2305843009213693952)) 2305843009213693951 = 2305843009213693951 := by omega
      rw [hz, show zig (2305843009213693951) = (4611686018427387902 : Int).toNat by unfold zig; split <;> omega]
      clear hz
      go_enter Try.func68, Try.ntmps68
      go_wp2_with fail
      refine (short_any base g v bs _ w hW (by omega) hn hbase).mono ?_
      rintro e w' ⟨rfl, hq⟩
      go_wp2_with fail
      go_end0
      exact ⟨rfl, hq⟩
    · obtain hz : min (max a (-2305843009213693952)) 2305843009213693951 = a := by omega
      rw [hz, show zig (a) = (2 * a : Int).toNat by unfold zig; split <;> omega]
      clear hz
      go_enter Try.func68, Try.ntmps68
      go_wp2_with fail
      refine (short_any base g v bs _ w hW (by omega) hn hbase).mono ?_
      rintro e w' ⟨rfl, hq⟩
      go_wp2_with fail
      go_end0
      exact ⟨rfl, hq⟩

end Go.Proofs.Ytmjbfobjndiecaa
