
/-
  The document's own bytes of a fixed number, a short number, a signed one and a text, as the statements reckon them.
-/
import Derived.Test.YtmjbfobjndiecaaPuts
namespace Go.Proofs.Ytmjbfobjndiecaa
open Go.RowKit Plain


def RefShortRel (w : World) (a : Nat) (s o : Value) (wr : World) : Prop :=
  ∃ (m : Nat) (pre : List Nat) (A : Option Addr) (c : Nat), s = .int .i64 (m : Int) ∧ o = .slice A pre.length c ∧ m ≤ 9223372036854775807 ∧ pre ++ shortL m = shortL a ∧ Made w.heap.size pre (.slice A pre.length c) w wr

theorem wr_below {a b c : World} {B : Nat} (h : Below B a b) (g : Below B b c) : Below B a c := h.trans g

set_option maxRecDepth 100000 in
set_option maxHeartbeats 1000000 in
theorem ref_short_nat (a : Nat) (w : World) (ha : a ≤ 9223372036854775807) :
    Calls Try.prog 39 #[.int .i64 (a : Int)] w fun e w' => ∃ A c, e = .returned (.slice A (shortL a).length c) ∧ Made w.heap.size (shortL a) (.slice A (shortL a).length c) w w' := by
  have H9 := Lib.hid (shortL_nine ha)
  obtain ⟨i0, hi0, hz0, hz1, hz2⟩ := info_parts info_byte
  go_enter Try.func39, Try.ntmps39
  go_wp2_with fail
  go_loopw [0, 3] (fun s o wr => RefShortRel w a s o wr) (fun s _ _ => (intOf s).toNat)
  case atStart => exact ⟨a, [], none, 0, rfl, rfl, ha, rfl, World.ownsRow_nil _ _ _ _, Below.refl _ _⟩
  case round =>
    obtain ⟨m, pre, A, c, rfl, rfl, hm, hpre, hown, hbel⟩ := hrel
    have HP := Lib.hid hpre
    have HO := Lib.hid hown
    have HB := Lib.hid hbel
    have zr := hbel.size
    have hlen : pre.length + (shortL m).length ≤ 9 := by rw [← List.length_append, HP.out]; exact H9.out
    have hpos := shortL_pos m
    clear hpre hown hbel
    by_cases hlt : 128 ≤ m
    · go_wp2_with (at_builtin; go_must (refine wpList_append_any _ rfl (.tmp 8) (.tmp 13) _ rfl w.heap.size 5 i0 _ 1 1 Try.underlying29 hi0 hz0 hz1 hz2 rfl (by decide) (.slice A pre.length c) pre.length (BS pre) rfl (HO.out.alloc _) (wr.heap.size + 1) (some ⟨wr.heap.size, 0, none⟩) 1 1 (BS [128 + m % 128]) rfl ?c0 (BS_one _) ?c1 ?c2 ?c3 ?k))
      case c0 =>
        have := reads_one wr (128 + m % 128) 5
        rwa [show (((128 + m % 128 : Nat) : Int)) = (128 + (m : Int) % 128) by omega] at this
      case c1 => unfold maxLen; omega
      case c2 => omega
      case c3 => simp; omega
      case k =>
      intro v' w1 hown1 hg1 _
      obtain ⟨A', c', rfl, _⟩ := reads_own hown1
      rw [BS_append] at hown1
      have HO1 := Lib.hid hown1
      have HG1 := Lib.hid hg1
      clear hown1 hg1
      go_wp2_with fail
      refine ⟨⟨m / 128, pre ++ [128 + m % 128], A', c', by go_num, by rw [List.length_append]; rfl, by omega, ?_, ?_, ?_⟩, by simp [intOf]; omega⟩
      · rw [← HP.out, shortL_big (n := m) (by omega)]; simp
      · rw [List.length_append]; exact HO1.out
      · exact (HB.out.alloc zr _).grown HG1.out (by simp; omega) (fun k hk => (HO.out.lt k hk).1)
    · go_wp2_with (at_builtin; go_must (refine wpList_append_any _ rfl (.tmp 17) (.tmp 20) _ rfl w.heap.size 5 i0 _ 1 1 Try.underlying29 hi0 hz0 hz1 hz2 rfl (by decide) (.slice A pre.length c) pre.length (BS pre) rfl (HO.out.alloc _) (wr.heap.size + 1) (some ⟨wr.heap.size, 0, none⟩) 1 1 (BS [m]) rfl (reads_one wr m _) (BS_one _) ?c1 ?c2 ?c3 ?k))
      case c1 => unfold maxLen; omega
      case c2 => omega
      case c3 => simp; omega
      case k =>
      intro v' w1 hown1 hg1 _
      obtain ⟨A', c', rfl, _⟩ := reads_own hown1
      rw [BS_append, ← shortL_small (n := m) (by omega), HP.out] at hown1
      have hn1 : pre.length + 1 = (shortL a).length := by
        have := congrArg List.length HP.out
        rw [List.length_append, shortL_small (n := m) (by omega)] at this
        exact this
      have HO1 := Lib.hid hown1
      have HG1 := Lib.hid hg1
      have HN1 := Lib.hid hn1
      clear hown1 hg1 hn1
      go_wp2_with fail
      go_ret
      refine ⟨A', c', by rw [← HN1.out]; rfl, by rw [← HN1.out]; exact HO1.out, (HB.out.alloc zr _).grown HG1.out (by simp; omega) (fun k hk => (HO.out.lt k hk).1)⟩

set_option maxRecDepth 100000 in
set_option maxHeartbeats 1000000 in
theorem ref_short_neg (a : Int) (w : World) (ha : a < 0) :
    Calls Try.prog 39 #[.int .i64 a] w fun e w' => ∃ A c, e = .returned (.slice A 1 c) ∧ Made w.heap.size [0] (.slice A 1 c) w w' := by
  obtain ⟨i0, hi0, hz0, hz1, hz2⟩ := info_parts info_byte
  go_enter Try.func39, Try.ntmps39
  go_wp2_with fail
  refine wp_loop_rounds 1 ?_
  rw [rounds_succ]
  go_wp2_with (at_builtin; go_must (refine wpList_append_any _ rfl (.tmp 17) (.tmp 20) _ rfl w.heap.size 5 i0 _ 1 1 Try.underlying29 hi0 hz0 hz1 hz2 rfl (by decide) (.slice none 0 0) 0 [] rfl (World.ownsRow_nil _ _ _ _) (w.heap.size + 1) (some ⟨w.heap.size, 0, none⟩) 1 1 (BS [0]) rfl (reads_one w 0 _) (BS_one _) ?c1 ?c2 ?c3 ?k))
  case c1 => unfold maxLen; omega
  case c2 => omega
  case c3 => simp
  case k =>
  intro v' w1 hown1 hg1 _
  obtain ⟨A', c', rfl, _⟩ := reads_own hown1
  have HO1 := Lib.hid hown1
  have HG1 := Lib.hid hg1
  clear hown1 hg1
  go_wp2_with fail
  go_ret
  exact ⟨A', c', rfl, HO1.out, ((Below.refl _ w).alloc (Nat.le_refl _) _).grown HG1.out (by simp) (by simp [Value.ownBlock])⟩

theorem ref_short (a : Int) (w : World) (ha : a ≤ 9223372036854775807) :
    Calls Try.prog 39 #[.int .i64 a] w fun e w' => ∃ A c, e = .returned (.slice A (shortL a.toNat).length c) ∧ Made w.heap.size (shortL a.toNat) (.slice A (shortL a.toNat).length c) w w' := by
  by_cases h : a < 0
  · rw [show a.toNat = 0 by omega, shortL_small (by omega)]
    exact ref_short_neg a w h
  · obtain ⟨n, rfl⟩ := Int.eq_ofNat_of_zero_le (show 0 ≤ a by omega)
    exact ref_short_nat n w (by omega)

def clampZ (a : Int) : Int := min (max a (-2305843009213693952)) 2305843009213693951

set_option maxRecDepth 100000 in
set_option maxHeartbeats 1000000 in
theorem ref_signed (a : Int) (w : World) (ha : -9223372036854775808 ≤ a) (ha' : a ≤ 9223372036854775807) :
    Calls Try.prog 40 #[.int .i64 a] w fun e w' => ∃ A c, e = .returned (.slice A (shortL (zig (clampZ a))).length c) ∧ Made w.heap.size (shortL (zig (clampZ a))) (.slice A (shortL (zig (clampZ a))).length c) w w' := by
  unfold clampZ
  by_cases h : a < 0
  · by_cases hlo : a < -2305843009213693952
    · obtain hz : min (max a (-2305843009213693952)) 2305843009213693951 = -2305843009213693952 := by omega
      rw [hz, show zig (-2305843009213693952) = (4611686018427387903 : Int).toNat by unfold zig; split <;> omega]
      clear hz
      go_enter Try.func40, Try.ntmps40
      go_wp2_with fail
      refine (ref_short 4611686018427387903 w (by omega)).mono ?_
      rintro e w' ⟨A, c, rfl, hq⟩
      go_wp2_with fail
      go_ret
      exact ⟨A, c, rfl, hq⟩
    · obtain hz : min (max a (-2305843009213693952)) 2305843009213693951 = a := by omega
      rw [hz, show zig a = (2 * (-(a + 1)) + 1 : Int).toNat by unfold zig; split <;> omega]
      clear hz
      go_enter Try.func40, Try.ntmps40
      go_wp2_with fail
      refine (ref_short (2 * -(a + 1) + 1) w (by omega)).mono ?_
      rintro e w' ⟨A, c, rfl, hq⟩
      go_wp2_with fail
      go_ret
      exact ⟨A, c, rfl, hq⟩
  · by_cases hhi : 2305843009213693951 < a
    · obtain hz : min (max a (-2305843009213693952)) 2305843009213693951 = 2305843009213693951 := by omega
      rw [hz, show zig 2305843009213693951 = (4611686018427387902 : Int).toNat by unfold zig; split <;> omega]
      clear hz
      go_enter Try.func40, Try.ntmps40
      go_wp2_with fail
      refine (ref_short 4611686018427387902 w (by omega)).mono ?_
      rintro e w' ⟨A, c, rfl, hq⟩
      go_wp2_with fail
      go_ret
      exact ⟨A, c, rfl, hq⟩
    · obtain hz : min (max a (-2305843009213693952)) 2305843009213693951 = a := by omega
      rw [hz, show zig a = (2 * a : Int).toNat by unfold zig; split <;> omega]
      clear hz
      go_enter Try.func40, Try.ntmps40
      go_wp2_with fail
      refine (ref_short (2 * a) w (by omega)).mono ?_
      rintro e w' ⟨A, c, rfl, hq⟩
      go_wp2_with fail
      go_ret
      exact ⟨A, c, rfl, hq⟩

def RefFixedRel (w : World) (a n : Nat) (x o s : Value) (wr : World) : Prop :=
  ∃ (k m : Nat) (pre : List Nat) (A : Option Addr) (c : Nat), k ≤ n ∧ s = .int .i64 (k : Int) ∧ x = .int .u64 (m : Int) ∧ o = .slice A pre.length c ∧ m ≤ 18446744073709551615 ∧ pre.length = k ∧ pre ++ fixedL m (n - k) = fixedL a n ∧ Made w.heap.size pre (.slice A pre.length c) w wr

end Go.Proofs.Ytmjbfobjndiecaa
