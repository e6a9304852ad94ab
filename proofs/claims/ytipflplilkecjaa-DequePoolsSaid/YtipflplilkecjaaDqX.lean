
/-
  cut, New, NewPool: deques that are made.
-/
import Derived.Test.YtipflplilkecjaaDqT
import Derived.WalkLawsBesides
set_option linter.unusedVariables false
set_option linter.unusedSimpArgs false
namespace Go.Proofs.Ytipflplilkecjaa
open Go.RowKit Plain

namespace Plain
/-- How many a deque has room for that is asked for so many. -/
def clampD (n : Int) : Nat := (min (max n 1) 8).toNat
theorem clampD_le (n : Int) : 1 ≤ clampD n ∧ clampD n ≤ 8 := by unfold clampD; omega
def clampW (n : Int) : Nat := (min (max n 1) 64).toNat
theorem clampW_le (n : Int) : 1 ≤ clampW n ∧ clampW n ≤ 64 := by unfold clampW; omega
end Plain
theorem info_dq : (Try.prog.info? 74).map (fun i => (i.zero, i.size, i.bytes)) = some (some (.agg #[.slice none 0 0, .int .i64 0]), 2, 32) := by kernel_rfl
theorem blk_of_full2 {w : World} {base n g size : Nat} {e : TypeId} {xs : List Value} (h : w.ownsRow base e size (.slice (some ⟨g, 0, none⟩) n n) n xs) : Blk w g e xs.toArray := by
  rcases h.2 with ⟨h0, _⟩ | ⟨g', cap, cur, h0, _, hh, _, _, hcs, ht⟩
  · cases h0
  · injection h0 with h1 h2 h3
    injection h1 with h1
    injection h1 with h1
    subst h1 h3
    rw [List.take_of_length_le (by simp; omega)] at ht
    subst ht
    simpa [Blk] using hh

set_option maxRecDepth 100000 in
set_option maxHeartbeats 2000000 in
theorem cutD (many room : Nat) (rm : Int) (w : World) (h1 : 1 ≤ many) (h2 : many ≤ 64) (hr : clampD rm = room) (hb : -9223372036854775808 ≤ rm) (hb2 : rm ≤ 9223372036854775807) :
    Calls Try.prog 29 #[.int .i64 (many : Int), .int .i64 rm] w fun e w' => ∃ d s, e = .returned (.slice (some ⟨d, 0, none⟩) many many) ∧ Dqs w' d s room (List.replicate many []) ∧ w.heap.size ≤ d ∧ w.heap.size ≤ s ∧ Below w.heap.size w w' := by
  obtain ⟨i0, hi0, hz0, hz1, hz2⟩ := info_parts info_int
  obtain ⟨j0, hj0, hy0, hy1, hy2⟩ := info_parts info_dq
  have hcl := clampD_le rm
  rw [hr] at hcl
  have hmax : ∀ W, (Builtin.max_ #[3, 3] 3 #[.int .i64 rm, .int .i64 1]).run Try.prog W = .ok (.int .i64 (max rm 1)) W := by
    intro W
    rw [run_max_int2]
    simp only [Int.max_def]
    split <;> split <;> first | rfl | (congr 2; omega)
  have hmin : ∀ W, (Builtin.min_ #[3, 3] 3 #[.int .i64 (max rm 1), .int .i64 8]).run Try.prog W = .ok (.int .i64 (room : Int)) W := by
    intro W
    rw [run_min_int2, ← hr]
    unfold clampD
    simp only [Int.max_def, Int.min_def]
    split <;> split <;> first | rfl | (congr 2; omega)
  clear hr
  obtain ⟨mr, hmr⟩ : ∃ mr, mr = many * room := ⟨_, rfl⟩
  have hmr2 : mr ≤ 512 := by rw [hmr]; exact Nat.mul_le_mul h2 hcl.2
  have hmul : IntKind.i64.wrap ((many : Int) * (room : Int)) = (mr : Int) := by
    have : (many : Int) * (room : Int) = (mr : Int) := by rw [hmr]; push_cast; rfl
    rw [this, IntWalk.i64_in _ (by omega)]
  have HMR := Lib.hid hmr
  clear hmr
  go_enter Try.func29, Try.ntmps29
  go_wp2_with (with_reducible refine wpList_make_full _ rfl (.tmp 14) (.tmp 14) _ rfl w.heap.size 3 i0 _ 1 Try.underlying26 hi0 hz0 hz1 _ _ _ _ mr rfl rfl rfl rfl (by rw [hz2]; omega) (by unfold maxLen; omega) (Nat.le_refl _) ?c5)
  case c5 =>
  intro w1 hown hg
  rw [made_one] at hown
  have hs := blk_of_full hown
  have hb1 : Below w.heap.size w w1 := (Below.refl _ _).grown hg (Nat.le_refl _) (by simp)
  have hz1 := hg.size
  have hlt := hs.lt
  have HS := Lib.hid hs; have HB1 := Lib.hid hb1
  clear hs hg hown hb1
  go_wp2_with (with_reducible refine wpList_make_full _ rfl (.tmp 16) (.tmp 16) _ rfl w1.heap.size 74 j0 _ 2 Try.underlying57 hj0 hy0 hy1 _ _ _ _ many rfl rfl rfl rfl (by rw [hy2]; omega) (by unfold maxLen; omega) (Nat.le_refl _) ?c6)
  case c6 =>
  intro w2 hown hg
  have hlc := hown.1
  have hd := blk_of_full2 hown
  have hs2 := HS.out.grown hg (by simp)
  have hb2 := HB1.out.grown hg HB1.out.size (by simp)
  have hz2 := hg.size
  have hlt2 := hd.lt
  obtain ⟨cs0, hcs0⟩ : ∃ cs, cs = (madeCells #[Value.slice none 0 0, Value.int .i64 0] (many * 2)).toList := ⟨_, rfl⟩
  rw [← hcs0] at hd hlc
  have HD := Lib.hid hd; have HS2 := Lib.hid hs2; have HB2 := Lib.hid hb2; have HLC := Lib.hid hlc
  have hds : ¬ w1.heap.size = w.heap.size := by omega
  have hsd : ¬ w.heap.size = w1.heap.size := by omega
  clear hd hs2 hb2 hg hown hcs0 HS HB1 hlc hmax hmin hmul
  go_wp2_with fail
  go_loopw [20] (fun s20 wr => ∃ k : Nat, k ≤ many ∧ s20 = .int .i64 (k : Int) ∧ (∃ cs : List Value, Hid (cs.length = many * 2 ∧ Blk wr w1.heap.size 74 cs.toArray ∧ (∀ j, j < k → cs[j * 2]? = some (.slice (some ⟨w.heap.size, j * room, none⟩) 0 room) ∧ cs[j * 2 + 1]? = some (.int .i64 (room : Int)))) ) ∧ Hid (Blk wr w.heap.size 3 (List.replicate mr (.int .i64 0)).toArray ∧ Below w.heap.size w wr)) (fun s20 _ => many - (intOf s20).toNat)
  case atStart => exact ⟨0, by omega, rfl, ⟨cs0, Lib.hid ⟨HLC.out, HD.out, fun j hj => by omega⟩⟩, Lib.hid ⟨HS2.out, HB2.out⟩⟩
  case round =>
    clear HD HS2 HB2 HLC
    obtain ⟨k, hk, rfl, ⟨cs, HC⟩, HB⟩ := hrel
    by_cases hlt : k < many
    · have hkr : k * room + room ≤ mr := by
        rw [HMR.out]
        have : (k + 1) * room ≤ many * room := Nat.mul_le_mul_right _ hlt
        rw [Nat.add_mul] at this
        omega
      obtain ⟨q, hq⟩ : ∃ q, q = k * room := ⟨_, rfl⟩
      have hmul : IntKind.i64.wrap ((k : Int) * (room : Int)) = (q : Int) := by
        have : (k : Int) * (room : Int) = (q : Int) := by rw [hq]; push_cast; rfl
        rw [this, IntWalk.i64_in _ (by omega)]
      rw [← hq] at hkr
      have hadd : IntKind.i64.wrap ((q : Int) + (room : Int)) = ((q + room : Nat) : Int) := by rw [IntWalk.i64_in _ (by omega)]; omega
      have HQ := Lib.hid hq
      have hx0 : ∃ v, wr.cell? ⟨w1.heap.size, k * 2, none⟩ = some v := ⟨cs[k * 2]'(by have := HC.out.1; omega), by rw [HC.out.2.1.cell, List.getElem?_toArray]; exact List.getElem?_eq_getElem _⟩
      have hx1 : ∃ v, wr.cell? ⟨w1.heap.size, k * 2 + 1, none⟩ = some v := ⟨cs[k * 2 + 1]'(by have := HC.out.1; omega), by rw [HC.out.2.1.cell, List.getElem?_toArray]; exact List.getElem?_eq_getElem _⟩
      obtain ⟨v0, hx0⟩ := hx0
      obtain ⟨v1, hx1⟩ := hx1
      have z0 : wr.frozen? ⟨w1.heap.size, k * 2, none⟩ = false := HC.out.2.1.frozen _
      have z1 : wr.frozen? ⟨w1.heap.size, k * 2 + 1, none⟩ = false := HC.out.2.1.frozen _
      have i1 : (0 : Int) ≤ (q : Int) := by omega
      have i2 : (q : Int) ≤ ((q + room : Nat) : Int) := by omega
      have i3 : q + room ≤ mr := hkr
      have i4 : ¬ mr = q := by omega
      have i5 : ((q + room : Nat) : Int) ≤ (mr : Int) := by omega
      have i6 : q + room - q = room := by omega
      have i7 : ¬ q + room = q := by omega
      clear hq
      go_wp2_with fail
      have hb' := (HC.out.2.1.set_ (k * 2) (.slice (some ⟨w.heap.size, q, none⟩) 0 room)).set_ (k * 2 + 1) (.int .i64 (room : Int))
      have hf := ((Fr.refl (fun i => i = w1.heap.size) wr).setCell (p := ⟨w1.heap.size, k * 2, none⟩) (.inl rfl) (.slice (some ⟨w.heap.size, q, none⟩) 0 room)).setCell (p := ⟨w1.heap.size, k * 2 + 1, none⟩) (.inl rfl) (.int .i64 (room : Int))
      refine ⟨⟨k + 1, by omega, by go_num, ⟨(cs.set (k * 2) (.slice (some ⟨w.heap.size, q, none⟩) 0 room)).set (k * 2 + 1) (.int .i64 (room : Int)), Lib.hid ⟨by simpa using HC.out.1, by simpa using hb', fun j hj => ?_⟩⟩, Lib.hid ⟨hf.blk HB.out.1 hsd, HB.out.2.trans (hf.below HB.out.2.size (fun i hi => by omega))⟩⟩, by simp [intOf]; omega⟩
      by_cases hjk : j = k
      · subst hjk
        have := HC.out.1
        rw [List.getElem?_set_ne (by omega), List.getElem?_set_self (by omega), List.getElem?_set_self (by simp; omega), ← HQ.out]
        exact ⟨rfl, rfl⟩
      · rw [List.getElem?_set_ne (by omega), List.getElem?_set_ne (by omega), List.getElem?_set_ne (by omega), List.getElem?_set_ne (by omega)]
        exact HC.out.2.2 j (by omega)
    · obtain rfl : k = many := by omega
      go_wp2_with fail
      go_ret
      refine ⟨_, _, rfl, ⟨⟨cs, by simpa using HC.out.1, HC.out.2.1, fun i l hi => ?_⟩, ⟨List.replicate mr 0, by simp [HMR.out], by simpa using HB.out.1, fun i l hi j x hx => ?_⟩, fun i l hi => ?_, hcl.1, hcl.2, by simpa using h2, by omega⟩, by omega, Nat.le_refl _, HB.out.2⟩
      · have hik := (List.getElem?_eq_some_iff.1 hi).1
        simp at hik
        rw [List.getElem?_replicate_of_lt hik] at hi
        injection hi with hi
        subst hi
        exact HC.out.2.2 i hik
      · have hik := (List.getElem?_eq_some_iff.1 hi).1
        simp at hik
        rw [List.getElem?_replicate_of_lt hik] at hi
        injection hi with hi
        subst hi
        simp at hx
      · have hik := (List.getElem?_eq_some_iff.1 hi).1
        simp at hik
        rw [List.getElem?_replicate_of_lt hik] at hi
        injection hi with hi
        subst hi
        simp

set_option maxHeartbeats 1000000 in
theorem newD (room : Nat) (rm : Int) (w : World) (hr : clampD rm = room) (hb : -9223372036854775808 ≤ rm) (hb2 : rm ≤ 9223372036854775807) :
    Calls Try.prog 13 #[.int .i64 rm] w fun e w' => ∃ d s, e = .returned (.pointer (some ⟨d, 0, none⟩)) ∧ Dqs w' d s room [[]] ∧ w.heap.size ≤ d ∧ w.heap.size ≤ s ∧ Below w.heap.size w w' := by
  have hq := cutD 1 room rm w (by omega) (by omega) hr hb hb2
  have HQ := Lib.hid hq
  clear hq
  go_enter Try.func13, Try.ntmps13
  go_wp2_with fail
  refine HQ.out.mono ?_
  rintro e w' ⟨d, s, rfl, h1, h2, h3, h4⟩
  go_wp2_with fail
  go_ret
  exact ⟨d, s, rfl, h1, h2, h3, h4⟩
end Go.Proofs.Ytipflplilkecjaa
