/-
  The document's own reader, as the statements reckon it: a struct of bytes, a place and an error, by value.
-/
import Derived.Test.YtnhibnjgdkpomaaRdNo
import Derived.Laws.ResultCell
namespace Go.Proofs.Ytnhibnjgdkpomaa
open Go.RowKit Plain

/-- The document's reader as a value. -/
def RV (A : Option Addr) (n c at_ : Nat) (e : Int) : Value := .agg #[.slice A n c, .int .i64 (at_ : Int), .int .i64 e]

set_option maxHeartbeats 400000 in
theorem ref_left (bs : List Nat) (n c at_ : Nat) (A : Option Addr) (e : Int) (w : World) (BB : Nat) (hr : Reads w BB 1 A n (BS bs)) (hnc : n ≤ c) (hat : at_ ≤ n) (hn : n ≤ 140737488355328) :
    Calls Try.prog 55 #[.agg #[.slice A n c, .int .i64 (at_ : Int), .int .i64 e]] w fun en w' => ∃ A' c', en = .returned (.slice A' (n - at_) c') ∧ Reads w BB 1 A' (n - at_) (BS (bs.drop at_)) ∧ n - at_ ≤ c' ∧ Below w.heap.size w w' := by
  have hcut := hr.cut (k := at_) (cap := c) hat hnc
  simp only [Nat.mul_one] at hcut
  rw [show (BS bs).drop at_ = BS (bs.drop at_) by simp [BS]] at hcut
  by_cases hca : c = at_
  · obtain rfl : n = at_ := by omega
    subst hca
    rw [if_pos rfl] at hcut
    have HC := Lib.hid hcut
    clear hcut hr
    go_enter Try.func55, Try.ntmps55
    go_wp2_with fail
    go_ret
    exact ⟨A, _, by rw [Nat.sub_self]; rfl, HC.out, by omega, (Below.refl _ _).alloc (Nat.le_refl _) _⟩
  · rw [if_neg hca] at hcut
    have HC := Lib.hid hcut
    clear hcut hr
    go_enter Try.func55, Try.ntmps55
    go_wp2_with fail
    go_ret
    exact ⟨_, _, rfl, HC.out, by omega, (Below.refl _ _).alloc (Nat.le_refl _) _⟩

set_option maxHeartbeats 400000 in
theorem ref_fail (n c at_ : Nat) (A : Option Addr) (e e' : Int) (w : World) :
    Calls Try.prog 56 #[.agg #[.slice A n c, .int .i64 (at_ : Int), .int .i64 e], .int .i64 e'] w fun en w' => en = .returned (.agg #[.slice A n c, .int .i64 (at_ : Int), .int .i64 e']) ∧ Below w.heap.size w w' := by
  go_enter Try.func56, Try.ntmps56
  go_wp2_with fail
  refine bodyPost_ret (v := .agg #[.slice A n c, .int .i64 (at_ : Int), .int .i64 e']) (by simp [results, Try.results56, go_sem]) rfl ⟨rfl, ?_⟩
  exact ((Below.refl _ _).alloc (Nat.le_refl _) _).alloc (by simp) _

set_option maxHeartbeats 400000 in
/-- Raw of the document's reader, where it has an error, or of n below 0. -/
theorem ref_raw_stop (n c at_ : Nat) (A : Option Addr) (e x : Int) (w : World) (h : e ≠ 0 ∨ x < 0) :
    Calls Try.prog 45 #[.agg #[.slice A n c, .int .i64 (at_ : Int), .int .i64 e], .int .i64 x] w fun en w' => en = .returned (.tuple #[.agg #[.slice A n c, .int .i64 (at_ : Int), .int .i64 e], .slice none 0 0]) ∧ Below w.heap.size w w' := by
  by_cases he : e = 0
  · have hx : x < 0 := by omega
    subst he
    clear h
    go_enter Try.func45, Try.ntmps45
    go_wp2_with fail
    refine bodyPost_ret (v := .tuple #[.agg #[.slice A n c, .int .i64 (at_ : Int), .int .i64 0], .slice none 0 0]) (by simp [results, Try.results45, go_sem]) rfl ⟨rfl, ?_⟩
    exact ((Below.refl _ _).alloc (Nat.le_refl _) _).alloc (by simp) _
  · have he' : (e != 0) = true := by simpa using he
    clear h he
    go_enter Try.func45, Try.ntmps45
    go_wp2_with fail
    refine bodyPost_ret (v := .tuple #[.agg #[.slice A n c, .int .i64 (at_ : Int), .int .i64 e], .slice none 0 0]) (by simp [results, Try.results45, go_sem]) rfl ⟨rfl, ?_⟩
    exact ((Below.refl _ _).alloc (Nat.le_refl _) _).alloc (by simp) _

set_option maxHeartbeats 1000000 in
/-- Raw of the document's reader, of bytes that are there. -/
theorem ref_raw_yes (bs : List Nat) (n c at_ m : Nat) (A : Option Addr) (w : World) (BB : Nat) (hr : Reads w BB 1 A n (BS bs)) (hB : BB ≤ w.heap.size) (hnc : n ≤ c) (hn : n ≤ 140737488355328) (hm : at_ + m ≤ n) :
    Calls Try.prog 45 #[.agg #[.slice A n c, .int .i64 (at_ : Int), .int .i64 0], .int .i64 (m : Int)] w fun en w' => ∃ A' c', en = .returned (.tuple #[.agg #[.slice A n c, .int .i64 ((at_ : Int) + (m : Int)), .int .i64 0], .slice A' m c']) ∧
      Reads w BB 1 A' m (BS ((bs.drop at_).take m)) ∧ m ≤ c' ∧ Below w.heap.size w w' := by
  have HR := Lib.hid hr
  clear hr
  go_enter Try.func45, Try.ntmps45
  go_wp2_with fail
  have hr1 := ((HR.out.alloc hB (.cells #[.slice A n c, .int .i64 (at_ : Int), .int .i64 0] 34)).alloc (by simp; omega) (.cells #[.slice none 0 0, .int .i64 0, .int .i64 0] 34))
  refine (ref_left bs n c at_ A 0 _ BB hr1 hnc (by omega) hn).mono ?_
  rintro e w1 ⟨A', c', rfl, h2, h3, h4⟩
  have HC := Lib.hid ((h2.keep (w' := w) (fun q hq => by rw [World.cell?_alloc_lt _ _ _ (by simp; omega), World.cell?_alloc_lt _ _ _ (by omega)])).take (show m ≤ n - at_ by omega))
  have HC1 := Lib.hid ((h2.more (B' := ((w.alloc (.cells #[.slice A n c, .int .i64 (at_ : Int), .int .i64 0] 34)).alloc (.cells #[.slice none 0 0, .int .i64 0, .int .i64 0] 34)).heap.size) (by simp; omega)).below h4)
  have hk0 : Blk w1 w.heap.size 34 #[.slice A n c, .int .i64 (at_ : Int), .int .i64 0] := Blk.below ((Blk.new w _ _).alloc _) h4 (by simp; omega)
  have hk1 : Blk w1 (w.heap.size + 1) 34 #[.slice none 0 0, .int .i64 0, .int .i64 0] := Blk.below (by simpa using Blk.new (w.alloc (.cells #[.slice A n c, .int .i64 (at_ : Int), .int .i64 0] 34)) _ _) h4 (by simp)
  have z1 : w.heap.size + 1 < w1.heap.size := by have := h4.size; simp at this; omega
  have HB := Lib.hid ((((Below.refl _ w).alloc (Nat.le_refl _) (.cells #[.slice A n c, .int .i64 (at_ : Int), .int .i64 0] 34)).alloc (by simp) (.cells #[.slice none 0 0, .int .i64 0, .int .i64 0] 34)).trans (h4.mono (Nat.le_trans (Nat.le_succ _) (by simp))))
  have a0 : w1.cell? ⟨w.heap.size, 0, none⟩ = some (.slice A n c) := by rw [hk0.cell]; rfl
  have a1 : w1.cell? ⟨w.heap.size, 1, none⟩ = some (.int .i64 (at_ : Int)) := by rw [hk0.cell]; rfl
  have a2 : w1.cell? ⟨w.heap.size, 2, none⟩ = some (.int .i64 0) := by rw [hk0.cell]; rfl
  have b0 : w1.cell? ⟨w.heap.size + 1, 0, none⟩ = some (.slice none 0 0) := by rw [hk1.cell]; rfl
  have b1 : w1.cell? ⟨w.heap.size + 1, 1, none⟩ = some (.int .i64 0) := by rw [hk1.cell]; rfl
  have b2 : w1.cell? ⟨w.heap.size + 1, 2, none⟩ = some (.int .i64 0) := by rw [hk1.cell]; rfl
  have f1 := hk0.frozen 1
  have g0 := hk1.frozen 0
  have g1 := hk1.frozen 1
  have g2 := hk1.frozen 2
  clear h2 hr1 h4 hk0 hk1
  have hmc : m ≤ c' := by omega
  go_wp2_with fail
  go_region
  all_goals go_wp2_with fail
  refine bodyPost_ret (v := .tuple #[.agg #[.slice A n c, .int .i64 ((at_ : Int) + (m : Int)), .int .i64 0], .slice A' m c']) (by simp [results, Try.results45, go_sem, b0, b1, b2]) rfl ⟨A', c', rfl, HC.out, hmc, ?_⟩
  repeat (first | exact HB.out | refine Below.drew ?_ | (refine Below.setCell ?_ (by simp) _))

/-- The two boxes of a call that takes, and hands back, the document's reader. -/
theorem boxes {w w1 : World} {cs ds : Array Value} (h : Below ((w.alloc (.cells cs 34)).alloc (.cells ds 34)).heap.size ((w.alloc (.cells cs 34)).alloc (.cells ds 34)) w1) :
    Blk w1 w.heap.size 34 cs ∧ Blk w1 (w.heap.size + 1) 34 ds ∧ w.heap.size + 1 < w1.heap.size ∧ Below w.heap.size w w1 :=
  ⟨Blk.below ((Blk.new w _ _).alloc _) h (by simp; omega), Blk.below (by simpa using Blk.new (w.alloc (.cells cs 34)) 34 ds) h (by simp), by have := h.size; simp at this; omega,
    (((Below.refl _ w).alloc (Nat.le_refl _) _).alloc (by simp) _).trans (h.mono (Nat.le_trans (Nat.le_succ _) (by simp)))⟩

set_option maxHeartbeats 1000000 in
/-- Raw of the document's reader, of more bytes than there are. -/
theorem ref_raw_no (bs : List Nat) (n c at_ : Nat) (x : Int) (A : Option Addr) (w : World) (BB : Nat) (hr : Reads w BB 1 A n (BS bs)) (hB : BB ≤ w.heap.size) (hnc : n ≤ c) (hn : n ≤ 140737488355328) (hat : at_ ≤ n) (hx : (n : Int) < at_ + x) :
    Calls Try.prog 45 #[.agg #[.slice A n c, .int .i64 (at_ : Int), .int .i64 0], .int .i64 x] w fun en w' => en = .returned (.tuple #[.agg #[.slice A n c, .int .i64 (at_ : Int), .int .i64 2], .slice none 0 0]) ∧ Below w.heap.size w w' := by
  have HR := Lib.hid hr
  have hx0 : 0 ≤ x := by omega
  clear hr
  go_enter Try.func45, Try.ntmps45
  go_wp2_with fail
  have hr1 := ((HR.out.alloc hB (.cells #[.slice A n c, .int .i64 (at_ : Int), .int .i64 0] 34)).alloc (by simp; omega) (.cells #[.slice none 0 0, .int .i64 0, .int .i64 0] 34))
  refine (ref_left bs n c at_ A 0 _ BB hr1 hnc hat hn).mono ?_
  rintro e w1 ⟨A', c', rfl, _, h3, h4⟩
  obtain ⟨hk0, hk1, z1, hb1⟩ := boxes h4
  have a0 : w1.cell? ⟨w.heap.size, 0, none⟩ = some (.slice A n c) := by rw [hk0.cell]; rfl
  have a1 : w1.cell? ⟨w.heap.size, 1, none⟩ = some (.int .i64 (at_ : Int)) := by rw [hk0.cell]; rfl
  have a2 : w1.cell? ⟨w.heap.size, 2, none⟩ = some (.int .i64 0) := by rw [hk0.cell]; rfl
  have HB1 := Lib.hid hb1
  have HK1 := Lib.hid hk1
  clear hr1 h4 hk0 hk1 hb1
  go_wp2_with fail
  refine (ref_fail n c at_ A 0 2 w1).mono ?_
  rintro e w2 ⟨rfl, h5⟩
  have hk2 := HK1.out.below h5 HK1.out.lt
  have z2 := h5.size
  have b0 : w2.cell? ⟨w.heap.size + 1, 0, none⟩ = some (.slice none 0 0) := by rw [hk2.cell]; rfl
  have b1 : w2.cell? ⟨w.heap.size + 1, 1, none⟩ = some (.int .i64 0) := by rw [hk2.cell]; rfl
  have b2 : w2.cell? ⟨w.heap.size + 1, 2, none⟩ = some (.int .i64 0) := by rw [hk2.cell]; rfl
  have g0 := hk2.frozen 0
  have g1 := hk2.frozen 1
  have g2 := hk2.frozen 2
  have HB2 := Lib.hid (HB1.out.trans (h5.mono (show w.heap.size ≤ w1.heap.size by omega)))
  clear h5 hk2 a0 a1 a2
  go_wp2_with fail
  refine bodyPost_ret (v := .tuple #[.agg #[.slice A n c, .int .i64 (at_ : Int), .int .i64 2], .slice none 0 0]) (by simp [results, Try.results45, go_sem, b0, b1, b2]) rfl ⟨rfl, ?_⟩
  repeat (first | exact HB2.out | refine Below.drew ?_ | (refine Below.setCell ?_ (by simp) _))
end Go.Proofs.Ytnhibnjgdkpomaa
