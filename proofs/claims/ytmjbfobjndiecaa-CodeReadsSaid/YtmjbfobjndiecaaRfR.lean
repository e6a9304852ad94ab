
/-
  RefRd, RefFx, RefSh, RefSg, RefTx, RefSt in one text.
-/
import Derived.Test.YtmjbfobjndiecaaRdB
import Derived.Laws.ResultCell
import Derived.Test.YtmjbfobjndiecaaRef
import Derived.Test.YtmjbfobjndiecaaRsJ
set_option linter.unusedVariables false
set_option linter.unusedSimpArgs false
namespace Go.Proofs.Ytmjbfobjndiecaa
section
open Go.RowKit Plain

/-- The document's reader as a value. -/
def RV (A : Option Addr) (n c at_ : Nat) (e : Int) : Value := .agg #[.slice A n c, .int .i64 (at_ : Int), .int .i64 e]

set_option maxHeartbeats 400000 in
theorem ref_left (bs : List Nat) (n c at_ : Nat) (A : Option Addr) (e : Int) (w : World) (BB : Nat) (hr : Reads w BB 1 A n (BS bs)) (hnc : n ≤ c) (hat : at_ ≤ n) (hn : n ≤ 140737488355328) :
    Calls Try.prog 87 #[.agg #[.slice A n c, .int .i64 (at_ : Int), .int .i64 e]] w fun en w' => ∃ A' c', en = .returned (.slice A' (n - at_) c') ∧ Reads w BB 1 A' (n - at_) (BS (bs.drop at_)) ∧ n - at_ ≤ c' ∧ Below w.heap.size w w' := by
  have hcut := hr.cut (k := at_) (cap := c) hat hnc
  simp only [Nat.mul_one] at hcut
  rw [show (BS bs).drop at_ = BS (bs.drop at_) by simp [BS]] at hcut
  by_cases hca : c = at_
  · obtain rfl : n = at_ := by omega
    subst hca
    rw [if_pos rfl] at hcut
    have HC := Lib.hid hcut
    clear hcut hr
    go_enter Try.func87, Try.ntmps87
    go_wp2_with fail
    go_ret
    exact ⟨A, _, by rw [Nat.sub_self]; rfl, HC.out, by omega, (Below.refl _ _).alloc (Nat.le_refl _) _⟩
  · rw [if_neg hca] at hcut
    have HC := Lib.hid hcut
    clear hcut hr
    go_enter Try.func87, Try.ntmps87
    go_wp2_with fail
    go_ret
    exact ⟨_, _, rfl, HC.out, by omega, (Below.refl _ _).alloc (Nat.le_refl _) _⟩

set_option maxHeartbeats 400000 in
theorem ref_fail (n c at_ : Nat) (A : Option Addr) (e e' : Int) (w : World) :
    Calls Try.prog 86 #[.agg #[.slice A n c, .int .i64 (at_ : Int), .int .i64 e], .int .i64 e'] w fun en w' => en = .returned (.agg #[.slice A n c, .int .i64 (at_ : Int), .int .i64 e']) ∧ Below w.heap.size w w' := by
  go_enter Try.func86, Try.ntmps86
  go_wp2_with fail
  refine bodyPost_ret (v := .agg #[.slice A n c, .int .i64 (at_ : Int), .int .i64 e']) (by simp [results, Try.results86, go_sem]) rfl ⟨rfl, ?_⟩
  exact ((Below.refl _ _).alloc (Nat.le_refl _) _).alloc (by simp) _

set_option maxHeartbeats 400000 in
/-- Raw of the document's reader, where it has an error, or of n below 0. -/
theorem ref_raw_stop (n c at_ : Nat) (A : Option Addr) (e x : Int) (w : World) (h : e ≠ 0 ∨ x < 0) :
    Calls Try.prog 97 #[.agg #[.slice A n c, .int .i64 (at_ : Int), .int .i64 e], .int .i64 x] w fun en w' => en = .returned (.tuple #[.agg #[.slice A n c, .int .i64 (at_ : Int), .int .i64 e], .slice none 0 0]) ∧ Below w.heap.size w w' := by
  by_cases he : e = 0
  · have hx : x < 0 := by omega
    subst he
    clear h
    go_enter Try.func97, Try.ntmps97
    go_wp2_with fail
    refine bodyPost_ret (v := .tuple #[.agg #[.slice A n c, .int .i64 (at_ : Int), .int .i64 0], .slice none 0 0]) (by simp [results, Try.results97, go_sem]) rfl ⟨rfl, ?_⟩
    exact ((Below.refl _ _).alloc (Nat.le_refl _) _).alloc (by simp) _
  · have he' : (e != 0) = true := by simpa using he
    clear h he
    go_enter Try.func97, Try.ntmps97
    go_wp2_with fail
    refine bodyPost_ret (v := .tuple #[.agg #[.slice A n c, .int .i64 (at_ : Int), .int .i64 e], .slice none 0 0]) (by simp [results, Try.results97, go_sem]) rfl ⟨rfl, ?_⟩
    exact ((Below.refl _ _).alloc (Nat.le_refl _) _).alloc (by simp) _

set_option maxHeartbeats 1000000 in
/-- Raw of the document's reader, of bytes that are there. -/
theorem ref_raw_yes (bs : List Nat) (n c at_ m : Nat) (A : Option Addr) (w : World) (BB : Nat) (hr : Reads w BB 1 A n (BS bs)) (hB : BB ≤ w.heap.size) (hnc : n ≤ c) (hn : n ≤ 140737488355328) (hm : at_ + m ≤ n) :
    Calls Try.prog 97 #[.agg #[.slice A n c, .int .i64 (at_ : Int), .int .i64 0], .int .i64 (m : Int)] w fun en w' => ∃ A' c', en = .returned (.tuple #[.agg #[.slice A n c, .int .i64 ((at_ : Int) + (m : Int)), .int .i64 0], .slice A' m c']) ∧
      Reads w BB 1 A' m (BS ((bs.drop at_).take m)) ∧ m ≤ c' ∧ Below w.heap.size w w' := by
  have HR := Lib.hid hr
  clear hr
  go_enter Try.func97, Try.ntmps97
  go_wp2_with fail
  have hr1 := ((HR.out.alloc hB (.cells #[.slice A n c, .int .i64 (at_ : Int), .int .i64 0] 90)).alloc (by simp; omega) (.cells #[.slice none 0 0, .int .i64 0, .int .i64 0] 90))
  refine (ref_left bs n c at_ A 0 _ BB hr1 hnc (by omega) hn).mono ?_
  rintro e w1 ⟨A', c', rfl, h2, h3, h4⟩
  have HC := Lib.hid ((h2.keep (w' := w) (fun q hq => by rw [World.cell?_alloc_lt _ _ _ (by simp; omega), World.cell?_alloc_lt _ _ _ (by omega)])).take (show m ≤ n - at_ by omega))
  have HC1 := Lib.hid ((h2.more (B' := ((w.alloc (.cells #[.slice A n c, .int .i64 (at_ : Int), .int .i64 0] 90)).alloc (.cells #[.slice none 0 0, .int .i64 0, .int .i64 0] 90)).heap.size) (by simp; omega)).below h4)
  have hk0 : Blk w1 w.heap.size 90 #[.slice A n c, .int .i64 (at_ : Int), .int .i64 0] := Blk.below ((Blk.new w _ _).alloc _) h4 (by simp; omega)
  have hk1 : Blk w1 (w.heap.size + 1) 90 #[.slice none 0 0, .int .i64 0, .int .i64 0] := Blk.below (by simpa using Blk.new (w.alloc (.cells #[.slice A n c, .int .i64 (at_ : Int), .int .i64 0] 90)) _ _) h4 (by simp)
  have z1 : w.heap.size + 1 < w1.heap.size := by have := h4.size; simp at this; omega
  have HB := Lib.hid ((((Below.refl _ w).alloc (Nat.le_refl _) (.cells #[.slice A n c, .int .i64 (at_ : Int), .int .i64 0] 90)).alloc (by simp) (.cells #[.slice none 0 0, .int .i64 0, .int .i64 0] 90)).trans (h4.mono (Nat.le_trans (Nat.le_succ _) (by simp))))
  have a0 : w1.cell? ⟨w.heap.size, 0, none⟩ = some (.slice A n c) := by rw [hk0.cell]; rfl
  have a1 : w1.cell? ⟨w.heap.size, 1, none⟩ = some (.int .i64 (at_ : Int)) := by rw [hk0.cell]; rfl
  have a2 : w1.cell? ⟨w.heap.size, 2, none⟩ = some (.int .i64 0) := by rw [hk0.cell]; rfl
  have b0 : w1.cell? ⟨w.heap.size + 1, 0, none⟩ = some (.slice none 0 0) := by rw [hk1.cell]; rfl
  have b1 : w1.cell? ⟨w.heap.size + 1, 1, none⟩ = some (.int .i64 0) := by rw [hk1.cell]; rfl
  have b2 : w1.cell? ⟨w.heap.size + 1, 2, none⟩ = some (.int .i64 0) := by rw [hk1.cell]; rfl
  have f1 := hk0.frozen 1
  have g0 := hk1.frozen 0
  have g1 := hk1.frozen 1
  have g2 := hk1.frozen 2
  clear h2 hr1 h4 hk0 hk1
  have hmc : m ≤ c' := by omega
  go_wp2_with fail
  go_region
  all_goals go_wp2_with fail
  refine bodyPost_ret (v := .tuple #[.agg #[.slice A n c, .int .i64 ((at_ : Int) + (m : Int)), .int .i64 0], .slice A' m c']) (by simp [results, Try.results97, go_sem, b0, b1, b2]) rfl ⟨A', c', rfl, HC.out, hmc, ?_⟩
  repeat (first | exact HB.out | refine Below.drew ?_ | (refine Below.setCell ?_ (by simp) _))

/-- The two boxes of a call that takes, and hands back, the document's reader. -/
theorem boxes {w w1 : World} {cs ds : Array Value} (h : Below ((w.alloc (.cells cs 90)).alloc (.cells ds 90)).heap.size ((w.alloc (.cells cs 90)).alloc (.cells ds 90)) w1) :
    Blk w1 w.heap.size 90 cs ∧ Blk w1 (w.heap.size + 1) 90 ds ∧ w.heap.size + 1 < w1.heap.size ∧ Below w.heap.size w w1 :=
  ⟨Blk.below ((Blk.new w _ _).alloc _) h (by simp; omega), Blk.below (by simpa using Blk.new (w.alloc (.cells cs 90)) 90 ds) h (by simp), by have := h.size; simp at this; omega,
    (((Below.refl _ w).alloc (Nat.le_refl _) _).alloc (by simp) _).trans (h.mono (Nat.le_trans (Nat.le_succ _) (by simp)))⟩

set_option maxHeartbeats 1000000 in
/-- Raw of the document's reader, of more bytes than there are. -/
theorem ref_raw_no (bs : List Nat) (n c at_ : Nat) (x : Int) (A : Option Addr) (w : World) (BB : Nat) (hr : Reads w BB 1 A n (BS bs)) (hB : BB ≤ w.heap.size) (hnc : n ≤ c) (hn : n ≤ 140737488355328) (hat : at_ ≤ n) (hx : (n : Int) < at_ + x) :
    Calls Try.prog 97 #[.agg #[.slice A n c, .int .i64 (at_ : Int), .int .i64 0], .int .i64 x] w fun en w' => en = .returned (.tuple #[.agg #[.slice A n c, .int .i64 (at_ : Int), .int .i64 2], .slice none 0 0]) ∧ Below w.heap.size w w' := by
  have HR := Lib.hid hr
  have hx0 : 0 ≤ x := by omega
  clear hr
  go_enter Try.func97, Try.ntmps97
  go_wp2_with fail
  have hr1 := ((HR.out.alloc hB (.cells #[.slice A n c, .int .i64 (at_ : Int), .int .i64 0] 90)).alloc (by simp; omega) (.cells #[.slice none 0 0, .int .i64 0, .int .i64 0] 90))
  refine (ref_left bs n c at_ A 0 _ BB hr1 hnc hat hn).mono ?_
  rintro e w1 ⟨A', c', rfl, _, h3, h4⟩
  obtain ⟨hk0, hk1, z1, hb1⟩ := boxes h4
  have a0 : w1.cell? ⟨w.heap.size, 0, none⟩ = some (.slice A n c) := by rw [hk0.cell]; rfl
  have a1 : w1.cell? ⟨w.heap.size, 1, none⟩ = some (.int .i64 (at_ : Int)) := by rw [hk0.cell]; rfl
  have a2 : w1.cell? ⟨w.heap.size, 2, none⟩ = some (.int .i64 0) := by rw [hk0.cell]; rfl
  have HB1 := Lib.hid hb1
  have HK1 := Lib.hid hk1
  clear hr1 h4 hk0 hk1 hb1
  go_wp2_with fail
  refine (ref_fail n c at_ A 0 2 w1).mono ?_
  rintro e w2 ⟨rfl, h5⟩
  have hk2 := HK1.out.below h5 HK1.out.lt
  have z2 := h5.size
  have b0 : w2.cell? ⟨w.heap.size + 1, 0, none⟩ = some (.slice none 0 0) := by rw [hk2.cell]; rfl
  have b1 : w2.cell? ⟨w.heap.size + 1, 1, none⟩ = some (.int .i64 0) := by rw [hk2.cell]; rfl
  have b2 : w2.cell? ⟨w.heap.size + 1, 2, none⟩ = some (.int .i64 0) := by rw [hk2.cell]; rfl
  have g0 := hk2.frozen 0
  have g1 := hk2.frozen 1
  have g2 := hk2.frozen 2
  have HB2 := Lib.hid (HB1.out.trans (h5.mono (show w.heap.size ≤ w1.heap.size by omega)))
  clear h5 hk2 a0 a1 a2
  go_wp2_with fail
  refine bodyPost_ret (v := .tuple #[.agg #[.slice A n c, .int .i64 (at_ : Int), .int .i64 2], .slice none 0 0]) (by simp [results, Try.results97, go_sem, b0, b1, b2]) rfl ⟨rfl, ?_⟩
  repeat (first | exact HB2.out | refine Below.drew ?_ | (refine Below.setCell ?_ (by simp) _))
end

section
open Go.RowKit Plain

theorem refx_lt {l : List Nat} {m j : Nat} (hl : l.length = m) (hx : ∀ x ∈ l, x < 256) (hj : j ≤ m) (hm : m ≤ 8) (h1 : 1 ≤ j) : leV (l.drop j) < 72057594037927936 := by
  have h := leV_lt (l.drop j) (fun x h => hx x (List.mem_of_mem_drop h))
  rw [List.length_drop, hl] at h
  have h2 : 256 ^ (m - j) ≤ 256 ^ 7 := Nat.pow_le_pow_right (by omega) (by omega)
  have e : (256 : Nat) ^ 7 = 72057594037927936 := by decide
  omega
theorem leV_drop {l : List Nat} {j : Nat} {x : Nat} (h : l[j]? = some x) : leV (l.drop j) = x + 256 * leV (l.drop (j + 1)) := by
  obtain ⟨hlt, rfl⟩ := List.getElem?_eq_some_iff.1 h
  rw [List.drop_eq_getElem_cons hlt, leV]

def RfRel (l : List Nat) (m : Nat) (a s : Value) : Prop := ∃ j V : Nat, j ≤ m ∧ s = .int .i64 ((j : Int) - 1) ∧ a = .int .u64 (V : Int) ∧ Hid (V = leV (l.drop j))

set_option maxRecDepth 100000 in
set_option maxHeartbeats 1000000 in
theorem ref_fixed_yes (bs : List Nat) (n c at_ m : Nat) (A : Option Addr) (w : World) (BB : Nat) (hr : Reads w BB 1 A n (BS bs)) (hx : ∀ x ∈ bs, x < 256) (hbl : bs.length = n) (hB : BB ≤ w.heap.size) (hnc : n ≤ c) (hn : n ≤ 140737488355328) (hm : at_ + m ≤ n) (hm8 : m ≤ 8) :
    Calls Try.prog 88 #[.agg #[.slice A n c, .int .i64 (at_ : Int), .int .i64 0], .int .i64 (m : Int)] w fun en w' => en = .returned (.tuple #[.agg #[.slice A n c, .int .i64 ((at_ : Int) + (m : Int)), .int .i64 0], .int .u64 (leV ((bs.drop at_).take m) : Int)]) ∧ Below w.heap.size w w' := by
  have HR := Lib.hid hr
  have hlm : ((bs.drop at_).take m).length = m := by simp; omega
  have HL := Lib.hid hlm
  have HX : Hid (∀ x ∈ (bs.drop at_).take m, x < 256) := fun x h => hx x (List.mem_of_mem_drop (List.mem_of_mem_take h))
  clear hr hx hlm
  go_enter Try.func88, Try.ntmps88
  go_wp2_with fail
  refine (ref_raw_yes bs n c at_ m A _ BB ((HR.out.alloc hB _).alloc (by simp; omega) _) (by simp; omega) hnc hn hm).mono ?_
  rintro e w1 ⟨A', c', rfl, h2, h3, h4⟩
  obtain ⟨hk0, hk1, z1, hb1⟩ := boxes h4
  have HC := Lib.hid (((h2.more (B' := ((w.alloc (.cells #[.slice A n c, .int .i64 (at_ : Int), .int .i64 0] 90)).alloc (.cells #[.slice none 0 0, .int .i64 0, .int .i64 0] 90)).heap.size) (by simp; omega)).below h4))
  generalize hl : (bs.drop at_).take m = l at HL HX HC
  have HLL := Lib.hid hl
  have HB1 := Lib.hid hb1
  have HK1 := Lib.hid hk1
  clear h2 h4 hk0 hk1 hb1 hl
  go_wp2_with fail
  go_loop [8, 9] (fun a s => RfRel l m a s) (fun _ s => (intOf s + 1).toNat)
  case atStart => exact ⟨m, 0, by omega, rfl, rfl, by show 0 = leV _; rw [List.drop_of_length_le (by rw [HL.out]; omega)]; rfl⟩
  case round =>
    obtain ⟨j, V, hj, rfl, rfl, hV⟩ := hrel
    by_cases hj0 : 1 ≤ j
    · obtain ⟨i, rfl⟩ : ∃ i, j = i + 1 := ⟨j - 1, by omega⟩
      have HC2 := HC.out.alloc (show _ ≤ w1.heap.size by simp; omega) (.cells #[.slice A n c, .int .i64 ((at_ : Int) + (m : Int)), .int .i64 0] 90)
      obtain ⟨ad, u, rfl, _, hu, hcell⟩ := HC2.at_ (show i < m by omega)
      obtain ⟨x, hx, rfl⟩ : ∃ x : Nat, l[i]? = some x ∧ .int .u8 (x : Int) = u := by
        simp [BS, B] at hu
        exact hu
      have hx256 : x < 256 := HX.out x (List.mem_of_getElem? hx)
      have hVl : V < 72057594037927936 := by rw [hV.out]; exact refx_lt HL.out HX.out (by omega) hm8 (by omega)
      have HXX := Lib.hid hx
      rw [show ((i + 1 : Nat) : Int) - 1 = (i : Int) by omega]
      clear HC2 hu hx
      go_wp2_with fail
      refine ⟨⟨i, x + 256 * V, by omega, by go_num, by go_num, by show _ = leV _; rw [leV_drop HXX.out, hV.out]⟩, by simp [intOf]⟩
    · obtain rfl : j = 0 := by omega
      have hVe : V = leV l := by have := hV.out; simpa using this
      have HVE := Lib.hid hVe
      have b0 : w1.cell? ⟨w.heap.size + 1, 0, none⟩ = some (.slice none 0 0) := by rw [HK1.out.cell]; rfl
      have b1 : w1.cell? ⟨w.heap.size + 1, 1, none⟩ = some (.int .i64 0) := by rw [HK1.out.cell]; rfl
      have b2 : w1.cell? ⟨w.heap.size + 1, 2, none⟩ = some (.int .i64 0) := by rw [HK1.out.cell]; rfl
      have g0 := HK1.out.frozen 0
      have g1 := HK1.out.frozen 1
      have g2 := HK1.out.frozen 2
      clear hVe
      go_wp2_with fail
      refine bodyPost_ret (v := .tuple #[.agg #[.slice A n c, .int .i64 ((at_ : Int) + (m : Int)), .int .i64 0], .int .u64 (V : Int)]) (by simp [results, Try.results88, go_sem, b0, b1, b2, z1]) rfl ⟨by rw [HVE.out, HLL.out], ?_⟩
      repeat (first | exact HB1.out | refine Below.drew ?_ | (refine Below.setCell ?_ (by simp) _) | (refine Below.alloc ?_ (by simp; omega) _))
end

section
open Go.RowKit Plain

set_option maxHeartbeats 400000 in
theorem ref_rshort_stop (n c at_ : Nat) (A : Option Addr) (e : Int) (w : World) (h : e ≠ 0) :
    Calls Try.prog 61 #[.agg #[.slice A n c, .int .i64 (at_ : Int), .int .i64 e]] w fun en w' => en = .returned (.tuple #[.agg #[.slice A n c, .int .i64 (at_ : Int), .int .i64 e], .int .i64 0]) ∧ Below w.heap.size w w' := by
  have he' : (e != 0) = true := by simpa using h
  clear h
  go_enter Try.func61, Try.ntmps61
  go_wp2_with fail
  refine bodyPost_ret (v := .tuple #[.agg #[.slice A n c, .int .i64 (at_ : Int), .int .i64 e], .int .i64 0]) (by simp [results, Try.results61, go_sem]) rfl ⟨rfl, ?_⟩
  repeat (first | exact Below.refl _ _ | refine Below.drew ?_ | (refine Below.setCell ?_ (by simp) _) | (refine Below.alloc ?_ (by simp) _))

/-- Where the loop stands that reckons the number: bytes from j on are in. -/
def RshRel (l : List Nat) (m : Nat) (a s : Value) : Prop := ∃ j V : Nat, j ≤ m ∧ s = .int .i64 ((j : Int) - 1) ∧ a = .int .i64 (V : Int) ∧ Hid (V = sv (l.drop j))

/-- What the document's ReadShort tells. -/
def RshTold (A : Option Addr) (n c at_ : Nat) (xs : List Nat) (en : Ending) : Prop :=
  ∃ V K E : Nat, rs xs = (V, K, E) ∧ en = .returned (.tuple #[.agg #[.slice A n c, .int .i64 ((at_ + K : Nat) : Int), .int .i64 (E : Int)], .int .i64 (V : Int)])

set_option maxRecDepth 100000 in
set_option maxHeartbeats 4000000 in
theorem ref_rshort (bs : List Nat) (n c at_ : Nat) (A : Option Addr) (w : World) (BB : Nat) (hr : Reads w BB 1 A n (BS bs)) (hx : ∀ x ∈ bs, x < 256) (hbl : bs.length = n) (hB : BB ≤ w.heap.size) (hnc : n ≤ c) (hn : n ≤ 140737488355328) (hat : at_ ≤ n) :
    Calls Try.prog 61 #[.agg #[.slice A n c, .int .i64 (at_ : Int), .int .i64 0]] w fun en w' => RshTold A n c at_ (bs.drop at_) en ∧ Below w.heap.size w w' := by
  have HR := Lib.hid hr
  obtain ⟨m, hm⟩ : ∃ m, m = n - at_ := ⟨_, rfl⟩
  have hlm : (bs.drop at_).length = m := by rw [List.length_drop, hbl, hm]
  have hmn : at_ + m = n := by omega
  have HL := Lib.hid hlm
  have HX : Hid (∀ x ∈ bs.drop at_, x < 256) := fun x h => hx x (List.mem_of_mem_drop h)
  have HM := Lib.hid hm
  obtain ⟨xs, hxs⟩ : ∃ xs, xs = bs.drop at_ := ⟨_, rfl⟩
  rw [← hxs] at HL HX ⊢
  have HXS := Lib.hid hxs
  clear hr hx hlm hbl hm hxs
  go_enter Try.func61, Try.ntmps61
  go_wp2_with fail
  refine (ref_left bs n c at_ A 0 _ BB ((HR.out.alloc hB _).alloc (by simp; omega) _) hnc hat hn).mono ?_
  rintro e w1 ⟨A', c', rfl, h2, h3, h4⟩
  obtain ⟨hk0, hk1, z1, hb1⟩ := boxes h4
  rw [← HM.out] at h2 h3 ⊢
  rw [← HXS.out] at h2
  have HC := Lib.hid (((h2.more (B' := ((w.alloc (.cells #[.slice A n c, .int .i64 (at_ : Int), .int .i64 0] 90)).alloc (.cells #[.slice none 0 0, .int .i64 0, .int .i64 0] 90)).heap.size) (by simp; omega)).below h4))
  have HB1 := Lib.hid hb1
  have HK0 := Lib.hid hk0
  have HK1 := Lib.hid hk1
  clear h2 h4 hk0 hk1 hb1
  go_wp2_with fail
  go_loopw [5] (fun s wr => ∃ k : Nat, k ≤ m ∧ k ≤ 9 ∧ s = .int .i64 (k : Int) ∧ Hid (High xs k) ∧ w1 = wr) (fun s _ => m - (intOf s).toNat)
  case atStart => exact ⟨0, by omega, by omega, rfl, High.zero xs, rfl⟩
  case round =>
    obtain ⟨k, hkm, hk9, rfl, HH, rfl⟩ := hrel
    by_cases hlt : k < m
    · by_cases hlt9 : k < 9
      · obtain ⟨ad, v, rfl, _, hu, hcell⟩ := HC.out.at_ hlt
        have hkl : k < xs.length := by rw [HL.out]; exact hlt
        obtain ⟨x, hxe⟩ : ∃ x, xs[k]? = some x := ⟨_, List.getElem?_eq_getElem hkl⟩
        have hv : v = .int .u8 (x : Int) := by
          simp only [BS, List.getElem?_map, hxe, Option.map_some, Option.some.injEq] at hu
          rw [← hu]; rfl
        subst hv
        have HXE := Lib.hid hxe
        have hx256 : x < 256 := HX.out x (List.mem_of_getElem? hxe)
        clear hu hxe
        by_cases hhi : 128 ≤ x
        · have hh : High xs (k + 1) := HH.out.succ HXE.out hhi
          have HH1 := Lib.hid hh
          clear hh
          go_wp2_with fail
          exact ⟨⟨k + 1, by omega, by omega, by go_num, HH1.out, trivial⟩, by simp [intOf]; omega⟩
        · have hx128 : x < 128 := by omega
          have hk8 : k ≤ 8 := by omega
          have kn9 : ((k : Int) == 9) = false := by simp; omega
          have knm : ((k : Int) == (m : Int)) = false := by simp; omega
          clear hhi
          have hlk : (xs.take (k + 1)).length = k + 1 := List.length_take_of_le (by omega)
          have HLK := Lib.hid hlk
          clear hlk
          go_wp2_with fail
          go_loopw [6, 7] (fun a s wr => RshRel (xs.take (k + 1)) (k + 1) a s ∧ w1 = wr) (fun _ s _ => (intOf s + 1).toNat)
          case atStart => exact ⟨⟨k + 1, 0, by omega, by go_num, rfl, by show 0 = sv _; rw [List.drop_of_length_le (by rw [HLK.out]; omega)]; rfl⟩, rfl⟩
          case round =>
            obtain ⟨⟨j, V, hj, rfl, rfl, hV⟩, rfl⟩ := hrel
            by_cases hj0 : 1 ≤ j
            · obtain ⟨i, rfl⟩ : ∃ i, j = i + 1 := ⟨j - 1, by omega⟩
              obtain ⟨ad2, u, e2, _, hu, hcell2⟩ := HC.out.at_ (show i < m by omega)
              injection e2 with e2
              subst e2
              have hil : i < xs.length := by omega
              obtain ⟨y, hye⟩ : ∃ y, xs[i]? = some y := ⟨_, List.getElem?_eq_getElem hil⟩
              have hv : u = .int .u8 (y : Int) := by
                simp only [BS, List.getElem?_map, hye, Option.map_some, Option.some.injEq] at hu
                rw [← hu]; rfl
              subst hv
              have hy256 : y < 256 := HX.out y (List.mem_of_getElem? hye)
              have hVl : V < 72057594037927936 := by rw [hV.out]; exact sv_drop_le (by rw [HLK.out]; omega)
              have hyt : (xs.take (k + 1))[i]? = some y := by rw [List.getElem?_take_of_lt (by omega)]; exact hye
              have hnx : y % 128 + 128 * V = sv ((xs.take (k + 1)).drop i) := by rw [sv_drop hyt, hV.out]
              have HNX := Lib.hid hnx
              rw [show ((i + 1 : Nat) : Int) - 1 = (i : Int) by omega]
              clear hu hye hyt hnx
              go_wp2_with fail
              exact ⟨⟨⟨i, y % 128 + 128 * V, by omega, by go_num, by go_num, HNX.out⟩, trivial⟩, by simp [intOf]⟩
            · obtain rfl : j = 0 := by omega
              have hVe : V = sv (xs.take (k + 1)) := by have := hV.out; simpa using this
              have hV9 : V ≤ 9223372036854775807 := by rw [hVe]; exact sv_int hk8 hkl
              have HVE := Lib.hid hVe
              clear hVe hV
              go_wp2_with fail
              refine (ref_short_nat V w1 hV9).mono ?_
              rintro en w2 ⟨A2, c2, rfl, _, hm2⟩
              have z2 := hm2.size
              have HB2 := Lib.hid (HB1.out.trans (hm2.mono (show w.heap.size ≤ w1.heap.size by omega)))
              have HK0b := Lib.hid (HK0.out.below hm2 HK0.out.lt)
              have HK1b := Lib.hid (HK1.out.below hm2 HK1.out.lt)
              have a0 : w2.cell? ⟨w.heap.size, 0, none⟩ = some (.slice A n c) := by rw [HK0b.out.cell]; rfl
              have a1 : w2.cell? ⟨w.heap.size, 1, none⟩ = some (.int .i64 (at_ : Int)) := by rw [HK0b.out.cell]; rfl
              have a2 : w2.cell? ⟨w.heap.size, 2, none⟩ = some (.int .i64 0) := by rw [HK0b.out.cell]; rfl
              clear hm2
              by_cases hz : x = 0 ∧ k ≠ 0
              · obtain ⟨rfl, hk0'⟩ := hz
                have hrs : rs xs = (0, 0, 3) := rs_zero hk8 HH.out HXE.out hk0'
                have hlen : (shortL V).length ≠ k + 1 := by rw [HVE.out]; exact len_zero HXE.out hk0'
                have hneq : (((shortL V).length : Int) != (k : Int) + 1) = true := by
                  have : ¬ (((shortL V).length : Int) = (k : Int) + 1) := by omega
                  simpa using this
                have HRS := Lib.hid hrs
                generalize (shortL V).length = L at hneq hlen ⊢
                clear hrs hlen
                go_wp2_with fail
                refine (ref_fail n c at_ A 0 3 w2).mono ?_
                rintro en w3 ⟨rfl, h5⟩
                have hk2 := HK1b.out.below h5 HK1b.out.lt
                have z3 := h5.size
                have b0 : w3.cell? ⟨w.heap.size + 1, 0, none⟩ = some (.slice none 0 0) := by rw [hk2.cell]; rfl
                have b1 : w3.cell? ⟨w.heap.size + 1, 1, none⟩ = some (.int .i64 0) := by rw [hk2.cell]; rfl
                have b2 : w3.cell? ⟨w.heap.size + 1, 2, none⟩ = some (.int .i64 0) := by rw [hk2.cell]; rfl
                have g0 := hk2.frozen 0
                have g1 := hk2.frozen 1
                have g2 := hk2.frozen 2
                have HB3 := Lib.hid (HB2.out.trans (h5.mono (show w.heap.size ≤ w2.heap.size by omega)))
                clear h5 hk2 a0 a1 a2
                go_wp2_with fail
                refine bodyPost_ret (v := .tuple #[.agg #[.slice A n c, .int .i64 (at_ : Int), .int .i64 3], .int .i64 0]) (by simp [results, Try.results61, go_sem, b0, b1, b2]) rfl ⟨⟨0, 0, 3, HRS.out, rfl⟩, ?_⟩
                repeat (first | exact HB3.out | refine Below.drew ?_ | (refine Below.setCell ?_ (by simp) _))
              · have h0 : 0 < x ∨ k = 0 := by omega
                have hrs : rs xs = (V, k + 1, 0) := by rw [HVE.out]; exact rs_here hk8 HH.out HXE.out hx128 h0
                have hlen : (shortL V).length = k + 1 := by rw [HVE.out]; exact len_here hk8 HXE.out hx128 h0
                have HRS := Lib.hid hrs
                have f1 := HK0b.out.frozen 1
                have g0 := HK1b.out.frozen 0
                have g1 := HK1b.out.frozen 1
                have g2 := HK1b.out.frozen 2
                have b0 : w2.cell? ⟨w.heap.size + 1, 0, none⟩ = some (.slice none 0 0) := by rw [HK1b.out.cell]; rfl
                have b1 : w2.cell? ⟨w.heap.size + 1, 1, none⟩ = some (.int .i64 0) := by rw [HK1b.out.cell]; rfl
                have b2 : w2.cell? ⟨w.heap.size + 1, 2, none⟩ = some (.int .i64 0) := by rw [HK1b.out.cell]; rfl
                rw [hlen]
                clear hrs hlen hz
                go_wp2_with fail
                refine bodyPost_ret (v := .tuple #[.agg #[.slice A n c, .int .i64 ((at_ : Int) + (k : Int) + 1), .int .i64 0], .int .i64 (V : Int)]) (by simp [results, Try.results61, go_sem, b0, b1, b2]) rfl ⟨⟨V, k + 1, 0, HRS.out, by rw [show ((at_ + (k + 1) : Nat) : Int) = (at_ : Int) + (k : Int) + 1 by omega]; rfl⟩, ?_⟩
                repeat (first | exact HB2.out | refine Below.drew ?_ | (refine Below.setCell ?_ (by simp) _))
      · obtain rfl : k = 9 := by omega
        have a0 : w1.cell? ⟨w.heap.size, 0, none⟩ = some (.slice A n c) := by rw [HK0.out.cell]; rfl
        have a1 : w1.cell? ⟨w.heap.size, 1, none⟩ = some (.int .i64 (at_ : Int)) := by rw [HK0.out.cell]; rfl
        have a2 : w1.cell? ⟨w.heap.size, 2, none⟩ = some (.int .i64 0) := by rw [HK0.out.cell]; rfl
        have hrs : rs xs = (0, 0, 3) := rs_nine (by rw [HL.out]; omega) HH.out
        have HRS := Lib.hid hrs
        clear hrs
        go_wp2_with fail
        refine (ref_fail n c at_ A 0 3 w1).mono ?_
        rintro en w2 ⟨rfl, h5⟩
        have hk2 := HK1.out.below h5 HK1.out.lt
        have z2 := h5.size
        have b0 : w2.cell? ⟨w.heap.size + 1, 0, none⟩ = some (.slice none 0 0) := by rw [hk2.cell]; rfl
        have b1 : w2.cell? ⟨w.heap.size + 1, 1, none⟩ = some (.int .i64 0) := by rw [hk2.cell]; rfl
        have b2 : w2.cell? ⟨w.heap.size + 1, 2, none⟩ = some (.int .i64 0) := by rw [hk2.cell]; rfl
        have g0 := hk2.frozen 0
        have g1 := hk2.frozen 1
        have g2 := hk2.frozen 2
        have HB2 := Lib.hid (HB1.out.trans (h5.mono (show w.heap.size ≤ w1.heap.size by omega)))
        clear h5 hk2 a0 a1 a2
        go_wp2_with fail
        refine bodyPost_ret (v := .tuple #[.agg #[.slice A n c, .int .i64 (at_ : Int), .int .i64 3], .int .i64 0]) (by simp [results, Try.results61, go_sem, b0, b1, b2]) rfl ⟨⟨0, 0, 3, HRS.out, rfl⟩, ?_⟩
        repeat (first | exact HB2.out | refine Below.drew ?_ | (refine Below.setCell ?_ (by simp) _))
    · obtain rfl : k = m := by omega
      by_cases h9 : k = 9
      · subst h9
        have a0 : w1.cell? ⟨w.heap.size, 0, none⟩ = some (.slice A n c) := by rw [HK0.out.cell]; rfl
        have a1 : w1.cell? ⟨w.heap.size, 1, none⟩ = some (.int .i64 (at_ : Int)) := by rw [HK0.out.cell]; rfl
        have a2 : w1.cell? ⟨w.heap.size, 2, none⟩ = some (.int .i64 0) := by rw [HK0.out.cell]; rfl
        have hrs : rs xs = (0, 0, 3) := rs_nine (by rw [HL.out]; omega) HH.out
        have HRS := Lib.hid hrs
        clear hrs
        go_wp2_with fail
        refine (ref_fail n c at_ A 0 3 w1).mono ?_
        rintro en w2 ⟨rfl, h5⟩
        have hk2 := HK1.out.below h5 HK1.out.lt
        have z2 := h5.size
        have b0 : w2.cell? ⟨w.heap.size + 1, 0, none⟩ = some (.slice none 0 0) := by rw [hk2.cell]; rfl
        have b1 : w2.cell? ⟨w.heap.size + 1, 1, none⟩ = some (.int .i64 0) := by rw [hk2.cell]; rfl
        have b2 : w2.cell? ⟨w.heap.size + 1, 2, none⟩ = some (.int .i64 0) := by rw [hk2.cell]; rfl
        have g0 := hk2.frozen 0
        have g1 := hk2.frozen 1
        have g2 := hk2.frozen 2
        have HB2 := Lib.hid (HB1.out.trans (h5.mono (show w.heap.size ≤ w1.heap.size by omega)))
        clear h5 hk2 a0 a1 a2
        go_wp2_with fail
        refine bodyPost_ret (v := .tuple #[.agg #[.slice A n c, .int .i64 (at_ : Int), .int .i64 3], .int .i64 0]) (by simp [results, Try.results61, go_sem, b0, b1, b2]) rfl ⟨⟨0, 0, 3, HRS.out, rfl⟩, ?_⟩
        repeat (first | exact HB2.out | refine Below.drew ?_ | (refine Below.setCell ?_ (by simp) _))
      · have kn9 : ((k : Int) == 9) = false := by simp; omega
        have a0 : w1.cell? ⟨w.heap.size, 0, none⟩ = some (.slice A n c) := by rw [HK0.out.cell]; rfl
        have a1 : w1.cell? ⟨w.heap.size, 1, none⟩ = some (.int .i64 (at_ : Int)) := by rw [HK0.out.cell]; rfl
        have a2 : w1.cell? ⟨w.heap.size, 2, none⟩ = some (.int .i64 0) := by rw [HK0.out.cell]; rfl
        have hrs : rs xs = (0, 0, 2) := rs_less HL.out (by omega) HH.out
        have HRS := Lib.hid hrs
        clear hrs
        go_wp2_with fail
        refine (ref_fail n c at_ A 0 2 w1).mono ?_
        rintro en w2 ⟨rfl, h5⟩
        have hk2 := HK1.out.below h5 HK1.out.lt
        have z2 := h5.size
        have b0 : w2.cell? ⟨w.heap.size + 1, 0, none⟩ = some (.slice none 0 0) := by rw [hk2.cell]; rfl
        have b1 : w2.cell? ⟨w.heap.size + 1, 1, none⟩ = some (.int .i64 0) := by rw [hk2.cell]; rfl
        have b2 : w2.cell? ⟨w.heap.size + 1, 2, none⟩ = some (.int .i64 0) := by rw [hk2.cell]; rfl
        have g0 := hk2.frozen 0
        have g1 := hk2.frozen 1
        have g2 := hk2.frozen 2
        have HB2 := Lib.hid (HB1.out.trans (h5.mono (show w.heap.size ≤ w1.heap.size by omega)))
        clear h5 hk2 a0 a1 a2
        go_wp2_with fail
        refine bodyPost_ret (v := .tuple #[.agg #[.slice A n c, .int .i64 (at_ : Int), .int .i64 2], .int .i64 0]) (by simp [results, Try.results61, go_sem, b0, b1, b2]) rfl ⟨⟨0, 0, 2, HRS.out, rfl⟩, ?_⟩
        repeat (first | exact HB2.out | refine Below.drew ?_ | (refine Below.setCell ?_ (by simp) _))
end

section
open Go.RowKit Plain

set_option maxRecDepth 100000 in
set_option maxHeartbeats 2000000 in
theorem ref_rsigned_err (bs : List Nat) (n c at_ : Nat) (A : Option Addr) (w : World) (BB : Nat) (hr : Reads w BB 1 A n (BS bs)) (hx : ∀ x ∈ bs, x < 256) (hbl : bs.length = n) (hB : BB ≤ w.heap.size) (hnc : n ≤ c) (hn : n ≤ 140737488355328) (hat : at_ ≤ n) (E : Nat) (hE : E ≠ 0) (hrs : rs (bs.drop at_) = (0, 0, E)) :
    Calls Try.prog 89 #[.agg #[.slice A n c, .int .i64 (at_ : Int), .int .i64 0]] w fun en w' => en = .returned (.tuple #[.agg #[.slice A n c, .int .i64 ((at_ : Int)), .int .i64 ((E : Nat) : Int)], .int .i64 0]) ∧ Below w.heap.size w w' := by
  have hE' : (((E : Nat) : Int) != 0) = true := by
    have : ¬ (((E : Nat) : Int) = 0) := by omega
    simpa using this
  clear hE
  have HR := Lib.hid hr
  have HX := Lib.hid hx
  have HL := Lib.hid hbl
  have HRS := Lib.hid hrs
  clear hr hx hbl hrs
  go_enter Try.func89, Try.ntmps89
  go_wp2_with fail
  refine (ref_rshort bs n c at_ A _ BB ((HR.out.alloc hB _).alloc (by simp; omega) _) HX.out HL.out (by simp; omega) hnc hn hat).mono ?_
  rintro en w1 ⟨⟨V', K', E', hrs', rfl⟩, h4⟩
  rw [HRS.out] at hrs'
  simp only [Prod.mk.injEq] at hrs'
  obtain ⟨rfl, rfl, rfl⟩ := hrs'
  obtain ⟨hk0, hk1, z1, hb1⟩ := boxes h4
  have a0 : w1.cell? ⟨w.heap.size, 0, none⟩ = some (.slice A n c) := by rw [hk0.cell]; rfl
  have a1 : w1.cell? ⟨w.heap.size, 1, none⟩ = some (.int .i64 (at_ : Int)) := by rw [hk0.cell]; rfl
  have a2 : w1.cell? ⟨w.heap.size, 2, none⟩ = some (.int .i64 0) := by rw [hk0.cell]; rfl
  have b0 : w1.cell? ⟨w.heap.size + 1, 0, none⟩ = some (.slice none 0 0) := by rw [hk1.cell]; rfl
  have b1 : w1.cell? ⟨w.heap.size + 1, 1, none⟩ = some (.int .i64 0) := by rw [hk1.cell]; rfl
  have b2 : w1.cell? ⟨w.heap.size + 1, 2, none⟩ = some (.int .i64 0) := by rw [hk1.cell]; rfl
  have g0 := hk1.frozen 0
  have g1 := hk1.frozen 1
  have g2 := hk1.frozen 2
  have HB1 := Lib.hid hb1
  have HK0 := Lib.hid hk0
  have HK1 := Lib.hid hk1
  have zz : w.heap.size < w1.heap.size := by omega
  have aa0 : (w1.alloc (.cells #[.slice A n c, .int .i64 (at_ : Int), .int .i64 ((E : Nat) : Int)] 90)).cell? ⟨w.heap.size, 0, none⟩ = some (.slice A n c) := (World.cell?_alloc_lt _ _ _ zz).trans a0
  have aa1 : (w1.alloc (.cells #[.slice A n c, .int .i64 (at_ : Int), .int .i64 ((E : Nat) : Int)] 90)).cell? ⟨w.heap.size, 1, none⟩ = some (.int .i64 (at_ : Int)) := (World.cell?_alloc_lt _ _ _ zz).trans a1
  have aa2 : (w1.alloc (.cells #[.slice A n c, .int .i64 (at_ : Int), .int .i64 ((E : Nat) : Int)] 90)).cell? ⟨w.heap.size, 2, none⟩ = some (.int .i64 0) := (World.cell?_alloc_lt _ _ _ zz).trans a2
  clear h4 hk0 hk1 hb1
  rw [Nat.add_zero]
  go_wp2_with fail
  refine bodyPost_ret (v := .tuple #[.agg #[.slice A n c, .int .i64 ((at_ : Int)), .int .i64 ((E : Nat) : Int)], .int .i64 0]) (by simp [results, Try.results89, go_sem, b0, b1, b2, z1]) rfl ⟨rfl, ?_⟩
  repeat (first | exact HB1.out | refine Below.drew ?_ | (refine Below.setCell ?_ (by simp) _) | (refine Below.alloc ?_ (by simp; omega) _))

set_option maxRecDepth 100000 in
set_option maxHeartbeats 2000000 in
theorem ref_rsigned_big (bs : List Nat) (n c at_ : Nat) (A : Option Addr) (w : World) (BB : Nat) (hr : Reads w BB 1 A n (BS bs)) (hx : ∀ x ∈ bs, x < 256) (hbl : bs.length = n) (hB : BB ≤ w.heap.size) (hnc : n ≤ c) (hn : n ≤ 140737488355328) (hat : at_ ≤ n) (V K : Nat) (hV : 4611686018427387903 < V) (hV9 : V ≤ 9223372036854775807) (hrs : rs (bs.drop at_) = (V, K, 0)) :
    Calls Try.prog 89 #[.agg #[.slice A n c, .int .i64 (at_ : Int), .int .i64 0]] w fun en w' => en = .returned (.tuple #[.agg #[.slice A n c, .int .i64 ((at_ : Int)), .int .i64 3], .int .i64 0]) ∧ Below w.heap.size w w' := by
  have t1 : (2305843009213693952 : Int) ≤ (V : Int) / 2 := by omega
  have t2 : decide ((2305843009213693952 : Int) ≤ (V : Int) / 2) = true := by simpa using t1
  have t3 : 0 ≤ (V : Int) / 2 := by omega
  have t5 : (V : Int) ≤ 9223372036854775807 := by omega
  clear hV hV9
  have HR := Lib.hid hr
  have HX := Lib.hid hx
  have HL := Lib.hid hbl
  have HRS := Lib.hid hrs
  clear hr hx hbl hrs
  go_enter Try.func89, Try.ntmps89
  go_wp2_with fail
  refine (ref_rshort bs n c at_ A _ BB ((HR.out.alloc hB _).alloc (by simp; omega) _) HX.out HL.out (by simp; omega) hnc hn hat).mono ?_
  rintro en w1 ⟨⟨V', K', E', hrs', rfl⟩, h4⟩
  rw [HRS.out] at hrs'
  simp only [Prod.mk.injEq] at hrs'
  obtain ⟨rfl, rfl, rfl⟩ := hrs'
  obtain ⟨hk0, hk1, z1, hb1⟩ := boxes h4
  have a0 : w1.cell? ⟨w.heap.size, 0, none⟩ = some (.slice A n c) := by rw [hk0.cell]; rfl
  have a1 : w1.cell? ⟨w.heap.size, 1, none⟩ = some (.int .i64 (at_ : Int)) := by rw [hk0.cell]; rfl
  have a2 : w1.cell? ⟨w.heap.size, 2, none⟩ = some (.int .i64 0) := by rw [hk0.cell]; rfl
  have b0 : w1.cell? ⟨w.heap.size + 1, 0, none⟩ = some (.slice none 0 0) := by rw [hk1.cell]; rfl
  have b1 : w1.cell? ⟨w.heap.size + 1, 1, none⟩ = some (.int .i64 0) := by rw [hk1.cell]; rfl
  have b2 : w1.cell? ⟨w.heap.size + 1, 2, none⟩ = some (.int .i64 0) := by rw [hk1.cell]; rfl
  have g0 := hk1.frozen 0
  have g1 := hk1.frozen 1
  have g2 := hk1.frozen 2
  have HB1 := Lib.hid hb1
  have HK0 := Lib.hid hk0
  have HK1 := Lib.hid hk1
  have zz : w.heap.size < w1.heap.size := by omega
  have aa0 : (w1.alloc (.cells #[.slice A n c, .int .i64 ((at_ : Int) + (K : Int)), .int .i64 0] 90)).cell? ⟨w.heap.size, 0, none⟩ = some (.slice A n c) := (World.cell?_alloc_lt _ _ _ zz).trans a0
  have aa1 : (w1.alloc (.cells #[.slice A n c, .int .i64 ((at_ : Int) + (K : Int)), .int .i64 0] 90)).cell? ⟨w.heap.size, 1, none⟩ = some (.int .i64 (at_ : Int)) := (World.cell?_alloc_lt _ _ _ zz).trans a1
  have aa2 : (w1.alloc (.cells #[.slice A n c, .int .i64 ((at_ : Int) + (K : Int)), .int .i64 0] 90)).cell? ⟨w.heap.size, 2, none⟩ = some (.int .i64 0) := (World.cell?_alloc_lt _ _ _ zz).trans a2
  clear h4 hk0 hk1 hb1
  go_wp2_with fail
  refine (ref_fail n c at_ A 0 3 _).mono ?_
  rintro en w2 ⟨rfl, h5⟩
  have hk2 := (HK1.out.alloc (.cells #[.slice A n c, .int .i64 ((at_ : Int) + (K : Int)), .int .i64 0] 90)).below h5 (by simp; omega)
  have z2 := h5.size
  have c0 : w2.cell? ⟨w.heap.size + 1, 0, none⟩ = some (.slice none 0 0) := by rw [hk2.cell]; rfl
  have c1 : w2.cell? ⟨w.heap.size + 1, 1, none⟩ = some (.int .i64 0) := by rw [hk2.cell]; rfl
  have c2 : w2.cell? ⟨w.heap.size + 1, 2, none⟩ = some (.int .i64 0) := by rw [hk2.cell]; rfl
  have y0 := hk2.frozen 0
  have y1 := hk2.frozen 1
  have y2 := hk2.frozen 2
  have HB2 := Lib.hid ((HB1.out.alloc (Nat.le_of_lt (Nat.lt_of_succ_lt z1)) (.cells #[.slice A n c, .int .i64 ((at_ : Int) + (K : Int)), .int .i64 0] 90)).trans (h5.mono (by simp; omega)))
  clear h5 hk2 a0 a1 a2 aa0 aa1 aa2 b0 b1 b2 g0 g1 g2
  go_wp2_with fail
  refine bodyPost_ret (v := .tuple #[.agg #[.slice A n c, .int .i64 ((at_ : Int)), .int .i64 3], .int .i64 0]) (by simp [results, Try.results89, go_sem, c0, c1, c2, z1]) rfl ⟨rfl, ?_⟩
  repeat (first | exact HB2.out | refine Below.drew ?_ | (refine Below.setCell ?_ (by simp) _) | (refine Below.alloc ?_ (by simp; omega) _))

set_option maxRecDepth 100000 in
set_option maxHeartbeats 2000000 in
theorem ref_rsigned_odd (bs : List Nat) (n c at_ : Nat) (A : Option Addr) (w : World) (BB : Nat) (hr : Reads w BB 1 A n (BS bs)) (hx : ∀ x ∈ bs, x < 256) (hbl : bs.length = n) (hB : BB ≤ w.heap.size) (hnc : n ≤ c) (hn : n ≤ 140737488355328) (hat : at_ ≤ n) (V K : Nat) (hV : V ≤ 4611686018427387903) (ho : (V : Int) % 2 = 1) (hrs : rs (bs.drop at_) = (V, K, 0)) :
    Calls Try.prog 89 #[.agg #[.slice A n c, .int .i64 (at_ : Int), .int .i64 0]] w fun en w' => en = .returned (.tuple #[.agg #[.slice A n c, .int .i64 ((at_ : Int) + (K : Int)), .int .i64 0], .int .i64 (-(((V : Int) / 2) + 1))]) ∧ Below w.heap.size w w' := by
  have t1 : (V : Int) / 2 < 2305843009213693952 := by omega
  have t2 : decide ((2305843009213693952 : Int) ≤ (V : Int) / 2) = false := by simp; omega
  have t3 : 0 ≤ (V : Int) / 2 := by omega
  have t5 : (V : Int) ≤ 4611686018427387903 := by omega
  have t4 : ((V : Int) % 2 == 1) = true := by rw [ho]; rfl
  clear hV
  have HR := Lib.hid hr
  have HX := Lib.hid hx
  have HL := Lib.hid hbl
  have HRS := Lib.hid hrs
  clear hr hx hbl hrs
  go_enter Try.func89, Try.ntmps89
  go_wp2_with fail
  refine (ref_rshort bs n c at_ A _ BB ((HR.out.alloc hB _).alloc (by simp; omega) _) HX.out HL.out (by simp; omega) hnc hn hat).mono ?_
  rintro en w1 ⟨⟨V', K', E', hrs', rfl⟩, h4⟩
  rw [HRS.out] at hrs'
  simp only [Prod.mk.injEq] at hrs'
  obtain ⟨rfl, rfl, rfl⟩ := hrs'
  obtain ⟨hk0, hk1, z1, hb1⟩ := boxes h4
  have a0 : w1.cell? ⟨w.heap.size, 0, none⟩ = some (.slice A n c) := by rw [hk0.cell]; rfl
  have a1 : w1.cell? ⟨w.heap.size, 1, none⟩ = some (.int .i64 (at_ : Int)) := by rw [hk0.cell]; rfl
  have a2 : w1.cell? ⟨w.heap.size, 2, none⟩ = some (.int .i64 0) := by rw [hk0.cell]; rfl
  have b0 : w1.cell? ⟨w.heap.size + 1, 0, none⟩ = some (.slice none 0 0) := by rw [hk1.cell]; rfl
  have b1 : w1.cell? ⟨w.heap.size + 1, 1, none⟩ = some (.int .i64 0) := by rw [hk1.cell]; rfl
  have b2 : w1.cell? ⟨w.heap.size + 1, 2, none⟩ = some (.int .i64 0) := by rw [hk1.cell]; rfl
  have g0 := hk1.frozen 0
  have g1 := hk1.frozen 1
  have g2 := hk1.frozen 2
  have HB1 := Lib.hid hb1
  have HK0 := Lib.hid hk0
  have HK1 := Lib.hid hk1
  have zz : w.heap.size < w1.heap.size := by omega
  have aa0 : (w1.alloc (.cells #[.slice A n c, .int .i64 ((at_ : Int) + (K : Int)), .int .i64 0] 90)).cell? ⟨w.heap.size, 0, none⟩ = some (.slice A n c) := (World.cell?_alloc_lt _ _ _ zz).trans a0
  have aa1 : (w1.alloc (.cells #[.slice A n c, .int .i64 ((at_ : Int) + (K : Int)), .int .i64 0] 90)).cell? ⟨w.heap.size, 1, none⟩ = some (.int .i64 (at_ : Int)) := (World.cell?_alloc_lt _ _ _ zz).trans a1
  have aa2 : (w1.alloc (.cells #[.slice A n c, .int .i64 ((at_ : Int) + (K : Int)), .int .i64 0] 90)).cell? ⟨w.heap.size, 2, none⟩ = some (.int .i64 0) := (World.cell?_alloc_lt _ _ _ zz).trans a2
  clear h4 hk0 hk1 hb1
  go_wp2_with fail
  refine bodyPost_ret (v := .tuple #[.agg #[.slice A n c, .int .i64 ((at_ : Int) + (K : Int)), .int .i64 0], .int .i64 (-(((V : Int) / 2) + 1))]) (by simp [results, Try.results89, go_sem, b0, b1, b2, z1]) rfl ⟨rfl, ?_⟩
  repeat (first | exact HB1.out | refine Below.drew ?_ | (refine Below.setCell ?_ (by simp) _) | (refine Below.alloc ?_ (by simp; omega) _))

set_option maxRecDepth 100000 in
set_option maxHeartbeats 2000000 in
theorem ref_rsigned_even (bs : List Nat) (n c at_ : Nat) (A : Option Addr) (w : World) (BB : Nat) (hr : Reads w BB 1 A n (BS bs)) (hx : ∀ x ∈ bs, x < 256) (hbl : bs.length = n) (hB : BB ≤ w.heap.size) (hnc : n ≤ c) (hn : n ≤ 140737488355328) (hat : at_ ≤ n) (V K : Nat) (hV : V ≤ 4611686018427387903) (ho : (V : Int) % 2 = 0) (hrs : rs (bs.drop at_) = (V, K, 0)) :
    Calls Try.prog 89 #[.agg #[.slice A n c, .int .i64 (at_ : Int), .int .i64 0]] w fun en w' => en = .returned (.tuple #[.agg #[.slice A n c, .int .i64 ((at_ : Int) + (K : Int)), .int .i64 0], .int .i64 ((V : Int) / 2)]) ∧ Below w.heap.size w w' := by
  have t1 : (V : Int) / 2 < 2305843009213693952 := by omega
  have t2 : decide ((2305843009213693952 : Int) ≤ (V : Int) / 2) = false := by simp; omega
  have t3 : 0 ≤ (V : Int) / 2 := by omega
  have t5 : (V : Int) ≤ 4611686018427387903 := by omega
  have t4 : ((V : Int) % 2 == 1) = false := by rw [ho]; rfl
  clear hV
  have HR := Lib.hid hr
  have HX := Lib.hid hx
  have HL := Lib.hid hbl
  have HRS := Lib.hid hrs
  clear hr hx hbl hrs
  go_enter Try.func89, Try.ntmps89
  go_wp2_with fail
  refine (ref_rshort bs n c at_ A _ BB ((HR.out.alloc hB _).alloc (by simp; omega) _) HX.out HL.out (by simp; omega) hnc hn hat).mono ?_
  rintro en w1 ⟨⟨V', K', E', hrs', rfl⟩, h4⟩
  rw [HRS.out] at hrs'
  simp only [Prod.mk.injEq] at hrs'
  obtain ⟨rfl, rfl, rfl⟩ := hrs'
  obtain ⟨hk0, hk1, z1, hb1⟩ := boxes h4
  have a0 : w1.cell? ⟨w.heap.size, 0, none⟩ = some (.slice A n c) := by rw [hk0.cell]; rfl
  have a1 : w1.cell? ⟨w.heap.size, 1, none⟩ = some (.int .i64 (at_ : Int)) := by rw [hk0.cell]; rfl
  have a2 : w1.cell? ⟨w.heap.size, 2, none⟩ = some (.int .i64 0) := by rw [hk0.cell]; rfl
  have b0 : w1.cell? ⟨w.heap.size + 1, 0, none⟩ = some (.slice none 0 0) := by rw [hk1.cell]; rfl
  have b1 : w1.cell? ⟨w.heap.size + 1, 1, none⟩ = some (.int .i64 0) := by rw [hk1.cell]; rfl
  have b2 : w1.cell? ⟨w.heap.size + 1, 2, none⟩ = some (.int .i64 0) := by rw [hk1.cell]; rfl
  have g0 := hk1.frozen 0
  have g1 := hk1.frozen 1
  have g2 := hk1.frozen 2
  have HB1 := Lib.hid hb1
  have HK0 := Lib.hid hk0
  have HK1 := Lib.hid hk1
  have zz : w.heap.size < w1.heap.size := by omega
  have aa0 : (w1.alloc (.cells #[.slice A n c, .int .i64 ((at_ : Int) + (K : Int)), .int .i64 0] 90)).cell? ⟨w.heap.size, 0, none⟩ = some (.slice A n c) := (World.cell?_alloc_lt _ _ _ zz).trans a0
  have aa1 : (w1.alloc (.cells #[.slice A n c, .int .i64 ((at_ : Int) + (K : Int)), .int .i64 0] 90)).cell? ⟨w.heap.size, 1, none⟩ = some (.int .i64 (at_ : Int)) := (World.cell?_alloc_lt _ _ _ zz).trans a1
  have aa2 : (w1.alloc (.cells #[.slice A n c, .int .i64 ((at_ : Int) + (K : Int)), .int .i64 0] 90)).cell? ⟨w.heap.size, 2, none⟩ = some (.int .i64 0) := (World.cell?_alloc_lt _ _ _ zz).trans a2
  clear h4 hk0 hk1 hb1
  go_wp2_with fail
  refine bodyPost_ret (v := .tuple #[.agg #[.slice A n c, .int .i64 ((at_ : Int) + (K : Int)), .int .i64 0], .int .i64 ((V : Int) / 2)]) (by simp [results, Try.results89, go_sem, b0, b1, b2, z1]) rfl ⟨rfl, ?_⟩
  repeat (first | exact HB1.out | refine Below.drew ?_ | (refine Below.setCell ?_ (by simp) _) | (refine Below.alloc ?_ (by simp; omega) _))

set_option maxRecDepth 100000 in
set_option maxHeartbeats 2000000 in
theorem ref_rlist_err (bs : List Nat) (n c at_ : Nat) (A : Option Addr) (w : World) (BB : Nat) (hr : Reads w BB 1 A n (BS bs)) (hx : ∀ x ∈ bs, x < 256) (hbl : bs.length = n) (hB : BB ≤ w.heap.size) (hnc : n ≤ c) (hn : n ≤ 140737488355328) (hat : at_ ≤ n) (most : Int) (E : Nat) (hE : E ≠ 0) (hrs : rs (bs.drop at_) = (0, 0, E)) :
    Calls Try.prog 59 #[.agg #[.slice A n c, .int .i64 (at_ : Int), .int .i64 0], .int .i64 most] w fun en w' => en = .returned (.tuple #[.agg #[.slice A n c, .int .i64 ((at_ : Int)), .int .i64 ((E : Nat) : Int)], .int .i64 0]) ∧ Below w.heap.size w w' := by
  have hE' : (((E : Nat) : Int) != 0) = true := by
    have : ¬ (((E : Nat) : Int) = 0) := by omega
    simpa using this
  clear hE
  have HR := Lib.hid hr
  have HX := Lib.hid hx
  have HL := Lib.hid hbl
  have HRS := Lib.hid hrs
  clear hr hx hbl hrs
  go_enter Try.func59, Try.ntmps59
  go_wp2_with fail
  refine (ref_rshort bs n c at_ A _ BB ((HR.out.alloc hB _).alloc (by simp; omega) _) HX.out HL.out (by simp; omega) hnc hn hat).mono ?_
  rintro en w1 ⟨⟨V', K', E', hrs', rfl⟩, h4⟩
  rw [HRS.out] at hrs'
  simp only [Prod.mk.injEq] at hrs'
  obtain ⟨rfl, rfl, rfl⟩ := hrs'
  obtain ⟨hk0, hk1, z1, hb1⟩ := boxes h4
  have a0 : w1.cell? ⟨w.heap.size, 0, none⟩ = some (.slice A n c) := by rw [hk0.cell]; rfl
  have a1 : w1.cell? ⟨w.heap.size, 1, none⟩ = some (.int .i64 (at_ : Int)) := by rw [hk0.cell]; rfl
  have a2 : w1.cell? ⟨w.heap.size, 2, none⟩ = some (.int .i64 0) := by rw [hk0.cell]; rfl
  have b0 : w1.cell? ⟨w.heap.size + 1, 0, none⟩ = some (.slice none 0 0) := by rw [hk1.cell]; rfl
  have b1 : w1.cell? ⟨w.heap.size + 1, 1, none⟩ = some (.int .i64 0) := by rw [hk1.cell]; rfl
  have b2 : w1.cell? ⟨w.heap.size + 1, 2, none⟩ = some (.int .i64 0) := by rw [hk1.cell]; rfl
  have g0 := hk1.frozen 0
  have g1 := hk1.frozen 1
  have g2 := hk1.frozen 2
  have HB1 := Lib.hid hb1
  have HK0 := Lib.hid hk0
  have HK1 := Lib.hid hk1
  have zz : w.heap.size < w1.heap.size := by omega
  have aa0 : (w1.alloc (.cells #[.slice A n c, .int .i64 (at_ : Int), .int .i64 ((E : Nat) : Int)] 90)).cell? ⟨w.heap.size, 0, none⟩ = some (.slice A n c) := (World.cell?_alloc_lt _ _ _ zz).trans a0
  have aa1 : (w1.alloc (.cells #[.slice A n c, .int .i64 (at_ : Int), .int .i64 ((E : Nat) : Int)] 90)).cell? ⟨w.heap.size, 1, none⟩ = some (.int .i64 (at_ : Int)) := (World.cell?_alloc_lt _ _ _ zz).trans a1
  have aa2 : (w1.alloc (.cells #[.slice A n c, .int .i64 (at_ : Int), .int .i64 ((E : Nat) : Int)] 90)).cell? ⟨w.heap.size, 2, none⟩ = some (.int .i64 0) := (World.cell?_alloc_lt _ _ _ zz).trans a2
  clear h4 hk0 hk1 hb1
  rw [Nat.add_zero]
  go_wp2_with fail
  refine bodyPost_ret (v := .tuple #[.agg #[.slice A n c, .int .i64 ((at_ : Int)), .int .i64 ((E : Nat) : Int)], .int .i64 0]) (by simp [results, Try.results59, go_sem, b0, b1, b2, z1]) rfl ⟨rfl, ?_⟩
  repeat (first | exact HB1.out | refine Below.drew ?_ | (refine Below.setCell ?_ (by simp) _) | (refine Below.alloc ?_ (by simp; omega) _))

set_option maxRecDepth 100000 in
set_option maxHeartbeats 2000000 in
theorem ref_rlist_most (bs : List Nat) (n c at_ : Nat) (A : Option Addr) (w : World) (BB : Nat) (hr : Reads w BB 1 A n (BS bs)) (hx : ∀ x ∈ bs, x < 256) (hbl : bs.length = n) (hB : BB ≤ w.heap.size) (hnc : n ≤ c) (hn : n ≤ 140737488355328) (hat : at_ ≤ n) (most : Int) (V K : Nat) (hV : most < (V : Int)) (hV9 : V ≤ 9223372036854775807) (hrs : rs (bs.drop at_) = (V, K, 0)) :
    Calls Try.prog 59 #[.agg #[.slice A n c, .int .i64 (at_ : Int), .int .i64 0], .int .i64 most] w fun en w' => en = .returned (.tuple #[.agg #[.slice A n c, .int .i64 ((at_ : Int)), .int .i64 3], .int .i64 0]) ∧ Below w.heap.size w w' := by
  have HR := Lib.hid hr
  have HX := Lib.hid hx
  have HL := Lib.hid hbl
  have HRS := Lib.hid hrs
  clear hr hx hbl hrs
  go_enter Try.func59, Try.ntmps59
  go_wp2_with fail
  refine (ref_rshort bs n c at_ A _ BB ((HR.out.alloc hB _).alloc (by simp; omega) _) HX.out HL.out (by simp; omega) hnc hn hat).mono ?_
  rintro en w1 ⟨⟨V', K', E', hrs', rfl⟩, h4⟩
  rw [HRS.out] at hrs'
  simp only [Prod.mk.injEq] at hrs'
  obtain ⟨rfl, rfl, rfl⟩ := hrs'
  obtain ⟨hk0, hk1, z1, hb1⟩ := boxes h4
  have a0 : w1.cell? ⟨w.heap.size, 0, none⟩ = some (.slice A n c) := by rw [hk0.cell]; rfl
  have a1 : w1.cell? ⟨w.heap.size, 1, none⟩ = some (.int .i64 (at_ : Int)) := by rw [hk0.cell]; rfl
  have a2 : w1.cell? ⟨w.heap.size, 2, none⟩ = some (.int .i64 0) := by rw [hk0.cell]; rfl
  have b0 : w1.cell? ⟨w.heap.size + 1, 0, none⟩ = some (.slice none 0 0) := by rw [hk1.cell]; rfl
  have b1 : w1.cell? ⟨w.heap.size + 1, 1, none⟩ = some (.int .i64 0) := by rw [hk1.cell]; rfl
  have b2 : w1.cell? ⟨w.heap.size + 1, 2, none⟩ = some (.int .i64 0) := by rw [hk1.cell]; rfl
  have g0 := hk1.frozen 0
  have g1 := hk1.frozen 1
  have g2 := hk1.frozen 2
  have HB1 := Lib.hid hb1
  have HK0 := Lib.hid hk0
  have HK1 := Lib.hid hk1
  have zz : w.heap.size < w1.heap.size := by omega
  have aa0 : (w1.alloc (.cells #[.slice A n c, .int .i64 ((at_ : Int) + (K : Int)), .int .i64 0] 90)).cell? ⟨w.heap.size, 0, none⟩ = some (.slice A n c) := (World.cell?_alloc_lt _ _ _ zz).trans a0
  have aa1 : (w1.alloc (.cells #[.slice A n c, .int .i64 ((at_ : Int) + (K : Int)), .int .i64 0] 90)).cell? ⟨w.heap.size, 1, none⟩ = some (.int .i64 (at_ : Int)) := (World.cell?_alloc_lt _ _ _ zz).trans a1
  have aa2 : (w1.alloc (.cells #[.slice A n c, .int .i64 ((at_ : Int) + (K : Int)), .int .i64 0] 90)).cell? ⟨w.heap.size, 2, none⟩ = some (.int .i64 0) := (World.cell?_alloc_lt _ _ _ zz).trans a2
  clear h4 hk0 hk1 hb1
  go_wp2_with fail
  refine (ref_fail n c at_ A 0 3 _).mono ?_
  rintro en w2 ⟨rfl, h5⟩
  have hk2 := (HK1.out.alloc (.cells #[.slice A n c, .int .i64 ((at_ : Int) + (K : Int)), .int .i64 0] 90)).below h5 (by simp; omega)
  have z2 := h5.size
  have c0 : w2.cell? ⟨w.heap.size + 1, 0, none⟩ = some (.slice none 0 0) := by rw [hk2.cell]; rfl
  have c1 : w2.cell? ⟨w.heap.size + 1, 1, none⟩ = some (.int .i64 0) := by rw [hk2.cell]; rfl
  have c2 : w2.cell? ⟨w.heap.size + 1, 2, none⟩ = some (.int .i64 0) := by rw [hk2.cell]; rfl
  have y0 := hk2.frozen 0
  have y1 := hk2.frozen 1
  have y2 := hk2.frozen 2
  have HB2 := Lib.hid ((HB1.out.alloc (Nat.le_of_lt (Nat.lt_of_succ_lt z1)) (.cells #[.slice A n c, .int .i64 ((at_ : Int) + (K : Int)), .int .i64 0] 90)).trans (h5.mono (by simp; omega)))
  clear h5 hk2 a0 a1 a2 aa0 aa1 aa2 b0 b1 b2 g0 g1 g2
  go_wp2_with fail
  refine bodyPost_ret (v := .tuple #[.agg #[.slice A n c, .int .i64 ((at_ : Int)), .int .i64 3], .int .i64 0]) (by simp [results, Try.results59, go_sem, c0, c1, c2, z1]) rfl ⟨rfl, ?_⟩
  repeat (first | exact HB2.out | refine Below.drew ?_ | (refine Below.setCell ?_ (by simp) _) | (refine Below.alloc ?_ (by simp; omega) _))
end

section
open Go.RowKit Plain

set_option maxRecDepth 100000 in
set_option maxHeartbeats 2000000 in
theorem ref_rlist_big (bs : List Nat) (n c at_ : Nat) (A : Option Addr) (w : World) (BB : Nat) (hr : Reads w BB 1 A n (BS bs)) (hx : ∀ x ∈ bs, x < 256) (hbl : bs.length = n) (hB : BB ≤ w.heap.size) (hnc : n ≤ c) (hn : n ≤ 140737488355328) (hat : at_ ≤ n) (most : Int) (V K : Nat) (hV : ¬ most < (V : Int)) (hK : at_ + K ≤ n) (hS : n < at_ + (K + V)) (hV9 : V ≤ 9223372036854775807) (hrs : rs (bs.drop at_) = (V, K, 0)) :
    Calls Try.prog 59 #[.agg #[.slice A n c, .int .i64 (at_ : Int), .int .i64 0], .int .i64 most] w fun en w' => en = .returned (.tuple #[.agg #[.slice A n c, .int .i64 ((at_ : Int)), .int .i64 2], .int .i64 0]) ∧ Below w.heap.size w w' := by
  have t5 : (V : Int) ≤ 9223372036854775807 := by omega
  have t6 : decide (most < (V : Int)) = false := by simpa using hV
  have t7 : (V : Int) ≤ most := by omega
  clear hV9 hV
  have HR := Lib.hid hr
  have HX := Lib.hid hx
  have HL := Lib.hid hbl
  have HRS := Lib.hid hrs
  clear hr hx hbl hrs
  go_enter Try.func59, Try.ntmps59
  go_wp2_with fail
  refine (ref_rshort bs n c at_ A _ BB ((HR.out.alloc hB _).alloc (by simp; omega) _) HX.out HL.out (by simp; omega) hnc hn hat).mono ?_
  rintro en w1 ⟨⟨V', K', E', hrs', rfl⟩, h4⟩
  rw [HRS.out] at hrs'
  simp only [Prod.mk.injEq] at hrs'
  obtain ⟨rfl, rfl, rfl⟩ := hrs'
  obtain ⟨hk0, hk1, z1, hb1⟩ := boxes h4
  have a0 : w1.cell? ⟨w.heap.size, 0, none⟩ = some (.slice A n c) := by rw [hk0.cell]; rfl
  have a1 : w1.cell? ⟨w.heap.size, 1, none⟩ = some (.int .i64 (at_ : Int)) := by rw [hk0.cell]; rfl
  have a2 : w1.cell? ⟨w.heap.size, 2, none⟩ = some (.int .i64 0) := by rw [hk0.cell]; rfl
  have b0 : w1.cell? ⟨w.heap.size + 1, 0, none⟩ = some (.slice none 0 0) := by rw [hk1.cell]; rfl
  have b1 : w1.cell? ⟨w.heap.size + 1, 1, none⟩ = some (.int .i64 0) := by rw [hk1.cell]; rfl
  have b2 : w1.cell? ⟨w.heap.size + 1, 2, none⟩ = some (.int .i64 0) := by rw [hk1.cell]; rfl
  have g0 := hk1.frozen 0
  have g1 := hk1.frozen 1
  have g2 := hk1.frozen 2
  have HB1 := Lib.hid hb1
  have HK0 := Lib.hid hk0
  have HK1 := Lib.hid hk1
  have zz : w.heap.size < w1.heap.size := by omega
  have aa0 : (w1.alloc (.cells #[.slice A n c, .int .i64 ((at_ : Int) + (K : Int)), .int .i64 0] 90)).cell? ⟨w.heap.size, 0, none⟩ = some (.slice A n c) := (World.cell?_alloc_lt _ _ _ zz).trans a0
  have aa1 : (w1.alloc (.cells #[.slice A n c, .int .i64 ((at_ : Int) + (K : Int)), .int .i64 0] 90)).cell? ⟨w.heap.size, 1, none⟩ = some (.int .i64 (at_ : Int)) := (World.cell?_alloc_lt _ _ _ zz).trans a1
  have aa2 : (w1.alloc (.cells #[.slice A n c, .int .i64 ((at_ : Int) + (K : Int)), .int .i64 0] 90)).cell? ⟨w.heap.size, 2, none⟩ = some (.int .i64 0) := (World.cell?_alloc_lt _ _ _ zz).trans a2
  clear h4 hk0 hk1 hb1
  go_wp2_with fail
  obtain ⟨m2, hm2⟩ : ∃ m2, m2 = n - (at_ + K) := ⟨_, rfl⟩
  have HLf := ref_left bs n c (at_ + K) A 0 (w1.alloc (.cells #[.slice A n c, .int .i64 ((at_ : Int) + (K : Int)), .int .i64 0] 90)) BB (((HR.out.keep (w' := w1) fun q hq => HB1.out.cell (by omega)).alloc (by have := HB1.out.size; omega) _)) hnc (by omega) hn
  rw [show (((at_ + K : Nat)) : Int) = (at_ : Int) + (K : Int) by omega, ← hm2] at HLf
  refine HLf.mono ?_
  rintro en w2 ⟨A2, c2, rfl, h2, h3, h4⟩
  have z2 : w1.heap.size + 1 ≤ w2.heap.size := by have := h4.size; simp at this; exact this
  have hkx := (Blk.new w1 90 #[.slice A n c, .int .i64 ((at_ : Int) + (K : Int)), .int .i64 0]).below h4 (by simp)
  have hka := (HK0.out.alloc (.cells #[.slice A n c, .int .i64 ((at_ : Int) + (K : Int)), .int .i64 0] 90)).below h4 (by simp; omega)
  have hkb := (HK1.out.alloc (.cells #[.slice A n c, .int .i64 ((at_ : Int) + (K : Int)), .int .i64 0] 90)).below h4 (by simp; omega)
  have hb2 : Below w.heap.size w w2 := (HB1.out.alloc (Nat.le_of_lt zz) (.cells #[.slice A n c, .int .i64 ((at_ : Int) + (K : Int)), .int .i64 0] 90)).trans (h4.mono (by simp; omega))
  clear a0 a1 a2 aa0 aa1 aa2 b0 b1 b2 g0 g1 g2 HLf h2 h4
  have a0 : w2.cell? ⟨w.heap.size, 0, none⟩ = some (.slice A n c) := by rw [hka.cell]; rfl
  have a1 : w2.cell? ⟨w.heap.size, 1, none⟩ = some (.int .i64 (at_ : Int)) := by rw [hka.cell]; rfl
  have a2 : w2.cell? ⟨w.heap.size, 2, none⟩ = some (.int .i64 0) := by rw [hka.cell]; rfl
  have x0 : w2.cell? ⟨w1.heap.size, 0, none⟩ = some (.slice A n c) := by rw [hkx.cell]; rfl
  have x1 : w2.cell? ⟨w1.heap.size, 1, none⟩ = some (.int .i64 ((at_ : Int) + (K : Int))) := by rw [hkx.cell]; rfl
  have x2 : w2.cell? ⟨w1.heap.size, 2, none⟩ = some (.int .i64 0) := by rw [hkx.cell]; rfl
  have b0 : w2.cell? ⟨w.heap.size + 1, 0, none⟩ = some (.slice none 0 0) := by rw [hkb.cell]; rfl
  have b1 : w2.cell? ⟨w.heap.size + 1, 1, none⟩ = some (.int .i64 0) := by rw [hkb.cell]; rfl
  have b2 : w2.cell? ⟨w.heap.size + 1, 2, none⟩ = some (.int .i64 0) := by rw [hkb.cell]; rfl
  have g0 := hkb.frozen 0
  have g1 := hkb.frozen 1
  have g2 := hkb.frozen 2
  have HK1b := Lib.hid hkb
  have HB2 := Lib.hid hb2
  have HM2 := Lib.hid hm2
  have t8 : decide (m2 < V) = true := by simp; omega
  have t9 : (m2 : Int) < (V : Int) := by omega
  clear hkx hka hkb hb2 hm2 h3
  go_wp2_with fail
  refine (ref_fail n c at_ A 0 2 _).mono ?_
  rintro en w3 ⟨rfl, h5⟩
  have hk2 := HK1b.out.below h5 HK1b.out.lt
  have z3 := h5.size
  have c0 : w3.cell? ⟨w.heap.size + 1, 0, none⟩ = some (.slice none 0 0) := by rw [hk2.cell]; rfl
  have c1 : w3.cell? ⟨w.heap.size + 1, 1, none⟩ = some (.int .i64 0) := by rw [hk2.cell]; rfl
  have c2' : w3.cell? ⟨w.heap.size + 1, 2, none⟩ = some (.int .i64 0) := by rw [hk2.cell]; rfl
  have y0 := hk2.frozen 0
  have y1 := hk2.frozen 1
  have y2 := hk2.frozen 2
  have HB3 := Lib.hid (HB2.out.trans (h5.mono HB2.out.size))
  clear h5 hk2 a0 a1 a2 x0 x1 x2 b0 b1 b2 g0 g1 g2
  go_wp2_with fail
  refine bodyPost_ret (v := .tuple #[.agg #[.slice A n c, .int .i64 ((at_ : Int)), .int .i64 2], .int .i64 0]) (by simp [results, Try.results59, go_sem, c0, c1, c2']) rfl ⟨rfl, ?_⟩
  repeat (first | exact HB3.out | refine Below.drew ?_ | (refine Below.setCell ?_ (by simp) _) | (refine Below.setCell ?_ (by simp; omega) _) | (refine Below.alloc ?_ (by simp; omega) _))

set_option maxRecDepth 100000 in
set_option maxHeartbeats 2000000 in
theorem ref_rlist_yes (bs : List Nat) (n c at_ : Nat) (A : Option Addr) (w : World) (BB : Nat) (hr : Reads w BB 1 A n (BS bs)) (hx : ∀ x ∈ bs, x < 256) (hbl : bs.length = n) (hB : BB ≤ w.heap.size) (hnc : n ≤ c) (hn : n ≤ 140737488355328) (hat : at_ ≤ n) (most : Int) (V K : Nat) (hV : ¬ most < (V : Int)) (hS : at_ + (K + V) ≤ n) (hrs : rs (bs.drop at_) = (V, K, 0)) :
    Calls Try.prog 59 #[.agg #[.slice A n c, .int .i64 (at_ : Int), .int .i64 0], .int .i64 most] w fun en w' => en = .returned (.tuple #[.agg #[.slice A n c, .int .i64 ((at_ : Int) + (K : Int)), .int .i64 0], .int .i64 (V : Int)]) ∧ Below w.heap.size w w' := by
  have hK : at_ + K ≤ n := by omega
  have t6 : decide (most < (V : Int)) = false := by simpa using hV
  have t7 : (V : Int) ≤ most := by omega
  clear hV
  have HR := Lib.hid hr
  have HX := Lib.hid hx
  have HL := Lib.hid hbl
  have HRS := Lib.hid hrs
  clear hr hx hbl hrs
  go_enter Try.func59, Try.ntmps59
  go_wp2_with fail
  refine (ref_rshort bs n c at_ A _ BB ((HR.out.alloc hB _).alloc (by simp; omega) _) HX.out HL.out (by simp; omega) hnc hn hat).mono ?_
  rintro en w1 ⟨⟨V', K', E', hrs', rfl⟩, h4⟩
  rw [HRS.out] at hrs'
  simp only [Prod.mk.injEq] at hrs'
  obtain ⟨rfl, rfl, rfl⟩ := hrs'
  obtain ⟨hk0, hk1, z1, hb1⟩ := boxes h4
  have a0 : w1.cell? ⟨w.heap.size, 0, none⟩ = some (.slice A n c) := by rw [hk0.cell]; rfl
  have a1 : w1.cell? ⟨w.heap.size, 1, none⟩ = some (.int .i64 (at_ : Int)) := by rw [hk0.cell]; rfl
  have a2 : w1.cell? ⟨w.heap.size, 2, none⟩ = some (.int .i64 0) := by rw [hk0.cell]; rfl
  have b0 : w1.cell? ⟨w.heap.size + 1, 0, none⟩ = some (.slice none 0 0) := by rw [hk1.cell]; rfl
  have b1 : w1.cell? ⟨w.heap.size + 1, 1, none⟩ = some (.int .i64 0) := by rw [hk1.cell]; rfl
  have b2 : w1.cell? ⟨w.heap.size + 1, 2, none⟩ = some (.int .i64 0) := by rw [hk1.cell]; rfl
  have g0 := hk1.frozen 0
  have g1 := hk1.frozen 1
  have g2 := hk1.frozen 2
  have HB1 := Lib.hid hb1
  have HK0 := Lib.hid hk0
  have HK1 := Lib.hid hk1
  have zz : w.heap.size < w1.heap.size := by omega
  have aa0 : (w1.alloc (.cells #[.slice A n c, .int .i64 ((at_ : Int) + (K : Int)), .int .i64 0] 90)).cell? ⟨w.heap.size, 0, none⟩ = some (.slice A n c) := (World.cell?_alloc_lt _ _ _ zz).trans a0
  have aa1 : (w1.alloc (.cells #[.slice A n c, .int .i64 ((at_ : Int) + (K : Int)), .int .i64 0] 90)).cell? ⟨w.heap.size, 1, none⟩ = some (.int .i64 (at_ : Int)) := (World.cell?_alloc_lt _ _ _ zz).trans a1
  have aa2 : (w1.alloc (.cells #[.slice A n c, .int .i64 ((at_ : Int) + (K : Int)), .int .i64 0] 90)).cell? ⟨w.heap.size, 2, none⟩ = some (.int .i64 0) := (World.cell?_alloc_lt _ _ _ zz).trans a2
  clear h4 hk0 hk1 hb1
  go_wp2_with fail
  obtain ⟨m2, hm2⟩ : ∃ m2, m2 = n - (at_ + K) := ⟨_, rfl⟩
  have HLf := ref_left bs n c (at_ + K) A 0 (w1.alloc (.cells #[.slice A n c, .int .i64 ((at_ : Int) + (K : Int)), .int .i64 0] 90)) BB (((HR.out.keep (w' := w1) fun q hq => HB1.out.cell (by omega)).alloc (by have := HB1.out.size; omega) _)) hnc (by omega) hn
  rw [show (((at_ + K : Nat)) : Int) = (at_ : Int) + (K : Int) by omega, ← hm2] at HLf
  refine HLf.mono ?_
  rintro en w2 ⟨A2, c2, rfl, h2, h3, h4⟩
  have z2 : w1.heap.size + 1 ≤ w2.heap.size := by have := h4.size; simp at this; exact this
  have hkx := (Blk.new w1 90 #[.slice A n c, .int .i64 ((at_ : Int) + (K : Int)), .int .i64 0]).below h4 (by simp)
  have hka := (HK0.out.alloc (.cells #[.slice A n c, .int .i64 ((at_ : Int) + (K : Int)), .int .i64 0] 90)).below h4 (by simp; omega)
  have hkb := (HK1.out.alloc (.cells #[.slice A n c, .int .i64 ((at_ : Int) + (K : Int)), .int .i64 0] 90)).below h4 (by simp; omega)
  have hb2 : Below w.heap.size w w2 := (HB1.out.alloc (Nat.le_of_lt zz) (.cells #[.slice A n c, .int .i64 ((at_ : Int) + (K : Int)), .int .i64 0] 90)).trans (h4.mono (by simp; omega))
  clear a0 a1 a2 aa0 aa1 aa2 b0 b1 b2 g0 g1 g2 HLf h2 h4
  have a0 : w2.cell? ⟨w.heap.size, 0, none⟩ = some (.slice A n c) := by rw [hka.cell]; rfl
  have a1 : w2.cell? ⟨w.heap.size, 1, none⟩ = some (.int .i64 (at_ : Int)) := by rw [hka.cell]; rfl
  have a2 : w2.cell? ⟨w.heap.size, 2, none⟩ = some (.int .i64 0) := by rw [hka.cell]; rfl
  have x0 : w2.cell? ⟨w1.heap.size, 0, none⟩ = some (.slice A n c) := by rw [hkx.cell]; rfl
  have x1 : w2.cell? ⟨w1.heap.size, 1, none⟩ = some (.int .i64 ((at_ : Int) + (K : Int))) := by rw [hkx.cell]; rfl
  have x2 : w2.cell? ⟨w1.heap.size, 2, none⟩ = some (.int .i64 0) := by rw [hkx.cell]; rfl
  have b0 : w2.cell? ⟨w.heap.size + 1, 0, none⟩ = some (.slice none 0 0) := by rw [hkb.cell]; rfl
  have b1 : w2.cell? ⟨w.heap.size + 1, 1, none⟩ = some (.int .i64 0) := by rw [hkb.cell]; rfl
  have b2 : w2.cell? ⟨w.heap.size + 1, 2, none⟩ = some (.int .i64 0) := by rw [hkb.cell]; rfl
  have g0 := hkb.frozen 0
  have g1 := hkb.frozen 1
  have g2 := hkb.frozen 2
  have HK1b := Lib.hid hkb
  have HB2 := Lib.hid hb2
  have HM2 := Lib.hid hm2
  have t8 : decide (m2 < V) = false := by simp; omega
  have t9 : (V : Int) ≤ (m2 : Int) := by omega
  clear hkx hka hkb hb2 hm2 h3
  go_wp2_with fail
  refine bodyPost_ret (v := .tuple #[.agg #[.slice A n c, .int .i64 ((at_ : Int) + (K : Int)), .int .i64 0], .int .i64 (V : Int)]) (by simp [results, Try.results59, go_sem, b0, b1, b2]) rfl ⟨rfl, ?_⟩
  repeat (first | exact HB2.out | refine Below.drew ?_ | (refine Below.setCell ?_ (by simp) _) | (refine Below.setCell ?_ (by simp; omega) _) | (refine Below.alloc ?_ (by simp; omega) _))

end

section
open Go.RowKit Plain

set_option maxRecDepth 100000 in
set_option maxHeartbeats 1000000 in
theorem ref_rsigned_stop (n c at_ : Nat) (A : Option Addr) (e : Int) (w : World)  (h : e ≠ 0) :
    Calls Try.prog 89 #[.agg #[.slice A n c, .int .i64 (at_ : Int), .int .i64 e]] w fun en w' => en = .returned (.tuple #[.agg #[.slice A n c, .int .i64 ((at_ : Int)), .int .i64 e], .int .i64 0]) ∧ Below w.heap.size w w' := by
  have he' : (e != 0) = true := by simpa using h
  have H := Lib.hid h
  clear h
  go_enter Try.func89, Try.ntmps89
  go_wp2_with fail
  refine (ref_rshort_stop n c at_ A e _ H.out).mono ?_
  rintro en w1 ⟨rfl, h4⟩
  obtain ⟨hk0, hk1, z1, hb1⟩ := boxes h4
  have b0 : w1.cell? ⟨w.heap.size + 1, 0, none⟩ = some (.slice none 0 0) := by rw [hk1.cell]; rfl
  have b1 : w1.cell? ⟨w.heap.size + 1, 1, none⟩ = some (.int .i64 0) := by rw [hk1.cell]; rfl
  have b2 : w1.cell? ⟨w.heap.size + 1, 2, none⟩ = some (.int .i64 0) := by rw [hk1.cell]; rfl
  have g0 := hk1.frozen 0
  have g1 := hk1.frozen 1
  have g2 := hk1.frozen 2
  have HB1 := Lib.hid hb1
  clear h4 hk0 hk1 hb1
  go_wp2_with fail
  refine bodyPost_ret (v := .tuple #[.agg #[.slice A n c, .int .i64 ((at_ : Int)), .int .i64 e], .int .i64 0]) (by simp [results, Try.results89, go_sem, b0, b1, b2, z1]) rfl ⟨rfl, ?_⟩
  repeat (first | exact HB1.out | refine Below.drew ?_ | (refine Below.setCell ?_ (by simp) _) | (refine Below.alloc ?_ (by simp; omega) _))

set_option maxRecDepth 100000 in
set_option maxHeartbeats 1000000 in
theorem ref_rlist_stop (n c at_ : Nat) (A : Option Addr) (e : Int) (w : World) (most : Int) (h : e ≠ 0) :
    Calls Try.prog 59 #[.agg #[.slice A n c, .int .i64 (at_ : Int), .int .i64 e], .int .i64 most] w fun en w' => en = .returned (.tuple #[.agg #[.slice A n c, .int .i64 ((at_ : Int)), .int .i64 e], .int .i64 0]) ∧ Below w.heap.size w w' := by
  have he' : (e != 0) = true := by simpa using h
  have H := Lib.hid h
  clear h
  go_enter Try.func59, Try.ntmps59
  go_wp2_with fail
  refine (ref_rshort_stop n c at_ A e _ H.out).mono ?_
  rintro en w1 ⟨rfl, h4⟩
  obtain ⟨hk0, hk1, z1, hb1⟩ := boxes h4
  have b0 : w1.cell? ⟨w.heap.size + 1, 0, none⟩ = some (.slice none 0 0) := by rw [hk1.cell]; rfl
  have b1 : w1.cell? ⟨w.heap.size + 1, 1, none⟩ = some (.int .i64 0) := by rw [hk1.cell]; rfl
  have b2 : w1.cell? ⟨w.heap.size + 1, 2, none⟩ = some (.int .i64 0) := by rw [hk1.cell]; rfl
  have g0 := hk1.frozen 0
  have g1 := hk1.frozen 1
  have g2 := hk1.frozen 2
  have HB1 := Lib.hid hb1
  clear h4 hk0 hk1 hb1
  go_wp2_with fail
  refine bodyPost_ret (v := .tuple #[.agg #[.slice A n c, .int .i64 ((at_ : Int)), .int .i64 e], .int .i64 0]) (by simp [results, Try.results59, go_sem, b0, b1, b2, z1]) rfl ⟨rfl, ?_⟩
  repeat (first | exact HB1.out | refine Below.drew ?_ | (refine Below.setCell ?_ (by simp) _) | (refine Below.alloc ?_ (by simp; omega) _))

set_option maxRecDepth 100000 in
set_option maxHeartbeats 1000000 in
theorem ref_fixed_stop (n c at_ m : Nat) (A : Option Addr) (e : Int) (w : World) (h : e ≠ 0) :
    Calls Try.prog 88 #[.agg #[.slice A n c, .int .i64 (at_ : Int), .int .i64 e], .int .i64 (m : Int)] w fun en w' => en = .returned (.tuple #[.agg #[.slice A n c, .int .i64 (at_ : Int), .int .i64 e], .int .u64 0]) ∧ Below w.heap.size w w' := by
  have H := Lib.hid h
  clear h
  go_enter Try.func88, Try.ntmps88
  go_wp2_with fail
  refine (ref_raw_stop n c at_ A e (m : Int) _ (.inl H.out)).mono ?_
  rintro en w1 ⟨rfl, h4⟩
  obtain ⟨hk0, hk1, z1, hb1⟩ := boxes h4
  have b0 : w1.cell? ⟨w.heap.size + 1, 0, none⟩ = some (.slice none 0 0) := by rw [hk1.cell]; rfl
  have b1 : w1.cell? ⟨w.heap.size + 1, 1, none⟩ = some (.int .i64 0) := by rw [hk1.cell]; rfl
  have b2 : w1.cell? ⟨w.heap.size + 1, 2, none⟩ = some (.int .i64 0) := by rw [hk1.cell]; rfl
  have g0 := hk1.frozen 0
  have g1 := hk1.frozen 1
  have g2 := hk1.frozen 2
  have HB1 := Lib.hid hb1
  clear h4 hk0 hk1 hb1
  go_wp2_with fail
  refine wp_loop_rounds 1 ?_
  rw [rounds_succ]
  go_wp2_with fail
  refine bodyPost_ret (v := .tuple #[.agg #[.slice A n c, .int .i64 (at_ : Int), .int .i64 e], .int .u64 0]) (by simp [results, Try.results88, go_sem, b0, b1, b2, z1]) rfl ⟨rfl, ?_⟩
  repeat (first | exact HB1.out | refine Below.drew ?_ | (refine Below.setCell ?_ (by simp) _) | (refine Below.alloc ?_ (by simp; omega) _))

set_option maxRecDepth 100000 in
set_option maxHeartbeats 1000000 in
theorem ref_fixed_no (bs : List Nat) (n c at_ m : Nat) (A : Option Addr) (w : World) (BB : Nat) (hr : Reads w BB 1 A n (BS bs)) (hB : BB ≤ w.heap.size) (hnc : n ≤ c) (hn : n ≤ 140737488355328) (hat : at_ ≤ n) (hx : n < at_ + m) :
    Calls Try.prog 88 #[.agg #[.slice A n c, .int .i64 (at_ : Int), .int .i64 0], .int .i64 (m : Int)] w fun en w' => en = .returned (.tuple #[.agg #[.slice A n c, .int .i64 (at_ : Int), .int .i64 2], .int .u64 0]) ∧ Below w.heap.size w w' := by
  have HR := Lib.hid hr
  clear hr
  go_enter Try.func88, Try.ntmps88
  go_wp2_with fail
  refine (ref_raw_no bs n c at_ (m : Int) A _ BB ((HR.out.alloc hB _).alloc (by simp; omega) _) (by simp; omega) hnc hn hat (by omega)).mono ?_
  rintro en w1 ⟨rfl, h4⟩
  obtain ⟨hk0, hk1, z1, hb1⟩ := boxes h4
  have b0 : w1.cell? ⟨w.heap.size + 1, 0, none⟩ = some (.slice none 0 0) := by rw [hk1.cell]; rfl
  have b1 : w1.cell? ⟨w.heap.size + 1, 1, none⟩ = some (.int .i64 0) := by rw [hk1.cell]; rfl
  have b2 : w1.cell? ⟨w.heap.size + 1, 2, none⟩ = some (.int .i64 0) := by rw [hk1.cell]; rfl
  have g0 := hk1.frozen 0
  have g1 := hk1.frozen 1
  have g2 := hk1.frozen 2
  have HB1 := Lib.hid hb1
  clear h4 hk0 hk1 hb1
  go_wp2_with fail
  refine wp_loop_rounds 1 ?_
  rw [rounds_succ]
  go_wp2_with fail
  refine bodyPost_ret (v := .tuple #[.agg #[.slice A n c, .int .i64 (at_ : Int), .int .i64 2], .int .u64 0]) (by simp [results, Try.results88, go_sem, b0, b1, b2, z1]) rfl ⟨rfl, ?_⟩
  repeat (first | exact HB1.out | refine Below.drew ?_ | (refine Below.setCell ?_ (by simp) _) | (refine Below.alloc ?_ (by simp; omega) _))

set_option maxHeartbeats 400000 in
theorem rd_end_form (base g : Nat) (v : Value) (bs : List Nat) (at_ : Nat) (w : World) (hR : Rd w base g v bs at_ 0) (hlen : bs.length ≤ 140737488355328) (h : at_ < bs.length) :
    Calls Try.prog 50 #[.pointer (some ⟨g, 0, none⟩)] w fun en w' => en = .returned (.int .i64 3) ∧ ∃ k, RdStep base g v bs (at_, 3) (w.drewN k) w' := by
  have HR := Lib.hid hR
  have hi : decide ((0 : Int) < (bs.length : Int) - (at_ : Int)) = true := by simp; omega
  have hi2 : (0 : Int) < (bs.length : Int) - (at_ : Int) := by omega
  clear hR
  go_enter Try.func50, Try.ntmps50
  go_wp2_with fail
  refine (rd_left _ _ _ _ _ _ _ HR.out hlen).mono ?_
  rintro en w1 ⟨rfl, k, rfl⟩
  go_wp2_with fail
  refine (rd_fail _ _ _ _ _ 0 3 _ (HR.out.drewN k)).mono ?_
  rintro en w2 ⟨rfl, hR2⟩
  rw [if_pos rfl] at hR2
  obtain ⟨_, _, c2, _⟩ := cell_at hR2.1
  have HR2 := Lib.hid hR2
  clear hR2
  go_wp2_with fail
  go_ret
  exact ⟨rfl, k, HR2.out⟩
end
end Go.Proofs.Ytmjbfobjndiecaa
