/-
  The document's own reader: a fixed number.
-/
import Derived.Test.YtnhibnjgdkpomaaRefRd
namespace Go.Proofs.Ytnhibnjgdkpomaa
open Go.RowKit Plain

theorem refx_lt {l : List Nat} {m j : Nat} (hl : l.length = m) (hx : ∀ x ∈ l, x < 256) (hj : j ≤ m) (hm : m ≤ 8) (h1 : 1 ≤ j) : leV (l.drop j) < 72057594037927936 := by
  have h := leV_lt (l.drop j) (fun x h => hx x (List.mem_of_mem_drop h))
  rw [List.length_drop, hl] at h
  have h2 : 256 ^ (m - j) ≤ 256 ^ 7 := Nat.pow_le_pow_right (by omega) (by omega)
  have e : (256 : Nat) ^ 7 = 72057594037927936 := by decide
  omega
theorem leV_drop {l : List Nat} {j : Nat} {x : Nat} (h : l[j]? = some x) : leV (l.drop j) = x + 256 * leV (l.drop (j + 1)) := by
  obtain ⟨hlt, rfl⟩ := List.getElem?_eq_some_iff.1 h
  rw [List.drop_eq_getElem_cons hlt, leV]

def RfRel (l : List Nat) (m : Nat) (a s : Value) : Prop := ∃ j V : Nat, j ≤ m ∧ s = .int .i64 ((j : Int) - 1) ∧ a = .int .u64 (V : Int) ∧ Hid (V = leV (l.drop j))

set_option maxRecDepth 100000 in
set_option maxHeartbeats 1000000 in
theorem ref_fixed_yes (bs : List Nat) (n c at_ m : Nat) (A : Option Addr) (w : World) (BB : Nat) (hr : Reads w BB 1 A n (BS bs)) (hx : ∀ x ∈ bs, x < 256) (hbl : bs.length = n) (hB : BB ≤ w.heap.size) (hnc : n ≤ c) (hn : n ≤ 140737488355328) (hm : at_ + m ≤ n) (hm8 : m ≤ 8) :
    Calls Try.prog 40 #[.agg #[.slice A n c, .int .i64 (at_ : Int), .int .i64 0], .int .i64 (m : Int)] w fun en w' => en = .returned (.tuple #[.agg #[.slice A n c, .int .i64 ((at_ : Int) + (m : Int)), .int .i64 0], .int .u64 (leV ((bs.drop at_).take m) : Int)]) ∧ Below w.heap.size w w' := by
  have HR := Lib.hid hr
  have hlm : ((bs.drop at_).take m).length = m := by simp; omega
  have HL := Lib.hid hlm
  have HX : Hid (∀ x ∈ (bs.drop at_).take m, x < 256) := fun x h => hx x (List.mem_of_mem_drop (List.mem_of_mem_take h))
  clear hr hx hlm
  go_enter Try.func40, Try.ntmps40
  go_wp2_with fail
  refine (ref_raw_yes bs n c at_ m A _ BB ((HR.out.alloc hB _).alloc (by simp; omega) _) (by simp; omega) hnc hn hm).mono ?_
  rintro e w1 ⟨A', c', rfl, h2, h3, h4⟩
  obtain ⟨hk0, hk1, z1, hb1⟩ := boxes h4
  have HC := Lib.hid (((h2.more (B' := ((w.alloc (.cells #[.slice A n c, .int .i64 (at_ : Int), .int .i64 0] 34)).alloc (.cells #[.slice none 0 0, .int .i64 0, .int .i64 0] 34)).heap.size) (by simp; omega)).below h4))
  generalize hl : (bs.drop at_).take m = l at HL HX HC
  have HLL := Lib.hid hl
  have HB1 := Lib.hid hb1
  have HK1 := Lib.hid hk1
  clear h2 h4 hk0 hk1 hb1 hl
  go_wp2_with fail
  go_loop [8, 9] (fun a s => RfRel l m a s) (fun _ s => (intOf s + 1).toNat)
  case atStart => exact ⟨m, 0, by omega, rfl, rfl, by show 0 = leV _; rw [List.drop_of_length_le (by rw [HL.out]; omega)]; rfl⟩
  case round =>
    obtain ⟨j, V, hj, rfl, rfl, hV⟩ := hrel
    by_cases hj0 : 1 ≤ j
    · obtain ⟨i, rfl⟩ : ∃ i, j = i + 1 := ⟨j - 1, by omega⟩
      have HC2 := HC.out.alloc (show _ ≤ w1.heap.size by simp; omega) (.cells #[.slice A n c, .int .i64 ((at_ : Int) + (m : Int)), .int .i64 0] 34)
      obtain ⟨ad, u, rfl, _, hu, hcell⟩ := HC2.at_ (show i < m by omega)
      obtain ⟨x, hx, rfl⟩ : ∃ x : Nat, l[i]? = some x ∧ .int .u8 (x : Int) = u := by
        simp [BS, B] at hu
        exact hu
      have hx256 : x < 256 := HX.out x (List.mem_of_getElem? hx)
      have hVl : V < 72057594037927936 := by rw [hV.out]; exact refx_lt HL.out HX.out (by omega) hm8 (by omega)
      have HXX := Lib.hid hx
      rw [show ((i + 1 : Nat) : Int) - 1 = (i : Int) by omega]
      clear HC2 hu hx
      go_wp2_with fail
      refine ⟨⟨i, x + 256 * V, by omega, by go_num, by go_num, by show _ = leV _; rw [leV_drop HXX.out, hV.out]⟩, by simp [intOf]⟩
    · obtain rfl : j = 0 := by omega
      have hVe : V = leV l := by have := hV.out; simpa using this
      have HVE := Lib.hid hVe
      have b0 : w1.cell? ⟨w.heap.size + 1, 0, none⟩ = some (.slice none 0 0) := by rw [HK1.out.cell]; rfl
      have b1 : w1.cell? ⟨w.heap.size + 1, 1, none⟩ = some (.int .i64 0) := by rw [HK1.out.cell]; rfl
      have b2 : w1.cell? ⟨w.heap.size + 1, 2, none⟩ = some (.int .i64 0) := by rw [HK1.out.cell]; rfl
      have g0 := HK1.out.frozen 0
      have g1 := HK1.out.frozen 1
      have g2 := HK1.out.frozen 2
      clear hVe
      go_wp2_with fail
      refine bodyPost_ret (v := .tuple #[.agg #[.slice A n c, .int .i64 ((at_ : Int) + (m : Int)), .int .i64 0], .int .u64 (V : Int)]) (by simp [results, Try.results40, go_sem, b0, b1, b2, z1]) rfl ⟨by rw [HVE.out, HLL.out], ?_⟩
      repeat (first | exact HB1.out | refine Below.drew ?_ | (refine Below.setCell ?_ (by simp) _) | (refine Below.alloc ?_ (by simp; omega) _))
end Go.Proofs.Ytnhibnjgdkpomaa
