/-
  The document's own reader: a text, a list's number in full.
-/
import Derived.Test.YtnhibnjgdkpomaaRefSg
namespace Go.Proofs.Ytnhibnjgdkpomaa
open Go.RowKit Plain
set_option linter.unusedVariables false
set_option linter.unusedSimpArgs false

set_option maxRecDepth 100000 in
set_option maxHeartbeats 2000000 in
theorem ref_rlist_big (bs : List Nat) (n c at_ : Nat) (A : Option Addr) (w : World) (BB : Nat) (hr : Reads w BB 1 A n (BS bs)) (hx : ∀ x ∈ bs, x < 256) (hbl : bs.length = n) (hB : BB ≤ w.heap.size) (hnc : n ≤ c) (hn : n ≤ 140737488355328) (hat : at_ ≤ n) (most : Int) (V K : Nat) (hV : ¬ most < (V : Int)) (hK : at_ + K ≤ n) (hS : n < at_ + (K + V)) (hV9 : V ≤ 9223372036854775807) (hrs : rs (bs.drop at_) = (V, K, 0)) :
    Calls Try.prog 44 #[.agg #[.slice A n c, .int .i64 (at_ : Int), .int .i64 0], .int .i64 most] w fun en w' => en = .returned (.tuple #[.agg #[.slice A n c, .int .i64 ((at_ : Int)), .int .i64 2], .int .i64 0]) ∧ Below w.heap.size w w' := by
  have t5 : (V : Int) ≤ 9223372036854775807 := by omega
  have t6 : decide (most < (V : Int)) = false := by simpa using hV
  have t7 : (V : Int) ≤ most := by omega
  clear hV9 hV
  have HR := Lib.hid hr
  have HX := Lib.hid hx
  have HL := Lib.hid hbl
  have HRS := Lib.hid hrs
  clear hr hx hbl hrs
  go_enter Try.func44, Try.ntmps44
  go_wp2_with fail
  refine (ref_rshort bs n c at_ A _ BB ((HR.out.alloc hB _).alloc (by simp; omega) _) HX.out HL.out (by simp; omega) hnc hn hat).mono ?_
  rintro en w1 ⟨⟨V', K', E', hrs', rfl⟩, h4⟩
  rw [HRS.out] at hrs'
  simp only [Prod.mk.injEq] at hrs'
  obtain ⟨rfl, rfl, rfl⟩ := hrs'
  obtain ⟨hk0, hk1, z1, hb1⟩ := boxes h4
  have a0 : w1.cell? ⟨w.heap.size, 0, none⟩ = some (.slice A n c) := by rw [hk0.cell]; rfl
  have a1 : w1.cell? ⟨w.heap.size, 1, none⟩ = some (.int .i64 (at_ : Int)) := by rw [hk0.cell]; rfl
  have a2 : w1.cell? ⟨w.heap.size, 2, none⟩ = some (.int .i64 0) := by rw [hk0.cell]; rfl
  have b0 : w1.cell? ⟨w.heap.size + 1, 0, none⟩ = some (.slice none 0 0) := by rw [hk1.cell]; rfl
  have b1 : w1.cell? ⟨w.heap.size + 1, 1, none⟩ = some (.int .i64 0) := by rw [hk1.cell]; rfl
  have b2 : w1.cell? ⟨w.heap.size + 1, 2, none⟩ = some (.int .i64 0) := by rw [hk1.cell]; rfl
  have g0 := hk1.frozen 0
  have g1 := hk1.frozen 1
  have g2 := hk1.frozen 2
  have HB1 := Lib.hid hb1
  have HK0 := Lib.hid hk0
  have HK1 := Lib.hid hk1
  have zz : w.heap.size < w1.heap.size := by omega
  have aa0 : (w1.alloc (.cells #[.slice A n c, .int .i64 ((at_ : Int) + (K : Int)), .int .i64 0] 34)).cell? ⟨w.heap.size, 0, none⟩ = some (.slice A n c) := (World.cell?_alloc_lt _ _ _ zz).trans a0
  have aa1 : (w1.alloc (.cells #[.slice A n c, .int .i64 ((at_ : Int) + (K : Int)), .int .i64 0] 34)).cell? ⟨w.heap.size, 1, none⟩ = some (.int .i64 (at_ : Int)) := (World.cell?_alloc_lt _ _ _ zz).trans a1
  have aa2 : (w1.alloc (.cells #[.slice A n c, .int .i64 ((at_ : Int) + (K : Int)), .int .i64 0] 34)).cell? ⟨w.heap.size, 2, none⟩ = some (.int .i64 0) := (World.cell?_alloc_lt _ _ _ zz).trans a2
  clear h4 hk0 hk1 hb1
  go_wp2_with fail
  obtain ⟨m2, hm2⟩ : ∃ m2, m2 = n - (at_ + K) := ⟨_, rfl⟩
  have HLf := ref_left bs n c (at_ + K) A 0 (w1.alloc (.cells #[.slice A n c, .int .i64 ((at_ : Int) + (K : Int)), .int .i64 0] 34)) BB (((HR.out.keep (w' := w1) fun q hq => HB1.out.cell (by omega)).alloc (by have := HB1.out.size; omega) _)) hnc (by omega) hn
  rw [show (((at_ + K : Nat)) : Int) = (at_ : Int) + (K : Int) by omega, ← hm2] at HLf
  refine HLf.mono ?_
  rintro en w2 ⟨A2, c2, rfl, h2, h3, h4⟩
  have z2 : w1.heap.size + 1 ≤ w2.heap.size := by have := h4.size; simp at this; exact this
  have hkx := (Blk.new w1 34 #[.slice A n c, .int .i64 ((at_ : Int) + (K : Int)), .int .i64 0]).below h4 (by simp)
  have hka := (HK0.out.alloc (.cells #[.slice A n c, .int .i64 ((at_ : Int) + (K : Int)), .int .i64 0] 34)).below h4 (by simp; omega)
  have hkb := (HK1.out.alloc (.cells #[.slice A n c, .int .i64 ((at_ : Int) + (K : Int)), .int .i64 0] 34)).below h4 (by simp; omega)
  have hb2 : Below w.heap.size w w2 := (HB1.out.alloc (Nat.le_of_lt zz) (.cells #[.slice A n c, .int .i64 ((at_ : Int) + (K : Int)), .int .i64 0] 34)).trans (h4.mono (by simp; omega))
  clear a0 a1 a2 aa0 aa1 aa2 b0 b1 b2 g0 g1 g2 HLf h2 h4
  have a0 : w2.cell? ⟨w.heap.size, 0, none⟩ = some (.slice A n c) := by rw [hka.cell]; rfl
  have a1 : w2.cell? ⟨w.heap.size, 1, none⟩ = some (.int .i64 (at_ : Int)) := by rw [hka.cell]; rfl
  have a2 : w2.cell? ⟨w.heap.size, 2, none⟩ = some (.int .i64 0) := by rw [hka.cell]; rfl
  have x0 : w2.cell? ⟨w1.heap.size, 0, none⟩ = some (.slice A n c) := by rw [hkx.cell]; rfl
  have x1 : w2.cell? ⟨w1.heap.size, 1, none⟩ = some (.int .i64 ((at_ : Int) + (K : Int))) := by rw [hkx.cell]; rfl
  have x2 : w2.cell? ⟨w1.heap.size, 2, none⟩ = some (.int .i64 0) := by rw [hkx.cell]; rfl
  have b0 : w2.cell? ⟨w.heap.size + 1, 0, none⟩ = some (.slice none 0 0) := by rw [hkb.cell]; rfl
  have b1 : w2.cell? ⟨w.heap.size + 1, 1, none⟩ = some (.int .i64 0) := by rw [hkb.cell]; rfl
  have b2 : w2.cell? ⟨w.heap.size + 1, 2, none⟩ = some (.int .i64 0) := by rw [hkb.cell]; rfl
  have g0 := hkb.frozen 0
  have g1 := hkb.frozen 1
  have g2 := hkb.frozen 2
  have HK1b := Lib.hid hkb
  have HB2 := Lib.hid hb2
  have HM2 := Lib.hid hm2
  have t8 : decide (m2 < V) = true := by simp; omega
  have t9 : (m2 : Int) < (V : Int) := by omega
  clear hkx hka hkb hb2 hm2 h3
  go_wp2_with fail
  refine (ref_fail n c at_ A 0 2 _).mono ?_
  rintro en w3 ⟨rfl, h5⟩
  have hk2 := HK1b.out.below h5 HK1b.out.lt
  have z3 := h5.size
  have c0 : w3.cell? ⟨w.heap.size + 1, 0, none⟩ = some (.slice none 0 0) := by rw [hk2.cell]; rfl
  have c1 : w3.cell? ⟨w.heap.size + 1, 1, none⟩ = some (.int .i64 0) := by rw [hk2.cell]; rfl
  have c2' : w3.cell? ⟨w.heap.size + 1, 2, none⟩ = some (.int .i64 0) := by rw [hk2.cell]; rfl
  have y0 := hk2.frozen 0
  have y1 := hk2.frozen 1
  have y2 := hk2.frozen 2
  have HB3 := Lib.hid (HB2.out.trans (h5.mono HB2.out.size))
  clear h5 hk2 a0 a1 a2 x0 x1 x2 b0 b1 b2 g0 g1 g2
  go_wp2_with fail
  refine bodyPost_ret (v := .tuple #[.agg #[.slice A n c, .int .i64 ((at_ : Int)), .int .i64 2], .int .i64 0]) (by simp [results, Try.results44, go_sem, c0, c1, c2']) rfl ⟨rfl, ?_⟩
  repeat (first | exact HB3.out | refine Below.drew ?_ | (refine Below.setCell ?_ (by simp) _) | (refine Below.setCell ?_ (by simp; omega) _) | (refine Below.alloc ?_ (by simp; omega) _))

set_option maxRecDepth 100000 in
set_option maxHeartbeats 2000000 in
theorem ref_rlist_yes (bs : List Nat) (n c at_ : Nat) (A : Option Addr) (w : World) (BB : Nat) (hr : Reads w BB 1 A n (BS bs)) (hx : ∀ x ∈ bs, x < 256) (hbl : bs.length = n) (hB : BB ≤ w.heap.size) (hnc : n ≤ c) (hn : n ≤ 140737488355328) (hat : at_ ≤ n) (most : Int) (V K : Nat) (hV : ¬ most < (V : Int)) (hS : at_ + (K + V) ≤ n) (hrs : rs (bs.drop at_) = (V, K, 0)) :
    Calls Try.prog 44 #[.agg #[.slice A n c, .int .i64 (at_ : Int), .int .i64 0], .int .i64 most] w fun en w' => en = .returned (.tuple #[.agg #[.slice A n c, .int .i64 ((at_ : Int) + (K : Int)), .int .i64 0], .int .i64 (V : Int)]) ∧ Below w.heap.size w w' := by
  have hK : at_ + K ≤ n := by omega
  have t6 : decide (most < (V : Int)) = false := by simpa using hV
  have t7 : (V : Int) ≤ most := by omega
  clear hV
  have HR := Lib.hid hr
  have HX := Lib.hid hx
  have HL := Lib.hid hbl
  have HRS := Lib.hid hrs
  clear hr hx hbl hrs
  go_enter Try.func44, Try.ntmps44
  go_wp2_with fail
  refine (ref_rshort bs n c at_ A _ BB ((HR.out.alloc hB _).alloc (by simp; omega) _) HX.out HL.out (by simp; omega) hnc hn hat).mono ?_
  rintro en w1 ⟨⟨V', K', E', hrs', rfl⟩, h4⟩
  rw [HRS.out] at hrs'
  simp only [Prod.mk.injEq] at hrs'
  obtain ⟨rfl, rfl, rfl⟩ := hrs'
  obtain ⟨hk0, hk1, z1, hb1⟩ := boxes h4
  have a0 : w1.cell? ⟨w.heap.size, 0, none⟩ = some (.slice A n c) := by rw [hk0.cell]; rfl
  have a1 : w1.cell? ⟨w.heap.size, 1, none⟩ = some (.int .i64 (at_ : Int)) := by rw [hk0.cell]; rfl
  have a2 : w1.cell? ⟨w.heap.size, 2, none⟩ = some (.int .i64 0) := by rw [hk0.cell]; rfl
  have b0 : w1.cell? ⟨w.heap.size + 1, 0, none⟩ = some (.slice none 0 0) := by rw [hk1.cell]; rfl
  have b1 : w1.cell? ⟨w.heap.size + 1, 1, none⟩ = some (.int .i64 0) := by rw [hk1.cell]; rfl
  have b2 : w1.cell? ⟨w.heap.size + 1, 2, none⟩ = some (.int .i64 0) := by rw [hk1.cell]; rfl
  have g0 := hk1.frozen 0
  have g1 := hk1.frozen 1
  have g2 := hk1.frozen 2
  have HB1 := Lib.hid hb1
  have HK0 := Lib.hid hk0
  have HK1 := Lib.hid hk1
  have zz : w.heap.size < w1.heap.size := by omega
  have aa0 : (w1.alloc (.cells #[.slice A n c, .int .i64 ((at_ : Int) + (K : Int)), .int .i64 0] 34)).cell? ⟨w.heap.size, 0, none⟩ = some (.slice A n c) := (World.cell?_alloc_lt _ _ _ zz).trans a0
  have aa1 : (w1.alloc (.cells #[.slice A n c, .int .i64 ((at_ : Int) + (K : Int)), .int .i64 0] 34)).cell? ⟨w.heap.size, 1, none⟩ = some (.int .i64 (at_ : Int)) := (World.cell?_alloc_lt _ _ _ zz).trans a1
  have aa2 : (w1.alloc (.cells #[.slice A n c, .int .i64 ((at_ : Int) + (K : Int)), .int .i64 0] 34)).cell? ⟨w.heap.size, 2, none⟩ = some (.int .i64 0) := (World.cell?_alloc_lt _ _ _ zz).trans a2
  clear h4 hk0 hk1 hb1
  go_wp2_with fail
  obtain ⟨m2, hm2⟩ : ∃ m2, m2 = n - (at_ + K) := ⟨_, rfl⟩
  have HLf := ref_left bs n c (at_ + K) A 0 (w1.alloc (.cells #[.slice A n c, .int .i64 ((at_ : Int) + (K : Int)), .int .i64 0] 34)) BB (((HR.out.keep (w' := w1) fun q hq => HB1.out.cell (by omega)).alloc (by have := HB1.out.size; omega) _)) hnc (by omega) hn
  rw [show (((at_ + K : Nat)) : Int) = (at_ : Int) + (K : Int) by omega, ← hm2] at HLf
  refine HLf.mono ?_
  rintro en w2 ⟨A2, c2, rfl, h2, h3, h4⟩
  have z2 : w1.heap.size + 1 ≤ w2.heap.size := by have := h4.size; simp at this; exact this
  have hkx := (Blk.new w1 34 #[.slice A n c, .int .i64 ((at_ : Int) + (K : Int)), .int .i64 0]).below h4 (by simp)
  have hka := (HK0.out.alloc (.cells #[.slice A n c, .int .i64 ((at_ : Int) + (K : Int)), .int .i64 0] 34)).below h4 (by simp; omega)
  have hkb := (HK1.out.alloc (.cells #[.slice A n c, .int .i64 ((at_ : Int) + (K : Int)), .int .i64 0] 34)).below h4 (by simp; omega)
  have hb2 : Below w.heap.size w w2 := (HB1.out.alloc (Nat.le_of_lt zz) (.cells #[.slice A n c, .int .i64 ((at_ : Int) + (K : Int)), .int .i64 0] 34)).trans (h4.mono (by simp; omega))
  clear a0 a1 a2 aa0 aa1 aa2 b0 b1 b2 g0 g1 g2 HLf h2 h4
  have a0 : w2.cell? ⟨w.heap.size, 0, none⟩ = some (.slice A n c) := by rw [hka.cell]; rfl
  have a1 : w2.cell? ⟨w.heap.size, 1, none⟩ = some (.int .i64 (at_ : Int)) := by rw [hka.cell]; rfl
  have a2 : w2.cell? ⟨w.heap.size, 2, none⟩ = some (.int .i64 0) := by rw [hka.cell]; rfl
  have x0 : w2.cell? ⟨w1.heap.size, 0, none⟩ = some (.slice A n c) := by rw [hkx.cell]; rfl
  have x1 : w2.cell? ⟨w1.heap.size, 1, none⟩ = some (.int .i64 ((at_ : Int) + (K : Int))) := by rw [hkx.cell]; rfl
  have x2 : w2.cell? ⟨w1.heap.size, 2, none⟩ = some (.int .i64 0) := by rw [hkx.cell]; rfl
  have b0 : w2.cell? ⟨w.heap.size + 1, 0, none⟩ = some (.slice none 0 0) := by rw [hkb.cell]; rfl
  have b1 : w2.cell? ⟨w.heap.size + 1, 1, none⟩ = some (.int .i64 0) := by rw [hkb.cell]; rfl
  have b2 : w2.cell? ⟨w.heap.size + 1, 2, none⟩ = some (.int .i64 0) := by rw [hkb.cell]; rfl
  have g0 := hkb.frozen 0
  have g1 := hkb.frozen 1
  have g2 := hkb.frozen 2
  have HK1b := Lib.hid hkb
  have HB2 := Lib.hid hb2
  have HM2 := Lib.hid hm2
  have t8 : decide (m2 < V) = false := by simp; omega
  have t9 : (V : Int) ≤ (m2 : Int) := by omega
  clear hkx hka hkb hb2 hm2 h3
  go_wp2_with fail
  refine bodyPost_ret (v := .tuple #[.agg #[.slice A n c, .int .i64 ((at_ : Int) + (K : Int)), .int .i64 0], .int .i64 (V : Int)]) (by simp [results, Try.results44, go_sem, b0, b1, b2]) rfl ⟨rfl, ?_⟩
  repeat (first | exact HB2.out | refine Below.drew ?_ | (refine Below.setCell ?_ (by simp) _) | (refine Below.setCell ?_ (by simp; omega) _) | (refine Below.alloc ?_ (by simp; omega) _))

set_option maxRecDepth 100000 in
set_option maxHeartbeats 2000000 in
theorem ref_rtext_err (bs : List Nat) (n c at_ : Nat) (A : Option Addr) (w : World) (BB : Nat) (hr : Reads w BB 1 A n (BS bs)) (hx : ∀ x ∈ bs, x < 256) (hbl : bs.length = n) (hB : BB ≤ w.heap.size) (hnc : n ≤ c) (hn : n ≤ 140737488355328) (hat : at_ ≤ n) (E : Nat) (hE : E ≠ 0) (hrs : rs (bs.drop at_) = (0, 0, E)) :
    Calls Try.prog 43 #[.agg #[.slice A n c, .int .i64 (at_ : Int), .int .i64 0]] w fun en w' => en = .returned (.tuple #[.agg #[.slice A n c, .int .i64 ((at_ : Int)), .int .i64 ((E : Nat) : Int)], .string ⟨#[]⟩]) ∧ Below w.heap.size w w' := by
  have hE' : (((E : Nat) : Int) != 0) = true := by
    have : ¬ (((E : Nat) : Int) = 0) := by omega
    simpa using this
  clear hE
  have HR := Lib.hid hr
  have HX := Lib.hid hx
  have HL := Lib.hid hbl
  have HRS := Lib.hid hrs
  clear hr hx hbl hrs
  go_enter Try.func43, Try.ntmps43
  go_wp2_with fail
  refine (ref_rshort bs n c at_ A _ BB ((HR.out.alloc hB _).alloc (by simp; omega) _) HX.out HL.out (by simp; omega) hnc hn hat).mono ?_
  rintro en w1 ⟨⟨V', K', E', hrs', rfl⟩, h4⟩
  rw [HRS.out] at hrs'
  simp only [Prod.mk.injEq] at hrs'
  obtain ⟨rfl, rfl, rfl⟩ := hrs'
  obtain ⟨hk0, hk1, z1, hb1⟩ := boxes h4
  have a0 : w1.cell? ⟨w.heap.size, 0, none⟩ = some (.slice A n c) := by rw [hk0.cell]; rfl
  have a1 : w1.cell? ⟨w.heap.size, 1, none⟩ = some (.int .i64 (at_ : Int)) := by rw [hk0.cell]; rfl
  have a2 : w1.cell? ⟨w.heap.size, 2, none⟩ = some (.int .i64 0) := by rw [hk0.cell]; rfl
  have b0 : w1.cell? ⟨w.heap.size + 1, 0, none⟩ = some (.slice none 0 0) := by rw [hk1.cell]; rfl
  have b1 : w1.cell? ⟨w.heap.size + 1, 1, none⟩ = some (.int .i64 0) := by rw [hk1.cell]; rfl
  have b2 : w1.cell? ⟨w.heap.size + 1, 2, none⟩ = some (.int .i64 0) := by rw [hk1.cell]; rfl
  have g0 := hk1.frozen 0
  have g1 := hk1.frozen 1
  have g2 := hk1.frozen 2
  have HB1 := Lib.hid hb1
  have HK0 := Lib.hid hk0
  have HK1 := Lib.hid hk1
  have zz : w.heap.size < w1.heap.size := by omega
  have aa0 : (w1.alloc (.cells #[.slice A n c, .int .i64 (at_ : Int), .int .i64 ((E : Nat) : Int)] 34)).cell? ⟨w.heap.size, 0, none⟩ = some (.slice A n c) := (World.cell?_alloc_lt _ _ _ zz).trans a0
  have aa1 : (w1.alloc (.cells #[.slice A n c, .int .i64 (at_ : Int), .int .i64 ((E : Nat) : Int)] 34)).cell? ⟨w.heap.size, 1, none⟩ = some (.int .i64 (at_ : Int)) := (World.cell?_alloc_lt _ _ _ zz).trans a1
  have aa2 : (w1.alloc (.cells #[.slice A n c, .int .i64 (at_ : Int), .int .i64 ((E : Nat) : Int)] 34)).cell? ⟨w.heap.size, 2, none⟩ = some (.int .i64 0) := (World.cell?_alloc_lt _ _ _ zz).trans a2
  clear h4 hk0 hk1 hb1
  rw [Nat.add_zero]
  go_wp2_with fail
  refine bodyPost_ret (v := .tuple #[.agg #[.slice A n c, .int .i64 ((at_ : Int)), .int .i64 ((E : Nat) : Int)], .string ⟨#[]⟩]) (by simp [results, Try.results43, go_sem, b0, b1, b2, z1]) rfl ⟨rfl, ?_⟩
  repeat (first | exact HB1.out | refine Below.drew ?_ | (refine Below.setCell ?_ (by simp) _) | (refine Below.alloc ?_ (by simp; omega) _))

set_option maxRecDepth 100000 in
set_option maxHeartbeats 2000000 in
theorem ref_rtext_big (bs : List Nat) (n c at_ : Nat) (A : Option Addr) (w : World) (BB : Nat) (hr : Reads w BB 1 A n (BS bs)) (hx : ∀ x ∈ bs, x < 256) (hbl : bs.length = n) (hB : BB ≤ w.heap.size) (hnc : n ≤ c) (hn : n ≤ 140737488355328) (hat : at_ ≤ n) (V K : Nat) (hK : at_ + K ≤ n) (hS : n < at_ + (K + V)) (hV9 : V ≤ 9223372036854775807) (hrs : rs (bs.drop at_) = (V, K, 0)) :
    Calls Try.prog 43 #[.agg #[.slice A n c, .int .i64 (at_ : Int), .int .i64 0]] w fun en w' => en = .returned (.tuple #[.agg #[.slice A n c, .int .i64 ((at_ : Int)), .int .i64 2], .string ⟨#[]⟩]) ∧ Below w.heap.size w w' := by
  have t5 : (V : Int) ≤ 9223372036854775807 := by omega
  clear hV9
  have HR := Lib.hid hr
  have HX := Lib.hid hx
  have HL := Lib.hid hbl
  have HRS := Lib.hid hrs
  clear hr hx hbl hrs
  go_enter Try.func43, Try.ntmps43
  go_wp2_with fail
  refine (ref_rshort bs n c at_ A _ BB ((HR.out.alloc hB _).alloc (by simp; omega) _) HX.out HL.out (by simp; omega) hnc hn hat).mono ?_
  rintro en w1 ⟨⟨V', K', E', hrs', rfl⟩, h4⟩
  rw [HRS.out] at hrs'
  simp only [Prod.mk.injEq] at hrs'
  obtain ⟨rfl, rfl, rfl⟩ := hrs'
  obtain ⟨hk0, hk1, z1, hb1⟩ := boxes h4
  have a0 : w1.cell? ⟨w.heap.size, 0, none⟩ = some (.slice A n c) := by rw [hk0.cell]; rfl
  have a1 : w1.cell? ⟨w.heap.size, 1, none⟩ = some (.int .i64 (at_ : Int)) := by rw [hk0.cell]; rfl
  have a2 : w1.cell? ⟨w.heap.size, 2, none⟩ = some (.int .i64 0) := by rw [hk0.cell]; rfl
  have b0 : w1.cell? ⟨w.heap.size + 1, 0, none⟩ = some (.slice none 0 0) := by rw [hk1.cell]; rfl
  have b1 : w1.cell? ⟨w.heap.size + 1, 1, none⟩ = some (.int .i64 0) := by rw [hk1.cell]; rfl
  have b2 : w1.cell? ⟨w.heap.size + 1, 2, none⟩ = some (.int .i64 0) := by rw [hk1.cell]; rfl
  have g0 := hk1.frozen 0
  have g1 := hk1.frozen 1
  have g2 := hk1.frozen 2
  have HB1 := Lib.hid hb1
  have HK0 := Lib.hid hk0
  have HK1 := Lib.hid hk1
  have zz : w.heap.size < w1.heap.size := by omega
  have aa0 : (w1.alloc (.cells #[.slice A n c, .int .i64 ((at_ : Int) + (K : Int)), .int .i64 0] 34)).cell? ⟨w.heap.size, 0, none⟩ = some (.slice A n c) := (World.cell?_alloc_lt _ _ _ zz).trans a0
  have aa1 : (w1.alloc (.cells #[.slice A n c, .int .i64 ((at_ : Int) + (K : Int)), .int .i64 0] 34)).cell? ⟨w.heap.size, 1, none⟩ = some (.int .i64 (at_ : Int)) := (World.cell?_alloc_lt _ _ _ zz).trans a1
  have aa2 : (w1.alloc (.cells #[.slice A n c, .int .i64 ((at_ : Int) + (K : Int)), .int .i64 0] 34)).cell? ⟨w.heap.size, 2, none⟩ = some (.int .i64 0) := (World.cell?_alloc_lt _ _ _ zz).trans a2
  clear h4 hk0 hk1 hb1
  go_wp2_with fail
  obtain ⟨m2, hm2⟩ : ∃ m2, m2 = n - (at_ + K) := ⟨_, rfl⟩
  have HLf := ref_left bs n c (at_ + K) A 0 (w1.alloc (.cells #[.slice A n c, .int .i64 ((at_ : Int) + (K : Int)), .int .i64 0] 34)) BB (((HR.out.keep (w' := w1) fun q hq => HB1.out.cell (by omega)).alloc (by have := HB1.out.size; omega) _)) hnc (by omega) hn
  rw [show (((at_ + K : Nat)) : Int) = (at_ : Int) + (K : Int) by omega, ← hm2] at HLf
  refine HLf.mono ?_
  rintro en w2 ⟨A2, c2, rfl, h2, h3, h4⟩
  have z2 : w1.heap.size + 1 ≤ w2.heap.size := by have := h4.size; simp at this; exact this
  have hkx := (Blk.new w1 34 #[.slice A n c, .int .i64 ((at_ : Int) + (K : Int)), .int .i64 0]).below h4 (by simp)
  have hka := (HK0.out.alloc (.cells #[.slice A n c, .int .i64 ((at_ : Int) + (K : Int)), .int .i64 0] 34)).below h4 (by simp; omega)
  have hkb := (HK1.out.alloc (.cells #[.slice A n c, .int .i64 ((at_ : Int) + (K : Int)), .int .i64 0] 34)).below h4 (by simp; omega)
  have hb2 : Below w.heap.size w w2 := (HB1.out.alloc (Nat.le_of_lt zz) (.cells #[.slice A n c, .int .i64 ((at_ : Int) + (K : Int)), .int .i64 0] 34)).trans (h4.mono (by simp; omega))
  clear a0 a1 a2 aa0 aa1 aa2 b0 b1 b2 g0 g1 g2 HLf h2 h4
  have a0 : w2.cell? ⟨w.heap.size, 0, none⟩ = some (.slice A n c) := by rw [hka.cell]; rfl
  have a1 : w2.cell? ⟨w.heap.size, 1, none⟩ = some (.int .i64 (at_ : Int)) := by rw [hka.cell]; rfl
  have a2 : w2.cell? ⟨w.heap.size, 2, none⟩ = some (.int .i64 0) := by rw [hka.cell]; rfl
  have x0 : w2.cell? ⟨w1.heap.size, 0, none⟩ = some (.slice A n c) := by rw [hkx.cell]; rfl
  have x1 : w2.cell? ⟨w1.heap.size, 1, none⟩ = some (.int .i64 ((at_ : Int) + (K : Int))) := by rw [hkx.cell]; rfl
  have x2 : w2.cell? ⟨w1.heap.size, 2, none⟩ = some (.int .i64 0) := by rw [hkx.cell]; rfl
  have b0 : w2.cell? ⟨w.heap.size + 1, 0, none⟩ = some (.slice none 0 0) := by rw [hkb.cell]; rfl
  have b1 : w2.cell? ⟨w.heap.size + 1, 1, none⟩ = some (.int .i64 0) := by rw [hkb.cell]; rfl
  have b2 : w2.cell? ⟨w.heap.size + 1, 2, none⟩ = some (.int .i64 0) := by rw [hkb.cell]; rfl
  have g0 := hkb.frozen 0
  have g1 := hkb.frozen 1
  have g2 := hkb.frozen 2
  have HK1b := Lib.hid hkb
  have HB2 := Lib.hid hb2
  have HM2 := Lib.hid hm2
  have t8 : decide (m2 < V) = true := by simp; omega
  have t9 : (m2 : Int) < (V : Int) := by omega
  clear hkx hka hkb hb2 hm2 h3
  go_wp2_with fail
  refine (ref_fail n c at_ A 0 2 _).mono ?_
  rintro en w3 ⟨rfl, h5⟩
  have hk2 := HK1b.out.below h5 HK1b.out.lt
  have z3 := h5.size
  have c0 : w3.cell? ⟨w.heap.size + 1, 0, none⟩ = some (.slice none 0 0) := by rw [hk2.cell]; rfl
  have c1 : w3.cell? ⟨w.heap.size + 1, 1, none⟩ = some (.int .i64 0) := by rw [hk2.cell]; rfl
  have c2' : w3.cell? ⟨w.heap.size + 1, 2, none⟩ = some (.int .i64 0) := by rw [hk2.cell]; rfl
  have y0 := hk2.frozen 0
  have y1 := hk2.frozen 1
  have y2 := hk2.frozen 2
  have HB3 := Lib.hid (HB2.out.trans (h5.mono HB2.out.size))
  clear h5 hk2 a0 a1 a2 x0 x1 x2 b0 b1 b2 g0 g1 g2
  go_wp2_with fail
  refine bodyPost_ret (v := .tuple #[.agg #[.slice A n c, .int .i64 ((at_ : Int)), .int .i64 2], .string ⟨#[]⟩]) (by simp [results, Try.results43, go_sem, c0, c1, c2']) rfl ⟨rfl, ?_⟩
  repeat (first | exact HB3.out | refine Below.drew ?_ | (refine Below.setCell ?_ (by simp) _) | (refine Below.setCell ?_ (by simp; omega) _) | (refine Below.alloc ?_ (by simp; omega) _))

set_option maxRecDepth 100000 in
set_option maxHeartbeats 2000000 in
theorem ref_rtext_yes (bs : List Nat) (n c at_ : Nat) (A : Option Addr) (w : World) (BB : Nat) (hr : Reads w BB 1 A n (BS bs)) (hx : ∀ x ∈ bs, x < 256) (hbl : bs.length = n) (hB : BB ≤ w.heap.size) (hnc : n ≤ c) (hn : n ≤ 140737488355328) (hat : at_ ≤ n) (V K : Nat) (hS : at_ + (K + V) ≤ n) (hrs : rs (bs.drop at_) = (V, K, 0)) :
    Calls Try.prog 43 #[.agg #[.slice A n c, .int .i64 (at_ : Int), .int .i64 0]] w fun en w' => en = .returned (.tuple #[.agg #[.slice A n c, .int .i64 ((at_ : Int) + (K : Int) + (V : Int)), .int .i64 0], .string (TX (((bs.drop at_).drop K).take V))]) ∧ Below w.heap.size w w' := by
  have hK : at_ + K ≤ n := by omega
  have hxt : ∀ x ∈ (bs.drop (at_ + K)).take V, x < 256 := fun x h => hx x (List.mem_of_mem_drop (List.mem_of_mem_take h))
  rw [List.drop_drop]
  obtain ⟨T, hT⟩ : ∃ T, T = TX ((bs.drop (at_ + K)).take V) := ⟨_, rfl⟩
  rw [← hT]
  have HT := Lib.hid hT
  clear hT
  have HXT := Lib.hid hxt
  clear hxt
  have HR := Lib.hid hr
  have HX := Lib.hid hx
  have HL := Lib.hid hbl
  have HRS := Lib.hid hrs
  clear hr hx hbl hrs
  go_enter Try.func43, Try.ntmps43
  go_wp2_with fail
  refine (ref_rshort bs n c at_ A _ BB ((HR.out.alloc hB _).alloc (by simp; omega) _) HX.out HL.out (by simp; omega) hnc hn hat).mono ?_
  rintro en w1 ⟨⟨V', K', E', hrs', rfl⟩, h4⟩
  rw [HRS.out] at hrs'
  simp only [Prod.mk.injEq] at hrs'
  obtain ⟨rfl, rfl, rfl⟩ := hrs'
  obtain ⟨hk0, hk1, z1, hb1⟩ := boxes h4
  have a0 : w1.cell? ⟨w.heap.size, 0, none⟩ = some (.slice A n c) := by rw [hk0.cell]; rfl
  have a1 : w1.cell? ⟨w.heap.size, 1, none⟩ = some (.int .i64 (at_ : Int)) := by rw [hk0.cell]; rfl
  have a2 : w1.cell? ⟨w.heap.size, 2, none⟩ = some (.int .i64 0) := by rw [hk0.cell]; rfl
  have b0 : w1.cell? ⟨w.heap.size + 1, 0, none⟩ = some (.slice none 0 0) := by rw [hk1.cell]; rfl
  have b1 : w1.cell? ⟨w.heap.size + 1, 1, none⟩ = some (.int .i64 0) := by rw [hk1.cell]; rfl
  have b2 : w1.cell? ⟨w.heap.size + 1, 2, none⟩ = some (.int .i64 0) := by rw [hk1.cell]; rfl
  have g0 := hk1.frozen 0
  have g1 := hk1.frozen 1
  have g2 := hk1.frozen 2
  have HB1 := Lib.hid hb1
  have HK0 := Lib.hid hk0
  have HK1 := Lib.hid hk1
  have zz : w.heap.size < w1.heap.size := by omega
  have aa0 : (w1.alloc (.cells #[.slice A n c, .int .i64 ((at_ : Int) + (K : Int)), .int .i64 0] 34)).cell? ⟨w.heap.size, 0, none⟩ = some (.slice A n c) := (World.cell?_alloc_lt _ _ _ zz).trans a0
  have aa1 : (w1.alloc (.cells #[.slice A n c, .int .i64 ((at_ : Int) + (K : Int)), .int .i64 0] 34)).cell? ⟨w.heap.size, 1, none⟩ = some (.int .i64 (at_ : Int)) := (World.cell?_alloc_lt _ _ _ zz).trans a1
  have aa2 : (w1.alloc (.cells #[.slice A n c, .int .i64 ((at_ : Int) + (K : Int)), .int .i64 0] 34)).cell? ⟨w.heap.size, 2, none⟩ = some (.int .i64 0) := (World.cell?_alloc_lt _ _ _ zz).trans a2
  clear h4 hk0 hk1 hb1
  go_wp2_with fail
  obtain ⟨m2, hm2⟩ : ∃ m2, m2 = n - (at_ + K) := ⟨_, rfl⟩
  have HLf := ref_left bs n c (at_ + K) A 0 (w1.alloc (.cells #[.slice A n c, .int .i64 ((at_ : Int) + (K : Int)), .int .i64 0] 34)) BB (((HR.out.keep (w' := w1) fun q hq => HB1.out.cell (by omega)).alloc (by have := HB1.out.size; omega) _)) hnc (by omega) hn
  rw [show (((at_ + K : Nat)) : Int) = (at_ : Int) + (K : Int) by omega, ← hm2] at HLf
  refine HLf.mono ?_
  rintro en w2 ⟨A2, c2, rfl, h2, h3, h4⟩
  have z2 : w1.heap.size + 1 ≤ w2.heap.size := by have := h4.size; simp at this; exact this
  have hkx := (Blk.new w1 34 #[.slice A n c, .int .i64 ((at_ : Int) + (K : Int)), .int .i64 0]).below h4 (by simp)
  have hka := (HK0.out.alloc (.cells #[.slice A n c, .int .i64 ((at_ : Int) + (K : Int)), .int .i64 0] 34)).below h4 (by simp; omega)
  have hkb := (HK1.out.alloc (.cells #[.slice A n c, .int .i64 ((at_ : Int) + (K : Int)), .int .i64 0] 34)).below h4 (by simp; omega)
  have hb2 : Below w.heap.size w w2 := (HB1.out.alloc (Nat.le_of_lt zz) (.cells #[.slice A n c, .int .i64 ((at_ : Int) + (K : Int)), .int .i64 0] 34)).trans (h4.mono (by simp; omega))
  clear a0 a1 a2 aa0 aa1 aa2 b0 b1 b2 g0 g1 g2 HLf h2 h4
  have a0 : w2.cell? ⟨w.heap.size, 0, none⟩ = some (.slice A n c) := by rw [hka.cell]; rfl
  have a1 : w2.cell? ⟨w.heap.size, 1, none⟩ = some (.int .i64 (at_ : Int)) := by rw [hka.cell]; rfl
  have a2 : w2.cell? ⟨w.heap.size, 2, none⟩ = some (.int .i64 0) := by rw [hka.cell]; rfl
  have x0 : w2.cell? ⟨w1.heap.size, 0, none⟩ = some (.slice A n c) := by rw [hkx.cell]; rfl
  have x1 : w2.cell? ⟨w1.heap.size, 1, none⟩ = some (.int .i64 ((at_ : Int) + (K : Int))) := by rw [hkx.cell]; rfl
  have x2 : w2.cell? ⟨w1.heap.size, 2, none⟩ = some (.int .i64 0) := by rw [hkx.cell]; rfl
  have b0 : w2.cell? ⟨w.heap.size + 1, 0, none⟩ = some (.slice none 0 0) := by rw [hkb.cell]; rfl
  have b1 : w2.cell? ⟨w.heap.size + 1, 1, none⟩ = some (.int .i64 0) := by rw [hkb.cell]; rfl
  have b2 : w2.cell? ⟨w.heap.size + 1, 2, none⟩ = some (.int .i64 0) := by rw [hkb.cell]; rfl
  have g0 := hkb.frozen 0
  have g1 := hkb.frozen 1
  have g2 := hkb.frozen 2
  have HK1b := Lib.hid hkb
  have HB2 := Lib.hid hb2
  have HM2 := Lib.hid hm2
  have t8 : decide (m2 < V) = false := by simp; omega
  have t9 : (V : Int) ≤ (m2 : Int) := by omega
  clear hkx hka hkb hb2 hm2 h3
  go_wp2_with fail
  have HRw := ref_raw_yes bs n c (at_ + K) V A w2 BB (HR.out.keep (w' := w2) fun q hq => HB2.out.cell (by omega)) (by have := HB2.out.size; omega) hnc hn (by omega)
  rw [show (((at_ + K : Nat)) : Int) = (at_ : Int) + (K : Int) by omega] at HRw
  refine HRw.mono ?_
  rintro en w3 ⟨A3, c3, rfl, h6, h7, h8⟩
  have z3 := h8.size
  have hkb := HK1b.out.below h8 HK1b.out.lt
  have hr3 := h6.keep (w' := w3) fun q hq => h8.cell (by have := HB2.out.size; omega)
  have hr4 := hr3.alloc (show BB ≤ w3.heap.size by have := HB2.out.size; omega) (.cells #[.slice A n c, .int .i64 ((at_ : Int) + (K : Int) + (V : Int)), .int .i64 0] 34)
  have hstr := fun cap => run_text_of (P := Try.prog) (w3.alloc (.cells #[.slice A n c, .int .i64 ((at_ : Int) + (K : Int) + (V : Int)), .int .i64 0] 34)) 23 9 5 BB _ V cap _ hr4 HXT.out Try.underlying23 Try.underlying5 Try.underlying9
  have hstr2 := fun cap => run_text_of (P := Try.prog) (w3.alloc (.cells #[.slice A n c, .int .i64 ((at_ : Int) + (K : Int) + (V : Int)), .int .i64 0] 34)).drew 23 9 5 BB _ V cap _ hr4.drew HXT.out Try.underlying23 Try.underlying5 Try.underlying9
  have hr5 := (((hr3.setCell (p := ⟨w.heap.size + 1, 0, none⟩) (by show BB ≤ w.heap.size + 1; omega) (.slice A n c)).setCell (p := ⟨w.heap.size + 1, 1, none⟩) (by show BB ≤ w.heap.size + 1; omega) (.int .i64 ((at_ : Int) + (K : Int) + (V : Int)))).setCell (p := ⟨w.heap.size + 1, 2, none⟩) (by show BB ≤ w.heap.size + 1; omega) (.int .i64 0)).alloc (by simp; have := HB2.out.size; omega) (.cells #[.slice A n c, .int .i64 ((at_ : Int) + (K : Int) + (V : Int)), .int .i64 0] 34)
  have hstr3 := fun cap => run_text_of (P := Try.prog) _ 23 9 5 BB _ V cap _ hr5.drew HXT.out Try.underlying23 Try.underlying5 Try.underlying9
  clear hr5
  clear a0 a1 a2 x0 x1 x2 b0 b1 b2 g0 g1 g2
  have b0 : w3.cell? ⟨w.heap.size + 1, 0, none⟩ = some (.slice none 0 0) := by rw [hkb.cell]; rfl
  have b1 : w3.cell? ⟨w.heap.size + 1, 1, none⟩ = some (.int .i64 0) := by rw [hkb.cell]; rfl
  have b2 : w3.cell? ⟨w.heap.size + 1, 2, none⟩ = some (.int .i64 0) := by rw [hkb.cell]; rfl
  have g0 := hkb.frozen 0
  have g1 := hkb.frozen 1
  have g2 := hkb.frozen 2
  have zr3 : w.heap.size + 1 < w3.heap.size := hkb.lt
  have HB3 := Lib.hid (HB2.out.trans (h8.mono HB2.out.size))
  simp only [← HT.out] at hstr hstr2 hstr3
  clear hkb hr3 hr4 h6 h8 HRw
  go_wp2_with fail
  go_region
  all_goals go_wp2_with fail
  refine bodyPost_ret (v := .tuple #[.agg #[.slice A n c, .int .i64 ((at_ : Int) + (K : Int) + (V : Int)), .int .i64 0], .string (T)]) (by simp [results, Try.results43, go_sem, b0, b1, b2, zr3]) rfl ⟨rfl, ?_⟩
  repeat (first | exact HB3.out | refine Below.drew ?_ | (refine Below.setCell ?_ (by simp) _) | (refine Below.setCell ?_ (by simp; omega) _) | (refine Below.alloc ?_ (by simp; omega) _))

end Go.Proofs.Ytnhibnjgdkpomaa
