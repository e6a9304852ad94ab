/-
  The document's own reader: a signed number, a list's number.
-/
import Derived.Test.YtnhibnjgdkpomaaRefSh
namespace Go.Proofs.Ytnhibnjgdkpomaa
open Go.RowKit Plain
set_option linter.unusedVariables false
set_option linter.unusedSimpArgs false

set_option maxRecDepth 100000 in
set_option maxHeartbeats 2000000 in
theorem ref_rsigned_err (bs : List Nat) (n c at_ : Nat) (A : Option Addr) (w : World) (BB : Nat) (hr : Reads w BB 1 A n (BS bs)) (hx : ∀ x ∈ bs, x < 256) (hbl : bs.length = n) (hB : BB ≤ w.heap.size) (hnc : n ≤ c) (hn : n ≤ 140737488355328) (hat : at_ ≤ n) (E : Nat) (hE : E ≠ 0) (hrs : rs (bs.drop at_) = (0, 0, E)) :
    Calls Try.prog 42 #[.agg #[.slice A n c, .int .i64 (at_ : Int), .int .i64 0]] w fun en w' => en = .returned (.tuple #[.agg #[.slice A n c, .int .i64 ((at_ : Int)), .int .i64 ((E : Nat) : Int)], .int .i64 0]) ∧ Below w.heap.size w w' := by
  have hE' : (((E : Nat) : Int) != 0) = true := by
    have : ¬ (((E : Nat) : Int) = 0) := by omega
    simpa using this
  clear hE
  have HR := Lib.hid hr
  have HX := Lib.hid hx
  have HL := Lib.hid hbl
  have HRS := Lib.hid hrs
  clear hr hx hbl hrs
  go_enter Try.func42, Try.ntmps42
  go_wp2_with fail
  refine (ref_rshort bs n c at_ A _ BB ((HR.out.alloc hB _).alloc (by simp; omega) _) HX.out HL.out (by simp; omega) hnc hn hat).mono ?_
  rintro en w1 ⟨⟨V', K', E', hrs', rfl⟩, h4⟩
  rw [HRS.out] at hrs'
  simp only [Prod.mk.injEq] at hrs'
  obtain ⟨rfl, rfl, rfl⟩ := hrs'
  obtain ⟨hk0, hk1, z1, hb1⟩ := boxes h4
  have a0 : w1.cell? ⟨w.heap.size, 0, none⟩ = some (.slice A n c) := by rw [hk0.cell]; rfl
  have a1 : w1.cell? ⟨w.heap.size, 1, none⟩ = some (.int .i64 (at_ : Int)) := by rw [hk0.cell]; rfl
  have a2 : w1.cell? ⟨w.heap.size, 2, none⟩ = some (.int .i64 0) := by rw [hk0.cell]; rfl
  have b0 : w1.cell? ⟨w.heap.size + 1, 0, none⟩ = some (.slice none 0 0) := by rw [hk1.cell]; rfl
  have b1 : w1.cell? ⟨w.heap.size + 1, 1, none⟩ = some (.int .i64 0) := by rw [hk1.cell]; rfl
  have b2 : w1.cell? ⟨w.heap.size + 1, 2, none⟩ = some (.int .i64 0) := by rw [hk1.cell]; rfl
  have g0 := hk1.frozen 0
  have g1 := hk1.frozen 1
  have g2 := hk1.frozen 2
  have HB1 := Lib.hid hb1
  have HK0 := Lib.hid hk0
  have HK1 := Lib.hid hk1
  have zz : w.heap.size < w1.heap.size := by omega
  have aa0 : (w1.alloc (.cells #[.slice A n c, .int .i64 (at_ : Int), .int .i64 ((E : Nat) : Int)] 34)).cell? ⟨w.heap.size, 0, none⟩ = some (.slice A n c) := (World.cell?_alloc_lt _ _ _ zz).trans a0
  have aa1 : (w1.alloc (.cells #[.slice A n c, .int .i64 (at_ : Int), .int .i64 ((E : Nat) : Int)] 34)).cell? ⟨w.heap.size, 1, none⟩ = some (.int .i64 (at_ : Int)) := (World.cell?_alloc_lt _ _ _ zz).trans a1
  have aa2 : (w1.alloc (.cells #[.slice A n c, .int .i64 (at_ : Int), .int .i64 ((E : Nat) : Int)] 34)).cell? ⟨w.heap.size, 2, none⟩ = some (.int .i64 0) := (World.cell?_alloc_lt _ _ _ zz).trans a2
  clear h4 hk0 hk1 hb1
  rw [Nat.add_zero]
  go_wp2_with fail
  refine bodyPost_ret (v := .tuple #[.agg #[.slice A n c, .int .i64 ((at_ : Int)), .int .i64 ((E : Nat) : Int)], .int .i64 0]) (by simp [results, Try.results42, go_sem, b0, b1, b2, z1]) rfl ⟨rfl, ?_⟩
  repeat (first | exact HB1.out | refine Below.drew ?_ | (refine Below.setCell ?_ (by simp) _) | (refine Below.alloc ?_ (by simp; omega) _))

set_option maxRecDepth 100000 in
set_option maxHeartbeats 2000000 in
theorem ref_rsigned_big (bs : List Nat) (n c at_ : Nat) (A : Option Addr) (w : World) (BB : Nat) (hr : Reads w BB 1 A n (BS bs)) (hx : ∀ x ∈ bs, x < 256) (hbl : bs.length = n) (hB : BB ≤ w.heap.size) (hnc : n ≤ c) (hn : n ≤ 140737488355328) (hat : at_ ≤ n) (V K : Nat) (hV : 4611686018427387903 < V) (hV9 : V ≤ 9223372036854775807) (hrs : rs (bs.drop at_) = (V, K, 0)) :
    Calls Try.prog 42 #[.agg #[.slice A n c, .int .i64 (at_ : Int), .int .i64 0]] w fun en w' => en = .returned (.tuple #[.agg #[.slice A n c, .int .i64 ((at_ : Int)), .int .i64 3], .int .i64 0]) ∧ Below w.heap.size w w' := by
  have t1 : (2305843009213693952 : Int) ≤ (V : Int) / 2 := by omega
  have t2 : decide ((2305843009213693952 : Int) ≤ (V : Int) / 2) = true := by simpa using t1
  have t3 : 0 ≤ (V : Int) / 2 := by omega
  have t5 : (V : Int) ≤ 9223372036854775807 := by omega
  clear hV hV9
  have HR := Lib.hid hr
  have HX := Lib.hid hx
  have HL := Lib.hid hbl
  have HRS := Lib.hid hrs
  clear hr hx hbl hrs
  go_enter Try.func42, Try.ntmps42
  go_wp2_with fail
  refine (ref_rshort bs n c at_ A _ BB ((HR.out.alloc hB _).alloc (by simp; omega) _) HX.out HL.out (by simp; omega) hnc hn hat).mono ?_
  rintro en w1 ⟨⟨V', K', E', hrs', rfl⟩, h4⟩
  rw [HRS.out] at hrs'
  simp only [Prod.mk.injEq] at hrs'
  obtain ⟨rfl, rfl, rfl⟩ := hrs'
  obtain ⟨hk0, hk1, z1, hb1⟩ := boxes h4
  have a0 : w1.cell? ⟨w.heap.size, 0, none⟩ = some (.slice A n c) := by rw [hk0.cell]; rfl
  have a1 : w1.cell? ⟨w.heap.size, 1, none⟩ = some (.int .i64 (at_ : Int)) := by rw [hk0.cell]; rfl
  have a2 : w1.cell? ⟨w.heap.size, 2, none⟩ = some (.int .i64 0) := by rw [hk0.cell]; rfl
  have b0 : w1.cell? ⟨w.heap.size + 1, 0, none⟩ = some (.slice none 0 0) := by rw [hk1.cell]; rfl
  have b1 : w1.cell? ⟨w.heap.size + 1, 1, none⟩ = some (.int .i64 0) := by rw [hk1.cell]; rfl
  have b2 : w1.cell? ⟨w.heap.size + 1, 2, none⟩ = some (.int .i64 0) := by rw [hk1.cell]; rfl
  have g0 := hk1.frozen 0
  have g1 := hk1.frozen 1
  have g2 := hk1.frozen 2
  have HB1 := Lib.hid hb1
  have HK0 := Lib.hid hk0
  have HK1 := Lib.hid hk1
  have zz : w.heap.size < w1.heap.size := by omega
  have aa0 : (w1.alloc (.cells #[.slice A n c, .int .i64 ((at_ : Int) + (K : Int)), .int .i64 0] 34)).cell? ⟨w.heap.size, 0, none⟩ = some (.slice A n c) := (World.cell?_alloc_lt _ _ _ zz).trans a0
  have aa1 : (w1.alloc (.cells #[.slice A n c, .int .i64 ((at_ : Int) + (K : Int)), .int .i64 0] 34)).cell? ⟨w.heap.size, 1, none⟩ = some (.int .i64 (at_ : Int)) := (World.cell?_alloc_lt _ _ _ zz).trans a1
  have aa2 : (w1.alloc (.cells #[.slice A n c, .int .i64 ((at_ : Int) + (K : Int)), .int .i64 0] 34)).cell? ⟨w.heap.size, 2, none⟩ = some (.int .i64 0) := (World.cell?_alloc_lt _ _ _ zz).trans a2
  clear h4 hk0 hk1 hb1
  go_wp2_with fail
  refine (ref_fail n c at_ A 0 3 _).mono ?_
  rintro en w2 ⟨rfl, h5⟩
  have hk2 := (HK1.out.alloc (.cells #[.slice A n c, .int .i64 ((at_ : Int) + (K : Int)), .int .i64 0] 34)).below h5 (by simp; omega)
  have z2 := h5.size
  have c0 : w2.cell? ⟨w.heap.size + 1, 0, none⟩ = some (.slice none 0 0) := by rw [hk2.cell]; rfl
  have c1 : w2.cell? ⟨w.heap.size + 1, 1, none⟩ = some (.int .i64 0) := by rw [hk2.cell]; rfl
  have c2 : w2.cell? ⟨w.heap.size + 1, 2, none⟩ = some (.int .i64 0) := by rw [hk2.cell]; rfl
  have y0 := hk2.frozen 0
  have y1 := hk2.frozen 1
  have y2 := hk2.frozen 2
  have HB2 := Lib.hid ((HB1.out.alloc (Nat.le_of_lt (Nat.lt_of_succ_lt z1)) (.cells #[.slice A n c, .int .i64 ((at_ : Int) + (K : Int)), .int .i64 0] 34)).trans (h5.mono (by simp; omega)))
  clear h5 hk2 a0 a1 a2 aa0 aa1 aa2 b0 b1 b2 g0 g1 g2
  go_wp2_with fail
  refine bodyPost_ret (v := .tuple #[.agg #[.slice A n c, .int .i64 ((at_ : Int)), .int .i64 3], .int .i64 0]) (by simp [results, Try.results42, go_sem, c0, c1, c2, z1]) rfl ⟨rfl, ?_⟩
  repeat (first | exact HB2.out | refine Below.drew ?_ | (refine Below.setCell ?_ (by simp) _) | (refine Below.alloc ?_ (by simp; omega) _))

set_option maxRecDepth 100000 in
set_option maxHeartbeats 2000000 in
theorem ref_rsigned_odd (bs : List Nat) (n c at_ : Nat) (A : Option Addr) (w : World) (BB : Nat) (hr : Reads w BB 1 A n (BS bs)) (hx : ∀ x ∈ bs, x < 256) (hbl : bs.length = n) (hB : BB ≤ w.heap.size) (hnc : n ≤ c) (hn : n ≤ 140737488355328) (hat : at_ ≤ n) (V K : Nat) (hV : V ≤ 4611686018427387903) (ho : (V : Int) % 2 = 1) (hrs : rs (bs.drop at_) = (V, K, 0)) :
    Calls Try.prog 42 #[.agg #[.slice A n c, .int .i64 (at_ : Int), .int .i64 0]] w fun en w' => en = .returned (.tuple #[.agg #[.slice A n c, .int .i64 ((at_ : Int) + (K : Int)), .int .i64 0], .int .i64 (-(((V : Int) / 2) + 1))]) ∧ Below w.heap.size w w' := by
  have t1 : (V : Int) / 2 < 2305843009213693952 := by omega
  have t2 : decide ((2305843009213693952 : Int) ≤ (V : Int) / 2) = false := by simp; omega
  have t3 : 0 ≤ (V : Int) / 2 := by omega
  have t5 : (V : Int) ≤ 4611686018427387903 := by omega
  have t4 : ((V : Int) % 2 == 1) = true := by rw [ho]; rfl
  clear hV
  have HR := Lib.hid hr
  have HX := Lib.hid hx
  have HL := Lib.hid hbl
  have HRS := Lib.hid hrs
  clear hr hx hbl hrs
  go_enter Try.func42, Try.ntmps42
  go_wp2_with fail
  refine (ref_rshort bs n c at_ A _ BB ((HR.out.alloc hB _).alloc (by simp; omega) _) HX.out HL.out (by simp; omega) hnc hn hat).mono ?_
  rintro en w1 ⟨⟨V', K', E', hrs', rfl⟩, h4⟩
  rw [HRS.out] at hrs'
  simp only [Prod.mk.injEq] at hrs'
  obtain ⟨rfl, rfl, rfl⟩ := hrs'
  obtain ⟨hk0, hk1, z1, hb1⟩ := boxes h4
  have a0 : w1.cell? ⟨w.heap.size, 0, none⟩ = some (.slice A n c) := by rw [hk0.cell]; rfl
  have a1 : w1.cell? ⟨w.heap.size, 1, none⟩ = some (.int .i64 (at_ : Int)) := by rw [hk0.cell]; rfl
  have a2 : w1.cell? ⟨w.heap.size, 2, none⟩ = some (.int .i64 0) := by rw [hk0.cell]; rfl
  have b0 : w1.cell? ⟨w.heap.size + 1, 0, none⟩ = some (.slice none 0 0) := by rw [hk1.cell]; rfl
  have b1 : w1.cell? ⟨w.heap.size + 1, 1, none⟩ = some (.int .i64 0) := by rw [hk1.cell]; rfl
  have b2 : w1.cell? ⟨w.heap.size + 1, 2, none⟩ = some (.int .i64 0) := by rw [hk1.cell]; rfl
  have g0 := hk1.frozen 0
  have g1 := hk1.frozen 1
  have g2 := hk1.frozen 2
  have HB1 := Lib.hid hb1
  have HK0 := Lib.hid hk0
  have HK1 := Lib.hid hk1
  have zz : w.heap.size < w1.heap.size := by omega
  have aa0 : (w1.alloc (.cells #[.slice A n c, .int .i64 ((at_ : Int) + (K : Int)), .int .i64 0] 34)).cell? ⟨w.heap.size, 0, none⟩ = some (.slice A n c) := (World.cell?_alloc_lt _ _ _ zz).trans a0
  have aa1 : (w1.alloc (.cells #[.slice A n c, .int .i64 ((at_ : Int) + (K : Int)), .int .i64 0] 34)).cell? ⟨w.heap.size, 1, none⟩ = some (.int .i64 (at_ : Int)) := (World.cell?_alloc_lt _ _ _ zz).trans a1
  have aa2 : (w1.alloc (.cells #[.slice A n c, .int .i64 ((at_ : Int) + (K : Int)), .int .i64 0] 34)).cell? ⟨w.heap.size, 2, none⟩ = some (.int .i64 0) := (World.cell?_alloc_lt _ _ _ zz).trans a2
  clear h4 hk0 hk1 hb1
  go_wp2_with fail
  refine bodyPost_ret (v := .tuple #[.agg #[.slice A n c, .int .i64 ((at_ : Int) + (K : Int)), .int .i64 0], .int .i64 (-(((V : Int) / 2) + 1))]) (by simp [results, Try.results42, go_sem, b0, b1, b2, z1]) rfl ⟨rfl, ?_⟩
  repeat (first | exact HB1.out | refine Below.drew ?_ | (refine Below.setCell ?_ (by simp) _) | (refine Below.alloc ?_ (by simp; omega) _))

set_option maxRecDepth 100000 in
set_option maxHeartbeats 2000000 in
theorem ref_rsigned_even (bs : List Nat) (n c at_ : Nat) (A : Option Addr) (w : World) (BB : Nat) (hr : Reads w BB 1 A n (BS bs)) (hx : ∀ x ∈ bs, x < 256) (hbl : bs.length = n) (hB : BB ≤ w.heap.size) (hnc : n ≤ c) (hn : n ≤ 140737488355328) (hat : at_ ≤ n) (V K : Nat) (hV : V ≤ 4611686018427387903) (ho : (V : Int) % 2 = 0) (hrs : rs (bs.drop at_) = (V, K, 0)) :
    Calls Try.prog 42 #[.agg #[.slice A n c, .int .i64 (at_ : Int), .int .i64 0]] w fun en w' => en = .returned (.tuple #[.agg #[.slice A n c, .int .i64 ((at_ : Int) + (K : Int)), .int .i64 0], .int .i64 ((V : Int) / 2)]) ∧ Below w.heap.size w w' := by
  have t1 : (V : Int) / 2 < 2305843009213693952 := by omega
  have t2 : decide ((2305843009213693952 : Int) ≤ (V : Int) / 2) = false := by simp; omega
  have t3 : 0 ≤ (V : Int) / 2 := by omega
  have t5 : (V : Int) ≤ 4611686018427387903 := by omega
  have t4 : ((V : Int) % 2 == 1) = false := by rw [ho]; rfl
  clear hV
  have HR := Lib.hid hr
  have HX := Lib.hid hx
  have HL := Lib.hid hbl
  have HRS := Lib.hid hrs
  clear hr hx hbl hrs
  go_enter Try.func42, Try.ntmps42
  go_wp2_with fail
  refine (ref_rshort bs n c at_ A _ BB ((HR.out.alloc hB _).alloc (by simp; omega) _) HX.out HL.out (by simp; omega) hnc hn hat).mono ?_
  rintro en w1 ⟨⟨V', K', E', hrs', rfl⟩, h4⟩
  rw [HRS.out] at hrs'
  simp only [Prod.mk.injEq] at hrs'
  obtain ⟨rfl, rfl, rfl⟩ := hrs'
  obtain ⟨hk0, hk1, z1, hb1⟩ := boxes h4
  have a0 : w1.cell? ⟨w.heap.size, 0, none⟩ = some (.slice A n c) := by rw [hk0.cell]; rfl
  have a1 : w1.cell? ⟨w.heap.size, 1, none⟩ = some (.int .i64 (at_ : Int)) := by rw [hk0.cell]; rfl
  have a2 : w1.cell? ⟨w.heap.size, 2, none⟩ = some (.int .i64 0) := by rw [hk0.cell]; rfl
  have b0 : w1.cell? ⟨w.heap.size + 1, 0, none⟩ = some (.slice none 0 0) := by rw [hk1.cell]; rfl
  have b1 : w1.cell? ⟨w.heap.size + 1, 1, none⟩ = some (.int .i64 0) := by rw [hk1.cell]; rfl
  have b2 : w1.cell? ⟨w.heap.size + 1, 2, none⟩ = some (.int .i64 0) := by rw [hk1.cell]; rfl
  have g0 := hk1.frozen 0
  have g1 := hk1.frozen 1
  have g2 := hk1.frozen 2
  have HB1 := Lib.hid hb1
  have HK0 := Lib.hid hk0
  have HK1 := Lib.hid hk1
  have zz : w.heap.size < w1.heap.size := by omega
  have aa0 : (w1.alloc (.cells #[.slice A n c, .int .i64 ((at_ : Int) + (K : Int)), .int .i64 0] 34)).cell? ⟨w.heap.size, 0, none⟩ = some (.slice A n c) := (World.cell?_alloc_lt _ _ _ zz).trans a0
  have aa1 : (w1.alloc (.cells #[.slice A n c, .int .i64 ((at_ : Int) + (K : Int)), .int .i64 0] 34)).cell? ⟨w.heap.size, 1, none⟩ = some (.int .i64 (at_ : Int)) := (World.cell?_alloc_lt _ _ _ zz).trans a1
  have aa2 : (w1.alloc (.cells #[.slice A n c, .int .i64 ((at_ : Int) + (K : Int)), .int .i64 0] 34)).cell? ⟨w.heap.size, 2, none⟩ = some (.int .i64 0) := (World.cell?_alloc_lt _ _ _ zz).trans a2
  clear h4 hk0 hk1 hb1
  go_wp2_with fail
  refine bodyPost_ret (v := .tuple #[.agg #[.slice A n c, .int .i64 ((at_ : Int) + (K : Int)), .int .i64 0], .int .i64 ((V : Int) / 2)]) (by simp [results, Try.results42, go_sem, b0, b1, b2, z1]) rfl ⟨rfl, ?_⟩
  repeat (first | exact HB1.out | refine Below.drew ?_ | (refine Below.setCell ?_ (by simp) _) | (refine Below.alloc ?_ (by simp; omega) _))

set_option maxRecDepth 100000 in
set_option maxHeartbeats 2000000 in
theorem ref_rlist_err (bs : List Nat) (n c at_ : Nat) (A : Option Addr) (w : World) (BB : Nat) (hr : Reads w BB 1 A n (BS bs)) (hx : ∀ x ∈ bs, x < 256) (hbl : bs.length = n) (hB : BB ≤ w.heap.size) (hnc : n ≤ c) (hn : n ≤ 140737488355328) (hat : at_ ≤ n) (most : Int) (E : Nat) (hE : E ≠ 0) (hrs : rs (bs.drop at_) = (0, 0, E)) :
    Calls Try.prog 44 #[.agg #[.slice A n c, .int .i64 (at_ : Int), .int .i64 0], .int .i64 most] w fun en w' => en = .returned (.tuple #[.agg #[.slice A n c, .int .i64 ((at_ : Int)), .int .i64 ((E : Nat) : Int)], .int .i64 0]) ∧ Below w.heap.size w w' := by
  have hE' : (((E : Nat) : Int) != 0) = true := by
    have : ¬ (((E : Nat) : Int) = 0) := by omega
    simpa using this
  clear hE
  have HR := Lib.hid hr
  have HX := Lib.hid hx
  have HL := Lib.hid hbl
  have HRS := Lib.hid hrs
  clear hr hx hbl hrs
  go_enter Try.func44, Try.ntmps44
  go_wp2_with fail
  refine (ref_rshort bs n c at_ A _ BB ((HR.out.alloc hB _).alloc (by simp; omega) _) HX.out HL.out (by simp; omega) hnc hn hat).mono ?_
  rintro en w1 ⟨⟨V', K', E', hrs', rfl⟩, h4⟩
  rw [HRS.out] at hrs'
  simp only [Prod.mk.injEq] at hrs'
  obtain ⟨rfl, rfl, rfl⟩ := hrs'
  obtain ⟨hk0, hk1, z1, hb1⟩ := boxes h4
  have a0 : w1.cell? ⟨w.heap.size, 0, none⟩ = some (.slice A n c) := by rw [hk0.cell]; rfl
  have a1 : w1.cell? ⟨w.heap.size, 1, none⟩ = some (.int .i64 (at_ : Int)) := by rw [hk0.cell]; rfl
  have a2 : w1.cell? ⟨w.heap.size, 2, none⟩ = some (.int .i64 0) := by rw [hk0.cell]; rfl
  have b0 : w1.cell? ⟨w.heap.size + 1, 0, none⟩ = some (.slice none 0 0) := by rw [hk1.cell]; rfl
  have b1 : w1.cell? ⟨w.heap.size + 1, 1, none⟩ = some (.int .i64 0) := by rw [hk1.cell]; rfl
  have b2 : w1.cell? ⟨w.heap.size + 1, 2, none⟩ = some (.int .i64 0) := by rw [hk1.cell]; rfl
  have g0 := hk1.frozen 0
  have g1 := hk1.frozen 1
  have g2 := hk1.frozen 2
  have HB1 := Lib.hid hb1
  have HK0 := Lib.hid hk0
  have HK1 := Lib.hid hk1
  have zz : w.heap.size < w1.heap.size := by omega
  have aa0 : (w1.alloc (.cells #[.slice A n c, .int .i64 (at_ : Int), .int .i64 ((E : Nat) : Int)] 34)).cell? ⟨w.heap.size, 0, none⟩ = some (.slice A n c) := (World.cell?_alloc_lt _ _ _ zz).trans a0
  have aa1 : (w1.alloc (.cells #[.slice A n c, .int .i64 (at_ : Int), .int .i64 ((E : Nat) : Int)] 34)).cell? ⟨w.heap.size, 1, none⟩ = some (.int .i64 (at_ : Int)) := (World.cell?_alloc_lt _ _ _ zz).trans a1
  have aa2 : (w1.alloc (.cells #[.slice A n c, .int .i64 (at_ : Int), .int .i64 ((E : Nat) : Int)] 34)).cell? ⟨w.heap.size, 2, none⟩ = some (.int .i64 0) := (World.cell?_alloc_lt _ _ _ zz).trans a2
  clear h4 hk0 hk1 hb1
  rw [Nat.add_zero]
  go_wp2_with fail
  refine bodyPost_ret (v := .tuple #[.agg #[.slice A n c, .int .i64 ((at_ : Int)), .int .i64 ((E : Nat) : Int)], .int .i64 0]) (by simp [results, Try.results44, go_sem, b0, b1, b2, z1]) rfl ⟨rfl, ?_⟩
  repeat (first | exact HB1.out | refine Below.drew ?_ | (refine Below.setCell ?_ (by simp) _) | (refine Below.alloc ?_ (by simp; omega) _))

set_option maxRecDepth 100000 in
set_option maxHeartbeats 2000000 in
theorem ref_rlist_most (bs : List Nat) (n c at_ : Nat) (A : Option Addr) (w : World) (BB : Nat) (hr : Reads w BB 1 A n (BS bs)) (hx : ∀ x ∈ bs, x < 256) (hbl : bs.length = n) (hB : BB ≤ w.heap.size) (hnc : n ≤ c) (hn : n ≤ 140737488355328) (hat : at_ ≤ n) (most : Int) (V K : Nat) (hV : most < (V : Int)) (hV9 : V ≤ 9223372036854775807) (hrs : rs (bs.drop at_) = (V, K, 0)) :
    Calls Try.prog 44 #[.agg #[.slice A n c, .int .i64 (at_ : Int), .int .i64 0], .int .i64 most] w fun en w' => en = .returned (.tuple #[.agg #[.slice A n c, .int .i64 ((at_ : Int)), .int .i64 3], .int .i64 0]) ∧ Below w.heap.size w w' := by
  have HR := Lib.hid hr
  have HX := Lib.hid hx
  have HL := Lib.hid hbl
  have HRS := Lib.hid hrs
  clear hr hx hbl hrs
  go_enter Try.func44, Try.ntmps44
  go_wp2_with fail
  refine (ref_rshort bs n c at_ A _ BB ((HR.out.alloc hB _).alloc (by simp; omega) _) HX.out HL.out (by simp; omega) hnc hn hat).mono ?_
  rintro en w1 ⟨⟨V', K', E', hrs', rfl⟩, h4⟩
  rw [HRS.out] at hrs'
  simp only [Prod.mk.injEq] at hrs'
  obtain ⟨rfl, rfl, rfl⟩ := hrs'
  obtain ⟨hk0, hk1, z1, hb1⟩ := boxes h4
  have a0 : w1.cell? ⟨w.heap.size, 0, none⟩ = some (.slice A n c) := by rw [hk0.cell]; rfl
  have a1 : w1.cell? ⟨w.heap.size, 1, none⟩ = some (.int .i64 (at_ : Int)) := by rw [hk0.cell]; rfl
  have a2 : w1.cell? ⟨w.heap.size, 2, none⟩ = some (.int .i64 0) := by rw [hk0.cell]; rfl
  have b0 : w1.cell? ⟨w.heap.size + 1, 0, none⟩ = some (.slice none 0 0) := by rw [hk1.cell]; rfl
  have b1 : w1.cell? ⟨w.heap.size + 1, 1, none⟩ = some (.int .i64 0) := by rw [hk1.cell]; rfl
  have b2 : w1.cell? ⟨w.heap.size + 1, 2, none⟩ = some (.int .i64 0) := by rw [hk1.cell]; rfl
  have g0 := hk1.frozen 0
  have g1 := hk1.frozen 1
  have g2 := hk1.frozen 2
  have HB1 := Lib.hid hb1
  have HK0 := Lib.hid hk0
  have HK1 := Lib.hid hk1
  have zz : w.heap.size < w1.heap.size := by omega
  have aa0 : (w1.alloc (.cells #[.slice A n c, .int .i64 ((at_ : Int) + (K : Int)), .int .i64 0] 34)).cell? ⟨w.heap.size, 0, none⟩ = some (.slice A n c) := (World.cell?_alloc_lt _ _ _ zz).trans a0
  have aa1 : (w1.alloc (.cells #[.slice A n c, .int .i64 ((at_ : Int) + (K : Int)), .int .i64 0] 34)).cell? ⟨w.heap.size, 1, none⟩ = some (.int .i64 (at_ : Int)) := (World.cell?_alloc_lt _ _ _ zz).trans a1
  have aa2 : (w1.alloc (.cells #[.slice A n c, .int .i64 ((at_ : Int) + (K : Int)), .int .i64 0] 34)).cell? ⟨w.heap.size, 2, none⟩ = some (.int .i64 0) := (World.cell?_alloc_lt _ _ _ zz).trans a2
  clear h4 hk0 hk1 hb1
  go_wp2_with fail
  refine (ref_fail n c at_ A 0 3 _).mono ?_
  rintro en w2 ⟨rfl, h5⟩
  have hk2 := (HK1.out.alloc (.cells #[.slice A n c, .int .i64 ((at_ : Int) + (K : Int)), .int .i64 0] 34)).below h5 (by simp; omega)
  have z2 := h5.size
  have c0 : w2.cell? ⟨w.heap.size + 1, 0, none⟩ = some (.slice none 0 0) := by rw [hk2.cell]; rfl
  have c1 : w2.cell? ⟨w.heap.size + 1, 1, none⟩ = some (.int .i64 0) := by rw [hk2.cell]; rfl
  have c2 : w2.cell? ⟨w.heap.size + 1, 2, none⟩ = some (.int .i64 0) := by rw [hk2.cell]; rfl
  have y0 := hk2.frozen 0
  have y1 := hk2.frozen 1
  have y2 := hk2.frozen 2
  have HB2 := Lib.hid ((HB1.out.alloc (Nat.le_of_lt (Nat.lt_of_succ_lt z1)) (.cells #[.slice A n c, .int .i64 ((at_ : Int) + (K : Int)), .int .i64 0] 34)).trans (h5.mono (by simp; omega)))
  clear h5 hk2 a0 a1 a2 aa0 aa1 aa2 b0 b1 b2 g0 g1 g2
  go_wp2_with fail
  refine bodyPost_ret (v := .tuple #[.agg #[.slice A n c, .int .i64 ((at_ : Int)), .int .i64 3], .int .i64 0]) (by simp [results, Try.results44, go_sem, c0, c1, c2, z1]) rfl ⟨rfl, ?_⟩
  repeat (first | exact HB2.out | refine Below.drew ?_ | (refine Below.setCell ?_ (by simp) _) | (refine Below.alloc ?_ (by simp; omega) _))

end Go.Proofs.Ytnhibnjgdkpomaa
