/-
  The document's own reader, where it has an error; a fixed number that is not there. What a Reader's End notes.
-/
import Derived.Test.YtnhibnjgdkpomaaRefTx
namespace Go.Proofs.Ytnhibnjgdkpomaa
open Go.RowKit Plain
set_option linter.unusedVariables false
set_option linter.unusedSimpArgs false

set_option maxRecDepth 100000 in
set_option maxHeartbeats 1000000 in
theorem ref_rsigned_stop (n c at_ : Nat) (A : Option Addr) (e : Int) (w : World)  (h : e ≠ 0) :
    Calls Try.prog 42 #[.agg #[.slice A n c, .int .i64 (at_ : Int), .int .i64 e]] w fun en w' => en = .returned (.tuple #[.agg #[.slice A n c, .int .i64 ((at_ : Int)), .int .i64 e], .int .i64 0]) ∧ Below w.heap.size w w' := by
  have he' : (e != 0) = true := by simpa using h
  have H := Lib.hid h
  clear h
  go_enter Try.func42, Try.ntmps42
  go_wp2_with fail
  refine (ref_rshort_stop n c at_ A e _ H.out).mono ?_
  rintro en w1 ⟨rfl, h4⟩
  obtain ⟨hk0, hk1, z1, hb1⟩ := boxes h4
  have b0 : w1.cell? ⟨w.heap.size + 1, 0, none⟩ = some (.slice none 0 0) := by rw [hk1.cell]; rfl
  have b1 : w1.cell? ⟨w.heap.size + 1, 1, none⟩ = some (.int .i64 0) := by rw [hk1.cell]; rfl
  have b2 : w1.cell? ⟨w.heap.size + 1, 2, none⟩ = some (.int .i64 0) := by rw [hk1.cell]; rfl
  have g0 := hk1.frozen 0
  have g1 := hk1.frozen 1
  have g2 := hk1.frozen 2
  have HB1 := Lib.hid hb1
  clear h4 hk0 hk1 hb1
  go_wp2_with fail
  refine bodyPost_ret (v := .tuple #[.agg #[.slice A n c, .int .i64 ((at_ : Int)), .int .i64 e], .int .i64 0]) (by simp [results, Try.results42, go_sem, b0, b1, b2, z1]) rfl ⟨rfl, ?_⟩
  repeat (first | exact HB1.out | refine Below.drew ?_ | (refine Below.setCell ?_ (by simp) _) | (refine Below.alloc ?_ (by simp; omega) _))

set_option maxRecDepth 100000 in
set_option maxHeartbeats 1000000 in
theorem ref_rtext_stop (n c at_ : Nat) (A : Option Addr) (e : Int) (w : World)  (h : e ≠ 0) :
    Calls Try.prog 43 #[.agg #[.slice A n c, .int .i64 (at_ : Int), .int .i64 e]] w fun en w' => en = .returned (.tuple #[.agg #[.slice A n c, .int .i64 ((at_ : Int)), .int .i64 e], .string ⟨#[]⟩]) ∧ Below w.heap.size w w' := by
  have he' : (e != 0) = true := by simpa using h
  have H := Lib.hid h
  clear h
  go_enter Try.func43, Try.ntmps43
  go_wp2_with fail
  refine (ref_rshort_stop n c at_ A e _ H.out).mono ?_
  rintro en w1 ⟨rfl, h4⟩
  obtain ⟨hk0, hk1, z1, hb1⟩ := boxes h4
  have b0 : w1.cell? ⟨w.heap.size + 1, 0, none⟩ = some (.slice none 0 0) := by rw [hk1.cell]; rfl
  have b1 : w1.cell? ⟨w.heap.size + 1, 1, none⟩ = some (.int .i64 0) := by rw [hk1.cell]; rfl
  have b2 : w1.cell? ⟨w.heap.size + 1, 2, none⟩ = some (.int .i64 0) := by rw [hk1.cell]; rfl
  have g0 := hk1.frozen 0
  have g1 := hk1.frozen 1
  have g2 := hk1.frozen 2
  have HB1 := Lib.hid hb1
  clear h4 hk0 hk1 hb1
  go_wp2_with fail
  refine bodyPost_ret (v := .tuple #[.agg #[.slice A n c, .int .i64 ((at_ : Int)), .int .i64 e], .string ⟨#[]⟩]) (by simp [results, Try.results43, go_sem, b0, b1, b2, z1]) rfl ⟨rfl, ?_⟩
  repeat (first | exact HB1.out | refine Below.drew ?_ | (refine Below.setCell ?_ (by simp) _) | (refine Below.alloc ?_ (by simp; omega) _))

set_option maxRecDepth 100000 in
set_option maxHeartbeats 1000000 in
theorem ref_rlist_stop (n c at_ : Nat) (A : Option Addr) (e : Int) (w : World) (most : Int) (h : e ≠ 0) :
    Calls Try.prog 44 #[.agg #[.slice A n c, .int .i64 (at_ : Int), .int .i64 e], .int .i64 most] w fun en w' => en = .returned (.tuple #[.agg #[.slice A n c, .int .i64 ((at_ : Int)), .int .i64 e], .int .i64 0]) ∧ Below w.heap.size w w' := by
  have he' : (e != 0) = true := by simpa using h
  have H := Lib.hid h
  clear h
  go_enter Try.func44, Try.ntmps44
  go_wp2_with fail
  refine (ref_rshort_stop n c at_ A e _ H.out).mono ?_
  rintro en w1 ⟨rfl, h4⟩
  obtain ⟨hk0, hk1, z1, hb1⟩ := boxes h4
  have b0 : w1.cell? ⟨w.heap.size + 1, 0, none⟩ = some (.slice none 0 0) := by rw [hk1.cell]; rfl
  have b1 : w1.cell? ⟨w.heap.size + 1, 1, none⟩ = some (.int .i64 0) := by rw [hk1.cell]; rfl
  have b2 : w1.cell? ⟨w.heap.size + 1, 2, none⟩ = some (.int .i64 0) := by rw [hk1.cell]; rfl
  have g0 := hk1.frozen 0
  have g1 := hk1.frozen 1
  have g2 := hk1.frozen 2
  have HB1 := Lib.hid hb1
  clear h4 hk0 hk1 hb1
  go_wp2_with fail
  refine bodyPost_ret (v := .tuple #[.agg #[.slice A n c, .int .i64 ((at_ : Int)), .int .i64 e], .int .i64 0]) (by simp [results, Try.results44, go_sem, b0, b1, b2, z1]) rfl ⟨rfl, ?_⟩
  repeat (first | exact HB1.out | refine Below.drew ?_ | (refine Below.setCell ?_ (by simp) _) | (refine Below.alloc ?_ (by simp; omega) _))

set_option maxRecDepth 100000 in
set_option maxHeartbeats 1000000 in
theorem ref_fixed_stop (n c at_ m : Nat) (A : Option Addr) (e : Int) (w : World) (h : e ≠ 0) :
    Calls Try.prog 40 #[.agg #[.slice A n c, .int .i64 (at_ : Int), .int .i64 e], .int .i64 (m : Int)] w fun en w' => en = .returned (.tuple #[.agg #[.slice A n c, .int .i64 (at_ : Int), .int .i64 e], .int .u64 0]) ∧ Below w.heap.size w w' := by
  have H := Lib.hid h
  clear h
  go_enter Try.func40, Try.ntmps40
  go_wp2_with fail
  refine (ref_raw_stop n c at_ A e (m : Int) _ (.inl H.out)).mono ?_
  rintro en w1 ⟨rfl, h4⟩
  obtain ⟨hk0, hk1, z1, hb1⟩ := boxes h4
  have b0 : w1.cell? ⟨w.heap.size + 1, 0, none⟩ = some (.slice none 0 0) := by rw [hk1.cell]; rfl
  have b1 : w1.cell? ⟨w.heap.size + 1, 1, none⟩ = some (.int .i64 0) := by rw [hk1.cell]; rfl
  have b2 : w1.cell? ⟨w.heap.size + 1, 2, none⟩ = some (.int .i64 0) := by rw [hk1.cell]; rfl
  have g0 := hk1.frozen 0
  have g1 := hk1.frozen 1
  have g2 := hk1.frozen 2
  have HB1 := Lib.hid hb1
  clear h4 hk0 hk1 hb1
  go_wp2_with fail
  refine wp_loop_rounds 1 ?_
  rw [rounds_succ]
  go_wp2_with fail
  refine bodyPost_ret (v := .tuple #[.agg #[.slice A n c, .int .i64 (at_ : Int), .int .i64 e], .int .u64 0]) (by simp [results, Try.results40, go_sem, b0, b1, b2, z1]) rfl ⟨rfl, ?_⟩
  repeat (first | exact HB1.out | refine Below.drew ?_ | (refine Below.setCell ?_ (by simp) _) | (refine Below.alloc ?_ (by simp; omega) _))

set_option maxRecDepth 100000 in
set_option maxHeartbeats 1000000 in
theorem ref_fixed_no (bs : List Nat) (n c at_ m : Nat) (A : Option Addr) (w : World) (BB : Nat) (hr : Reads w BB 1 A n (BS bs)) (hB : BB ≤ w.heap.size) (hnc : n ≤ c) (hn : n ≤ 140737488355328) (hat : at_ ≤ n) (hx : n < at_ + m) :
    Calls Try.prog 40 #[.agg #[.slice A n c, .int .i64 (at_ : Int), .int .i64 0], .int .i64 (m : Int)] w fun en w' => en = .returned (.tuple #[.agg #[.slice A n c, .int .i64 (at_ : Int), .int .i64 2], .int .u64 0]) ∧ Below w.heap.size w w' := by
  have HR := Lib.hid hr
  clear hr
  go_enter Try.func40, Try.ntmps40
  go_wp2_with fail
  refine (ref_raw_no bs n c at_ (m : Int) A _ BB ((HR.out.alloc hB _).alloc (by simp; omega) _) (by simp; omega) hnc hn hat (by omega)).mono ?_
  rintro en w1 ⟨rfl, h4⟩
  obtain ⟨hk0, hk1, z1, hb1⟩ := boxes h4
  have b0 : w1.cell? ⟨w.heap.size + 1, 0, none⟩ = some (.slice none 0 0) := by rw [hk1.cell]; rfl
  have b1 : w1.cell? ⟨w.heap.size + 1, 1, none⟩ = some (.int .i64 0) := by rw [hk1.cell]; rfl
  have b2 : w1.cell? ⟨w.heap.size + 1, 2, none⟩ = some (.int .i64 0) := by rw [hk1.cell]; rfl
  have g0 := hk1.frozen 0
  have g1 := hk1.frozen 1
  have g2 := hk1.frozen 2
  have HB1 := Lib.hid hb1
  clear h4 hk0 hk1 hb1
  go_wp2_with fail
  refine wp_loop_rounds 1 ?_
  rw [rounds_succ]
  go_wp2_with fail
  refine bodyPost_ret (v := .tuple #[.agg #[.slice A n c, .int .i64 (at_ : Int), .int .i64 2], .int .u64 0]) (by simp [results, Try.results40, go_sem, b0, b1, b2, z1]) rfl ⟨rfl, ?_⟩
  repeat (first | exact HB1.out | refine Below.drew ?_ | (refine Below.setCell ?_ (by simp) _) | (refine Below.alloc ?_ (by simp; omega) _))

set_option maxHeartbeats 400000 in
theorem rd_end_form (base g : Nat) (v : Value) (bs : List Nat) (at_ : Nat) (w : World) (hR : Rd w base g v bs at_ 0) (hlen : bs.length ≤ 140737488355328) (h : at_ < bs.length) :
    Calls Try.prog 19 #[.pointer (some ⟨g, 0, none⟩)] w fun en w' => en = .returned (.int .i64 3) ∧ ∃ k, RdStep base g v bs (at_, 3) (w.drewN k) w' := by
  have HR := Lib.hid hR
  have hi : decide ((0 : Int) < (bs.length : Int) - (at_ : Int)) = true := by simp; omega
  have hi2 : (0 : Int) < (bs.length : Int) - (at_ : Int) := by omega
  clear hR
  go_enter Try.func19, Try.ntmps19
  go_wp2_with fail
  refine (rd_left _ _ _ _ _ _ _ HR.out hlen).mono ?_
  rintro en w1 ⟨rfl, k, rfl⟩
  go_wp2_with fail
  refine (rd_fail _ _ _ _ _ 0 3 _ (HR.out.drewN k)).mono ?_
  rintro en w2 ⟨rfl, hR2⟩
  rw [if_pos rfl] at hR2
  obtain ⟨_, _, c2, _⟩ := cell_at hR2.1
  have HR2 := Lib.hid hR2
  clear hR2
  go_wp2_with fail
  go_ret
  exact ⟨rfl, k, HR2.out⟩
end Go.Proofs.Ytnhibnjgdkpomaa
