
/-
  The document's small functions on programs: Around, Asks, most.
-/
import Derived.Test.YtmjbfobjndiecaaPrP
import Derived.Test.YtmjbfobjndiecaaBytes
namespace Go.Proofs.Ytmjbfobjndiecaa
open Go.RowKit Plain

theorem ret_int {k : IntKind} {a b : Int} (h : a = b) : Ending.returned (.int k a) = .returned (.int k b) := by rw [h]
theorem ret_bool {a b : Bool} (h : a = b) : Ending.returned (.bool a) = .returned (.bool b) := by rw [h]

theorem around_any (n m : Int) (w : World) (h0 : -9223372036854775808 ≤ n) (h1 : n ≤ 9223372036854775807) (hm : 0 < m) (hm' : m ≤ 9223372036854775807) :
    Calls Try.prog 19 #[.int .i64 n, .int .i64 m] w fun e w' => e = .returned (.int .i64 (around n m)) ∧ w = w' := by
  have hne : (m == 0) = false := by rw [beq_eq_false_iff_ne]; omega
  by_cases h : n < 0
  · have ht : -((n + 1).tmod m) = -(n + 1) % m := by
      rw [show (n + 1).tmod m = -((-(n + 1)).tmod m) by rw [Int.neg_tmod, Int.neg_neg], Int.tmod_eq_emod_of_nonneg (by omega)]
      omega
    have HT := Lib.hid ht
    clear ht
    rw [show around n m = (-(n + 1)) % m by rw [around, if_pos h]]
    go_enter Try.func19, Try.ntmps19
    go_wp2_with fail
    go_ret
    exact ⟨ret_int HT.out, rfl⟩
  · rw [show around n m = n % m by rw [around, if_neg h]]
    go_enter Try.func19, Try.ntmps19
    go_wp2_with fail
    go_ret
    exact ⟨rfl, rfl⟩

theorem asks_any (op : Int) (w : World) :
    Calls Try.prog 64 #[.int .i64 op] w fun e w' => e = .returned (.bool (asks op)) ∧ w = w' := by
  go_enter Try.func64, Try.ntmps64
  go_wp2_with fail
  all_goals
    go_ret
    refine ⟨ret_bool ?_, rfl⟩
    rw [Bool.eq_iff_iff]
    simp [asks]
    try omega

/-- What 'most' tells, of lengths and numbers alone. -/
def mostV (nf mu nc ns nh nx lo nk op : Int) : Int :=
  if op = 0 then 1073741825
  else if op = 5 ∨ op = 6 then lo
  else if op = 7 ∨ op = 8 then nk + 1
  else if op = 9 ∨ op = 11 then nf
  else if op = 15 ∨ op = 16 then mu
  else if op = 17 ∨ op = 18 ∨ op = 19 then nc
  else if op = 20 ∨ op = 21 then ns
  else if op = 22 ∨ op = 23 then nh
  else if op = 24 then nx
  else 0
theorem mostV_most (p : PV) (f : FV) (op : Int) : mostV p.funcs.length p.mutexes p.conds.length p.semas.length p.chans.length p.choices.length f.locals f.code.length op = most p f op := rfl

set_option maxHeartbeats 1000000 in
theorem most_any (fA cA sA hA xA kA : Option Addr) (nf fc nc cc ns sc nh hc nx xc nk kc : Nat) (mu th lo op : Int) (w : World) (hk : nk ≤ 9223372036854775806) :
    Calls Try.prog 63 #[.agg #[.slice fA nf fc, .int .i64 mu, .slice cA nc cc, .slice sA ns sc, .slice hA nh hc, .slice xA nx xc, .int .i64 th], .agg #[.int .i64 lo, .slice kA nk kc], .int .i64 op] w
      fun e w' => e = .returned (.int .i64 (mostV nf mu nc ns nh nx lo nk op)) ∧ Below w.heap.size w w' := by
  have hop : op = 0 ∨ op = 5 ∨ op = 6 ∨ op = 7 ∨ op = 8 ∨ op = 9 ∨ op = 11 ∨ op = 15 ∨ op = 16 ∨ op = 17 ∨ op = 18 ∨ op = 19 ∨ op = 20 ∨ op = 21 ∨ op = 22 ∨ op = 23 ∨ op = 24 ∨ (op ≠ 0 ∧ op ≠ 5 ∧ op ≠ 6 ∧ op ≠ 7 ∧ op ≠ 8 ∧ op ≠ 9 ∧ op ≠ 11 ∧ op ≠ 15 ∧ op ≠ 16 ∧ op ≠ 17 ∧ op ≠ 18 ∧ op ≠ 19 ∧ op ≠ 20 ∧ op ≠ 21 ∧ op ≠ 22 ∧ op ≠ 23 ∧ op ≠ 24) := by omega
  rcases hop with rfl | rfl | rfl | rfl | rfl | rfl | rfl | rfl | rfl | rfl | rfl | rfl | rfl | rfl | rfl | rfl | rfl | ⟨n0, n5, n6, n7, n8, n9, n11, n15, n16, n17, n18, n19, n20, n21, n22, n23, n24⟩
  rotate_right
  · have e : mostV nf mu nc ns nh nx lo nk op = 0 := by simp [mostV, n0, n5, n6, n7, n8, n9, n11, n15, n16, n17, n18, n19, n20, n21, n22, n23, n24]
    rw [e]
    clear e
    have m0 : (op == 0) = false := beq_eq_false_iff_ne.2 n0
    have m5 : (op == 5) = false := beq_eq_false_iff_ne.2 n5
    have m6 : (op == 6) = false := beq_eq_false_iff_ne.2 n6
    have m7 : (op == 7) = false := beq_eq_false_iff_ne.2 n7
    have m8 : (op == 8) = false := beq_eq_false_iff_ne.2 n8
    have m9 : (op == 9) = false := beq_eq_false_iff_ne.2 n9
    have m11 : (op == 11) = false := beq_eq_false_iff_ne.2 n11
    have m15 : (op == 15) = false := beq_eq_false_iff_ne.2 n15
    have m16 : (op == 16) = false := beq_eq_false_iff_ne.2 n16
    have m17 : (op == 17) = false := beq_eq_false_iff_ne.2 n17
    have m18 : (op == 18) = false := beq_eq_false_iff_ne.2 n18
    have m19 : (op == 19) = false := beq_eq_false_iff_ne.2 n19
    have m20 : (op == 20) = false := beq_eq_false_iff_ne.2 n20
    have m21 : (op == 21) = false := beq_eq_false_iff_ne.2 n21
    have m22 : (op == 22) = false := beq_eq_false_iff_ne.2 n22
    have m23 : (op == 23) = false := beq_eq_false_iff_ne.2 n23
    have m24 : (op == 24) = false := beq_eq_false_iff_ne.2 n24
    clear n0 n5 n6 n7 n8 n9 n11 n15 n16 n17 n18 n19 n20 n21 n22 n23 n24
    go_enter Try.func63, Try.ntmps63
    go_wp2_with fail
    go_ret
    exact ⟨rfl, ((Below.refl _ _).alloc (Nat.le_refl _) _).alloc (by simp) _⟩
  all_goals
    go_enter Try.func63, Try.ntmps63
    go_wp2_with fail
    go_ret
    exact ⟨ret_int (by simp [mostV]), ((Below.refl _ _).alloc (Nat.le_refl _) _).alloc (by simp) _⟩
end Go.Proofs.Ytmjbfobjndiecaa
