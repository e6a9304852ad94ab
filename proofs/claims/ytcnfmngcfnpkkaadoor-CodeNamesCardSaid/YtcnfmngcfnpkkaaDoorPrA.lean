
/-
  The document's small functions on programs: Around, Asks, most.
-/
import Derived.Test.YtcnfmngcfnpkkaaDoorPrP
import Derived.Test.YtcnfmngcfnpkkaaDoorBytes
namespace Go.Proofs.YtcnfmngcfnpkkaaDoor
open Go.RowKit Plain

theorem ret_int {k : IntKind} {a b : Int} (h : a = b) : Ending.returned (.int k a) = .returned (.int k b) := by rw [h]
theorem ret_bool {a b : Bool} (h : a = b) : Ending.returned (.bool a) = .returned (.bool b) := by rw [h]

theorem around_any (n m : Int) (w : World) (h0 : -9223372036854775808 ≤ n) (h1 : n ≤ 9223372036854775807) (hm : 0 < m) (hm' : m ≤ 9223372036854775807) :
    Calls Tryd.prog 4 #[.int .i64 n, .int .i64 m] w fun e w' => e = .returned (.int .i64 (around n m)) ∧ w = w' := by
  have hne : (m == 0) = false := by rw [beq_eq_false_iff_ne]; omega
  by_cases h : n < 0
  · have ht : -((n + 1).tmod m) = -(n + 1) % m := by
      rw [show (n + 1).tmod m = -((-(n + 1)).tmod m) by rw [Int.neg_tmod, Int.neg_neg], Int.tmod_eq_emod_of_nonneg (by omega)]
      omega
    have HT := Lib.hid ht
    clear ht
    rw [show around n m = (-(n + 1)) % m by rw [around, if_pos h]]
    go_enter Tryd.func4, Tryd.ntmps4
    go_wp2_with fail
    go_ret
    exact ⟨ret_int HT.out, rfl⟩
  · rw [show around n m = n % m by rw [around, if_neg h]]
    go_enter Tryd.func4, Tryd.ntmps4
    go_wp2_with fail
    go_ret
    exact ⟨rfl, rfl⟩

theorem asks_any (op : Int) (w : World) :
    Calls Tryd.prog 14 #[.int .i64 op] w fun e w' => e = .returned (.bool (asks op)) ∧ w = w' := by
  go_enter Tryd.func14, Tryd.ntmps14
  go_wp2_with fail
  all_goals
    go_ret
    refine ⟨ret_bool ?_, rfl⟩
    rw [Bool.eq_iff_iff]
    simp [asks]
    try omega

/-- What 'most' tells, of lengths and numbers alone. -/
def mostV (nf mu nc ns nh nx lo nk op : Int) : Int :=
  if op = 0 then 1073741825
  else if op = 5 ∨ op = 6 then lo
  else if op = 7 ∨ op = 8 then nk + 1
  else if op = 9 ∨ op = 11 then nf
  else if op = 15 ∨ op = 16 then mu
  else if op = 17 ∨ op = 18 ∨ op = 19 then nc
  else if op = 20 ∨ op = 21 then ns
  else if op = 22 ∨ op = 23 then nh
  else if op = 24 then nx
  else 0
theorem mostV_most (p : PV) (f : FV) (op : Int) : mostV p.funcs.length p.mutexes p.conds.length p.semas.length p.chans.length p.choices.length f.locals f.code.length op = most p f op := rfl

end Go.Proofs.YtcnfmngcfnpkkaaDoor
