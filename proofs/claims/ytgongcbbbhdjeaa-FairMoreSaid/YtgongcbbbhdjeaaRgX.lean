
/-
  What the statements of layer 6 call besides: the document's example, Around, SameInts.
-/
import Derived.Test.YtgongcbbbhdjeaaRgI
set_option linter.unusedVariables false
set_option linter.unusedSimpArgs false
namespace Go.Proofs.Ytgongcbbbhdjeaa
open Go.RowKit Plain

namespace Plain
def aroundV (n m : Int) : Int := (if n < 0 then -(n + 1) else n) % m
theorem aroundV_lt {n m : Int} (h : 0 < m) : 0 ≤ aroundV n m ∧ aroundV n m < m := ⟨Int.emod_nonneg _ (by omega), Int.emod_lt_of_pos _ h⟩
end Plain

theorem around_any (n m : Int) (w : World) (h1 : -9223372036854775808 ≤ n) (h2 : n ≤ 9223372036854775807) (h3 : 0 < m) (h4 : m ≤ 1000000) :
    Calls Try.prog 12 #[.int .i64 n, .int .i64 m] w fun e w' => e = .returned (.int .i64 (aroundV n m)) ∧ w = w' := by
  unfold aroundV
  by_cases h : n < 0
  · rw [if_pos h]
    have hw : IntKind.i64.wrap (n + 1) = n + 1 := IntWalk.i64_in _ (by omega)
    have hw2 : IntKind.i64.wrap (-(n + 1)) = -(n + 1) := IntWalk.i64_in _ (by omega)
    have h0 : 0 ≤ -(n + 1) := by omega
    go_enter Try.func12, Try.ntmps12
    go_wp2_with fail
    go_ret
    exact ⟨ret_numI (by rw [← Int.neg_tmod, Int.tmod_eq_emod_of_nonneg h0]), rfl⟩
  · rw [if_neg h]
    go_enter Try.func12, Try.ntmps12
    go_wp2_with fail
    go_ret
    exact ⟨rfl, rfl⟩

theorem reads_lit3 (w : World) (x y z : Int) (t : TypeId) : Reads (w.alloc (.cells #[.int .i64 x, .int .i64 y, .int .i64 z] t)) (w.heap.size + 1) 1 (some ⟨w.heap.size, 0, none⟩) 3 ([x, y, z].map EnI) :=
  ⟨by simp, fun _ => ⟨_, rfl, by simp, fun j u hj => by
    match j, hj with
    | 0, hj => simp at hj; subst hj; simp [Addr.add]
    | 1, hj => simp at hj; subst hj; simp [Addr.add]
    | 2, hj => simp at hj; subst hj; simp [Addr.add]⟩⟩

set_option maxHeartbeats 400000 in
theorem sameInts_yes (l : List Int) (n : Nat) (hl : l.length = n) (w : World) (BB CC : Nat) (A A' : Option Addr) (c c' : Nat) (ha : Reads w BB 1 A n (l.map EnI)) (hb : Reads w CC 1 A' n (l.map EnI)) (hn : n ≤ 140737488355328) :
    Calls Try.prog 26 #[.slice A n c, .slice A' n c'] w fun e w' => e = .returned (.bool true) ∧ ∃ k, w' = w.drewN k := by
  have HA := Lib.hid ha
  have HB := Lib.hid hb
  clear ha hb hl
  go_enter Try.func26, Try.ntmps26
  go_wp2_with fail
  go_loopw [5] (fun s wr => ∃ k d : Nat, k ≤ n ∧ s = .int .i64 (k : Int) ∧ wr = w.drewN d) (fun s _ => n - (intOf s).toNat)
  case atStart =>
    exact ⟨0, 0, by omega, rfl, rfl⟩
  case round =>
    obtain ⟨k, d, hk, rfl, rfl⟩ := hrel
    by_cases hlt : k < n
    · obtain ⟨ad, u, rfl, _, hu, hcell⟩ := HA.out.at_ hlt
      obtain ⟨ad', u', rfl, _, hu', hcell'⟩ := HB.out.at_ hlt
      rw [hu] at hu'
      injection hu' with hu'
      subst hu'
      obtain ⟨x, hx⟩ : ∃ x : Int, u = .int .i64 x := by
        simp at hu
        obtain ⟨x, _, rfl⟩ := hu
        exact ⟨x, rfl⟩
      subst hx
      clear hu
      go_wp2_with fail
      go_quiet (fail)
      go_wp2_with fail
      exact ⟨⟨k + 1, _, by omega, by go_num, rfl⟩, by simp [intOf]; omega⟩
    · go_wp2_with fail
      go_ret
      exact ⟨rfl, d, rfl⟩
end Go.Proofs.Ytgongcbbbhdjeaa
