
/-
  Whether two rows of bytes are the same: two that are.
-/
import Derived.Test.YtmjbfobjndiecaaBytes
import Derived.Deep.QuietTactic
import Derived.BigQuiet
namespace Go.Proofs.Ytmjbfobjndiecaa
open Go.RowKit

set_option maxHeartbeats 400000 in
theorem same_yes (xs : List Nat) (n : Nat) (hl : xs.length = n) (w : World) (BB CC : Nat) (A A' : Option Addr) (c c' : Nat) (ha : Reads w BB 1 A n (BS xs)) (hb : Reads w CC 1 A' n (BS xs)) (hn : n ≤ 140737488355328) :
    Calls Try.prog 11 #[.slice A n c, .slice A' n c'] w fun e w' => e = .returned (.bool true) ∧ ∃ k, w' = w.drewN k := by
  have HA := Lib.hid ha
  have HB := Lib.hid hb
  clear ha hb
  go_enter Try.func11, Try.ntmps11
  go_wp2_with fail
  go_loopw [5] (fun s wr => ∃ k d : Nat, k ≤ n ∧ s = .int .i64 (k : Int) ∧ wr = w.drewN d) (fun s _ => n - (intOf s).toNat)
  case atStart =>
    exact ⟨0, 0, by omega, rfl, rfl⟩
  case round =>
    obtain ⟨k, d, hk, rfl, rfl⟩ := hrel
    by_cases hlt : k < n
    · obtain ⟨ad, u, rfl, _, hu, hcell⟩ := HA.out.at_ hlt
      obtain ⟨ad', u', rfl, _, hu', hcell'⟩ := HB.out.at_ hlt
      rw [hu] at hu'
      injection hu' with hu'
      subst hu'
      obtain ⟨x, hx⟩ : ∃ x : Nat, u = .int .u8 (x : Int) := by
        simp [BS, B] at hu
        obtain ⟨x, _, rfl⟩ := hu
        exact ⟨x, rfl⟩
      subst hx
      clear hu
      go_wp2_with fail
      go_quiet (fail)
      go_wp2_with fail
      exact ⟨⟨k + 1, _, by omega, by go_num, rfl⟩, by simp [intOf]; omega⟩
    · go_wp2_with fail
      go_ret
      exact ⟨rfl, d, rfl⟩
end Go.Proofs.Ytmjbfobjndiecaa
