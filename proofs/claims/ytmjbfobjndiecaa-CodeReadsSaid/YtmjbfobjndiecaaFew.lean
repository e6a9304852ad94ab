
/-
  The first so many bytes.
-/
import Derived.Test.YtmjbfobjndiecaaBytes
namespace Go.Proofs.Ytmjbfobjndiecaa
open Go.RowKit

theorem few_any (A : Option Addr) (n c : Nat) (m : Nat) (w : World) (hc : n ≤ c) (_hn : n ≤ 9223372036854775807) (hm : m ≤ 65536) :
    Calls Try.prog 18 #[.slice A n c, .int .i64 (m : Int)] w fun e w' => e = .returned (.slice A (min n m) c) ∧ w = w' := by
  by_cases h : m < n
  · rw [show min n m = m by omega]
    go_enter Try.func18, Try.ntmps18
    go_wp2_with fail
    go_ret
    exact ⟨rfl, rfl⟩
  · rw [show min n m = n by omega]
    go_enter Try.func18, Try.ntmps18
    go_wp2_with fail
    go_ret
    exact ⟨rfl, rfl⟩
end Go.Proofs.Ytmjbfobjndiecaa
