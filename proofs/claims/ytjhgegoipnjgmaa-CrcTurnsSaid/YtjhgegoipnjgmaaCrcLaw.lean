/-
  What layer 2's statements call besides: the first so many bytes of a row that came in.
-/
import Derived.Test.YtjhgegoipnjgmaaFew
namespace Go.Proofs.Ytjhgegoipnjgmaa
open Go.RowKit

theorem few_open {w : World} {a : Option Addr} {len cap : Nat} {z : List Int} (h : IsRow .u8 w a len cap z) (m : Nat) (hm : m ≤ 65536) :
    ∃ (xs : List Nat) (n : Nat), xs.length = n ∧ n ≤ m ∧ n ≤ cap ∧ (∀ x ∈ xs, x < 256) ∧ Reads w w.heap.size 1 a n (BS xs) ∧
      ∀ W, Calls Try.prog 9 #[.slice a len cap, .int .i64 (m : Int)] W fun e w' => e = .returned (.slice a n cap) ∧ W = w' := by
  obtain ⟨xs, hl, hx, hr, hc, hn⟩ := row_reads h
  exact ⟨xs.take (min len m), min len m, by simp; omega, by omega, by omega, fun x hx' => hx x (List.mem_of_mem_take hx'), hr.take (by omega), fun W => few_any a len cap m W hc hn hm⟩
end Go.Proofs.Ytjhgegoipnjgmaa
