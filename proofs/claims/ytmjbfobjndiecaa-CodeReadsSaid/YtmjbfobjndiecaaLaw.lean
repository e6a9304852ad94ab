
/-
  What layer 1's statements call besides: the first so many bytes, a new Reader.
-/
import Derived.Test.YtmjbfobjndiecaaRdA
import Derived.Test.YtmjbfobjndiecaaPureRs
import Derived.Test.YtmjbfobjndiecaaFew
import Derived.OpenShut
namespace Go.Proofs.Ytmjbfobjndiecaa
open Go.RowKit Plain

theorem newReader_any (xs : List Nat) (n : Nat) (hl : xs.length = n) (w : World) (BB : Nat) (A : Option Addr) (c : Nat) (hr : Reads w BB 1 A n (BS xs)) (hn : n ≤ 140737488355328) :
    Calls Try.prog 42 #[.slice A n c] w fun e w' => ∃ v g, e = .returned (.pointer (some ⟨g, 0, none⟩)) ∧ Rd w' w.heap.size g v xs 0 0 ∧ w.heap.size ≤ g ∧ Below w.heap.size w w' := by
  subst hl
  go_enter Try.func42, Try.ntmps42
  go_wp2_with fail
  refine (own_any xs w BB A c hr hn).mono ?_
  rintro e w1 ⟨v, rfl, h1, h2⟩
  have hz := h2.size
  obtain ⟨A', c', rfl, _⟩ := reads_own h1
  have H1 := Lib.hid h1
  clear h1
  go_wp2_with fail
  go_ret
  exact ⟨_, _, rfl, ⟨Blk.new w1 _ _, H1.out.alloc _, Nat.zero_le _⟩, hz, h2.alloc hz _⟩

end Go.Proofs.Ytmjbfobjndiecaa
