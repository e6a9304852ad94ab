
/-
  A row of bools that comes in.
-/
import Derived.Test.YtbgigkamlnchcaaRgOwn
import Derived.Deep.Slices
import Derived.ChangeArms
import Derived.ChangeSame
namespace Go.Proofs.Ytbgigkamlnchcaa
open Go.ChangeShapes Go.WideShapes Go.Deep Go.RowKit

def IsBools (w : World) (a : Option Addr) (n c : Nat) (l : List Bool) : Prop :=
  l.length = n ∧ n ≤ c ∧ c ≤ maxLen ∧ (0 < n → ∃ x, a = some x ∧ x.block < w.heap.size ∧ ∀ i b, l[i]? = some b → w.cell? (x.add i) = some (.bool b))

theorem list_ofB {α : Type} (n : Nat) (P : Nat → α → Prop) (h : ∀ i, i < n → ∃ x, P i x) : ∃ l : List α, l.length = n ∧ ∀ i x, l[i]? = some x → P i x := by
  induction n with
  | zero => exact ⟨[], rfl, fun i x h => by simp at h⟩
  | succ n ih =>
    obtain ⟨l, hl, hp⟩ := ih (fun i hi => h i (by omega))
    obtain ⟨x, hx⟩ := h n (by omega)
    refine ⟨l ++ [x], by simp [hl], fun i y hy => ?_⟩
    rw [List.getElem?_append] at hy
    split at hy
    · exact hp i y hy
    · rename_i hi
      have : i = n := by
        have := (List.getElem?_eq_some_iff.1 hy).1
        simp at this
        omega
      subst this
      rw [hl, Nat.sub_self] at hy
      simp at hy
      exact hy ▸ hx
theorem bools_open {H : Type} {enc : TypeId × Value → H} {W : World} {a : Option Addr} {n c : Nat} {d : DataW H} {p : List MemPlace} {spare : Nat → Bool} {held : Bool} {base : Nat}
    (h : DataW.Trod enc Try.prog W base spare held 42 (.slice a n c) d p) : ∃ l, IsBools W a n c l := by
  obtain ⟨fuel, hf⟩ := h
  rcases open_slice1 Try.underlying42 (by kernel_rfl) hf with ⟨hcs, _⟩ | ⟨x, l, cc, m, k, V, D, Pl, hcs, _, hl, hm, hmm, _, hi⟩
  · simp [Value.cells] at hcs
    obtain ⟨rfl, rfl, rfl⟩ := hcs
    exact ⟨[], rfl, by omega, by unfold maxLen; omega, by omega⟩
  · simp [Value.cells] at hcs
    obtain ⟨rfl, rfl, rfl⟩ := hcs
    have hnm : n ≤ m := by rw [hmm]; split <;> omega
    obtain ⟨ps, hp1, hp2⟩ := list_ofB n (fun i b => W.cell? (x.add i) = some (.bool b)) (fun i hin => by
      obtain ⟨h1, h2⟩ := hi i (by omega)
      obtain ⟨b, hb, _⟩ := DataW.trod_bool Try.underlying4 h2
      injection hb with hb
      exact ⟨b, by rw [h1, hb]⟩)
    refine ⟨ps, hp1, hl, hm, fun hn => ⟨x, rfl, ?_, hp2⟩⟩
    have h0 := hp2 0 _ (List.getElem?_eq_getElem (by omega))
    have := World.block_lt_of_cell? _ _ h0
    rwa [block_of_add] at this
end Go.Proofs.Ytbgigkamlnchcaa
