
/-
  Whether all things are told: the statements' own question, of a ring that has just these.
-/
import Derived.Test.YtipflplilkecjaaRgIt
import Derived.Laws.EntriesVeiled
set_option linter.unusedVariables false
set_option linter.unusedSimpArgs false
namespace Go.Proofs.Ytipflplilkecjaa
open Go.RowKit Go.Shelf Plain
attribute [local go_sem] Oper.semAt_some

theorem blk_own {W W' : World} {row : Option Nat} {g : Nat} {t : TypeId} {cs : Array Value} (h : Blk W g t cs) (hg : W.grownBy W' row) (hr : ∀ r, row = some r → ∃ o : Obj, W.heap[r]? = some o ∧ o.isCells = false) : Blk W' g t cs :=
  h.grown hg (fun e => by
    obtain ⟨o, ho, hc⟩ := hr g e.symm
    unfold Blk at h
    rw [h] at ho
    cases ho
    simp [Obj.isCells] at hc)
/-- What has come is the first of l, each with how many stand ahead. -/
def GoodL (l : List Int) (pre : List (Nat × Int)) : Prop := ∀ (j : Nat) (p : Nat × Int), pre[j]? = some p → p.1 = j ∧ l[j]? = some p.2
theorem GoodL.nil (l : List Int) : GoodL l [] := fun j p h => by simp at h
theorem GoodL.snoc {l : List Int} {pre : List (Nat × Int)} {v : Int} (h : GoodL l pre) (hv : l[pre.length]? = some v) : GoodL l (pre ++ [(pre.length, v)]) := by
  intro j p hp
  rcases Nat.lt_or_ge j pre.length with hj | hj
  · rw [List.getElem?_append_left hj] at hp
    exact h j p hp
  · rw [List.getElem?_append_right hj] at hp
    rcases Nat.eq_zero_or_pos (j - pre.length) with h0 | h0
    · rw [h0] at hp
      obtain rfl : j = pre.length := by omega
      simp at hp
      subst hp
      exact ⟨rfl, hv⟩
    · rw [List.getElem?_eq_none (by simp; omega)] at hp
      cases hp
theorem goodL_upto (l : List Int) {k : Nat} (hk : k ≤ l.length) : GoodL l (uptoZ l k) := by
  intro j p hp
  have hj : j < k := by
    have := (List.getElem?_eq_some_iff.1 hp).1
    rwa [uptoZ_length] at this
  rw [uptoZ_at l hj] at hp
  cases hp
  exact ⟨rfl, by simp [show j < l.length by omega]⟩
/-- Where the loop of 'all' stands. -/
structure AllI (l : List Int) (m : Int) (w : World) (bn : Nat) (A : Option Addr) (c : Nat) (pre : List (Nat × Int)) (W : World) : Prop where
  b4 : Blk W w.heap.size 26 #[.slice A l.length c]
  b5 : Blk W (w.heap.size + 1) 3 #[.int .i64 m]
  b6 : Blk W (w.heap.size + 1 + 1) 4 #[.bool false]
  bn : Blk W bn 3 #[.int .i64 (pre.length : Int)]
  good : GoodL l pre

end Go.Proofs.Ytipflplilkecjaa
