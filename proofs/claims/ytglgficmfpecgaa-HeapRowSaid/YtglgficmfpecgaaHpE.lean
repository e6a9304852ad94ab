
/-
  What the laws of layer 8 lean on besides: lengths, steps.
-/
import Derived.Test.YtglgficmfpecgaaHpD
import Derived.Test.YtglgficmfpecgaaHpOpen
set_option linter.unusedVariables false
set_option linter.unusedSimpArgs false
namespace Go.Proofs.Ytglgficmfpecgaa
open Go.RowKit Plain

theorem digV_le : ∀ (k n : Nat), n < 2 ^ k → digV n ≤ k
  | 0, n, h => by
    have : n = 0 := by simpa using h
    subst this
    rw [digV]
    simp
  | k + 1, n, h => by
    rw [digV]
    split
    · omega
    · have := digV_le k (n / 2) (by rw [Nat.pow_succ] at h; omega)
      omega
theorem dueN_le (r : List Tm) (now : Int) : dueN r now ≤ r.length := by
  unfold dueN
  exact (List.takeWhile_sublist _).length_le
theorem doesR_len (r : List Tm) (d : Int × Int × Int) : (doesR r d).length ≤ r.length + 1 := by
  unfold doesR
  have h1 := cancelR_len r d.2.1
  split
  · rw [setR_len]; omega
  · split
    · omega
    · split
      · simp; omega
      · omega
theorem doesN_le (r : List Tm) (d : Int × Int × Int) (h : r.length ≤ 80) : doesN r d ≤ 1680 := by
  unfold doesN
  have h1 := digV_le 7 (r.length + 1) (by omega)
  have h2 := dueN_le r d.2.2
  have h3 : (if d.1 = 2 then dueN r d.2.2 else 1) ≤ 80 := by split <;> omega
  have := Nat.mul_le_mul h3 (Nat.mul_le_mul_left 3 h1)
  omega
/-- The k-th deed that came in. -/
theorem deed_at {w : World} {a : Option Addr} {n c : Nat} {ps : List Deed8} (h : IsDeeds8 w a n c ps) {k : Nat} (hk : k < n) : ∃ x p, a = some x ∧ x.block < w.heap.size ∧ Deed8At w (x.add (k * 3)) p := by
  obtain ⟨hl, hn, _, hx⟩ := h
  obtain ⟨x, e, hb, hp⟩ := hx (by omega)
  exact ⟨x, ps[k]'(by omega), e, hb, hp k _ (List.getElem?_eq_getElem (by omega))⟩
theorem Deed8At.fx {w w' : World} {x : Addr} {p : Deed8} (h : Deed8At w x p) (hx : x.block < w.heap.size) (hf : Below w.heap.size w w') : Deed8At w' x p := by
  obtain ⟨h0, h1, h2, hb⟩ := h
  refine ⟨?_, ?_, ?_, hb⟩
  · rw [hf.cell (by rw [block_of_add]; exact hx)]; exact h0
  · rw [hf.cell (by rw [block_of_add]; exact hx)]; exact h1
  · rw [hf.cell (by rw [block_of_add]; exact hx)]; exact h2
end Go.Proofs.Ytglgficmfpecgaa
