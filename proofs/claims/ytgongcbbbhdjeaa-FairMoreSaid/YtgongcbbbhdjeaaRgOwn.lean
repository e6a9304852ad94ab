
/-
  Rows of numbers that came in, and rows of one's own, beside a ring.
-/
import Derived.Test.YtgongcbbbhdjeaaRgX
import Derived.Test.YtgongcbbbhdjeaaBytes
set_option linter.unusedVariables false
namespace Go.Proofs.Ytgongcbbbhdjeaa
open Go.RowKit Plain

theorem wf_i64 {n : Int} (h : (Lit.int .i64 n).wf = true) : -9223372036854775808 ≤ n ∧ n ≤ 9223372036854775807 := by
  have := bounds_i64 h
  omega
/-- A row of numbers that came in. -/
theorem row_int {w : World} {a : Option Addr} {n c : Nat} {zs : List Int} (h : IsRow .i64 w a n c zs) :
    ∃ l : List Int, l.length = n ∧ Reads w w.heap.size 1 a n (l.map EnI) ∧ (∀ x ∈ l, -9223372036854775808 ≤ x ∧ x ≤ 9223372036854775807) ∧ n ≤ c ∧ n ≤ 9223372036854775807 := by
  rcases h with ⟨rfl, rfl, rfl, rfl⟩ | ⟨x, rfl, hl, hm, hz, hcell, hwf⟩
  · exact ⟨[], rfl, Reads.none_, by simp, by omega, by omega⟩
  · refine ⟨zs.take n, by simp; omega, ⟨by simp; omega, fun hn => ⟨x, rfl, ?_, fun j u hj => ?_⟩⟩, fun x hx => wf_i64 (hwf x (List.mem_of_mem_take hx)), hl, by unfold maxLen at hm; omega⟩
    · have h0 := World.block_lt_of_cell? _ _ (hcell 0 (by omega))
      rwa [block_of_add] at h0
    · have hjn : j < n := by
        have := (List.getElem?_eq_some_iff.1 hj).1
        simp at this
        omega
      have hc := hcell j (by omega)
      rw [hc]
      have hjz : j < zs.length := by omega
      simp [hjn, hjz] at hj
      rw [← hj]
      simp [List.getD, hjz]
/-- The first m of a row. -/
theorem Reads.few {w : World} {BB : Nat} {A : Option Addr} {n : Nat} {l : List Int} (h : Reads w BB 1 A n (l.map EnI)) {m : Nat} (hm : m ≤ n) : Reads w BB 1 A m ((l.take m).map EnI) := by
  have hl := h.1
  simp at hl
  refine ⟨by simp; omega, fun h0 => ?_⟩
  obtain ⟨ad, e, hb, hc⟩ := h.2 (by omega)
  refine ⟨ad, e, hb, fun j u hj => hc j u ?_⟩
  have hjm : j < m := by
    have := (List.getElem?_eq_some_iff.1 hj).1
    simp at this
    omega
  rw [← hj]
  simp [hjm]
/-- The k-th of a row of numbers. -/
theorem Reads.num {w : World} {BB : Nat} {A : Option Addr} {n : Nat} {l : List Int} (h : Reads w BB 1 A n (l.map EnI)) {k : Nat} (hk : k < n) :
    ∃ ad x, A = some ad ∧ ad.block < BB ∧ l[k]? = some x ∧ w.cell? (ad.add k) = some (.int .i64 x) := by
  obtain ⟨ad, u, e, hb, hu, hc⟩ := h.at_ hk
  have hl := h.1
  simp at hl
  have hx : l[k]? = some (l[k]'(by omega)) := List.getElem?_eq_getElem (by omega)
  refine ⟨ad, _, e, hb, hx, ?_⟩
  simp [hx] at hu
  rw [hc, ← hu]
theorem reads_one_int (w : World) (x : Int) (t : TypeId) : Reads (w.alloc (.cells #[.int .i64 x] t)) (w.heap.size + 1) 1 (some ⟨w.heap.size, 0, none⟩) 1 [.int .i64 x] :=
  ⟨by simp, fun _ => ⟨_, rfl, by simp, fun j u hj => by
    match j, hj with
    | 0, hj => simp at hj; subst hj; simp [Addr.add]⟩⟩
/-- A row of numbers of one's own. -/
abbrev OwnI (w : World) (base : Nat) (v : Value) (l : List Int) : Prop := w.ownsRow base 3 1 v l.length (l.map EnI)
theorem OwnI.slice {w : World} {base : Nat} {v : Value} {l : List Int} (h : OwnI w base v l) : ∃ A c, v = .slice A l.length c ∧ l.length ≤ c ∧ Reads w w.heap.size 1 A l.length (l.map EnI) := by
  rcases h.2 with ⟨rfl, hl⟩ | ⟨k, cap, _, rfl, _, _, hc, _⟩
  · have h' := h
    unfold OwnI at h'
    rw [hl] at h' ⊢
    exact ⟨none, 0, rfl, by omega, Reads.of_own h'⟩
  · exact ⟨_, cap, rfl, hc, Reads.of_own h⟩
theorem OwnI.nil (w : World) (base : Nat) : OwnI w base (.slice none 0 0) [] := World.ownsRow_nil _ _ _ _
theorem OwnI.snoc {w : World} {base : Nat} {v : Value} {l : List Int} {x : Int} (h : w.ownsRow base 3 1 v (l.length + 1) (l.map EnI ++ [.int .i64 x])) : OwnI w base v (l ++ [x]) := by
  unfold OwnI
  simpa using h
end Go.Proofs.Ytgongcbbbhdjeaa
