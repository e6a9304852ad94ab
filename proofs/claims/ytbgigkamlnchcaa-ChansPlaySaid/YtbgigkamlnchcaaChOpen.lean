
/-
  What comes in: four numbers as an array.
-/
import Derived.Test.YtbgigkamlnchcaaChCh
import Derived.Laws.StructEq
import Derived.Laws.IdiomArrays
import Derived.ChangeOld
set_option linter.unusedVariables false
namespace Go.Proofs.Ytbgigkamlnchcaa
open Go.RowKit Plain
theorem cells_arr4i : Try.prog.cellsOf 22 = 4 := by kernel_rfl
theorem cells_i64 : Try.prog.cellsOf 3 = 1 := by kernel_rfl
section
open Go.ChangeShapes Go.WideShapes
set_option maxRecDepth 100000 in
theorem open_arr4i {H : Type} {enc : TypeId × Value → H} {W : World} {base : Nat} {v : Value} {d : DataW H} {p : List MemPlace} (hv : Value.okWide Try.prog W .any base 22 v)
    (h : DataW.Trod enc Try.prog W 0 (fun _ => true) true 22 v d p) :
    ∃ x y z u : Int, v = .agg #[.int .i64 x, .int .i64 y, .int .i64 z, .int .i64 u] ∧ ((Lit.int .i64 x).wf = true ∧ (Lit.int .i64 y).wf = true) ∧ (Lit.int .i64 z).wf = true ∧ (Lit.int .i64 u).wf = true := by
  obtain ⟨cs, rfl, hsz, _⟩ : ∃ cs, v = .agg cs ∧ cs.size = Try.prog.cellsOf 22 ∧ Row.okWide Try.prog W .any base 22 cs := by
    simpa [Value.okWide, Try.underlying22] using hv
  rw [cells_arr4i] at hsz
  obtain ⟨l⟩ := cs
  match l, hsz with
  | [c0, c1, c2, c3], _ =>
    obtain ⟨fuel, hf⟩ := h
    obtain ⟨e0, e1, e2, e3, m, hx, hy0, hy1, hy2, hy3⟩ := trod_array4 Try.underlying22 cells_i64 hf
    obtain ⟨i0, q0, _, w0⟩ := DataW.trod_int Try.underlying3 hy0
    obtain ⟨i1, q1, _, w1⟩ := DataW.trod_int Try.underlying3 hy1
    obtain ⟨i2, q2, _, w2⟩ := DataW.trod_int Try.underlying3 hy2
    obtain ⟨i3, q3, _, w3⟩ := DataW.trod_int Try.underlying3 hy3
    simp at q0 q1 q2 q3
    subst q0 q1 q2 q3
    exact ⟨_, _, _, _, rfl, ⟨w0, w1⟩, w2, w3⟩
end
theorem RN.of_reads {w : World} {A : Option Addr} {n c : Nat} {l : List Int} (h : Reads w w.heap.size 1 A n (l.map EnI)) (hl : l.length = n) (hc : n ≤ c) : RN w (fun _ => True) A c l :=
  ⟨by omega, fun h0 => by
    obtain ⟨ad, e, hb, hcell⟩ := h.2 (by omega)
    exact ⟨ad, e, trivial, hb, fun j x hj => hcell j _ (by rw [List.getElem?_map, hj]; rfl)⟩⟩
end Go.Proofs.Ytbgigkamlnchcaa
