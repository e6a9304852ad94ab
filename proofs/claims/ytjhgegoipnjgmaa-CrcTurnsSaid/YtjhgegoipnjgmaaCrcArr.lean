/-
  Four bytes as an array: whether it is all zeros.
-/
import Derived.Test.YtjhgegoipnjgmaaBytes
import Derived.Laws.StructEq
import Derived.Laws.IdiomArrays
import Derived.ChangeOld
namespace Go.Proofs.Ytjhgegoipnjgmaa
open Go.RowKit

theorem eq_arr4 (a b c d : Int) (w : World) : (Op.equalIn 10000 34 (.agg #[.int .u8 a, .int .u8 b, .int .u8 c, .int .u8 d]) (.agg #[.int .u8 0, .int .u8 0, .int .u8 0, .int .u8 0])).run Try.prog w = .ok (a == 0 && b == 0 && c == 0 && d == 0) w := by
  have u3 := Try.underlying5
  have a3 := Try.isAgg5
  have z3 := Try.sizeOf5
  rw [show (10000 : Nat) = 9999 + 1 from rfl, Op.equalIn]
  simp only [Sem.run_bind, run_underlying Try.underlying34, Result.andThen_ok]
  simp only [Std.Legacy.Range.forIn_eq_forIn_range', Std.Legacy.Range.size, Nat.sub_zero, Nat.add_sub_cancel, Nat.div_one, List.range'_succ, List.range'_zero, List.forIn_cons, List.forIn_nil]
  go_simp
  by_cases h1 : a = 0 <;> by_cases h2 : b = 0 <;> by_cases h3 : c = 0 <;> by_cases h4 : d = 0 <;> simp [h1, h2, h3, h4]
theorem eq_arr4_is (a b c d : Int) (r : Bool) (h : (a == 0 && b == 0 && c == 0 && d == 0) = r) (w : World) : (Op.equalIn 10000 34 (.agg #[.int .u8 a, .int .u8 b, .int .u8 c, .int .u8 d]) (.agg #[.int .u8 0, .int .u8 0, .int .u8 0, .int .u8 0])).run Try.prog w = .ok r w := by
  rw [eq_arr4, h]

theorem cells_arr4 : Try.prog.cellsOf 34 = 4 := by kernel_rfl
theorem cells_u8 : Try.prog.cellsOf 5 = 1 := by kernel_rfl
section
open Go.ChangeShapes Go.WideShapes
theorem open_arr4 {H : Type} {enc : TypeId × Value → H} {W : World} {base : Nat} {v : Value} {d : DataW H} {p : List MemPlace} (hv : Value.okWide Try.prog W .any base 34 v)
    (h : DataW.Trod enc Try.prog W 0 (fun _ => true) true 34 v d p) :
    ∃ x y z u : Int, v = .agg #[.int .u8 x, .int .u8 y, .int .u8 z, .int .u8 u] ∧ ((Lit.int .u8 x).wf = true ∧ (Lit.int .u8 y).wf = true) ∧ (Lit.int .u8 z).wf = true ∧ (Lit.int .u8 u).wf = true := by
  obtain ⟨cs, rfl, hsz, _⟩ : ∃ cs, v = .agg cs ∧ cs.size = Try.prog.cellsOf 34 ∧ Row.okWide Try.prog W .any base 34 cs := by
    simpa [Value.okWide, Try.underlying34] using hv
  rw [cells_arr4] at hsz
  obtain ⟨l⟩ := cs
  match l, hsz with
  | [c0, c1, c2, c3], _ =>
    obtain ⟨fuel, hf⟩ := h
    obtain ⟨e0, e1, e2, e3, m, hx, hy0, hy1, hy2, hy3⟩ := trod_array4 Try.underlying34 cells_u8 hf
    obtain ⟨i0, q0, _, w0⟩ := DataW.trod_int Try.underlying5 hy0
    obtain ⟨i1, q1, _, w1⟩ := DataW.trod_int Try.underlying5 hy1
    obtain ⟨i2, q2, _, w2⟩ := DataW.trod_int Try.underlying5 hy2
    obtain ⟨i3, q3, _, w3⟩ := DataW.trod_int Try.underlying5 hy3
    simp at q0 q1 q2 q3
    subst q0 q1 q2 q3
    exact ⟨_, _, _, _, rfl, ⟨w0, w1⟩, w2, w3⟩
end
end Go.Proofs.Ytjhgegoipnjgmaa
