
/-
  Write of a program that may not be: no bytes, and the error.
-/
import Derived.Test.YtmjbfobjndiecaaMayN
set_option linter.unusedVariables false
set_option linter.unusedSimpArgs false
namespace Go.Proofs.Ytmjbfobjndiecaa
open Go.RowKit Plain

set_option maxHeartbeats 4000000 in
set_option maxRecDepth 100000 in
theorem write_no (h : PH) (p : PV) (w : World) (B : Nat) (hr : RP w B h p) (hB : B ≤ w.heap.size) (hlen : Lens p) (hm : mayC p = false) :
    Calls Try.prog 9 #[.agg #[.slice h.fA p.funcs.length h.fc, .int .i64 p.mutexes, .slice h.cA p.conds.length h.cc, .slice h.sA p.semas.length h.sc, .slice h.hA p.chans.length h.hc, .slice h.xA p.choices.length h.xc, .int .i64 p.threads]] w fun e w' => e = .returned (.tuple #[.slice none 0 0, .int .i64 1]) ∧ Below w.heap.size w w' := by
  have HR := Lib.hid hr; have HL := Lib.hid hlen; have HM := Lib.hid hm
  clear hr hlen hm
  go_enter Try.func9, Try.ntmps9
  go_wp2_with fail
  refine (mayC_any h p _ B (HR.out.alloc hB _) (by simp; omega) HL.out).mono ?_
  rintro e w1 ⟨rfl, hb⟩
  rw [HM.out]
  have HB1 := Lib.hid hb
  clear hb
  go_wp2_with fail
  go_ret2
  exact ⟨rfl, ((Below.refl _ _).alloc (Nat.le_refl _) _).trans (HB1.out.mono (by simp))⟩


end Go.Proofs.Ytmjbfobjndiecaa
