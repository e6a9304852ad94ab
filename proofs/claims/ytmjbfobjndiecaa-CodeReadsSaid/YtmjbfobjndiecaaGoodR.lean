
/-
  What was made of any program, as a program that stands in memory.
-/
import Derived.Test.YtmjbfobjndiecaaGood
import Derived.Test.YtmjbfobjndiecaaMayB
set_option linter.unusedVariables false
set_option linter.unusedSimpArgs false
namespace Go.Proofs.Ytmjbfobjndiecaa
open Go.RowKit Plain

theorem MadeP.rp {w w' : World} {p : PV} {e : Ending} (h : MadeP w p e w') : ∃ h' : PH, e = .returned (.agg #[.slice h'.fA (good p).funcs.length h'.fc, .int .i64 (good p).mutexes, .slice h'.cA (good p).conds.length h'.cc, .slice h'.sA (good p).semas.length h'.sc, .slice h'.hA (good p).chans.length h'.hc, .slice h'.xA (good p).choices.length h'.xc, .int .i64 (good p).threads]) ∧
    RP w' w'.heap.size h' (good p) ∧ Below w.heap.size w w' := by
  obtain ⟨vf, vc, vs, vh, vx, fs, ls, rfl, hop, hf, hl, hb⟩ := h
  obtain ⟨h', rfl, rfl, rfl, rfl, rfl, hrp⟩ := hop.rp (good p).mutexes (good p).threads
  rw [hf, hl] at hrp
  have e1 : fs.length = (good p).funcs.length := by rw [← hf, List.length_map]
  have e2 : ls.length = (good p).choices.length := by rw [← hl, List.length_map]
  exact ⟨h', by rw [e1, e2], hrp, hb⟩

theorem good_funcs_len (p : PV) : 1 ≤ (good p).funcs.length ∧ (good p).funcs.length ≤ 4 := by
  have := funcs0_bd p.funcs
  simp only [good, good0, List.length_map]
  omega
theorem good_code_len (p : PV) : ∀ f ∈ (good p).funcs, f.code.length ≤ 24 := by
  intro f hf
  obtain ⟨g, hg, rfl⟩ := List.mem_map.1 hf
  have := (funcs0_bd p.funcs).2.2 g hg
  simp
  omega
theorem good_lens (p : PV) : Lens (good p) := by
  have h1 := good_funcs_len p
  have h2 := things_len p.conds (around p.mutexes 4 - 1)
  have h3 := things_len p.semas 3
  have h4 := things_len p.chans 3
  have h5 := choices_good p.choices ((things p.chans 3).length : Int)
  refine ⟨by omega, fun f hf => by have := good_code_len p f hf; omega, ?_, ?_, ?_, ?_, fun l hl => ?_⟩
  · show (things p.conds (around p.mutexes 4 - 1)).length ≤ _; omega
  · show (things p.semas 3).length ≤ _; omega
  · show (things p.chans 3).length ≤ _; omega
  · show (choices0 p.choices _).length ≤ _; omega
  · have := List.all_eq_true.1 h5.1 l hl
    simp only [choiceB, Bool.and_eq_true, decide_eq_true_eq] at this
    omega
end Go.Proofs.Ytmjbfobjndiecaa
