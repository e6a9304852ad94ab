
/-
  May of the program and May of the document say the same; what is made of any program may be written.
-/
import Derived.Test.YtmjbfobjndiecaaWrite
import Derived.Test.YtmjbfobjndiecaaCsC
import Derived.Test.YtmjbfobjndiecaaGoodR
set_option linter.unusedVariables false
set_option linter.unusedSimpArgs false
namespace Go.Proofs.Ytmjbfobjndiecaa
open Go.RowKit Plain

theorem listB_eq (l : List Int) (m : Int) : listB l m = (decide (l.length ≤ 8) && allB l (m - 1)) := by
  have h : belowB m = fun x => decide (0 ≤ x) && decide (x ≤ m - 1) := by
    funext x
    unfold belowB
    rw [Bool.eq_iff_iff]
    simp only [Bool.and_eq_true, decide_eq_true_eq]
    omega
  unfold listB allB
  rw [h]
theorem choice_eq (n : Int) (l : List Int) : choiceC n l = choiceB n l := by
  unfold choiceC choiceB
  rw [listB_eq, Bool.eq_iff_iff]
  simp only [Bool.and_eq_true, decide_eq_true_eq, Bool.not_eq_true', List.isEmpty_eq_false_iff]
  constructor
  · rintro ⟨⟨h1, h2, h3⟩, h4⟩
    exact ⟨⟨⟨h3, h4⟩, List.length_pos_iff.2 h1⟩, h2⟩
  · rintro ⟨⟨⟨h3, h4⟩, h1⟩, h2⟩
    exact ⟨⟨List.length_pos_iff.1 h1, h2, h3⟩, h4⟩
theorem rule_eq (p : PV) (f : FV) (i : IV) : ruleB (most p f) i = instrB p f i := by
  obtain ⟨op, a⟩ := i
  unfold ruleB instrB withinB belowB
  simp only
  rw [Bool.eq_iff_iff]
  by_cases h0 : op = 0
  · subst h0
    have hm : most p f 0 = 1073741825 := by unfold most; rw [if_pos rfl]
    have ha : asks 0 = true := rfl
    rw [ha, hm, if_pos rfl, if_pos rfl]
    by_cases hn : a < 0
    · rw [if_pos ⟨rfl, hn⟩]
      simp only [Bool.and_eq_true, decide_eq_true_eq]
      omega
    · rw [if_neg (fun h => hn h.2)]
      simp only [Bool.and_eq_true, decide_eq_true_eq]
      omega
  · rw [if_neg h0, if_neg (fun h : op = 0 ∧ a < 0 => h0 h.1)]
    cases asks op
    · simp only [Bool.false_eq_true, if_false, Bool.and_eq_true, decide_eq_true_eq, beq_iff_eq]
      omega
    · simp only [if_true]
theorem func_eq (p : PV) (f : FV) : funcC p f = funcB p f := by
  have h : ruleB (most p f) = instrB p f := funext fun i => rule_eq p f i
  unfold funcC funcB withinB
  rw [h]
theorem may_eq (p : PV) : mayC p = mayB p := by
  have h1 : choiceC p.chans.length = choiceB p.chans.length := funext fun l => choice_eq _ l
  have h2 : funcC p = funcB p := funext fun f => func_eq p f
  unfold mayC mayB headB choicesB withinB
  rw [h1, h2, listB_eq, listB_eq, listB_eq, Bool.eq_iff_iff]
  simp only [Bool.and_eq_true, decide_eq_true_eq, and_assoc]
  constructor
  · rintro ⟨a0, a0', a1, a1', a2, a2', a3, a3', a4, a4', a5, a5', a6, a6', a7⟩
    exact ⟨by omega, by omega, a1, a1', a2, a3, a4, a5, a6, a6', a2', a3', a4', a5', a7⟩
  · rintro ⟨b0, b0', a1, a1', a2, a3, a4, a5, a6, a6', a2', a3', a4', a5', a7⟩
    exact ⟨by omega, by omega, a1, a1', a2, a2', a3, a3', a4, a4', a5, a5', a6, a6', a7⟩
theorem good_mayC (p : PV) (h : Fit p) : mayC (good p) = true := by rw [may_eq]; exact good_may p h
theorem good_puts (p : PV) (h : Fit p) : Puts (good p) := puts_of _ (good_mayC p h)
theorem puts_short3 {p : PV} (h : Puts p) : Short3 p :=
  ⟨h.funcs.1, fun f hf => (h.funcs.2 f hf).2.1, h.conds.1, h.semas.1, h.chans.1, h.choices.1, fun l hl => (h.choices.2 l hl).1⟩
end Go.Proofs.Ytmjbfobjndiecaa
