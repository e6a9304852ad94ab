
/-
  What is made of any thread may be. Nothing of the landed code is spoken of here.
-/
import Derived.Test.YtkciedcfphhenaaGood4
set_option linter.unusedVariables false
set_option linter.unusedSimpArgs false
namespace Go.Proofs.Ytkciedcfphhenaa
open Go.RowKit Plain
namespace Plain
theorem keptB_keep (l : List Int) : keptB (l.map keep) = true := by
  simp only [keptB, List.all_eq_true]
  intro x hx
  obtain ⟨y, _, rfl⟩ := List.mem_map.1 hx
  exact (isKept_iff _).2 (keep_keep y)
theorem keptB_append {l m : List Int} (h1 : keptB l = true) (h2 : keptB m = true) : keptB (l ++ m) = true := by
  simp only [keptB, List.all_append, Bool.and_eq_true] at *; exact ⟨h1, h2⟩
theorem keptB_take {l : List Int} (k : Nat) (h : keptB l = true) : keptB (l.take k) = true := by
  simp only [keptB, List.all_eq_true] at *; exact fun x hx => h x (List.mem_of_mem_take hx)
theorem keptB_zeros (n : Nat) : keptB (List.replicate n 0) = true := by
  simp only [keptB, List.all_eq_true]
  intro x hx
  rw [List.eq_of_mem_replicate hx]; rfl
theorem goodLoc_length (m : Nat) (old : List Int) : (goodLoc m old).length = m := by
  simp [goodLoc]; omega
theorem goodLoc_kept (m : Nat) (old : List Int) : keptB (goodLoc m old) = true := keptB_append (keptB_take _ (keptB_keep _)) (keptB_zeros _)
theorem goodFr_ok {p : PV} (hl : ∀ g ∈ p.funcs, 0 ≤ g.locals ∧ g.locals ≤ 8) (hn : 1 ≤ p.funcs.length) (x : FrV) : frB p (goodFr p x) = true := by
  have h1 := around_bd x.func p.funcs.length (by omega)
  have h2 := around_bd x.pc ((funcAt p (around x.func p.funcs.length)).code.length + 1) (by omega)
  have h3 := hl _ (funcAt_mem h1.1 h1.2)
  refine (frB_iff _ _).2 ⟨h1.1, h1.2, h2.1, ?_, ?_, goodLoc_kept _ _⟩
  · show around x.pc ((funcAt p (around x.func p.funcs.length)).code.length + 1) ≤ ((funcAt p (around x.func p.funcs.length)).code.length : Int); omega
  · show ((goodLoc (funcAt p (around x.func p.funcs.length)).locals.toNat x.locals).length : Int) = (funcAt p (around x.func p.funcs.length)).locals
    rw [goodLoc_length]; omega
theorem goodFs_len (p : PV) (l : List FrV) : 1 ≤ (goodFs p l).length ∧ (goodFs p l).length ≤ 8 := by
  unfold goodFs
  split
  · simp
  · rename_i h
    have : 0 < l.length := List.length_pos_iff.2 h
    simp; omega
theorem goodT_may {p : PV} (hl : ∀ g ∈ p.funcs, 0 ≤ g.locals ∧ g.locals ≤ 8) (hn : 1 ≤ p.funcs.length) (t : TV) : mayT p (goodT p t) = true := by
  have h1 := goodFs_len p t.frames
  refine (mayT_iff p (goodT p t) (show (0 : Int) ≠ 9 by decide)).2 ⟨Int.le_refl _, show (0 : Int) ≤ 9 by decide, Int.le_refl _, show (0 : Int) ≤ 6 by decide, h1.2, ?_, keptB_take _ (keptB_keep _), rfl, ?_, ?_, rfl⟩
  · show ((t.stack.map keep).take 16).length ≤ 16
    simp; omega
  · show (goodFs p t.frames).all (frB p) = true
    simp only [List.all_eq_true]
    intro f hf
    unfold goodFs at hf
    split at hf
    · simp at hf; subst hf; exact newFr_ok hl (Int.le_refl _) (by omega)
    · obtain ⟨x, _, rfl⟩ := List.mem_map.1 hf
      exact goodFr_ok hl hn x
  · show (goodFs p t.frames).isEmpty = false
    rcases hd : goodFs p t.frames with _ | ⟨x, r⟩
    · rw [hd] at h1; simp at h1
    · rfl
end Plain
end Go.Proofs.Ytkciedcfphhenaa
