
/-
  Threads that are entered and pushed to: what may be stays so; numbers that came in.
-/
import Derived.Test.YtkciedcfphhenaaSLives
import Derived.Test.YtkciedcfphhenaaGoodR
set_option linter.unusedVariables false
set_option linter.unusedSimpArgs false
namespace Go.Proofs.Ytkciedcfphhenaa
open Go.RowKit Plain

theorem row_ri {w : World} {a : Option Addr} {n c : Nat} {zs : List Int} (h : IsRow .i64 w a n c zs) : ∃ l, RI w w.heap.size a n c l ∧ FitL l ∧ n ≤ 9223372036854775807 := by
  rcases h with ⟨rfl, rfl, rfl, rfl⟩ | ⟨x, rfl, hl, hm, hz, hcell, hwf⟩
  · exact ⟨[], ⟨rfl, Nat.le_refl _, Reads.none_⟩, fun x hx => by simp at hx, by omega⟩
  · refine ⟨zs.take n, ⟨by simp; omega, hl, by rw [IS_length]; simp; omega, fun hn => ⟨x, rfl, ?_, fun j u hj => ?_⟩⟩, fun k hk => bounds_i64 (hwf k (List.mem_of_mem_take hk)), by unfold maxLen at hm; omega⟩
    · have h0 := World.block_lt_of_cell? _ _ (hcell 0 (by omega))
      rwa [block_of_add] at h0
    · have hjl : j < n := by
        have := (List.getElem?_eq_some_iff.1 hj).1
        rw [IS_length] at this
        simp at this
        omega
      rw [hcell j (by omega), ← hj]
      simp [IS, hjl, List.getD, show j < zs.length by omega]

namespace Plain
theorem funcAt_mem {p : PV} {f : Int} (h0 : 0 ≤ f) (h1 : f < p.funcs.length) : funcAt p f ∈ p.funcs := by
  unfold funcAt
  rw [List.getD_eq_getElem?_getD, List.getElem?_eq_getElem (by omega)]
  exact List.getElem_mem _
theorem frB_iff (p : PV) (f : FrV) : frB p f = true ↔ (0 ≤ f.func ∧ f.func < p.funcs.length ∧ 0 ≤ f.pc ∧ f.pc ≤ (funcAt p f.func).code.length ∧ (f.locals.length : Int) = (funcAt p f.func).locals ∧ keptB f.locals = true) := by
  simp only [frB, Bool.and_eq_true, decide_eq_true_eq]
  constructor
  · rintro ⟨⟨⟨⟨⟨a, b⟩, c⟩, d⟩, e⟩, f⟩; exact ⟨a, b, c, d, e, f⟩
  · rintro ⟨a, b, c, d, e, f⟩; exact ⟨⟨⟨⟨⟨a, b⟩, c⟩, d⟩, e⟩, f⟩
theorem mayT_iff (p : PV) (t : TV) (hs : t.state ≠ 9) : mayT p t = true ↔ (0 ≤ t.state ∧ t.state ≤ 9 ∧ 0 ≤ t.code ∧ t.code ≤ 6 ∧ t.frames.length ≤ 8 ∧ t.stack.length ≤ 16 ∧ keptB t.stack = true ∧ isKept t.on = true ∧ t.frames.all (frB p) = true ∧ t.frames.isEmpty = false ∧ t.code = 0) := by
  simp only [mayT, Bool.and_eq_true, decide_eq_true_eq, if_neg hs, Bool.not_eq_true']
  constructor
  · rintro ⟨⟨⟨⟨⟨⟨⟨⟨⟨m1, m2⟩, m3⟩, m4⟩, m5⟩, m6⟩, m7⟩, m8⟩, m9⟩, m10, m11⟩; exact ⟨m1, m2, m3, m4, m5, m6, m7, m8, m9, m10, m11⟩
  · rintro ⟨m1, m2, m3, m4, m5, m6, m7, m8, m9, m10, m11⟩; exact ⟨⟨⟨⟨⟨⟨⟨⟨⟨m1, m2⟩, m3⟩, m4⟩, m5⟩, m6⟩, m7⟩, m8⟩, m9⟩, m10, m11⟩
theorem newFr_ok {p : PV} {f : Int} (hl : ∀ g ∈ p.funcs, 0 ≤ g.locals ∧ g.locals ≤ 8) (h0 : 0 ≤ f) (h1 : f < p.funcs.length) : frB p (newFr p f) = true := by
  have := hl _ (funcAt_mem h0 h1)
  refine (frB_iff _ _).2 ⟨h0, h1, Int.le_refl _, Int.natCast_nonneg _, ?_, ?_⟩
  · show ((List.replicate (funcAt p f).locals.toNat (0 : Int)).length : Int) = (funcAt p f).locals
    rw [List.length_replicate]; omega
  · show keptB (List.replicate (funcAt p f).locals.toNat (0 : Int)) = true
    rw [keptB, List.all_eq_true]
    intro x hx
    rw [List.eq_of_mem_replicate hx]; rfl
theorem mayT_new {p : PV} {f : Int} (hl : ∀ g ∈ p.funcs, 0 ≤ g.locals ∧ g.locals ≤ 8) (h0 : 0 ≤ f) (h1 : f < p.funcs.length) : mayT p (newT p f) = true :=
  (mayT_iff p (newT p f) (show (0 : Int) ≠ 9 by decide)).2 ⟨Int.le_refl _, show (0 : Int) ≤ 9 by decide, Int.le_refl _, show (0 : Int) ≤ 6 by decide, show 1 ≤ 8 by decide, show 0 ≤ 16 by decide, rfl, rfl, by simp [newT, newFr_ok hl h0 h1], rfl, rfl⟩
theorem mayT_enter {p : PV} {t : TV} {f : Int} (hl : ∀ g ∈ p.funcs, 0 ≤ g.locals ∧ g.locals ≤ 8) (h0 : 0 ≤ f) (h1 : f < p.funcs.length) (h : mayT p t = true) (hs : t.state ≠ 9) (h8 : t.frames.length < 8) : mayT p (enterT p t f) = true := by
  obtain ⟨m1, m2, m3, m4, m5, m6, m7, m8, m9, m10, m11⟩ := (mayT_iff p t hs).1 h
  refine (mayT_iff p (enterT p t f) hs).2 ⟨m1, m2, m3, m4, ?_, m6, m7, m8, ?_, ?_, m11⟩
  · simp [enterT]; omega
  · simp only [enterT, List.all_append, m9, List.all_cons, List.all_nil, newFr_ok hl h0 h1, Bool.and_self]
  · simp [enterT]
theorem mayT_push {p : PV} {t : TV} {v : Int} (h : mayT p t = true) (hs : t.state ≠ 9) (h16 : t.stack.length < 16) : mayT p (pushT t v) = true := by
  obtain ⟨m1, m2, m3, m4, m5, m6, m7, m8, m9, m10, m11⟩ := (mayT_iff p t hs).1 h
  have hk := keep_bd v
  refine (mayT_iff p (pushT t v) hs).2 ⟨m1, m2, m3, m4, m5, ?_, ?_, m8, m9, m10, m11⟩
  · simp [pushT]; omega
  · have hk2 : isKept (keep v) = true := by simp only [isKept, Bool.and_eq_true, decide_eq_true_eq]; exact hk
    unfold keptB at m7
    simp only [pushT, keptB, List.all_append, m7, List.all_cons, List.all_nil, hk2, Bool.and_self]
theorem lensT_may {p : PV} {t : TV} (hl : ∀ g ∈ p.funcs, 0 ≤ g.locals ∧ g.locals ≤ 8) (h : mayT p t = true) : LensT t := by
  simp only [mayT, Bool.and_eq_true, decide_eq_true_eq] at h
  obtain ⟨⟨⟨⟨⟨⟨⟨⟨⟨m1, m2⟩, m3⟩, m4⟩, m5⟩, m6⟩, m7⟩, m8⟩, m9⟩, _⟩ := h
  refine ⟨by omega, by omega, fun f hf => ?_⟩
  have := List.all_eq_true.1 m9 f hf
  simp only [frB, Bool.and_eq_true, decide_eq_true_eq] at this
  obtain ⟨⟨⟨⟨⟨n1, n2⟩, n3⟩, n4⟩, n5⟩, n6⟩ := this
  have := hl _ (funcAt_mem n1 n2)
  omega
end Plain
theorem good_few (p : PV) : FewLoc (good p) := by
  intro f hf
  obtain ⟨g, hg, rfl⟩ := List.mem_map.1 hf
  have := (funcs0_bd p.funcs).2.2 g hg
  simp
  omega
end Go.Proofs.Ytkciedcfphhenaa
