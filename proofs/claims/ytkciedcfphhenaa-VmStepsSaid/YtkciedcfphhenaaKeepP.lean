
/-
  What is done to a thread leaves it one that may be: plain data.
-/
import Derived.Test.YtkciedcfphhenaaVmP
set_option linter.unusedVariables false
set_option linter.unusedSimpArgs false
namespace Go.Proofs.Ytkciedcfphhenaa.Plain

theorem keptB_takeN {l : List Int} (n : Nat) (h : keptB l = true) : keptB (l.take n) = true := by
  unfold keptB at h ⊢
  rw [List.all_eq_true] at h ⊢
  exact fun x hx => h x (List.mem_of_mem_take hx)
theorem keptB_set {l : List Int} (n : Nat) (v : Int) (h : keptB l = true) : keptB (l.set n (keep v)) = true := by
  unfold keptB at h ⊢
  rw [List.all_eq_true] at h ⊢
  intro x hx
  rcases List.mem_or_eq_of_mem_set hx with h1 | h1
  · exact h x h1
  · subst h1; have hk := keep_bd v; simp only [isKept, Bool.and_eq_true, decide_eq_true_eq]; exact hk
theorem lastFr_at {t : TV} (h : 0 < t.frames.length) : t.frames[t.frames.length - 1]? = some (lastFr t) := by
  unfold lastFr
  rw [List.getLastD_eq_getLast?, List.getLast?_eq_getElem?, List.getElem?_eq_getElem (by omega)]
  rfl
theorem lastFr_mem {t : TV} (h : 0 < t.frames.length) : lastFr t ∈ t.frames := List.mem_of_getElem? (lastFr_at h)
theorem frames_pos {p : PV} {t : TV} (h : mayT p t = true) (hs : t.state ≠ 9) : 0 < t.frames.length := by
  have := ((mayT_iff p t hs).1 h).2.2.2.2.2.2.2.2.2.1
  rcases hd : t.frames with _ | ⟨y, r⟩
  · rw [hd] at this; simp at this
  · simp
theorem lastFr_ok {p : PV} {t : TV} (h : mayT p t = true) (hs : t.state ≠ 9) : frB p (lastFr t) = true :=
  List.all_eq_true.1 ((mayT_iff p t hs).1 h).2.2.2.2.2.2.2.2.1 _ (lastFr_mem (frames_pos h hs))
theorem mayT_setLast {p : PV} {t : TV} {f : FrV} (h : mayT p t = true) (hs : t.state ≠ 9) (hf : frB p f = true) : mayT p (setLast t f) = true := by
  obtain ⟨m1, m2, m3, m4, m5, m6, m7, m8, m9, m10, m11⟩ := (mayT_iff p t hs).1 h
  have h0 := frames_pos h hs
  refine (mayT_iff p (setLast t f) hs).2 ⟨m1, m2, m3, m4, ?_, m6, m7, m8, ?_, ?_, m11⟩
  · simp [setLast]; omega
  · rw [List.all_eq_true] at m9 ⊢
    intro x hx
    rcases List.mem_or_eq_of_mem_set hx with h1 | h1
    · exact m9 x h1
    · subst h1; exact hf
  · show (t.frames.set (t.frames.length - 1) f).isEmpty = false
    rw [List.isEmpty_eq_false_iff, ← List.length_pos_iff, List.length_set]; exact h0
theorem mayT_jump {p : PV} {t : TV} {pc : Int} (h : mayT p t = true) (hs : t.state ≠ 9) (h0 : 0 ≤ pc) (h1 : pc ≤ (funcAt p (lastFr t).func).code.length) : mayT p (jumpT t pc) = true := by
  obtain ⟨a, b, c, d, e, f⟩ := (frB_iff p _).1 (lastFr_ok h hs)
  exact mayT_setLast h hs ((frB_iff p _).2 ⟨a, b, h0, h1, e, f⟩)
theorem mayT_set {p : PV} {t : TV} {i v : Int} (h : mayT p t = true) (hs : t.state ≠ 9) : mayT p (setT t i v) = true := by
  obtain ⟨a, b, c, d, e, f⟩ := (frB_iff p _).1 (lastFr_ok h hs)
  exact mayT_setLast h hs ((frB_iff p _).2 ⟨a, b, c, d, by simpa using e, keptB_set _ _ f⟩)
theorem mayT_pop {p : PV} {t : TV} (h : mayT p t = true) (hs : t.state ≠ 9) : mayT p (popT t) = true := by
  obtain ⟨m1, m2, m3, m4, m5, m6, m7, m8, m9, m10, m11⟩ := (mayT_iff p t hs).1 h
  exact (mayT_iff p (popT t) hs).2 ⟨m1, m2, m3, m4, m5, by simp [popT]; omega, keptB_takeN _ m7, m8, m9, m10, m11⟩
theorem mayT_leave {p : PV} {t : TV} (h : mayT p t = true) (hs : t.state ≠ 9) (h2 : 1 < t.frames.length) : mayT p (leaveT t) = true := by
  obtain ⟨m1, m2, m3, m4, m5, m6, m7, m8, m9, m10, m11⟩ := (mayT_iff p t hs).1 h
  refine (mayT_iff p (leaveT t) hs).2 ⟨m1, m2, m3, m4, by simp [leaveT]; omega, m6, m7, m8, ?_, ?_, m11⟩
  · rw [List.all_eq_true] at m9 ⊢
    exact fun x hx => m9 x (List.mem_of_mem_take hx)
  · show (t.frames.take (t.frames.length - 1)).isEmpty = false
    rw [List.isEmpty_eq_false_iff, ← List.length_pos_iff, List.length_take]; omega
/-- A deed of the law's. -/
def doesT (g : PV) (x : TV) (kind v i : Int) : TV :=
  if kind = 0 then (if x.stack.length < 16 then pushT x v else x)
  else if kind = 1 then (if x.stack.length = 0 then x else popT x)
  else if kind = 2 then (if x.frames.length < 8 then enterT g x (around v g.funcs.length) else x)
  else if kind = 3 then (if x.frames.length < 2 then x else leaveT x)
  else if kind = 4 then jumpT x (around v ((funcAt g (lastFr x).func).code.length + 1))
  else if (funcAt g (lastFr x).func).locals = 0 then x else setT x (around i (funcAt g (lastFr x).func).locals) v
theorem doesT_state (g : PV) (x : TV) (kind v i : Int) : (doesT g x kind v i).state = x.state := by
  unfold doesT
  repeat' split
  all_goals rfl
theorem doesT_may {g : PV} {x : TV} (kind v i : Int) (hl : ∀ f ∈ g.funcs, 0 ≤ f.locals ∧ f.locals ≤ 8) (hn : 1 ≤ g.funcs.length) (h : mayT g x = true) (hs : x.state ≠ 9) : mayT g (doesT g x kind v i) = true := by
  unfold doesT
  repeat' split
  any_goals exact h
  · exact mayT_push h hs (by assumption)
  · exact mayT_pop h hs
  · have hb := around_bd v g.funcs.length (by omega)
    exact mayT_enter hl hb.1 hb.2 h hs (by assumption)
  · exact mayT_leave h hs (by omega)
  · have hb := around_bd v ((funcAt g (lastFr x).func).code.length + 1) (by omega)
    exact mayT_jump h hs hb.1 (by omega)
  · exact mayT_set h hs
end Go.Proofs.Ytkciedcfphhenaa.Plain
