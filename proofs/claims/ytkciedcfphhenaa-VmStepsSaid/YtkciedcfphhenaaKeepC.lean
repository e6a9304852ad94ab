
/-
  What is done to a thread, of the program and of the document, told by one plain function.
-/
import Derived.Test.YtkciedcfphhenaaKeepN
import Derived.Test.YtkciedcfphhenaaThrL
import Derived.Test.YtkciedcfphhenaaRefTD
import Derived.Test.YtkciedcfphhenaaRefTE
set_option linter.unusedVariables false
set_option linter.unusedSimpArgs false
namespace Go.Proofs.Ytkciedcfphhenaa
open Go.RowKit Plain

theorem lastFr_ex {t : TV} (h1 : 1 ≤ t.frames.length) : ∃ k, t.frames.length = k + 1 ∧ t.frames[k]? = some (lastFr t) := by
  obtain ⟨k, hk⟩ : ∃ k, t.frames.length = k + 1 := ⟨t.frames.length - 1, by omega⟩
  refine ⟨k, hk, ?_⟩
  have := lastFr_at (t := t) (by omega)
  rw [hk] at this
  exact this
theorem topT_at {t : TV} {k : Nat} (h : t.stack.length = k + 1) : t.stack[k]? = some (topT t) := by
  unfold topT
  rw [h, List.getD_eq_getElem?_getD, Nat.add_sub_cancel, List.getElem?_eq_getElem (by omega)]
  rfl
theorem topT_nil {t : TV} (h : t.stack.length = 0) : topT t = 0 := by
  unfold topT
  rw [List.eq_nil_of_length_eq_zero h]; rfl
theorem push_all (h : TH) (t : TV) (v : Int) (w : World) (D : Nat → Prop) (hr : RT w D h t) (hl : LensT t) (x : TV) (hx : x = if t.stack.length < 16 then pushT t v else t) :
    Calls Try.prog 83 #[.agg #[.int .i64 t.state, .int .i64 t.on, .slice h.fA t.frames.length h.fc, .slice h.sA t.stack.length h.sc, .int .i64 t.code], .int .i64 v] w fun e w' => ∃ h' : TH, e = .returned (.tuple #[.agg #[.int .i64 x.state, .int .i64 x.on, .slice h'.fA x.frames.length h'.fc, .slice h'.sA x.stack.length h'.sc, .int .i64 x.code], .bool (decide (t.stack.length < 16))]) ∧ RT w' (fun i => D i ∨ w.heap.size ≤ i) h' x ∧ Below w.heap.size w w' := by
  subst hx
  by_cases hc : t.stack.length < 16
  · rw [if_pos hc, decide_eq_true hc]
    exact (push_yes h t v w D hr hl hc).mono (fun e w' ⟨h', he, hrt, hb⟩ => ⟨h', he, hrt.mono (fun _ h _ => by first | exact h | exact .inr h), hb⟩)
  · rw [if_neg hc, decide_eq_false hc]
    exact (push_no h t v w D hr hl (by omega)).mono (fun e w' ⟨h', he, hrt, hb⟩ => ⟨h', he, hrt.mono (fun _ h _ => by first | exact h | exact .inr h), hb⟩)
theorem refPush_all (h : TH) (t : TV) (v : Int) (w : World) (D : Nat → Prop) (hr : RT w D h t) (hl : LensT t) (x : TV) (hx : x = if t.stack.length < 16 then pushT t v else t) :
    Calls Try.prog 40 #[.agg #[.int .i64 t.state, .int .i64 t.on, .slice h.fA t.frames.length h.fc, .slice h.sA t.stack.length h.sc, .int .i64 t.code], .int .i64 v] w fun e w' => ∃ h' : TH, e = .returned (.tuple #[.agg #[.int .i64 x.state, .int .i64 x.on, .slice h'.fA x.frames.length h'.fc, .slice h'.sA x.stack.length h'.sc, .int .i64 x.code], .bool (decide (t.stack.length < 16))]) ∧ RT w' (fun i => D i ∨ w.heap.size ≤ i) h' x ∧ Below w.heap.size w w' := by
  subst hx
  by_cases hc : t.stack.length < 16
  · rw [if_pos hc, decide_eq_true hc]
    exact (refPush_yes h t v w D hr hl hc).mono (fun e w' ⟨h', he, hrt, hb⟩ => ⟨h', he, hrt.mono (fun _ h _ => by first | exact h | exact .inr h), hb⟩)
  · rw [if_neg hc, decide_eq_false hc]
    exact (refPush_no h t v w D hr (by omega)).mono (fun e w' ⟨he, hrt, hb⟩ => ⟨h, he, hrt.mono (fun _ h _ => .inl h), hb⟩)
theorem pop_all (h : TH) (t : TV) (w : World) (D : Nat → Prop) (hr : RT w D h t) (hl : LensT t) (h16 : t.stack.length ≤ 1000000) (x : TV) (hx : x = if 0 < t.stack.length then popT t else t) :
    Calls Try.prog 90 #[.agg #[.int .i64 t.state, .int .i64 t.on, .slice h.fA t.frames.length h.fc, .slice h.sA t.stack.length h.sc, .int .i64 t.code]] w fun e w' => ∃ h' : TH, e = .returned (.tuple #[.agg #[.int .i64 x.state, .int .i64 x.on, .slice h'.fA x.frames.length h'.fc, .slice h'.sA x.stack.length h'.sc, .int .i64 x.code], .int .i64 (topT t), .bool (decide (0 < t.stack.length))]) ∧ RT w' (fun i => D i ∨ w.heap.size ≤ i) h' x ∧ Below w.heap.size w w' := by
  subst hx
  by_cases hc : 0 < t.stack.length
  · rw [if_pos hc, decide_eq_true hc]
    obtain ⟨k, hk⟩ : ∃ k, t.stack.length = k + 1 := ⟨t.stack.length - 1, by omega⟩
    have e1 : popT t = { t with stack := t.stack.take k } := by unfold popT; rw [hk, Nat.add_sub_cancel]
    have e2 : (t.stack.take k).length = k := by rw [List.length_take]; omega
    rw [e1]
    refine (pop_yes h t k (topT t) w D hr hl ⟨hk, by omega, topT_at hk⟩).mono ?_
    rintro e w' ⟨h', he, hrt, hb⟩
    exact ⟨h', by rw [he]; show _ = Ending.returned (.tuple #[.agg #[.int .i64 t.state, .int .i64 t.on, .slice h'.fA t.frames.length h'.fc, .slice h'.sA (t.stack.take k).length h'.sc, .int .i64 t.code], _, _]); rw [e2], hrt.mono (fun _ h _ => by first | exact h | exact .inr h), hb⟩
  · rw [if_neg hc, decide_eq_false hc, topT_nil (by omega)]
    exact (pop_no h t w D hr hl (by omega)).mono (fun e w' ⟨h', he, hrt, hb⟩ => ⟨h', he, hrt.mono (fun _ h _ => by first | exact h | exact .inr h), hb⟩)
theorem refPop_all (h : TH) (t : TV) (w : World) (D : Nat → Prop) (hr : RT w D h t) (hl : LensT t) (h16 : t.stack.length ≤ 1000000) (x : TV) (hx : x = if 0 < t.stack.length then popT t else t) :
    Calls Try.prog 37 #[.agg #[.int .i64 t.state, .int .i64 t.on, .slice h.fA t.frames.length h.fc, .slice h.sA t.stack.length h.sc, .int .i64 t.code]] w fun e w' => ∃ h' : TH, e = .returned (.tuple #[.agg #[.int .i64 x.state, .int .i64 x.on, .slice h'.fA x.frames.length h'.fc, .slice h'.sA x.stack.length h'.sc, .int .i64 x.code], .int .i64 (topT t), .bool (decide (0 < t.stack.length))]) ∧ RT w' (fun i => D i ∨ w.heap.size ≤ i) h' x ∧ Below w.heap.size w w' := by
  subst hx
  by_cases hc : 0 < t.stack.length
  · rw [if_pos hc, decide_eq_true hc]
    obtain ⟨k, hk⟩ : ∃ k, t.stack.length = k + 1 := ⟨t.stack.length - 1, by omega⟩
    have e1 : popT t = { t with stack := t.stack.take k } := by unfold popT; rw [hk, Nat.add_sub_cancel]
    have e2 : (t.stack.take k).length = k := by rw [List.length_take]; omega
    rw [e1]
    refine (refPop_yes h t k (topT t) w D hr hl ⟨hk, by omega, topT_at hk⟩).mono ?_
    rintro e w' ⟨h', he, hrt, hb⟩
    exact ⟨h', by rw [he]; show _ = Ending.returned (.tuple #[.agg #[.int .i64 t.state, .int .i64 t.on, .slice h'.fA t.frames.length h'.fc, .slice h'.sA (t.stack.take k).length h'.sc, .int .i64 t.code], _, _]); rw [e2], hrt.mono (fun _ h _ => by first | exact h | exact .inr h), hb⟩
  · rw [if_neg hc, decide_eq_false hc, topT_nil (by omega)]
    exact (refPop_no h t w D hr (by omega)).mono (fun e w' ⟨he, hrt, hb⟩ => ⟨h, he, hrt.mono (fun _ h _ => .inl h), hb⟩)
theorem enter_all (h : PH) (p : PV) (ht : TH) (t : TV) (f : Nat) (w : World) (B : Nat) (D : Nat → Prop) (hrp : RP w B h p) (hB : B ≤ w.heap.size) (hfl : FewLoc p) (hplen : p.funcs.length ≤ 9223372036854775807) (hr : RT w D ht t) (hl : LensT t) (hf : f < p.funcs.length) (x : TV) (hx : x = if t.frames.length < 8 then enterT p t f else t) :
    Calls Try.prog 95 #[.agg #[.slice h.fA p.funcs.length h.fc, .int .i64 p.mutexes, .slice h.cA p.conds.length h.cc, .slice h.sA p.semas.length h.sc, .slice h.hA p.chans.length h.hc, .slice h.xA p.choices.length h.xc, .int .i64 p.threads], .agg #[.int .i64 t.state, .int .i64 t.on, .slice ht.fA t.frames.length ht.fc, .slice ht.sA t.stack.length ht.sc, .int .i64 t.code], .int .i64 (f : Int)] w fun e w' => ∃ h' : TH, e = .returned (.tuple #[.agg #[.int .i64 x.state, .int .i64 x.on, .slice h'.fA x.frames.length h'.fc, .slice h'.sA x.stack.length h'.sc, .int .i64 x.code], .bool (decide (t.frames.length < 8))]) ∧ RT w' (fun i => D i ∨ w.heap.size ≤ i) h' x ∧ Below w.heap.size w w' := by
  subst hx
  by_cases hc : t.frames.length < 8
  · rw [if_pos hc, decide_eq_true hc]
    exact (enter_yes h p ht t w B D hrp hr hB hfl hplen hl f hf hc).mono (fun e w' ⟨h', he, hrt, hb⟩ => ⟨h', he, hrt.mono (fun _ h _ => by first | exact h | exact .inr h), hb⟩)
  · rw [if_neg hc, decide_eq_false hc]
    exact (enter_no h p ht t w B D hrp hr hB hfl hplen hl f hf (by omega)).mono (fun e w' ⟨h', he, hrt, hb⟩ => ⟨h', he, hrt.mono (fun _ h _ => by first | exact h | exact .inr h), hb⟩)
theorem refEnter_all (h : PH) (p : PV) (ht : TH) (t : TV) (f : Nat) (w : World) (B : Nat) (D : Nat → Prop) (hrp : RP w B h p) (hB : B ≤ w.heap.size) (hfl : FewLoc p) (hplen : p.funcs.length ≤ 9223372036854775807) (hr : RT w D ht t) (hl : LensT t) (hf : f < p.funcs.length) (x : TV) (hx : x = if t.frames.length < 8 then enterT p t f else t) :
    Calls Try.prog 43 #[.agg #[.slice h.fA p.funcs.length h.fc, .int .i64 p.mutexes, .slice h.cA p.conds.length h.cc, .slice h.sA p.semas.length h.sc, .slice h.hA p.chans.length h.hc, .slice h.xA p.choices.length h.xc, .int .i64 p.threads], .agg #[.int .i64 t.state, .int .i64 t.on, .slice ht.fA t.frames.length ht.fc, .slice ht.sA t.stack.length ht.sc, .int .i64 t.code], .int .i64 (f : Int)] w fun e w' => ∃ h' : TH, e = .returned (.tuple #[.agg #[.int .i64 x.state, .int .i64 x.on, .slice h'.fA x.frames.length h'.fc, .slice h'.sA x.stack.length h'.sc, .int .i64 x.code], .bool (decide (t.frames.length < 8))]) ∧ RT w' (fun i => D i ∨ w.heap.size ≤ i) h' x ∧ Below w.heap.size w w' := by
  subst hx
  by_cases hc : t.frames.length < 8
  · rw [if_pos hc, decide_eq_true hc]
    exact (refEnter_yes h p ht t w B D hrp hr hB hfl hplen hl f hf hc).mono (fun e w' ⟨h', he, hrt, hb⟩ => ⟨h', by rw [he]; simp [enterT], hrt.mono (fun _ h _ => by first | exact h | exact .inr h), hb⟩)
  · rw [if_neg hc, decide_eq_false hc]
    exact (refEnter_no h p ht t f w D hr (by omega)).mono (fun e w' ⟨he, hrt, hb⟩ => ⟨ht, he, hrt.mono (fun _ h _ => .inl h), hb⟩)
theorem leave_all (h : TH) (t : TV) (w : World) (D : Nat → Prop) (hr : RT w D h t) (hl : LensT t) (h1 : 1 ≤ t.frames.length) (h8 : t.frames.length ≤ 1000000) (x : TV) (hx : x = leaveT t) :
    Calls Try.prog 96 #[.agg #[.int .i64 t.state, .int .i64 t.on, .slice h.fA t.frames.length h.fc, .slice h.sA t.stack.length h.sc, .int .i64 t.code]] w fun e w' => ∃ h' : TH, e = .returned (.tuple #[.agg #[.int .i64 x.state, .int .i64 x.on, .slice h'.fA x.frames.length h'.fc, .slice h'.sA x.stack.length h'.sc, .int .i64 x.code], .bool (decide (1 < t.frames.length))]) ∧ RT w' (fun i => D i ∨ w.heap.size ≤ i) h' x ∧ Below w.heap.size w w' := by
  subst hx
  obtain ⟨k, hk⟩ : ∃ k, t.frames.length = k + 1 := ⟨t.frames.length - 1, by omega⟩
  have e1 : leaveT t = { t with frames := t.frames.take k } := by unfold leaveT; rw [hk, Nat.add_sub_cancel]
  have e2 : (t.frames.take k).length = k := by rw [List.length_take]; omega
  have e3 : decide (0 < k) = decide (1 < t.frames.length) := by rw [hk]; simp
  rw [e1, ← e3]
  refine (leave_yes h t k w D hr hl ⟨hk, by omega⟩).mono ?_
  rintro e w' ⟨h', he, hrt, hb⟩
  exact ⟨h', by rw [he]; show _ = Ending.returned (.tuple #[.agg #[.int .i64 t.state, .int .i64 t.on, .slice h'.fA (t.frames.take k).length h'.fc, .slice h'.sA t.stack.length h'.sc, .int .i64 t.code], _]); rw [e2], hrt.mono (fun _ h _ => by first | exact h | exact .inr h), hb⟩
theorem refLeave_all (h : TH) (t : TV) (w : World) (D : Nat → Prop) (hr : RT w D h t) (hl : LensT t) (h1 : 1 ≤ t.frames.length) (h8 : t.frames.length ≤ 1000000) (x : TV) (hx : x = leaveT t) :
    Calls Try.prog 44 #[.agg #[.int .i64 t.state, .int .i64 t.on, .slice h.fA t.frames.length h.fc, .slice h.sA t.stack.length h.sc, .int .i64 t.code]] w fun e w' => ∃ h' : TH, e = .returned (.tuple #[.agg #[.int .i64 x.state, .int .i64 x.on, .slice h'.fA x.frames.length h'.fc, .slice h'.sA x.stack.length h'.sc, .int .i64 x.code], .bool (decide (1 < t.frames.length))]) ∧ RT w' (fun i => D i ∨ w.heap.size ≤ i) h' x ∧ Below w.heap.size w w' := by
  subst hx
  obtain ⟨k, hk⟩ : ∃ k, t.frames.length = k + 1 := ⟨t.frames.length - 1, by omega⟩
  have e1 : leaveT t = { t with frames := t.frames.take k } := by unfold leaveT; rw [hk, Nat.add_sub_cancel]
  have e2 : (t.frames.take k).length = k := by rw [List.length_take]; omega
  have e3 : decide (0 < k) = decide (1 < t.frames.length) := by rw [hk]; simp
  rw [e1, ← e3]
  refine (refLeave_yes h t k w D hr hl ⟨hk, by omega⟩).mono ?_
  rintro e w' ⟨h', he, hrt, hb⟩
  exact ⟨h', by rw [he]; show _ = Ending.returned (.tuple #[.agg #[.int .i64 t.state, .int .i64 t.on, .slice h'.fA (t.frames.take k).length h'.fc, .slice h'.sA t.stack.length h'.sc, .int .i64 t.code], _]); rw [e2], hrt.mono (fun _ h _ => by first | exact h | exact .inr h), hb⟩
theorem jump_all (h : TH) (t : TV) (pc : Int) (w : World) (D : Nat → Prop) (hr : RT w D h t) (hl : LensT t) (h1 : 1 ≤ t.frames.length) (h8 : t.frames.length ≤ 1000000) (x : TV) (hx : x = jumpT t pc) :
    Calls Try.prog 73 #[.agg #[.int .i64 t.state, .int .i64 t.on, .slice h.fA t.frames.length h.fc, .slice h.sA t.stack.length h.sc, .int .i64 t.code], .int .i64 pc] w fun e w' => ∃ h' : TH, e = .returned (.agg #[.int .i64 x.state, .int .i64 x.on, .slice h'.fA x.frames.length h'.fc, .slice h'.sA x.stack.length h'.sc, .int .i64 x.code]) ∧ RT w' (fun i => D i ∨ w.heap.size ≤ i) h' x ∧ Below w.heap.size w w' := by
  subst hx
  obtain ⟨k, hk, hkl⟩ := lastFr_ex h1
  have e2 : (jumpT t pc).frames.length = k + 1 := by rw [← hk]; show (t.frames.set _ _).length = _; rw [List.length_set]
  have e3 : t.frames.length - 1 = k := by omega
  refine (jump_yes h t k (lastFr t) pc w D hr hl ⟨hk, by omega, hkl⟩).mono ?_
  rintro e w' ⟨h', he, hrt, hb⟩
  refine ⟨h', by rw [he, e2]; rfl, ?_, hb⟩
  have hrt2 := hrt.mono (E := fun i => D i ∨ w.heap.size ≤ i) (fun _ h _ => by first | exact h | exact .inr h)
  rw [← e3] at hrt2
  exact hrt2
theorem refJump_all (h : TH) (t : TV) (pc : Int) (w : World) (D : Nat → Prop) (hr : RT w D h t) (hl : LensT t) (h1 : 1 ≤ t.frames.length) (h8 : t.frames.length ≤ 1000000) (x : TV) (hx : x = jumpT t pc) :
    Calls Try.prog 35 #[.agg #[.int .i64 t.state, .int .i64 t.on, .slice h.fA t.frames.length h.fc, .slice h.sA t.stack.length h.sc, .int .i64 t.code], .int .i64 pc] w fun e w' => ∃ h' : TH, e = .returned (.agg #[.int .i64 x.state, .int .i64 x.on, .slice h'.fA x.frames.length h'.fc, .slice h'.sA x.stack.length h'.sc, .int .i64 x.code]) ∧ RT w' (fun i => D i ∨ w.heap.size ≤ i) h' x ∧ Below w.heap.size w w' := by
  subst hx
  obtain ⟨k, hk, hkl⟩ := lastFr_ex h1
  have e2 : (jumpT t pc).frames.length = k + 1 := by rw [← hk]; show (t.frames.set _ _).length = _; rw [List.length_set]
  have e3 : t.frames.length - 1 = k := by omega
  refine (refJump_yes h t k (lastFr t) pc w D hr hl ⟨hk, by omega, hkl⟩).mono ?_
  rintro e w' ⟨h', he, hrt, hb⟩
  refine ⟨h', by rw [he, e2]; rfl, ?_, hb⟩
  have hrt2 := hrt.mono (E := fun i => D i ∨ w.heap.size ≤ i) (fun _ h _ => by first | exact h | exact .inr h)
  rw [← e3] at hrt2
  exact hrt2
theorem set_all (h : TH) (t : TV) (i : Nat) (v : Int) (w : World) (D : Nat → Prop) (hr : RT w D h t) (hl : LensT t) (h1 : 1 ≤ t.frames.length) (h8 : t.frames.length ≤ 1000000) (hi : i < (lastFr t).locals.length) (hi8 : (lastFr t).locals.length ≤ 1000000) (x : TV) (hx : x = setT t i v) :
    Calls Try.prog 71 #[.agg #[.int .i64 t.state, .int .i64 t.on, .slice h.fA t.frames.length h.fc, .slice h.sA t.stack.length h.sc, .int .i64 t.code], .int .i64 (i : Int), .int .i64 v] w fun e w' => ∃ h' : TH, e = .returned (.agg #[.int .i64 x.state, .int .i64 x.on, .slice h'.fA x.frames.length h'.fc, .slice h'.sA x.stack.length h'.sc, .int .i64 x.code]) ∧ RT w' (fun i => D i ∨ w.heap.size ≤ i) h' x ∧ Below w.heap.size w w' := by
  subst hx
  obtain ⟨k, hk, hkl⟩ := lastFr_ex h1
  have e2 : (setT t i v).frames.length = k + 1 := by rw [← hk]; show (t.frames.set _ _).length = _; rw [List.length_set]
  have e3 : t.frames.length - 1 = k := by omega
  refine (set_yes h t k (lastFr t) i v ((lastFr t).locals[i]) w D hr hl ⟨hk, by omega, hkl, List.getElem?_eq_getElem hi, hi8⟩).mono ?_
  rintro e w' ⟨h', he, hrt, hb⟩
  refine ⟨h', by rw [he, e2]; rfl, ?_, hb⟩
  have hrt2 := hrt.mono (E := fun i => D i ∨ w.heap.size ≤ i) (fun _ h _ => by first | exact h | exact .inr h)
  rw [← e3] at hrt2
  exact hrt2
theorem refSet_all (h : TH) (t : TV) (i : Nat) (v : Int) (w : World) (D : Nat → Prop) (hr : RT w D h t) (hl : LensT t) (h1 : 1 ≤ t.frames.length) (h8 : t.frames.length ≤ 1000000) (hi : i < (lastFr t).locals.length) (hi8 : (lastFr t).locals.length ≤ 1000000) (x : TV) (hx : x = setT t i v) :
    Calls Try.prog 42 #[.agg #[.int .i64 t.state, .int .i64 t.on, .slice h.fA t.frames.length h.fc, .slice h.sA t.stack.length h.sc, .int .i64 t.code], .int .i64 (i : Int), .int .i64 v] w fun e w' => ∃ h' : TH, e = .returned (.agg #[.int .i64 x.state, .int .i64 x.on, .slice h'.fA x.frames.length h'.fc, .slice h'.sA x.stack.length h'.sc, .int .i64 x.code]) ∧ RT w' (fun i => D i ∨ w.heap.size ≤ i) h' x ∧ Below w.heap.size w w' := by
  subst hx
  obtain ⟨k, hk, hkl⟩ := lastFr_ex h1
  have e2 : (setT t i v).frames.length = k + 1 := by rw [← hk]; show (t.frames.set _ _).length = _; rw [List.length_set]
  have e3 : t.frames.length - 1 = k := by omega
  refine (refSet_yes h t k (lastFr t) i v ((lastFr t).locals[i]) w D hr hl ⟨hk, by omega, hkl, List.getElem?_eq_getElem hi, hi8⟩).mono ?_
  rintro e w' ⟨h', he, hrt, hb⟩
  refine ⟨h', by rw [he, e2]; rfl, ?_, hb⟩
  have hrt2 := hrt.mono (E := fun i => D i ∨ w.heap.size ≤ i) (fun _ h _ => by first | exact h | exact .inr h)
  rw [← e3] at hrt2
  exact hrt2
theorem get_all (h : TH) (t : TV) (i : Nat) (w : World) (D : Nat → Prop) (hr : RT w D h t) (h1 : 1 ≤ t.frames.length) (h8 : t.frames.length ≤ 1000000) (hi : i < (lastFr t).locals.length) (hi8 : (lastFr t).locals.length ≤ 1000000) :
    Calls Try.prog 68 #[.agg #[.int .i64 t.state, .int .i64 t.on, .slice h.fA t.frames.length h.fc, .slice h.sA t.stack.length h.sc, .int .i64 t.code], .int .i64 (i : Int)] w fun e w' => e = .returned (.int .i64 (getT t i)) ∧ Below w.heap.size w w' := by
  obtain ⟨k, hk, hkl⟩ := lastFr_ex h1
  have e : getT t i = (lastFr t).locals[i] := by unfold getT; rw [List.getD_eq_getElem?_getD, show ((i : Int)).toNat = i by omega, List.getElem?_eq_getElem hi]; rfl
  rw [e]
  exact get_yes h t k (lastFr t) i _ w D hr ⟨hk, by omega, hkl, List.getElem?_eq_getElem hi, hi8⟩
theorem refGet_all (h : TH) (t : TV) (i : Nat) (w : World) (D : Nat → Prop) (hr : RT w D h t) (h1 : 1 ≤ t.frames.length) (h8 : t.frames.length ≤ 1000000) (hi : i < (lastFr t).locals.length) (hi8 : (lastFr t).locals.length ≤ 1000000) :
    Calls Try.prog 41 #[.agg #[.int .i64 t.state, .int .i64 t.on, .slice h.fA t.frames.length h.fc, .slice h.sA t.stack.length h.sc, .int .i64 t.code], .int .i64 (i : Int)] w fun e w' => e = .returned (.int .i64 (getT t i)) ∧ Below w.heap.size w w' := by
  obtain ⟨k, hk, hkl⟩ := lastFr_ex h1
  have e : getT t i = (lastFr t).locals[i] := by unfold getT; rw [List.getD_eq_getElem?_getD, show ((i : Int)).toNat = i by omega, List.getElem?_eq_getElem hi]; rfl
  rw [e]
  exact refGet_yes h t k (lastFr t) i _ w D hr ⟨hk, by omega, hkl, List.getElem?_eq_getElem hi, hi8⟩
end Go.Proofs.Ytkciedcfphhenaa
