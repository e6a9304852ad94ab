
/-
  A thread that the document clones, and turns: how it stands in memory.
-/
import Derived.Test.YtkciedcfphhenaaRefTA
import Derived.Test.YtkciedcfphhenaaThrH
import Derived.Test.YtkciedcfphhenaaThrJ
import Derived.Test.YtkciedcfphhenaaKeepP
set_option linter.unusedVariables false
set_option linter.unusedSimpArgs false
namespace Go.Proofs.Ytkciedcfphhenaa
open Go.RowKit Plain

theorem RID.takeC {w : World} {D : Nat → Prop} {A : Option Addr} {n c k : Nat} {l : List Int} (h : RID w D A n c l) (hk : k ≤ n) : RID w D A k c (l.take k) :=
  ⟨(h.take hk).1, Nat.le_trans hk h.2.1, (h.take hk).2.2⟩
theorem RGD.takeC {w : World} {D : Nat → Prop} {A : Option Addr} {n c k : Nat} {l : List FrV} (h : RGD w D A n c l) (hk : k ≤ n) : RGD w D A k c (l.take k) := by
  obtain ⟨ts, h1, h2, h3, h4, h5⟩ := h.take hk
  obtain ⟨us, g1, g2, g3, g4, g5⟩ := h
  exact ⟨ts, h1, h2, Nat.le_trans hk g3, h4, h5⟩
/-- A thread that was cloned, in the box of the variable; the result's box is still empty. -/
structure Wk (w W : World) (rb ob base : Nat) (A : Option Addr) (c : Nat) (qA : Option Addr) (qc : Nat) (ts : List TFr) (t : TV) : Prop where
  bx : Blk W ob 29 #[.int .i64 t.state, .int .i64 t.on, .slice A t.frames.length c, .slice qA t.stack.length qc, .int .i64 t.code]
  rs : Blk W rb 29 #[.int .i64 0, .int .i64 0, .slice none 0 0, .slice none 0 0, .int .i64 0]
  ot : OT W base A c qA qc ts t
  bel : Below w.heap.size w W
  h1 : w.heap.size ≤ rb ∧ rb < base
  h2 : base ≤ ob
theorem wk_of {w W2 w1 : World} {rb : Nat} {A : Option Addr} {c : Nat} {qA : Option Addr} {qc : Nat} {ts : List TFr} {t : TV} (hrb : Blk W2 rb 29 #[.int .i64 0, .int .i64 0, .slice none 0 0, .slice none 0 0, .int .i64 0]) (hbel : Below w.heap.size w W2) (h1 : w.heap.size ≤ rb) (hot : OT w1 W2.heap.size A c qA qc ts t) (hb : Below W2.heap.size W2 w1) :
    Wk w (w1.alloc (.cells #[.int .i64 t.state, .int .i64 t.on, .slice A t.frames.length c, .slice qA t.stack.length qc, .int .i64 t.code] 29)) rb w1.heap.size W2.heap.size A c qA qc ts t := by
  have hz := hb.size
  have hal : Below w1.heap.size w1 (w1.alloc (.cells #[.int .i64 t.state, .int .i64 t.on, .slice A t.frames.length c, .slice qA t.stack.length qc, .int .i64 t.code] 29)) := (Below.refl _ _).alloc (Nat.le_refl _) _
  exact ⟨Blk.new _ _ _, (hrb.below hb hrb.lt).alloc _, hot.below hal, (hbel.trans (hb.mono hbel.size)).trans (hal.mono (Nat.le_trans hbel.size hz)), ⟨h1, hrb.lt⟩, hz⟩
/-- A thread that was turned, in the box of the variable; the result's box is still empty. -/
structure Fin5 (w W : World) (rb ob base : Nat) (h : TH) (t : TV) : Prop where
  bx : Blk W ob 29 #[.int .i64 t.state, .int .i64 t.on, .slice h.fA t.frames.length h.fc, .slice h.sA t.stack.length h.sc, .int .i64 t.code]
  rs : Blk W rb 29 #[.int .i64 0, .int .i64 0, .slice none 0 0, .slice none 0 0, .int .i64 0]
  rt : RT W (fun i => base ≤ i) h t
  bel : Below w.heap.size w W
  h1 : w.heap.size ≤ rb ∧ rb < base
theorem Fin5.ret {w W : World} {rb ob base : Nat} {h : TH} {t : TV} (g : Fin5 w W rb ob base h t) : RT (((((W.setCell ⟨rb, 0, none⟩ (.int .i64 t.state)).setCell ⟨rb, 1, none⟩ (.int .i64 t.on)).setCell ⟨rb, 2, none⟩ (.slice h.fA t.frames.length h.fc)).setCell ⟨rb, 3, none⟩ (.slice h.sA t.stack.length h.sc)).setCell ⟨rb, 4, none⟩ (.int .i64 t.code)) (fun i => w.heap.size ≤ i) h t ∧ Below w.heap.size w (((((W.setCell ⟨rb, 0, none⟩ (.int .i64 t.state)).setCell ⟨rb, 1, none⟩ (.int .i64 t.on)).setCell ⟨rb, 2, none⟩ (.slice h.fA t.frames.length h.fc)).setCell ⟨rb, 3, none⟩ (.slice h.sA t.stack.length h.sc)).setCell ⟨rb, 4, none⟩ (.int .i64 t.code)) := by
  have hf := (Fr.refl (fun i => i = rb) W).set5 (g := rb) (.inl rfl) (.int .i64 t.state) (.int .i64 t.on) (.slice h.fA t.frames.length h.fc) (.slice h.sA t.stack.length h.sc) (.int .i64 t.code)
  have h1 := g.h1
  exact ⟨(g.rt.keep fun p hd hp => hf.cell hp (fun e => by omega)).mono (fun i hi _ => by omega), g.bel.trans (hf.below g.bel.size (fun i hi => by omega))⟩
theorem RT.drew {w : World} {D : Nat → Prop} {h : TH} {t : TV} (g : RT w D h t) : RT w.drew D h t := g.keep fun _ _ _ => rfl
theorem Fin5.retD {w W : World} {rb ob base : Nat} {h : TH} {t : TV} (g : Fin5 w W rb ob base h t) : RT (((((W.setCell ⟨rb, 0, none⟩ (.int .i64 t.state)).setCell ⟨rb, 1, none⟩ (.int .i64 t.on)).setCell ⟨rb, 2, none⟩ (.slice h.fA t.frames.length h.fc)).setCell ⟨rb, 3, none⟩ (.slice h.sA t.stack.length h.sc)).setCell ⟨rb, 4, none⟩ (.int .i64 t.code)).drew (fun i => w.heap.size ≤ i) h t ∧ Below w.heap.size w (((((W.setCell ⟨rb, 0, none⟩ (.int .i64 t.state)).setCell ⟨rb, 1, none⟩ (.int .i64 t.on)).setCell ⟨rb, 2, none⟩ (.slice h.fA t.frames.length h.fc)).setCell ⟨rb, 3, none⟩ (.slice h.sA t.stack.length h.sc)).setCell ⟨rb, 4, none⟩ (.int .i64 t.code)).drew :=
  ⟨RT.drew g.ret.1, g.ret.2.drew⟩
theorem Fin5.drew {w W : World} {rb ob base : Nat} {h : TH} {t : TV} (g : Fin5 w W rb ob base h t) : Fin5 w W.drew rb ob base h t := ⟨g.bx.drew, g.rs.drew, RT.drew g.rt, g.bel.drew, g.h1⟩
section
variable {w W : World} {rb ob base : Nat} {A : Option Addr} {c : Nat} {qA : Option Addr} {qc : Nat} {ts : List TFr} {t : TV}
theorem Wk.ahead (g : Wk w W rb ob base A c qA qc ts t) : ∀ x ∈ ts, ∀ i, (Value.slice x.A x.f.locals.length x.c).ownBlock = some i → (Value.slice qA t.stack.length qc).ownBlock ≠ some i := by
  intro x hx i hi hi'
  have h2 := g.ot.ints.2
  rw [List.map_append, List.pairwise_append] at h2
  have := h2.2.2 (Value.slice x.A x.f.locals.length x.c) (by
    rw [List.mem_map]; exact ⟨x.row, List.mem_map_of_mem hx, rfl⟩) (Value.slice qA t.stack.length qc) (by simp [irow]) i i hi hi'
  omega
theorem Wk.below (g : Wk w W rb ob base A c qA qc ts t) {W' : World} (hb : Below W.heap.size W W') : Wk w W' rb ob base A c qA qc ts t :=
  ⟨g.bx.below hb g.bx.lt, g.rs.below hb g.rs.lt, g.ot.below hb, g.bel.trans (hb.mono g.bel.size), g.h1, g.h2⟩
theorem fin_push (g : Wk w W rb ob base A c qA qc ts t) {w' : World} (hF : Fr (fun i => (Value.slice qA t.stack.length qc).ownBlock = some i) W w') {An : Option Addr} {cn : Nat} {l : List Int} (hown : w'.ownsRow base 3 1 (.slice An l.length cn) l.length (IS l)) :
    Fin5 w (w'.setCell ⟨ob, 3, none⟩ (.slice An l.length cn)) rb ob base ⟨A, c, An, cn⟩ { t with stack := l } := by
  have hb := hF.blk g.bx (own_blk_ne g.ot.stk g.bx (by decide))
  have hr := hF.blk g.rs (own_blk_ne g.ot.stk g.rs (by decide))
  have hf8 := (Fr.refl (fun j => j = ob) w').setCell (p := ⟨ob, 3, none⟩) (.inl rfl) (.slice An l.length cn)
  have h1 := g.h1
  have h2 := g.h2
  have hz := g.bel.size
  have hrow := hF.own g.ot.row (own_ne g.ot.row g.ot.stk (by decide))
  refine ⟨by simpa using hb.set_ 3 (.slice An l.length cn), hf8.blk hr (by omega), ⟨rgd_of_own (hf8.own hrow (fun j hj e => own_blk_ne hrow hb (by decide) (by rw [hj, e]))) g.ot.fs (fun i hi => hi) (fun x hx => ?_), ?_⟩, (g.bel.trans (hF.below hz (fun j hj => by have := (g.ot.stk.lt j hj).1; omega))).trans (hf8.below (Nat.le_trans hz hF.size) (fun j hj => by omega)), h1⟩
  · have hx1 := hF.own (g.ot.each x hx) (g.ahead x hx)
    exact rid_of_own (hf8.own hx1 (fun j hj e => own_blk_ne hx1 hb (by decide) (by rw [hj, e]))) rfl
  · exact rid_of_own (hf8.own hown (fun j hj e => own_blk_ne hown hb (by decide) (by rw [hj, e]))) rfl
theorem fin_pop (g : Wk w W rb ob base A c qA qc ts t) {k : Nat} (hk : k ≤ t.stack.length) : Fin5 w (W.setCell ⟨ob, 3, none⟩ (.slice qA k qc)) rb ob base ⟨A, c, qA, qc⟩ { t with stack := t.stack.take k } := by
  have hb := g.bx
  have hf8 := (Fr.refl (fun j => j = ob) W).setCell (p := ⟨ob, 3, none⟩) (.inl rfl) (.slice qA k qc)
  have h1 := g.h1
  have h2 := g.h2
  have hlk : (t.stack.take k).length = k := by rw [List.length_take]; omega
  have hot := g.ot.row
  have hst := g.ot.stk
  refine ⟨?_, hf8.blk g.rs (by omega), ⟨rgd_of_own (hf8.own hot (fun j hj e => own_blk_ne hot hb (by decide) (by rw [hj, e]))) g.ot.fs (fun i hi => hi) (fun x hx => ?_), ?_⟩, g.bel.trans (hf8.below g.bel.size (fun j hj => by omega)), h1⟩
  · show Blk _ _ _ #[.int .i64 t.state, .int .i64 t.on, .slice A t.frames.length c, .slice qA (t.stack.take k).length qc, .int .i64 t.code]
    rw [hlk]; simpa using hb.set_ 3 (.slice qA k qc)
  · have hx1 := g.ot.each x hx
    exact rid_of_own (hf8.own hx1 (fun j hj e => own_blk_ne hx1 hb (by decide) (by rw [hj, e]))) rfl
  · show RID _ _ qA (t.stack.take k).length qc (t.stack.take k)
    rw [hlk]
    exact (rid_of_own (hf8.own hst (fun j hj e => own_blk_ne hst hb (by decide) (by rw [hj, e]))) rfl).takeC hk
theorem fin_leave (g : Wk w W rb ob base A c qA qc ts t) {k : Nat} (hk : k ≤ t.frames.length) : Fin5 w (W.setCell ⟨ob, 2, none⟩ (.slice A k c)) rb ob base ⟨A, c, qA, qc⟩ { t with frames := t.frames.take k } := by
  have hb := g.bx
  have hf8 := (Fr.refl (fun j => j = ob) W).setCell (p := ⟨ob, 2, none⟩) (.inl rfl) (.slice A k c)
  have h1 := g.h1
  have h2 := g.h2
  have hlk : (t.frames.take k).length = k := by rw [List.length_take]; omega
  have hot := g.ot.row
  have hst := g.ot.stk
  refine ⟨?_, hf8.blk g.rs (by omega), ⟨?_, rid_of_own (hf8.own hst (fun j hj e => own_blk_ne hst hb (by decide) (by rw [hj, e]))) rfl⟩, g.bel.trans (hf8.below g.bel.size (fun j hj => by omega)), h1⟩
  · show Blk _ _ _ #[.int .i64 t.state, .int .i64 t.on, .slice A (t.frames.take k).length c, .slice qA t.stack.length qc, .int .i64 t.code]
    rw [hlk]; simpa using hb.set_ 2 (.slice A k c)
  · show RGD _ _ A (t.frames.take k).length c (t.frames.take k)
    rw [hlk]
    refine (rgd_of_own (hf8.own hot (fun j hj e => own_blk_ne hot hb (by decide) (by rw [hj, e]))) g.ot.fs (fun i hi => hi) (fun x hx => ?_)).takeC hk
    have hx1 := g.ot.each x hx
    exact rid_of_own (hf8.own hx1 (fun j hj e => own_blk_ne hx1 hb (by decide) (by rw [hj, e]))) rfl
theorem fin_enter (g : Wk w W rb ob base A c qA qc ts t) {w' : World} (hF : Fr (fun i => (Value.slice A t.frames.length c).ownBlock = some i) W w') {An AL : Option Addr} {cn cL : Nat} {f : FrV} (hown : w'.ownsRow base 67 3 (.slice An (t.frames.length + 1) cn) (t.frames.length + 1) (FrS (ts ++ [⟨f, AL, cL⟩])))
    (hloc : w'.ownsRow base 3 1 (.slice AL f.locals.length cL) f.locals.length (IS f.locals)) : Fin5 w (w'.setCell ⟨ob, 2, none⟩ (.slice An (t.frames.length + 1) cn)) rb ob base ⟨An, cn, qA, qc⟩ { t with frames := t.frames ++ [f] } := by
  have hb := hF.blk g.bx (own_blk_ne g.ot.row g.bx (by decide))
  have hr := hF.blk g.rs (own_blk_ne g.ot.row g.rs (by decide))
  have hf8 := (Fr.refl (fun j => j = ob) w').setCell (p := ⟨ob, 2, none⟩) (.inl rfl) (.slice An (t.frames.length + 1) cn)
  have h1 := g.h1
  have h2 := g.h2
  have hz := g.bel.size
  have hlk : (t.frames ++ [f]).length = t.frames.length + 1 := by simp
  have hst := hF.own g.ot.stk (own_ne g.ot.stk g.ot.row (by decide))
  refine ⟨?_, hf8.blk hr (by omega), ⟨?_, rid_of_own (hf8.own hst (fun j hj e => own_blk_ne hst hb (by decide) (by rw [hj, e]))) rfl⟩, (g.bel.trans (hF.below hz (fun j hj => by have := (g.ot.row.lt j hj).1; omega))).trans (hf8.below (Nat.le_trans hz hF.size) (fun j hj => by omega)), h1⟩
  · show Blk _ _ _ #[.int .i64 t.state, .int .i64 t.on, .slice An (t.frames ++ [f]).length cn, .slice qA t.stack.length qc, .int .i64 t.code]
    rw [hlk]; simpa using hb.set_ 2 (.slice An (t.frames.length + 1) cn)
  · show RGD _ _ An (t.frames ++ [f]).length cn (t.frames ++ [f])
    rw [hlk]
    refine rgd_of_own (hf8.own hown (fun j hj e => own_blk_ne hown hb (by decide) (by rw [hj, e]))) (by rw [List.map_append, g.ot.fs]; rfl) (fun i hi => hi) (fun x hx => ?_)
    rcases List.mem_append.1 hx with hx | hx
    · have hx1 := hF.own (g.ot.each x hx) (own_ne (g.ot.each x hx) g.ot.row (by decide))
      exact rid_of_own (hf8.own hx1 (fun j hj e => own_blk_ne hx1 hb (by decide) (by rw [hj, e]))) rfl
    · simp at hx
      subst hx
      exact rid_of_own (hf8.own hloc (fun j hj e => own_blk_ne hloc hb (by decide) (by rw [hj, e]))) rfl
theorem fin_jump {b : Nat} (g : Wk w W rb ob base (some ⟨b, 0, none⟩) c qA qc ts t) {k : Nat} {x : TFr} (hx : ts[k]? = some x) (pc : Int) : Fin5 w (W.setCell ⟨b, k * 3 + 1, none⟩ (.int .i64 pc)) rb ob base ⟨some ⟨b, 0, none⟩, c, qA, qc⟩ { t with frames := t.frames.set k { x.f with pc := pc } } := by
  have hf : Fr (fun i => (Value.slice (some ⟨b, 0, none⟩) t.frames.length c).ownBlock = some i) W (W.setCell ⟨b, k * 3 + 1, none⟩ (.int .i64 pc)) := Fr.setCell (S := fun i => (Value.slice (some ⟨b, 0, none⟩) t.frames.length c).ownBlock = some i) (Fr.refl _ W) (p := ⟨b, k * 3 + 1, none⟩) (.inl rfl) _
  have h1 := g.h1
  have hst := hf.own g.ot.stk (own_ne g.ot.stk g.ot.row (by decide))
  have hro := (g.ot.row.stored (k * 3 + 1) (.int .i64 pc)).1
  rw [FrS_setPc ts k x hx] at hro
  have hlk : (t.frames.set k { x.f with pc := pc }).length = t.frames.length := by simp
  refine ⟨?_, hf.blk g.rs (own_blk_ne g.ot.row g.rs (by decide)), ⟨?_, rid_of_own hst rfl⟩, g.bel.trans (hf.below g.bel.size (fun j hj => by have := (g.ot.row.lt j hj).1; omega)), h1⟩
  · show Blk _ _ _ #[.int .i64 t.state, .int .i64 t.on, .slice (some ⟨b, 0, none⟩) (t.frames.set k { x.f with pc := pc }).length c, .slice qA t.stack.length qc, .int .i64 t.code]
    rw [hlk]; exact hf.blk g.bx (own_blk_ne g.ot.row g.bx (by decide))
  · show RGD _ _ (some ⟨b, 0, none⟩) (t.frames.set k { x.f with pc := pc }).length c (t.frames.set k { x.f with pc := pc })
    rw [hlk]
    refine rgd_of_own hro (by rw [List.map_set, g.ot.fs]) (fun i hi => hi) (fun y hy => ?_)
    rcases List.mem_or_eq_of_mem_set hy with hy | hy
    · exact rid_of_own (hf.own (g.ot.each y hy) (own_ne (g.ot.each y hy) g.ot.row (by decide))) rfl
    · subst hy
      have hxm := List.mem_of_getElem? hx
      exact rid_of_own (hf.own (g.ot.each x hxm) (own_ne (g.ot.each x hxm) g.ot.row (by decide))) rfl
theorem fin_set (g : Wk w W rb ob base A c qA qc ts t) {k i b : Nat} {x : TFr} (hx : ts[k]? = some x) (hA : x.A = some ⟨b, 0, none⟩) (v : Int) : Fin5 w (W.setCell ⟨b, i, none⟩ (.int .i64 v)) rb ob base ⟨A, c, qA, qc⟩ { t with frames := t.frames.set k { x.f with locals := x.f.locals.set i v } } := by
  have hxm := List.mem_of_getElem? hx
  have hox := g.ot.each x hxm
  rw [hA] at hox
  have hf : Fr (fun j => (Value.slice (some ⟨b, 0, none⟩) x.f.locals.length x.c).ownBlock = some j) W (W.setCell ⟨b, i, none⟩ (.int .i64 v)) := Fr.setCell (S := fun j => (Value.slice (some ⟨b, 0, none⟩) x.f.locals.length x.c).ownBlock = some j) (Fr.refl _ W) (p := ⟨b, i, none⟩) (.inl rfl) _
  have h1 := g.h1
  have hl : x.row.1 = .slice (some ⟨b, 0, none⟩) x.f.locals.length x.c := by simp [TFr.row, hA]
  have hni : (ts.map TFr.row ++ [irow (.slice qA t.stack.length qc) t.stack])[k]? = some x.row := by
    rw [List.getElem?_append_left (by simpa using (List.getElem?_eq_some_iff.1 hx).1)]; simp [hx]
  have hns : (ts.map TFr.row ++ [irow (.slice qA t.stack.length qc) t.stack])[ts.length]? = some (irow (.slice qA t.stack.length qc) t.stack) := by
    rw [List.getElem?_append_right (by simp)]; simp
  have hkl : k < ts.length := (List.getElem?_eq_some_iff.1 hx).1
  have hst := hf.own g.ot.stk (fun j hj e => g.ot.ints.ne hns hni (by omega) j hj (by rw [hl]; exact e))
  have hrow := hf.own g.ot.row (own_ne g.ot.row hox (by decide))
  have hro := (hox.stored i (.int .i64 v)).1
  have hlk : (t.frames.set k { x.f with locals := x.f.locals.set i v }).length = t.frames.length := by simp
  have hFS : FrS (ts.set k { x with f := { x.f with locals := x.f.locals.set i v } }) = FrS ts := by
    unfold FrS
    rw [List.map_set, set_same]
    simp [hx, TFr.cells]
  refine ⟨?_, hf.blk g.rs (own_blk_ne hox g.rs (by decide)), ⟨?_, rid_of_own hst rfl⟩, g.bel.trans (hf.below g.bel.size (fun j hj => by have := (hox.lt j hj).1; omega)), h1⟩
  · show Blk _ _ _ #[.int .i64 t.state, .int .i64 t.on, .slice A (t.frames.set k { x.f with locals := x.f.locals.set i v }).length c, .slice qA t.stack.length qc, .int .i64 t.code]
    rw [hlk]; exact hf.blk g.bx (own_blk_ne hox g.bx (by decide))
  · show RGD _ _ A (t.frames.set k { x.f with locals := x.f.locals.set i v }).length c (t.frames.set k { x.f with locals := x.f.locals.set i v })
    rw [hlk]
    refine rgd_of_own (ts := ts.set k { x with f := { x.f with locals := x.f.locals.set i v } }) (by rw [hFS]; exact hrow) (by rw [List.map_set, g.ot.fs]) (fun i hi => hi) (fun y hy => ?_)
    obtain ⟨j, hj⟩ := List.getElem?_of_mem hy
    by_cases hkj : k = j
    · subst hkj
      rw [List.getElem?_set_self hkl] at hj
      injection hj with hj
      subst hj
      have e1 : (IS x.f.locals).set i (.int .i64 v) = IS (x.f.locals.set i v) := by simp [IS, List.map_set]
      rw [e1] at hro
      simp only [hA, List.length_set]
      exact rid_of_own hro (by simp)
    · rw [List.getElem?_set_ne hkj] at hj
      have hjm := List.mem_of_getElem? hj
      have hnj : (ts.map TFr.row ++ [irow (.slice qA t.stack.length qc) t.stack])[j]? = some y.row := by
        rw [List.getElem?_append_left (by simpa using (List.getElem?_eq_some_iff.1 hj).1)]; simp [hj]
      exact rid_of_own (hf.own (g.ot.each y hjm) (fun i hi e => g.ot.ints.ne hnj hni (by omega) i hi (by rw [hl]; exact e))) rfl
end
end Go.Proofs.Ytkciedcfphhenaa
