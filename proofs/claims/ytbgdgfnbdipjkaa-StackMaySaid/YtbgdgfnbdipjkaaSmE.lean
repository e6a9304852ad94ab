
/-
  A thread of one's own in a box, of which one thing is turned.
-/
import Derived.Test.YtbgdgfnbdipjkaaGood4R
import Derived.Test.YtbgdgfnbdipjkaaSBox
import Derived.Test.YtbgdgfnbdipjkaaSmD
set_option linter.unusedVariables false
set_option linter.unusedSimpArgs false
namespace Go.Proofs.Ytbgdgfnbdipjkaa
open Go.RowKit Plain

theorem PB.fr {S : Nat → Prop} {w wr W : World} {gb BP : Nat} {h : PH} {g : PV} (s : PB w wr gb BP h g) (hf : Fr S wr W) (h1 : BP ≤ gb) (h2 : w.heap.size ≤ gb) (hS : ∀ i, S i → gb < i) : PB w W gb BP h g :=
  ⟨hf.blk s.pb (fun e => by have := hS _ e; omega), s.rp.keep (fun q hq => hf.cell (by have := s.hBP; omega) (fun e => by have := hS _ e; omega)), s.bel.trans (hf.below s.bel.size (fun i e => by have := hS _ e; omega)), by have := s.hBP; have := hf.size; omega⟩

theorem FrS_setFn (ts : List TFr) (i : Nat) (t : TFr) (h : ts[i]? = some t) (f : Int) : (FrS ts).set (i * 3) (.int .i64 f) = FrS (ts.set i { t with f := { t.f with func := f } }) := by
  unfold FrS
  rw [flat3_set0 _ i t.cells _ (by simp [h]), List.map_set]
  rfl

theorem own_rowset {w : World} {base : Nat} {e : TypeId} {size n : Nat} {b c : Nat} {xs : List Value} (h : w.ownsRow base e size (.slice (some ⟨b, 0, none⟩) n c) n xs) (k : Nat) (v : Value) {ys : List Value} (hy : xs.set k v = ys) :
    (w.setCell ⟨b, k, none⟩ v).ownsRow base e size (.slice (some ⟨b, 0, none⟩) n c) n ys := by rw [← hy]; exact (h.stored k v).1

section
variable {w W : World} {base b c : Nat} {sA : Option Addr} {sc : Nat} {h : TH} {t : TV} {ts : List TFr} {x : TFr}
theorem OwnT.fr {S : Nat → Prop} (g : OwnT w base h t ts) (hf : Fr S w W) (hS : ∀ i, base ≤ i → i < w.heap.size → ¬ S i) : OwnT W base h t ts :=
  ⟨hf.own g.row (fun i hi => hS i (g.row.lt i hi).1 (g.row.lt i hi).2), g.fs, fun x hx => hf.own (g.each x hx) (fun i hi => hS i ((g.each x hx).lt i hi).1 ((g.each x hx).lt i hi).2), hf.own g.stk (fun i hi => hS i (g.stk.lt i hi).1 (g.stk.lt i hi).2), g.apart⟩
theorem OwnT.blk (g : OwnT w base h t ts) {xb : Nat} {vs : Array Value} (hb : Blk w xb 29 vs) (hf : Fr (fun i => i = xb) w W) : OwnT W base h t ts :=
  ⟨hf.own g.row (fun i hi e => own_blk_ne g.row hb (by decide) (by rw [hi, e])), g.fs, fun x hx => hf.own (g.each x hx) (fun i hi e => own_blk_ne (g.each x hx) hb (by decide) (by rw [hi, e])), hf.own g.stk (fun i hi e => own_blk_ne g.stk hb (by decide) (by rw [hi, e])), g.apart⟩
/-- A cell of the frames' row is stored: the rows of numbers stay. -/
theorem OwnT.ints (g : OwnT w base ⟨some ⟨b, 0, none⟩, c, sA, sc⟩ t ts) (k : Nat) (v : Value) :
    (∀ x ∈ ts, (w.setCell ⟨b, k, none⟩ v).ownsRow base 3 1 (.slice x.A x.f.locals.length x.c) x.f.locals.length (IS x.f.locals)) ∧ (w.setCell ⟨b, k, none⟩ v).ownsRow base 3 1 (.slice sA t.stack.length sc) t.stack.length (IS t.stack) := by
  have hf : Fr (fun i => i = b) w (w.setCell ⟨b, k, none⟩ v) := (Fr.refl (fun i => i = b) w).setCell (p := ⟨b, k, none⟩) (.inl rfl) _
  exact ⟨fun x hx => hf.own (g.each x hx) (fun i hi e => own_ne (g.each x hx) g.row (by decide) i hi (by simp [Value.ownBlock, e])), hf.own g.stk (fun i hi e => own_ne g.stk g.row (by decide) i hi (by simp [Value.ownBlock, e]))⟩
theorem set_fs {ts : List TFr} {l : List FrV} (h : ts.map TFr.f = l) (y : TFr) : (ts.set 0 y).map TFr.f = l.set 0 y.f := by rw [List.map_set, h]
theorem OwnT.setPc (g : OwnT w base ⟨some ⟨b, 0, none⟩, c, sA, sc⟩ t ts) (hx : ts[0]? = some x) (pc : Int) :
    OwnT (w.setCell ⟨b, 1, none⟩ (.int .i64 pc)) base ⟨some ⟨b, 0, none⟩, c, sA, sc⟩ { t with frames := t.frames.set 0 { x.f with pc := pc } } (ts.set 0 { x with f := { x.f with pc := pc } }) := by
  have hi := g.ints 1 (.int .i64 pc)
  have hr := own_rowset g.row 1 (.int .i64 pc) (FrS_setPc ts 0 x hx pc)
  refine ⟨by simpa using hr, set_fs g.fs _, fun y hy => ?_, hi.2, fun y hy => ?_⟩
  · rcases List.mem_or_eq_of_mem_set hy with hy | rfl
    · exact hi.1 y hy
    · exact hi.1 x (List.mem_of_getElem? hx)
  · rcases List.mem_or_eq_of_mem_set hy with hy | rfl
    · exact g.apart y hy
    · exact g.apart x (List.mem_of_getElem? hx)
theorem OwnT.setFn (g : OwnT w base ⟨some ⟨b, 0, none⟩, c, sA, sc⟩ t ts) (hx : ts[0]? = some x) (f : Int) :
    OwnT (w.setCell ⟨b, 0, none⟩ (.int .i64 f)) base ⟨some ⟨b, 0, none⟩, c, sA, sc⟩ { t with frames := t.frames.set 0 { x.f with func := f } } (ts.set 0 { x with f := { x.f with func := f } }) := by
  have hi := g.ints 0 (.int .i64 f)
  have hr := own_rowset g.row 0 (.int .i64 f) (FrS_setFn ts 0 x hx f)
  refine ⟨by simpa using hr, set_fs g.fs _, fun y hy => ?_, hi.2, fun y hy => ?_⟩
  · rcases List.mem_or_eq_of_mem_set hy with hy | rfl
    · exact hi.1 y hy
    · exact hi.1 x (List.mem_of_getElem? hx)
  · rcases List.mem_or_eq_of_mem_set hy with hy | rfl
    · exact g.apart y hy
    · exact g.apart x (List.mem_of_getElem? hx)
theorem OwnT.setLo (g : OwnT w base ⟨some ⟨b, 0, none⟩, c, sA, sc⟩ t ts) (hx : ts[0]? = some x) (l : List Int) (A : Option Addr) (c6 : Nat) (ho : w.ownsRow base 3 1 (.slice A l.length c6) l.length (IS l)) (hap : ∀ i, (Value.slice A l.length c6).ownBlock = some i → (Value.slice sA t.stack.length sc).ownBlock ≠ some i) :
    OwnT (w.setCell ⟨b, 2, none⟩ (.slice A l.length c6)) base ⟨some ⟨b, 0, none⟩, c, sA, sc⟩ { t with frames := t.frames.set 0 { x.f with locals := l } } (ts.set 0 ⟨{ x.f with locals := l }, A, c6⟩) := by
  have hi := g.ints 2 (.slice A l.length c6)
  have hr := own_rowset g.row 2 (.slice A l.length c6) (FrS_setL ts 0 x hx l A c6)
  have hf : Fr (fun i => i = b) w (w.setCell ⟨b, 2, none⟩ (.slice A l.length c6)) := (Fr.refl (fun i => i = b) w).setCell (p := ⟨b, 2, none⟩) (.inl rfl) _
  refine ⟨by simpa using hr, set_fs g.fs _, fun y hy => ?_, hi.2, fun y hy => ?_⟩
  rotate_left
  · rcases List.mem_or_eq_of_mem_set hy with hy | rfl
    · exact g.apart y hy
    · exact hap
  rcases List.mem_or_eq_of_mem_set hy with hy | rfl
  · exact hi.1 y hy
  · exact hf.own ho (fun i hi e => own_ne ho g.row (by decide) i hi (by simp [Value.ownBlock, e]))
theorem OwnT.push {w8 : World} (g : OwnT w base h t ts) {A8 : Option Addr} {c8 : Nat} (v : Int) (ho : w8.ownsRow base 3 1 (.slice A8 (t.stack.length + 1) c8) (t.stack.length + 1) (IS t.stack ++ [.int .i64 v])) (hg : w.grownBy w8 (Value.slice h.sA t.stack.length h.sc).ownBlock)
    (hat : (Value.slice A8 (t.stack.length + 1) c8).ownBlock = (Value.slice h.sA t.stack.length h.sc).ownBlock ∨ (Value.slice A8 (t.stack.length + 1) c8).ownBlock = some w.heap.size) : OwnT w8 base ⟨h.fA, h.fc, A8, c8⟩ { t with stack := t.stack ++ [v] } ts := by
  have hf := Fr.of_grown hg
  have he : IS t.stack ++ [.int .i64 v] = IS (t.stack ++ [v]) := by simp [IS]
  rw [he] at ho
  refine ⟨hf.own g.row (fun i hi e => own_ne g.stk g.row (by decide) i e hi), g.fs, fun x hx => hf.own (g.each x hx) (fun i hi e => g.apart x hx i hi e), by simpa using ho, fun x hx i hi e => ?_⟩
  have e' : (Value.slice A8 (t.stack.length + 1) c8).ownBlock = some i := by simpa [Value.ownBlock] using e
  rcases hat with h1 | h1
  · exact g.apart x hx i hi (by rw [← h1]; exact e')
  · rw [h1] at e'
    injection e' with e'
    have := ((g.each x hx).lt i hi).2
    omega
end

/-- What stands when the thread has been turned. -/
structure MR (w W : World) (gb BP : Nat) (h : PH) (g : PV) (xb : Nat) (hx : TH) (x : TV) : Prop where
  pb : PB w W gb BP h g
  tb : TB W xb hx x
  len : LenT x
theorem MR.drew {w W : World} {gb BP : Nat} {h : PH} {g : PV} {xb : Nat} {hx : TH} {x : TV} (m : MR w W gb BP h g xb hx x) : MR w W.drew gb BP h g xb hx x :=
  ⟨m.pb.below (Below.refl _ _).drew, m.tb.below (Below.refl _ _).drew, m.len⟩
/-- Where it is turned. -/
structure MW (w W : World) (gb BP : Nat) (h : PH) (g : PV) (xb base : Nat) (hx : TH) (x : TV) (ts : List TFr) : Prop where
  pb : PB w W gb BP h g
  bx : Blk W xb 29 #[.int .i64 x.state, .int .i64 x.on, .slice hx.fA x.frames.length hx.fc, .slice hx.sA x.stack.length hx.sc, .int .i64 x.code]
  own : OwnT W base hx x ts
  h1 : BP ≤ gb
  h2 : w.heap.size ≤ gb
  h3 : gb < base
  h4 : gb < xb
  len : LenT x
theorem MW.mr {w W : World} {gb BP : Nat} {h : PH} {g : PV} {xb base : Nat} {hx : TH} {x : TV} {ts : List TFr} (m : MW w W gb BP h g xb base hx x ts) : MR w W gb BP h g xb hx x :=
  ⟨m.pb, ⟨m.bx, m.own.rt.mono (fun _ _ _ => trivial)⟩, m.len⟩
theorem MW.below {w W X : World} {gb BP : Nat} {h : PH} {g : PV} {xb base : Nat} {hx : TH} {x : TV} {ts : List TFr} (m : MW w W gb BP h g xb base hx x ts) (hb : Below W.heap.size W X) : MW w X gb BP h g xb base hx x ts :=
  ⟨m.pb.below hb, m.bx.below hb m.bx.lt, m.own.fr (Fr.of_below hb) (fun i _ h e => by omega), m.h1, m.h2, m.h3, m.h4, m.len⟩
/-- Cells of the box alone are stored. -/
theorem MW.box {w W W' : World} {gb BP : Nat} {h : PH} {g : PV} {xb base : Nat} {hx : TH} {x : TV} {ts : List TFr} (m : MW w W gb BP h g xb base hx x ts) (hf : Fr (fun i => i = xb) W W') {hy : TH} {y : TV}
    (hb : Blk W' xb 29 #[.int .i64 y.state, .int .i64 y.on, .slice hy.fA y.frames.length hy.fc, .slice hy.sA y.stack.length hy.sc, .int .i64 y.code]) (hr : OwnT W' base hx x ts → RT W' (fun _ => True) hy y) (hl : LenT y) : MR w W' gb BP h g xb hy y :=
  ⟨m.pb.fr hf m.h1 m.h2 (fun i e => by have := m.h4; omega), ⟨hb, hr (m.own.blk m.bx hf)⟩, hl⟩
/-- A cell of the frames' row is stored. -/
theorem MW.row {w W : World} {gb BP : Nat} {h : PH} {g : PV} {xb base b c : Nat} {sA : Option Addr} {sc : Nat} {x y : TV} {ts us : List TFr} (m : MW w W gb BP h g xb base ⟨some ⟨b, 0, none⟩, c, sA, sc⟩ x ts) (k : Nat) (v : Value)
    (hy : OwnT (W.setCell ⟨b, k, none⟩ v) base ⟨some ⟨b, 0, none⟩, c, sA, sc⟩ y us) (e0 : y.state = x.state) (e1 : y.on = x.on) (e2 : y.frames.length = x.frames.length) (e3 : y.stack = x.stack) (e4 : y.code = x.code) (hl : LenT y) : MR w (W.setCell ⟨b, k, none⟩ v) gb BP h g xb ⟨some ⟨b, 0, none⟩, c, sA, sc⟩ y := by
  have hf : Fr (fun i => i = b) W (W.setCell ⟨b, k, none⟩ v) := (Fr.refl (fun i => i = b) W).setCell (p := ⟨b, k, none⟩) (.inl rfl) _
  have hbl := (m.own.row.lt b rfl).1
  have hne : ¬ xb = b := fun e => own_blk_ne m.own.row m.bx (by decide) (by simp [Value.ownBlock, e])
  refine ⟨m.pb.fr hf m.h1 m.h2 (fun i e => by have := m.h3; omega), ⟨?_, hy.rt.mono (fun _ _ _ => trivial)⟩, hl⟩
  rw [e0, e1, e2, e3, e4]
  exact hf.blk m.bx hne
/-- A number is appended to the stack, and the box has the new row. -/
theorem MW.push {w W w8 : World} {gb BP : Nat} {h : PH} {g : PV} {xb base : Nat} {aX : Option Addr} {cX : Nat} {sX : Option Addr} {dX : Nat} {x : TV} {ts : List TFr} (m : MW w W gb BP h g xb base ⟨aX, cX, sX, dX⟩ x ts) {A8 : Option Addr} {c8 : Nat} (v : Int)
    (ho : w8.ownsRow base 3 1 (.slice A8 (x.stack.length + 1) c8) (x.stack.length + 1) (IS x.stack ++ [.int .i64 v])) (hg : W.grownBy w8 (Value.slice sX x.stack.length dX).ownBlock)
    (hat : (Value.slice A8 (x.stack.length + 1) c8).ownBlock = (Value.slice sX x.stack.length dX).ownBlock ∨ (Value.slice A8 (x.stack.length + 1) c8).ownBlock = some W.heap.size) (hs : x.stack.length ≤ 16) :
    Blk w8 xb 29 #[.int .i64 x.state, .int .i64 x.on, .slice aX x.frames.length cX, .slice sX x.stack.length dX, .int .i64 x.code] ∧ MR w (w8.setCell ⟨xb, 3, none⟩ (.slice A8 (x.stack.length + 1) c8)) gb BP h g xb ⟨aX, cX, A8, c8⟩ { x with stack := x.stack ++ [v] } := by
  have hf := Fr.of_grown hg
  have hb8 := hf.blk m.bx (fun e => own_blk_ne m.own.stk m.bx (by decide) e)
  have hz : Fr (fun i => i = xb) w8 (w8.setCell ⟨xb, 3, none⟩ (.slice A8 (x.stack.length + 1) c8)) := (Fr.refl (fun i => i = xb) w8).setCell (p := ⟨xb, 3, none⟩) (.inl rfl) _
  have hp := m.own.push v ho hg hat
  refine ⟨hb8, (m.pb.fr hf m.h1 m.h2 (fun i e => by have := (m.own.stk.lt i e).1; have := m.h3; omega)).fr hz m.h1 m.h2 (fun i e => by have := m.h4; omega), ⟨by simpa using hb8.set_ 3 (.slice A8 (x.stack.length + 1) c8), (hp.blk hb8 hz).rt.mono (fun _ _ _ => trivial)⟩, m.len.frames, by simp; omega, m.len.locals⟩
theorem rgd_nil {w : World} {D : Nat → Prop} : RGD w D none 0 0 [] := ⟨[], rfl, rfl, Nat.le_refl _, ⟨rfl, fun h => absurd h (by omega)⟩, fun x hx => by simp at hx⟩
theorem rid_nil {w : World} {D : Nat → Prop} : RID w D none 0 0 [] := ⟨rfl, Nat.le_refl _, ⟨rfl, fun h => absurd h (by omega)⟩⟩
end Go.Proofs.Ytbgdgfnbdipjkaa
