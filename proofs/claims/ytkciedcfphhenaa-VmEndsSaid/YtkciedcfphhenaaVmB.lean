
/-
  vm: a turn in its box; end, goOn.
-/
import Derived.Test.YtkciedcfphhenaaVmA
set_option linter.unusedVariables false
set_option linter.unusedSimpArgs false
namespace Go.Proofs.Ytkciedcfphhenaa
open Go.RowKit Plain

/-- A turn in its box: the program, the thread, the A of the instruction, and what is asked for. -/
structure US (W : World) (ub B : Nat) (h : PH) (p : PV) (ht : TH) (t : TV) (a : Int) (q : QV) : Prop where
  bx : Blk W ub 75 #[.slice h.fA p.funcs.length h.fc, .int .i64 p.mutexes, .slice h.cA p.conds.length h.cc, .slice h.sA p.semas.length h.sc, .slice h.hA p.chans.length h.hc, .slice h.xA p.choices.length h.xc, .int .i64 p.threads, .int .i64 t.state, .int .i64 t.on, .slice ht.fA t.frames.length ht.fc, .slice ht.sA t.stack.length ht.sc, .int .i64 t.code, .int .i64 a, .int .i64 q.kind, .int .i64 q.a, .int .i64 q.v]
  rp : RP W B h p
  hB : B ≤ ub
  rt : RT W (fun i => B ≤ i ∧ i ≠ ub) ht t
section
variable {W W' : World} {ub B : Nat} {h : PH} {p : PV} {ht : TH} {t : TV} {a : Int} {q : QV}
theorem US.below (g : US W ub B h p ht t a q) (hb : Below W.heap.size W W') : US W' ub B h p ht t a q :=
  ⟨g.bx.below hb g.bx.lt, g.rp.below (hb.mono (by have := g.bx.lt; have := g.hB; omega)), g.hB, g.rt.below hb⟩
/-- The thread's part of the box, the number, the request. -/
theorem Blk.put (W : World) (g : Nat) (ty : TypeId) (cs : Array Value) (hb : Blk W g ty cs) (i : Nat) (u : Value) (cs' : Array Value) (e : cs.setIfInBounds i u = cs') : Blk (W.setCell ⟨g, i, none⟩ u) g ty cs' := by subst e; exact hb.set_ i u
theorem US.setT (g : US W ub B h p ht t a q) {W1 : World} (hb : Below W.heap.size W W1) {ht1 : TH} {t1 : TV} (hr : RT W1 (fun i => B ≤ i ∧ i ≠ ub) ht1 t1) :
    US (((((W1.setCell ⟨ub, 7, none⟩ (.int .i64 t1.state)).setCell ⟨ub, 8, none⟩ (.int .i64 t1.on)).setCell ⟨ub, 9, none⟩ (.slice ht1.fA t1.frames.length ht1.fc)).setCell ⟨ub, 10, none⟩ (.slice ht1.sA t1.stack.length ht1.sc)).setCell ⟨ub, 11, none⟩ (.int .i64 t1.code)) ub B h p ht1 t1 a q ∧ Fr (fun i => i = ub) W (((((W1.setCell ⟨ub, 7, none⟩ (.int .i64 t1.state)).setCell ⟨ub, 8, none⟩ (.int .i64 t1.on)).setCell ⟨ub, 9, none⟩ (.slice ht1.fA t1.frames.length ht1.fc)).setCell ⟨ub, 10, none⟩ (.slice ht1.sA t1.stack.length ht1.sc)).setCell ⟨ub, 11, none⟩ (.int .i64 t1.code)) := by
  have g1 := g.below hb
  have hf : Fr (fun i => i = ub) W1 (((((W1.setCell ⟨ub, 7, none⟩ (.int .i64 t1.state)).setCell ⟨ub, 8, none⟩ (.int .i64 t1.on)).setCell ⟨ub, 9, none⟩ (.slice ht1.fA t1.frames.length ht1.fc)).setCell ⟨ub, 10, none⟩ (.slice ht1.sA t1.stack.length ht1.sc)).setCell ⟨ub, 11, none⟩ (.int .i64 t1.code)) := (((((Fr.refl (fun i => i = ub) W1).setCell (p := ⟨ub, 7, none⟩) (.inl rfl) _).setCell (p := ⟨ub, 8, none⟩) (.inl rfl) _).setCell (p := ⟨ub, 9, none⟩) (.inl rfl) _).setCell (p := ⟨ub, 10, none⟩) (.inl rfl) _).setCell (p := ⟨ub, 11, none⟩) (.inl rfl) _
  have hl := g1.bx.lt
  refine ⟨⟨?_, g1.rp.keep fun x hx => hf.cell (by have := g.hB; omega) (fun e => by have := g.hB; omega), g.hB, hr.keep fun x hx hl => hf.cell hl hx.2⟩, ((Fr.of_below hb).mono (S := fun i => i = ub) (fun i hi hT => by omega)).trans hf (fun i hi hT => hT)⟩
  simpa using ((((g1.bx.set_ 7 _).set_ 8 _).set_ 9 _).set_ 10 _).set_ 11 _
theorem US.setQ (g : US W ub B h p ht t a q) (q' : QV) :
    US (((W.setCell ⟨ub, 13, none⟩ (.int .i64 q'.kind)).setCell ⟨ub, 14, none⟩ (.int .i64 q'.a)).setCell ⟨ub, 15, none⟩ (.int .i64 q'.v)) ub B h p ht t a q' ∧ Fr (fun i => i = ub) W (((W.setCell ⟨ub, 13, none⟩ (.int .i64 q'.kind)).setCell ⟨ub, 14, none⟩ (.int .i64 q'.a)).setCell ⟨ub, 15, none⟩ (.int .i64 q'.v)) := by
  have hf : Fr (fun i => i = ub) W (((W.setCell ⟨ub, 13, none⟩ (.int .i64 q'.kind)).setCell ⟨ub, 14, none⟩ (.int .i64 q'.a)).setCell ⟨ub, 15, none⟩ (.int .i64 q'.v)) := (((Fr.refl (fun i => i = ub) W).setCell (p := ⟨ub, 13, none⟩) (.inl rfl) _).setCell (p := ⟨ub, 14, none⟩) (.inl rfl) _).setCell (p := ⟨ub, 15, none⟩) (.inl rfl) _
  have hl := g.bx.lt
  refine ⟨⟨?_, g.rp.keep fun x hx => hf.cell (by have := g.hB; omega) (fun e => by have := g.hB; omega), g.hB, g.rt.keep fun x hx hl => hf.cell hl hx.2⟩, hf⟩
  simpa using ((g.bx.set_ 13 _).set_ 14 _).set_ 15 _
theorem US.setA (g : US W ub B h p ht t a q) (a' : Int) :
    US (W.setCell ⟨ub, 12, none⟩ (.int .i64 a')) ub B h p ht t a' q ∧ Fr (fun i => i = ub) W (W.setCell ⟨ub, 12, none⟩ (.int .i64 a')) := by
  have hf : Fr (fun i => i = ub) W (W.setCell ⟨ub, 12, none⟩ (.int .i64 a')) := (Fr.refl (fun i => i = ub) W).setCell (p := ⟨ub, 12, none⟩) (.inl rfl) _
  have hl := g.bx.lt
  refine ⟨⟨?_, g.rp.keep fun x hx => hf.cell (by have := g.hB; omega) (fun e => by have := g.hB; omega), g.hB, g.rt.keep fun x hx hl => hf.cell hl hx.2⟩, hf⟩
  simpa using g.bx.set_ 12 _
end
set_option maxHeartbeats 4000000 in
set_option maxRecDepth 100000 in
theorem uend_any (h : PH) (p : PV) (ht : TH) (t : TV) (a : Int) (q : QV) (c : Int) (W : World) (ub B : Nat) (hu : US W ub B h p ht t a q) :
    Calls Try.prog 53 #[.pointer (some ⟨ub, 0, none⟩), .int .i64 c] W fun e W' => e = .returned (.tuple #[]) ∧ (∃ ht' : TH, US W' ub B h p ht' (deadT c) a ⟨1, 0, c⟩) ∧ Fr (fun i => i = ub) W W' := by
  obtain ⟨fA, fc, cA, cc, sA, sc, hA, hc, xA, xc⟩ := h
  obtain ⟨a1, c1, s1, d1⟩ := ht
  have HU := Lib.hid hu
  have hul := hu.bx.lt
  have x0 : W.cell? ⟨ub, 0, none⟩ = some (.slice fA p.funcs.length fc) := (hu.bx.cell 0).trans rfl
  have y0 : W.frozen? ⟨ub, 0, none⟩ = false := hu.bx.frozen 0
  have x1 : W.cell? ⟨ub, 1, none⟩ = some (.int .i64 p.mutexes) := (hu.bx.cell 1).trans rfl
  have y1 : W.frozen? ⟨ub, 1, none⟩ = false := hu.bx.frozen 1
  have x2 : W.cell? ⟨ub, 2, none⟩ = some (.slice cA p.conds.length cc) := (hu.bx.cell 2).trans rfl
  have y2 : W.frozen? ⟨ub, 2, none⟩ = false := hu.bx.frozen 2
  have x3 : W.cell? ⟨ub, 3, none⟩ = some (.slice sA p.semas.length sc) := (hu.bx.cell 3).trans rfl
  have y3 : W.frozen? ⟨ub, 3, none⟩ = false := hu.bx.frozen 3
  have x4 : W.cell? ⟨ub, 4, none⟩ = some (.slice hA p.chans.length hc) := (hu.bx.cell 4).trans rfl
  have y4 : W.frozen? ⟨ub, 4, none⟩ = false := hu.bx.frozen 4
  have x5 : W.cell? ⟨ub, 5, none⟩ = some (.slice xA p.choices.length xc) := (hu.bx.cell 5).trans rfl
  have y5 : W.frozen? ⟨ub, 5, none⟩ = false := hu.bx.frozen 5
  have x6 : W.cell? ⟨ub, 6, none⟩ = some (.int .i64 p.threads) := (hu.bx.cell 6).trans rfl
  have y6 : W.frozen? ⟨ub, 6, none⟩ = false := hu.bx.frozen 6
  have x7 : W.cell? ⟨ub, 7, none⟩ = some (.int .i64 t.state) := (hu.bx.cell 7).trans rfl
  have y7 : W.frozen? ⟨ub, 7, none⟩ = false := hu.bx.frozen 7
  have x8 : W.cell? ⟨ub, 8, none⟩ = some (.int .i64 t.on) := (hu.bx.cell 8).trans rfl
  have y8 : W.frozen? ⟨ub, 8, none⟩ = false := hu.bx.frozen 8
  have x9 : W.cell? ⟨ub, 9, none⟩ = some (.slice a1 t.frames.length c1) := (hu.bx.cell 9).trans rfl
  have y9 : W.frozen? ⟨ub, 9, none⟩ = false := hu.bx.frozen 9
  have x10 : W.cell? ⟨ub, 10, none⟩ = some (.slice s1 t.stack.length d1) := (hu.bx.cell 10).trans rfl
  have y10 : W.frozen? ⟨ub, 10, none⟩ = false := hu.bx.frozen 10
  have x11 : W.cell? ⟨ub, 11, none⟩ = some (.int .i64 t.code) := (hu.bx.cell 11).trans rfl
  have y11 : W.frozen? ⟨ub, 11, none⟩ = false := hu.bx.frozen 11
  have x12 : W.cell? ⟨ub, 12, none⟩ = some (.int .i64 a) := (hu.bx.cell 12).trans rfl
  have y12 : W.frozen? ⟨ub, 12, none⟩ = false := hu.bx.frozen 12
  have x13 : W.cell? ⟨ub, 13, none⟩ = some (.int .i64 q.kind) := (hu.bx.cell 13).trans rfl
  have y13 : W.frozen? ⟨ub, 13, none⟩ = false := hu.bx.frozen 13
  have x14 : W.cell? ⟨ub, 14, none⟩ = some (.int .i64 q.a) := (hu.bx.cell 14).trans rfl
  have y14 : W.frozen? ⟨ub, 14, none⟩ = false := hu.bx.frozen 14
  have x15 : W.cell? ⟨ub, 15, none⟩ = some (.int .i64 q.v) := (hu.bx.cell 15).trans rfl
  have y15 : W.frozen? ⟨ub, 15, none⟩ = false := hu.bx.frozen 15
  clear hu
  go_enter Try.func53, Try.ntmps53
  go_wp2_with fail
  refine (end_any t.state t.on a1 s1 t.frames.length c1 t.stack.length d1 t.code c W).mono ?_
  rintro e W1 ⟨rfl, hb⟩
  have hu1 := HU.out.below hb
  have HB := Lib.hid hb
  clear hb x0 x1 x2 x3 x4 x5 x6 x7 x8 x9 x10 x11 x12 x13 x14 x15 y0 y1 y2 y3 y4 y5 y6 y7 y8 y9 y10 y11 y12 y13 y14 y15 hul
  have hul := hu1.bx.lt
  have x0 : W1.cell? ⟨ub, 0, none⟩ = some (.slice fA p.funcs.length fc) := (hu1.bx.cell 0).trans rfl
  have y0 : W1.frozen? ⟨ub, 0, none⟩ = false := hu1.bx.frozen 0
  have x1 : W1.cell? ⟨ub, 1, none⟩ = some (.int .i64 p.mutexes) := (hu1.bx.cell 1).trans rfl
  have y1 : W1.frozen? ⟨ub, 1, none⟩ = false := hu1.bx.frozen 1
  have x2 : W1.cell? ⟨ub, 2, none⟩ = some (.slice cA p.conds.length cc) := (hu1.bx.cell 2).trans rfl
  have y2 : W1.frozen? ⟨ub, 2, none⟩ = false := hu1.bx.frozen 2
  have x3 : W1.cell? ⟨ub, 3, none⟩ = some (.slice sA p.semas.length sc) := (hu1.bx.cell 3).trans rfl
  have y3 : W1.frozen? ⟨ub, 3, none⟩ = false := hu1.bx.frozen 3
  have x4 : W1.cell? ⟨ub, 4, none⟩ = some (.slice hA p.chans.length hc) := (hu1.bx.cell 4).trans rfl
  have y4 : W1.frozen? ⟨ub, 4, none⟩ = false := hu1.bx.frozen 4
  have x5 : W1.cell? ⟨ub, 5, none⟩ = some (.slice xA p.choices.length xc) := (hu1.bx.cell 5).trans rfl
  have y5 : W1.frozen? ⟨ub, 5, none⟩ = false := hu1.bx.frozen 5
  have x6 : W1.cell? ⟨ub, 6, none⟩ = some (.int .i64 p.threads) := (hu1.bx.cell 6).trans rfl
  have y6 : W1.frozen? ⟨ub, 6, none⟩ = false := hu1.bx.frozen 6
  have x7 : W1.cell? ⟨ub, 7, none⟩ = some (.int .i64 t.state) := (hu1.bx.cell 7).trans rfl
  have y7 : W1.frozen? ⟨ub, 7, none⟩ = false := hu1.bx.frozen 7
  have x8 : W1.cell? ⟨ub, 8, none⟩ = some (.int .i64 t.on) := (hu1.bx.cell 8).trans rfl
  have y8 : W1.frozen? ⟨ub, 8, none⟩ = false := hu1.bx.frozen 8
  have x9 : W1.cell? ⟨ub, 9, none⟩ = some (.slice a1 t.frames.length c1) := (hu1.bx.cell 9).trans rfl
  have y9 : W1.frozen? ⟨ub, 9, none⟩ = false := hu1.bx.frozen 9
  have x10 : W1.cell? ⟨ub, 10, none⟩ = some (.slice s1 t.stack.length d1) := (hu1.bx.cell 10).trans rfl
  have y10 : W1.frozen? ⟨ub, 10, none⟩ = false := hu1.bx.frozen 10
  have x11 : W1.cell? ⟨ub, 11, none⟩ = some (.int .i64 t.code) := (hu1.bx.cell 11).trans rfl
  have y11 : W1.frozen? ⟨ub, 11, none⟩ = false := hu1.bx.frozen 11
  have x12 : W1.cell? ⟨ub, 12, none⟩ = some (.int .i64 a) := (hu1.bx.cell 12).trans rfl
  have y12 : W1.frozen? ⟨ub, 12, none⟩ = false := hu1.bx.frozen 12
  have x13 : W1.cell? ⟨ub, 13, none⟩ = some (.int .i64 q.kind) := (hu1.bx.cell 13).trans rfl
  have y13 : W1.frozen? ⟨ub, 13, none⟩ = false := hu1.bx.frozen 13
  have x14 : W1.cell? ⟨ub, 14, none⟩ = some (.int .i64 q.a) := (hu1.bx.cell 14).trans rfl
  have y14 : W1.frozen? ⟨ub, 14, none⟩ = false := hu1.bx.frozen 14
  have x15 : W1.cell? ⟨ub, 15, none⟩ = some (.int .i64 q.v) := (hu1.bx.cell 15).trans rfl
  have y15 : W1.frozen? ⟨ub, 15, none⟩ = false := hu1.bx.frozen 15
  clear hu1
  go_wp2_with fail
  have hs := HU.out.setT HB.out (ht1 := ⟨none, 0, none, 0⟩) (t1 := deadT c) ((dead_rt c W1).mono fun i hi _ => hi.elim)
  have hq := hs.1.setQ ⟨1, 0, c⟩
  exact ⟨rfl, .tuple #[], by simp [results, Try.results53, go_sem], rfl, ⟨_, hq.1⟩, hs.2.trans hq.2 (fun i _ h => h)⟩
end Go.Proofs.Ytkciedcfphhenaa
