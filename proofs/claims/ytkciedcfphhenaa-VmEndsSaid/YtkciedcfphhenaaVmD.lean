
/-
  vm: a turn's push, pop, leave.
-/
import Derived.Test.YtkciedcfphhenaaVmC
set_option linter.unusedVariables false
set_option linter.unusedSimpArgs false
namespace Go.Proofs.Ytkciedcfphhenaa
open Go.RowKit Plain

namespace Plain
/-- A turn that goes on, or ends. -/
def goV (b : Bool) (t : TV) (q : QV) (c : Int) : TV × QV := if b then (t, q) else (⟨9, 0, [], [], c⟩, ⟨1, 0, c⟩)
end Plain
theorem goOn_any (h : PH) (p : PV) (ht : TH) (t : TV) (a : Int) (q : QV) (b : Bool) (a2 : Option Addr) (c2 : Nat) (s2 : Option Addr) (d2 : Nat) (t2 : TV) (c : Int) (W : World) (ub B : Nat) (hu : US W ub B h p ht t a q) (hr : RT W (fun i => B ≤ i ∧ i ≠ ub) ⟨a2, c2, s2, d2⟩ t2) :
    Calls Try.prog 89 #[.pointer (some ⟨ub, 0, none⟩), .agg #[.int .i64 t2.state, .int .i64 t2.on, .slice a2 t2.frames.length c2, .slice s2 t2.stack.length d2, .int .i64 t2.code], .bool b, .int .i64 c] W fun e W' => e = .returned (.tuple #[]) ∧ (∃ ht' : TH, US W' ub B h p ht' (goV b t2 q c).1 a (goV b t2 q c).2) ∧ Fr (fun i => i = ub) W W' := by
  obtain ⟨fA, fc, cA, cc, sA, sc, hA, hc, xA, xc⟩ := h
  obtain ⟨a1, c1, s1, d1⟩ := ht
  have HU := Lib.hid hu
  have hul := hu.bx.lt
  cases b
  · exact goOn_no ⟨fA, fc, cA, cc, sA, sc, hA, hc, xA, xc⟩ p ⟨a1, c1, s1, d1⟩ t a q a2 c2 s2 d2 t2 c W ub B hu hr
  · exact goOn_yes ⟨fA, fc, cA, cc, sA, sc, hA, hc, xA, xc⟩ p ⟨a1, c1, s1, d1⟩ t a q a2 c2 s2 d2 t2 c W ub B hu hr
set_option maxHeartbeats 4000000 in
set_option maxRecDepth 100000 in
theorem upush_any (h : PH) (p : PV) (ht : TH) (t : TV) (a : Int) (q : QV) (l : List Int) (A : Option Addr) (n c : Nat) (W : World) (ub B : Nat) (hu : US W ub B h p ht t a q) (hl : LensT t) (hri : RI W W.heap.size A n c l) (hn : n ≤ 1000000) :
    Calls Try.prog 56 #[.pointer (some ⟨ub, 0, none⟩), .slice A n c] W fun e W' => e = .returned (.tuple #[]) ∧ (∃ ht' : TH, US W' ub B h p ht' (goV (pushAll t l).2 (pushAll t l).1 q 2).1 a (goV (pushAll t l).2 (pushAll t l).1 q 2).2) ∧ Fr (fun i => i = ub) W W' := by
  obtain ⟨fA, fc, cA, cc, sA, sc, hA, hc, xA, xc⟩ := h
  obtain ⟨a1, c1, s1, d1⟩ := ht
  have HU := Lib.hid hu
  have hul := hu.bx.lt
  have x0 : W.cell? ⟨ub, 0, none⟩ = some (.slice fA p.funcs.length fc) := (hu.bx.cell 0).trans rfl
  have y0 : W.frozen? ⟨ub, 0, none⟩ = false := hu.bx.frozen 0
  have x1 : W.cell? ⟨ub, 1, none⟩ = some (.int .i64 p.mutexes) := (hu.bx.cell 1).trans rfl
  have y1 : W.frozen? ⟨ub, 1, none⟩ = false := hu.bx.frozen 1
  have x2 : W.cell? ⟨ub, 2, none⟩ = some (.slice cA p.conds.length cc) := (hu.bx.cell 2).trans rfl
  have y2 : W.frozen? ⟨ub, 2, none⟩ = false := hu.bx.frozen 2
  have x3 : W.cell? ⟨ub, 3, none⟩ = some (.slice sA p.semas.length sc) := (hu.bx.cell 3).trans rfl
  have y3 : W.frozen? ⟨ub, 3, none⟩ = false := hu.bx.frozen 3
  have x4 : W.cell? ⟨ub, 4, none⟩ = some (.slice hA p.chans.length hc) := (hu.bx.cell 4).trans rfl
  have y4 : W.frozen? ⟨ub, 4, none⟩ = false := hu.bx.frozen 4
  have x5 : W.cell? ⟨ub, 5, none⟩ = some (.slice xA p.choices.length xc) := (hu.bx.cell 5).trans rfl
  have y5 : W.frozen? ⟨ub, 5, none⟩ = false := hu.bx.frozen 5
  have x6 : W.cell? ⟨ub, 6, none⟩ = some (.int .i64 p.threads) := (hu.bx.cell 6).trans rfl
  have y6 : W.frozen? ⟨ub, 6, none⟩ = false := hu.bx.frozen 6
  have x7 : W.cell? ⟨ub, 7, none⟩ = some (.int .i64 t.state) := (hu.bx.cell 7).trans rfl
  have y7 : W.frozen? ⟨ub, 7, none⟩ = false := hu.bx.frozen 7
  have x8 : W.cell? ⟨ub, 8, none⟩ = some (.int .i64 t.on) := (hu.bx.cell 8).trans rfl
  have y8 : W.frozen? ⟨ub, 8, none⟩ = false := hu.bx.frozen 8
  have x9 : W.cell? ⟨ub, 9, none⟩ = some (.slice a1 t.frames.length c1) := (hu.bx.cell 9).trans rfl
  have y9 : W.frozen? ⟨ub, 9, none⟩ = false := hu.bx.frozen 9
  have x10 : W.cell? ⟨ub, 10, none⟩ = some (.slice s1 t.stack.length d1) := (hu.bx.cell 10).trans rfl
  have y10 : W.frozen? ⟨ub, 10, none⟩ = false := hu.bx.frozen 10
  have x11 : W.cell? ⟨ub, 11, none⟩ = some (.int .i64 t.code) := (hu.bx.cell 11).trans rfl
  have y11 : W.frozen? ⟨ub, 11, none⟩ = false := hu.bx.frozen 11
  have x12 : W.cell? ⟨ub, 12, none⟩ = some (.int .i64 a) := (hu.bx.cell 12).trans rfl
  have y12 : W.frozen? ⟨ub, 12, none⟩ = false := hu.bx.frozen 12
  have x13 : W.cell? ⟨ub, 13, none⟩ = some (.int .i64 q.kind) := (hu.bx.cell 13).trans rfl
  have y13 : W.frozen? ⟨ub, 13, none⟩ = false := hu.bx.frozen 13
  have x14 : W.cell? ⟨ub, 14, none⟩ = some (.int .i64 q.a) := (hu.bx.cell 14).trans rfl
  have y14 : W.frozen? ⟨ub, 14, none⟩ = false := hu.bx.frozen 14
  have x15 : W.cell? ⟨ub, 15, none⟩ = some (.int .i64 q.v) := (hu.bx.cell 15).trans rfl
  have y15 : W.frozen? ⟨ub, 15, none⟩ = false := hu.bx.frozen 15
  have HL := Lib.hid hl; have HRI := Lib.hid hri
  clear hu hl hri
  have hpc := vpush_any ⟨a1, c1, s1, d1⟩ t l A n c W _ HU.out.rt HL.out HRI.out hn
  generalize (pushAll t l).1 = t2 at *
  generalize (pushAll t l).2 = b at *
  have HPC := Lib.hid hpc
  clear hpc
  go_enter Try.func56, Try.ntmps56
  go_wp2_with fail
  refine (HPC.out).mono ?_
  rintro e w1 ⟨⟨a2, c2, s2, d2⟩, rfl, hrt, hb⟩
  have hr2 := (hrt.mono (E := fun i => B ≤ i ∧ i ≠ ub) (fun i hi _ => by rcases hi with hi | hi; exact hi; (first | omega | (have hBu := HU.out.hB; omega) | (have hBu := HU1.out.hB; omega) | (have hBu := HUS.out.hB; omega)))).alloc (.cells #[.int .i64 t2.state, .int .i64 t2.on, .slice a2 t2.frames.length c2, .slice s2 t2.stack.length d2, .int .i64 t2.code] 29)
  have hal : Below W.heap.size W (w1.alloc (.cells #[.int .i64 t2.state, .int .i64 t2.on, .slice a2 t2.frames.length c2, .slice s2 t2.stack.length d2, .int .i64 t2.code] 29)) := hb.trans ((Below.refl _ _).alloc hb.size _)
  have hu1 := HU.out.below hal
  have HR2 := Lib.hid hr2; have HU1 := Lib.hid hu1; have HAL := Lib.hid hal
  clear hrt hr2 hu1 hal x0 x1 x2 x3 x4 x5 x6 x7 x8 x9 x10 x11 x12 x13 x14 x15 y0 y1 y2 y3 y4 y5 y6 y7 y8 y9 y10 y11 y12 y13 y14 y15
  clear hb
  go_wp2_with fail
  refine (goOn_any ⟨fA, fc, cA, cc, sA, sc, hA, hc, xA, xc⟩ p ⟨a1, c1, s1, d1⟩ t a q b a2 c2 s2 d2 t2 2 _ ub B HU1.out HR2.out).mono ?_
  rintro e W2 ⟨rfl, hq, hf⟩
  go_wp2_with fail
  go_end0
  exact ⟨rfl, hq, ((Fr.of_below HAL.out).mono (S := fun i => i = ub) (fun i hi hT => by omega)).trans hf (fun i _ h => h)⟩
set_option maxHeartbeats 4000000 in
set_option maxRecDepth 100000 in
theorem uleave_any (h : PH) (p : PV) (ht : TH) (t : TV) (a : Int) (q : QV) (W : World) (ub B : Nat) (hu : US W ub B h p ht t a q) (hl : LensT t) (h1 : 1 ≤ t.frames.length) (h8 : t.frames.length ≤ 1000000) :
    Calls Try.prog 79 #[.pointer (some ⟨ub, 0, none⟩)] W fun e W' => e = .returned (.tuple #[]) ∧ (∃ ht' : TH, US W' ub B h p ht' (goV (decide (1 < t.frames.length)) (leaveT t) q 0).1 a (goV (decide (1 < t.frames.length)) (leaveT t) q 0).2) ∧ Fr (fun i => i = ub) W W' := by
  obtain ⟨fA, fc, cA, cc, sA, sc, hA, hc, xA, xc⟩ := h
  obtain ⟨a1, c1, s1, d1⟩ := ht
  have HU := Lib.hid hu
  have hul := hu.bx.lt
  have x0 : W.cell? ⟨ub, 0, none⟩ = some (.slice fA p.funcs.length fc) := (hu.bx.cell 0).trans rfl
  have y0 : W.frozen? ⟨ub, 0, none⟩ = false := hu.bx.frozen 0
  have x1 : W.cell? ⟨ub, 1, none⟩ = some (.int .i64 p.mutexes) := (hu.bx.cell 1).trans rfl
  have y1 : W.frozen? ⟨ub, 1, none⟩ = false := hu.bx.frozen 1
  have x2 : W.cell? ⟨ub, 2, none⟩ = some (.slice cA p.conds.length cc) := (hu.bx.cell 2).trans rfl
  have y2 : W.frozen? ⟨ub, 2, none⟩ = false := hu.bx.frozen 2
  have x3 : W.cell? ⟨ub, 3, none⟩ = some (.slice sA p.semas.length sc) := (hu.bx.cell 3).trans rfl
  have y3 : W.frozen? ⟨ub, 3, none⟩ = false := hu.bx.frozen 3
  have x4 : W.cell? ⟨ub, 4, none⟩ = some (.slice hA p.chans.length hc) := (hu.bx.cell 4).trans rfl
  have y4 : W.frozen? ⟨ub, 4, none⟩ = false := hu.bx.frozen 4
  have x5 : W.cell? ⟨ub, 5, none⟩ = some (.slice xA p.choices.length xc) := (hu.bx.cell 5).trans rfl
  have y5 : W.frozen? ⟨ub, 5, none⟩ = false := hu.bx.frozen 5
  have x6 : W.cell? ⟨ub, 6, none⟩ = some (.int .i64 p.threads) := (hu.bx.cell 6).trans rfl
  have y6 : W.frozen? ⟨ub, 6, none⟩ = false := hu.bx.frozen 6
  have x7 : W.cell? ⟨ub, 7, none⟩ = some (.int .i64 t.state) := (hu.bx.cell 7).trans rfl
  have y7 : W.frozen? ⟨ub, 7, none⟩ = false := hu.bx.frozen 7
  have x8 : W.cell? ⟨ub, 8, none⟩ = some (.int .i64 t.on) := (hu.bx.cell 8).trans rfl
  have y8 : W.frozen? ⟨ub, 8, none⟩ = false := hu.bx.frozen 8
  have x9 : W.cell? ⟨ub, 9, none⟩ = some (.slice a1 t.frames.length c1) := (hu.bx.cell 9).trans rfl
  have y9 : W.frozen? ⟨ub, 9, none⟩ = false := hu.bx.frozen 9
  have x10 : W.cell? ⟨ub, 10, none⟩ = some (.slice s1 t.stack.length d1) := (hu.bx.cell 10).trans rfl
  have y10 : W.frozen? ⟨ub, 10, none⟩ = false := hu.bx.frozen 10
  have x11 : W.cell? ⟨ub, 11, none⟩ = some (.int .i64 t.code) := (hu.bx.cell 11).trans rfl
  have y11 : W.frozen? ⟨ub, 11, none⟩ = false := hu.bx.frozen 11
  have x12 : W.cell? ⟨ub, 12, none⟩ = some (.int .i64 a) := (hu.bx.cell 12).trans rfl
  have y12 : W.frozen? ⟨ub, 12, none⟩ = false := hu.bx.frozen 12
  have x13 : W.cell? ⟨ub, 13, none⟩ = some (.int .i64 q.kind) := (hu.bx.cell 13).trans rfl
  have y13 : W.frozen? ⟨ub, 13, none⟩ = false := hu.bx.frozen 13
  have x14 : W.cell? ⟨ub, 14, none⟩ = some (.int .i64 q.a) := (hu.bx.cell 14).trans rfl
  have y14 : W.frozen? ⟨ub, 14, none⟩ = false := hu.bx.frozen 14
  have x15 : W.cell? ⟨ub, 15, none⟩ = some (.int .i64 q.v) := (hu.bx.cell 15).trans rfl
  have y15 : W.frozen? ⟨ub, 15, none⟩ = false := hu.bx.frozen 15
  have hpc := leave_all ⟨a1, c1, s1, d1⟩ t W _ hu.rt hl h1 h8 _ rfl
  clear hu hl h1 h8
  generalize leaveT t = t2 at *
  generalize decide (1 < t.frames.length) = b at *
  have HPC := Lib.hid hpc
  clear hpc
  go_enter Try.func79, Try.ntmps79
  go_wp2_with fail
  refine (HPC.out).mono ?_
  rintro e w1 ⟨⟨a2, c2, s2, d2⟩, rfl, hrt, hb⟩
  have hr2 := (hrt.mono (E := fun i => B ≤ i ∧ i ≠ ub) (fun i hi _ => by rcases hi with hi | hi; exact hi; (first | omega | (have hBu := HU.out.hB; omega) | (have hBu := HU1.out.hB; omega) | (have hBu := HUS.out.hB; omega)))).alloc (.cells #[.int .i64 t2.state, .int .i64 t2.on, .slice a2 t2.frames.length c2, .slice s2 t2.stack.length d2, .int .i64 t2.code] 29)
  have hal : Below W.heap.size W (w1.alloc (.cells #[.int .i64 t2.state, .int .i64 t2.on, .slice a2 t2.frames.length c2, .slice s2 t2.stack.length d2, .int .i64 t2.code] 29)) := hb.trans ((Below.refl _ _).alloc hb.size _)
  have hu1 := HU.out.below hal
  have HR2 := Lib.hid hr2; have HU1 := Lib.hid hu1; have HAL := Lib.hid hal
  clear hrt hr2 hu1 hal x0 x1 x2 x3 x4 x5 x6 x7 x8 x9 x10 x11 x12 x13 x14 x15 y0 y1 y2 y3 y4 y5 y6 y7 y8 y9 y10 y11 y12 y13 y14 y15
  clear hb
  go_wp2_with fail
  refine (goOn_any ⟨fA, fc, cA, cc, sA, sc, hA, hc, xA, xc⟩ p ⟨a1, c1, s1, d1⟩ t a q b a2 c2 s2 d2 t2 0 _ ub B HU1.out HR2.out).mono ?_
  rintro e W2 ⟨rfl, hq, hf⟩
  go_wp2_with fail
  go_end0
  exact ⟨rfl, hq, ((Fr.of_below HAL.out).mono (S := fun i => i = ub) (fun i hi hT => by omega)).trans hf (fun i _ h => h)⟩
set_option maxHeartbeats 4000000 in
set_option maxRecDepth 100000 in
theorem upop_no (h : PH) (p : PV) (ht : TH) (t : TV) (a : Int) (q : QV) (f : FuncId) (caps : Array Value) (W : World) (ub B : Nat) (hu : US W ub B h p ht t a q) (hl : LensT t) (h16 : t.stack.length ≤ 1000000) (h0 : t.stack.length = 0) :
    Calls Try.prog 58 #[.pointer (some ⟨ub, 0, none⟩), .func (.func f) #[] caps] W fun e W' => e = .returned (.tuple #[]) ∧ (∃ ht' : TH, US W' ub B h p ht' (deadT 1) a ⟨1, 0, 1⟩) ∧ Fr (fun i => i = ub) W W' := by
  obtain ⟨fA, fc, cA, cc, sA, sc, hA, hc, xA, xc⟩ := h
  obtain ⟨a1, c1, s1, d1⟩ := ht
  have HU := Lib.hid hu
  have hul := hu.bx.lt
  have x0 : W.cell? ⟨ub, 0, none⟩ = some (.slice fA p.funcs.length fc) := (hu.bx.cell 0).trans rfl
  have y0 : W.frozen? ⟨ub, 0, none⟩ = false := hu.bx.frozen 0
  have x1 : W.cell? ⟨ub, 1, none⟩ = some (.int .i64 p.mutexes) := (hu.bx.cell 1).trans rfl
  have y1 : W.frozen? ⟨ub, 1, none⟩ = false := hu.bx.frozen 1
  have x2 : W.cell? ⟨ub, 2, none⟩ = some (.slice cA p.conds.length cc) := (hu.bx.cell 2).trans rfl
  have y2 : W.frozen? ⟨ub, 2, none⟩ = false := hu.bx.frozen 2
  have x3 : W.cell? ⟨ub, 3, none⟩ = some (.slice sA p.semas.length sc) := (hu.bx.cell 3).trans rfl
  have y3 : W.frozen? ⟨ub, 3, none⟩ = false := hu.bx.frozen 3
  have x4 : W.cell? ⟨ub, 4, none⟩ = some (.slice hA p.chans.length hc) := (hu.bx.cell 4).trans rfl
  have y4 : W.frozen? ⟨ub, 4, none⟩ = false := hu.bx.frozen 4
  have x5 : W.cell? ⟨ub, 5, none⟩ = some (.slice xA p.choices.length xc) := (hu.bx.cell 5).trans rfl
  have y5 : W.frozen? ⟨ub, 5, none⟩ = false := hu.bx.frozen 5
  have x6 : W.cell? ⟨ub, 6, none⟩ = some (.int .i64 p.threads) := (hu.bx.cell 6).trans rfl
  have y6 : W.frozen? ⟨ub, 6, none⟩ = false := hu.bx.frozen 6
  have x7 : W.cell? ⟨ub, 7, none⟩ = some (.int .i64 t.state) := (hu.bx.cell 7).trans rfl
  have y7 : W.frozen? ⟨ub, 7, none⟩ = false := hu.bx.frozen 7
  have x8 : W.cell? ⟨ub, 8, none⟩ = some (.int .i64 t.on) := (hu.bx.cell 8).trans rfl
  have y8 : W.frozen? ⟨ub, 8, none⟩ = false := hu.bx.frozen 8
  have x9 : W.cell? ⟨ub, 9, none⟩ = some (.slice a1 t.frames.length c1) := (hu.bx.cell 9).trans rfl
  have y9 : W.frozen? ⟨ub, 9, none⟩ = false := hu.bx.frozen 9
  have x10 : W.cell? ⟨ub, 10, none⟩ = some (.slice s1 t.stack.length d1) := (hu.bx.cell 10).trans rfl
  have y10 : W.frozen? ⟨ub, 10, none⟩ = false := hu.bx.frozen 10
  have x11 : W.cell? ⟨ub, 11, none⟩ = some (.int .i64 t.code) := (hu.bx.cell 11).trans rfl
  have y11 : W.frozen? ⟨ub, 11, none⟩ = false := hu.bx.frozen 11
  have x12 : W.cell? ⟨ub, 12, none⟩ = some (.int .i64 a) := (hu.bx.cell 12).trans rfl
  have y12 : W.frozen? ⟨ub, 12, none⟩ = false := hu.bx.frozen 12
  have x13 : W.cell? ⟨ub, 13, none⟩ = some (.int .i64 q.kind) := (hu.bx.cell 13).trans rfl
  have y13 : W.frozen? ⟨ub, 13, none⟩ = false := hu.bx.frozen 13
  have x14 : W.cell? ⟨ub, 14, none⟩ = some (.int .i64 q.a) := (hu.bx.cell 14).trans rfl
  have y14 : W.frozen? ⟨ub, 14, none⟩ = false := hu.bx.frozen 14
  have x15 : W.cell? ⟨ub, 15, none⟩ = some (.int .i64 q.v) := (hu.bx.cell 15).trans rfl
  have y15 : W.frozen? ⟨ub, 15, none⟩ = false := hu.bx.frozen 15
  have hpc := pop_all ⟨a1, c1, s1, d1⟩ t W _ hu.rt hl h16 _ rfl
  clear hu hl
  rw [if_neg (by omega), decide_eq_false (by omega)] at hpc
  clear h0
  generalize topT t = z at *
  obtain ⟨t2, ht2⟩ : ∃ x, x = t := ⟨_, rfl⟩
  have HPC : Hid (Calls Try.prog 90 #[.agg #[.int .i64 t.state, .int .i64 t.on, .slice a1 t.frames.length c1, .slice s1 t.stack.length d1, .int .i64 t.code]] W fun e w' => ∃ h' : TH, e = .returned (.tuple #[.agg #[.int .i64 t2.state, .int .i64 t2.on, .slice h'.fA t2.frames.length h'.fc, .slice h'.sA t2.stack.length h'.sc, .int .i64 t2.code], .int .i64 z, .bool false]) ∧ RT w' (fun i => (B ≤ i ∧ i ≠ ub) ∨ W.heap.size ≤ i) h' t2 ∧ Below W.heap.size W w') := by subst ht2; exact hpc
  clear hpc ht2
  go_enter Try.func58, Try.ntmps58
  go_wp2_with fail
  refine (HPC.out).mono ?_
  rintro e w1 ⟨⟨a2, c2, s2, d2⟩, rfl, hrt, hb⟩
  have hr2 := (hrt.mono (E := fun i => B ≤ i ∧ i ≠ ub) (fun i hi _ => by rcases hi with hi | hi; exact hi; (first | omega | (have hBu := HU.out.hB; omega) | (have hBu := HU1.out.hB; omega) | (have hBu := HUS.out.hB; omega)))).alloc (.cells #[.int .i64 t2.state, .int .i64 t2.on, .slice a2 t2.frames.length c2, .slice s2 t2.stack.length d2, .int .i64 t2.code] 29)
  have hal : Below W.heap.size W (w1.alloc (.cells #[.int .i64 t2.state, .int .i64 t2.on, .slice a2 t2.frames.length c2, .slice s2 t2.stack.length d2, .int .i64 t2.code] 29)) := hb.trans ((Below.refl _ _).alloc hb.size _)
  have hu1 := HU.out.below hal
  have HR2 := Lib.hid hr2; have HU1 := Lib.hid hu1; have HAL := Lib.hid hal
  clear hrt hr2 hu1 hal x0 x1 x2 x3 x4 x5 x6 x7 x8 x9 x10 x11 x12 x13 x14 x15 y0 y1 y2 y3 y4 y5 y6 y7 y8 y9 y10 y11 y12 y13 y14 y15
  clear hb
  go_wp2_with fail
  refine (goOn_any ⟨fA, fc, cA, cc, sA, sc, hA, hc, xA, xc⟩ p ⟨a1, c1, s1, d1⟩ t a q false a2 c2 s2 d2 t2 1 _ ub B HU1.out HR2.out).mono ?_
  rintro e W2 ⟨rfl, hq, hf⟩
  go_wp2_with fail
  go_end0
  exact ⟨rfl, hq, ((Fr.of_below HAL.out).mono (S := fun i => i = ub) (fun i hi hT => by omega)).trans hf (fun i _ h => h)⟩
set_option maxHeartbeats 4000000 in
set_option maxRecDepth 100000 in
theorem upop_yes (h : PH) (p : PV) (ht : TH) (t : TV) (a : Int) (q : QV) (f : FuncId) (caps : Array Value) (hent : ∀ (args : Array Value) (W : World), (callFunc f args).run Try.prog W = .ok (.enter f args) W) (t' : TV) (q' : QV) (W : World) (ub B : Nat) (hu : US W ub B h p ht t a q) (hl : LensT t) (h16 : t.stack.length ≤ 1000000) (h0 : 0 < t.stack.length)
    (hcl : ∀ (W1 : World) (ht1 : TH), US W1 ub B h p ht1 (popT t) a q → Fr (fun i => i = ub) W W1 → Calls Try.prog f (#[.int .i64 (topT t)] ++ caps) W1 fun e W' => e = .returned (.tuple #[]) ∧ (∃ ht' : TH, US W' ub B h p ht' t' a q') ∧ Fr (fun i => i = ub) W1 W') :
    Calls Try.prog 58 #[.pointer (some ⟨ub, 0, none⟩), .func (.func f) #[] caps] W fun e W' => e = .returned (.tuple #[]) ∧ (∃ ht' : TH, US W' ub B h p ht' t' a q') ∧ Fr (fun i => i = ub) W W' := by
  obtain ⟨fA, fc, cA, cc, sA, sc, hA, hc, xA, xc⟩ := h
  obtain ⟨a1, c1, s1, d1⟩ := ht
  have HU := Lib.hid hu
  have hul := hu.bx.lt
  have x0 : W.cell? ⟨ub, 0, none⟩ = some (.slice fA p.funcs.length fc) := (hu.bx.cell 0).trans rfl
  have y0 : W.frozen? ⟨ub, 0, none⟩ = false := hu.bx.frozen 0
  have x1 : W.cell? ⟨ub, 1, none⟩ = some (.int .i64 p.mutexes) := (hu.bx.cell 1).trans rfl
  have y1 : W.frozen? ⟨ub, 1, none⟩ = false := hu.bx.frozen 1
  have x2 : W.cell? ⟨ub, 2, none⟩ = some (.slice cA p.conds.length cc) := (hu.bx.cell 2).trans rfl
  have y2 : W.frozen? ⟨ub, 2, none⟩ = false := hu.bx.frozen 2
  have x3 : W.cell? ⟨ub, 3, none⟩ = some (.slice sA p.semas.length sc) := (hu.bx.cell 3).trans rfl
  have y3 : W.frozen? ⟨ub, 3, none⟩ = false := hu.bx.frozen 3
  have x4 : W.cell? ⟨ub, 4, none⟩ = some (.slice hA p.chans.length hc) := (hu.bx.cell 4).trans rfl
  have y4 : W.frozen? ⟨ub, 4, none⟩ = false := hu.bx.frozen 4
  have x5 : W.cell? ⟨ub, 5, none⟩ = some (.slice xA p.choices.length xc) := (hu.bx.cell 5).trans rfl
  have y5 : W.frozen? ⟨ub, 5, none⟩ = false := hu.bx.frozen 5
  have x6 : W.cell? ⟨ub, 6, none⟩ = some (.int .i64 p.threads) := (hu.bx.cell 6).trans rfl
  have y6 : W.frozen? ⟨ub, 6, none⟩ = false := hu.bx.frozen 6
  have x7 : W.cell? ⟨ub, 7, none⟩ = some (.int .i64 t.state) := (hu.bx.cell 7).trans rfl
  have y7 : W.frozen? ⟨ub, 7, none⟩ = false := hu.bx.frozen 7
  have x8 : W.cell? ⟨ub, 8, none⟩ = some (.int .i64 t.on) := (hu.bx.cell 8).trans rfl
  have y8 : W.frozen? ⟨ub, 8, none⟩ = false := hu.bx.frozen 8
  have x9 : W.cell? ⟨ub, 9, none⟩ = some (.slice a1 t.frames.length c1) := (hu.bx.cell 9).trans rfl
  have y9 : W.frozen? ⟨ub, 9, none⟩ = false := hu.bx.frozen 9
  have x10 : W.cell? ⟨ub, 10, none⟩ = some (.slice s1 t.stack.length d1) := (hu.bx.cell 10).trans rfl
  have y10 : W.frozen? ⟨ub, 10, none⟩ = false := hu.bx.frozen 10
  have x11 : W.cell? ⟨ub, 11, none⟩ = some (.int .i64 t.code) := (hu.bx.cell 11).trans rfl
  have y11 : W.frozen? ⟨ub, 11, none⟩ = false := hu.bx.frozen 11
  have x12 : W.cell? ⟨ub, 12, none⟩ = some (.int .i64 a) := (hu.bx.cell 12).trans rfl
  have y12 : W.frozen? ⟨ub, 12, none⟩ = false := hu.bx.frozen 12
  have x13 : W.cell? ⟨ub, 13, none⟩ = some (.int .i64 q.kind) := (hu.bx.cell 13).trans rfl
  have y13 : W.frozen? ⟨ub, 13, none⟩ = false := hu.bx.frozen 13
  have x14 : W.cell? ⟨ub, 14, none⟩ = some (.int .i64 q.a) := (hu.bx.cell 14).trans rfl
  have y14 : W.frozen? ⟨ub, 14, none⟩ = false := hu.bx.frozen 14
  have x15 : W.cell? ⟨ub, 15, none⟩ = some (.int .i64 q.v) := (hu.bx.cell 15).trans rfl
  have y15 : W.frozen? ⟨ub, 15, none⟩ = false := hu.bx.frozen 15
  have hpc := pop_all ⟨a1, c1, s1, d1⟩ t W _ hu.rt hl h16 _ rfl
  clear hu hl
  rw [if_pos (by omega), decide_eq_true (by omega)] at hpc
  clear h0
  generalize topT t = z at *
  generalize popT t = t2 at *
  have HPC := Lib.hid hpc; have HCL := Lib.hid hcl
  clear hpc hcl
  go_enter Try.func58, Try.ntmps58
  go_wp2_with fail
  refine (HPC.out).mono ?_
  rintro e w1 ⟨⟨a2, c2, s2, d2⟩, rfl, hrt, hb⟩
  have hr2 := (hrt.mono (E := fun i => B ≤ i ∧ i ≠ ub) (fun i hi _ => by rcases hi with hi | hi; exact hi; (first | omega | (have hBu := HU.out.hB; omega) | (have hBu := HU1.out.hB; omega) | (have hBu := HUS.out.hB; omega)))).alloc (.cells #[.int .i64 t2.state, .int .i64 t2.on, .slice a2 t2.frames.length c2, .slice s2 t2.stack.length d2, .int .i64 t2.code] 29)
  have hal : Below W.heap.size W (w1.alloc (.cells #[.int .i64 t2.state, .int .i64 t2.on, .slice a2 t2.frames.length c2, .slice s2 t2.stack.length d2, .int .i64 t2.code] 29)) := hb.trans ((Below.refl _ _).alloc hb.size _)
  have hu1 := HU.out.below hal
  have HR2 := Lib.hid hr2; have HU1 := Lib.hid hu1; have HAL := Lib.hid hal
  clear hrt hr2 hu1 hal x0 x1 x2 x3 x4 x5 x6 x7 x8 x9 x10 x11 x12 x13 x14 x15 y0 y1 y2 y3 y4 y5 y6 y7 y8 y9 y10 y11 y12 y13 y14 y15
  clear hb
  go_wp2_with fail
  refine (goOn_any ⟨fA, fc, cA, cc, sA, sc, hA, hc, xA, xc⟩ p ⟨a1, c1, s1, d1⟩ t a q true a2 c2 s2 d2 t2 1 _ ub B HU1.out HR2.out).mono ?_
  rintro e W2 ⟨rfl, hq, hf⟩
  obtain ⟨ht3, hq⟩ := hq
  have hq3 : US W2 ub B ⟨fA, fc, cA, cc, sA, sc, hA, hc, xA, xc⟩ p ht3 t2 a q := hq
  have hf3 := ((Fr.of_below HAL.out).mono (S := fun i => i = ub) (fun i hi hT => by omega)).trans hf (fun i _ h => h)
  have HQ := Lib.hid hq3; have HF := Lib.hid hf3
  clear hq hq3 hf hf3
  go_wp2_with fail
  refine (HCL.out W2 ht3 HQ.out HF.out).mono ?_
  rintro e W3 ⟨rfl, hq, hf⟩
  go_wp2_with fail
  go_end0
  exact ⟨rfl, hq, HF.out.trans hf (fun i _ h => h)⟩
end Go.Proofs.Ytkciedcfphhenaa
