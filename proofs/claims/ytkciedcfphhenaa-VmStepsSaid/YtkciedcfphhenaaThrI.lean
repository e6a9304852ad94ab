
/-
  Whether two threads are one: the document's answer of two that are; a thread that is over.
-/
import Derived.Test.YtkciedcfphhenaaThrH
import Derived.Deep.QuietTactic
import Derived.BigQuiet
set_option linter.unusedVariables false
set_option linter.unusedSimpArgs false
namespace Go.Proofs.Ytkciedcfphhenaa
open Go.RowKit Plain

set_option maxHeartbeats 2000000 in
theorem sameInts_yes (l : List Int) (w : World) (B1 B2 : Nat) (A1 A2 : Option Addr) (n c1 c2 : Nat) (h1 : RI w B1 A1 n c1 l) (h2 : RI w B2 A2 n c2 l) (hn : n ≤ 9223372036854775807) :
    Calls Try.prog 47 #[.slice A1 n c1, .slice A2 n c2] w fun e w' => e = .returned (.bool true) ∧ ∃ d, w' = w.drewN d := by
  have H1 := Lib.hid h1; have H2 := Lib.hid h2
  clear h1 h2
  go_enter Try.func47, Try.ntmps47
  go_wp2_with fail
  go_loopw [5] (fun s wr => ∃ k d : Nat, k ≤ n ∧ s = .int .i64 (k : Int) ∧ wr = w.drewN d) (fun s _ => n - (intOf s).toNat)
  case atStart => exact ⟨0, 0, by omega, rfl, rfl⟩
  case round =>
    obtain ⟨k, d, hk, rfl, rfl⟩ := hrel
    by_cases hlt : k < n
    · obtain ⟨ad1, z1, rfl, _, hz1, hc1⟩ := H1.out.at_ hlt
      obtain ⟨ad2, z2, rfl, _, hz2, hc2⟩ := H2.out.at_ hlt
      rw [hz1] at hz2
      injection hz2 with hz2
      subst hz2
      clear hz1
      go_wp2_with fail
      go_quiet (fail)
      go_wp2_with fail
      exact ⟨⟨k + 1, _, by omega, by go_num, rfl⟩, by simp [intOf]; omega⟩
    · go_wp2_with fail
      go_ret
      exact ⟨rfl, d, rfl⟩

structure SmRel (w wr : World) (h k : TH) (t : TV) : Prop where
  b1 : Blk wr w.heap.size 29 #[.int .i64 t.state, .int .i64 t.on, .slice h.fA t.frames.length h.fc, .slice h.sA t.stack.length h.sc, .int .i64 t.code]
  b2 : Blk wr (w.heap.size + 1) 29 #[.int .i64 t.state, .int .i64 t.on, .slice k.fA t.frames.length k.fc, .slice k.sA t.stack.length k.sc, .int .i64 t.code]
  bel : Below w.heap.size w wr

set_option maxHeartbeats 4000000 in
set_option maxRecDepth 100000 in
theorem refSame_yes (h k : TH) (t : TV) (w : World) (D E : Nat → Prop) (hr : RT w D h t) (hk : RT w E k t) (hl : LensT t) :
    Calls Try.prog 15 #[.agg #[.int .i64 t.state, .int .i64 t.on, .slice h.fA t.frames.length h.fc, .slice h.sA t.stack.length h.sc, .int .i64 t.code], .agg #[.int .i64 t.state, .int .i64 t.on, .slice k.fA t.frames.length k.fc, .slice k.sA t.stack.length k.sc, .int .i64 t.code]] w fun e w' => e = .returned (.bool true) ∧ Below w.heap.size w w' := by
  have hF1 := hr.frames.rg
  have hF2 := hk.frames.rg
  have hsi := fun (W : World) (hb : Below w.heap.size w W) => sameInts_yes t.stack W w.heap.size w.heap.size h.sA k.sA t.stack.length h.sc k.sc (hr.stack.ri.keep fun p hp => hb.cell hp) (hk.stack.ri.keep fun p hp => hb.cell hp) (by have := hl.stack; omega)
  have hll := hl.locals
  have hlf := hl.frames
  have HF1 := Lib.hid hF1; have HF2 := Lib.hid hF2; have HSI := Lib.hid hsi; have HLL := Lib.hid hll
  clear hr hk hl hF1 hF2 hsi hll
  have hsm : ∀ W, W = (w.alloc (.cells #[.int .i64 t.state, .int .i64 t.on, .slice h.fA t.frames.length h.fc, .slice h.sA t.stack.length h.sc, .int .i64 t.code] 29)).alloc (.cells #[.int .i64 t.state, .int .i64 t.on, .slice k.fA t.frames.length k.fc, .slice k.sA t.stack.length k.sc, .int .i64 t.code] 29) → SmRel w W h k t := by
    rintro W rfl
    refine ⟨(Blk.new w _ _).alloc _, ?_, ((Below.refl _ _).alloc (Nat.le_refl _) _).alloc (by simp) _⟩
    simpa using Blk.new (w.alloc (.cells #[.int .i64 t.state, .int .i64 t.on, .slice h.fA t.frames.length h.fc, .slice h.sA t.stack.length h.sc, .int .i64 t.code] 29)) 29 #[.int .i64 t.state, .int .i64 t.on, .slice k.fA t.frames.length k.fc, .slice k.sA t.stack.length k.sc, .int .i64 t.code]
  obtain ⟨fA, fc, sA, sc⟩ := h
  obtain ⟨gA, gc, kA, kc⟩ := k
  simp only at hsm HSI HF1 HF2
  have HSM := Lib.hid (hsm _ rfl)
  clear hsm
  go_enter Try.func15, Try.ntmps15
  go_wp2_with fail
  refine (HSI.out _ HSM.out.bel).mono ?_
  rintro e w1 ⟨rfl, d, rfl⟩
  go_wp2_with fail
  go_loopw [5] (fun s wr => ∃ i : Nat, i ≤ t.frames.length ∧ s = .int .i64 (i : Int) ∧ SmRel w wr ⟨fA, fc, sA, sc⟩ ⟨gA, gc, kA, kc⟩ t) (fun s _ => t.frames.length - (intOf s).toNat)
  case atStart => exact ⟨0, by omega, rfl, ⟨HSM.out.b1.drewN _, HSM.out.b2.drewN _, below_drews HSM.out.bel _⟩⟩
  case round =>
    obtain ⟨i, hi, rfl, g⟩ := hrel
    have G := Lib.hid g
    have x2 : wr.cell? ⟨w.heap.size, 2, none⟩ = some (.slice fA t.frames.length fc) := (g.b1.cell 2).trans rfl
    have y2 : wr.cell? ⟨w.heap.size + 1, 2, none⟩ = some (.slice gA t.frames.length gc) := (g.b2.cell 2).trans rfl
    have z1 := g.b1.lt
    have z2 := g.b2.lt
    have zb := g.bel.size
    by_cases hlt : i < t.frames.length
    · obtain ⟨ad1, p1, rfl, hab1, hp1, a0, a1, a2, hri1⟩ := HF1.out.at_ hlt
      obtain ⟨ad2, p2, rfl, hab2, hp2, b0, b1, b2, hri2⟩ := HF2.out.at_ hlt
      rw [hp1] at hp2
      injection hp2 with hp2
      rw [← hp2] at b0 b1 b2 hri2
      have hlp := HLL.out p1.f (List.mem_of_getElem? hp1)
      have c0 := (g.bel.cell (p := ad1.add (i * 3)) (by rw [block_of_add]; exact hab1)).trans a0
      have c1 := (g.bel.cell (p := ⟨(ad1.add (i * 3)).block, (ad1.add (i * 3)).off + 1, none⟩) (by show (ad1.add (i * 3)).block < _; rw [block_of_add]; exact hab1)).trans a1
      have c2 := (g.bel.cell (p := ⟨(ad1.add (i * 3)).block, (ad1.add (i * 3)).off + 2, none⟩) (by show (ad1.add (i * 3)).block < _; rw [block_of_add]; exact hab1)).trans a2
      have e0 : ∀ o, (wr.alloc o).cell? (ad2.add (i * 3)) = some (.int .i64 p1.f.func) := fun o => ((g.bel.alloc zb o).cell (p := ad2.add (i * 3)) (by rw [block_of_add]; exact hab2)).trans b0
      have e1 : ∀ o, (wr.alloc o).cell? ⟨(ad2.add (i * 3)).block, (ad2.add (i * 3)).off + 1, none⟩ = some (.int .i64 p1.f.pc) := fun o => ((g.bel.alloc zb o).cell (p := ⟨(ad2.add (i * 3)).block, (ad2.add (i * 3)).off + 1, none⟩) (by show (ad2.add (i * 3)).block < _; rw [block_of_add]; exact hab2)).trans b1
      have e2 : ∀ o, (wr.alloc o).cell? ⟨(ad2.add (i * 3)).block, (ad2.add (i * 3)).off + 2, none⟩ = some (.slice p2.A p1.f.locals.length p2.c) := fun o => ((g.bel.alloc zb o).cell (p := ⟨(ad2.add (i * 3)).block, (ad2.add (i * 3)).off + 2, none⟩) (by show (ad2.add (i * 3)).block < _; rw [block_of_add]; exact hab2)).trans b2
      have hcon := fun o1 o2 => sameInts_yes p1.f.locals ((wr.alloc o1).alloc o2) w.heap.size w.heap.size p1.A p2.A p1.f.locals.length p1.c p2.c (hri1.keep fun p hp => ((g.bel.alloc zb o1).alloc (by simp; omega) o2).cell hp) (hri2.keep fun p hp => ((g.bel.alloc zb o1).alloc (by simp; omega) o2).cell hp) (by omega)
      have HCON := Lib.hid hcon
      have hnext := fun o1 o2 d => (⟨((g.b1.alloc o1).alloc o2).drewN d, ((g.b2.alloc o1).alloc o2).drewN d, below_drews ((g.bel.alloc zb o1).alloc (by simp; omega) o2) d⟩ : SmRel w (((wr.alloc o1).alloc o2).drewN d) ⟨some ad1, fc, sA, sc⟩ ⟨some ad2, gc, kA, kc⟩ t)
      have HNX := Lib.hid hnext
      clear hp1 hp2 a0 a1 a2 b0 b1 b2 hri1 hri2 hcon hnext g
      go_wp2_with fail
      refine (HCON.out _ _).mono ?_
      rintro e w5 ⟨rfl, d2, rfl⟩
      go_wp2_with fail
      exact ⟨⟨i + 1, by omega, by go_num, HNX.out _ _ _⟩, by simp [intOf]; omega⟩
    · clear g
      go_wp2_with fail
      go_ret
      exact ⟨rfl, G.out.bel⟩

set_option maxHeartbeats 1000000 in
set_option maxRecDepth 100000 in
theorem refEnd_any (c : Int) (w : World) : Calls Try.prog 23 #[.int .i64 c] w fun e w' => e = .returned (.agg #[.int .i64 9, .int .i64 0, .slice none 0 0, .slice none 0 0, .int .i64 c]) ∧ Below w.heap.size w w' := by
  go_enter Try.func23, Try.ntmps23
  go_wp2_with fail
  exact bodyPost_ret (v := .agg #[.int .i64 9, .int .i64 0, .slice none 0 0, .slice none 0 0, .int .i64 c]) (results_cell_row rfl _ _ w.heap.size 29 _ (0, 0) _ rfl (Blk.new w _ _) Try.underlying29 rfl (by kernel_rfl)) rfl ⟨rfl, (Below.refl _ _).alloc (Nat.le_refl _) _⟩
set_option maxHeartbeats 1000000 in
set_option maxRecDepth 100000 in
theorem end_any (a b : Int) (fA sA : Option Addr) (n fc m sc : Nat) (x c : Int) (w : World) : Calls Try.prog 84 #[.agg #[.int .i64 a, .int .i64 b, .slice fA n fc, .slice sA m sc, .int .i64 x], .int .i64 c] w fun e w' => e = .returned (.agg #[.int .i64 9, .int .i64 0, .slice none 0 0, .slice none 0 0, .int .i64 c]) ∧ Below w.heap.size w w' := by
  go_enter Try.func84, Try.ntmps84
  go_wp2_with fail
  have hb : Blk ((w.alloc (.cells #[.int .i64 a, .int .i64 b, .slice fA n fc, .slice sA m sc, .int .i64 x] 29)).alloc (.cells #[.int .i64 9, .int .i64 0, .slice none 0 0, .slice none 0 0, .int .i64 c] 29)) (w.heap.size + 1) 29 #[.int .i64 9, .int .i64 0, .slice none 0 0, .slice none 0 0, .int .i64 c] := by simpa using Blk.new (w.alloc (.cells #[.int .i64 a, .int .i64 b, .slice fA n fc, .slice sA m sc, .int .i64 x] 29)) 29 #[.int .i64 9, .int .i64 0, .slice none 0 0, .slice none 0 0, .int .i64 c]
  exact bodyPost_ret (v := .agg #[.int .i64 9, .int .i64 0, .slice none 0 0, .slice none 0 0, .int .i64 c]) (results_cell_row rfl _ _ (w.heap.size + 1) 29 _ (0, 0) _ rfl hb Try.underlying29 rfl (by kernel_rfl)) rfl ⟨rfl, ((Below.refl _ _).alloc (Nat.le_refl _) _).alloc (by simp) _⟩
/-- A thread that is over. -/
def deadT (c : Int) : TV := ⟨9, 0, [], [], c⟩
theorem dead_rt (c : Int) (w : World) : RT w (fun _ => False) ⟨none, 0, none, 0⟩ (deadT c) :=
  ⟨⟨[], rfl, rfl, Nat.le_refl _, ⟨rfl, fun h => absurd h (by simp [deadT])⟩, by simp⟩, ⟨rfl, Nat.le_refl _, ⟨rfl, fun h => absurd h (by simp [deadT])⟩⟩⟩
end Go.Proofs.Ytkciedcfphhenaa
