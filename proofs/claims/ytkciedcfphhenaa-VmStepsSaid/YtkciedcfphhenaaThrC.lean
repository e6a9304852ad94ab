
/-
  begin, New, Push, Enter: of the program.
-/
import Derived.Test.YtkciedcfphhenaaThrB
import Derived.Test.YtkciedcfphhenaaMayB
set_option linter.unusedVariables false
set_option linter.unusedSimpArgs false
namespace Go.Proofs.Ytkciedcfphhenaa
open Go.RowKit Plain

/-- A program's function, in bounds, has few locals. -/
def FewLoc (p : PV) : Prop := ∀ f ∈ p.funcs, 0 ≤ f.locals ∧ f.locals ≤ 8
theorem madeCells_ints (n : Nat) : (madeCells #[.int .i64 0] n).toList = IS (List.replicate n 0) := by
  rw [toList_madeCells_one]; simp [IS]

theorem make_ints (m : Nat) (hm : m ≤ 1000) : ∀ W : World, (Instr.makeSlice 23 (.int .i64 (m : Int)) (.int .i64 (m : Int))).run Try.prog W = .ok (.slice (some ⟨W.heap.size, 0, none⟩) m m) (W.alloc (.cells (madeCells #[.int .i64 0] m) 3)) := by
  obtain ⟨i0, hi0, hz0, hz1, hz2⟩ := info_parts info_int
  intro W
  have := run_make (P := Try.prog) W 23 3 i0 _ Try.underlying23 hi0 hz0 .i64 .i64 m m (by omega) (by omega) (by rw [hz2]; omega) (by omega)
  rw [hz1] at this
  simpa [Value.cells] using this
theorem own_made (W : World) (m : Nat) (hm : m ≤ 1000) : (W.alloc (.cells (madeCells #[.int .i64 0] m) 3)).ownsRow W.heap.size 3 1 (.slice (some ⟨W.heap.size, 0, none⟩) m m) m (IS (List.replicate m 0)) := by
  have := World.ownsRow_lit (base := W.heap.size) (e := 3) (size := 1) W (madeCells #[.int .i64 0] m) m (Nat.le_refl _) (by unfold maxLen; omega) (by rw [size_madeCells]; omega)
  rwa [madeCells_ints] at this

set_option maxHeartbeats 4000000 in
set_option maxRecDepth 100000 in
theorem begin_any (h : PH) (p : PV) (w : World) (B : Nat) (hr : RP w B h p) (hB : B ≤ w.heap.size) (hl : FewLoc p) (hlen : p.funcs.length ≤ 9223372036854775807) (f : Nat) (hf : f < p.funcs.length) :
    Calls Try.prog 102 #[.agg #[.slice h.fA p.funcs.length h.fc, .int .i64 p.mutexes, .slice h.cA p.conds.length h.cc, .slice h.sA p.semas.length h.sc, .slice h.hA p.chans.length h.hc, .slice h.xA p.choices.length h.xc, .int .i64 p.threads], .int .i64 (f : Int)] w
      fun e w' => ∃ A c, e = .returned (.tuple #[.agg #[.int .i64 (f : Int), .int .i64 0, .slice A (funcAt p f).locals.toNat c], .bool true]) ∧ w'.ownsRow w.heap.size 3 1 (.slice A (funcAt p f).locals.toNat c) (funcAt p f).locals.toNat (IS (newFr p f).locals) ∧ Below w.heap.size w w' := by
  obtain ⟨i0, hi0, hz0, hz1, hz2⟩ := info_parts info_int
  obtain ⟨fA, fc, cA, cc, sA, sc, hA, hc, xA, xc⟩ := h
  have hrf : RF w B fA p.funcs.length fc p.funcs := hr.funcs
  obtain ⟨ad, t, rfl, hab, hi, c0, c1, hrc⟩ := hrf.at_ hf
  have hfa : funcAt p f = t.f := by unfold funcAt; rw [show ((f : Int)).toNat = f by omega, List.getD_eq_getElem?_getD, hi]; rfl
  obtain ⟨m, hm⟩ : ∃ m : Nat, t.f.locals = (m : Int) := Int.eq_ofNat_of_zero_le (hl _ (List.mem_of_getElem? hi)).1
  have hm8 : m ≤ 8 := by have := (hl _ (List.mem_of_getElem? hi)).2; omega
  have hloc : (funcAt p f).locals.toNat = m := by rw [hfa, hm]; omega
  have hnew : (newFr p f).locals = List.replicate m 0 := by unfold newFr; rw [hloc]
  rw [hloc, hnew]
  rw [hm] at c0
  have hk : (f : Int) < (p.funcs.length : Int) := by omega
  have d0 : (((w.alloc (.cells #[.slice (some ad) p.funcs.length fc, .int .i64 p.mutexes, .slice cA p.conds.length cc, .slice sA p.semas.length sc, .slice hA p.chans.length hc, .slice xA p.choices.length xc, .int .i64 p.threads] 26)).alloc (.cells #[.int .i64 0, .int .i64 0, .slice none 0 0] 67))).cell? (ad.add (f * 2)) = some (.int .i64 (m : Int)) :=
    ((((Below.refl w.heap.size w).alloc (Nat.le_refl _) _).alloc (by simp) _).cell (by rw [block_of_add]; omega)).trans c0
  have hmk := make_ints m (by omega)
  clear hr hrf hi c0 c1 hrc hfa hm hloc hnew hl
  go_enter Try.func102, Try.ntmps102
  go_wp2_with fail
  obtain ⟨W2, hW2⟩ : ∃ W, W = (w.alloc (.cells #[.slice (some ad) p.funcs.length fc, .int .i64 p.mutexes, .slice cA p.conds.length cc, .slice sA p.semas.length sc, .slice hA p.chans.length hc, .slice xA p.choices.length xc, .int .i64 p.threads] 26)).alloc (.cells #[.int .i64 (f : Int), .int .i64 0, .slice (some ⟨w.heap.size + 1 + 1, 0, none⟩) m m] 67) := ⟨_, rfl⟩
  have hz : W2.heap.size = w.heap.size + 1 + 1 := by rw [hW2]; simp
  have hblk : Blk W2 (w.heap.size + 1) 67 #[.int .i64 (f : Int), .int .i64 0, .slice (some ⟨w.heap.size + 1 + 1, 0, none⟩) m m] := by rw [hW2]; simpa using Blk.new (w.alloc (.cells #[.slice (some ad) p.funcs.length fc, .int .i64 p.mutexes, .slice cA p.conds.length cc, .slice sA p.semas.length sc, .slice hA p.chans.length hc, .slice xA p.choices.length xc, .int .i64 p.threads] 26)) 67 #[.int .i64 (f : Int), .int .i64 0, .slice (some ⟨w.heap.size + 1 + 1, 0, none⟩) m m]
  have hbel : Below w.heap.size w W2 := by rw [hW2]; exact ((Below.refl w.heap.size w).alloc (Nat.le_refl _) _).alloc (by simp) _
  have hown := own_made W2 m (by omega)
  rw [← hW2]
  rw [hz] at hown
  refine bodyPost_ret (v := .tuple #[.agg #[.int .i64 (f : Int), .int .i64 0, .slice (some ⟨w.heap.size + 1 + 1, 0, none⟩) m m], .bool true]) (results_cell_slot rfl _ _ (w.heap.size + 1) 67 _ (0, 0) _ _ rfl rfl (hblk.alloc _) Try.underlying67 rfl (by kernel_rfl)) rfl ?_
  exact ⟨_, _, rfl, own_mono hown (by omega), hbel.alloc (by omega) _⟩

/-- One frame in a row of its own. -/
theorem frame_row (w : World) (f pc : Int) (l : List Int) (A : Option Addr) (c : Nat) (n : Nat) (hn : l.length = n) : FrS [⟨⟨f, pc, l⟩, A, c⟩] = [.int .i64 f, .int .i64 pc, .slice A n c] := by
  subst hn; simp [FrS, flat3, TFr.cells]

end Go.Proofs.Ytkciedcfphhenaa
