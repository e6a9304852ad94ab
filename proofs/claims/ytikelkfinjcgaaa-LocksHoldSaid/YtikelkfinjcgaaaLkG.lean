
/-
  States of one mutex, or one semaphore, through the statements of layer 9.
-/
import Derived.Test.YtikelkfinjcgaaaLkL
set_option linter.unusedVariables false
set_option linter.unusedSimpArgs false
namespace Go.Proofs.Ytikelkfinjcgaaa
open Go.RowKit Plain

namespace Plain
def seqV (a n : Nat) : List Int := (List.range n).map fun i => ((a + i : Nat) : Int)
theorem seqV_snoc (a n : Nat) : seqV a n ++ [((a + n : Nat) : Int)] = seqV a (n + 1) := by simp [seqV, List.range_succ]
theorem seqV_cons (a n : Nat) : seqV a (n + 1) = (a : Int) :: seqV (a + 1) n := by
  simp only [seqV, List.range_succ_eq_map, List.map_cons, List.map_map]
  congr 1
  refine List.map_congr_left fun i _ => ?_
  simp only [Function.comp]
  congr 1
  omega
theorem seqV_len (a n : Nat) : (seqV a n).length = n := by simp [seqV]
theorem seqV_mem {a n : Nat} {y : Int} (h : y ∈ seqV a n) : (a : Int) ≤ y ∧ y < ((a + n : Nat) : Int) := by
  simp [seqV] at h
  obtain ⟨i, h1, rfl⟩ := h
  omega
theorem seqV_thr {a n : Nat} (h : a + n ≤ 100000) : ∀ y ∈ seqV a n, 0 ≤ y ∧ y ≤ 1000000 := fun y hy => by
  have := seqV_mem hy
  omega
theorem seqV_at {a n i : Nat} (h : i < n) : (seqV a n)[i]? = some ((a + i : Nat) : Int) := by simp [seqV, h]
theorem lock_S1 (x : Int) (l : List Int) (W : List (List Int)) (t : Int) : lockV (S1 x l W) 0 t = if x = -1 then (S1 t l W, true) else (S1 x (l ++ [t]) W, false) := by
  unfold lockV
  simp [gn, gl]
theorem unlock_S1 (x : Int) (l : List Int) (W : List (List Int)) (t : Int) : unlockV (S1 x l W) 0 t = if x = t then (S1 (hd1 l) l.tail W, hd1 l, 0) else (S1 x l W, -1, 10) := by
  unfold unlockV
  simp [gn, gl, handV]
theorem wait_S1 (x : Int) (l : List Int) (r : List Int) (t : Int) : waitV (S1 x l [r]) 0 0 t = if x = t then (S1 (hd1 l) l.tail [r ++ [t]], hd1 l, 0) else (S1 x l [r], -1, 10) := by
  unfold waitV
  simp [gn, gl, handV]
theorem signal_S1 (x : Int) (l : List Int) (y : Int) (r : List Int) : signalV (S1 x l [y :: r]) 0 0 = if x = -1 then (S1 y l [r], y, true) else (S1 x (l ++ [y]) [r], y, false) := by
  unfold signalV
  simp [gl, lock_S1]
  split <;> rfl
theorem signal_S1_nil (x : Int) (l : List Int) : signalV (S1 x l [[]]) 0 0 = (S1 x l [[]], -1, false) := rfl
theorem down_SC (c : Int) (d : List Int) (t : Int) : downV (SC c d) 0 t = if c ≤ 0 then (SC c (d ++ [t]), false) else (SC (c - 1) d, true) := by
  unfold downV
  simp [gn, gl]
theorem up_SC_nil (c : Int) : upV (SC c []) 0 = (SC (c + 1) [], -1) := rfl
theorem up_SC_cons (c : Int) (x : Int) (d : List Int) : upV (SC c (x :: d)) 0 = (SC c d, x) := rfl
/-- LocksRows: behind t locks; behind t unlocks of n. -/
def st1 : Nat → Lk
  | 0 => S1 (-1) [] []
  | k + 1 => S1 0 (seqV 1 k) []
def st2 (n t : Nat) : Lk := if t = n then S1 (-1) [] [] else S1 t (seqV (t + 1) (n - 1 - t)) []
theorem st1_step (t : Nat) : lockV (st1 t) 0 (t : Int) = (st1 (t + 1), decide (t = 0)) := by
  cases t with
  | zero => rfl
  | succ k =>
    simp only [st1]
    rw [lock_S1, if_neg (by omega), ← seqV_snoc]
    rw [show ((1 + k : Nat) : Int) = ((k + 1 : Nat) : Int) by omega]
    simp
theorem st1_ok (t : Nat) (h : t ≤ 50) : LkOk 100 (st1 t) := by
  cases t with
  | zero => exact s1_ok (by omega) (by simp) (fun _ => rfl) (fun r hr => by simp at hr) (by simp [tot]) (by omega) (by simp)
  | succ k => exact s1_ok (by omega) (seqV_thr (by omega)) (fun h => by omega) (fun r hr => by simp at hr) (by simp [tot, seqV_len]; omega) (by omega) (by simp)
theorem st1_len (t : Nat) : (st1 t).own.length = 1 ∧ (st1 t).lq.length = 1 ∧ (st1 t).wq.length = 0 ∧ (st1 t).dq.length = 0 := by cases t <;> exact ⟨rfl, rfl, rfl, rfl⟩
theorem st2_ok (n t : Nat) (h : n ≤ 50) (ht : t ≤ n) : LkOk 100 (st2 n t) := by
  unfold st2
  split
  · exact s1_ok (by omega) (by simp) (fun _ => rfl) (fun r hr => by simp at hr) (by simp [tot]) (by omega) (by simp)
  · exact s1_ok (by omega) (seqV_thr (by omega)) (fun h => by omega) (fun r hr => by simp at hr) (by simp [tot, seqV_len]; omega) (by omega) (by simp)
theorem st2_len (n t : Nat) : (st2 n t).own.length = 1 ∧ (st2 n t).lq.length = 1 ∧ (st2 n t).wq.length = 0 ∧ (st2 n t).dq.length = 0 := by unfold st2; split <;> exact ⟨rfl, rfl, rfl, rfl⟩
theorem st12 (n : Nat) : st1 n = st2 n 0 := by
  unfold st2
  cases n with
  | zero => rfl
  | succ k =>
    rw [if_neg (by omega)]
    simp [st1]
theorem st2_no (n t : Nat) (h : t < n) : unlockV (st2 n t) 0 ((t : Int) + 1) = (st2 n t, -1, 10) := by
  unfold st2
  rw [if_neg (by omega), unlock_S1, if_neg (by omega)]
theorem st2_step (n t : Nat) (h : t < n) : unlockV (st2 n t) 0 (t : Int) = (st2 n (t + 1), (if t + 1 = n then -1 else (t : Int) + 1), 0) := by
  unfold st2
  rw [if_neg (by omega), unlock_S1, if_pos rfl]
  by_cases h1 : t + 1 = n
  · rw [if_pos h1, if_pos h1, show n - 1 - t = 0 by omega]
    rfl
  · rw [if_neg h1, if_neg h1]
    obtain ⟨m, hm⟩ : ∃ m, n - 1 - t = m + 1 := ⟨n - 1 - t - 1, by omega⟩
    rw [hm, seqV_cons, show n - 1 - (t + 1) = m by omega]
    rfl
theorem st2_free (n : Nat) : freeV (st2 n n) = true := by
  unfold st2
  rw [if_pos rfl]
  rfl
end Plain
/-- A call's world is the first one's, but for what is new. -/
theorem LkT.bel {w wr w' : World} {h : LkH} {s s' : Lk} (H : LkM wr w.heap.size h s) (hT : LkT wr w' w.heap.size h s') (hb : Below w.heap.size w wr) : Below w.heap.size w w' :=
  hb.trans (hT.2.below hb.size (fun i hi => (H.wlt hi).1))
theorem LkM.all10 {w : World} {B : Nat} {z : LkQ} {g p q n : Nat} {s : Lk} (H : LkM w B (mkH z g p q n) s) :
    w.cell? ⟨g, 0, none⟩ = some (.int .i64 0) ∧ w.cell? ⟨g, 1, none⟩ = some (.slice none 0 0) ∧ w.cell? ⟨g, 2, none⟩ = some (.slice z.A0 p z.d0) ∧ w.cell? ⟨g, 3, none⟩ = some (.slice z.A1 n z.d1) ∧ w.cell? ⟨g, 4, none⟩ = some (.slice none 0 0) ∧ w.cell? ⟨g, 5, none⟩ = some (.slice z.A2 p z.d2) ∧ w.cell? ⟨g, 6, none⟩ = some (.slice z.A3 q z.d3) ∧ w.cell? ⟨g, 7, none⟩ = some (.slice z.A4 n z.d4) ∧ w.cell? ⟨g, 8, none⟩ = some (.slice none 0 0) ∧ w.cell? ⟨g, 9, none⟩ = some (.slice none 0 0) :=
  ⟨(H.box.cell 0).trans rfl, (H.box.cell 1).trans rfl, (H.box.cell 2).trans rfl, (H.box.cell 3).trans rfl, (H.box.cell 4).trans rfl, (H.box.cell 5).trans rfl, (H.box.cell 6).trans rfl, (H.box.cell 7).trans rfl, (H.box.cell 8).trans rfl, (H.box.cell 9).trans rfl⟩
/-- A state that stands, and what it has come of. -/
structure LkS (w wr : World) (h : LkH) (s : Lk) : Prop where
  m : LkM wr w.heap.size h s
  b : Below w.heap.size w wr
theorem LkS.of {w wr w' : World} {h : LkH} {s s' : Lk} (H : LkS w wr h s) (hT : LkT wr w' w.heap.size h s') : LkS w w' h s' := ⟨hT.1, hT.bel H.m H.b⟩
theorem LkS.later {w wr w' : World} {h : LkH} {s : Lk} (H : LkS w wr h s) (hb : Below wr.heap.size wr w') : LkS w w' h s := ⟨H.m.below hb (Nat.le_refl _), H.b.trans (hb.mono H.b.size)⟩
end Go.Proofs.Ytikelkfinjcgaaa
