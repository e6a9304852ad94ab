
/-
  A pool: NewPool, is, Workers, Give, Take, Steal, Pull, Own, Len.
-/
import Derived.Test.YtipflplilkecjaaDqX
import Derived.Test.YtipflplilkecjaaDqW
set_option linter.unusedVariables false
set_option linter.unusedSimpArgs false
namespace Go.Proofs.Ytipflplilkecjaa
open Go.RowKit Plain

/-- A pool in memory: its box g, its deques in d and s, its queue's blocks in Dq. -/
structure Pl (w : World) (g d s room : Nat) (Dq : Nat → Prop) (L : List (List Int)) (Q : List Int) : Prop where
  qu : ∃ rs, Qu w g (.slice (some ⟨d, 0, none⟩) L.length L.length) Dq rs ∧ contQ rs = Q
  dq : Dqs w d s room L
  nd : ¬ Dq d
  ns : ¬ Dq s
  lt : ∀ i, Dq i → i < w.heap.size
/-- Its blocks. -/
def PlD (d s : Nat) (Dq : Nat → Prop) (i : Nat) : Prop := Dq i ∨ i = d ∨ i = s
section
variable {w w' : World} {g d s room : Nat} {Dq : Nat → Prop} {L : List (List Int)} {Q : List Int}
theorem Pl.fr {S : Nat → Prop} (h : Pl w g d s room Dq L Q) (hf : Fr S w w') (hS : ∀ i, S i → ¬ PlD d s Dq i) : Pl w' g d s room Dq L Q := by
  obtain ⟨⟨rs, h1, h2⟩, h3, h4, h5, h6⟩ := h
  exact ⟨⟨rs, h1.fr hf (fun i hi e => hS i hi (.inl e)), h2⟩, h3.fr hf (fun e => hS _ e (.inr (.inl rfl))) (fun e => hS _ e (.inr (.inr rfl))), h4, h5, fun i hi => Nat.lt_of_lt_of_le (h6 i hi) hf.size⟩
theorem Pl.bound (h : Pl w g d s room Dq L Q) : ∀ i, PlD d s Dq i → i < w.heap.size := fun i hi => by
  rcases hi with hi | rfl | rfl
  · exact h.lt i hi
  · exact h.dq.lt.1
  · exact h.dq.lt.2
theorem Pl.below {B : Nat} (h : Pl w g d s room Dq L Q) (hb : Below B w w') (hB : w.heap.size ≤ B) : Pl w' g d s room Dq L Q :=
  h.fr (Fr.of_below hb) (fun i hi e => by have := h.bound i e; omega)
theorem Pl.drewN (h : Pl w g d s room Dq L Q) (n : Nat) : Pl (w.drewN n) g d s room Dq L Q := h.fr (S := fun _ => False) ((Fr.refl _ w).drewN n) (fun _ h => h.elim)
/-- A deque has turned. -/
theorem Pl.deq (h : Pl w g d s room Dq L Q) (hf : Fr (fun k => k = d ∨ k = s) w w') {L' : List (List Int)} (hd : Dqs w' d s room L') (hl : L'.length = L.length) : Pl w' g d s room Dq L' Q ∧ Fr (PlD d s Dq) w w' := by
  obtain ⟨⟨rs, h1, h2⟩, h3, h4, h5, h6⟩ := h
  refine ⟨⟨⟨rs, ?_, h2⟩, hd, h4, h5, fun i hi => Nat.lt_of_lt_of_le (h6 i hi) hf.size⟩, hf.mono (fun i _ e => .inr e)⟩
  rw [hl]
  exact h1.fr hf (fun i hi e => by rcases hi with rfl | rfl; exact h4 e; exact h5 e)
/-- The queue has turned. -/
theorem Pl.que (h : Pl w g d s room Dq L Q) {Dq' : Nat → Prop} (hf : Fr Dq w w') {rs' : List QRec} (hq : Qu w' g (.slice (some ⟨d, 0, none⟩) L.length L.length) Dq' rs') (hD : ∀ i, Dq' i → Dq i ∨ (w.heap.size ≤ i ∧ i < w'.heap.size)) : Pl w' g d s room Dq' L (contQ rs') ∧ Fr (PlD d s Dq) w w' := by
  obtain ⟨⟨rs, h1, h2⟩, h3, h4, h5, h6⟩ := h
  have hz := hf.size
  have hlt := h3.lt
  refine ⟨⟨⟨rs', hq, rfl⟩, h3.fr hf h4 h5, fun e => ?_, fun e => ?_, fun i hi => ?_⟩, hf.mono (fun i _ e => .inl e)⟩
  · rcases hD _ e with e | e
    · exact h4 e
    · omega
  · rcases hD _ e with e | e
    · exact h5 e
    · omega
  · rcases hD _ hi with e | e
    · exact Nat.lt_of_lt_of_le (h6 i e) hz
    · exact e.2
theorem Pl.cells (h : Pl w g d s room Dq L Q) : w.cell? ⟨g, 1, none⟩ = some (.slice (some ⟨d, 0, none⟩) L.length L.length) := by
  obtain ⟨⟨rs, h1, h2⟩, _⟩ := h
  obtain ⟨A, c, a1, _⟩ := h1.box
  rw [a1.cell]
  rfl
theorem Pl.row (h : Pl w g d s room Dq L Q) : (∀ (i : Nat) (l : List Int), L[i]? = some l → l.length ≤ room) ∧ 1 ≤ room ∧ room ≤ 8 ∧ L.length ≤ 64 := ⟨h.dq.len, h.dq.r1, h.dq.r8, h.dq.cnt⟩
end

set_option maxHeartbeats 1000000 in
theorem newP (wk rm : Int) (n room : Nat) (w : World) (hn : clampW wk = n) (hr : clampD rm = room) (hb : -9223372036854775808 ≤ rm) (hb2 : rm ≤ 9223372036854775807) (hw : -9223372036854775808 ≤ wk) (hw2 : wk ≤ 9223372036854775807) :
    Calls Try.prog 8 #[.int .i64 wk, .int .i64 rm] w fun e w' => ∃ g d s Dq, e = .returned (.pointer (some ⟨g, 0, none⟩)) ∧ Pl w' g d s room Dq (List.replicate n []) [] ∧ (∀ i, PlD d s Dq i → w.heap.size ≤ i) ∧ Below w.heap.size w w' := by
  have hcl := clampW_le wk
  rw [hn] at hcl
  have hmax : ∀ W, (Builtin.max_ #[3, 3] 3 #[.int .i64 wk, .int .i64 1]).run Try.prog W = .ok (.int .i64 (max wk 1)) W := by
    intro W
    rw [run_max_int2]
    simp only [Int.max_def]
    split <;> split <;> first | rfl | (congr 2; omega)
  have hmin : ∀ W, (Builtin.min_ #[3, 3] 3 #[.int .i64 (max wk 1), .int .i64 64]).run Try.prog W = .ok (.int .i64 (n : Int)) W := by
    intro W
    rw [run_min_int2, ← hn]
    unfold clampW
    simp only [Int.max_def, Int.min_def]
    split <;> split <;> first | rfl | (congr 2; omega)
  have hq := cutD n room rm w hcl.1 hcl.2 hr hb hb2
  have HQ := Lib.hid hq
  clear hq
  go_enter Try.func8, Try.ntmps8
  go_wp2_with fail
  refine HQ.out.mono ?_
  rintro e w1 ⟨d, s, rfl, h1, h2, h3, h4⟩
  have hz := h4.size
  have hlt := h1.lt
  go_wp2_with fail
  go_ret
  refine ⟨w1.heap.size, d, s, fun i => i = w1.heap.size, rfl, ⟨⟨[], ⟨⟨none, 0, ?_, .inl ⟨rfl, rfl, rfl⟩⟩, by simp, by simp, by simp, rfl⟩, rfl⟩, h1.alloc _, by omega, by omega, fun i hi => by subst hi; simp⟩, fun i hi => by rcases hi with rfl | rfl | rfl <;> omega, h4.alloc hz _⟩
  have := Blk.new w1 59 #[.slice none 0 0, .slice (some ⟨d, 0, none⟩) n n]
  simpa using this

section
variable (g d s room : Nat) (Dq : Nat → Prop) (L : List (List Int)) (Q : List Int) (w : World) (h : Pl w g d s room Dq L Q)
include h
set_option maxHeartbeats 1000000 in
theorem isP_yes (i : Nat) (hi : i < L.length) : Calls Try.prog 42 #[.pointer (some ⟨g, 0, none⟩), .int .i64 (i : Int)] w fun e w' => e = .returned (.bool true) ∧ w = w' := by
  have c1 := h.cells
  have h1 : (i : Int) < (L.length : Int) := by omega
  have h0 : (i : Int) ≥ 0 := by omega
  generalize L.length = n at *
  clear h
  go_enter Try.func42, Try.ntmps42
  go_wp2_with fail
  go_ret
  exact ⟨rfl, rfl⟩
set_option maxHeartbeats 1000000 in
theorem isP_no (i : Int) (hi : i < 0 ∨ (L.length : Int) ≤ i) : Calls Try.prog 42 #[.pointer (some ⟨g, 0, none⟩), .int .i64 i] w fun e w' => e = .returned (.bool false) ∧ w = w' := by
  have c1 := h.cells
  generalize L.length = n at *
  clear h
  by_cases h0 : i < 0
  · have h1 : ¬ i ≥ 0 := by omega
    clear hi
    go_enter Try.func42, Try.ntmps42
    go_wp2_with fail
    go_ret
    exact ⟨rfl, rfl⟩
  · have h1 : i ≥ 0 := by omega
    have h2 : ¬ i < (n : Int) := by omega
    clear hi
    go_enter Try.func42, Try.ntmps42
    go_wp2_with fail
    go_ret
    exact ⟨rfl, rfl⟩
set_option maxHeartbeats 1000000 in
theorem workersP : Calls Try.prog 31 #[.pointer (some ⟨g, 0, none⟩)] w fun e w' => e = .returned (.int .i64 (L.length : Int)) ∧ w = w' := by
  have c1 := h.cells
  generalize L.length = n at *
  clear h
  go_enter Try.func31, Try.ntmps31
  go_wp2_with fail
  go_ret
  exact ⟨rfl, rfl⟩
end

namespace Plain
/-- What Give comes to: the deques, the queue. -/
def giveP (room : Nat) (L : List (List Int)) (Q : List Int) (i : Int) (x : Int) : (List (List Int) × List Int) × Int :=
  if 0 ≤ i ∧ i < (L.length : Int) then
    if ((L[i.toNat]?).getD []).length < room then ((L.set i.toNat ((L[i.toNat]?).getD [] ++ [x]), Q), 0) else ((L, Q ++ [x]), 0)
  else ((L, Q), 5)
def takeP (L : List (List Int)) (Q : List Int) (i : Int) : (List (List Int) × List Int) × Int × Int :=
  if 0 ≤ i ∧ i < (L.length : Int) then
    match ((L[i.toNat]?).getD []).getLast? with
    | some x => ((L.set i.toNat ((L[i.toNat]?).getD []).dropLast, Q), x, 0)
    | none => match Q with
      | [] => ((L, []), 0, 7)
      | x :: Q' => ((L, Q'), x, 0)
  else ((L, Q), 0, 5)
def stealP (L : List (List Int)) (Q : List Int) (i j : Int) : (List (List Int) × List Int) × Int × Int :=
  if (0 ≤ i ∧ i < (L.length : Int)) ∧ (0 ≤ j ∧ j < (L.length : Int)) then
    if i = j then ((L, Q), 0, 1) else
    match (L[j.toNat]?).getD [] with
    | [] => ((L, Q), 0, 7)
    | x :: l => ((L.set j.toNat l, Q), x, 0)
  else ((L, Q), 0, 5)
end Plain
/-- What a call that turns a pool leaves. -/
def PlTurn (g d s room : Nat) (Dq : Nat → Prop) (w w' : World) (r : List (List Int) × List Int) : Prop :=
  ∃ Dq', Pl w' g d s room Dq' r.1 r.2 ∧ Fr (PlD d s Dq) w w' ∧ (∀ i, Dq' i → Dq i ∨ (w.heap.size ≤ i ∧ i < w'.heap.size)) ∧ r.1.length = r.1.length

section
variable (g d s room : Nat) (Dq : Nat → Prop) (L : List (List Int)) (Q : List Int) (w : World) (h : Pl w g d s room Dq L Q)
include h
theorem PlTurn.same (n : Nat) : PlTurn g d s room Dq w (w.drewN n) (L, Q) := ⟨Dq, h.drewN n, (Fr.refl _ w).drewN n, fun _ h => .inl h, rfl⟩
set_option maxHeartbeats 1000000 in
theorem giveP_any (i x : Int) (hN : Q.length ≤ 999999) : Calls Try.prog 23 #[.pointer (some ⟨g, 0, none⟩), .int .i64 i, .int .i64 x] w fun e w' => e = .returned (.int .i64 (giveP room L Q i x).2) ∧ PlTurn g d s room Dq w w' (giveP room L Q i x).1 := by
  have H := Lib.hid h
  unfold giveP
  by_cases hi : 0 ≤ i ∧ i < (L.length : Int)
  · rw [if_pos hi]
    obtain ⟨k, rfl⟩ : ∃ k : Nat, i = (k : Int) := ⟨i.toNat, by omega⟩
    have hk : k < L.length := by omega
    have hx : L[k]? = some L[k] := List.getElem?_eq_getElem hk
    generalize L[k] = l at *
    simp only [Int.toNat_natCast, hx, Option.getD_some]
    have his := isP_yes g d s room Dq L Q w h k hk
    have c1 := h.cells
    have hk0 : (0 : Int) ≤ (k : Int) := by omega
    have hk1 : (k : Int) < (L.length : Int) := by omega
    have HIS := Lib.hid his
    by_cases hl : l.length < room
    · rw [if_pos hl]
      have hq := push_dq_yes d s room L k l w x h.dq hx hl
      have HQ := Lib.hid hq
      clear hq his h hx hi hk hN
      generalize hLn : L.length = n at *
      have HLN := Lib.hid hLn
      clear hLn
      go_enter Try.func23, Try.ntmps23
      go_wp2_with fail
      refine HIS.out.mono ?_
      rintro e w' ⟨rfl, rfl⟩
      go_wp2_with fail
      refine HQ.out.mono ?_
      rintro e w' ⟨rfl, hd, hf⟩
      go_wp2_with fail
      go_ret
      obtain ⟨q1, q2⟩ := H.out.deq hf hd (by simp)
      exact ⟨rfl, Dq, q1, q2, fun _ h => .inl h, rfl⟩
    · rw [if_neg hl]
      have hq := push_dq_no d s room L k l w x h.dq hx (by omega)
      obtain ⟨rs, hr1, hr2⟩ := h.qu
      have hput := fun n => put_q g _ Dq rs (w.drewN n) x (hr1.drewN n) (by rw [hr2]; exact hN)
      have HQ := Lib.hid hq; have HP := Lib.hid hput; have HR := Lib.hid hr2
      clear hq his h hx hi hk hN hput hr1 hr2
      generalize hLn : L.length = n at *
      have HLN := Lib.hid hLn
      clear hLn
      go_enter Try.func23, Try.ntmps23
      go_wp2_with fail
      refine HIS.out.mono ?_
      rintro e w' ⟨rfl, rfl⟩
      go_wp2_with fail
      refine HQ.out.mono ?_
      rintro e w' ⟨rfl, m, rfl⟩
      go_wp2_with fail
      refine (HP.out m).mono ?_
      rintro e w' ⟨rfl, rs', q1, q2, q3⟩
      go_wp2_with fail
      go_ret
      rw [← HLN.out] at q1
      obtain ⟨p1, p2⟩ := (H.out.drewN m).que q3 q1 (fun i hi => hi)
      rw [q2, HR.out] at p1
      exact ⟨rfl, _, p1, p2.drew_in, fun i hi => hi, rfl⟩
  · rw [if_neg hi]
    have his := isP_no g d s room Dq L Q w h i (by omega)
    have HIS := Lib.hid his
    clear his h hi hN
    go_enter Try.func23, Try.ntmps23
    go_wp2_with fail
    refine HIS.out.mono ?_
    rintro e w' ⟨rfl, rfl⟩
    go_wp2_with fail
    go_ret
    exact ⟨rfl, PlTurn.same g d s room Dq L Q w H.out 0⟩

set_option maxHeartbeats 1000000 in
theorem takeP_any (i : Int) (hN : Q.length ≤ 999999) : Calls Try.prog 24 #[.pointer (some ⟨g, 0, none⟩), .int .i64 i] w fun e w' => e = .returned (.tuple #[.int .i64 (takeP L Q i).2.1, .int .i64 (takeP L Q i).2.2]) ∧ PlTurn g d s room Dq w w' (takeP L Q i).1 := by
  have H := Lib.hid h
  unfold takeP
  by_cases hi : 0 ≤ i ∧ i < (L.length : Int)
  · rw [if_pos hi]
    obtain ⟨k, rfl⟩ : ∃ k : Nat, i = (k : Int) := ⟨i.toNat, by omega⟩
    have hk : k < L.length := by omega
    have hx : L[k]? = some L[k] := List.getElem?_eq_getElem hk
    generalize L[k] = l at *
    simp only [Int.toNat_natCast, hx, Option.getD_some]
    have his := isP_yes g d s room Dq L Q w h k hk
    have c1 := h.cells
    have hk0 : (0 : Int) ≤ (k : Int) := by omega
    have hk1 : (k : Int) < (L.length : Int) := by omega
    have HIS := Lib.hid his
    by_cases hl : l = []
    · subst hl
      simp only [List.getLast?_nil]
      have hq := pop_dq_no d s room L k w h.dq hx
      obtain ⟨rs, hr1, hr2⟩ := h.qu
      have HQ := Lib.hid hq
      rcases Q with _ | ⟨x, Q'⟩
      · have hnx := next_q_no g _ Dq rs w hr1 hr2
        have HN := Lib.hid hnx
        clear hq his h hx hi hk hN hnx hr1 hr2
        generalize hLn : L.length = n at *
        have HLN := Lib.hid hLn
        clear hLn
        go_enter Try.func24, Try.ntmps24
        go_wp2_with fail
        refine HIS.out.mono ?_
        rintro e w' ⟨rfl, rfl⟩
        go_wp2_with fail
        refine HQ.out.mono ?_
        rintro e w' ⟨rfl, rfl⟩
        go_wp2_with fail
        refine HN.out.mono ?_
        rintro e w' ⟨rfl, m, rfl⟩
        go_wp2_with fail
        go_ret2
        exact ⟨rfl, PlTurn.same g d s room Dq L [] w H.out m⟩
      · have hnx := next_q_yes g _ Dq rs w x Q' hr1 hr2 (by rw [hr2]; omega)
        have HN := Lib.hid hnx
        clear hq his h hx hi hk hN hnx hr1 hr2
        generalize hLn : L.length = n at *
        have HLN := Lib.hid hLn
        clear hLn
        go_enter Try.func24, Try.ntmps24
        go_wp2_with fail
        refine HIS.out.mono ?_
        rintro e w' ⟨rfl, rfl⟩
        go_wp2_with fail
        refine HQ.out.mono ?_
        rintro e w' ⟨rfl, rfl⟩
        go_wp2_with fail
        refine HN.out.mono ?_
        rintro e w' ⟨rfl, rs', q1, q2, q3⟩
        go_wp2_with fail
        go_ret2
        rw [← HLN.out] at q1
        obtain ⟨p1, p2⟩ := H.out.que q3 q1 (fun i hi => .inl hi)
        rw [q2] at p1
        exact ⟨rfl, _, p1, p2, fun i hi => .inl hi, rfl⟩
    · obtain ⟨l0, x, rfl⟩ := snoc_of hl
      simp only [List.getLast?_append, List.getLast?_singleton, Option.some_or, List.dropLast_concat]
      have hq := pop_dq_yes d s room L k l0 w x h.dq hx
      have HQ := Lib.hid hq
      clear hq his h hx hi hk hN
      generalize hLn : L.length = n at *
      have HLN := Lib.hid hLn
      clear hLn
      go_enter Try.func24, Try.ntmps24
      go_wp2_with fail
      refine HIS.out.mono ?_
      rintro e w' ⟨rfl, rfl⟩
      go_wp2_with fail
      refine HQ.out.mono ?_
      rintro e w' ⟨rfl, hd, hf⟩
      go_wp2_with fail
      go_ret2
      obtain ⟨q1, q2⟩ := H.out.deq hf hd (by simp)
      exact ⟨rfl, Dq, q1, q2, fun _ h => .inl h, rfl⟩
  · rw [if_neg hi]
    have his := isP_no g d s room Dq L Q w h i (by omega)
    have HIS := Lib.hid his
    clear his h hi hN
    go_enter Try.func24, Try.ntmps24
    go_wp2_with fail
    refine HIS.out.mono ?_
    rintro e w' ⟨rfl, rfl⟩
    go_wp2_with fail
    go_ret2
    exact ⟨rfl, PlTurn.same g d s room Dq L Q w H.out 0⟩

set_option maxHeartbeats 1000000 in
theorem stealP_any (i j : Int) : Calls Try.prog 25 #[.pointer (some ⟨g, 0, none⟩), .int .i64 i, .int .i64 j] w fun e w' => e = .returned (.tuple #[.int .i64 (stealP L Q i j).2.1, .int .i64 (stealP L Q i j).2.2]) ∧ PlTurn g d s room Dq w w' (stealP L Q i j).1 := by
  have H := Lib.hid h
  unfold stealP
  by_cases hi : 0 ≤ i ∧ i < (L.length : Int)
  · obtain ⟨i0, rfl⟩ : ∃ k : Nat, i = (k : Int) := ⟨i.toNat, by omega⟩
    have hi0 := isP_yes g d s room Dq L Q w h i0 (by omega)
    have HI0 := Lib.hid hi0
    clear hi0
    by_cases hj : 0 ≤ j ∧ j < (L.length : Int)
    · rw [if_pos ⟨hi, hj⟩]
      by_cases hij : (i0 : Int) = j
      · rw [if_pos hij]
        subst hij
        clear h hi hj
        go_enter Try.func25, Try.ntmps25
        go_wp2_with fail
        refine HI0.out.mono ?_
        rintro e w' ⟨rfl, rfl⟩
        go_wp2_with fail
        refine HI0.out.mono ?_
        rintro e w' ⟨rfl, rfl⟩
        go_wp2_with fail
        go_ret2
        exact ⟨rfl, PlTurn.same g d s room Dq L Q w H.out 0⟩
      · rw [if_neg hij]
        obtain ⟨k, rfl⟩ : ∃ k : Nat, j = (k : Int) := ⟨j.toNat, by omega⟩
        have hk : k < L.length := by omega
        have hx : L[k]? = some L[k] := List.getElem?_eq_getElem hk
        generalize L[k] = l at *
        simp only [Int.toNat_natCast, hx, Option.getD_some]
        have his := isP_yes g d s room Dq L Q w h k hk
        have c1 := h.cells
        have hk0 : (0 : Int) ≤ (k : Int) := by omega
        have hk1 : (k : Int) < (L.length : Int) := by omega
        have HIS := Lib.hid his
        by_cases hl : l = []
        · subst hl
          have hq := steal_dq_no d s room L k w h.dq hx
          have HQ := Lib.hid hq
          clear hq his h hx hi hj hk
          generalize hLn : L.length = n at *
          have HLN := Lib.hid hLn
          clear hLn
          go_enter Try.func25, Try.ntmps25
          go_wp2_with fail
          refine HI0.out.mono ?_
          rintro e w' ⟨rfl, rfl⟩
          go_wp2_with fail
          refine HIS.out.mono ?_
          rintro e w' ⟨rfl, rfl⟩
          go_wp2_with fail
          refine HQ.out.mono ?_
          rintro e w' ⟨rfl, rfl⟩
          go_wp2_with fail
          go_ret2
          exact ⟨rfl, PlTurn.same g d s room Dq L Q w H.out 0⟩
        · obtain ⟨x, l0, rfl⟩ := List.exists_cons_of_ne_nil hl
          have hq := steal_dq_yes d s room L k l0 w x h.dq hx
          have HQ := Lib.hid hq
          clear hq his h hx hi hj hk hl
          generalize hLn : L.length = n at *
          have HLN := Lib.hid hLn
          clear hLn
          go_enter Try.func25, Try.ntmps25
          go_wp2_with fail
          refine HI0.out.mono ?_
          rintro e w' ⟨rfl, rfl⟩
          go_wp2_with fail
          refine HIS.out.mono ?_
          rintro e w' ⟨rfl, rfl⟩
          go_wp2_with fail
          refine HQ.out.mono ?_
          rintro e w' ⟨rfl, hd, hf⟩
          go_wp2_with fail
          go_ret2
          obtain ⟨q1, q2⟩ := H.out.deq hf hd (by simp)
          exact ⟨rfl, Dq, q1, q2, fun _ h => .inl h, rfl⟩
    · rw [if_neg (fun e => hj e.2)]
      have his := isP_no g d s room Dq L Q w h j (by omega)
      have HIS := Lib.hid his
      clear his h hi hj
      go_enter Try.func25, Try.ntmps25
      go_wp2_with fail
      refine HI0.out.mono ?_
      rintro e w' ⟨rfl, rfl⟩
      go_wp2_with fail
      refine HIS.out.mono ?_
      rintro e w' ⟨rfl, rfl⟩
      go_wp2_with fail
      go_ret2
      exact ⟨rfl, PlTurn.same g d s room Dq L Q w H.out 0⟩
  · rw [if_neg (fun e => hi e.1)]
    have his := isP_no g d s room Dq L Q w h i (by omega)
    have HIS := Lib.hid his
    clear his h hi
    go_enter Try.func25, Try.ntmps25
    go_wp2_with fail
    refine HIS.out.mono ?_
    rintro e w' ⟨rfl, rfl⟩
    go_wp2_with fail
    go_ret2
    exact ⟨rfl, PlTurn.same g d s room Dq L Q w H.out 0⟩

set_option maxHeartbeats 1000000 in
theorem ownP_yes (k : Nat) (l : List Int) (hx : L[k]? = some l) : Calls Try.prog 27 #[.pointer (some ⟨g, 0, none⟩), .int .i64 (k : Int)] w fun e w' => ∃ v, e = .returned v ∧ OwnI w' w.heap.size v l ∧ Below w.heap.size w w' := by
  have hk : k < L.length := (List.getElem?_eq_some_iff.1 hx).1
  have his := isP_yes g d s room Dq L Q w h k hk
  have c1 := h.cells
  have hk0 : (0 : Int) ≤ (k : Int) := by omega
  have hk1 : (k : Int) < (L.length : Int) := by omega
  have hq := list_dq d s room L k l w h.dq hx
  have HIS := Lib.hid his; have HQ := Lib.hid hq
  clear his h hx hk hq
  generalize L.length = n at *
  go_enter Try.func27, Try.ntmps27
  go_wp2_with fail
  refine HIS.out.mono ?_
  rintro e w' ⟨rfl, rfl⟩
  go_wp2_with fail
  refine HQ.out.mono ?_
  rintro e w' ⟨v, rfl, hown, hb⟩
  go_wp2_with fail
  go_ret
  exact ⟨_, rfl, hown, hb⟩
set_option maxHeartbeats 1000000 in
theorem ownP_no (i : Int) (hi : i < 0 ∨ (L.length : Int) ≤ i) : Calls Try.prog 27 #[.pointer (some ⟨g, 0, none⟩), .int .i64 i] w fun e w' => ∃ v, e = .returned v ∧ OwnI w' w.heap.size v [] ∧ Below w.heap.size w w' := by
  have his := isP_no g d s room Dq L Q w h i hi
  have HIS := Lib.hid his
  clear his h hi
  go_enter Try.func27, Try.ntmps27
  go_wp2_with fail
  refine HIS.out.mono ?_
  rintro e w' ⟨rfl, rfl⟩
  go_wp2_with fail
  go_ret
  exact ⟨_, rfl, OwnI.nil _ _, Below.refl _ _⟩
end
end Go.Proofs.Ytipflplilkecjaa
