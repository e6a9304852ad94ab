
/-
  What a state's locks have: hasMutex, hasCond, hasSema, owns, first, behind.
-/
import Derived.Test.YtikelkfinjcgaaaLkM
import Derived.WalkLawsBesides
import Derived.ArgAppend
set_option linter.unusedVariables false
set_option linter.unusedSimpArgs false
namespace Go.Proofs.Ytikelkfinjcgaaa
open Go.RowKit Plain

section
variable {w : World} {B : Nat} {h : LkH} {s : Lk}
set_option maxHeartbeats 1000000 in
theorem hasMutex_yes (H : LkM w B h s) (l1 : s.lq.length = s.own.length) (m : Nat) (hm : m < s.own.length) (hK : s.own.length ≤ 1000000) :
    Calls Try.prog 36 #[.pointer (some ⟨h.g, 0, none⟩), .int .i64 (m : Int)] w fun e w' => e = .returned (.bool true) ∧ ∃ k, w' = w.drewN k := by
  obtain ⟨b0, b1, b2, b3, b4⟩ := H.cells
  obtain ⟨b, cap, e1, e2, e3, e4, e5, e6⟩ := OwnI.at_ H.own hm
  obtain ⟨A, c, e7⟩ := H.lq.slice
  rw [e1] at b0
  rw [e7, l1] at b2
  generalize s.own.length = n at hm hK b0 b2
  generalize h.g = g at b0 b2 ⊢
  have hmin : ∀ W, (Builtin.min_ #[3, 3] 3 #[.int .i64 (n : Int), .int .i64 (n : Int)]).run Try.prog W = .ok (.int .i64 (n : Int)) W := by
    intro W
    rw [run_min_int2]
    simp
  clear H e1 e2 e3 e4 e5 e6 e7 l1 b1 b3 b4
  have h0 : (m : Int) < (n : Int) := by omega
  have h1 : decide ((m : Int) ≥ 0) = true := by simp
  go_enter Try.func36, Try.ntmps36
  go_wp2_with fail
  go_quiet (fail)
  go_wp2_with fail
  go_ret
  exact ⟨rfl, _, rfl⟩
set_option maxHeartbeats 1000000 in
theorem hasSema_yes (H : LkM w B h s) (l2 : s.dq.length = s.cnt.length) (m : Nat) (hm : m < s.cnt.length) (hK : s.cnt.length ≤ 1000000) :
    Calls Try.prog 40 #[.pointer (some ⟨h.g, 0, none⟩), .int .i64 (m : Int)] w fun e w' => e = .returned (.bool true) ∧ ∃ k, w' = w.drewN k := by
  obtain ⟨b0, b1, b2, b3, b4⟩ := H.cells
  obtain ⟨b, cap, e1, e2, e3, e4, e5, e6⟩ := OwnI.at_ H.cnt hm
  obtain ⟨A, c, e7⟩ := H.dq.slice
  rw [e1] at b1
  rw [e7, l2] at b4
  generalize s.cnt.length = n at hm hK b1 b4
  generalize h.g = g at b1 b4 ⊢
  have hmin : ∀ W, (Builtin.min_ #[3, 3] 3 #[.int .i64 (n : Int), .int .i64 (n : Int)]).run Try.prog W = .ok (.int .i64 (n : Int)) W := by
    intro W
    rw [run_min_int2]
    simp
  clear H e1 e2 e3 e4 e5 e6 e7 l2 b0 b2 b3
  have h0 : (m : Int) < (n : Int) := by omega
  have h1 : decide ((m : Int) ≥ 0) = true := by simp
  go_enter Try.func40, Try.ntmps40
  go_wp2_with fail
  go_quiet (fail)
  go_wp2_with fail
  go_ret
  exact ⟨rfl, _, rfl⟩
set_option maxHeartbeats 1000000 in
theorem hasCond_yes (H : LkM w B h s) (m : Nat) (hm : m < s.wq.length) (hK : s.wq.length ≤ 1000000) :
    Calls Try.prog 42 #[.pointer (some ⟨h.g, 0, none⟩), .int .i64 (m : Int)] w fun e w' => e = .returned (.bool true) ∧ ∃ k, w' = w.drewN k := by
  obtain ⟨b0, b1, b2, b3, b4⟩ := H.cells
  obtain ⟨A, c, e7⟩ := H.wq.slice
  rw [e7] at b3
  generalize s.wq.length = n at hm hK b3
  generalize h.g = g at b3 ⊢
  clear H e7 b0 b1 b2 b4
  have h0 : (m : Int) < (n : Int) := by omega
  have h1 : decide ((m : Int) ≥ 0) = true := by simp
  go_enter Try.func42, Try.ntmps42
  go_wp2_with fail
  try go_quiet (fail)
  try go_wp2_with fail
  go_ret
  exact ⟨rfl, 0, rfl⟩
set_option maxHeartbeats 1000000 in
theorem owns_any (H : LkM w B h s) (l1 : s.lq.length = s.own.length) (m : Nat) (hm : m < s.own.length) (hK : s.own.length ≤ 1000000) (t : Int) (ht : 0 ≤ t) :
    Calls Try.prog 38 #[.pointer (some ⟨h.g, 0, none⟩), .int .i64 (m : Int), .int .i64 t] w fun e w' => e = .returned (.bool (gn s.own m == t)) ∧ ∃ k, w' = w.drewN k := by
  obtain ⟨b0, b1, b2, b3, b4⟩ := H.cells
  obtain ⟨b, cap, e1, e2, e3, e4, e5, e6⟩ := OwnI.at_ H.own hm
  rw [e1] at b0
  have hh := hasMutex_yes H l1 m hm hK
  clear H
  generalize s.own.length = n at hm hK b0 e2
  generalize h.g = g at b0 hh ⊢
  generalize gn s.own m = x at e5 ⊢
  have HH := Lib.hid hh
  clear hh e1 e4 e6 l1 b1 b2 b3 b4
  have h0 : (m : Int) < (n : Int) := by omega
  have h1 : (0 : Int) ≤ (m : Int) := by omega
  go_enter Try.func38, Try.ntmps38
  go_wp2_with fail
  refine HH.out.mono ?_
  rintro e w1 ⟨rfl, k, rfl⟩
  go_wp2_with fail
  try go_quiet (fail)
  try go_wp2_with fail
  go_ret
  exact ⟨rfl, k, rfl⟩
set_option maxHeartbeats 1000000 in
theorem first_nil (w : World) (A : Option Addr) (c : Nat) : Calls Try.prog 41 #[.slice A 0 c] w fun e w' => e = .returned (.tuple #[.int .i64 (-1), .slice none 0 0]) ∧ w' = w := by
  go_enter Try.func41, Try.ntmps41
  go_wp2_with fail
  go_ret2
  exact ⟨rfl, rfl⟩
set_option maxHeartbeats 1000000 in
theorem first_cons (w : World) (D : Nat → Prop) (A : Option Addr) (c : Nat) (x : Int) (r : List Int) (hr : RN w D A c (x :: r)) (n : Nat) (hn : (x :: r).length = n) (hK : n ≤ 1000000) :
    Calls Try.prog 41 #[.slice A n c] w fun e w' => ∃ A', e = .returned (.tuple #[.int .i64 x, .slice A' (n - 1) (n - 1)]) ∧ RN w D A' (n - 1) r ∧ ∃ k, w' = w.drewN k := by
  obtain ⟨ad, rfl, hd, hb, hc⟩ := hr.cell (j := 0) (by simp)
  have ht := hr.tail
  have hcap := hr.1
  have hrl : r.length = n - 1 := by rw [← hn]; simp
  have h0n : 0 < n := by rw [← hn]; simp
  rw [hn] at ht hcap
  rw [hrl] at ht
  simp only [List.getElem_cons_zero, show ad.add 0 = ad by simp [Addr.add]] at hc
  have hsp := World.cell?_spot hc
  obtain ⟨bk, off, sp⟩ := ad
  simp at hsp
  subst hsp
  have HT := Lib.hid ht; have HN := Lib.hid hn; have HR := Lib.hid hrl
  clear hr ht hn hrl
  have q1 : ((n : Int) == 0) = false := by rw [beq_eq_false_iff_ne]; omega
  have q2 : (1 : Int) ≤ (n : Int) := by omega
  have q3 : (n : Int) ≤ (c : Int) := by omega
  have q4 : (0 : Int) < (n : Int) := by omega
  by_cases hn1 : n = 1
  · subst hn1
    go_enter Try.func41, Try.ntmps41
    go_wp2_with fail
    go_quiet (fail)
    go_wp2_with fail
    go_ret2
    refine ⟨_, rfl, ?_, _, rfl⟩
    have := HT.out
    have hr0 : r = [] := List.eq_nil_of_length_eq_zero (by rw [HR.out])
    subst hr0
    exact RN.nil _ _ _ _
  · have hn2 : ¬ (n : Int) = 1 := by omega
    go_enter Try.func41, Try.ntmps41
    go_wp2_with fail
    go_quiet (fail)
    go_wp2_with fail
    go_ret2
    refine ⟨_, rfl, ?_, _, rfl⟩
    have := HT.out
    rw [if_neg hn1] at this
    simpa [Addr.add] using this
set_option maxHeartbeats 1000000 in
theorem behind_any (w : World) (D : Nat → Prop) (A : Option Addr) (c : Nat) (l : List Int) (hr : RN w D A c l) (n : Nat) (hn : l.length = n) (hK : n ≤ 1000000) (t : Int) :
    Calls Try.prog 37 #[.slice A n c, .int .i64 t] w fun e w' => ∃ A' c', e = .returned (.slice A' (n + 1) c') ∧ RN w' (fun k => w.heap.size ≤ k) A' c' (l ++ [t]) ∧ Below w.heap.size w w' := by
  obtain ⟨i0, hi0, hz0, hz1, hz2⟩ := info_parts info_int
  have hcap : n ≤ c := by rw [← hn]; exact hr.1
  have hreads := hr.reads
  rw [hn] at hreads
  have hx : ∀ W : World, Below w.heap.size w W → ∀ b, A = some b → ∀ (j : Nat) (u : Value), (l.map EnI)[j]? = some u → W.cell? (b.add j) = some u := by
    intro W hb b hA j u hj
    have hjn : j < n := by
      have := (List.getElem?_eq_some_iff.1 hj).1
      simp at this
      omega
    obtain ⟨ad, e, hlt, hc⟩ := hreads.2 (by omega)
    rw [hA] at e
    injection e with e
    subst e
    exact (hb.cell (by rw [block_of_add]; exact hlt)).trans (hc j u hj)
  have hnone : A = none → n = 0 ∧ n = 0 := by
    rintro rfl
    rcases Nat.eq_zero_or_pos n with h0 | h0
    · exact ⟨h0, h0⟩
    · obtain ⟨ad, e, _⟩ := hreads.2 h0
      cases e
  have HX := Lib.hid hx; have HN := Lib.hid hn
  have hlo : (l.map EnI).length = n * 1 := by simp; exact hn
  have HLO := Lib.hid hlo
  have HNONE := Lib.hid hnone
  clear hr hreads hx hn hlo hnone
  have q1 : (n : Int) ≤ (c : Int) := by omega
  go_enter Try.func37, Try.ntmps37
  go_wp2_with (at_builtin; go_must (refine wpList_append_grows _ rfl (.tmp 11) (.tmp 13) _ rfl 3 i0 _ 1 8 Try.underlying22 hi0 hz0 hz1 hz2 rfl (by decide) A n n (l.map EnI) rfl HNONE.out HLO.out (HX.out _ ((Below.refl _ w).alloc (Nat.le_refl _) _)) ⟨w.heap.size, 0, none⟩ 1 1 [.int .i64 t] rfl rfl ?c1 ?c2 ?c3 ?c4 ?c5 ?c6))
  case c1 => intro j u hj; match j, hj with | 0, hj => (simp at hj; subst hj; simp [Addr.add])
  case c2 => intro u hu; simp at hu; subst hu; rfl
  case c3 => omega
  case c4 => unfold maxLen; omega
  case c5 => omega
  case c6 =>
  intro v' w' hown hg
  have hown2 : OwnI w' (w.heap.size + 1) v' (l ++ [t]) := by
    have := hown
    rw [← HN.out] at this
    simpa using OwnI.snoc this
  obtain ⟨A', c', rfl, _, _⟩ := hown2.slice
  have hb : Below w.heap.size w w' := ((Below.refl _ w).alloc (Nat.le_refl _) _).grown hg (by simp) (by simp)
  have hrn := RN.of_own hown2
  have hll : (l ++ [t]).length = n + 1 := by simp [HN.out]
  rw [hll]
  have HB := Lib.hid hb; have HRN := Lib.hid hrn
  clear hown hown2 hg hb hrn hll
  go_wp2_with fail
  go_ret
  exact ⟨_, _, rfl, HRN.out.mono (fun i h _ => by omega), HB.out⟩
end
end Go.Proofs.Ytikelkfinjcgaaa
