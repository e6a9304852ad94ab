
/-
  What a state's channels have: has, at, behind, Index.
-/
import Derived.Test.YtbgigkamlnchcaaChM
import Derived.WalkLawsBesides
import Derived.ArgAppend
set_option linter.unusedVariables false
set_option linter.unusedSimpArgs false
namespace Go.Proofs.Ytbgigkamlnchcaa
open Go.RowKit Plain

section
variable {w : World} {B : Nat} {h : ChH} {s : Ck} {K n : Nat}
set_option maxHeartbeats 1000000 in
theorem has_yes (H : ChM w B h s) (O : CkOk K n s) (m : Nat) (hm : m < n) (hK : n ≤ 1000000) :
    Calls Try.prog 34 #[.pointer (some ⟨h.g, 0, none⟩), .int .i64 (m : Int)] w fun e w' => e = .returned (.bool true) ∧ ∃ k, w' = w.drewN k := by
  obtain ⟨b0, b1, b2⟩ := H.cells
  obtain ⟨A, c, e1⟩ := H.bf.slice
  obtain ⟨A', c', e2⟩ := H.sq.slice
  obtain ⟨A2, c2, e3⟩ := H.rq.slice
  rw [e1, O.l1] at b0
  rw [e2, O.l2] at b1
  rw [e3, O.l3] at b2
  generalize h.g = g at b0 b1 b2 ⊢
  have hmin : ∀ W, (Builtin.min_ #[3, 3, 3] 3 #[.int .i64 (n : Int), .int .i64 (n : Int), .int .i64 (n : Int)]).run Try.prog W = .ok (.int .i64 (n : Int)) W := by
    intro W
    rw [run_min_int3]
    simp
  clear H O e1 e2 e3
  have h0 : (m : Int) < (n : Int) := by omega
  have h1 : decide ((m : Int) ≥ 0) = true := by simp
  go_enter Try.func34, Try.ntmps34
  go_wp2_with fail
  go_quiet (fail)
  go_wp2_with fail
  go_ret
  exact ⟨rfl, _, rfl⟩
set_option maxHeartbeats 1000000 in
/-- One of some rows. -/
theorem at_yes (w : World) (b : Nat) (n c : Nat) (m : Nat) (hm : m < n) (hK : n ≤ 1000000) (v : Value) (hc : w.cell? ⟨b, m, none⟩ = some v) :
    Calls Try.prog 33 #[.slice (some ⟨b, 0, none⟩) n c, .int .i64 (m : Int)] w fun e w' => e = .returned v ∧ ∃ k, w' = w.drewN k := by
  have h0 : (m : Int) < (n : Int) := by omega
  have h1 : (0 : Int) ≤ (m : Int) := by omega
  have h2 : decide ((m : Int) < 0) = false := by simp
  have h3 : decide ((m : Int) ≥ (n : Int)) = false := by simp; omega
  go_enter Try.func33, Try.ntmps33
  go_wp2_with fail
  try go_quiet (fail)
  try go_wp2_with fail
  go_ret
  exact ⟨rfl, by first | exact ⟨_, rfl⟩ | exact ⟨0, rfl⟩⟩
set_option maxHeartbeats 1000000 in
theorem behind_any (w : World) (D : Nat → Prop) (A : Option Addr) (c : Nat) (l : List Int) (hr : RN w D A c l) (n : Nat) (hn : l.length = n) (hK : n ≤ 1000000) (a2 : Addr) (k c2 : Nat) (news : List Int) (hk : news.length = k) (hk0 : 0 < k) (hk2 : k ≤ 1000)
    (hc : ∀ (j : Nat) (x : Int), news[j]? = some x → w.cell? (a2.add j) = some (EnI x)) :
    Calls Try.prog 35 #[.slice A n c, .slice (some a2) k c2] w fun e w' => ∃ A' c', e = .returned (.slice A' (n + k) c') ∧ RN w' (fun i => w.heap.size ≤ i) A' c' (l ++ news) ∧ Below w.heap.size w w' := by
  obtain ⟨i0, hi0, hz0, hz1, hz2⟩ := info_parts info_int
  have hcap : n ≤ c := by rw [← hn]; exact hr.1
  have hreads := hr.reads
  rw [hn] at hreads
  have hx : ∀ b, A = some b → ∀ (j : Nat) (u : Value), (l.map EnI)[j]? = some u → w.cell? (b.add j) = some u := by
    intro b hA j u hj
    have hjn : j < n := by
      have := (List.getElem?_eq_some_iff.1 hj).1
      simp at this
      omega
    obtain ⟨ad, e, hlt, hc⟩ := hreads.2 (by omega)
    rw [hA] at e
    obtain rfl := Option.some.inj e
    exact hc j u hj
  have hnone : A = none → n = 0 ∧ n = 0 := by
    rintro rfl
    rcases Nat.eq_zero_or_pos n with h0 | h0
    · exact ⟨h0, h0⟩
    · obtain ⟨ad, e, _⟩ := hreads.2 h0
      cases e
  have hcc : ∀ (j : Nat) (u : Value), (news.map EnI)[j]? = some u → w.cell? (a2.add j) = some u := by
    intro j u hj
    rw [List.getElem?_map] at hj
    cases hx2 : news[j]? with
    | none => rw [hx2] at hj; cases hj
    | some x =>
      rw [hx2] at hj
      rw [← Option.some.inj hj]
      exact hc j x hx2
  have HX := Lib.hid hx; have HN := Lib.hid hn; have HCC := Lib.hid hcc; have HKK := Lib.hid hk
  have hlo : (l.map EnI).length = n * 1 := by simp; exact hn
  have hln : (news.map EnI).length = k * 1 := by simp; exact hk
  have HLO := Lib.hid hlo; have HLN := Lib.hid hln
  have HNONE := Lib.hid hnone
  clear hr hreads hx hn hlo hnone hc hcc hk hln
  have q1 : (n : Int) ≤ (c : Int) := by omega
  go_enter Try.func35, Try.ntmps35
  go_wp2_with (at_builtin; go_must (refine wpList_append_grows _ rfl (.tmp 11) (.tmp 12) _ rfl 3 i0 _ 1 8 Try.underlying25 hi0 hz0 hz1 hz2 rfl (by decide) A n n (l.map EnI) rfl HNONE.out HLO.out HX.out a2 k c2 (news.map EnI) rfl HLN.out HCC.out ?c2 ?c4 ?c5 ?c6 ?c7))
  case c2 => intro u hu; obtain ⟨x, _, rfl⟩ := List.mem_map.1 hu; rfl
  case c4 => omega
  case c5 => unfold maxLen; omega
  case c6 => omega
  case c7 =>
  intro v' w' hown hg
  have hown2 : OwnI w' w.heap.size v' (l ++ news) := by
    unfold OwnI
    rw [List.length_append, HN.out, HKK.out, List.map_append]
    exact hown
  obtain ⟨A', c', rfl, _, _⟩ := hown2.slice
  have hb : Below w.heap.size w w' := (Below.refl _ w).grown hg (Nat.le_refl _) (by simp)
  have hrn := RN.of_own hown2
  have hll : (l ++ news).length = n + k := by simp [HN.out, HKK.out]
  rw [hll]
  have HB := Lib.hid hb; have HRN := Lib.hid hrn
  clear hown hown2 hg hb hrn hll
  go_wp2_with fail
  go_ret
  exact ⟨_, _, rfl, HRN.out, HB.out⟩
/-- Numbers come behind those of a row, in whatever world has come of this one by memory of its own. -/
theorem behind_all (w : World) (D : Nat → Prop) (A : Option Addr) (c : Nat) (l : List Int) (hr : RN w D A c l) (n : Nat) (hn : l.length = n) (hK : n ≤ 1000000) (a2 : Addr) (k c2 : Nat) (news : List Int) (hk : news.length = k) (hk0 : 0 < k) (hk2 : k ≤ 1000)
    (W : World) (hb : Below w.heap.size w W) (hc : ∀ (j : Nat) (x : Int), news[j]? = some x → W.cell? (a2.add j) = some (EnI x)) :
    Calls Try.prog 35 #[.slice A n c, .slice (some a2) k c2] W fun e w' => ∃ A' c', e = .returned (.slice A' (n + k) c') ∧ RN w' (fun i => w.heap.size ≤ i) A' c' (l ++ news) ∧ Below w.heap.size w w' := by
  refine (behind_any W D A c l (hr.below hb (Nat.le_refl _)) n hn hK a2 k c2 news hk hk0 hk2 hc).mono ?_
  rintro e w' ⟨A', c', e1, h1, h2⟩
  have := hb.size
  exact ⟨A', c', e1, h1.mono (fun i h _ => by omega), hb.trans (h2.mono this)⟩
end
end Go.Proofs.Ytbgigkamlnchcaa
