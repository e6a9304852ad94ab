
/-
  A range over a function whose rounds all go on: what the loop keeps, it may ask of the loop; the function that tells where a thread waits.
-/
import Derived.Test.YtbgigkamlnchcaaChB
import Derived.Test.YtbgigkamlnchcaaRgAll
import Derived.RangeFuncWrites
import Derived.Laws.EntriesVeiled
import Derived.WalkMore
set_option linter.unusedVariables false
set_option linter.unusedSimpArgs false
namespace Go.Proofs.Ytbgigkamlnchcaa
open Go.RowKit Go.Shelf Plain
attribute [local go_sem] Oper.semAt_some

theorem wpIn_scope_wide {P : Program} {n : Nat} {c : Code} {Q : Exit → Act → World → Prop} {a : Act} {w : World} (h : c.wpIn Fence.wide n P (Exit.noGoto Q) a w) : (Code.scope c).wpIn Fence.wide n P Q a w :=
  wpIn_wide.2 (wp_scope_straight ((wpIn_wide (n := n)).1 h))
/-- Told numbers, one by one: the function is walked at the very invariant that its caller keeps. -/
theorem range_told {α : Type} {P : Program} {g : Operand} {ps : Array Tmp} {assign body : Code} {Q : Exit → Act → World → Prop} {a : Act} {w : World} {n : Nat}
    (h1 : 1 ≤ n) {gf : Nat} {lb : Array Value} (hg : a.eval g = .func (.func gf) #[] lb) (eg : ∀ args w, (callFunc gf args).run P w = .ok (.enter gf args) w)
    (encs : α → Array Value) (hps : ∀ x, (encs x).size = ps.size) (I : List α → World → Prop)
    (hIp : ∀ s W k o o', I s W → w.heap.size ≤ k → W.heap[k]? = some o → o.isCells = false → I s (W.putObj k o')) (hIa : ∀ s W o, I s W → I s (W.alloc o)) (h0 : I [] w) (a₁ : α → Act)
    (hassign : ∀ (l : Nat) (x : α) (W : World) (K : Act → World → Prop), K (a₁ x) W →
      assign.wpIn (Fence.wide.inRound l) (n - 1 - 1) P (Exit.then K (fun _ _ _ => False)) { tmps := (ps.zip (encs x)).foldl (fun t (p, v) => t.setIfInBounds p v) a.tmps, defers := [] } W)
    (S : List α → Prop) (V : List α → α → Prop)
    (hit : ∀ (l : Nat) (J : List α → World → Prop) (W : World), (∀ s W, J s W → I s W) → J [] W →
      (∀ pre x W1, J pre W1 → V pre x → YieldAt Fence.wide (n - 1 - 1) P l (encs x) W1 fun e W' => e = .returned (.bool true) ∧ J (pre ++ [x]) W') →
      CallsIn Fence.wide (n - 1) P gf (#[.func (.yield l) #[] #[]] ++ lb) W fun e W' => (∃ v, e = .returned v) ∧ ∃ xs, S xs ∧ J xs W')
    (hbody : ∀ (l : Nat) (pre : List α) (x : α) (W : World), I pre W → V pre x → body.wpIn (Fence.wide.inRound l) (n - 1 - 1) P (fun e _ W' => e = .normal ∧ KeepsFrom w.heap.size W W' ∧ I (pre ++ [x]) W') (a₁ x) W)
    (hdone : ∀ (D : Nat) (xs : List α) (W : World), w.heap.size ≤ D → S xs → I xs W → W.heap[D]? = some (.deferred (some [])) → Q .normal { a with defers := { target := .collected D, args := #[] } :: a.defers } W) :
    (Code.rangeFunc g ps assign body).wpIn Fence.wide n P Q a w := by
  refine wpIn_rangeFunc fun fn hfn => ?_
  obtain ⟨rc, hrc⟩ : ∃ rc : LoopState → Loop, rc = fun st => { state := st, pending := none, fn, tmps := a.tmps, params := ps, assign, body, defers := w.heap.size } := ⟨_, rfl⟩
  obtain ⟨V, hV⟩ : ∃ V, V = (w.alloc (.deferred (some []))).alloc (.loop (rc .ready)) := ⟨_, rfl⟩
  have hVl : V.heap[w.heap.size + 1]? = some (.loop (rc .ready)) := by
    rw [hV]
    have := World.alloc_heap_new (w.alloc (.deferred (some []))) (.loop (rc .ready))
    rwa [World.size_alloc] at this
  have hVd : V.heap[w.heap.size]? = some (.deferred (some [])) := by
    rw [hV]
    exact (Below.heap_alloc _ _ _ (by simp)).trans (World.alloc_heap_new w _)
  have hI0 : I [] V := by
    rw [hV]
    exact hIa _ _ _ (hIa _ _ _ h0)
  refine ⟨w.heap.size + 1, [{ target := .collected w.heap.size, args := #[] }], V, { target := .fn (.func gf) lb, args := #[.func (.yield (w.heap.size + 1)) #[] #[]] }, V, gf,
    #[.func (.yield (w.heap.size + 1)) #[] #[]] ++ lb, V, ?_, ?_, fun _ _ => trivial, ?_, fun _ => h1, ?_⟩
  · rw [hV, hrc]
    exact run_enterLoop_outer _ _ _ _ _
  · simp only [resolve, hg]
    simp [go_sem]
  · simp [invoke, go_sem, eg]
  · refine (hit (w.heap.size + 1) (fun s W => I s W ∧ W.heap[w.heap.size + 1]? = some (.loop (rc .ready)) ∧ W.heap[w.heap.size]? = some (.deferred (some []))) V (fun _ _ h => h.1) ⟨hI0, hVl, hVd⟩ ?_).mono ?_
    · rintro pre x W ⟨hi, hl, hd⟩ hv
      have hlt : w.heap.size + 1 < W.heap.size := (Array.getElem?_eq_some_iff.1 hl).1
      have hy := run_yield (P := P) (args := encs x) hl (by rw [hrc]; exact hps x)
      rw [hrc] at hy
      refine ⟨fn, _, assign, body, hy, roundIn_of_wpIn hfn (hassign _ x W _ ⟨_, run_beginRound hl (by rw [hrc]), ?_⟩)⟩
      refine wpIn_mono (hbody _ pre x _ (hIp _ _ _ _ _ hi (by omega) hl rfl) hv) ?_
      rintro e a3 W3 ⟨rfl, hk, hi3⟩
      have hb : (W.putObj (w.heap.size + 1) (.loop { rc .ready with state := .busy })).heap[w.heap.size + 1]? = some (.loop { rc .ready with state := .busy }) := World.putObj_heap_same hlt
      have hd2 : (W.putObj (w.heap.size + 1) (.loop { rc .ready with state := .busy })).heap[w.heap.size]? = some (.deferred (some [])) := (World.putObj_heap_other (by omega)).trans hd
      have hb3 := hk.same _ _ (by omega) hb rfl
      have hd3 := hk.same _ _ (Nat.le_refl _) hd2 rfl
      have hr := run_endRound (P := P) none hb3
      have hlt3 := (Array.getElem?_eq_some_iff.1 hb3).1
      refine ⟨_, _, hr, rfl, hIp _ _ _ _ _ hi3 (by omega) hb3 rfl, ?_, ?_⟩
      · rw [World.putObj_heap_same hlt3, hrc]
        rfl
      · rw [World.putObj_heap_other (by omega)]
        exact hd3
    · rintro e W2 ⟨⟨v, rfl⟩, xs, hS, hi, hl, hd⟩
      refine ⟨none, _, by have := run_endLoop (P := P) hl (by rw [hrc]; simp); rw [hrc] at this; exact this, hdone _ xs _ (Nat.le_refl _) hS (hIp _ _ _ _ _ hi (by omega) hl rfl) ?_⟩
      exact (World.putObj_heap_other (by omega)).trans hd

namespace Plain
/-- The rows ahead of k in which t stands. -/
def seenV (t : Int) (L : List (List Int)) (k : Nat) : List Nat := (List.range k).filter fun i => (gl L i).contains t
theorem seenV_succ (t : Int) (L : List (List Int)) (k : Nat) : seenV t L (k + 1) = if t ∈ gl L k then seenV t L k ++ [k] else seenV t L k := by
  unfold seenV
  rw [List.range_succ, List.filter_append]
  by_cases h : t ∈ gl L k
  · simp [h]
  · simp [h]
theorem seenV_lt {t : Int} {L : List (List Int)} {k i : Nat} (h : i ∈ seenV t L k) : i < k := by
  unfold seenV at h
  rw [List.mem_filter] at h
  exact List.mem_range.1 h.1
end Plain
/-- What the function that tells must find. -/
def WaitN (w : World) (bc bt g b N cap : Nat) (t : Int) (L : List (List Int)) (pre : List Nat) : Prop :=
  w.cell? ⟨bc, 0, none⟩ = some (.pointer (some ⟨g, 0, none⟩)) ∧ w.cell? ⟨bt, 0, none⟩ = some (.int .i64 t) ∧ w.cell? ⟨g, 9, none⟩ = some (.slice (some ⟨b, 0, none⟩) N cap) ∧
    ∀ k, k < N → k ∉ pre → ∃ A c, w.cell? ⟨b, k, none⟩ = some (.slice A (gl L k).length c) ∧ RN w (fun _ => True) A c (gl L k)
set_option maxRecDepth 100000 in
set_option maxHeartbeats 2000000 in
theorem waits_in (n : Nat) (hn : 1 ≤ n) (l bc bt g b N cap : Nat) (t : Int) (L : List (List Int)) (hK : N ≤ 1000000) (hL : ∀ k, (gl L k).length ≤ 1000000) (J : List Nat → World → Prop)
    (hJ : ∀ pre W, J pre W → WaitN W bc bt g b N cap t L pre)
    (hY : ∀ (pre : List Nat) (x : Nat) (W : World), J pre W → (x < N ∧ t ∈ gl L x ∧ pre = seenV t L x) → YieldAt Fence.wide (n - 1) Try.prog l #[.int .i64 (x : Int)] W fun e W' => e = .returned (.bool true) ∧ J (pre ++ [x]) W')
    (W : World) (h0 : J [] W) :
    CallsIn Fence.wide n Try.prog 48 #[.func (.yield l) #[] #[], .pointer (some ⟨bc, 0, none⟩), .pointer (some ⟨bt, 0, none⟩)] W fun e W' => (∃ v, e = .returned v) ∧ J (seenV t L N) W' := by
  refine callsIn_of_wp Try.func48 rfl trivial ?_ rfl
  simp only [Try.ntmps48, List.size_toArray, List.length_cons, List.length_nil, Nat.reduceAdd, Nat.reduceSub, Array.replicate_succ, Array.replicate_zero, List.push_toArray, List.append_toArray, List.nil_append, List.cons_append]
  obtain ⟨c0, c1, c2, -⟩ := hJ _ _ h0
  have hro : Fence.wide.round = none := rfl
  have HJ := Lib.hid hJ; have HY := Lib.hid hY; have H0 := Lib.hid h0; have HL := Lib.hid hL
  clear hJ hY h0 hL
  refine wpIn_scope_wide ?_
  gi_wp2
  refine wpIn_label ?_
  gi_wp2
  clear c0 c1 c2
  gi_loopw [15] (fun s15 wr => ∃ k : Nat, k ≤ N ∧ s15 = .int .i64 (k : Int) ∧ Hid (J (seenV t L k) wr)) (fun s15 _ => N - (intOf s15).toNat)
  case atStart => exact ⟨0, by omega, rfl, H0⟩
  case round =>
    obtain ⟨k, hk, rfl, HJk⟩ := hrel
    by_cases hlt : k < N
    · obtain ⟨c0, c1, c2, hrow⟩ := HJ.out _ _ HJk.out
      obtain ⟨A, c, hc, hr⟩ := hrow k hlt (fun e => by have := seenV_lt e; omega)
      have hlk := HL.out k
      obtain ⟨m, hm⟩ : ∃ m, m = (gl L k).length := ⟨_, rfl⟩
      rw [← hm] at hc hlk
      have q1 : (k : Int) < (N : Int) := by omega
      have q0 : (0 : Int) ≤ (k : Int) := by omega
      have HR := Lib.hid hr; have HM := Lib.hid hm
      clear hrow hr hm
      have hsee := seenV_succ t L k
      have HS := Lib.hid hsee
      have hcal := fun hmem => HY.out _ k wr HJk.out ⟨hlt, hmem, rfl⟩
      have HC := Lib.hid hcal
      clear hsee hcal
      gi_wp2
      gi_loopw [22] (fun s22 wr2 => ∃ i : Nat, i ≤ m ∧ s22 = .int .i64 (i : Int) ∧ wr2 = wr ∧ Hid (t ∉ (gl L k).take i)) (fun s22 _ => m - (intOf s22).toNat)
      case atStart => exact ⟨0, by omega, rfl, rfl, Lib.hid (by simp)⟩
      case round =>
        obtain ⟨i, hi, rfl, rfl, HN⟩ := hrel
        by_cases hil : i < m
        · obtain ⟨ad, rfl, _, _, hcx⟩ := HR.out.at_ (show i < (gl L k).length by rw [← HM.out]; exact hil)
          have hx := gn_some (l := gl L k) (m := i) (by rw [← HM.out]; exact hil)
          generalize gn (gl L k) i = x at hcx hx
          have q2 : (i : Int) < (m : Int) := by omega
          have q3 : (0 : Int) ≤ (i : Int) := by omega
          by_cases he : x = t
          · have hmem : t ∈ gl L k := by rw [← he]; exact List.mem_of_getElem? hx
            have hs := HS.out
            rw [if_pos hmem] at hs
            have HS2 := Lib.hid hs
            have hxb : (x != t) = false := by simpa using he
            obtain ⟨fn, tmps, assign, body, hy, hR⟩ := HC.out hmem
            clear he hx hmem hs
            gi_wp2
            refine hR.mono ?_
            rintro e W3 ⟨rfl, hJ3⟩
            have H3 := Lib.hid hJ3
            clear hJ3 hR hy
            gi_wp2
            exact ⟨⟨k + 1, by omega, by go_num, Lib.hid (by rw [HS2.out]; exact H3.out)⟩, by simp [intOf]; omega⟩
          · have hxb : (x != t) = true := by simpa using he
            have hn2 : t ∉ (gl L k).take (i + 1) := by
              rw [List.take_add_one, hx]
              intro hm2
              rw [List.mem_append] at hm2
              rcases hm2 with hm2 | hm2
              · exact HN.out hm2
              · simp at hm2
                exact he hm2.symm
            have HN2 := Lib.hid hn2
            clear he hx hn2 HC
            gi_wp2
            exact ⟨⟨i + 1, by omega, by go_num, trivial, HN2⟩, by simp [intOf]; omega⟩
        · obtain rfl : i = m := by omega
          have hnm : t ∉ gl L k := by
            have := HN.out
            rwa [List.take_of_length_le (by rw [← HM.out]; omega)] at this
          have hs := HS.out
          rw [if_neg hnm] at hs
          have HS2 := Lib.hid hs
          clear hnm hs HC
          gi_wp2
          exact ⟨⟨k + 1, by omega, by go_num, Lib.hid (by rw [HS2.out]; exact HJk.out)⟩, by simp [intOf]; omega⟩
    · obtain rfl : k = N := by omega
      gi_wp2
      simp only [Exit.noGoto_normal]
      go_end0
      exact ⟨⟨_, rfl⟩, HJk.out⟩
end Go.Proofs.Ytbgigkamlnchcaa
