
/-
  Clone of a row of numbers; New.
-/
import Derived.Test.YtikelkfinjcgaaaLkR
import Derived.Test.YtikelkfinjcgaaaRegInv
import Derived.Deep.OwnRows
import Derived.Lib.LazyBuf
set_option linter.unusedVariables false
set_option linter.unusedSimpArgs false
namespace Go.Proofs.Ytikelkfinjcgaaa
open Go.RowKit Plain

theorem all_int9 (l : List Int) : ∀ u ∈ l.map EnI, u.oneCell' = true := fun u hu => by
  obtain ⟨x, _, rfl⟩ := List.mem_map.1 hu
  rfl
set_option maxRecDepth 100000 in
set_option maxHeartbeats 2000000 in
theorem clone_any (w : World) (D : Nat → Prop) (A : Option Addr) (c : Nat) (l : List Int) (hr : RN w D A c l) (n : Nat) (hn : l.length = n) (hK : n ≤ 1000000) (hA : A = none → c = 0) :
    Calls Try.prog 35 #[.slice A n c] w fun e w' => ∃ v, e = .returned v ∧ OwnI w' w.heap.size v l ∧ Below w.heap.size w w' := by
  obtain ⟨i0, hi0, hz0, hz1, hz2⟩ := info_parts info_int
  have hreads := hr.reads
  rw [hn] at hreads
  cases A with
  | none =>
    have hn0 : n = 0 := by
      rcases Nat.eq_zero_or_pos n with h0 | h0
      · exact h0
      · obtain ⟨ad, e, _⟩ := hreads.2 h0
        cases e
    have hc0 := hA rfl
    subst hn0 hc0
    have hl0 : l = [] := List.eq_nil_of_length_eq_zero hn
    subst hl0
    clear hr hreads hn
    have heq := fun W => (Go.run_eql_slice_nil (P := Try.prog) W 22 3 none 0 0 Try.underlying22).trans rfl
    simp only [Option.isNone_none] at heq
    go_enter Try.func35, Try.ntmps35
    go_wp2_with fail
    go_ret
    exact ⟨_, rfl, OwnI.nil _ _, Below.refl _ _⟩
  | some ad =>
    have HR := Lib.hid hreads; have HN := Lib.hid hn
    clear hr hreads hn hA
    have heq := fun W => (Go.run_eql_slice_nil (P := Try.prog) W 22 3 (some ad) n c Try.underlying22)
    simp only [Option.isNone_some] at heq
    go_enter Try.func35, Try.ntmps35
    go_wp2_with (at_builtin; go_must (refine wpList_append_any _ rfl (.tmp 5) (.tmp 6) _ rfl w.heap.size 3 i0 _ 1 8 Try.underlying22 hi0 hz0 hz1 hz2 rfl (by decide) _ 0 [] rfl ?c0 _ _ n c (l.map EnI) rfl (HR.out.alloc (Nat.le_refl _) _) (all_int9 l) ?c1 ?c2 ?c3 ?c4))
    case c0 => exact ⟨rfl, .inr ⟨w.heap.size, 0, _, rfl, Nat.le_refl _, heap_alloc_new w _, by simp, by unfold maxLen; omega, by simp, by simp⟩⟩
    case c1 => unfold maxLen; omega
    case c2 => omega
    case c3 => simp
    case c4 =>
    intro v' w' hown hg hat
    have hown2 : OwnI w' w.heap.size v' l := by
      unfold OwnI
      rw [HN.out]
      simpa using hown
    have hb : Below w.heap.size w w' := ((Below.refl _ w).alloc (Nat.le_refl _) _).grown hg (by simp) (by simp [Value.ownBlock])
    have HO := Lib.hid hown2; have HB := Lib.hid hb
    clear hown hg hat hown2 hb
    go_wp2_with fail
    go_ret
    exact ⟨_, rfl, HO.out, HB.out⟩
theorem info_sl9 : (Try.prog.info? 22).map (fun i => (i.zero, i.size, i.bytes)) = some (some (.slice none 0 0), 1, 24) := by kernel_rfl
/-- Slots, one of them anew. -/
def upd (u : Nat → Value) (k : Nat) (v : Value) : Nat → Value := fun s => if s = k then v else u s
abbrev NewA (p q : Int) (sv : Value) (bb : Nat) (u : Nat → Value) : Act :=
  { tmps := #[.int .i64 p, .int .i64 q, sv, undef, undef, undef, .pointer (some ⟨bb, 0, none⟩), .int .i64 p, .int .i64 p, .int .i64 q, .int .i64 q, u 11, u 12, u 13, u 14, u 15, u 16, u 17, u 18, u 19, u 20, u 21, u 22, u 23], defers := [] }
abbrev NilS : Value := .slice none 0 0
/-- What stands, of what is listed. -/
structure NI (wb : World) (p q n : Nat) (A : Option Addr) (c : Nat) (l : List Int) (L : Array Bool) (u : Nat → Value) (w : World) : Prop where
  bel : Below wb.heap.size wb w
  m0 : L.getD 0 false = true → ∃ g, u 11 = .slice (some ⟨g, 0, none⟩) 1 1 ∧ w.cell? ⟨g, 0, none⟩ = some (.int .i64 (-1)) ∧ g < w.heap.size
  m1 : L.getD 1 false = true → u 12 = .int .i64 (p : Int)
  m2 : L.getD 2 false = true → OwnI w wb.heap.size (u 13) (List.replicate p (-1))
  m3 : L.getD 3 false = true → u 14 = .int .i64 (p : Int)
  m4 : L.getD 4 false = true → w.ownsRow wb.heap.size 22 1 (u 15) p (List.replicate p NilS)
  m5 : L.getD 5 false = true → u 16 = .int .i64 (q : Int)
  m6 : L.getD 6 false = true → w.ownsRow wb.heap.size 22 1 (u 17) q (List.replicate q NilS)
  m7 : L.getD 7 false = true → u 18 = .slice A n c
  m8 : L.getD 8 false = true → OwnI w wb.heap.size (u 19) l
  m9 : L.getD 9 false = true → u 20 = .slice A n c
  m10 : L.getD 10 false = true → u 21 = .int .i64 (n : Int)
  m11 : L.getD 11 false = true → w.ownsRow wb.heap.size 22 1 (u 22) n (List.replicate n NilS)
  d1 : L.getD 2 false = true → L.getD 8 false = true → ∀ k, (u 13).ownBlock = some k → (u 19).ownBlock ≠ some k
  d2 : L.getD 4 false = true → L.getD 6 false = true → ∀ k, (u 15).ownBlock = some k → (u 17).ownBlock ≠ some k
  d3 : L.getD 4 false = true → L.getD 11 false = true → ∀ k, (u 15).ownBlock = some k → (u 22).ownBlock ≠ some k
  d4 : L.getD 6 false = true → L.getD 11 false = true → ∀ k, (u 17).ownBlock = some k → (u 22).ownBlock ≠ some k
section
variable {wb : World} {p q n : Nat} {A : Option Addr} {c : Nat} {l : List Int} {L : Array Bool} {u : Nat → Value} {w w' : World}
theorem own_later {w w' : World} {base : Nat} {e : TypeId} {n : Nat} {v : Value} {xs : List Value} (h : w.ownsRow base e 1 v n xs) (hb : Below w.heap.size w w') : w'.ownsRow base e 1 v n xs :=
  (Fr.of_below hb).own h (fun i hi e => by have := own_blk h hi; omega)
theorem NI.later (h : NI wb p q n A c l L u w) (hb : Below w.heap.size w w') : NI wb p q n A c l L u w' := by
  obtain ⟨b, m0, m1, m2, m3, m4, m5, m6, m7, m8, m9, m10, m11, d1, d2, d3, d4⟩ := h
  have hz := hb.size
  refine ⟨b.trans (hb.mono b.size), fun h => ?_, m1, fun h => own_later (m2 h) hb, m3, fun h => own_later (m4 h) hb, m5, fun h => own_later (m6 h) hb, m7, fun h => own_later (m8 h) hb, m9, m10, fun h => own_later (m11 h) hb, d1, d2, d3, d4⟩
  obtain ⟨g, h1, h2, h3⟩ := m0 h
  exact ⟨g, h1, (hb.cell (p := ⟨g, 0, none⟩) h3).trans h2, by omega⟩
theorem NI.put0 (h : NI wb p q n A c l L u w) {v : Value} (new : ∃ g, v = .slice (some ⟨g, 0, none⟩) 1 1 ∧ w.cell? ⟨g, 0, none⟩ = some (.int .i64 (-1)) ∧ g < w.heap.size) : NI wb p q n A c l (L.setIfInBounds 0 true) (upd u 11 v) w :=
  ⟨h.bel, fun _ => new, fun hL => h.m1 (by rwa [getD_set_ne false (by decide)] at hL), fun hL => h.m2 (by rwa [getD_set_ne false (by decide)] at hL), fun hL => h.m3 (by rwa [getD_set_ne false (by decide)] at hL), fun hL => h.m4 (by rwa [getD_set_ne false (by decide)] at hL), fun hL => h.m5 (by rwa [getD_set_ne false (by decide)] at hL), fun hL => h.m6 (by rwa [getD_set_ne false (by decide)] at hL), fun hL => h.m7 (by rwa [getD_set_ne false (by decide)] at hL), fun hL => h.m8 (by rwa [getD_set_ne false (by decide)] at hL), fun hL => h.m9 (by rwa [getD_set_ne false (by decide)] at hL), fun hL => h.m10 (by rwa [getD_set_ne false (by decide)] at hL), fun hL => h.m11 (by rwa [getD_set_ne false (by decide)] at hL), fun hL hM => h.d1 (by rwa [getD_set_ne false (by decide)] at hL) (by rwa [getD_set_ne false (by decide)] at hM), fun hL hM => h.d2 (by rwa [getD_set_ne false (by decide)] at hL) (by rwa [getD_set_ne false (by decide)] at hM), fun hL hM => h.d3 (by rwa [getD_set_ne false (by decide)] at hL) (by rwa [getD_set_ne false (by decide)] at hM), fun hL hM => h.d4 (by rwa [getD_set_ne false (by decide)] at hL) (by rwa [getD_set_ne false (by decide)] at hM)⟩
theorem NI.put1 (h : NI wb p q n A c l L u w) {v : Value} (new : v = .int .i64 (p : Int)) : NI wb p q n A c l (L.setIfInBounds 1 true) (upd u 12 v) w :=
  ⟨h.bel, fun hL => h.m0 (by rwa [getD_set_ne false (by decide)] at hL), fun _ => new, fun hL => h.m2 (by rwa [getD_set_ne false (by decide)] at hL), fun hL => h.m3 (by rwa [getD_set_ne false (by decide)] at hL), fun hL => h.m4 (by rwa [getD_set_ne false (by decide)] at hL), fun hL => h.m5 (by rwa [getD_set_ne false (by decide)] at hL), fun hL => h.m6 (by rwa [getD_set_ne false (by decide)] at hL), fun hL => h.m7 (by rwa [getD_set_ne false (by decide)] at hL), fun hL => h.m8 (by rwa [getD_set_ne false (by decide)] at hL), fun hL => h.m9 (by rwa [getD_set_ne false (by decide)] at hL), fun hL => h.m10 (by rwa [getD_set_ne false (by decide)] at hL), fun hL => h.m11 (by rwa [getD_set_ne false (by decide)] at hL), fun hL hM => h.d1 (by rwa [getD_set_ne false (by decide)] at hL) (by rwa [getD_set_ne false (by decide)] at hM), fun hL hM => h.d2 (by rwa [getD_set_ne false (by decide)] at hL) (by rwa [getD_set_ne false (by decide)] at hM), fun hL hM => h.d3 (by rwa [getD_set_ne false (by decide)] at hL) (by rwa [getD_set_ne false (by decide)] at hM), fun hL hM => h.d4 (by rwa [getD_set_ne false (by decide)] at hL) (by rwa [getD_set_ne false (by decide)] at hM)⟩
theorem NI.put2 (h : NI wb p q n A c l L u w) {v : Value} (new : OwnI w wb.heap.size v (List.replicate p (-1))) (e1 : L.getD 8 false = true → ∀ k, v.ownBlock = some k → (u 19).ownBlock ≠ some k) : NI wb p q n A c l (L.setIfInBounds 2 true) (upd u 13 v) w :=
  ⟨h.bel, fun hL => h.m0 (by rwa [getD_set_ne false (by decide)] at hL), fun hL => h.m1 (by rwa [getD_set_ne false (by decide)] at hL), fun _ => new, fun hL => h.m3 (by rwa [getD_set_ne false (by decide)] at hL), fun hL => h.m4 (by rwa [getD_set_ne false (by decide)] at hL), fun hL => h.m5 (by rwa [getD_set_ne false (by decide)] at hL), fun hL => h.m6 (by rwa [getD_set_ne false (by decide)] at hL), fun hL => h.m7 (by rwa [getD_set_ne false (by decide)] at hL), fun hL => h.m8 (by rwa [getD_set_ne false (by decide)] at hL), fun hL => h.m9 (by rwa [getD_set_ne false (by decide)] at hL), fun hL => h.m10 (by rwa [getD_set_ne false (by decide)] at hL), fun hL => h.m11 (by rwa [getD_set_ne false (by decide)] at hL), fun _ hL k hk => e1 (by rwa [getD_set_ne false (by decide)] at hL) k hk, fun hL hM => h.d2 (by rwa [getD_set_ne false (by decide)] at hL) (by rwa [getD_set_ne false (by decide)] at hM), fun hL hM => h.d3 (by rwa [getD_set_ne false (by decide)] at hL) (by rwa [getD_set_ne false (by decide)] at hM), fun hL hM => h.d4 (by rwa [getD_set_ne false (by decide)] at hL) (by rwa [getD_set_ne false (by decide)] at hM)⟩
theorem NI.put3 (h : NI wb p q n A c l L u w) {v : Value} (new : v = .int .i64 (p : Int)) : NI wb p q n A c l (L.setIfInBounds 3 true) (upd u 14 v) w :=
  ⟨h.bel, fun hL => h.m0 (by rwa [getD_set_ne false (by decide)] at hL), fun hL => h.m1 (by rwa [getD_set_ne false (by decide)] at hL), fun hL => h.m2 (by rwa [getD_set_ne false (by decide)] at hL), fun _ => new, fun hL => h.m4 (by rwa [getD_set_ne false (by decide)] at hL), fun hL => h.m5 (by rwa [getD_set_ne false (by decide)] at hL), fun hL => h.m6 (by rwa [getD_set_ne false (by decide)] at hL), fun hL => h.m7 (by rwa [getD_set_ne false (by decide)] at hL), fun hL => h.m8 (by rwa [getD_set_ne false (by decide)] at hL), fun hL => h.m9 (by rwa [getD_set_ne false (by decide)] at hL), fun hL => h.m10 (by rwa [getD_set_ne false (by decide)] at hL), fun hL => h.m11 (by rwa [getD_set_ne false (by decide)] at hL), fun hL hM => h.d1 (by rwa [getD_set_ne false (by decide)] at hL) (by rwa [getD_set_ne false (by decide)] at hM), fun hL hM => h.d2 (by rwa [getD_set_ne false (by decide)] at hL) (by rwa [getD_set_ne false (by decide)] at hM), fun hL hM => h.d3 (by rwa [getD_set_ne false (by decide)] at hL) (by rwa [getD_set_ne false (by decide)] at hM), fun hL hM => h.d4 (by rwa [getD_set_ne false (by decide)] at hL) (by rwa [getD_set_ne false (by decide)] at hM)⟩
theorem NI.put4 (h : NI wb p q n A c l L u w) {v : Value} (new : w.ownsRow wb.heap.size 22 1 v p (List.replicate p NilS)) (e2 : L.getD 6 false = true → ∀ k, v.ownBlock = some k → (u 17).ownBlock ≠ some k) (e3 : L.getD 11 false = true → ∀ k, v.ownBlock = some k → (u 22).ownBlock ≠ some k) : NI wb p q n A c l (L.setIfInBounds 4 true) (upd u 15 v) w :=
  ⟨h.bel, fun hL => h.m0 (by rwa [getD_set_ne false (by decide)] at hL), fun hL => h.m1 (by rwa [getD_set_ne false (by decide)] at hL), fun hL => h.m2 (by rwa [getD_set_ne false (by decide)] at hL), fun hL => h.m3 (by rwa [getD_set_ne false (by decide)] at hL), fun _ => new, fun hL => h.m5 (by rwa [getD_set_ne false (by decide)] at hL), fun hL => h.m6 (by rwa [getD_set_ne false (by decide)] at hL), fun hL => h.m7 (by rwa [getD_set_ne false (by decide)] at hL), fun hL => h.m8 (by rwa [getD_set_ne false (by decide)] at hL), fun hL => h.m9 (by rwa [getD_set_ne false (by decide)] at hL), fun hL => h.m10 (by rwa [getD_set_ne false (by decide)] at hL), fun hL => h.m11 (by rwa [getD_set_ne false (by decide)] at hL), fun hL hM => h.d1 (by rwa [getD_set_ne false (by decide)] at hL) (by rwa [getD_set_ne false (by decide)] at hM), fun _ hL k hk => e2 (by rwa [getD_set_ne false (by decide)] at hL) k hk, fun _ hL k hk => e3 (by rwa [getD_set_ne false (by decide)] at hL) k hk, fun hL hM => h.d4 (by rwa [getD_set_ne false (by decide)] at hL) (by rwa [getD_set_ne false (by decide)] at hM)⟩
theorem NI.put5 (h : NI wb p q n A c l L u w) {v : Value} (new : v = .int .i64 (q : Int)) : NI wb p q n A c l (L.setIfInBounds 5 true) (upd u 16 v) w :=
  ⟨h.bel, fun hL => h.m0 (by rwa [getD_set_ne false (by decide)] at hL), fun hL => h.m1 (by rwa [getD_set_ne false (by decide)] at hL), fun hL => h.m2 (by rwa [getD_set_ne false (by decide)] at hL), fun hL => h.m3 (by rwa [getD_set_ne false (by decide)] at hL), fun hL => h.m4 (by rwa [getD_set_ne false (by decide)] at hL), fun _ => new, fun hL => h.m6 (by rwa [getD_set_ne false (by decide)] at hL), fun hL => h.m7 (by rwa [getD_set_ne false (by decide)] at hL), fun hL => h.m8 (by rwa [getD_set_ne false (by decide)] at hL), fun hL => h.m9 (by rwa [getD_set_ne false (by decide)] at hL), fun hL => h.m10 (by rwa [getD_set_ne false (by decide)] at hL), fun hL => h.m11 (by rwa [getD_set_ne false (by decide)] at hL), fun hL hM => h.d1 (by rwa [getD_set_ne false (by decide)] at hL) (by rwa [getD_set_ne false (by decide)] at hM), fun hL hM => h.d2 (by rwa [getD_set_ne false (by decide)] at hL) (by rwa [getD_set_ne false (by decide)] at hM), fun hL hM => h.d3 (by rwa [getD_set_ne false (by decide)] at hL) (by rwa [getD_set_ne false (by decide)] at hM), fun hL hM => h.d4 (by rwa [getD_set_ne false (by decide)] at hL) (by rwa [getD_set_ne false (by decide)] at hM)⟩
theorem NI.put6 (h : NI wb p q n A c l L u w) {v : Value} (new : w.ownsRow wb.heap.size 22 1 v q (List.replicate q NilS)) (e2 : L.getD 4 false = true → ∀ k, v.ownBlock = some k → (u 15).ownBlock ≠ some k) (e4 : L.getD 11 false = true → ∀ k, v.ownBlock = some k → (u 22).ownBlock ≠ some k) : NI wb p q n A c l (L.setIfInBounds 6 true) (upd u 17 v) w :=
  ⟨h.bel, fun hL => h.m0 (by rwa [getD_set_ne false (by decide)] at hL), fun hL => h.m1 (by rwa [getD_set_ne false (by decide)] at hL), fun hL => h.m2 (by rwa [getD_set_ne false (by decide)] at hL), fun hL => h.m3 (by rwa [getD_set_ne false (by decide)] at hL), fun hL => h.m4 (by rwa [getD_set_ne false (by decide)] at hL), fun hL => h.m5 (by rwa [getD_set_ne false (by decide)] at hL), fun _ => new, fun hL => h.m7 (by rwa [getD_set_ne false (by decide)] at hL), fun hL => h.m8 (by rwa [getD_set_ne false (by decide)] at hL), fun hL => h.m9 (by rwa [getD_set_ne false (by decide)] at hL), fun hL => h.m10 (by rwa [getD_set_ne false (by decide)] at hL), fun hL => h.m11 (by rwa [getD_set_ne false (by decide)] at hL), fun hL hM => h.d1 (by rwa [getD_set_ne false (by decide)] at hL) (by rwa [getD_set_ne false (by decide)] at hM), fun hL _ k hk hk2 => e2 (by rwa [getD_set_ne false (by decide)] at hL) k hk2 hk, fun hL hM => h.d3 (by rwa [getD_set_ne false (by decide)] at hL) (by rwa [getD_set_ne false (by decide)] at hM), fun _ hL k hk => e4 (by rwa [getD_set_ne false (by decide)] at hL) k hk⟩
theorem NI.put7 (h : NI wb p q n A c l L u w) {v : Value} (new : v = .slice A n c) : NI wb p q n A c l (L.setIfInBounds 7 true) (upd u 18 v) w :=
  ⟨h.bel, fun hL => h.m0 (by rwa [getD_set_ne false (by decide)] at hL), fun hL => h.m1 (by rwa [getD_set_ne false (by decide)] at hL), fun hL => h.m2 (by rwa [getD_set_ne false (by decide)] at hL), fun hL => h.m3 (by rwa [getD_set_ne false (by decide)] at hL), fun hL => h.m4 (by rwa [getD_set_ne false (by decide)] at hL), fun hL => h.m5 (by rwa [getD_set_ne false (by decide)] at hL), fun hL => h.m6 (by rwa [getD_set_ne false (by decide)] at hL), fun _ => new, fun hL => h.m8 (by rwa [getD_set_ne false (by decide)] at hL), fun hL => h.m9 (by rwa [getD_set_ne false (by decide)] at hL), fun hL => h.m10 (by rwa [getD_set_ne false (by decide)] at hL), fun hL => h.m11 (by rwa [getD_set_ne false (by decide)] at hL), fun hL hM => h.d1 (by rwa [getD_set_ne false (by decide)] at hL) (by rwa [getD_set_ne false (by decide)] at hM), fun hL hM => h.d2 (by rwa [getD_set_ne false (by decide)] at hL) (by rwa [getD_set_ne false (by decide)] at hM), fun hL hM => h.d3 (by rwa [getD_set_ne false (by decide)] at hL) (by rwa [getD_set_ne false (by decide)] at hM), fun hL hM => h.d4 (by rwa [getD_set_ne false (by decide)] at hL) (by rwa [getD_set_ne false (by decide)] at hM)⟩
theorem NI.put8 (h : NI wb p q n A c l L u w) {v : Value} (new : OwnI w wb.heap.size v l) (e1 : L.getD 2 false = true → ∀ k, v.ownBlock = some k → (u 13).ownBlock ≠ some k) : NI wb p q n A c l (L.setIfInBounds 8 true) (upd u 19 v) w :=
  ⟨h.bel, fun hL => h.m0 (by rwa [getD_set_ne false (by decide)] at hL), fun hL => h.m1 (by rwa [getD_set_ne false (by decide)] at hL), fun hL => h.m2 (by rwa [getD_set_ne false (by decide)] at hL), fun hL => h.m3 (by rwa [getD_set_ne false (by decide)] at hL), fun hL => h.m4 (by rwa [getD_set_ne false (by decide)] at hL), fun hL => h.m5 (by rwa [getD_set_ne false (by decide)] at hL), fun hL => h.m6 (by rwa [getD_set_ne false (by decide)] at hL), fun hL => h.m7 (by rwa [getD_set_ne false (by decide)] at hL), fun _ => new, fun hL => h.m9 (by rwa [getD_set_ne false (by decide)] at hL), fun hL => h.m10 (by rwa [getD_set_ne false (by decide)] at hL), fun hL => h.m11 (by rwa [getD_set_ne false (by decide)] at hL), fun hL _ k hk hk2 => e1 (by rwa [getD_set_ne false (by decide)] at hL) k hk2 hk, fun hL hM => h.d2 (by rwa [getD_set_ne false (by decide)] at hL) (by rwa [getD_set_ne false (by decide)] at hM), fun hL hM => h.d3 (by rwa [getD_set_ne false (by decide)] at hL) (by rwa [getD_set_ne false (by decide)] at hM), fun hL hM => h.d4 (by rwa [getD_set_ne false (by decide)] at hL) (by rwa [getD_set_ne false (by decide)] at hM)⟩
theorem NI.put9 (h : NI wb p q n A c l L u w) {v : Value} (new : v = .slice A n c) : NI wb p q n A c l (L.setIfInBounds 9 true) (upd u 20 v) w :=
  ⟨h.bel, fun hL => h.m0 (by rwa [getD_set_ne false (by decide)] at hL), fun hL => h.m1 (by rwa [getD_set_ne false (by decide)] at hL), fun hL => h.m2 (by rwa [getD_set_ne false (by decide)] at hL), fun hL => h.m3 (by rwa [getD_set_ne false (by decide)] at hL), fun hL => h.m4 (by rwa [getD_set_ne false (by decide)] at hL), fun hL => h.m5 (by rwa [getD_set_ne false (by decide)] at hL), fun hL => h.m6 (by rwa [getD_set_ne false (by decide)] at hL), fun hL => h.m7 (by rwa [getD_set_ne false (by decide)] at hL), fun hL => h.m8 (by rwa [getD_set_ne false (by decide)] at hL), fun _ => new, fun hL => h.m10 (by rwa [getD_set_ne false (by decide)] at hL), fun hL => h.m11 (by rwa [getD_set_ne false (by decide)] at hL), fun hL hM => h.d1 (by rwa [getD_set_ne false (by decide)] at hL) (by rwa [getD_set_ne false (by decide)] at hM), fun hL hM => h.d2 (by rwa [getD_set_ne false (by decide)] at hL) (by rwa [getD_set_ne false (by decide)] at hM), fun hL hM => h.d3 (by rwa [getD_set_ne false (by decide)] at hL) (by rwa [getD_set_ne false (by decide)] at hM), fun hL hM => h.d4 (by rwa [getD_set_ne false (by decide)] at hL) (by rwa [getD_set_ne false (by decide)] at hM)⟩
theorem NI.put10 (h : NI wb p q n A c l L u w) {v : Value} (new : v = .int .i64 (n : Int)) : NI wb p q n A c l (L.setIfInBounds 10 true) (upd u 21 v) w :=
  ⟨h.bel, fun hL => h.m0 (by rwa [getD_set_ne false (by decide)] at hL), fun hL => h.m1 (by rwa [getD_set_ne false (by decide)] at hL), fun hL => h.m2 (by rwa [getD_set_ne false (by decide)] at hL), fun hL => h.m3 (by rwa [getD_set_ne false (by decide)] at hL), fun hL => h.m4 (by rwa [getD_set_ne false (by decide)] at hL), fun hL => h.m5 (by rwa [getD_set_ne false (by decide)] at hL), fun hL => h.m6 (by rwa [getD_set_ne false (by decide)] at hL), fun hL => h.m7 (by rwa [getD_set_ne false (by decide)] at hL), fun hL => h.m8 (by rwa [getD_set_ne false (by decide)] at hL), fun hL => h.m9 (by rwa [getD_set_ne false (by decide)] at hL), fun _ => new, fun hL => h.m11 (by rwa [getD_set_ne false (by decide)] at hL), fun hL hM => h.d1 (by rwa [getD_set_ne false (by decide)] at hL) (by rwa [getD_set_ne false (by decide)] at hM), fun hL hM => h.d2 (by rwa [getD_set_ne false (by decide)] at hL) (by rwa [getD_set_ne false (by decide)] at hM), fun hL hM => h.d3 (by rwa [getD_set_ne false (by decide)] at hL) (by rwa [getD_set_ne false (by decide)] at hM), fun hL hM => h.d4 (by rwa [getD_set_ne false (by decide)] at hL) (by rwa [getD_set_ne false (by decide)] at hM)⟩
theorem NI.put11 (h : NI wb p q n A c l L u w) {v : Value} (new : w.ownsRow wb.heap.size 22 1 v n (List.replicate n NilS)) (e3 : L.getD 4 false = true → ∀ k, v.ownBlock = some k → (u 15).ownBlock ≠ some k) (e4 : L.getD 6 false = true → ∀ k, v.ownBlock = some k → (u 17).ownBlock ≠ some k) : NI wb p q n A c l (L.setIfInBounds 11 true) (upd u 22 v) w :=
  ⟨h.bel, fun hL => h.m0 (by rwa [getD_set_ne false (by decide)] at hL), fun hL => h.m1 (by rwa [getD_set_ne false (by decide)] at hL), fun hL => h.m2 (by rwa [getD_set_ne false (by decide)] at hL), fun hL => h.m3 (by rwa [getD_set_ne false (by decide)] at hL), fun hL => h.m4 (by rwa [getD_set_ne false (by decide)] at hL), fun hL => h.m5 (by rwa [getD_set_ne false (by decide)] at hL), fun hL => h.m6 (by rwa [getD_set_ne false (by decide)] at hL), fun hL => h.m7 (by rwa [getD_set_ne false (by decide)] at hL), fun hL => h.m8 (by rwa [getD_set_ne false (by decide)] at hL), fun hL => h.m9 (by rwa [getD_set_ne false (by decide)] at hL), fun hL => h.m10 (by rwa [getD_set_ne false (by decide)] at hL), fun _ => new, fun hL hM => h.d1 (by rwa [getD_set_ne false (by decide)] at hL) (by rwa [getD_set_ne false (by decide)] at hM), fun hL hM => h.d2 (by rwa [getD_set_ne false (by decide)] at hL) (by rwa [getD_set_ne false (by decide)] at hM), fun hL _ k hk hk2 => e3 (by rwa [getD_set_ne false (by decide)] at hL) k hk2 hk, fun hL _ k hk hk2 => e4 (by rwa [getD_set_ne false (by decide)] at hL) k hk2 hk⟩
end
/-- What New's box holds at the end. -/
abbrev NewC (u : Nat → Value) : Array Value := #[.int .i64 0, .slice none 0 0, u 13, u 19, .slice none 0 0, u 15, u 17, u 22, .slice none 0 0, .slice none 0 0]
def NewI (wb : World) (bb : Nat) (p q n : Nat) (A : Option Addr) (c : Nat) (l : List Int) (L : Array Bool) (a : Act) (w : World) : Prop :=
  ∃ u, a = NewA p q (.slice A n c) bb u ∧
    ((L.getD 13 false = false ∧ NI wb p q n A c l L u w ∧ (L.getD 12 false = true → (∀ j, j < 12 → L.getD j false = true) ∧ u 23 = .agg (NewC u))) ∨
     (L.getD 13 false = true ∧ (∀ j, j < 13 → L.getD j false = true) ∧ ∃ w1, NI wb p q n A c l L u w1 ∧ w = w1.setRow bb (NewC u)))
theorem getD_false_true {L : Array Bool} {i : Nat} (hi : i < L.size) (h : L.getD i true = false) : L.getD i false = false := by
  simp only [Array.getD_eq_getD_getElem?, Array.getElem?_eq_getElem hi, Option.getD_some] at h ⊢
  exact h
theorem getD_of_true {L : Array Bool} {i : Nat} (hi : i < L.size) (h : L.getD i true = true) : L.getD i false = true := by
  simp only [Array.getD_eq_getD_getElem?, Array.getElem?_eq_getElem hi, Option.getD_some] at h ⊢
  exact h
section
variable {wb : World} {bb p q n : Nat} {A : Option Addr} {c : Nat} {l : List Int} {L : Array Bool} {a : Act} {w : World}
theorem NewI.early {i : Nat} (h : NewI wb bb p q n A c l L a w) (hi : i < 12) (hs : L.size = 14) (hL : L.getD i true = false) : ∃ u, a = NewA p q (.slice A n c) bb u ∧ NI wb p q n A c l L u w ∧ L.getD 13 false = false ∧ L.getD 12 false = false := by
  obtain ⟨u, ha, h | h⟩ := h
  · refine ⟨u, ha, h.2.1, h.1, ?_⟩
    rcases hb : L.getD 12 false with _ | _
    · rfl
    · have := (h.2.2 hb).1 i hi
      rw [getD_false_true (by omega) hL] at this
      exact Bool.noConfusion this
  · have := h.2.1 i (by omega)
    rw [getD_false_true (by omega) hL] at this
    exact Bool.noConfusion this
theorem NewI.put {i : Nat} {u : Nat → Value} {v : Value} (hi : i < 12) (h13 : L.getD 13 false = false) (h12 : L.getD 12 false = false) (h : NI wb p q n A c l (L.setIfInBounds i true) (upd u (11 + i) v) w) (ha : a = NewA p q (.slice A n c) bb (upd u (11 + i) v)) : NewI wb bb p q n A c l (L.setIfInBounds i true) a w :=
  ⟨_, ha, .inl ⟨by rw [getD_set_ne false (by omega)]; exact h13, h, fun hL => by
    rw [getD_set_ne false (by omega), h12] at hL
    exact Bool.noConfusion hL⟩⟩
theorem own_made {w : World} {base : Nat} (hb : base ≤ w.heap.size) (m : Nat) (hm : m ≤ 1000) : (w.alloc (.cells (madeCells #[NilS] m) 22)).ownsRow base 22 1 (.slice (some ⟨w.heap.size, 0, none⟩) m m) m (List.replicate m NilS) := by
  have hl : (madeCells #[NilS] m).toList = List.replicate m NilS := made_one _ _
  have hs : (madeCells #[NilS] m).size = m := by
    have := congrArg List.length hl
    simpa using this
  exact ⟨by simp, .inr ⟨w.heap.size, m, _, rfl, hb, heap_alloc_new w _, Nat.le_refl _, by unfold maxLen; omega, by omega, by rw [hl]; exact List.take_of_length_le (by simp)⟩⟩
theorem fresh_ne {w : World} {base n m : Nat} {e : TypeId} {v : Value} {xs : List Value} (h : w.ownsRow base e 1 v n xs) : ∀ k, (Value.slice (some ⟨w.heap.size, 0, none⟩) m m).ownBlock = some k → v.ownBlock ≠ some k := by
  intro k hk hv
  have hk2 : w.heap.size = k := by simpa [Value.ownBlock] using hk
  have := own_blk h hv
  omega
theorem fresh_ne2 {w : World} {base b2 n m : Nat} {e e2 : TypeId} {v v2 : Value} {xs x2 : List Value} {w2 : World} (h : w.ownsRow base e 1 v n xs) (h2 : w2.ownsRow b2 e2 1 v2 m x2) (hb : w.heap.size ≤ b2) : ∀ k, v2.ownBlock = some k → v.ownBlock ≠ some k := by
  intro k hk hv
  have := own_blk h hv
  have := own_blk h2 hk
  omega
theorem own_form_any {w : World} {base n : Nat} {e : TypeId} {v : Value} {xs : List Value} (h : w.ownsRow base e 1 v n xs) : ∃ A c, v = .slice A n c := by
  rcases h.2 with ⟨rfl, h0⟩ | ⟨g, cap, cur, rfl, hb2, hr⟩
  · exact ⟨none, 0, by rw [h0]⟩
  · exact ⟨_, cap, rfl⟩
theorem own_base {w : World} {base b2 n : Nat} {e : TypeId} {v : Value} {xs : List Value} (h : w.ownsRow base e 1 v n xs) (hb : b2 ≤ base) : w.ownsRow b2 e 1 v n xs := by
  refine ⟨h.1, ?_⟩
  rcases h.2 with h0 | ⟨g, cap, cur, rfl, hb2, hr⟩
  · exact .inl h0
  · exact .inr ⟨g, cap, cur, rfl, Nat.le_trans hb hb2, hr⟩
end
theorem NI.put23 {wb : World} {p q n : Nat} {A : Option Addr} {c : Nat} {l : List Int} {L : Array Bool} {u : Nat → Value} {w : World} (h : NI wb p q n A c l L u w) {v : Value} : NI wb p q n A c l (L.setIfInBounds 12 true) (upd u 23 v) w :=
  ⟨h.bel, fun hL => h.m0 (by rwa [getD_set_ne false (by decide)] at hL), fun hL => h.m1 (by rwa [getD_set_ne false (by decide)] at hL), fun hL => h.m2 (by rwa [getD_set_ne false (by decide)] at hL), fun hL => h.m3 (by rwa [getD_set_ne false (by decide)] at hL), fun hL => h.m4 (by rwa [getD_set_ne false (by decide)] at hL), fun hL => h.m5 (by rwa [getD_set_ne false (by decide)] at hL), fun hL => h.m6 (by rwa [getD_set_ne false (by decide)] at hL), fun hL => h.m7 (by rwa [getD_set_ne false (by decide)] at hL), fun hL => h.m8 (by rwa [getD_set_ne false (by decide)] at hL), fun hL => h.m9 (by rwa [getD_set_ne false (by decide)] at hL), fun hL => h.m10 (by rwa [getD_set_ne false (by decide)] at hL), fun hL => h.m11 (by rwa [getD_set_ne false (by decide)] at hL), fun hL hM => h.d1 (by rwa [getD_set_ne false (by decide)] at hL) (by rwa [getD_set_ne false (by decide)] at hM), fun hL hM => h.d2 (by rwa [getD_set_ne false (by decide)] at hL) (by rwa [getD_set_ne false (by decide)] at hM), fun hL hM => h.d3 (by rwa [getD_set_ne false (by decide)] at hL) (by rwa [getD_set_ne false (by decide)] at hM), fun hL hM => h.d4 (by rwa [getD_set_ne false (by decide)] at hL) (by rwa [getD_set_ne false (by decide)] at hM)⟩
set_option maxRecDepth 100000 in
set_option maxHeartbeats 8000000 in
theorem new_any (w : World) (B : Nat) (hB : B ≤ w.heap.size) (D : Nat → Prop) (A : Option Addr) (c : Nat) (l : List Int) (hr : RN w D A c l) (n : Nat) (hn : l.length = n) (hK : n ≤ 1000) (hA : A = none → c = 0) (p q : Nat) (hp : p ≤ 8) (hq : q ≤ 8) :
    Calls Try.prog 15 #[.int .i64 (p : Int), .int .i64 (q : Int), .slice A n c] w fun e w' => ∃ h : LkH, e = .returned (.agg h.cells) ∧ Below w.heap.size w w' ∧
      OwnI w' w.heap.size h.vo (newV p q l).own ∧ OwnI w' w.heap.size h.vn (newV p q l).cnt ∧ OwnS w' w.heap.size h.D h.vl (newV p q l).lq ∧ OwnS w' w.heap.size h.D h.vw (newV p q l).wq ∧ OwnS w' w.heap.size h.D h.vd (newV p q l).dq ∧
      (∀ k, h.vo.ownBlock = some k → h.vn.ownBlock ≠ some k) ∧ (∀ k, h.vl.ownBlock = some k → h.vw.ownBlock ≠ some k) ∧ (∀ k, h.vl.ownBlock = some k → h.vd.ownBlock ≠ some k) ∧ (∀ k, h.vw.ownBlock = some k → h.vd.ownBlock ≠ some k) ∧ h.c0 = .int .i64 0 ∧ h.c1 = NilS ∧ h.c4 = NilS ∧ h.c8 = NilS ∧ h.c9 = NilS ∧ h.X = (fun _ => False) := by
  have HM := Lib.hid many_any
  have hmk := fun (m : Nat) (hm : m ≤ 1000) => run_make_row' (P := Try.prog) 25 22 NilS 24 Try.underlying25 info_sl9 rfl .i64 .i64 m (by omega) (by omega)
  have mk1 := hmk p (by omega)
  have mk2 := hmk q (by omega)
  have mk3 := hmk n (by omega)
  clear hmk
  have hrep := fun W g h1 h2 => repeat_any W p hp g h1 h2
  have hcl := fun (W : World) (hb : Below w.heap.size w W) => clone_any W D A c l (hr.below hb (Nat.le_refl _)) n hn (by omega) hA
  have HREP := Lib.hid hrep; have HCL := Lib.hid hcl; have HN := Lib.hid hn
  clear hrep hcl hr hn hA
  go_enter Try.func15, Try.ntmps15
  go_wp2_with fail
  refine (HM.out _ p (by omega)).mono ?_
  rintro e w1 ⟨rfl, rfl⟩
  go_wp2_with fail
  refine (HM.out _ q (by omega)).mono ?_
  rintro e w1 ⟨rfl, rfl⟩
  go_wp2_with fail
  obtain ⟨wb, hwb⟩ : ∃ W, W = w.alloc (.cells #[.int .i64 0, .slice none 0 0, .slice none 0 0, .slice none 0 0, .slice none 0 0, .slice none 0 0, .slice none 0 0, .slice none 0 0, .slice none 0 0, .slice none 0 0] 27) := ⟨_, rfl⟩
  have hbox : Blk wb w.heap.size 27 #[.int .i64 0, .slice none 0 0, .slice none 0 0, .slice none 0 0, .slice none 0 0, .slice none 0 0, .slice none 0 0, .slice none 0 0, .slice none 0 0, .slice none 0 0] := by rw [hwb]; exact Blk.new w _ _
  have hwbb : Below w.heap.size w wb := by rw [hwb]; exact (Below.refl _ w).alloc (Nat.le_refl _) _
  have hbs : wb.heap.size = w.heap.size + 1 := by rw [hwb]; simp
  rw [← hwb]
  have HBX := Lib.hid hbox; have HWB := Lib.hid hwbb; have HBS := Lib.hid hbs
  clear hwb hbox hwbb hbs
  refine wp_region_inv (by rfl) (NewI wb w.heap.size p q n A c l) (by kernel_rfl) ?start ?step ?done
  case start =>
    refine ⟨fun _ => undef, rfl, .inl ⟨by rfl, ?_, fun h => absurd h (by decide)⟩⟩
    refine ⟨(Below.refl _ _).drew, ?_, ?_, ?_, ?_, ?_, ?_, ?_, ?_, ?_, ?_, ?_, ?_, ?_, ?_, ?_, ?_⟩ <;> exact fun h => absurd h (by decide)
  case step =>
    intro L a W hL hcl hI i o hi hun haf
    have hlt : i < 14 := (Array.getElem?_eq_some_iff.1 hi).1
    have hcs : i = 0 ∨ i = 1 ∨ i = 2 ∨ i = 3 ∨ i = 4 ∨ i = 5 ∨ i = 6 ∨ i = 7 ∨ i = 8 ∨ i = 9 ∨ i = 10 ∨ i = 11 ∨ i = 12 ∨ i = 13 := by omega
    clear hlt
    rcases hcs with rfl | rfl | rfl | rfl | rfl | rfl | rfl | rfl | rfl | rfl | rfl | rfl | rfl | rfl
    · obtain rfl := Option.some.inj hi
      obtain ⟨u, rfl, hN, h13, h12⟩ := hI.early (by decide) hL hun
      refine wpOp_of rfl rfl ?_
      go_simp
      refine NewI.put (i := 0) (u := u) (v := .slice (some ⟨W.heap.size, 0, none⟩) 1 1) (by decide) h13 h12 ?_ rfl
      exact (hN.later ((Below.refl _ _).alloc (Nat.le_refl _) _)).put0 ⟨_, rfl, by simp, by simp⟩
    · obtain rfl := Option.some.inj hi
      obtain ⟨u, rfl, hN, h13, h12⟩ := hI.early (by decide) hL hun
      refine wpOp_of rfl rfl ?_
      go_simp
      exact NewI.put (i := 1) (u := u) (v := .int .i64 (p : Int)) (by decide) h13 h12 (hN.put1 rfl) rfl
    · obtain rfl := Option.some.inj hi
      obtain ⟨u, rfl, hN, h13, h12⟩ := hI.early (by decide) hL hun
      refine wpOp_of rfl rfl ?_
      obtain ⟨g, e0, e1, e2⟩ := hN.m0 (haf ⟨0, .data⟩ (by simp) rfl)
      have e3 := hN.m1 (haf ⟨1, .data⟩ (by simp) rfl)
      go_simp
      refine (HREP.out W g e1 e2).mono ?_
      rintro e w3 ⟨v, rfl, h1, h2⟩
      have hN2 := hN.later h2
      have hz := hN.bel.size
      exact NewI.put (i := 2) (u := u) (v := v) (by decide) h13 h12 (hN2.put2 (own_base h1 hz) (fun hL2 => fresh_ne2 (hN.m8 hL2) h1 (Nat.le_refl _))) (by first | rfl | (simp [NewA, upd, e0, e3]; done))
    · obtain rfl := Option.some.inj hi
      obtain ⟨u, rfl, hN, h13, h12⟩ := hI.early (by decide) hL hun
      refine wpOp_of rfl rfl ?_
      go_simp
      exact NewI.put (i := 3) (u := u) (v := .int .i64 (p : Int)) (by decide) h13 h12 (hN.put3 rfl) rfl
    · obtain rfl := Option.some.inj hi
      obtain ⟨u, rfl, hN, h13, h12⟩ := hI.early (by decide) hL hun
      refine wpOp_of rfl rfl ?_
      have e3 := hN.m3 (haf ⟨3, .data⟩ (by simp) rfl)
      go_simp
      have hN2 := hN.later ((Below.refl _ _).alloc (Nat.le_refl _) (.cells (madeCells #[NilS] p) 22))
      have hz := hN.bel.size
      exact NewI.put (i := 4) (u := u) (v := .slice (some ⟨W.heap.size, 0, none⟩) p p) (by decide) h13 h12 (hN2.put4 (own_made hz p (by omega)) (fun hL2 k hk => fresh_ne (hN.m6 hL2) k hk) (fun hL2 k hk => fresh_ne (hN.m11 hL2) k hk)) (by first | rfl | (simp [NewA, upd, e3]; done))
    · obtain rfl := Option.some.inj hi
      obtain ⟨u, rfl, hN, h13, h12⟩ := hI.early (by decide) hL hun
      refine wpOp_of rfl rfl ?_
      go_simp
      exact NewI.put (i := 5) (u := u) (v := .int .i64 (q : Int)) (by decide) h13 h12 (hN.put5 rfl) rfl
    · obtain rfl := Option.some.inj hi
      obtain ⟨u, rfl, hN, h13, h12⟩ := hI.early (by decide) hL hun
      refine wpOp_of rfl rfl ?_
      have e3 := hN.m5 (haf ⟨5, .data⟩ (by simp) rfl)
      go_simp
      have hN2 := hN.later ((Below.refl _ _).alloc (Nat.le_refl _) (.cells (madeCells #[NilS] q) 22))
      have hz := hN.bel.size
      exact NewI.put (i := 6) (u := u) (v := .slice (some ⟨W.heap.size, 0, none⟩) q q) (by decide) h13 h12 (hN2.put6 (own_made hz q (by omega)) (fun hL2 k hk => fresh_ne (hN.m4 hL2) k hk) (fun hL2 k hk => fresh_ne (hN.m11 hL2) k hk)) (by first | rfl | (simp [NewA, upd, e3]; done))
    · obtain rfl := Option.some.inj hi
      obtain ⟨u, rfl, hN, h13, h12⟩ := hI.early (by decide) hL hun
      refine wpOp_of rfl rfl ?_
      go_simp
      exact NewI.put (i := 7) (u := u) (v := .slice A n c) (by decide) h13 h12 (hN.put7 rfl) rfl
    · obtain rfl := Option.some.inj hi
      obtain ⟨u, rfl, hN, h13, h12⟩ := hI.early (by decide) hL hun
      refine wpOp_of rfl rfl ?_
      have e3 := hN.m7 (haf ⟨7, .data⟩ (by simp) rfl)
      go_simp
      refine (HCL.out W (HWB.out.trans (hN.bel.mono (by rw [HBS.out]; omega)))).mono ?_
      rintro e w3 ⟨v, rfl, h1, h2⟩
      have hN2 := hN.later h2
      have hz := hN.bel.size
      exact NewI.put (i := 8) (u := u) (v := v) (by decide) h13 h12 (hN2.put8 (own_base h1 hz) (fun hL2 => fresh_ne2 (hN.m2 hL2) h1 (Nat.le_refl _))) (by first | rfl | (simp [NewA, upd, e3]; done))
    · obtain rfl := Option.some.inj hi
      obtain ⟨u, rfl, hN, h13, h12⟩ := hI.early (by decide) hL hun
      refine wpOp_of rfl rfl ?_
      go_simp
      exact NewI.put (i := 9) (u := u) (v := .slice A n c) (by decide) h13 h12 (hN.put9 rfl) rfl
    · obtain rfl := Option.some.inj hi
      obtain ⟨u, rfl, hN, h13, h12⟩ := hI.early (by decide) hL hun
      refine wpOp_of rfl rfl ?_
      have e3 := hN.m9 (haf ⟨9, .data⟩ (by simp) rfl)
      go_simp
      exact NewI.put (i := 10) (u := u) (v := .int .i64 (n : Int)) (by decide) h13 h12 (hN.put10 rfl) (by first | rfl | (simp [NewA, upd, e3]; done))
    · obtain rfl := Option.some.inj hi
      obtain ⟨u, rfl, hN, h13, h12⟩ := hI.early (by decide) hL hun
      refine wpOp_of rfl rfl ?_
      have e3 := hN.m10 (haf ⟨10, .data⟩ (by simp) rfl)
      go_simp
      have hN2 := hN.later ((Below.refl _ _).alloc (Nat.le_refl _) (.cells (madeCells #[NilS] n) 22))
      have hz := hN.bel.size
      exact NewI.put (i := 11) (u := u) (v := .slice (some ⟨W.heap.size, 0, none⟩) n n) (by decide) h13 h12 (hN2.put11 (own_made hz n (by omega)) (fun hL2 k hk => fresh_ne (hN.m4 hL2) k hk) (fun hL2 k hk => fresh_ne (hN.m6 hL2) k hk)) (by first | rfl | (simp [NewA, upd, e3]; done))
    · obtain rfl := Option.some.inj hi
      obtain ⟨u, rfl, hI | hI⟩ := hI
      rotate_left
      · have := hI.2.1 12 (by omega)
        rw [getD_false_true (by rw [hL]; decide) hun] at this
        exact Bool.noConfusion this
      obtain ⟨h13, hN, _⟩ := hI
      refine wpOp_of rfl rfl ?_
      have l2 : L.getD 2 false = true := haf ⟨2, .data⟩ (by simp) rfl
      have l4 : L.getD 4 false = true := haf ⟨4, .data⟩ (by simp) rfl
      have l6 : L.getD 6 false = true := haf ⟨6, .data⟩ (by simp) rfl
      have l8 : L.getD 8 false = true := haf ⟨8, .data⟩ (by simp) rfl
      have l11 : L.getD 11 false = true := haf ⟨11, .data⟩ (by simp) rfl
      have l0 : L.getD 0 false = true := hcl 2 _ rfl l2 ⟨0, .data⟩ (by simp) rfl
      have l1 : L.getD 1 false = true := hcl 2 _ rfl l2 ⟨1, .data⟩ (by simp) rfl
      have l3 : L.getD 3 false = true := hcl 4 _ rfl l4 ⟨3, .data⟩ (by simp) rfl
      have l5 : L.getD 5 false = true := hcl 6 _ rfl l6 ⟨5, .data⟩ (by simp) rfl
      have l7 : L.getD 7 false = true := hcl 8 _ rfl l8 ⟨7, .data⟩ (by simp) rfl
      have l10 : L.getD 10 false = true := hcl 11 _ rfl l11 ⟨10, .data⟩ (by simp) rfl
      have l9 : L.getD 9 false = true := hcl 10 _ rfl l10 ⟨9, .data⟩ (by simp) rfl
      obtain ⟨A2, c2, e2⟩ := own_form_any (hN.m2 l2)
      obtain ⟨A4, c4, e4⟩ := own_form_any (hN.m4 l4)
      obtain ⟨A6, c6, e6⟩ := own_form_any (hN.m6 l6)
      obtain ⟨A8, c8, e8⟩ := own_form_any (hN.m8 l8)
      obtain ⟨A11, c11, e11⟩ := own_form_any (hN.m11 l11)
      have hN2 := Lib.hid hN
      clear hN
      go_simp
      refine ⟨upd u 23 (.agg (NewC u)), by simp [NewA, upd, NewC, e2, e4, e6, e8, e11], .inl ⟨by rw [getD_set_ne false (by decide)]; exact h13, hN2.out.put23, fun _ => ⟨fun j hj => ?_, by rfl⟩⟩⟩
      rw [getD_set_ne false (by omega)]
      rcases (by omega : j = 0 ∨ j = 1 ∨ j = 2 ∨ j = 3 ∨ j = 4 ∨ j = 5 ∨ j = 6 ∨ j = 7 ∨ j = 8 ∨ j = 9 ∨ j = 10 ∨ j = 11) with rfl | rfl | rfl | rfl | rfl | rfl | rfl | rfl | rfl | rfl | rfl | rfl <;> assumption
    · obtain rfl := Option.some.inj hi
      obtain ⟨u, rfl, hI | hI⟩ := hI
      rotate_left
      · have := hI.1
        rw [getD_false_true (by rw [hL]; decide) hun] at this
        exact Bool.noConfusion this
      obtain ⟨h13, hN, h12⟩ := hI
      refine wpOp_of rfl rfl ?_
      have l12 : L.getD 12 false = true := haf ⟨12, .data⟩ (by simp) rfl
      obtain ⟨hall, e23⟩ := h12 l12
      have l2 := hall 2 (by omega)
      have l4 := hall 4 (by omega)
      have l6 := hall 6 (by omega)
      have l8 := hall 8 (by omega)
      have l11 := hall 11 (by omega)
      obtain ⟨A2, c2, e2⟩ := own_form_any (hN.m2 l2)
      obtain ⟨A4, c4, e4⟩ := own_form_any (hN.m4 l4)
      obtain ⟨A6, c6, e6⟩ := own_form_any (hN.m6 l6)
      obtain ⟨A8, c8, e8⟩ := own_form_any (hN.m8 l8)
      obtain ⟨A11, c11, e11⟩ := own_form_any (hN.m11 l11)
      have hbl := HBX.out.below hN.bel HBX.out.lt
      refine wp_store_row 27 (.tmp 6) (.tmp 23) rfl w.heap.size (NewC u) rfl e23 27 _ hbl (by kernel_rfl) rfl (by simp [e2, e4, e6, e8, e11, Value.oneCell']) ?_
      refine ⟨u, rfl, .inr ⟨by simp [hL], fun j hj => ?_, W, ?_, rfl⟩⟩
      · rcases Nat.lt_or_ge j 12 with h | h
        · rw [getD_set_ne false (by omega)]
          exact hall j h
        · obtain rfl : j = 12 := by omega
          rw [getD_set_ne false (by omega)]
          exact l12
      · obtain ⟨b, m0, m1, m2, m3, m4, m5, m6, m7, m8, m9, m10, m11, d1, d2, d3, d4⟩ := hN
        have q : ∀ j, j < 13 → (L.setIfInBounds 13 true).getD j false = true → L.getD j false = true := fun j hj h => by rwa [getD_set_ne false (by omega)] at h
        exact ⟨b, fun h => m0 (q _ (by omega) h), fun h => m1 (q _ (by omega) h), fun h => m2 (q _ (by omega) h), fun h => m3 (q _ (by omega) h), fun h => m4 (q _ (by omega) h), fun h => m5 (q _ (by omega) h), fun h => m6 (q _ (by omega) h), fun h => m7 (q _ (by omega) h), fun h => m8 (q _ (by omega) h), fun h => m9 (q _ (by omega) h), fun h => m10 (q _ (by omega) h), fun h => m11 (q _ (by omega) h), fun h h' => d1 (q _ (by omega) h) (q _ (by omega) h'), fun h h' => d2 (q _ (by omega) h) (q _ (by omega) h'), fun h h' => d3 (q _ (by omega) h) (q _ (by omega) h'), fun h h' => d4 (q _ (by omega) h) (q _ (by omega) h')⟩
  case done =>
    intro L a W hL hI hall
    obtain ⟨u, rfl, hI | hI⟩ := hI
    · have := getD_of_true (L := L) (i := 13) (by rw [hL]; decide) (hall 13 (by decide))
      rw [hI.1] at this
      exact Bool.noConfusion this
    obtain ⟨_, h13, w1, hN, rfl⟩ := hI
    have l2 := h13 2 (by omega)
    have l4 := h13 4 (by omega)
    have l6 := h13 6 (by omega)
    have l8 := h13 8 (by omega)
    have l11 := h13 11 (by omega)
    have hz := hN.bel.size
    have hbl := HBX.out.below hN.bel HBX.out.lt
    have hfr := setRow_fr w1 w.heap.size (NewC u)
    have hb2 : Blk (w1.setRow w.heap.size (NewC u)) w.heap.size 27 (NewC u) := setRow_heap w1 w.heap.size _ _ _ _ hbl
    have hbel : Below w.heap.size w (w1.setRow w.heap.size (NewC u)) := (HWB.out.trans (hN.bel.mono (by rw [HBS.out]; omega))).trans (hfr.below (by rw [HBS.out] at hz; omega) (fun i hi => by omega))
    have hown : ∀ {e : TypeId} {v : Value} {m : Nat} {xs : List Value}, w1.ownsRow wb.heap.size e 1 v m xs → (w1.setRow w.heap.size (NewC u)).ownsRow w.heap.size e 1 v m xs := fun h => own_base (hfr.own h (fun i hi e => by have := own_blk h hi; rw [HBS.out] at this; omega)) (by rw [HBS.out]; omega)
    have hrep : ∀ {v : Value} {m : Nat} {D : Nat → Prop}, w1.ownsRow wb.heap.size 22 1 v m (List.replicate m NilS) → OwnS (w1.setRow w.heap.size (NewC u)) w.heap.size D v (List.replicate m []) := fun {v m D} h => by
      refine ⟨List.replicate m NilS, by simpa using hown h, fun i x hi => ?_⟩
      have hlt := (List.getElem?_eq_some_iff.1 hi).1
      simp at hlt
      rw [List.getElem?_replicate_of_lt hlt] at hi
      injection hi with hi
      subst hi
      exact ⟨none, 0, by rw [List.getElem?_replicate_of_lt hlt]; rfl, RN.nil _ _ _ _⟩
    have f1 : OwnI _ w.heap.size (u 13) (List.replicate p (-1)) := hown (hN.m2 l2)
    have f2 : OwnI _ w.heap.size (u 19) l := hown (hN.m8 l8)
    have f3 := fun D => hrep (D := D) (hN.m4 l4)
    have f4 := fun D => hrep (D := D) (hN.m6 l6)
    have f5 := fun D => hrep (D := D) (hN.m11 l11)
    rw [← HN.out] at f5
    have g1 := hN.d1 l2 l8
    have g2 := hN.d2 l4 l6
    have g3 := hN.d3 l4 l11
    have g4 := hN.d4 l6 l11
    have FF := Lib.hid (⟨hb2, hbel, f1, f2, f3, f4, f5, g1, g2, g3, g4⟩ : _ ∧ _ ∧ _ ∧ _ ∧ _ ∧ _ ∧ _ ∧ _ ∧ _ ∧ _ ∧ _)
    clear hb2 hbel f1 f2 f3 f4 f5 g1 g2 g3 g4 hown hrep hfr hbl hz l2 l4 l6 l8 l11 hN h13 hall hL
    generalize w1.setRow w.heap.size (NewC u) = W at *
    obtain ⟨y0, y1, y2, y3, y4, y5, y6, y7, y8, y9, y10⟩ := FF.out
    go_wp2_with fail
    refine bodyPost_ret (v := .agg (NewC u)) (results_cell_row rfl _ _ w.heap.size 27 _ (0, 0) _ rfl y0 Try.underlying27 rfl (by kernel_rfl)) rfl ?_
    exact ⟨⟨0, u 13, u 19, u 15, u 17, u 22, .int .i64 0, NilS, NilS, NilS, NilS, fun _ => False⟩, rfl, y1, y2, y3, y4 _, y5 _, y6 _, y7, y8, y9, y10, rfl, rfl, rfl, rfl, rfl, rfl⟩
end Go.Proofs.Ytikelkfinjcgaaa
