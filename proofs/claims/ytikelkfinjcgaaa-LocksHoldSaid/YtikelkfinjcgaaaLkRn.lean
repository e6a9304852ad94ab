
/-
  The document's New.
-/
import Derived.Test.YtikelkfinjcgaaaLkWs
import Derived.Test.YtikelkfinjcgaaaLkNew
set_option linter.unusedVariables false
set_option linter.unusedSimpArgs false
namespace Go.Proofs.Ytikelkfinjcgaaa
open Go.RowKit Plain

abbrev NewR (p q : Int) (sv : Value) (bb : Nat) (u : Nat → Value) : Act :=
  { tmps := #[.int .i64 p, .int .i64 q, sv, undef, undef, undef, .pointer (some ⟨bb, 0, none⟩), u 7, undef, u 9, u 10, u 11, u 12, u 13, u 14, u 15, u 16, undef, undef, undef, undef, undef, undef, undef, undef, undef, undef, undef, undef, undef, undef, undef, undef], defers := [] }
abbrev NewD (u : Nat → Value) : Array Value := #[.int .i64 0, NilS, NilS, NilS, NilS, u 10, u 12, u 15, NilS, NilS]
structure NR (wb : World) (p q n : Nat) (A : Option Addr) (c : Nat) (L : Array Bool) (u : Nat → Value) (w : World) : Prop where
  bel : Below wb.heap.size wb w
  m0 : L.getD 0 false = true → u 9 = .int .i64 (p : Int)
  m1 : L.getD 1 false = true → w.ownsRow wb.heap.size 22 1 (u 10) p (List.replicate p NilS)
  m2 : L.getD 2 false = true → u 11 = .int .i64 (q : Int)
  m3 : L.getD 3 false = true → w.ownsRow wb.heap.size 22 1 (u 12) q (List.replicate q NilS)
  m4 : L.getD 4 false = true → u 13 = .slice A n c
  m5 : L.getD 5 false = true → u 14 = .int .i64 (n : Int)
  m6 : L.getD 6 false = true → w.ownsRow wb.heap.size 22 1 (u 15) n (List.replicate n NilS)
  m8 : L.getD 8 false = true → ∃ g, u 7 = .pointer (some ⟨g, 0, none⟩) ∧ wb.heap.size ≤ g ∧ Blk w g 27 zeroC
  d1 : L.getD 1 false = true → L.getD 3 false = true → ∀ k, (u 10).ownBlock = some k → (u 12).ownBlock ≠ some k
  d2 : L.getD 1 false = true → L.getD 6 false = true → ∀ k, (u 10).ownBlock = some k → (u 15).ownBlock ≠ some k
  d3 : L.getD 3 false = true → L.getD 6 false = true → ∀ k, (u 12).ownBlock = some k → (u 15).ownBlock ≠ some k
  d4 : L.getD 1 false = true → L.getD 8 false = true → ∀ g, u 7 = .pointer (some ⟨g, 0, none⟩) → (u 10).ownBlock ≠ some g
  d5 : L.getD 3 false = true → L.getD 8 false = true → ∀ g, u 7 = .pointer (some ⟨g, 0, none⟩) → (u 12).ownBlock ≠ some g
  d6 : L.getD 6 false = true → L.getD 8 false = true → ∀ g, u 7 = .pointer (some ⟨g, 0, none⟩) → (u 15).ownBlock ≠ some g
section
variable {wb : World} {p q n : Nat} {A : Option Addr} {c : Nat} {L : Array Bool} {u : Nat → Value} {w w' : World}
theorem NR.later (h : NR wb p q n A c L u w) (hb : Below w.heap.size w w') : NR wb p q n A c L u w' := by
  obtain ⟨b, m0, m1, m2, m3, m4, m5, m6, m8, d1, d2, d3, d4, d5, d6⟩ := h
  refine ⟨b.trans (hb.mono b.size), m0, fun h => own_later (m1 h) hb, m2, fun h => own_later (m3 h) hb, m4, m5, fun h => own_later (m6 h) hb, fun h => ?_, d1, d2, d3, d4, d5, d6⟩
  obtain ⟨g, h1, h2, h3⟩ := m8 h
  exact ⟨g, h1, h2, h3.below hb h3.lt⟩
theorem NR.put0 (h : NR wb p q n A c L u w) {v : Value} (new : v = .int .i64 (p : Int)) : NR wb p q n A c (L.setIfInBounds 0 true) (upd u 9 v) w :=
  ⟨h.bel, fun _ => new, fun hL => h.m1 (by rwa [getD_set_ne false (by decide)] at hL), fun hL => h.m2 (by rwa [getD_set_ne false (by decide)] at hL), fun hL => h.m3 (by rwa [getD_set_ne false (by decide)] at hL), fun hL => h.m4 (by rwa [getD_set_ne false (by decide)] at hL), fun hL => h.m5 (by rwa [getD_set_ne false (by decide)] at hL), fun hL => h.m6 (by rwa [getD_set_ne false (by decide)] at hL), fun hL => h.m8 (by rwa [getD_set_ne false (by decide)] at hL), fun hL hM => h.d1 (by rwa [getD_set_ne false (by decide)] at hL) (by rwa [getD_set_ne false (by decide)] at hM), fun hL hM => h.d2 (by rwa [getD_set_ne false (by decide)] at hL) (by rwa [getD_set_ne false (by decide)] at hM), fun hL hM => h.d3 (by rwa [getD_set_ne false (by decide)] at hL) (by rwa [getD_set_ne false (by decide)] at hM), fun hL hM => h.d4 (by rwa [getD_set_ne false (by decide)] at hL) (by rwa [getD_set_ne false (by decide)] at hM), fun hL hM => h.d5 (by rwa [getD_set_ne false (by decide)] at hL) (by rwa [getD_set_ne false (by decide)] at hM), fun hL hM => h.d6 (by rwa [getD_set_ne false (by decide)] at hL) (by rwa [getD_set_ne false (by decide)] at hM)⟩
theorem NR.put1 (h : NR wb p q n A c L u w) {v : Value} (new : w.ownsRow wb.heap.size 22 1 (v) p (List.replicate p NilS)) (e1 : L.getD 3 false = true → ∀ k, v.ownBlock = some k → (u 12).ownBlock ≠ some k) (e2 : L.getD 6 false = true → ∀ k, v.ownBlock = some k → (u 15).ownBlock ≠ some k) (e4 : L.getD 8 false = true → ∀ g, u 7 = .pointer (some ⟨g, 0, none⟩) → v.ownBlock ≠ some g) : NR wb p q n A c (L.setIfInBounds 1 true) (upd u 10 v) w :=
  ⟨h.bel, fun hL => h.m0 (by rwa [getD_set_ne false (by decide)] at hL), fun _ => new, fun hL => h.m2 (by rwa [getD_set_ne false (by decide)] at hL), fun hL => h.m3 (by rwa [getD_set_ne false (by decide)] at hL), fun hL => h.m4 (by rwa [getD_set_ne false (by decide)] at hL), fun hL => h.m5 (by rwa [getD_set_ne false (by decide)] at hL), fun hL => h.m6 (by rwa [getD_set_ne false (by decide)] at hL), fun hL => h.m8 (by rwa [getD_set_ne false (by decide)] at hL), fun _ hL k hk => e1 (by rwa [getD_set_ne false (by decide)] at hL) k hk, fun _ hL k hk => e2 (by rwa [getD_set_ne false (by decide)] at hL) k hk, fun hL hM => h.d3 (by rwa [getD_set_ne false (by decide)] at hL) (by rwa [getD_set_ne false (by decide)] at hM), fun _ hL => e4 (by rwa [getD_set_ne false (by decide)] at hL), fun hL hM => h.d5 (by rwa [getD_set_ne false (by decide)] at hL) (by rwa [getD_set_ne false (by decide)] at hM), fun hL hM => h.d6 (by rwa [getD_set_ne false (by decide)] at hL) (by rwa [getD_set_ne false (by decide)] at hM)⟩
theorem NR.put2 (h : NR wb p q n A c L u w) {v : Value} (new : v = .int .i64 (q : Int)) : NR wb p q n A c (L.setIfInBounds 2 true) (upd u 11 v) w :=
  ⟨h.bel, fun hL => h.m0 (by rwa [getD_set_ne false (by decide)] at hL), fun hL => h.m1 (by rwa [getD_set_ne false (by decide)] at hL), fun _ => new, fun hL => h.m3 (by rwa [getD_set_ne false (by decide)] at hL), fun hL => h.m4 (by rwa [getD_set_ne false (by decide)] at hL), fun hL => h.m5 (by rwa [getD_set_ne false (by decide)] at hL), fun hL => h.m6 (by rwa [getD_set_ne false (by decide)] at hL), fun hL => h.m8 (by rwa [getD_set_ne false (by decide)] at hL), fun hL hM => h.d1 (by rwa [getD_set_ne false (by decide)] at hL) (by rwa [getD_set_ne false (by decide)] at hM), fun hL hM => h.d2 (by rwa [getD_set_ne false (by decide)] at hL) (by rwa [getD_set_ne false (by decide)] at hM), fun hL hM => h.d3 (by rwa [getD_set_ne false (by decide)] at hL) (by rwa [getD_set_ne false (by decide)] at hM), fun hL hM => h.d4 (by rwa [getD_set_ne false (by decide)] at hL) (by rwa [getD_set_ne false (by decide)] at hM), fun hL hM => h.d5 (by rwa [getD_set_ne false (by decide)] at hL) (by rwa [getD_set_ne false (by decide)] at hM), fun hL hM => h.d6 (by rwa [getD_set_ne false (by decide)] at hL) (by rwa [getD_set_ne false (by decide)] at hM)⟩
theorem NR.put3 (h : NR wb p q n A c L u w) {v : Value} (new : w.ownsRow wb.heap.size 22 1 (v) q (List.replicate q NilS)) (e1 : L.getD 1 false = true → ∀ k, v.ownBlock = some k → (u 10).ownBlock ≠ some k) (e3 : L.getD 6 false = true → ∀ k, v.ownBlock = some k → (u 15).ownBlock ≠ some k) (e5 : L.getD 8 false = true → ∀ g, u 7 = .pointer (some ⟨g, 0, none⟩) → v.ownBlock ≠ some g) : NR wb p q n A c (L.setIfInBounds 3 true) (upd u 12 v) w :=
  ⟨h.bel, fun hL => h.m0 (by rwa [getD_set_ne false (by decide)] at hL), fun hL => h.m1 (by rwa [getD_set_ne false (by decide)] at hL), fun hL => h.m2 (by rwa [getD_set_ne false (by decide)] at hL), fun _ => new, fun hL => h.m4 (by rwa [getD_set_ne false (by decide)] at hL), fun hL => h.m5 (by rwa [getD_set_ne false (by decide)] at hL), fun hL => h.m6 (by rwa [getD_set_ne false (by decide)] at hL), fun hL => h.m8 (by rwa [getD_set_ne false (by decide)] at hL), fun hL _ k hk hk2 => e1 (by rwa [getD_set_ne false (by decide)] at hL) k hk2 hk, fun hL hM => h.d2 (by rwa [getD_set_ne false (by decide)] at hL) (by rwa [getD_set_ne false (by decide)] at hM), fun _ hL k hk => e3 (by rwa [getD_set_ne false (by decide)] at hL) k hk, fun hL hM => h.d4 (by rwa [getD_set_ne false (by decide)] at hL) (by rwa [getD_set_ne false (by decide)] at hM), fun _ hL => e5 (by rwa [getD_set_ne false (by decide)] at hL), fun hL hM => h.d6 (by rwa [getD_set_ne false (by decide)] at hL) (by rwa [getD_set_ne false (by decide)] at hM)⟩
theorem NR.put4 (h : NR wb p q n A c L u w) {v : Value} (new : v = .slice A n c) : NR wb p q n A c (L.setIfInBounds 4 true) (upd u 13 v) w :=
  ⟨h.bel, fun hL => h.m0 (by rwa [getD_set_ne false (by decide)] at hL), fun hL => h.m1 (by rwa [getD_set_ne false (by decide)] at hL), fun hL => h.m2 (by rwa [getD_set_ne false (by decide)] at hL), fun hL => h.m3 (by rwa [getD_set_ne false (by decide)] at hL), fun _ => new, fun hL => h.m5 (by rwa [getD_set_ne false (by decide)] at hL), fun hL => h.m6 (by rwa [getD_set_ne false (by decide)] at hL), fun hL => h.m8 (by rwa [getD_set_ne false (by decide)] at hL), fun hL hM => h.d1 (by rwa [getD_set_ne false (by decide)] at hL) (by rwa [getD_set_ne false (by decide)] at hM), fun hL hM => h.d2 (by rwa [getD_set_ne false (by decide)] at hL) (by rwa [getD_set_ne false (by decide)] at hM), fun hL hM => h.d3 (by rwa [getD_set_ne false (by decide)] at hL) (by rwa [getD_set_ne false (by decide)] at hM), fun hL hM => h.d4 (by rwa [getD_set_ne false (by decide)] at hL) (by rwa [getD_set_ne false (by decide)] at hM), fun hL hM => h.d5 (by rwa [getD_set_ne false (by decide)] at hL) (by rwa [getD_set_ne false (by decide)] at hM), fun hL hM => h.d6 (by rwa [getD_set_ne false (by decide)] at hL) (by rwa [getD_set_ne false (by decide)] at hM)⟩
theorem NR.put5 (h : NR wb p q n A c L u w) {v : Value} (new : v = .int .i64 (n : Int)) : NR wb p q n A c (L.setIfInBounds 5 true) (upd u 14 v) w :=
  ⟨h.bel, fun hL => h.m0 (by rwa [getD_set_ne false (by decide)] at hL), fun hL => h.m1 (by rwa [getD_set_ne false (by decide)] at hL), fun hL => h.m2 (by rwa [getD_set_ne false (by decide)] at hL), fun hL => h.m3 (by rwa [getD_set_ne false (by decide)] at hL), fun hL => h.m4 (by rwa [getD_set_ne false (by decide)] at hL), fun _ => new, fun hL => h.m6 (by rwa [getD_set_ne false (by decide)] at hL), fun hL => h.m8 (by rwa [getD_set_ne false (by decide)] at hL), fun hL hM => h.d1 (by rwa [getD_set_ne false (by decide)] at hL) (by rwa [getD_set_ne false (by decide)] at hM), fun hL hM => h.d2 (by rwa [getD_set_ne false (by decide)] at hL) (by rwa [getD_set_ne false (by decide)] at hM), fun hL hM => h.d3 (by rwa [getD_set_ne false (by decide)] at hL) (by rwa [getD_set_ne false (by decide)] at hM), fun hL hM => h.d4 (by rwa [getD_set_ne false (by decide)] at hL) (by rwa [getD_set_ne false (by decide)] at hM), fun hL hM => h.d5 (by rwa [getD_set_ne false (by decide)] at hL) (by rwa [getD_set_ne false (by decide)] at hM), fun hL hM => h.d6 (by rwa [getD_set_ne false (by decide)] at hL) (by rwa [getD_set_ne false (by decide)] at hM)⟩
theorem NR.put6 (h : NR wb p q n A c L u w) {v : Value} (new : w.ownsRow wb.heap.size 22 1 (v) n (List.replicate n NilS)) (e2 : L.getD 1 false = true → ∀ k, v.ownBlock = some k → (u 10).ownBlock ≠ some k) (e3 : L.getD 3 false = true → ∀ k, v.ownBlock = some k → (u 12).ownBlock ≠ some k) (e6 : L.getD 8 false = true → ∀ g, u 7 = .pointer (some ⟨g, 0, none⟩) → v.ownBlock ≠ some g) : NR wb p q n A c (L.setIfInBounds 6 true) (upd u 15 v) w :=
  ⟨h.bel, fun hL => h.m0 (by rwa [getD_set_ne false (by decide)] at hL), fun hL => h.m1 (by rwa [getD_set_ne false (by decide)] at hL), fun hL => h.m2 (by rwa [getD_set_ne false (by decide)] at hL), fun hL => h.m3 (by rwa [getD_set_ne false (by decide)] at hL), fun hL => h.m4 (by rwa [getD_set_ne false (by decide)] at hL), fun hL => h.m5 (by rwa [getD_set_ne false (by decide)] at hL), fun _ => new, fun hL => h.m8 (by rwa [getD_set_ne false (by decide)] at hL), fun hL hM => h.d1 (by rwa [getD_set_ne false (by decide)] at hL) (by rwa [getD_set_ne false (by decide)] at hM), fun hL _ k hk hk2 => e2 (by rwa [getD_set_ne false (by decide)] at hL) k hk2 hk, fun hL _ k hk hk2 => e3 (by rwa [getD_set_ne false (by decide)] at hL) k hk2 hk, fun hL hM => h.d4 (by rwa [getD_set_ne false (by decide)] at hL) (by rwa [getD_set_ne false (by decide)] at hM), fun hL hM => h.d5 (by rwa [getD_set_ne false (by decide)] at hL) (by rwa [getD_set_ne false (by decide)] at hM), fun _ hL => e6 (by rwa [getD_set_ne false (by decide)] at hL)⟩
theorem NR.put8 (h : NR wb p q n A c L u w) {v : Value} (new : ∃ g, v = .pointer (some ⟨g, 0, none⟩) ∧ wb.heap.size ≤ g ∧ Blk w g 27 zeroC) (e4 : L.getD 1 false = true → ∀ g, v = .pointer (some ⟨g, 0, none⟩) → (u 10).ownBlock ≠ some g) (e5 : L.getD 3 false = true → ∀ g, v = .pointer (some ⟨g, 0, none⟩) → (u 12).ownBlock ≠ some g) (e6 : L.getD 6 false = true → ∀ g, v = .pointer (some ⟨g, 0, none⟩) → (u 15).ownBlock ≠ some g) : NR wb p q n A c (L.setIfInBounds 8 true) (upd u 7 v) w :=
  ⟨h.bel, fun hL => h.m0 (by rwa [getD_set_ne false (by decide)] at hL), fun hL => h.m1 (by rwa [getD_set_ne false (by decide)] at hL), fun hL => h.m2 (by rwa [getD_set_ne false (by decide)] at hL), fun hL => h.m3 (by rwa [getD_set_ne false (by decide)] at hL), fun hL => h.m4 (by rwa [getD_set_ne false (by decide)] at hL), fun hL => h.m5 (by rwa [getD_set_ne false (by decide)] at hL), fun hL => h.m6 (by rwa [getD_set_ne false (by decide)] at hL), fun _ => new, fun hL hM => h.d1 (by rwa [getD_set_ne false (by decide)] at hL) (by rwa [getD_set_ne false (by decide)] at hM), fun hL hM => h.d2 (by rwa [getD_set_ne false (by decide)] at hL) (by rwa [getD_set_ne false (by decide)] at hM), fun hL hM => h.d3 (by rwa [getD_set_ne false (by decide)] at hL) (by rwa [getD_set_ne false (by decide)] at hM), fun hL _ => e4 (by rwa [getD_set_ne false (by decide)] at hL), fun hL _ => e5 (by rwa [getD_set_ne false (by decide)] at hL), fun hL _ => e6 (by rwa [getD_set_ne false (by decide)] at hL)⟩
theorem NR.put16 (h : NR wb p q n A c L u w) {v : Value} : NR wb p q n A c (L.setIfInBounds 7 true) (upd u 16 v) w :=
  ⟨h.bel, fun hL => h.m0 (by rwa [getD_set_ne false (by decide)] at hL), fun hL => h.m1 (by rwa [getD_set_ne false (by decide)] at hL), fun hL => h.m2 (by rwa [getD_set_ne false (by decide)] at hL), fun hL => h.m3 (by rwa [getD_set_ne false (by decide)] at hL), fun hL => h.m4 (by rwa [getD_set_ne false (by decide)] at hL), fun hL => h.m5 (by rwa [getD_set_ne false (by decide)] at hL), fun hL => h.m6 (by rwa [getD_set_ne false (by decide)] at hL), fun hL => h.m8 (by rwa [getD_set_ne false (by decide)] at hL), fun hL hM => h.d1 (by rwa [getD_set_ne false (by decide)] at hL) (by rwa [getD_set_ne false (by decide)] at hM), fun hL hM => h.d2 (by rwa [getD_set_ne false (by decide)] at hL) (by rwa [getD_set_ne false (by decide)] at hM), fun hL hM => h.d3 (by rwa [getD_set_ne false (by decide)] at hL) (by rwa [getD_set_ne false (by decide)] at hM), fun hL hM => h.d4 (by rwa [getD_set_ne false (by decide)] at hL) (by rwa [getD_set_ne false (by decide)] at hM), fun hL hM => h.d5 (by rwa [getD_set_ne false (by decide)] at hL) (by rwa [getD_set_ne false (by decide)] at hM), fun hL hM => h.d6 (by rwa [getD_set_ne false (by decide)] at hL) (by rwa [getD_set_ne false (by decide)] at hM)⟩
def NewRI (wb : World) (bb : Nat) (p q n : Nat) (A : Option Addr) (c : Nat) (L : Array Bool) (a : Act) (w : World) : Prop :=
  ∃ u, a = NewR p q (.slice A n c) bb u ∧
    ((L.getD 9 false = false ∧ NR wb p q n A c L u w ∧ (L.getD 7 false = true → (∀ j, j < 7 → L.getD j false = true) ∧ u 16 = .agg (NewD u))) ∨
     (L.getD 9 false = true ∧ (∀ j, j < 9 → L.getD j false = true) ∧ ∃ w1 g, u 7 = .pointer (some ⟨g, 0, none⟩) ∧ NR wb p q n A c L u w1 ∧ w = w1.setRow g (NewD u)))
theorem NewRI.early {bb : Nat} {a : Act} {i : Nat} (h : NewRI wb bb p q n A c L a w) (hi : i < 7) (hs : L.size = 10) (hL : L.getD i true = false) : ∃ u, a = NewR p q (.slice A n c) bb u ∧ NR wb p q n A c L u w ∧ L.getD 9 false = false ∧ L.getD 7 false = false := by
  obtain ⟨u, ha, h | h⟩ := h
  · refine ⟨u, ha, h.2.1, h.1, ?_⟩
    rcases hb : L.getD 7 false with _ | _
    · rfl
    · have := (h.2.2 hb).1 i hi
      rw [getD_false_true (by omega) hL] at this
      exact Bool.noConfusion this
  · have := h.2.1 i (by omega)
    rw [getD_false_true (by omega) hL] at this
    exact Bool.noConfusion this
theorem NewRI.put {bb : Nat} {a : Act} {i sl : Nat} {u : Nat → Value} {v : Value} (hi : i < 7) (h13 : L.getD 9 false = false) (h12 : L.getD 7 false = false) (h : NR wb p q n A c (L.setIfInBounds i true) (upd u sl v) w) (ha : a = NewR p q (.slice A n c) bb (upd u sl v)) : NewRI wb bb p q n A c (L.setIfInBounds i true) a w :=
  ⟨_, ha, .inl ⟨by rw [getD_set_ne false (by omega)]; exact h13, h, fun hL => by
    rw [getD_set_ne false (by omega), h12] at hL
    exact Bool.noConfusion hL⟩⟩
end
theorem Blk.set2 {W : World} {g : Nat} {T : TypeId} {x0 x1 x2 x3 x4 x5 x6 x7 x8 x9 : Value} (h : Blk W g T #[x0, x1, x2, x3, x4, x5, x6, x7, x8, x9]) (a : Value) : Blk (W.setCell ⟨g, 2, none⟩ a) g T #[x0, x1, a, x3, x4, x5, x6, x7, x8, x9] := by
  have := h.set_ 2 a
  simpa using this
theorem Fr.refl_set2 (w : World) (g : Nat) (a : Value) : Fr (fun k => k = g) w (w.setCell ⟨g, 2, none⟩ a) := (Fr.refl (fun k => k = g) w).setCell (p := ⟨g, 2, none⟩) (.inl rfl) a
theorem fr_set2 (w : World) (g : Nat) (a : Value) (W : World) : Fr (fun k => k = g ∨ W.heap.size ≤ k) w (w.setCell ⟨g, 2, none⟩ a) := (Fr.refl_set2 w g a).mono (fun _ _ h => .inl h)
set_option maxRecDepth 100000 in
set_option maxHeartbeats 8000000 in
theorem refNew9_any (w : World) (E : Nat → Prop) (A : Option Addr) (c : Nat) (l : List Int) (hr : RN w E A c l) (n : Nat) (hn : l.length = n) (hK : n ≤ 1000) (p q : Nat) (hp : p ≤ 8) (hq : q ≤ 8) :
    Calls Try.prog 23 #[.int .i64 (p : Int), .int .i64 (q : Int), .slice A n c] w fun e w' => ∃ z' : LkQ, e = .returned (.agg (mkC z' p q n)) ∧ DocC w' (fun k => w.heap.size ≤ k) z' p q n (newV p q l) ∧ Below w.heap.size w w' := by
  have hmk := fun (m : Nat) (hm : m ≤ 1000) => run_make_row' (P := Try.prog) 25 22 NilS 24 Try.underlying25 info_sl9 rfl .i64 .i64 m (by omega) (by omega)
  have mk1 := hmk p (by omega)
  have mk2 := hmk q (by omega)
  have mk3 := hmk n (by omega)
  clear hmk
  have HN := Lib.hid hn; have HR := Lib.hid hr
  clear hn hr
  go_enter Try.func23, Try.ntmps23
  go_wp2_with fail
  obtain ⟨wb, hwb⟩ : ∃ W, W = w.alloc (.cells zeroC 27) := ⟨_, rfl⟩
  have hbox : Blk wb w.heap.size 27 zeroC := by rw [hwb]; exact Blk.new w _ _
  have hwbb : Below w.heap.size w wb := by rw [hwb]; exact (Below.refl _ w).alloc (Nat.le_refl _) _
  have hbs : wb.heap.size = w.heap.size + 1 := by rw [hwb]; simp
  have HBX := Lib.hid hbox; have HWB := Lib.hid hwbb; have HBS := Lib.hid hbs
  rw [← hwb]
  clear hwb hbox hwbb hbs
  refine wp_region_inv (by rfl) (NewRI wb w.heap.size p q n A c) (by kernel_rfl) ?start ?step ?done
  case start =>
    refine ⟨fun _ => undef, rfl, .inl ⟨by rfl, ?_, fun h => absurd h (by decide)⟩⟩
    refine ⟨(Below.refl _ _).drew, ?_, ?_, ?_, ?_, ?_, ?_, ?_, ?_, ?_, ?_, ?_, ?_, ?_, ?_⟩ <;> exact fun h => absurd h (by decide)
  case step =>
    intro L a W hL hcl hI i o hi hun haf
    have hlt : i < 10 := (Array.getElem?_eq_some_iff.1 hi).1
    have hcs : i = 0 ∨ i = 1 ∨ i = 2 ∨ i = 3 ∨ i = 4 ∨ i = 5 ∨ i = 6 ∨ i = 7 ∨ i = 8 ∨ i = 9 := by omega
    clear hlt
    rcases hcs with rfl | rfl | rfl | rfl | rfl | rfl | rfl | rfl | rfl | rfl
    · obtain rfl := Option.some.inj hi
      obtain ⟨u, rfl, hN, h13, h12⟩ := hI.early (by decide) hL hun
      refine wpOp_of rfl rfl ?_
      go_simp
      exact NewRI.put (i := 0) (sl := 9) (u := u) (v := .int .i64 (p : Int)) (by decide) h13 h12 (hN.put0 rfl) rfl
    · obtain rfl := Option.some.inj hi
      obtain ⟨u, rfl, hN, h13, h12⟩ := hI.early (by decide) hL hun
      refine wpOp_of rfl rfl ?_
      have e3 := hN.m0 (haf ⟨0, .data⟩ (by simp) rfl)
      go_simp
      have hN2 := hN.later ((Below.refl _ _).alloc (Nat.le_refl _) (.cells (madeCells #[NilS] p) 22))
      have hz := hN.bel.size
      exact NewRI.put (i := 1) (sl := 10) (u := u) (v := .slice (some ⟨W.heap.size, 0, none⟩) p p) (by decide) h13 h12 (hN2.put1 (own_made hz p (by omega)) (fun hL2 k hk => fresh_ne (hN.m3 hL2) k hk) (fun hL2 k hk => fresh_ne (hN.m6 hL2) k hk) (fun hL2 g hg hk => by
        obtain ⟨g2, o1, _, o3⟩ := hN.m8 hL2
        rw [hg] at o1
        injection o1 with o1
        injection o1 with o1
        injection o1 with o1
        have := o3.lt
        simp [Value.ownBlock] at hk
        omega)) (by first | rfl | (simp [NewR, upd, e3]; done))
    · obtain rfl := Option.some.inj hi
      obtain ⟨u, rfl, hN, h13, h12⟩ := hI.early (by decide) hL hun
      refine wpOp_of rfl rfl ?_
      go_simp
      exact NewRI.put (i := 2) (sl := 11) (u := u) (v := .int .i64 (q : Int)) (by decide) h13 h12 (hN.put2 rfl) rfl
    · obtain rfl := Option.some.inj hi
      obtain ⟨u, rfl, hN, h13, h12⟩ := hI.early (by decide) hL hun
      refine wpOp_of rfl rfl ?_
      have e3 := hN.m2 (haf ⟨2, .data⟩ (by simp) rfl)
      go_simp
      have hN2 := hN.later ((Below.refl _ _).alloc (Nat.le_refl _) (.cells (madeCells #[NilS] q) 22))
      have hz := hN.bel.size
      exact NewRI.put (i := 3) (sl := 12) (u := u) (v := .slice (some ⟨W.heap.size, 0, none⟩) q q) (by decide) h13 h12 (hN2.put3 (own_made hz q (by omega)) (fun hL2 k hk => fresh_ne (hN.m1 hL2) k hk) (fun hL2 k hk => fresh_ne (hN.m6 hL2) k hk) (fun hL2 g hg hk => by
        obtain ⟨g2, o1, _, o3⟩ := hN.m8 hL2
        rw [hg] at o1
        injection o1 with o1
        injection o1 with o1
        injection o1 with o1
        have := o3.lt
        simp [Value.ownBlock] at hk
        omega)) (by first | rfl | (simp [NewR, upd, e3]; done))
    · obtain rfl := Option.some.inj hi
      obtain ⟨u, rfl, hN, h13, h12⟩ := hI.early (by decide) hL hun
      refine wpOp_of rfl rfl ?_
      go_simp
      exact NewRI.put (i := 4) (sl := 13) (u := u) (v := .slice A n c) (by decide) h13 h12 (hN.put4 rfl) rfl
    · obtain rfl := Option.some.inj hi
      obtain ⟨u, rfl, hN, h13, h12⟩ := hI.early (by decide) hL hun
      refine wpOp_of rfl rfl ?_
      have e3 := hN.m4 (haf ⟨4, .data⟩ (by simp) rfl)
      go_simp
      exact NewRI.put (i := 5) (sl := 14) (u := u) (v := .int .i64 (n : Int)) (by decide) h13 h12 (hN.put5 rfl) (by first | rfl | (simp [NewR, upd, e3]; done))
    · obtain rfl := Option.some.inj hi
      obtain ⟨u, rfl, hN, h13, h12⟩ := hI.early (by decide) hL hun
      refine wpOp_of rfl rfl ?_
      have e3 := hN.m5 (haf ⟨5, .data⟩ (by simp) rfl)
      go_simp
      have hN2 := hN.later ((Below.refl _ _).alloc (Nat.le_refl _) (.cells (madeCells #[NilS] n) 22))
      have hz := hN.bel.size
      exact NewRI.put (i := 6) (sl := 15) (u := u) (v := .slice (some ⟨W.heap.size, 0, none⟩) n n) (by decide) h13 h12 (hN2.put6 (own_made hz n (by omega)) (fun hL2 k hk => fresh_ne (hN.m1 hL2) k hk) (fun hL2 k hk => fresh_ne (hN.m3 hL2) k hk) (fun hL2 g hg hk => by
        obtain ⟨g2, o1, _, o3⟩ := hN.m8 hL2
        rw [hg] at o1
        injection o1 with o1
        injection o1 with o1
        injection o1 with o1
        have := o3.lt
        simp [Value.ownBlock] at hk
        omega)) (by first | rfl | (simp [NewR, upd, e3]; done))
    · obtain rfl := Option.some.inj hi
      obtain ⟨u, rfl, hI | hI⟩ := hI
      rotate_left
      · have := hI.2.1 7 (by omega)
        rw [getD_false_true (by rw [hL]; decide) hun] at this
        exact Bool.noConfusion this
      obtain ⟨h13, hN, _⟩ := hI
      refine wpOp_of rfl rfl ?_
      have l1 : L.getD 1 false = true := haf ⟨1, .data⟩ (by simp) rfl
      have l3 : L.getD 3 false = true := haf ⟨3, .data⟩ (by simp) rfl
      have l6 : L.getD 6 false = true := haf ⟨6, .data⟩ (by simp) rfl
      have l0 : L.getD 0 false = true := hcl 1 _ rfl l1 ⟨0, .data⟩ (by simp) rfl
      have l2 : L.getD 2 false = true := hcl 3 _ rfl l3 ⟨2, .data⟩ (by simp) rfl
      have l5 : L.getD 5 false = true := hcl 6 _ rfl l6 ⟨5, .data⟩ (by simp) rfl
      have l4 : L.getD 4 false = true := hcl 5 _ rfl l5 ⟨4, .data⟩ (by simp) rfl
      obtain ⟨A2, c2, e2⟩ := own_form_any (hN.m1 l1)
      obtain ⟨A4, c4, e4⟩ := own_form_any (hN.m3 l3)
      obtain ⟨A6, c6, e6⟩ := own_form_any (hN.m6 l6)
      have hN2 := Lib.hid hN
      clear hN
      go_simp
      refine ⟨upd u 16 (.agg (NewD u)), by simp [NewR, upd, NewD, e2, e4, e6], .inl ⟨by rw [getD_set_ne false (by decide)]; exact h13, hN2.out.put16, fun _ => ⟨fun j hj => ?_, by rfl⟩⟩⟩
      rw [getD_set_ne false (by omega)]
      rcases (by omega : j = 0 ∨ j = 1 ∨ j = 2 ∨ j = 3 ∨ j = 4 ∨ j = 5 ∨ j = 6) with rfl | rfl | rfl | rfl | rfl | rfl | rfl <;> assumption
    · obtain rfl := Option.some.inj hi
      obtain ⟨u, rfl, hI | hI⟩ := hI
      rotate_left
      · have := hI.2.1 8 (by omega)
        rw [getD_false_true (by rw [hL]; decide) hun] at this
        exact Bool.noConfusion this
      obtain ⟨h13, hN, h7⟩ := hI
      refine wpOp_of rfl rfl ?_
      go_simp
      have hN2 := hN.later ((Below.refl _ _).alloc (Nat.le_refl _) (.cells zeroC 27))
      have hz := hN.bel.size
      have hne : ∀ {e : TypeId} {v : Value} {m : Nat} {xs : List Value}, W.ownsRow wb.heap.size e 1 v m xs → ∀ g, Value.pointer (some ⟨W.heap.size, 0, none⟩) = .pointer (some ⟨g, 0, none⟩) → v.ownBlock ≠ some g := fun h g hg hk => by
        injection hg with hg
        injection hg with hg
        injection hg with hg
        have := own_blk h hk
        omega
      refine ⟨upd u 7 (.pointer (some ⟨W.heap.size, 0, none⟩)), by rfl, .inl ⟨by rw [getD_set_ne false (by decide)]; exact h13, hN2.put8 ⟨_, rfl, hz, Blk.new W _ _⟩ (fun hL2 => hne (hN.m1 hL2)) (fun hL2 => hne (hN.m3 hL2)) (fun hL2 => hne (hN.m6 hL2)), fun hh => ?_⟩⟩
      rw [getD_set_ne false (by decide)] at hh
      obtain ⟨a1, a2⟩ := h7 hh
      exact ⟨fun j hj => by rw [getD_set_ne false (by omega)]; exact a1 j hj, a2⟩
    · obtain rfl := Option.some.inj hi
      obtain ⟨u, rfl, hI | hI⟩ := hI
      rotate_left
      · have := hI.1
        rw [getD_false_true (by rw [hL]; decide) hun] at this
        exact Bool.noConfusion this
      obtain ⟨h13, hN, h12⟩ := hI
      refine wpOp_of rfl rfl ?_
      have l7 : L.getD 7 false = true := haf ⟨7, .data⟩ (by simp) rfl
      have l8 : L.getD 8 false = true := haf ⟨8, .data⟩ (by simp) rfl
      obtain ⟨hall, e23⟩ := h12 l7
      obtain ⟨g, g1, g2, g3⟩ := hN.m8 l8
      obtain ⟨A2, c2, e2⟩ := own_form_any (hN.m1 (hall 1 (by omega)))
      obtain ⟨A4, c4, e4⟩ := own_form_any (hN.m3 (hall 3 (by omega)))
      obtain ⟨A6, c6, e6⟩ := own_form_any (hN.m6 (hall 6 (by omega)))
      refine wp_store_row 27 (.tmp 7) (.tmp 16) rfl g (NewD u) g1 e23 27 _ g3 (by kernel_rfl) rfl (by simp [e2, e4, e6, Value.oneCell']) ?_
      refine ⟨u, rfl, .inr ⟨by simp [hL], fun j hj => ?_, W, g, g1, ?_, rfl⟩⟩
      · rw [getD_set_ne false (by omega)]
        rcases (by omega : j < 7 ∨ j = 7 ∨ j = 8) with h | rfl | rfl
        · exact hall j h
        · exact l7
        · exact l8
      · obtain ⟨b, m0, m1, m2, m3, m4, m5, m6, m8, d1, d2, d3, d4, d5, d6⟩ := hN
        have q : ∀ j, j < 9 → (L.setIfInBounds 9 true).getD j false = true → L.getD j false = true := fun j hj h => by rwa [getD_set_ne false (by omega)] at h
        exact ⟨b, fun h => m0 (q _ (by omega) h), fun h => m1 (q _ (by omega) h), fun h => m2 (q _ (by omega) h), fun h => m3 (q _ (by omega) h), fun h => m4 (q _ (by omega) h), fun h => m5 (q _ (by omega) h), fun h => m6 (q _ (by omega) h), fun h => m8 (q _ (by omega) h), fun h h' => d1 (q _ (by omega) h) (q _ (by omega) h'), fun h h' => d2 (q _ (by omega) h) (q _ (by omega) h'), fun h h' => d3 (q _ (by omega) h) (q _ (by omega) h'), fun h h' => d4 (q _ (by omega) h) (q _ (by omega) h'), fun h h' => d5 (q _ (by omega) h) (q _ (by omega) h'), fun h h' => d6 (q _ (by omega) h) (q _ (by omega) h')⟩
  case done =>
    intro L a W hL hI hall
    obtain ⟨u, rfl, hI | hI⟩ := hI
    · have := getD_of_true (L := L) (i := 9) (by rw [hL]; decide) (hall 9 (by decide))
      rw [hI.1] at this
      exact Bool.noConfusion this
    obtain ⟨_, h9, w1, g, hg, hN, rfl⟩ := hI
    have l1 := h9 1 (by omega)
    have l3 := h9 3 (by omega)
    have l6 := h9 6 (by omega)
    have l8 := h9 8 (by omega)
    obtain ⟨g', g1, g2, g3⟩ := hN.m8 l8
    rw [hg] at g1
    injection g1 with g1
    injection g1 with g1
    injection g1 with g1
    subst g1
    have hz := hN.bel.size
    have hfr := setRow_fr w1 g (NewD u)
    have hb2 : Blk (w1.setRow g (NewD u)) g 27 (NewD u) := setRow_heap w1 g _ _ _ _ g3
    have hr2 : Blk (w1.setRow g (NewD u)) w.heap.size 27 zeroC := hfr.blk (HBX.out.below hN.bel HBX.out.lt) (by rw [HBS.out] at g2; omega)
    have hbel : Below w.heap.size w (w1.setRow g (NewD u)) := (HWB.out.trans (hN.bel.mono (by rw [HBS.out]; omega))).trans (hfr.below (by rw [HBS.out] at hz; omega) (fun i hi => by rw [HBS.out] at g2; omega))
    have hown : ∀ {A9 : Option Addr} {c9 m : Nat}, w1.ownsRow wb.heap.size 22 1 (.slice A9 m c9) m (List.replicate m NilS) → (∀ h : Nat, u 7 = .pointer (some ⟨h, 0, none⟩) → (Value.slice A9 m c9).ownBlock ≠ some h) → RNs (w1.setRow g (NewD u)) (fun k => wb.heap.size ≤ k ∧ k ≠ g) A9 c9 (List.replicate m []) := fun {A9 c9 m} h hne => by
      have h1 := hfr.own h (fun i hi e => hne g hg (by rw [hi]; congr 1))
      have h2 : OwnS (w1.setRow g (NewD u)) wb.heap.size (fun k => wb.heap.size ≤ k ∧ k ≠ g) (.slice A9 m c9) (List.replicate m []) := by
        refine ⟨List.replicate m NilS, by simpa using h1, fun i x hi => ?_⟩
        have hlt := (List.getElem?_eq_some_iff.1 hi).1
        simp at hlt
        rw [List.getElem?_replicate_of_lt hlt] at hi
        injection hi with hi
        subst hi
        exact ⟨none, 0, by rw [List.getElem?_replicate_of_lt hlt]; rfl, RN.nil _ _ _ _⟩
      exact OwnS.rns h2 (fun k hk => ⟨(own_blk h1 hk).1, fun e => hne g hg (by rw [hk, e])⟩)
    obtain ⟨A2, c2, e2⟩ := own_form_any (hN.m1 l1)
    obtain ⟨A4, c4, e4⟩ := own_form_any (hN.m3 l3)
    obtain ⟨A6, c6, e6⟩ := own_form_any (hN.m6 l6)
    have f1 := hown (by have := hN.m1 l1; rwa [e2] at this) (by rw [← e2]; exact hN.d4 l1 l8)
    have f2 := hown (by have := hN.m3 l3; rwa [e4] at this) (by rw [← e4]; exact hN.d5 l3 l8)
    have f3 := hown (by have := hN.m6 l6; rwa [e6] at this) (by rw [← e6]; exact hN.d6 l6 l8)
    have FF0 := Lib.hid (⟨hb2, hr2, hbel, f1, f2, f3⟩ : _ ∧ _ ∧ _ ∧ _ ∧ _ ∧ _)
    have G2 := Lib.hid g2
    clear hb2 hr2 hbel f1 f2 f3 hown hfr hz l1 l3 l6 l8 hN h9 hall hL g3 g2
    generalize w1.setRow g (NewD u) = W at *
    have FF : Hid (Blk W g 27 #[.int .i64 0, NilS, NilS, NilS, NilS, .slice A2 p c2, .slice A4 q c4, .slice A6 n c6, NilS, NilS] ∧ _ ∧ _ ∧ _ ∧ _ ∧ _) := Lib.hid ⟨by have := FF0.out.1; rwa [show NewD u = #[.int .i64 0, NilS, NilS, NilS, NilS, .slice A2 p c2, .slice A4 q c4, .slice A6 n c6, NilS, NilS] by simp only [NewD, e2, e4, e6]] at this, FF0.out.2⟩
    clear FF0 e2 e4 e6
    obtain ⟨i0, hi0, hz0, hz1, hz2⟩ := info_parts info_int
    have hwW := FF.out.2.2.1.size
    have hgW := FF.out.1.lt
    unfold NewR
    rw [hg]
    go_wp2_with fail
    go_loopw [8] (fun s8 wr => ∃ (k : Nat) (A' : Option Addr) (c' : Nat), k ≤ p ∧ s8 = .int .i64 (k : Int) ∧ Hid (Blk wr g 27 #[.int .i64 0, NilS, .slice A' k c', NilS, NilS, .slice A2 p c2, .slice A4 q c4, .slice A6 n c6, NilS, NilS] ∧ OwnI wr W.heap.size (.slice A' k c') (List.replicate k (-1)) ∧ Fr (fun k => k = g ∨ W.heap.size ≤ k) W wr)) (fun s8 _ => p - (intOf s8).toNat)
    case atStart => exact ⟨0, none, 0, by omega, rfl, Lib.hid ⟨FF.out.1, OwnI.nil _ _, Fr.refl _ _⟩⟩
    case round =>
      obtain ⟨k, A', c', hk, rfl, HI⟩ := hrel
      have k2 := (HI.out.1.cell 2).trans rfl
      have k3 := (HI.out.1.cell 3).trans rfl
      have fz2 := HI.out.1.frozen 2
      have fz3 := HI.out.1.frozen 3
      by_cases hlt : k < p
      · have q1 : (k : Int) < (p : Int) := by omega
        have hacc : wr.ownsRow W.heap.size 3 1 (.slice A' k c') k ((List.replicate k (-1)).map EnI) := by
          have := HI.out.2.1
          unfold OwnI at this
          rwa [List.length_replicate] at this
        have HACC := Lib.hid hacc
        clear hacc
        go_wp2_with (at_builtin; go_must (refine wpList_append_any _ rfl (.tmp 23) (.tmp 24) _ rfl W.heap.size 3 i0 _ 1 8 Try.underlying22 hi0 hz0 hz1 hz2 rfl (by decide) (.slice A' k c') k ((List.replicate k (-1)).map EnI) rfl (own_later HACC.out ((Below.refl _ _).alloc (Nat.le_refl _) _)) _ _ 1 1 [.int .i64 (-1)] rfl (reads_one_int _ _ _) (by simp [Value.oneCell']) ?f1 ?f2 ?f3 ?f4))
        case f1 => unfold maxLen; omega
        case f2 => omega
        case f3 => have := HI.out.2.2.size; simp; omega
        case f4 =>
        intro v3 w3 hown hgr hat
        have hrep : List.replicate k (-1) ++ [(-1 : Int)] = List.replicate (k + 1) (-1) := List.replicate_succ'.symm
        have hown2 : OwnI w3 W.heap.size v3 (List.replicate (k + 1) (-1)) := by
          rw [← hrep]
          exact OwnI.snoc (by rw [List.length_replicate]; simpa using hown)
        have hvb : ∀ i, (Value.slice A' k c').ownBlock = some i → W.heap.size ≤ i := fun i hi => (own_blk HACC.out hi).1
        have hF3 : Fr (fun i => (Value.slice A' k c').ownBlock = some i) wr w3 := ((Fr.refl (fun _ => False) wr).alloc _ |>.mono (fun _ _ h => h.elim)).trans (Fr.of_grown hgr) (fun _ _ h => h)
        have b3 := hF3.blk HI.out.1 (fun e => by have := hvb _ e; omega)
        have F3 := HI.out.2.2.trans (hF3.mono (fun i _ e => .inr (hvb i e))) (fun _ _ h => h)
        obtain ⟨A'', c'', hv3, _, _⟩ := hown2.slice
        rw [List.length_replicate] at hv3
        subst hv3
        have b4 := b3.set2 (.slice A'' (k + 1) c'')
        have F4 := F3.trans (fr_set2 w3 g (.slice A'' (k + 1) c'') W) (fun _ _ h => h)
        have o4 := (Fr.refl_set2 w3 g (.slice A'' (k + 1) c'')).own hown2 (fun i hi e => by have := (own_blk hown2 hi).1; omega)
        have z2 := (b3.cell 2).trans rfl
        have y2 := b3.frozen 2
        have HJ := Lib.hid (⟨b4, o4, F4⟩ : _ ∧ _ ∧ _)
        clear b3 b4 F3 F4 o4 hown hown2 hgr hat HI HACC hvb hF3 k2 k3 fz2 fz3
        go_wp2_with fail
        exact ⟨⟨k + 1, A'', c'', by omega, by go_num, HJ⟩, by simp [intOf]; omega⟩
      · obtain rfl : k = p := by omega
        have hbl := FF.out.2.2.1.trans ((HI.out.2.2.below hwW (fun i hi => by have := G2.out; have := HBS.out; rcases hi with h | h <;> omega)))
        have hreads := (HR.out.below hbl (Nat.le_refl _)).reads
        rw [HN.out] at hreads
        have HRD := Lib.hid hreads; have HBL := Lib.hid hbl
        clear hreads hbl
        go_wp2_with (at_builtin; go_must (refine wpList_append_any _ rfl (.tmp 28) (.tmp 29) _ rfl wr.heap.size 3 i0 _ 1 8 Try.underlying22 hi0 hz0 hz1 hz2 rfl (by decide) (.slice none 0 0) 0 [] rfl (World.ownsRow_nil _ _ _ _) _ _ n c (l.map EnI) rfl HRD.out (all_int9 l) ?c1 ?c2 ?c3 ?c4))
        case c1 => unfold maxLen; omega
        case c2 => omega
        case c3 => exact Nat.le_refl _
        case c4 =>
        intro v3 w3 hown hgr hat
        have hown2 : OwnI w3 wr.heap.size v3 l := by
          unfold OwnI
          rw [HN.out]
          simpa using hown
        have hb3 : Below wr.heap.size wr w3 := (Below.refl _ wr).grown hgr (Nat.le_refl _) (by simp [Value.ownBlock])
        obtain ⟨A3, c3, hv3, _, _⟩ := hown2.slice
        rw [HN.out] at hv3
        subst hv3
        have b3 := HI.out.1.below hb3 HI.out.1.lt
        have z3 := (b3.cell 3).trans rfl
        have y3 := b3.frozen 3
        have bel3 : Below w.heap.size w w3 := HBL.out.trans (hb3.mono HBL.out.size)
        have hWr : W.heap.size ≤ wr.heap.size := HI.out.2.2.size
        have frW : Fr (fun i => i = g ∨ W.heap.size ≤ i) W w3 := HI.out.2.2.trans (Fr.of_below hb3) (fun i hi h => by omega)
        have rz3 := frW.blk FF.out.2.1 (fun e => by have := G2.out; have := HBS.out; omega)
        have e3 := HI.out.2.1
        have e3b : OwnI w3 W.heap.size (.slice A' k c') (List.replicate k (-1)) := (Fr.of_below hb3).own e3 (fun i hi h => by have := (own_blk e3 hi).2.1; omega)
        have ro : RN w3 (fun i => w.heap.size + 1 ≤ i ∧ i ≠ g) A' c' (List.replicate k (-1)) := (RN.of_own_n (by simp) e3b).mono (fun i hi _ => ⟨by have := G2.out; have := HBS.out; omega, by omega⟩)
        have rc : RN w3 (fun i => w.heap.size + 1 ≤ i ∧ i ≠ g) A3 c3 l := (RN.of_own_n HN.out hown2).mono (fun i hi _ => ⟨by have := G2.out; have := HBS.out; omega, by omega⟩)
        have rr : ∀ {A9 : Option Addr} {c9 m : Nat}, RNs W (fun i => wb.heap.size ≤ i ∧ i ≠ g) A9 c9 (List.replicate m []) → RNs w3 (fun i => w.heap.size + 1 ≤ i ∧ i ≠ g) A9 c9 (List.replicate m []) := fun h => (h.fr frW (fun i hi hl e => by have := hi.2; omega)).mono (fun i hi _ => ⟨by have := HBS.out; omega, hi.2⟩)
        have r5 := rr FF.out.2.2.2.1
        have r6 := rr FF.out.2.2.2.2.1
        have r7 := rr FF.out.2.2.2.2.2
        have dd : DocC w3 (fun i => w.heap.size + 1 ≤ i ∧ i ≠ g) ⟨A', c', A3, c3, A2, c2, A4, c4, A6, c6⟩ k q n (newV k q l) :=
          ⟨by simp [newV], by simp [newV, HN.out], by simp [newV], by simp [newV], by simp [newV, HN.out], ro, rc, r5, r6, by have := r7; simpa [newV, HN.out] using this⟩
        have b4 := b3.set_ 3 (.slice A3 n c3)
        have f4 := fr_set w3 g 3 (.slice A3 n c3)
        have b5 : Blk (w3.setCell ⟨g, 3, none⟩ (.slice A3 n c3)) g 27 (mkC ⟨A', c', A3, c3, A2, c2, A4, c4, A6, c6⟩ k q n) := by simpa using b4
        have hg1 : w.heap.size ≠ g := by have := G2.out; have := HBS.out; omega
        have HT := Lib.hid (⟨b5, f4.blk rz3 hg1, bel3.trans (f4.below bel3.size (fun i hi => by have := G2.out; have := HBS.out; omega)), dd.fr f4 (fun i hi _ e => hi.2 e)⟩ : Blk (w3.setCell ⟨g, 3, none⟩ (.slice A3 n c3)) g 27 (mkC ⟨A', c', A3, c3, A2, c2, A4, c4, A6, c6⟩ k q n) ∧ Blk (w3.setCell ⟨g, 3, none⟩ (.slice A3 n c3)) w.heap.size 27 zeroC ∧ Below w.heap.size w (w3.setCell ⟨g, 3, none⟩ (.slice A3 n c3)) ∧ DocC (w3.setCell ⟨g, 3, none⟩ (.slice A3 n c3)) (fun i => w.heap.size + 1 ≤ i ∧ i ≠ g) ⟨A', c', A3, c3, A2, c2, A4, c4, A6, c6⟩ k q n (newV k q l))
        obtain ⟨W4, hW4⟩ : ∃ W, W = w3.setCell ⟨g, 3, none⟩ (.slice A3 n c3) := ⟨_, rfl⟩
        rw [← hW4] at HT
        have HW4 := Lib.hid hW4
        clear hW4 b4 f4 b5 dd ro rc rr r5 r6 r7 e3 e3b frW rz3 bel3 hWr hown hown2 hgr hb3 hat b3 mk1 mk2 mk3 k2 k3 fz2 fz3
        go_upto_region 7 with fail
        rw [← HW4.out]
        clear HW4 z3 y3
        obtain ⟨x0, x1, x2, x3, x4, x5, x6, x7, x8, x9⟩ := blk10 HT.out.1
        obtain ⟨s0, s1, s2, s3, s4, s5, s6, s7, s8, s9⟩ := blk10 HT.out.2.1
        have t0 := HT.out.2.1.frozen 0
        have t1 := HT.out.2.1.frozen 1
        have t2 := HT.out.2.1.frozen 2
        have t3 := HT.out.2.1.frozen 3
        have t4 := HT.out.2.1.frozen 4
        have t5 := HT.out.2.1.frozen 5
        have t6 := HT.out.2.1.frozen 6
        have t7 := HT.out.2.1.frozen 7
        have t8 := HT.out.2.1.frozen 8
        have t9 := HT.out.2.1.frozen 9
        have hF := fr_set10 W4 w.heap.size (.int .i64 0) (.slice none 0 0) (.slice A' k c') (.slice A3 n c3) (.slice none 0 0) (.slice A2 k c2) (.slice A4 q c4) (.slice A6 n c6) (.slice none 0 0) (.slice none 0 0)
        have HE := Lib.hid (⟨HT.out.2.1.set10 (.int .i64 0) (.slice none 0 0) (.slice A' k c') (.slice A3 n c3) (.slice none 0 0) (.slice A2 k c2) (.slice A4 q c4) (.slice A6 n c6) (.slice none 0 0) (.slice none 0 0), (HT.out.2.2.2.fr hF (fun i hi _ e => by have := hi.1; omega)).mono (E' := fun i => w.heap.size ≤ i) (fun i hi _ => by have := hi.1; omega), HT.out.2.2.1.trans (hF.below HT.out.2.2.1.size (fun i hi => by omega))⟩ : _ ∧ _ ∧ _)
        clear hF HT FF HI HRD HBL HN HR HBX HWB HBS G2 hwW hgW
        go_wp2_with fail
        refine bodyPost_ret (v := .agg #[.int .i64 0, .slice none 0 0, .slice A' k c', .slice A3 n c3, .slice none 0 0, .slice A2 k c2, .slice A4 q c4, .slice A6 n c6, .slice none 0 0, .slice none 0 0]) (results_cell_row rfl _ _ w.heap.size 27 _ (0, 0) _ rfl HE.out.1 Try.underlying27 rfl (by kernel_rfl)) rfl ?_
        exact ⟨⟨A', c', A3, c3, A2, c2, A4, c4, A6, c6⟩, rfl, HE.out.2.1, HE.out.2.2⟩
end Go.Proofs.Ytikelkfinjcgaaa
