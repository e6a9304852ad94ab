
/-
  The document's calls of layer 9, each in one contract for all cases.
-/
import Derived.Test.YtikelkfinjcgaaaLkRn
set_option linter.unusedVariables false
set_option linter.unusedSimpArgs false
namespace Go.Proofs.Ytikelkfinjcgaaa
open Go.RowKit Plain

/-- Where rows stand behind a call: where they stood, or in new memory. -/
abbrev EW (w : World) (E : Nat → Prop) : Nat → Prop := fun k => (E k ∧ k < w.heap.size) ∨ w.heap.size ≤ k
theorem DocC.new {w w' : World} {E : Nat → Prop} {z : LkQ} {p q n : Nat} {s : Lk} (h : DocC w' (fun k => w.heap.size ≤ k) z p q n s) : DocC w' (EW w E) z p q n s := h.mono (fun k hk _ => .inr hk)
theorem DocC.kept {w w' : World} {E : Nat → Prop} {z : LkQ} {p q n : Nat} {s : Lk} (h : DocC w E z p q n s) (hb : Below w.heap.size w w') : DocC w' (EW w E) z p q n s :=
  (h.mono (E' := fun k => E k ∧ k < w.heap.size) (fun k hk hl => ⟨hk, hl⟩)).below hb (Nat.le_refl _) |>.mono (fun k hk _ => .inl hk)
theorem DocWE.new {w w' : World} {E : Nat → Prop} {z : LkQ} {p q n : Nat} {s : Lk} (h : DocWE w' (w.heap.size + 2) z p q n s) : DocC w' (EW w E) z p q n s := by
  obtain ⟨b3, b4, h⟩ := h
  exact h.doc.mono (fun k hk _ => .inr (by omega))
section
variable (w : World) (E : Nat → Prop) (z : LkQ) (p q n : Nat) (s : Lk) (h : DocC w E z p q n s)
include h
theorem docLock (hs : SzL s) (m : Nat) (hm : m < p) (t : Int) (hx : -1 ≤ gn s.own m) :
    Calls Try.prog 43 #[.agg (mkC z p q n), .int .i64 (m : Int), .int .i64 t] w fun e w' => ∃ z' : LkQ, e = .returned (.tuple #[.agg (mkC z' p q n), .bool (lockV s m t).2]) ∧ DocC w' (EW w E) z' p q n (lockV s m t).1 ∧ Below w.heap.size w w' := by
  refine (refLock_any w E z p q n s h hs m hm t hx).mono ?_
  rintro e w' ⟨z', h1, h2, h3⟩
  exact ⟨z', h1, h2.new, h3⟩
theorem docUnlock (hs : SzL s) (m : Nat) (hm : m < p) (t : Int) :
    Calls Try.prog 44 #[.agg (mkC z p q n), .int .i64 (m : Int), .int .i64 t] w fun e w' => ∃ z' : LkQ, e = .returned (.tuple #[.agg (mkC z' p q n), .int .i64 (unlockV s m t).2.1, .int .i64 (unlockV s m t).2.2]) ∧ DocC w' (EW w E) z' p q n (unlockV s m t).1 ∧ Below w.heap.size w w' := by
  unfold unlockV
  by_cases hx : gn s.own m = t
  · rw [if_pos hx]
    refine (refUnlock_yes w E z p q n s h hs m hm t hx).mono ?_
    rintro e w' ⟨z', h1, h2, h3⟩
    exact ⟨z', h1, h2.new, h3⟩
  · rw [if_neg hx]
    refine (refUnlock_no w E z p q n s h m hm t hx).mono ?_
    rintro e w' ⟨h1, h3⟩
    exact ⟨z, h1, h.kept h3, h3⟩
theorem docWait (hs : SzL s) (cc m : Nat) (hc : cc < q) (hm : m < p) (t : Int) :
    Calls Try.prog 45 #[.agg (mkC z p q n), .int .i64 (cc : Int), .int .i64 (m : Int), .int .i64 t] w fun e w' => ∃ z' : LkQ, e = .returned (.tuple #[.agg (mkC z' p q n), .int .i64 (waitV s cc m t).2.1, .int .i64 (waitV s cc m t).2.2]) ∧ DocC w' (EW w E) z' p q n (waitV s cc m t).1 ∧ Below w.heap.size w w' := by
  unfold waitV
  by_cases hx : gn s.own m = t
  · rw [if_pos hx]
    refine (refWait_yes w E z p q n s h hs cc m hc hm t hx).mono ?_
    rintro e w' ⟨z', h1, h2, h3⟩
    exact ⟨z', h1, h2.new, h3⟩
  · rw [if_neg hx]
    refine (refWait_no w E z p q n s h cc m hm t hx).mono ?_
    rintro e w' ⟨h1, h3⟩
    exact ⟨z, h1, h.kept h3, h3⟩
theorem docSignal (hs : SzL s) (cc m : Nat) (hc : cc < q) (hm : m < p) (ho : -1 ≤ gn s.own m) :
    Calls Try.prog 46 #[.agg (mkC z p q n), .int .i64 (cc : Int), .int .i64 (m : Int)] w fun e w' => ∃ z' : LkQ, e = .returned (.tuple #[.agg (mkC z' p q n), .int .i64 (signalV s cc m).2.1, .bool (signalV s cc m).2.2]) ∧ DocC w' (EW w E) z' p q n (signalV s cc m).1 ∧ Below w.heap.size w w' := by
  unfold signalV
  cases hx : gl s.wq cc with
  | nil =>
    refine (refSignal_none w E z p q n s h cc m hc hx).mono ?_
    rintro e w' ⟨h1, h3⟩
    exact ⟨z, h1, h.kept h3, h3⟩
  | cons x r =>
    refine (refSignal_some w E z p q n s h hs cc m hc hm ho x r hx).mono ?_
    rintro e w' ⟨z', h1, h2, h3⟩
    exact ⟨z', h1, h2.new, h3⟩
theorem docBroadcast {K : Nat} (O : LkOk K s) (hK : K ≤ 100000) (cc m : Nat) (hc : cc < q) (hm : m < p) :
    Calls Try.prog 47 #[.agg (mkC z p q n), .int .i64 (cc : Int), .int .i64 (m : Int)] w fun e w' => ∃ (z' : LkQ) (v : Value), e = .returned (.tuple #[.agg (mkC z' p q n), v, .int .i64 (broadV cc m (gl s.wq cc) s (-1)).2]) ∧ DocC w' (EW w E) z' p q n (broadV cc m (gl s.wq cc) s (-1)).1 ∧ OwnI w' w.heap.size v (gl s.wq cc) ∧ Below w.heap.size w w' := by
  refine (refBroadcast_any w E z p q n s h O hK cc m hc hm).mono ?_
  rintro e w' ⟨z', v, h1, h2, h3, h4⟩
  refine ⟨z', v, h1, h2.mono (fun k hk _ => hk.elim .inl (fun e => .inr (by omega))), ?_, h4⟩
  unfold OwnI World.ownsRow at h3 ⊢
  obtain ⟨a, b⟩ := h3
  refine ⟨a, b.imp id ?_⟩
  rintro ⟨g, cap, cur, h1, h2, h3⟩
  exact ⟨g, cap, cur, h1, by omega, h3⟩
theorem docDown (hs : SzL s) (i : Nat) (hi : i < n) (t : Int) (h0 : 0 ≤ gn s.cnt i) (h1 : gn s.cnt i ≤ 1000000) :
    Calls Try.prog 26 #[.agg (mkC z p q n), .int .i64 (i : Int), .int .i64 t] w fun e w' => ∃ z' : LkQ, e = .returned (.tuple #[.agg (mkC z' p q n), .bool (downV s i t).2]) ∧ DocC w' (EW w E) z' p q n (downV s i t).1 ∧ Below w.heap.size w w' := by
  unfold downV
  by_cases hx : gn s.cnt i ≤ 0
  · rw [if_pos hx]
    refine (refDown_busy w E z p q n s h hs i hi t (by omega)).mono ?_
    rintro e w' ⟨z', h1, h2, h3⟩
    exact ⟨z', h1, h2.new, h3⟩
  · rw [if_neg hx]
    refine (refDown_free w E z p q n s h hs i hi t (by omega) h1).mono ?_
    rintro e w' ⟨z', h1, h2, h3⟩
    exact ⟨z', h1, h2.new, h3⟩
theorem docUp (hs : SzL s) (i : Nat) (hi : i < n) (h0 : 0 ≤ gn s.cnt i) (h1 : gn s.cnt i ≤ 1000000) :
    Calls Try.prog 27 #[.agg (mkC z p q n), .int .i64 (i : Int)] w fun e w' => ∃ z' : LkQ, e = .returned (.tuple #[.agg (mkC z' p q n), .int .i64 (upV s i).2]) ∧ DocC w' (EW w E) z' p q n (upV s i).1 ∧ Below w.heap.size w w' := by
  unfold upV
  cases hx : gl s.dq i with
  | nil =>
    refine (refUp_none w E z p q n s h hs i hi hx h0 h1).mono ?_
    rintro e w' ⟨z', h1, h2, h3⟩
    exact ⟨z', h1, h2.new, h3⟩
  | cons x r =>
    refine (refUp_first w E z p q n s h hs i hi x r hx).mono ?_
    rintro e w' ⟨z', h1, h2, h3⟩
    exact ⟨z', h1, h2.new, h3⟩
end
end Go.Proofs.Ytikelkfinjcgaaa
