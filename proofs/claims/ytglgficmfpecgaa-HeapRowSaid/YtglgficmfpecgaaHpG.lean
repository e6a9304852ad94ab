
/-
  Plain data of the laws of layer 8: rows of timers by their members.
-/
import Derived.Test.YtglgficmfpecgaaHpE
set_option linter.unusedVariables false
namespace Go.Proofs.Ytglgficmfpecgaa
open Go.RowKit Plain
theorem mem_cancelR {r : List Tm} {k : Int} {t : Tm} : t ∈ cancelR r k ↔ t ∈ r ∧ t.1 ≠ k := by
  unfold cancelR
  rw [List.mem_filter]
  simp
theorem mem_setR {r : List Tm} {k a : Int} {t : Tm} : t ∈ setR r k a ↔ t = (k, a) ∨ (t ∈ r ∧ t.1 ≠ k) := by
  unfold setR
  rw [(insR_perm _ _).mem_iff, List.mem_cons, mem_cancelR]
theorem sorted_ext : ∀ {l r : List Tm}, l.Pairwise ahd → r.Pairwise ahd → (∀ t, t ∈ l ↔ t ∈ r) → l = r
  | [], [], _, _, _ => rfl
  | [], y :: r, _, _, h => by have := (h y).2 (by simp); simp at this
  | x :: l, [], _, _, h => by have := (h x).1 (by simp); simp at this
  | x :: l, y :: r, hl, hr, h => by
    rw [List.pairwise_cons] at hl hr
    have hxy : x = y := by
      rcases List.mem_cons.1 ((h x).1 (by simp)) with e | hx
      · exact e
      · rcases List.mem_cons.1 ((h y).2 (by simp)) with e | hy
        · exact e.symm
        · exact absurd (hr.1 x hx) (ahd_asymm (hl.1 y hy))
    subst hxy
    have ht : ∀ t, t ∈ l ↔ t ∈ r := fun t => by
      have h1 := h t
      rw [List.mem_cons, List.mem_cons] at h1
      constructor
      · intro hm
        rcases h1.1 (.inr hm) with e | e
        · subst e
          exact absurd (hl.1 t hm) (ahd_irrefl t)
        · exact e
      · intro hm
        rcases h1.2 (.inr hm) with e | e
        · subst e
          exact absurd (hr.1 t hm) (ahd_irrefl t)
        · exact e
    rw [sorted_ext hl.2 hr.2 ht]
/-- A row of the document's. -/
structure Srt (r : List Tm) : Prop where
  sorted : r.Pairwise ahd
  keys : (r.map (·.1)).Nodup
theorem Srt.nil : Srt [] := ⟨List.Pairwise.nil, by simp⟩
theorem Srt.set {r : List Tm} (h : Srt r) (k a : Int) : Srt (setR r k a) := ⟨insR_sorted _ _ (h.sorted.filter _) cancelR_keys, setR_keys h.keys⟩
theorem Srt.cancel {r : List Tm} (h : Srt r) (k : Int) : Srt (cancelR r k) := ⟨h.sorted.filter _, cancelR_nodup h.keys⟩
theorem srt_of {ts r : List Tm} (h : Rel ts r) : Srt r := ⟨h.sorted, h.keys⟩
theorem dueN_all {r : List Tm} {now : Int} (h : ∀ t ∈ r, t.2 ≤ now) : dueN r now = r.length := by
  have := dueN_app (d := r) (rest := []) h (fun x r' e => by cases e)
  rwa [List.append_nil] at this
/-- The heap has all keys of the first i of l, and no others. -/
def Keyed1 (l : List Int) (i : Nat) (R : List Tm) : Prop := (∀ x ∈ l.take i, hasR R x = true) ∧ (∀ t ∈ R, t.1 ∈ l.take i) ∧ R.length ≤ i
theorem mem_take_succ {l : List Int} {i : Nat} {x y : Int} (hx : l[i]? = some x) : y ∈ l.take (i + 1) ↔ y ∈ l.take i ∨ y = x := by
  rw [List.take_add_one, hx, List.mem_append]
  simp
theorem hasR_set {r : List Tm} {k a x : Int} : hasR (setR r k a) x = true ↔ x = k ∨ hasR r x = true := by
  rw [hasR_iff, hasR_iff]
  constructor
  · rintro ⟨t, ht, rfl⟩
    rcases mem_setR.1 ht with rfl | ⟨h1, h2⟩
    · exact .inl rfl
    · exact .inr ⟨t, h1, rfl⟩
  · rintro (rfl | ⟨t, ht, rfl⟩)
    · exact ⟨(x, a), mem_setR.2 (.inl rfl), rfl⟩
    · by_cases e : t.1 = k
      · exact ⟨(k, a), mem_setR.2 (.inl rfl), e.symm⟩
      · exact ⟨t, mem_setR.2 (.inr ⟨ht, e⟩), rfl⟩
theorem Keyed1.step {l : List Int} {i : Nat} {R : List Tm} (h : Keyed1 l i R) {x : Int} (hx : l[i]? = some x) (a : Int) : Keyed1 l (i + 1) (setR R x a) := by
  refine ⟨fun y hy => hasR_set.2 ?_, fun t ht => (mem_take_succ hx).2 ?_, ?_⟩
  · rcases (mem_take_succ hx).1 hy with hy | hy
    · exact .inr (h.1 y hy)
    · exact .inl hy
  · rcases mem_setR.1 ht with rfl | ⟨h1, _⟩
    · exact .inr rfl
    · exact .inl (h.2.1 t h1)
  · have := setR_len R x a
    have := cancelR_len R x
    have := h.2.2
    omega
/-- The document's row r has those of the heap's row R whose keys are among the first i of l; the heap's keys are the first n. -/
def Keyed2 (l : List Int) (n i : Nat) (R r : List Tm) : Prop :=
  (∀ x ∈ l.take n, hasR R x = true) ∧ (∀ t ∈ R, t.1 ∈ l.take n) ∧ R.length ≤ n + i ∧ (∀ t, t ∈ r ↔ t ∈ R ∧ t.1 ∈ l.take i) ∧ Srt r ∧ r.length ≤ i ∧ ∀ t ∈ r, t.2 ≤ 1000
theorem Keyed2.start {l : List Int} {n : Nat} {R : List Tm} (h : Keyed1 l n R) : Keyed2 l n 0 R [] :=
  ⟨h.1, h.2.1, h.2.2, fun t => by simp, Srt.nil, Nat.le_refl _, by simp⟩
theorem Keyed2.step {l : List Int} {n i : Nat} {R r : List Tm} (h : Keyed2 l n i R r) (hi : i < n) {x : Int} (hx : l[i]? = some x) {a : Int} (ha : a ≤ 1000) : Keyed2 l n (i + 1) (setR R x a) (setR r x a) := by
  obtain ⟨h1, h2, h3, h4, h5, h6, h7⟩ := h
  have hxn : x ∈ l.take n := List.mem_of_getElem? (i := i) (by rw [List.getElem?_take_of_lt hi]; exact hx)
  refine ⟨fun y hy => hasR_set.2 (.inr (h1 y hy)), fun t ht => ?_, ?_, fun t => ?_, h5.set x a, ?_, fun t ht => ?_⟩
  · rcases mem_setR.1 ht with rfl | ⟨g1, _⟩
    · exact hxn
    · exact h2 t g1
  · have := setR_len R x a
    have := cancelR_len R x
    omega
  · rw [mem_setR, mem_setR, h4 t, mem_take_succ hx]
    constructor
    · rintro (rfl | ⟨⟨g1, g2⟩, g3⟩)
      · exact ⟨.inl rfl, .inr rfl⟩
      · exact ⟨.inr ⟨g1, g3⟩, .inl g2⟩
    · rintro ⟨rfl | ⟨g1, g3⟩, g2⟩
      · exact .inl rfl
      · rcases g2 with g2 | g2
        · exact .inr ⟨⟨g1, g2⟩, g3⟩
        · exact absurd g2 g3
  · have := setR_len r x a
    have := cancelR_len r x
    omega
  · rcases mem_setR.1 ht with rfl | ⟨g1, _⟩
    · exact ha
    · exact h7 t g1
theorem Keyed2.same {l : List Int} {n : Nat} {R r : List Tm} (h : Keyed2 l n n R r) (hR : Srt R) : R = r := by
  obtain ⟨h1, h2, h3, h4, h5, h6⟩ := h
  exact sorted_ext hR.sorted h5.sorted fun t => by
    rw [h4 t]
    exact ⟨fun hm => ⟨hm, h2 t hm⟩, fun hm => hm.1⟩
end Go.Proofs.Ytglgficmfpecgaa
