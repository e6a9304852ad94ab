
/-
  A queue in memory: rings behind one another.
-/
import Derived.Test.YtipflplilkecjaaDqC
import Derived.Test.YtipflplilkecjaaRgMove
import Derived.Deep.RegionLawGrows
set_option linter.unusedVariables false
set_option linter.unusedSimpArgs false
namespace Go.Proofs.Ytipflplilkecjaa
open Go.RowKit Plain

namespace Plain
/-- A ring of a queue: its box, its slots, its first slot, what it has. -/
structure QRec where
  g : Nat
  s : Nat
  f : Nat
  l : List Int
abbrev contQ (rs : List QRec) : List Int := rs.flatMap QRec.l
end Plain
/-- A row of pointers to rings, n of c. -/
def QRow (w : World) (D : Nat → Prop) (A : Option Addr) (c : Nat) (rs : List QRec) : Prop :=
  (rs = [] ∧ A = none ∧ c = 0) ∨ ∃ b o, ∃ cs : List Value, A = some ⟨b, o, none⟩ ∧ rs.length ≤ c ∧ 1 ≤ c ∧ c ≤ 9223372036854775807 ∧ Blk w b 77 cs.toArray ∧ o + c ≤ cs.length ∧ D b ∧ ∀ (i : Nat) (r : QRec), rs[i]? = some r → cs[o + i]? = some (.pointer (some ⟨r.g, 0, none⟩))
/-- A queue: its box g (of a pool), its rings; all its blocks are of D. -/
structure Qu (w : World) (g : Nat) (dv : Value) (D : Nat → Prop) (rs : List QRec) : Prop where
  box : ∃ A c, Blk w g 59 #[.slice A rs.length c, dv] ∧ QRow w D A c rs
  rings : ∀ r ∈ rs, RgI w r.g r.s 32 r.f r.l ∧ D r.g ∧ D r.s
  df : ∀ (i j : Nat) (r r' : QRec), rs[i]? = some r → rs[j]? = some r' → i ≠ j → r.g ≠ r'.g ∧ r.s ≠ r'.s
  ne : rs.length ≤ 1 ∨ ∀ r ∈ rs, r.l ≠ []
  dg : D g
section
variable {w w' : World} {g : Nat} {dv : Value} {D D' : Nat → Prop} {rs : List QRec} {A : Option Addr} {c : Nat}
theorem QRow.fr {S : Nat → Prop} (h : QRow w D A c rs) (hf : Fr S w w') (hS : ∀ (i : Nat) (cs : Array Value), Blk w i 77 cs → D i → ¬ S i) : QRow w' D A c rs := by
  rcases h with h | ⟨b, o, cs, h1, h2, h3, h0, h4, h5, h6, h7⟩
  · exact .inl h
  · exact .inr ⟨b, o, cs, h1, h2, h3, h0, hf.blk h4 (hS b _ h4 h6), h5, h6, h7⟩
theorem Qu.fr {S : Nat → Prop} (h : Qu w g dv D rs) (hf : Fr S w w') (hS : ∀ i, S i → ¬ D i) : Qu w' g dv D rs := by
  obtain ⟨⟨A, c, a1, a2⟩, h2, h3, h5, h6⟩ := h
  refine ⟨⟨A, c, hf.blk a1 (fun e => hS _ e h6), a2.fr hf (fun i cs _ hd e => hS _ e hd)⟩, fun r hr => ?_, h3, h5, h6⟩
  obtain ⟨q1, q2, q3⟩ := h2 r hr
  exact ⟨q1.fr hf (fun e => hS _ e q2) (fun e => hS _ e q3), q2, q3⟩
theorem Qu.drewN (h : Qu w g dv D rs) (n : Nat) : Qu (w.drewN n) g dv D rs := h.fr (S := fun _ => False) ((Fr.refl _ w).drewN n) (fun _ h => h.elim)
theorem Qu.mono (h : Qu w g dv D rs) (hD : ∀ i, D i → i < w.heap.size → D' i) : Qu w g dv D' rs := by
  obtain ⟨⟨A, c, a1, a2⟩, h2, h3, h5, h6⟩ := h
  refine ⟨⟨A, c, a1, ?_⟩, fun r hr => ?_, h3, h5, hD _ h6 a1.lt⟩
  · rcases a2 with a2 | ⟨b, o, cs, h1, h2, h3, h0, h4, h5, h6, h7⟩
    · exact .inl a2
    · exact .inr ⟨b, o, cs, h1, h2, h3, h0, h4, h5, hD _ h6 h4.lt, h7⟩
  · obtain ⟨q1, q2, q3⟩ := h2 r hr
    exact ⟨q1, hD _ q2 q1.lt.1, hD _ q3 q1.lt.2⟩
theorem ringT_ne : 90 ≠ 59 ∧ 3 ≠ 59 ∧ 77 ≠ 59 ∧ 90 ≠ 77 ∧ 3 ≠ 77 ∧ 90 ≠ 3 := by decide
/-- The i-th pointer. -/
theorem QRow.cell (h : QRow w D A c rs) {i : Nat} {r : QRec} (hi : rs[i]? = some r) : ∃ ad : Addr, A = some ad ∧ w.cell? (ad.add i) = some (.pointer (some ⟨r.g, 0, none⟩)) ∧ w.frozen? (ad.add i) = false := by
  rcases h with ⟨rfl, _⟩ | ⟨b, o, cs, h1, h2, h3, h0, h4, h5, h6, h7⟩
  · simp at hi
  · refine ⟨_, h1, ?_, ?_⟩
    · rw [Addr.add_lit, h4.cell]
      simpa using h7 i r hi
    · rw [Addr.add_lit]
      exact h4.frozen _
/-- Other rings of the queue stand where one has turned. -/
theorem Qu.other (h : Qu w g dv D rs) {S : Nat → Prop} (hf : Fr S w w') {i j : Nat} {r r' : QRec} (hi : rs[i]? = some r) (hj : rs[j]? = some r') (hij : i ≠ j) (hS : ∀ k, S k → D k → k = r.g ∨ k = r.s) : RgI w' r'.g r'.s 32 r'.f r'.l := by
  have hr := h.rings r (List.mem_of_getElem? hi)
  have hr' := h.rings r' (List.mem_of_getElem? hj)
  obtain ⟨t1, t2, t3, t4, t5, t6⟩ := ringT_ne
  obtain ⟨z1, -, e1, -⟩ := hr.1.row
  obtain ⟨z2, -, e2, -⟩ := hr'.1.row
  have hd := h.df i j r r' hi hj hij
  have n1 : r'.g ≠ r.g := Ne.symm hd.1
  have n2 : r'.s ≠ r.s := Ne.symm hd.2
  have n3 : r'.g ≠ r.s := Blk.ne_ hr'.1.box e1 t6
  have n4 : r'.s ≠ r.g := Blk.ne_ e2 hr.1.box (Ne.symm t6)
  exact hr'.1.fr hf (fun e => by rcases hS _ e hr'.2.1 with e | e <;> omega) (fun e => by rcases hS _ e hr'.2.2 with e | e <;> omega)
/-- One ring has turned: the queue with that ring. -/
theorem Qu.turn (h : Qu w g dv D rs) {S : Nat → Prop} (hf : Fr S w w') {i : Nat} {r : QRec} (hi : rs[i]? = some r) (hS : ∀ k, S k → D k → k = r.g ∨ k = r.s) {f : Nat} {l : List Int} (hr : RgI w' r.g r.s 32 f l) (hne : rs.length ≤ 1 ∨ l ≠ []) : Qu w' g dv D (rs.set i ⟨r.g, r.s, f, l⟩) := by
  have hrr := h.rings r (List.mem_of_getElem? hi)
  obtain ⟨t1, t2, t3, t4, t5, t6⟩ := ringT_ne
  obtain ⟨z1, -, e1, -⟩ := hrr.1.row
  have hil := (List.getElem?_eq_some_iff.1 hi).1
  have hset : ∀ (j : Nat) (r' : QRec), (rs.set i ⟨r.g, r.s, f, l⟩)[j]? = some r' → ∃ r0 : QRec, rs[j]? = some r0 ∧ r0.g = r'.g ∧ r0.s = r'.s := fun j r' hj => by
    by_cases hij : i = j
    · subst hij
      rw [List.getElem?_set_self hil] at hj
      injection hj with hj
      subst hj
      exact ⟨r, hi, rfl, rfl⟩
    · rw [List.getElem?_set_ne hij] at hj
      exact ⟨r', hj, rfl, rfl⟩
  obtain ⟨A, c, a1, a2⟩ := h.box
  refine ⟨⟨A, c, ?_, ?_⟩, fun r' hr' => ?_, fun j k r1 r2 h1 h2 hjk => ?_, ?_, h.dg⟩
  · rw [List.length_set]
    exact hf.blk a1 (fun e => by rcases hS _ e h.dg with e | e; exact Blk.ne_ a1 hrr.1.box (Ne.symm t1) e; exact Blk.ne_ a1 e1 (Ne.symm t2) e)
  · rcases a2 with ⟨a3, _⟩ | ⟨b, o, cs, h1, h2, h3, h0, h4, h5, h6, h7⟩
    · subst a3; simp at hi
    · refine .inr ⟨b, o, cs, h1, by simpa using h2, h3, h0, hf.blk h4 (fun e => by rcases hS _ e h6 with e | e; exact Blk.ne_ h4 hrr.1.box (Ne.symm t4) e; exact Blk.ne_ h4 e1 (Ne.symm t5) e), h5, h6, fun j r' hj => ?_⟩
      by_cases hij : i = j
      · subst hij
        rw [List.getElem?_set_self hil] at hj
        injection hj with hj
        subst hj
        exact h7 i r hi
      · rw [List.getElem?_set_ne hij] at hj
        exact h7 j r' hj
  · obtain ⟨j, hj⟩ := List.getElem?_of_mem hr'
    by_cases hij : i = j
    · subst hij
      rw [List.getElem?_set_self hil] at hj
      injection hj with hj
      subst hj
      exact ⟨hr, hrr.2.1, hrr.2.2⟩
    · rw [List.getElem?_set_ne hij] at hj
      have := h.rings r' (List.mem_of_getElem? hj)
      exact ⟨h.other hf hi hj hij hS, this.2.1, this.2.2⟩
  · obtain ⟨q1, p1, p2, p3⟩ := hset j r1 h1
    obtain ⟨q2, p4, p5, p6⟩ := hset k r2 h2
    have := h.df j k q1 q2 p1 p4 hjk
    rw [← p2, ← p3, ← p5, ← p6]
    exact this
  · rcases hne with hne | hne
    · left; simpa using hne
    · rcases h.ne with h5 | h5
      · left; simpa using h5
      · right
        intro r' hr'
        obtain ⟨j, hj⟩ := List.getElem?_of_mem hr'
        by_cases hij : i = j
        · subst hij
          rw [List.getElem?_set_self hil] at hj
          injection hj with hj
          subst hj
          exact hne
        · rw [List.getElem?_set_ne hij] at hj
          exact h5 r' (List.mem_of_getElem? hj)
/-- The first ring is left off. -/
theorem Qu.tail {r : QRec} (h : Qu w g dv D (r :: rs)) (hrs : 1 ≤ rs.length) {S : Nat → Prop} (hf : Fr S w w') (hS : ∀ k, S k → D k → k = r.g ∨ k = r.s) (hne : ∀ x ∈ rs, x.l ≠ []) {b o : Nat} (h0 : w.cell? ⟨g, 0, none⟩ = some (.slice (some ⟨b, o, none⟩) (rs.length + 1) c)) (p : Value) :
    Qu ((w'.setCell ⟨b, o, none⟩ p).setCell ⟨g, 0, none⟩ (.slice (some ⟨b, o + 1, none⟩) rs.length (c - 1))) g dv D rs ∧ D b := by
  obtain ⟨t1, t2, t3, t4, t5, t6⟩ := ringT_ne
  obtain ⟨A, c', a1, a2⟩ := h.box
  have e0 := a1.cell 0
  rw [h0] at e0
  simp at e0
  obtain ⟨e1, e2⟩ := e0
  subst e1 e2
  rcases a2 with ⟨h1, _⟩ | ⟨b', o', cs, h1, h2, h3, h30, h4, h5, h6, h7⟩
  · cases h1
  injection h1 with h1
  injection h1 with h1 h1'
  subst h1 h1'
  have hrr := h.rings r (by simp)
  obtain ⟨z1, -, e1, -⟩ := hrr.1.row
  have hg1 : Blk w' g 59 _ := hf.blk a1 (fun e => by rcases hS _ e h.dg with e | e; exact Blk.ne_ a1 hrr.1.box (Ne.symm t1) e; exact Blk.ne_ a1 e1 (Ne.symm t2) e)
  have hb1 : Blk w' b 77 _ := hf.blk h4 (fun e => by rcases hS _ e h6 with e | e; exact Blk.ne_ h4 hrr.1.box (Ne.symm t4) e; exact Blk.ne_ h4 e1 (Ne.symm t5) e)
  have hgb : g ≠ b := Blk.ne_ a1 h4 (Ne.symm t3)
  have hfr : Fr (fun k => k = b ∨ k = g) w' ((w'.setCell ⟨b, o, none⟩ p).setCell ⟨g, 0, none⟩ (.slice (some ⟨b, o + 1, none⟩) rs.length (c - 1))) := ((Fr.refl (fun k => k = b ∨ k = g) w').setCell (p := ⟨b, o, none⟩) (.inl (.inl rfl)) p).setCell (p := ⟨g, 0, none⟩) (.inl (.inr rfl)) _
  simp at h2
  refine ⟨⟨⟨some ⟨b, o + 1, none⟩, c - 1, ?_, .inr ⟨b, o + 1, cs.set o p, rfl, by omega, by omega, by omega, ?_, by simp; omega, h6, fun i x hi => ?_⟩⟩, fun x hx => ?_, fun i j x y hi hj hij => ?_, .inr hne, h.dg⟩, h6⟩
  · have := (hg1.far (p := ⟨b, o, none⟩) hgb p).set_ 0 (.slice (some ⟨b, o + 1, none⟩) rs.length (c - 1))
    simpa using this
  · have := (hb1.set_ o p).far (p := ⟨g, 0, none⟩) (Ne.symm hgb) (.slice (some ⟨b, o + 1, none⟩) rs.length (c - 1))
    simpa using this
  · rw [List.getElem?_set_ne (by omega), Nat.add_assoc, Nat.add_comm 1 i]
    exact h7 (i + 1) x (by simpa using hi)
  · obtain ⟨i, hi⟩ := List.getElem?_of_mem hx
    have hx' := h.rings x (List.mem_cons_of_mem _ hx)
    have ho := h.other hf (i := 0) (j := i + 1) (r := r) (r' := x) rfl (by simpa using hi) (by omega) hS
    obtain ⟨z2, -, e2, -⟩ := ho.row
    refine ⟨ho.fr hfr (fun e => ?_) (fun e => ?_), hx'.2.1, hx'.2.2⟩
    · rcases e with e | e
      · exact Blk.ne_ ho.box hb1 t4 e
      · exact Blk.ne_ ho.box hg1 t1 e
    · rcases e with e | e
      · exact Blk.ne_ e2 hb1 t5 e
      · exact Blk.ne_ e2 hg1 t2 e
  · exact h.df (i + 1) (j + 1) x y (by simpa using hi) (by simpa using hj) (by omega)
theorem contQ_split {rs : List QRec} {i : Nat} {r : QRec} (hi : rs[i]? = some r) : contQ rs = contQ (rs.take i) ++ r.l ++ contQ (rs.drop (i + 1)) := by
  have hil := (List.getElem?_eq_some_iff.1 hi).1
  have he := (List.getElem?_eq_some_iff.1 hi).2
  have h1 : rs = rs.take i ++ r :: rs.drop (i + 1) := by
    rw [← he, ← List.drop_eq_getElem_cons hil, List.take_append_drop]
  have : contQ rs = contQ (rs.take i ++ r :: rs.drop (i + 1)) := by rw [← h1]
  rw [this]
  simp [contQ]
theorem contQ_set {rs : List QRec} {i : Nat} {r r' : QRec} (hi : rs[i]? = some r) : contQ (rs.set i r') = contQ (rs.take i) ++ r'.l ++ contQ (rs.drop (i + 1)) := by
  have hil := (List.getElem?_eq_some_iff.1 hi).1
  rw [contQ_split (i := i) (r := r') (List.getElem?_set_self hil), List.take_set_of_le (Nat.le_refl _), List.drop_set_of_lt (by omega)]
end
end Go.Proofs.Ytipflplilkecjaa
