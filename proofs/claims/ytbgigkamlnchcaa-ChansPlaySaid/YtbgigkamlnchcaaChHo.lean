
/-
  What holds of states at all times.
-/
import Derived.Test.YtbgigkamlnchcaaChPl
set_option linter.unusedVariables false
set_option linter.unusedSimpArgs false
namespace Go.Proofs.Ytbgigkamlnchcaa
open Go.RowKit Plain

structure HoldAt (r : Int) (b q w : List Int) : Prop where
  le : (b.length : Int) ≤ r
  full : q ≠ [] → r ≤ (b.length : Int)
  none_ : w ≠ [] → b = [] ∧ q = []
def HoldI (rm : Nat → Int) (s : Ck) : Prop := ∀ m, m < 4 → HoldAt (rm m) (gl s.bf m) (gl s.sq m) (gl s.rq m)
theorem firstV_none {s : Ck} : ∀ (l : List Nat) (i : Nat), firstV s l i = none → ∀ m ∈ l, readyV s m = false
  | [], _, _, m, hm => by simp at hm
  | k :: l, i, h, m, hm => by
    unfold firstV at h
    split at h
    · cases h
    · rename_i hk
      rcases List.mem_cons.1 hm with rfl | hm
      · simpa using hk
      · exact firstV_none l (i + 1) h m hm
theorem ready_no {s : Ck} {m : Nat} (h : readyV s m = false) : gl s.bf m = [] ∧ gl s.sq m = [] := by
  unfold readyV at h
  simp at h
  exact h
section
variable {rm : Nat → Int} {s : Ck} {K : Nat}
theorem HoldI.new (h0 : ∀ m, 0 ≤ rm m) : HoldI rm (newV 4) := fun m hm => by
  have h1 : gl (newV 4).bf m = [] := gl_rep 4 m
  have h2 : gl (newV 4).sq m = [] := gl_rep 4 m
  have h3 : gl (newV 4).rq m = [] := gl_rep 4 m
  rw [h1, h2, h3]
  exact ⟨by simpa using h0 m, fun h => absurd rfl h, fun h => absurd rfl h⟩
theorem HoldI.cancel (h : HoldI rm s) (t : Int) : HoldI rm (cancelV s t) := fun m hm => by
  have h3 : gl (cancelV s t).rq m = wo t (gl s.rq m) := gl_map (wo_nil t) m
  rw [h3]
  refine ⟨(h m hm).le, (h m hm).full, fun hne => (h m hm).none_ (fun e => hne (by rw [e]; rfl))⟩
/-- One channel turns. -/
theorem HoldI.turn (h : HoldI rm s) {s2 : Ck} {m : Nat} (hm : HoldAt (rm m) (gl s2.bf m) (gl s2.sq m) (gl s2.rq m)) (ho : ∀ k, k ≠ m → gl s2.bf k = gl s.bf k ∧ gl s2.sq k = gl s.sq k ∧ gl s2.rq k = gl s.rq k) : HoldI rm s2 := fun k hk => by
  by_cases e : k = m
  · subst e
    exact hm
  · obtain ⟨a, b, c⟩ := ho k e
    rw [a, b, c]
    exact h k hk
theorem HoldI.send (h : HoldI rm s) (O : CkOk K 4 s) {m : Nat} (hm : m < 4) (t v : Int) : HoldI rm (sendV s m (rm m) t v).1 := by
  have h0 := h m hm
  unfold sendV
  cases hq : gl s.rq m with
  | cons x r => exact h.cancel x
  | nil =>
    by_cases hr : ((gl s.bf m).length : Int) < rm m
    · simp only [hr, if_true]
      refine h.turn (m := m) ?_ (fun k hk => ⟨gl_set_ne (Ne.symm hk) _, rfl, rfl⟩)
      show HoldAt (rm m) (gl (s.bf.set m (gl s.bf m ++ [v])) m) (gl s.sq m) (gl s.rq m)
      rw [gl_set (by rw [O.l1]; exact hm), hq]
      exact ⟨by simp; omega, fun e => by have := h0.full e; simp; omega, fun e => absurd rfl e⟩
    · simp only [hr, if_false]
      refine h.turn (m := m) ?_ (fun k hk => ⟨rfl, gl_set_ne (Ne.symm hk) _, rfl⟩)
      show HoldAt (rm m) (gl s.bf m) (gl (s.sq.set m (gl s.sq m ++ [t, v])) m) (gl s.rq m)
      rw [hq]
      exact ⟨h0.le, fun e => by omega, fun e => absurd rfl e⟩
theorem HoldI.recv (h : HoldI rm s) (O : CkOk K 4 s) {m : Nat} (hm : m < 4) (t : Int) : HoldI rm (recvV s m t).1 := by
  have h0 := h m hm
  have hev := O.ev m
  have hml : m < s.bf.length := by rw [O.l1]; exact hm
  have hml2 : m < s.sq.length := by rw [O.l2]; exact hm
  have hml3 : m < s.rq.length := by rw [O.l3]; exact hm
  match hs : gl s.sq m with
  | [] =>
    have ha : admitV s m = (s, -1) := by unfold admitV; rw [hs]
    match hb : gl s.bf m with
    | [] =>
      have hr : recvV s m t = ({ s with rq := s.rq.set m (gl s.rq m ++ [t]) }, 0, -1, false) := by
        unfold recvV takeV
        rw [ha]
        simp only [hb]
      rw [hr]
      refine h.turn (m := m) ?_ (fun k hk => ⟨rfl, rfl, gl_set_ne (Ne.symm hk) _⟩)
      show HoldAt (rm m) (gl s.bf m) (gl s.sq m) (gl (s.rq.set m (gl s.rq m ++ [t])) m)
      exact ⟨h0.le, h0.full, fun _ => ⟨hb, hs⟩⟩
    | v :: r =>
      have hr : recvV s m t = ({ s with bf := s.bf.set m r }, v, -1, true) := by
        unfold recvV takeV
        rw [ha]
        simp only [hb]
      rw [hr]
      refine h.turn (m := m) ?_ (fun k hk => ⟨gl_set_ne (Ne.symm hk) _, rfl, rfl⟩)
      show HoldAt (rm m) (gl (s.bf.set m r) m) (gl s.sq m) (gl s.rq m)
      rw [gl_set hml]
      have hle := h0.le
      rw [hb] at hle
      refine ⟨by simp at hle; omega, fun e => absurd hs e, fun e => ?_⟩
      have := (h0.none_ e).1
      rw [hb] at this
      cases this
  | [x] => rw [hs] at hev; simp at hev
  | x :: y :: q =>
    have ha : admitV s m = ({ s with bf := s.bf.set m (gl s.bf m ++ [y]), sq := s.sq.set m q }, x) := by unfold admitV; rw [hs]
    have hg : gl (s.bf.set m (gl s.bf m ++ [y])) m = gl s.bf m ++ [y] := gl_set hml _
    have hne : gl s.sq m ≠ [] := by rw [hs]; simp
    have hrq : ¬ gl s.rq m ≠ [] := fun e => hne (h0.none_ e).2
    have hfu := h0.full hne
    match hb : gl s.bf m with
    | [] =>
      have hr : (recvV s m t).1 = { s with bf := (s.bf.set m []), sq := s.sq.set m q } := by
        unfold recvV takeV
        rw [ha]
        simp only [hg]
        rw [hb]
        simp only [List.nil_append, List.set_set]
      rw [hr]
      refine h.turn (m := m) ?_ (fun k hk => ⟨gl_set_ne (Ne.symm hk) _, gl_set_ne (Ne.symm hk) _, rfl⟩)
      show HoldAt (rm m) (gl (s.bf.set m []) m) (gl (s.sq.set m q) m) (gl s.rq m)
      rw [gl_set hml, gl_set hml2]
      have hle := h0.le
      rw [hb] at hle hfu
      exact ⟨hle, fun _ => hfu, fun e => absurd e hrq⟩
    | v :: r =>
      have hr : (recvV s m t).1 = { s with bf := s.bf.set m (r ++ [y]), sq := s.sq.set m q } := by
        unfold recvV takeV
        rw [ha]
        simp only [hg]
        rw [hb]
        simp only [List.cons_append, List.set_set]
      rw [hr]
      refine h.turn (m := m) ?_ (fun k hk => ⟨gl_set_ne (Ne.symm hk) _, gl_set_ne (Ne.symm hk) _, rfl⟩)
      show HoldAt (rm m) (gl (s.bf.set m (r ++ [y])) m) (gl (s.sq.set m q) m) (gl s.rq m)
      rw [gl_set hml, gl_set hml2]
      have hle := h0.le
      rw [hb] at hle hfu
      exact ⟨by simpa using hle, fun _ => by simpa using hfu, fun e => absurd e hrq⟩
theorem HoldI.select (h : HoldI rm s) (O : CkOk K 4 s) {L : List Nat} (hn : L.Nodup) (hL : ∀ m ∈ L, m < 4) (t : Int) : HoldI rm (selectV s L t).1 := by
  unfold selectV
  cases hf : firstV s L 0 with
  | some p =>
    obtain ⟨i, m⟩ := p
    exact h.recv O (hL m (firstV_mem L 0 hf).1) t
  | none =>
    intro m hm
    obtain ⟨p1, p2, _⟩ := waitAll_parts t L s
    have p3 := waitAll_rq t L s m hn (fun k hk => by rw [O.l3]; exact hL k hk)
    show HoldAt (rm m) (gl (waitAll t L s).bf m) (gl (waitAll t L s).sq m) (gl (waitAll t L s).rq m)
    rw [p1, p2, p3]
    by_cases hmL : m ∈ L
    · have hr := ready_no (firstV_none L 0 hf m hmL)
      exact ⟨(h m hm).le, (h m hm).full, fun _ => hr⟩
    · rw [if_neg hmL]
      exact h m hm
theorem HoldI.step {r0 r1 r2 r3 : Int} {s s2 : Ck} (h : HoldI (roomV r0 r1 r2 r3) s) (O : CkOk K 4 s) (hs : StepV r0 r1 r2 r3 s s2) : HoldI (roomV r0 r1 r2 r3) s2 := by
  rcases hs with rfl | ⟨t, rfl⟩ | ⟨m, t, v, hm, rfl⟩ | ⟨m, t, hm, rfl⟩ | ⟨L, t, h1, h2, h3, rfl⟩
  · exact h
  · exact h.cancel t
  · exact h.send O hm t v
  · exact h.recv O hm t
  · exact h.select O h1 h2 t
end
end Go.Proofs.Ytbgigkamlnchcaa
