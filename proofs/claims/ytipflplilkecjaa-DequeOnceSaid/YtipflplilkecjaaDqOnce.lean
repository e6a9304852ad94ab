
/-
  What is given is taken, or stolen, once: the plain side; the statement's own closure.
-/
import Derived.Test.YtipflplilkecjaaDqZ
set_option linter.unusedVariables false
set_option linter.unusedSimpArgs false
namespace Go.Proofs.Ytipflplilkecjaa
open Go.RowKit Plain

namespace Plain
/-- What a pool has, how many were given, which were seen. -/
structure OI (C : List Int) (G : Nat) (seen : List Bool) : Prop where
  nd : C.Nodup
  mem : ∀ x ∈ C, ∃ k : Nat, x = (k : Int) ∧ k < G ∧ seen[k]? = some false
  all : ∀ k : Nat, k < G → seen[k]? = some false → (k : Int) ∈ C
  new : ∀ k : Nat, G ≤ k → k < 60 → seen[k]? = some false
  len : seen.length = 60
  G60 : G ≤ 60
theorem OI.nil : OI [] 0 (List.replicate 60 false) :=
  ⟨List.nodup_nil, by simp, by intro k hk; omega, fun k _ hk => by rw [List.getElem?_replicate_of_lt hk], by simp, by omega⟩
theorem OI.give {C C' : List Int} {G : Nat} {seen : List Bool} (h : OI C G seen) (hG : G < 60) (hp : C'.Perm ((G : Int) :: C)) : OI C' (G + 1) seen := by
  have hn : (G : Int) ∉ C := fun hm => by
    obtain ⟨k, h1, h2, _⟩ := h.mem _ hm
    omega
  refine ⟨(hp.nodup_iff).2 (List.nodup_cons.2 ⟨hn, h.nd⟩), fun x hx => ?_, fun k hk hs => ?_, fun k hk hk2 => h.new k (by omega) hk2, h.len, by omega⟩
  · rcases List.mem_cons.1 (hp.mem_iff.1 hx) with rfl | hx
    · exact ⟨G, rfl, by omega, h.new G (Nat.le_refl _) hG⟩
    · obtain ⟨k, h1, h2, h3⟩ := h.mem x hx
      exact ⟨k, h1, by omega, h3⟩
  · rw [hp.mem_iff]
    rcases Nat.lt_or_ge k G with h1 | h1
    · exact List.mem_cons_of_mem _ (h.all k h1 hs)
    · obtain rfl : k = G := by omega
      exact List.mem_cons_self
theorem OI.perm {C C' : List Int} {G : Nat} {seen : List Bool} (h : OI C G seen) (hp : C'.Perm C) : OI C' G seen :=
  ⟨(hp.nodup_iff).2 h.nd, fun x hx => h.mem x (hp.mem_iff.1 hx), fun k h1 h2 => hp.mem_iff.2 (h.all k h1 h2), h.new, h.len, h.G60⟩
theorem OI.take {C C' : List Int} {G : Nat} {seen : List Bool} {x : Int} (h : OI C G seen) (hp : C.Perm (x :: C')) : ∃ k : Nat, x = (k : Int) ∧ k < G ∧ seen[k]? = some false ∧ OI C' G (seen.set k true) := by
  obtain ⟨k, rfl, h2, h3⟩ := h.mem x (hp.mem_iff.2 List.mem_cons_self)
  have hnd := (hp.nodup_iff).1 h.nd
  rw [List.nodup_cons] at hnd
  have hkl : k < seen.length := (List.getElem?_eq_some_iff.1 h3).1
  refine ⟨k, rfl, h2, h3, hnd.2, fun y hy => ?_, fun j hj hs => ?_, fun j hj hj2 => ?_, by simpa using h.len, h.G60⟩
  · obtain ⟨j, rfl, g2, g3⟩ := h.mem y (hp.mem_iff.2 (List.mem_cons_of_mem _ hy))
    have hjk : k ≠ j := by rintro rfl; exact hnd.1 hy
    exact ⟨j, rfl, g2, by rw [List.getElem?_set_ne hjk]; exact g3⟩
  · have hjk : k ≠ j := by
      rintro rfl
      rw [List.getElem?_set_self hkl] at hs
      simp at hs
    rw [List.getElem?_set_ne hjk] at hs
    rcases List.mem_cons.1 (hp.mem_iff.1 (h.all j hj hs)) with e | e
    · omega
    · exact e
  · rw [List.getElem?_set_ne (by omega)]
    exact h.new j hj hj2
theorem flat_at {L : List (List Int)} {k : Nat} {l : List Int} (h : L[k]? = some l) : L.flatten = (L.take k).flatten ++ l ++ (L.drop (k + 1)).flatten := by
  have hk := (List.getElem?_eq_some_iff.1 h).1
  have he := (List.getElem?_eq_some_iff.1 h).2
  have : L = L.take k ++ l :: L.drop (k + 1) := by rw [← he, ← List.drop_eq_getElem_cons hk, List.take_append_drop]
  have h2 : L.flatten = (L.take k ++ l :: L.drop (k + 1)).flatten := by rw [← this]
  rw [h2]
  simp
theorem flat_set {L : List (List Int)} {k : Nat} {l : List Int} (h : k < L.length) : (L.set k l).flatten = (L.take k).flatten ++ l ++ (L.drop (k + 1)).flatten := by
  rw [flat_at (k := k) (l := l) (List.getElem?_set_self h), List.take_set_of_le (Nat.le_refl _), List.drop_set_of_lt (by omega)]
/-- What a pool has. -/
abbrev hasP (r : List (List Int) × List Int) : List Int := r.1.flatten ++ r.2
theorem give_perm {room : Nat} {L : List (List Int)} {Q : List Int} {i x : Int} (hi : 0 ≤ i ∧ i < (L.length : Int)) : (hasP (giveP room L Q i x).1).Perm (x :: hasP (L, Q)) ∧ (giveP room L Q i x).1.1.length = L.length ∧ (giveP room L Q i x).1.2.length ≤ Q.length + 1 := by
  unfold giveP
  rw [if_pos hi]
  have hk : i.toNat < L.length := by omega
  have hx : L[i.toNat]? = some L[i.toNat] := List.getElem?_eq_getElem hk
  generalize L[i.toNat] = l at *
  rw [hx, Option.getD_some]
  split
  · refine ⟨?_, by simp, by simp⟩
    simp only [hasP]
    rw [flat_set hk, flat_at hx, List.perm_iff_count]
    intro a
    simp only [List.count_append, List.count_cons, List.count_nil]
    omega
  · refine ⟨?_, rfl, by simp⟩
    simp only [hasP]
    rw [List.perm_iff_count]
    intro a
    simp only [List.count_append, List.count_cons, List.count_nil]
    omega
theorem take_cases {L : List (List Int)} {Q : List Int} {i : Int} (hi : 0 ≤ i ∧ i < (L.length : Int)) :
    (∃ x L' Q', takeP L Q i = ((L', Q'), x, 0) ∧ (hasP (L, Q)).Perm (x :: hasP (L', Q')) ∧ L'.length = L.length ∧ ((L'[i.toNat]?).getD []).length + Q'.length + 1 = ((L[i.toNat]?).getD []).length + Q.length ∧ (∀ j : Nat, j ≠ i.toNat → L'[j]? = L[j]?) ∧ Q'.length ≤ Q.length) ∨
    (takeP L Q i = ((L, Q), 0, 7) ∧ (L[i.toNat]?).getD [] = [] ∧ Q = []) := by
  unfold takeP
  rw [if_pos hi]
  have hk : i.toNat < L.length := by omega
  have hx : L[i.toNat]? = some L[i.toNat] := List.getElem?_eq_getElem hk
  generalize L[i.toNat] = l at *
  rw [hx, Option.getD_some]
  by_cases hl : l = []
  · subst hl
    rw [List.getLast?_nil]
    rcases Q with _ | ⟨x, Q'⟩
    · exact .inr ⟨rfl, rfl, rfl⟩
    · refine .inl ⟨x, L, Q', rfl, ?_, rfl, by rw [hx]; simp, fun _ _ => rfl, by simp⟩
      simp only [hasP]
      exact List.perm_middle
  · obtain ⟨l0, x, rfl⟩ : ∃ l0 x, l = l0 ++ [x] := ⟨l.dropLast, l.getLast hl, (List.dropLast_concat_getLast hl).symm⟩
    simp only [List.getLast?_append, List.getLast?_singleton, Option.some_or, List.dropLast_concat]
    refine .inl ⟨x, _, Q, rfl, ?_, by simp, by rw [List.getElem?_set_self hk]; simp; omega, fun j hj => List.getElem?_set_ne (Ne.symm hj), Nat.le_refl _⟩
    simp only [hasP]
    rw [flat_set hk, flat_at hx, List.perm_iff_count]
    intro a
    simp only [List.count_append, List.count_cons, List.count_nil]
    omega
theorem steal_cases {L : List (List Int)} {Q : List Int} {i j : Int} (hi : 0 ≤ i ∧ i < (L.length : Int)) (hj : 0 ≤ j ∧ j < (L.length : Int)) :
    (∃ x L', stealP L Q i j = ((L', Q), x, 0) ∧ (hasP (L, Q)).Perm (x :: hasP (L', Q)) ∧ L'.length = L.length) ∨
    (∃ e : Int, e ≠ 0 ∧ stealP L Q i j = ((L, Q), 0, e)) := by
  unfold stealP
  rw [if_pos ⟨hi, hj⟩]
  by_cases hij : i = j
  · rw [if_pos hij]
    exact .inr ⟨1, by omega, rfl⟩
  · rw [if_neg hij]
    have hk : j.toNat < L.length := by omega
    have hx : L[j.toNat]? = some L[j.toNat] := List.getElem?_eq_getElem hk
    generalize L[j.toNat] = l at *
    rw [hx, Option.getD_some]
    rcases l with _ | ⟨x, l0⟩
    · exact .inr ⟨7, by omega, rfl⟩
    · refine .inl ⟨x, _, rfl, ?_, by simp⟩
      simp only [hasP]
      rw [flat_set hk, flat_at hx, List.perm_iff_count]
      intro a
      simp only [List.count_append, List.count_cons, List.count_nil]
      omega
end Plain

/-- Where DequeOnce stands. -/
structure DO (w wr : World) (g d s room : Nat) (Dq : Nat → Prop) (L : List (List Int)) (Q : List Int) (gb sb sl G : Nat) (seen : List Bool) : Prop where
  pl : Pl wr g d s room Dq L Q
  b1 : Blk wr gb 3 #[.int .i64 (G : Int)]
  b2 : Blk wr sb 48 #[.slice (some ⟨sl, 0, none⟩) 60 60]
  b3 : Blk wr sl 4 (seen.map Value.bool).toArray
  nD : ¬ PlD d s Dq gb ∧ ¬ PlD d s Dq sb ∧ ¬ PlD d s Dq sl
  ge : ∀ i, PlD d s Dq i → w.heap.size ≤ i
  hgb : w.heap.size ≤ gb ∧ w.heap.size ≤ sb ∧ w.heap.size ≤ sl
  df : gb ≠ sb ∧ gb ≠ sl ∧ sb ≠ sl
  bel : Below w.heap.size w wr
section
variable {w wr w' : World} {g d s room : Nat} {Dq : Nat → Prop} {L L' : List (List Int)} {Q Q' : List Int} {gb sb sl G : Nat} {seen : List Bool}
theorem DO.turn (h : DO w wr g d s room Dq L Q gb sb sl G seen) (ht : PlTurn g d s room Dq wr w' (L', Q')) : ∃ Dq', DO w w' g d s room Dq' L' Q' gb sb sl G seen := by
  obtain ⟨Dq', h1, h2, h3, -⟩ := ht
  have hz := h.bel.size
  have hn : ∀ i, ¬ PlD d s Dq i → i < wr.heap.size → ¬ PlD d s Dq' i := fun i hi hl e => by
    rcases e with e | e
    · rcases h3 i e with e | e
      · exact hi (.inl e)
      · omega
    · exact hi (.inr e)
  refine ⟨Dq', h1, h2.blk h.b1 h.nD.1, h2.blk h.b2 h.nD.2.1, h2.blk h.b3 h.nD.2.2, ⟨hn _ h.nD.1 h.b1.lt, hn _ h.nD.2.1 h.b2.lt, hn _ h.nD.2.2 h.b3.lt⟩, fun i hi => ?_, h.hgb, h.df, h.bel.trans (h2.below hz h.ge)⟩
  rcases hi with e | e
  · rcases h3 i e with e | e
    · exact h.ge i (.inl e)
    · omega
  · exact h.ge i (.inr e)
theorem DO.given (h : DO w wr g d s room Dq L Q gb sb sl G seen) : DO w (wr.setCell ⟨gb, 0, none⟩ (.int .i64 ((G : Int) + 1))) g d s room Dq L Q gb sb sl (G + 1) seen := by
  have hf := (Fr.refl (fun i => i = gb) wr).setCell (p := ⟨gb, 0, none⟩) (.inl rfl) (.int .i64 ((G : Int) + 1))
  refine ⟨h.pl.fr hf (fun i hi => by subst hi; exact h.nD.1), ?_, hf.blk h.b2 (Ne.symm h.df.1), hf.blk h.b3 (Ne.symm h.df.2.1), h.nD, h.ge, h.hgb, h.df, h.bel.trans (hf.below h.bel.size (fun i hi => by subst hi; exact h.hgb.1))⟩
  have := h.b1.set_ 0 (.int .i64 ((G : Int) + 1))
  simpa using this
theorem DO.saw (h : DO w wr g d s room Dq L Q gb sb sl G seen) (k : Nat) : DO w (wr.setCell ⟨sl, k, none⟩ (.bool true)) g d s room Dq L Q gb sb sl G (seen.set k true) := by
  have hf := (Fr.refl (fun i => i = sl) wr).setCell (p := ⟨sl, k, none⟩) (.inl rfl) (.bool true)
  refine ⟨h.pl.fr hf (fun i hi => by subst hi; exact h.nD.2.2), hf.blk h.b1 h.df.2.1, hf.blk h.b2 h.df.2.2, ?_, h.nD, h.ge, h.hgb, h.df, h.bel.trans (hf.below h.bel.size (fun i hi => by subst hi; exact h.hgb.2.2))⟩
  have := h.b3.set_ k (.bool true)
  simpa [List.map_set] using this
end
theorem hent_once : ∀ (args : Array Value) (W : World), (callFunc 22 args).run Try.prog W = .ok (.enter 22 args) W := by
  intro args W
  go_simp
section
variable (w wr : World) (g d s room : Nat) (Dq : Nat → Prop) (L : List (List Int)) (Q : List Int) (gb sb sl G : Nat) (seen : List Bool) (h : DO w wr g d s room Dq L Q gb sb sl G seen)
include h
set_option maxHeartbeats 1000000 in
theorem put_err (e : Int) (he : e ≠ 0) : Calls Try.prog 22 #[.int .i64 0, .int .i64 e, .pointer (some ⟨gb, 0, none⟩), .pointer (some ⟨sb, 0, none⟩)] wr fun r w' => r = .returned (.bool true) ∧ wr = w' := by
  have hu := h.b1.lt
  clear hu h
  go_enter Try.func22, Try.ntmps22
  go_wp2_with fail
  go_ret
  exact ⟨rfl, rfl⟩
set_option maxHeartbeats 1000000 in
theorem put_yes (k : Nat) (hk : k < G) (hG : G ≤ 60) (hs : seen[k]? = some false) : Calls Try.prog 22 #[.int .i64 (k : Int), .int .i64 0, .pointer (some ⟨gb, 0, none⟩), .pointer (some ⟨sb, 0, none⟩)] wr fun r w' => r = .returned (.bool true) ∧ w' = wr.setCell ⟨sl, k, none⟩ (.bool true) := by
  have c1 : wr.cell? ⟨gb, 0, none⟩ = some (.int .i64 (G : Int)) := (h.b1.cell 0).trans rfl
  have c2 : wr.cell? ⟨sb, 0, none⟩ = some (.slice (some ⟨sl, 0, none⟩) 60 60) := (h.b2.cell 0).trans rfl
  have c3 : wr.cell? ⟨sl, k, none⟩ = some (.bool false) := by rw [h.b3.cell]; simp [hs]
  have z3 : wr.frozen? ⟨sl, k, none⟩ = false := h.b3.frozen k
  have k0 : ¬ (k : Int) < 0 := by omega
  have k1 : ¬ (k : Int) ≥ (G : Int) := by omega
  have k2 : (0 : Int) ≤ (k : Int) := by omega
  have k3 : (k : Int) < 60 := by omega
  clear h hs
  go_enter Try.func22, Try.ntmps22
  go_wp2_with fail
  go_ret
  exact ⟨rfl, rfl⟩
end
end Go.Proofs.Ytipflplilkecjaa
