
/-
  A row of numbers that begins and ends anywhere in a block of its own: append, the first one off, the last one off.
-/
import Derived.Test.YtipflplilkecjaaDqX
set_option linter.unusedVariables false
set_option linter.unusedSimpArgs false
namespace Go.Proofs.Ytipflplilkecjaa
open Go.RowKit Plain

/-- A row of numbers in blocks from b0 on. -/
def FR (w : World) (b0 : Nat) (v : Value) (l : List Int) : Prop :=
  (v = .slice none 0 0 ∧ l = []) ∨ ∃ b o c, ∃ cs : List Value, v = .slice (some ⟨b, o, none⟩) l.length c ∧ l.length ≤ c ∧ c ≤ 9223372036854775807 ∧ b0 ≤ b ∧ Blk w b 3 cs.toArray ∧ o + c ≤ cs.length ∧ ∀ (j : Nat) (x : Int), l[j]? = some x → cs[o + j]? = some (EnI x)
section
variable {w w' : World} {b0 : Nat} {v : Value} {l : List Int}
theorem FR.nil (w : World) (b0 : Nat) : FR w b0 (.slice none 0 0) [] := .inl ⟨rfl, rfl⟩
theorem FR.fr {S : Nat → Prop} (h : FR w b0 v l) (hf : Fr S w w') (hS : ∀ i, S i → i < b0 ∨ w.heap.size ≤ i) : FR w' b0 v l := by
  rcases h with h | ⟨b, o, c, cs, h1, h2, h3, h4, h5, h6, h7⟩
  · exact .inl h
  · exact .inr ⟨b, o, c, cs, h1, h2, h3, h4, hf.blk h5 (fun e => by have := hS _ e; have := h5.lt; omega), h6, h7⟩
theorem FR.below {B : Nat} (h : FR w b0 v l) (hb : Below B w w') (hB : w.heap.size ≤ B) : FR w' b0 v l := h.fr (Fr.of_below hb) (fun i hi => .inr (by omega))
theorem FR.slice (h : FR w b0 v l) : ∃ A c, v = .slice A l.length c ∧ l.length ≤ c ∧ Reads w w.heap.size 1 A l.length (l.map EnI) := by
  rcases h with ⟨rfl, rfl⟩ | ⟨b, o, c, cs, h1, h2, h3, h4, h5, h6, h7⟩
  · exact ⟨none, 0, rfl, by simp, Reads.none_⟩
  · refine ⟨_, _, h1, h2, by simp, fun _ => ⟨_, rfl, h5.lt, fun j u hj => ?_⟩⟩
    rw [List.getElem?_map] at hj
    obtain ⟨x, hx, rfl⟩ := Option.map_eq_some_iff.1 hj
    rw [Addr.add_lit, h5.cell]
    simpa using h7 j x hx
theorem fr_own {base : Nat} {n : Nat} (h : w.ownsRow base 3 1 v n (l.map EnI)) (hb : b0 ≤ base) (hn : 1 ≤ n) (hl : l.length = n) : FR w b0 v l := by
  rcases h.2 with ⟨_, h0⟩ | ⟨g', cap, cur, rfl, hg, hh, hnc, hcm, hcs, ht⟩
  · omega
  · refine .inr ⟨g', 0, cap, cur.toList, by rw [hl], by omega, by unfold maxLen at hcm; omega, by omega, by simpa [Blk] using hh, by simp; omega, fun i r hi => ?_⟩
    have hil := (List.getElem?_eq_some_iff.1 hi).1
    rw [Nat.zero_add]
    have : (cur.toList.take (n * 1))[i]? = (l.map EnI)[i]? := by rw [ht]
    rw [List.getElem?_take_of_lt (by omega)] at this
    rw [this, List.getElem?_map, hi]
    rfl
theorem run_append_f (ty : TypeId) (hq : FR w b0 v l) (hn : l.length ≤ 1000000) (x : Int) (ad : Addr) (cc : Nat) (hc : w.cell? ad = some (EnI x)) (hz : b0 ≤ w.heap.size) :
    ∃ v' w', (Builtin.append_ #[26, 26] ty #[v, .slice (some ad) 1 cc]).run Try.prog w = .ok v' w' ∧ FR w' b0 v' (l ++ [x]) ∧ Below b0 w w' := by
  obtain ⟨i0, hi0, hz0, hz1, hz2⟩ := info_parts info_int
  have hone : ∀ j u, ([EnI x] : List Value)[j]? = some u → w.cell? (ad.add j) = some u := by
    intro j u hj
    match j, hj with
    | 0, hj => simp at hj; subst hj; simpa [Addr.add] using hc
  rcases hq with ⟨h1, h2⟩ | ⟨b, o, c, cs, rfl, h2, h3, h4, h5, h6, h7⟩
  · subst h1 h2
    obtain ⟨v', w', hrun, hown, hgr, _⟩ := run_append_own (P := Try.prog) w w.heap.size 26 ty 3 i0 _ 1 8 Try.underlying26 hi0 hz0 hz1 hz2 rfl (by decide) (.slice none 0 0) 0 [] (World.ownsRow_nil w _ _ 1) ad 1 cc [EnI x] (by simp) hone (by simp [Value.oneCell']) (by unfold maxLen; omega) (by omega) (Nat.le_refl _)
    have hown2 : w'.ownsRow w.heap.size 3 1 v' 1 (([] ++ [x]).map EnI) := by simpa using hown
    exact ⟨v', w', hrun, fr_own hown2 hz (Nat.le_refl _) (by simp), (Below.refl _ w).grown hgr hz (by simp [Value.ownBlock])⟩
  · by_cases hr : l.length + 1 ≤ c
    · have hcs : o + l.length < cs.length := by omega
      have hrun := run_append_room_cells (P := Try.prog) w 26 ty 3 i0 Try.underlying26 hi0 b o l.length c ad 1 cc [EnI x] (by simp [hz1]) hone (by simp [Value.oneCell']) hr
        (by intro j hj; simp at hj; subst hj; rw [hz1, h5.cell]; simp; omega) (by intro j hj; exact h5.frozen _)
      simp [World.setCells, hz1] at hrun
      have hb := h5.set_ (o + l.length) (EnI x)
      refine ⟨_, _, hrun, .inr ⟨b, o, c, cs.set (o + l.length) (EnI x), by simp, by simp; omega, h3, h4, by simpa using hb, by simp; omega, fun i y hi => ?_⟩, (Below.refl _ w).setCell (p := ⟨b, o + l.length, none⟩) h4 _⟩
      rcases Nat.lt_or_ge i l.length with hlt | hge
      · rw [List.getElem?_append_left hlt] at hi
        rw [List.getElem?_set_ne (by omega)]
        exact h7 i y hi
      · rw [List.getElem?_append_right hge] at hi
        have hil : i = l.length := by
          have := (List.getElem?_eq_some_iff.1 hi).1
          simp at this
          omega
        subst hil
        simp at hi
        subst hi
        exact List.getElem?_set_self hcs
    · have holds : ∀ j u, (l.map EnI)[j]? = some u → w.cell? ((⟨b, o, none⟩ : Addr).add j) = some u := by
        intro j u hj
        rw [List.getElem?_map] at hj
        obtain ⟨y, hy, rfl⟩ := Option.map_eq_some_iff.1 hj
        rw [Addr.add_lit, h5.cell]
        simpa using h7 j y hy
      obtain ⟨v', w', hrun, hown, hgr⟩ := run_append_arg_grows (P := Try.prog) w 26 ty 3 i0 _ 1 8 Try.underlying26 hi0 hz0 hz1 hz2 rfl (by decide) ⟨b, o, none⟩ l.length c (l.map EnI) (by simp) holds ad 1 cc [EnI x] (by simp) hone (by omega) (by unfold maxLen; omega) (by omega)
      have hown2 : w'.ownsRow w.heap.size 3 1 v' (l.length + 1) ((l ++ [x]).map EnI) := by simpa using hown
      exact ⟨v', w', hrun, fr_own hown2 hz (by omega) (by simp), (Below.refl _ w).grown hgr hz (by simp)⟩
theorem wpList_append_f {ops : Array Oper} {rest : List Oper} {o : Oper} {a : Act} {Q : Exit → Act → World → Prop} (hgd : o.guard = none) (s x : Operand)
    (ho : o.op = .call { callee := .builtin .append, args := #[s, x], argTypes := #[26, 26] })
    (hq : FR w b0 v l) (hn : l.length ≤ 1000000) (hs : a.eval s = v) (n : Int) (ad : Addr) (cc : Nat) (hx : a.eval x = .slice (some ad) 1 cc) (hc : w.cell? ad = some (.int .i64 n)) (hz : b0 ≤ w.heap.size)
    (h : ∀ v' w', FR w' b0 v' (l ++ [n]) → Below b0 w w' → wpList Try.prog ops Q rest (a.put o.dst v') w') : wpList Try.prog ops Q (o :: rest) a w := by
  refine wpList_plain hgd fun K hK => ?_
  obtain ⟨v', w', hrun, h2, h3⟩ := run_append_f o.type hq hn n ad cc hc hz
  unfold Oper.wp execOp
  simp only [ho, resolve, invoke, builtin, Sem.run_bind, Sem.run_pure, Result.andThen_ok, List.map_toArray, List.map_cons, List.map_nil, hs, hx, hrun]
  exact hK _ _ (h v' w' h2 h3)
/-- The last one off. -/
theorem FR.init {A : Option Addr} {n c : Nat} {x : Int} (h : FR w b0 (.slice A (n + 1) c) (l ++ [x])) (hl : l.length = n) : FR w b0 (.slice A n c) l ∧ n ≤ c := by
  rcases h with ⟨h1, _⟩ | ⟨b, o, c', cs, h1, h2, h3, h4, h5, h6, h7⟩
  · cases h1
  · injection h1 with e1 e2 e3
    subst e1 e3
    simp at h2
    refine ⟨.inr ⟨b, o, c, cs, by rw [hl], by omega, h3, h4, h5, h6, fun j y hj => h7 j y ?_⟩, by omega⟩
    have := (List.getElem?_eq_some_iff.1 hj).1
    rw [List.getElem?_append_left this]
    exact hj
/-- The first one off. -/
theorem FR.tail {A : Option Addr} {n c : Nat} {x : Int} (h : FR w b0 (.slice A (n + 1) c) (x :: l)) (hl : l.length = n) : FR w b0 (.slice (if c = 1 then A else A.map (·.add 1)) n (c - 1)) l ∧ n + 1 ≤ c := by
  rcases h with ⟨h1, _⟩ | ⟨b, o, c', cs, h1, h2, h3, h4, h5, h6, h7⟩
  · cases h1
  · injection h1 with e1 e2 e3
    subst e1 e3
    simp at h2
    refine ⟨?_, by omega⟩
    by_cases hc : c = 1
    · rw [if_pos hc]
      refine .inr ⟨b, o, c - 1, cs, by rw [hl], by omega, by omega, h4, h5, by omega, fun j y hj => ?_⟩
      have := (List.getElem?_eq_some_iff.1 hj).1
      omega
    · rw [if_neg hc]
      refine .inr ⟨b, o + 1, c - 1, cs, by rw [hl]; simp [Addr.add], by omega, by omega, h4, h5, by omega, fun j y hj => ?_⟩
      rw [Nat.add_assoc, Nat.add_comm 1 j]
      exact h7 (j + 1) y (by simpa using hj)
end
end Go.Proofs.Ytipflplilkecjaa
