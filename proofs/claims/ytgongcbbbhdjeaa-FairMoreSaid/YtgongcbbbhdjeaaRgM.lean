
/-
  Rings in memory: a row of slots that goes round, and its box. Over any kind of thing. No function of the landed code is spoken of here.
-/
import Derived.Test.YtgongcbbbhdjeaaWords
import Derived.Laws.CopyOwn
import Derived.Lib.SliceRun
import Derived.Lib.Hide
set_option linter.unusedVariables false
namespace Go.Proofs.Ytgongcbbbhdjeaa
open Go.RowKit

namespace Plain
theorem round_at {room first i : Nat} (hf : first < room) (hi : i < room) : (first + i) % room = if first + i < room then first + i else first + i - room := by
  split
  · exact Nat.mod_eq_of_lt (by omega)
  · rename_i h
    rw [Nat.mod_eq_sub_mod (by omega)]
    exact Nat.mod_eq_of_lt (by omega)
theorem round_lt {room : Nat} (first i : Nat) (h : 0 < room) : (first + i) % room < room := Nat.mod_lt _ h
theorem round_ne {room first i j : Nat} (hf : first < room) (hi : i < room) (hj : j < room) (hne : i ≠ j) : (first + i) % room ≠ (first + j) % room := by
  rw [round_at hf hi, round_at hf hj]
  split <;> split <;> omega
/-- The slots zs of a ring hold l, from the slot first on, round. -/
def Holds {α : Type} (zs : List α) (first : Nat) (l : List α) : Prop := ∀ i x, l[i]? = some x → zs[(first + i) % zs.length]? = some x
theorem Holds.nil {α : Type} (zs : List α) (first : Nat) : Holds zs first [] := fun i x h => by simp at h
theorem Holds.push {α : Type} {zs : List α} {first : Nat} {l : List α} (h : Holds zs first l) (hf : first < zs.length) (hl : l.length < zs.length) (x : α) : Holds (zs.set ((first + l.length) % zs.length) x) first (l ++ [x]) := by
  intro i y hy
  have hi : i < (l ++ [x]).length := (List.getElem?_eq_some_iff.1 hy).1
  simp at hi
  rw [List.length_set]
  by_cases hil : i = l.length
  · subst hil
    simp at hy
    subst hy
    rw [List.getElem?_set_self (round_lt _ _ (by omega))]
  · rw [List.getElem?_set_ne (Ne.symm (round_ne hf (by omega) hl hil))]
    refine h i y ?_
    rwa [List.getElem?_append_left (by omega)] at hy
theorem Holds.pop {α : Type} {zs : List α} {first : Nat} {x : α} {l : List α} (h : Holds zs first (x :: l)) (hf : first < zs.length) (hl : l.length + 1 ≤ zs.length) (z : α) : Holds (zs.set first z) ((first + 1) % zs.length) l := by
  intro i y hy
  have hi : i < l.length := (List.getElem?_eq_some_iff.1 hy).1
  rw [List.length_set]
  have e : ((first + 1) % zs.length + i) % zs.length = (first + (i + 1)) % zs.length := by
    rw [Nat.mod_add_mod, Nat.add_assoc, Nat.add_comm 1 i]
  have hne := round_ne hf (i := i + 1) (j := 0) (by omega) (by omega) (by omega)
  rw [show (first + 0) % zs.length = first by rw [Nat.add_zero, Nat.mod_eq_of_lt hf]] at hne
  rw [e, List.getElem?_set_ne (Ne.symm hne)]
  exact h (i + 1) y (by simpa using hy)
theorem Holds.first {α : Type} {zs : List α} {first : Nat} {x : α} {l : List α} (h : Holds zs first (x :: l)) (hf : first < zs.length) : zs[first]? = some x := by
  have := h 0 x (by simp)
  rwa [Nat.add_zero, Nat.mod_eq_of_lt hf] at this
theorem Holds.fill {α : Type} (zs l : List α) (h : l.length ≤ zs.length) : Holds (l ++ zs.drop l.length) 0 l := by
  intro i x hx
  have hi : i < l.length := (List.getElem?_eq_some_iff.1 hx).1
  have hn : (l ++ zs.drop l.length).length = zs.length := by simp; omega
  rw [hn, Nat.zero_add, Nat.mod_eq_of_lt (by omega), List.getElem?_append_left hi]
  exact hx
end Plain
open Plain

/-- A ring in memory: its box g, its slots in block s; it has l. -/
structure Rg {α : Type} (enc : α → Value) (T e : TypeId) (w : World) (g s room first : Nat) (l : List α) : Prop where
  box : Blk w g T #[.slice (some ⟨s, 0, none⟩) room room, .int .i64 (first : Int), .int .i64 (l.length : Int)]
  row : ∃ zs : List α, zs.length = room ∧ Blk w s e (zs.map enc).toArray ∧ Holds zs first l
  len : l.length ≤ room
  fi : first < room ∨ (room = 0 ∧ first = 0)
  hi : room ≤ 1024
  ne : g ≠ s

section
variable {α : Type} {enc : α → Value} {T e : TypeId} {w w' : World} {g s room first : Nat} {l : List α}
theorem Rg.fr {S : Nat → Prop} (h : Rg enc T e w g s room first l) (hf : Fr S w w') (hg : ¬ S g) (hs : ¬ S s) : Rg enc T e w' g s room first l := by
  obtain ⟨h1, ⟨zs, z1, z2, z3⟩, h3, h4, h5, h6⟩ := h
  exact ⟨hf.blk h1 hg, ⟨zs, z1, hf.blk z2 hs, z3⟩, h3, h4, h5, h6⟩
theorem Rg.below {B : Nat} (h : Rg enc T e w g s room first l) (hb : Below B w w') (hg : g < B) (hs : s < B) : Rg enc T e w' g s room first l :=
  h.fr (Fr.of_below hb) (by omega) (by omega)
theorem Rg.lt (h : Rg enc T e w g s room first l) : g < w.heap.size ∧ s < w.heap.size := by
  obtain ⟨h1, ⟨zs, z1, z2, z3⟩, _⟩ := h
  exact ⟨h1.lt, z2.lt⟩
theorem Rg.drewN (h : Rg enc T e w g s room first l) (n : Nat) : Rg enc T e (w.drewN n) g s room first l :=
  ⟨h.box, h.row, h.len, h.fi, h.hi, h.ne⟩
theorem Rg.drew (h : Rg enc T e w g s room first l) : Rg enc T e w.drew g s room first l :=
  ⟨h.box, h.row, h.len, h.fi, h.hi, h.ne⟩
theorem Rg.alloc (h : Rg enc T e w g s room first l) (o : Obj) : Rg enc T e (w.alloc o) g s room first l :=
  h.below ((Below.refl _ _).alloc (Nat.le_refl _) o) h.lt.1 h.lt.2
theorem Rg.cell (h : Rg enc T e w g s room first l) {i : Nat} {x : α} (hi : l[i]? = some x) : w.cell? ⟨s, (first + i) % room, none⟩ = some (enc x) := by
  obtain ⟨zs, rfl, z2, z3⟩ := h.row
  rw [z2.cell]
  have := z3 i x hi
  simp [this]
theorem Rg.slot (h : Rg enc T e w g s room first l) {j : Nat} (hj : j < room) : ∃ x : α, w.cell? ⟨s, j, none⟩ = some (enc x) ∧ w.frozen? ⟨s, j, none⟩ = false := by
  obtain ⟨zs, rfl, z2, z3⟩ := h.row
  refine ⟨zs[j], ?_, z2.frozen j⟩
  rw [z2.cell]
  simp [hj]
/-- A thing is put in, in the world that Push leaves. -/
theorem Rg.push (h : Rg enc T e w g s room first l) (x : α) (hl : l.length < room) {j : Nat} (hj : j = (first + l.length) % room) :
    Rg enc T e ((w.setCell ⟨s, j, none⟩ (enc x)).setCell ⟨g, 2, none⟩ (.int .i64 ((l.length : Int) + 1))) g s room first (l ++ [x]) := by
  subst hj
  obtain ⟨h1, ⟨zs, z1, z2, z3⟩, h3, h4, h5, h6⟩ := h
  subst z1
  have b1 := (h1.far (p := ⟨s, (first + l.length) % zs.length, none⟩) h6 (enc x)).set_ 2 (.int .i64 ((l.length : Int) + 1))
  have b2 := (z2.set_ ((first + l.length) % zs.length) (enc x)).far (p := ⟨g, 2, none⟩) (Ne.symm h6) (.int .i64 ((l.length : Int) + 1))
  refine ⟨by simpa using b1, ⟨zs.set ((first + l.length) % zs.length) x, by simp, by simpa [List.map_set] using b2, z3.push (by omega) hl x⟩, by simp; omega, h4, h5, h6⟩
/-- The first one is taken out, in the world that Pop leaves. -/
theorem Rg.pop {x : α} (h : Rg enc T e w g s room first (x :: l)) (z : α) {f : Nat} (hf : f = (first + 1) % room) :
    Rg enc T e (((w.setCell ⟨s, first, none⟩ (enc z)).setCell ⟨g, 1, none⟩ (.int .i64 (f : Int))).setCell ⟨g, 2, none⟩ (.int .i64 (l.length : Int))) g s room f l := by
  subst hf
  obtain ⟨h1, ⟨zs, z1, z2, z3⟩, h3, h4, h5, h6⟩ := h
  subst z1
  simp at h3
  have b1 := ((h1.far (p := ⟨s, first, none⟩) h6 (enc z)).set_ 1 (.int .i64 (((first + 1) % zs.length : Nat) : Int))).set_ 2 (.int .i64 (l.length : Int))
  have b2 := ((z2.set_ first (enc z)).far (p := ⟨g, 1, none⟩) (Ne.symm h6) (.int .i64 (((first + 1) % zs.length : Nat) : Int))).far (p := ⟨g, 2, none⟩) (Ne.symm h6) (.int .i64 (l.length : Int))
  refine ⟨by simpa using b1, ⟨zs.set first z, by simp, by simpa [List.map_set] using b2, ?_⟩, by omega, .inl (round_lt _ _ (by omega)), h5, h6⟩
  exact z3.pop (by omega) (by omega) z
end

theorem blk_of_full {w : World} {base n g : Nat} {e : TypeId} {xs : List Value} (h : w.ownsRow base e 1 (.slice (some ⟨g, 0, none⟩) n n) n xs) : Blk w g e xs.toArray := by
  rcases h.2 with ⟨h0, _⟩ | ⟨g', cap, cur, h0, _, hh, _, _, hcs, ht⟩
  · cases h0
  · injection h0 with h1 h2 h3
    injection h1 with h1
    injection h1 with h1
    subst h1 h3
    rw [List.take_of_length_le (by simp; omega)] at ht
    subst ht
    simpa [Blk] using hh
theorem made_one (z : Value) (n : Nat) : (madeCells #[z] n).toList = List.replicate n z := by
  unfold madeCells
  apply List.ext_getElem
  · simp
  · intro i h1 h2
    simp [Nat.mod_one]
theorem drewN_setCell (w : World) (p : Addr) (v : Value) (n : Nat) : (w.setCell p v).drewN n = (w.drewN n).setCell p v := rfl
/-- How many a ring has room for that is asked for so many. -/
def Plain.clampR (n : Int) : Nat := (min (max n 0) 1024).toNat
section
variable {P : Program} {w : World} {ops : Array Oper} {rest : List Oper} {o : Oper} {a : Act} {Q : Exit → Act → World → Prop}
theorem setRow_fr (w : World) (g : Nat) (cs : Array Value) : Fr (fun i => i = g) w (w.setRow g cs) :=
  ⟨rfl, rfl, rfl, by simp [World.setRow], fun k _ hk => setRow_other w g k cs hk⟩
theorem setCells_fr (b : Nat) : ∀ (vs : List Value) (o : Nat) (w : World), Fr (fun i => i = b) w (w.setCells b o vs)
  | [], o, w => by simpa [World.setCells] using Fr.refl _ w
  | v :: vs, o, w => by
    have := setCells_fr b vs (o + 1) (w.setCell ⟨b, o, none⟩ v)
    simpa [World.setCells] using ((Fr.refl (fun i => i = b) w).setCell (p := ⟨b, o, none⟩) (.inl rfl) v).trans this (fun _ _ h => h)
theorem setCells_blk (b : Nat) (t : TypeId) : ∀ (vs cs : List Value) (o : Nat) (w : World), Blk w b t cs.toArray → o + vs.length ≤ cs.length → Blk (w.setCells b o vs) b t (cs.take o ++ vs ++ cs.drop (o + vs.length)).toArray
  | [], cs, o, w, h, _ => by simpa [World.setCells] using h
  | v :: vs, cs, o, w, h, hl => by
    simp at hl
    have h1 := h.set_ o v
    rw [List.setIfInBounds_toArray] at h1
    have := setCells_blk b t vs (cs.set o v) (o + 1) _ h1 (by simp; omega)
    have e : (cs.set o v).take (o + 1) ++ vs ++ (cs.set o v).drop (o + 1 + vs.length) = cs.take o ++ (v :: vs) ++ cs.drop (o + (v :: vs).length) := by
      rw [List.take_succ_eq_append_getElem (by simp; omega), List.take_set_of_le (by omega), List.getElem_set_self, List.drop_set_of_lt (by omega)]
      simp [Nat.add_assoc, Nat.add_comm 1]
    rw [e] at this
    simpa [World.setCells] using this

/-- 'clear(s)' of a row that is known whole. -/
theorem wpList_clear_row (hgd : o.guard = none) (d : Operand) (dT : TypeId) (ho : o.op = .call { callee := .builtin .clear, args := #[d], argTypes := #[dT] })
    (e : TypeId) (z : Value) (hu : P.underlying dT = some (.slice e)) (hv : ∀ w, (zeroValue e).run P w = .ok z w) (hz : z.cells = #[z]) (h1 : z.oneCell' = true)
    (g n c : Nat) (t : TypeId) (cs : List Value) (hd : a.eval d = .slice (some ⟨g, 0, none⟩) n c) (hb : Blk w g t cs.toArray) (hn : cs.length = n)
    (h : ∀ w', Blk w' g t (List.replicate n z).toArray → Fr (fun i => i = g) w w' → wpList P ops Q rest (a.put o.dst (.tuple #[])) w') : wpList P ops Q (o :: rest) a w := by
  refine wpList_plain hgd fun K hK => ?_
  rcases Nat.eq_zero_or_pos n with h0 | h0
  · subst h0
    have hc0 : cs = [] := List.eq_nil_of_length_eq_zero hn
    subst hc0
    have hrun : (Builtin.clear_ #[dT] o.type #[.slice (some ⟨g, 0, none⟩) 0 c]).run P w = .ok (.tuple #[]) w := by
      simp [Builtin.clear_, run_underlying hu]
    unfold Oper.wp
    simp [execOp, ho, resolve, invoke, builtin, hd, hrun, Result.andThen]
    exact hK _ _ (h w (by simpa using hb) (Fr.refl _ _))
  · have hrun := Go.Lib.run_clear_slice (P := P) w dT e o.type z hu hv hz h1 g 0 n c h0 (fun j hj => by rw [hb.cell]; simp; omega) (fun j _ => hb.frozen _)
    unfold Oper.wp
    simp [execOp, ho, resolve, invoke, builtin, hd, hrun, Result.andThen]
    refine hK _ _ (h _ ?_ (setCells_fr g _ 0 w))
    have := setCells_blk g t (List.replicate n z) cs 0 w hb (by simp; omega)
    simpa [hn, List.drop_eq_nil_of_le (Nat.le_of_eq hn)] using this

/-- 'copy(dst, src)' onto a row that is known whole. -/
theorem wpList_copy_row (hgd : o.guard = none) (d s : Operand) (dT sT : TypeId)
    (ho : o.op = .call { callee := .builtin .copy, args := #[d, s], argTypes := #[dT, sT] }) (elem : TypeId) (hu : P.underlying dT = some (.slice elem)) (hsz : (P.info? elem).map (·.size) = some 1)
    (g n c : Nat) (t : TypeId) (cs : List Value) (hd : a.eval d = .slice (some ⟨g, 0, none⟩) n c) (hb : Blk w g t cs.toArray) (hn : cs.length = n)
    (B : Nat) (A : Option Addr) (m c' : Nat) (xs : List Value) (hs : a.eval s = .slice A m c') (hr : Reads w B 1 A m xs) (h1 : ∀ u ∈ xs, u.oneCell' = true)
    (h : ∀ w', Blk w' g t (xs.take n ++ cs.drop (min m n)).toArray → Fr (fun i => i = g) w w' → wpList P ops Q rest (a.put o.dst (.int .i64 ((min m n : Nat) : Int))) w') : wpList P ops Q (o :: rest) a w := by
  have hxl : xs.length = m := by simpa using hr.1
  rcases Nat.eq_zero_or_pos (min m n) with h0 | h0
  · refine wpList_copy_nothing hgd d s dT sT ho elem hu hsz _ _ n c m c' hd hs h0 ?_
    have := h w (by
      have : xs.take n = [] := by
        rcases Nat.eq_zero_or_pos m with hm | hm
        · have : xs = [] := List.eq_nil_of_length_eq_zero (by omega)
          simp [this]
        · have : n = 0 := by omega
          simp [this]
      rw [this, h0]
      simpa using hb) (Fr.refl _ _)
    rw [h0] at this
    exact this
  · obtain ⟨ad, rfl, _, hcell⟩ := hr.2 (by omega)
    have hl : (xs.take n).length = min m n := by simp; omega
    refine wpList_copy_own hgd d s dT sT ho elem hu hsz g 0 n c ad m c' hd hs cs.toArray t hb (xs.take n) (by rw [hl]) (fun j v hv => hcell j v ?_) (by simp at hl ⊢; omega) (fun v hv => h1 v (List.mem_of_mem_take hv)) ?_
    · have hj : j < (xs.take n).length := (List.getElem?_eq_some_iff.1 hv).1
      rw [List.getElem?_take_of_lt (by omega)] at hv
      exact hv
    · have := h (w.setRow g (xs.take n ++ cs.drop (min m n)).toArray) (setRow_heap w g _ _ t _ hb) (setRow_fr w g _)
      have e1 : goInt ((xs.take n).length : Int) = .int .i64 ((min m n : Nat) : Int) := by rw [hl]; rfl
      rw [e1]
      simpa [hl] using this
end
end Go.Proofs.Ytgongcbbbhdjeaa
