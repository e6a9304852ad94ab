
/-
  Deeds that come in: a slice of structs of four numbers and a row of numbers each (layer 10).
-/
import Derived.Test.YtbgigkamlnchcaaChOpen
import Derived.OpenShut
import Derived.Lib.SmallJoins
import Derived.Deep.Slices
import Derived.Deep.Fields
import Derived.ChangeSame
set_option linter.unusedVariables false
set_option linter.unusedSimpArgs false
namespace Go.Proofs.Ytbgigkamlnchcaa
open Go.Joins Go.ChangeShapes Go.WideShapes Go.Deep Go.RowKit Plain
section
variable {H : Type} {enc : TypeId × Value → H} {P : Program} {w : World} {base : Nat} {spare : Nat → Bool} {held : Bool}
theorem open_slice_fields10 {t e : TypeId} {fs : Array Field} {fuel : Nat} {cs : List Value} {x : DataW H × List MemPlace} (ht : P.underlying t = some (.slice e)) (he : P.underlying e = some (.struct fs))
    (hone : oneCellFields P fs = true) (hC : P.cellsOf e = fs.size) (h : DataW.trod enc P w base spare held fuel t cs = some x) :
    (cs = [.slice none 0 0] ∧ x = (.nil, [])) ∨
    ∃ (a : Addr) (len cap m : Nat) (D : Nat → DataW H) (Pl : Nat → List MemPlace), cs = [.slice (some a) len cap] ∧ base ≤ a.block ∧ len ≤ cap ∧ cap ≤ maxLen ∧ m = (if spare a.block then cap else len) ∧
      x = (.slice ((List.range len).map D) ((List.range (m - len)).map fun j => D (len + j)), MemPlace.row a (m * fs.size) ++ (List.range m).flatMap Pl) ∧
      ∀ i, i < m → ∃ (ys : List (DataW H × List MemPlace)) (n : Nat), D i = .agg (ys.map (·.1)) ∧ Pl i = ys.flatMap (·.2) ∧ ys.length = fs.size ∧
        ∀ (j : Nat) (f : Field), fs[j]? = some f → ∃ (v : Value) (y : DataW H × List MemPlace), w.cell? (a.add (i * fs.size + j)) = some v ∧ ys[j]? = some y ∧ DataW.trod enc P w base spare held n f.type [v] = some y := by
  rcases open_slice ht h with h0 | ⟨a, len, cap, m, n, D, Pl, hcs, hb, hl, hm, hmm, hx, hi⟩
  · exact .inl h0
  · refine .inr ⟨a, len, cap, m, D, Pl, hcs, hb, hl, hm, hmm, by rw [hC] at hx; exact hx, fun i him => ?_⟩
    obtain ⟨cs', hc, ht'⟩ := hi i him
    rw [hC] at hc
    obtain ⟨ys, n', hn', hy, hlen, hyl, hf⟩ := DataW.trod_struct he ht'
    obtain ⟨_, hcl, hat⟩ := World.cells?_some hc
    simp only [Prod.mk.injEq] at hy
    refine ⟨ys, n', hy.1, hy.2, hyl, fun j f hj => ?_⟩
    obtain ⟨ho, hk⟩ := hone_of hone j f hj
    have hjl : j < fs.size := (Array.getElem?_eq_some_iff.1 hj).1
    have hcell := hat j hjl
    have hv : cs'[j]? = some (cs'[j]'(by omega)) := List.getElem?_eq_getElem (by omega)
    have h1 := hf j f hj
    rw [ho, hk] at h1
    have hone' : (cs'.drop j).take 1 = [cs'[j]'(by omega)] := by
      rw [List.drop_eq_getElem_cons (by omega)]
      rfl
    rw [hone'] at h1
    have hys : ys[j]? = some (ys[j]'(by omega)) := List.getElem?_eq_getElem (by omega)
    refine ⟨_, _, ?_, hys, h1.trans hys⟩
    rw [← Go.Deep.add_add, hcell, hv]
end


/-- Kind, T, Ch, V, and L where it lies. -/
structure Deed10 where
  kind : Int
  t : Int
  ch : Int
  v : Int
  A : Option Addr
  k : Nat
  c : Nat
  l : List Int
def I64 (x : Int) : Prop := -9223372036854775808 ≤ x ∧ x ≤ 9223372036854775807
/-- One of them at an address, within bounds. -/
def Deed10At (w : World) (x : Addr) (p : Deed10) : Prop :=
  w.cell? (x.add 0) = some (.int .i64 p.kind) ∧ w.cell? (x.add 1) = some (.int .i64 p.t) ∧ w.cell? (x.add 2) = some (.int .i64 p.ch) ∧ w.cell? (x.add 3) = some (.int .i64 p.v) ∧ w.cell? (x.add 4) = some (.slice p.A p.k p.c) ∧
    (I64 p.kind ∧ I64 p.t ∧ I64 p.ch ∧ I64 p.v) ∧ p.l.length = p.k ∧ RN w (fun _ => True) p.A p.c p.l ∧ ∀ y ∈ p.l, I64 y

def IsDeeds10 (w : World) (a : Option Addr) (n c : Nat) (ps : List Deed10) : Prop :=
  ps.length = n ∧ n ≤ c ∧ c ≤ maxLen ∧ (0 < n → ∃ x, a = some x ∧ x.block < w.heap.size ∧ ∀ i p, ps[i]? = some p → Deed10At w (x.add (i * 5)) p)

theorem list_of10 {α : Type} (n : Nat) (P : Nat → α → Prop) (h : ∀ i, i < n → ∃ x, P i x) : ∃ l : List α, l.length = n ∧ ∀ i x, l[i]? = some x → P i x := by
  induction n with
  | zero => exact ⟨[], rfl, fun i x h => by simp at h⟩
  | succ n ih =>
    obtain ⟨l, hl, hp⟩ := ih (fun i hi => h i (by omega))
    obtain ⟨x, hx⟩ := h n (by omega)
    refine ⟨l ++ [x], by simp [hl], fun i y hy => ?_⟩
    rw [List.getElem?_append] at hy
    split at hy
    · exact hp i y hy
    · rename_i hi
      have : i = n := by
        have := (List.getElem?_eq_some_iff.1 hy).1
        simp at this
        omega
      subst this
      rw [hl, Nat.sub_self] at hy
      simp at hy
      exact hy ▸ hx

section
variable {H : Type} {enc : TypeId × Value → H} {W : World} {base : Nat} {spare : Nat → Bool} {held : Bool}
theorem ints_open10 {fuel : Nat} {v : Value} {y : DataW H × List MemPlace} (h : DataW.trod enc Try.prog W base spare held fuel 25 [v] = some y) :
    ∃ A n c l, v = .slice A n c ∧ l.length = n ∧ RN W (fun _ => True) A c l ∧ ∀ y ∈ l, I64 y := by
  rcases open_ints Try.underlying25 Try.underlying3 (by kernel_rfl) h with ⟨hcs, _⟩ | ⟨x, l, c, zs, hcs, _, hl, hm, hz, _, hcell, hwz⟩
  · simp at hcs
    exact ⟨none, 0, 0, [], hcs, rfl, RN.nil _ _ _ _, fun y hy => by simp at hy⟩
  · simp at hcs
    have hzl : l ≤ zs.length := by rw [hz]; split <;> omega
    have hlen : (zs.take l).length = l := List.length_take_of_le hzl
    refine ⟨some x, l, c, zs.take l, hcs, hlen, ⟨by omega, fun hn => ⟨x, rfl, trivial, ?_, fun j u hj => ?_⟩⟩, fun k hk => bounds_i64 (hwz k (List.mem_of_mem_take hk))⟩
    · have h0 := World.block_lt_of_cell? _ _ (hcell 0 (by omega))
      rwa [block_of_add] at h0
    · have hjl : j < l := by
        have := (List.getElem?_eq_some_iff.1 hj).1
        omega
      rw [hcell j (by omega)]
      rw [List.getElem?_take_of_lt hjl] at hj
      simp [List.getD, hj]
end
theorem deeds10_open {H : Type} {enc : TypeId × Value → H} {W : World} {a : Option Addr} {n c : Nat} {d : DataW H} {p : List MemPlace} {spare : Nat → Bool} {held : Bool} {base : Nat}
    (h : DataW.Trod enc Try.prog W base spare held 23 (.slice a n c) d p) : ∃ ps, IsDeeds10 W a n c ps := by
  obtain ⟨fuel, hf⟩ := h
  rcases open_slice_fields10 Try.underlying23 Try.underlying35 (by kernel_rfl) (by kernel_rfl) hf with ⟨hcs, _⟩ | ⟨x, l, cc, m, D, Pl, hcs, _, hl, hm, hmm, _, hi⟩
  · simp [Value.cells] at hcs
    obtain ⟨rfl, rfl, rfl⟩ := hcs
    exact ⟨[], rfl, by omega, by unfold maxLen; omega, by omega⟩
  · simp [Value.cells] at hcs
    obtain ⟨rfl, rfl, rfl⟩ := hcs
    have hnm : n ≤ m := by rw [hmm]; split <;> omega
    obtain ⟨ps, hp1, hp2⟩ := list_of10 n (fun i p => Deed10At W (x.add (i * 5)) p) (fun i hin => by
      obtain ⟨ys, k, _, _, _, hfld⟩ := hi i (by omega)
      obtain ⟨u0, y0, c0, _, t0⟩ := hfld 0 _ rfl
      obtain ⟨u1, y1, c1, _, t1⟩ := hfld 1 _ rfl
      obtain ⟨u2, y2, c2, _, t2⟩ := hfld 2 _ rfl
      obtain ⟨u3, y3, c3, _, t3⟩ := hfld 3 _ rfl
      obtain ⟨u4, y4, c4, _, t4⟩ := hfld 4 _ rfl
      obtain ⟨k0, e0, _, b0⟩ := DataW.trod_int Try.underlying3 t0
      obtain ⟨k1, e1, _, b1⟩ := DataW.trod_int Try.underlying3 t1
      obtain ⟨k2, e2, _, b2⟩ := DataW.trod_int Try.underlying3 t2
      obtain ⟨k3, e3, _, b3⟩ := DataW.trod_int Try.underlying3 t3
      obtain ⟨A4, n4, c4', l4, e4, h4, r4, b4⟩ := ints_open10 t4
      simp at e0 e1 e2 e3
      subst e0 e1 e2 e3 e4
      refine ⟨⟨k0, k1, k2, k3, A4, n4, c4', l4⟩, ?_, ?_, ?_, ?_, ?_, ⟨bounds_i64 b0, bounds_i64 b1, bounds_i64 b2, bounds_i64 b3⟩, h4, r4, b4⟩
      all_goals rw [add_of_add]; assumption)
    refine ⟨ps, hp1, hl, hm, fun hn => ⟨x, rfl, ?_, hp2⟩⟩
    have h0 := (hp2 0 _ (List.getElem?_eq_getElem (by omega))).1
    rw [add_of_add] at h0
    have := World.block_lt_of_cell? _ _ h0
    rwa [block_of_add] at this
theorem Deed10At.below {w w' : World} {x : Addr} {p : Deed10} (h : Deed10At w x p) (hx : x.block < w.heap.size) (hb : Below w.heap.size w w') : Deed10At w' x p := by
  obtain ⟨h0, h1, h2, h3, h4, h5, h6, h7, h8⟩ := h
  have hc : ∀ j, w'.cell? (x.add j) = w.cell? (x.add j) := fun j => hb.cell (by rw [block_of_add]; exact hx)
  exact ⟨(hc 0).trans h0, (hc 1).trans h1, (hc 2).trans h2, (hc 3).trans h3, (hc 4).trans h4, h5, h6, h7.below hb (Nat.le_refl _), h8⟩
theorem Deed10At.cells {w : World} {x : Addr} {p : Deed10} (h : Deed10At w x p) :
    w.cell? x = some (.int .i64 p.kind) ∧ w.cell? ⟨x.block, x.off + 1, none⟩ = some (.int .i64 p.t) ∧ w.cell? ⟨x.block, x.off + 2, none⟩ = some (.int .i64 p.ch) ∧ w.cell? ⟨x.block, x.off + 3, none⟩ = some (.int .i64 p.v) ∧ w.cell? ⟨x.block, x.off + 4, none⟩ = some (.slice p.A p.k p.c) := by
  obtain ⟨h0, h1, h2, h3, h4, _⟩ := h
  obtain ⟨b, o, sp⟩ := x
  have hs : sp = none := by simpa [Addr.add] using World.cell?_spot h0
  subst hs
  exact ⟨by simpa [Addr.add] using h0, by simpa [Addr.add] using h1, by simpa [Addr.add] using h2, by simpa [Addr.add] using h3, by simpa [Addr.add] using h4⟩
end Go.Proofs.Ytbgigkamlnchcaa
