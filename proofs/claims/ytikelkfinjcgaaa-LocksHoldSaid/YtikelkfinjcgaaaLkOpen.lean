
/-
  Deeds that come in: a slice of structs of three numbers each (layer 9).
-/
import Derived.Test.YtikelkfinjcgaaaRgOwn
import Derived.Deep.Slices
import Derived.Deep.Fields
import Derived.ChangeSame
namespace Go.Proofs.Ytikelkfinjcgaaa
open Go.ChangeShapes Go.WideShapes Go.Deep Go.RowKit
section
variable {H : Type} {enc : TypeId × Value → H} {P : Program} {w : World} {base : Nat} {spare : Nat → Bool} {held : Bool}
theorem open_slice_fields9 {t e : TypeId} {fs : Array Field} {fuel : Nat} {cs : List Value} {x : DataW H × List MemPlace} (ht : P.underlying t = some (.slice e)) (he : P.underlying e = some (.struct fs))
    (hone : oneCellFields P fs = true) (hC : P.cellsOf e = fs.size) (h : DataW.trod enc P w base spare held fuel t cs = some x) :
    (cs = [.slice none 0 0] ∧ x = (.nil, [])) ∨
    ∃ (a : Addr) (len cap m : Nat) (D : Nat → DataW H) (Pl : Nat → List MemPlace), cs = [.slice (some a) len cap] ∧ base ≤ a.block ∧ len ≤ cap ∧ cap ≤ maxLen ∧ m = (if spare a.block then cap else len) ∧
      x = (.slice ((List.range len).map D) ((List.range (m - len)).map fun j => D (len + j)), MemPlace.row a (m * fs.size) ++ (List.range m).flatMap Pl) ∧
      ∀ i, i < m → ∃ (ys : List (DataW H × List MemPlace)) (n : Nat), D i = .agg (ys.map (·.1)) ∧ Pl i = ys.flatMap (·.2) ∧ ys.length = fs.size ∧
        ∀ (j : Nat) (f : Field), fs[j]? = some f → ∃ (v : Value) (y : DataW H × List MemPlace), w.cell? (a.add (i * fs.size + j)) = some v ∧ ys[j]? = some y ∧ DataW.trod enc P w base spare held n f.type [v] = some y := by
  rcases open_slice ht h with h0 | ⟨a, len, cap, m, n, D, Pl, hcs, hb, hl, hm, hmm, hx, hi⟩
  · exact .inl h0
  · refine .inr ⟨a, len, cap, m, D, Pl, hcs, hb, hl, hm, hmm, by rw [hC] at hx; exact hx, fun i him => ?_⟩
    obtain ⟨cs', hc, ht'⟩ := hi i him
    rw [hC] at hc
    obtain ⟨ys, n', hn', hy, hlen, hyl, hf⟩ := DataW.trod_struct he ht'
    obtain ⟨_, hcl, hat⟩ := World.cells?_some hc
    simp only [Prod.mk.injEq] at hy
    refine ⟨ys, n', hy.1, hy.2, hyl, fun j f hj => ?_⟩
    obtain ⟨ho, hk⟩ := hone_of hone j f hj
    have hjl : j < fs.size := (Array.getElem?_eq_some_iff.1 hj).1
    have hcell := hat j hjl
    have hv : cs'[j]? = some (cs'[j]'(by omega)) := List.getElem?_eq_getElem (by omega)
    have h1 := hf j f hj
    rw [ho, hk] at h1
    have hone' : (cs'.drop j).take 1 = [cs'[j]'(by omega)] := by
      rw [List.drop_eq_getElem_cons (by omega)]
      rfl
    rw [hone'] at h1
    have hys : ys[j]? = some (ys[j]'(by omega)) := List.getElem?_eq_getElem (by omega)
    refine ⟨_, _, ?_, hys, h1.trans hys⟩
    rw [← Go.Deep.add_add, hcell, hv]
end

/-- Kind, W, N. -/
structure Deed9 where
  kind : Int
  v : Int
  n : Int

/-- One of them at an address, within bounds. -/
def Deed9At (w : World) (x : Addr) (p : Deed9) : Prop :=
  w.cell? (x.add 0) = some (.int .i64 p.kind) ∧ w.cell? (x.add 1) = some (.int .i64 p.v) ∧ w.cell? (x.add 2) = some (.int .i64 p.n) ∧
    (-9223372036854775808 ≤ p.kind ∧ p.kind ≤ 9223372036854775807) ∧ (-9223372036854775808 ≤ p.v ∧ p.v ≤ 9223372036854775807) ∧ (-9223372036854775808 ≤ p.n ∧ p.n ≤ 9223372036854775807)

def IsDeeds9 (w : World) (a : Option Addr) (n c : Nat) (ps : List Deed9) : Prop :=
  ps.length = n ∧ n ≤ c ∧ c ≤ maxLen ∧ (0 < n → ∃ x, a = some x ∧ x.block < w.heap.size ∧ ∀ i p, ps[i]? = some p → Deed9At w (x.add (i * 3)) p)

theorem list_of9 {α : Type} (n : Nat) (P : Nat → α → Prop) (h : ∀ i, i < n → ∃ x, P i x) : ∃ l : List α, l.length = n ∧ ∀ i x, l[i]? = some x → P i x := by
  induction n with
  | zero => exact ⟨[], rfl, fun i x h => by simp at h⟩
  | succ n ih =>
    obtain ⟨l, hl, hp⟩ := ih (fun i hi => h i (by omega))
    obtain ⟨x, hx⟩ := h n (by omega)
    refine ⟨l ++ [x], by simp [hl], fun i y hy => ?_⟩
    rw [List.getElem?_append] at hy
    split at hy
    · exact hp i y hy
    · rename_i hi
      have : i = n := by
        have := (List.getElem?_eq_some_iff.1 hy).1
        simp at this
        omega
      subst this
      rw [hl, Nat.sub_self] at hy
      simp at hy
      exact hy ▸ hx

theorem deeds9_open {H : Type} {enc : TypeId × Value → H} {W : World} {a : Option Addr} {n c : Nat} {d : DataW H} {p : List MemPlace} {spare : Nat → Bool} {held : Bool} {base : Nat}
    (h : DataW.Trod enc Try.prog W base spare held 23 (.slice a n c) d p) : ∃ ps, IsDeeds9 W a n c ps := by
  obtain ⟨fuel, hf⟩ := h
  rcases open_slice_fields9 Try.underlying23 Try.underlying34 (by kernel_rfl) (by kernel_rfl) hf with ⟨hcs, _⟩ | ⟨x, l, cc, m, D, Pl, hcs, _, hl, hm, hmm, _, hi⟩
  · simp [Value.cells] at hcs
    obtain ⟨rfl, rfl, rfl⟩ := hcs
    exact ⟨[], rfl, by omega, by unfold maxLen; omega, by omega⟩
  · simp [Value.cells] at hcs
    obtain ⟨rfl, rfl, rfl⟩ := hcs
    have hnm : n ≤ m := by rw [hmm]; split <;> omega
    obtain ⟨ps, hp1, hp2⟩ := list_of9 n (fun i p => Deed9At W (x.add (i * 3)) p) (fun i hin => by
      obtain ⟨ys, k, _, _, _, hfld⟩ := hi i (by omega)
      obtain ⟨u0, y0, c0, _, t0⟩ := hfld 0 _ rfl
      obtain ⟨u1, y1, c1, _, t1⟩ := hfld 1 _ rfl
      obtain ⟨u2, y2, c2, _, t2⟩ := hfld 2 _ rfl
      obtain ⟨k0, e0, _, b0⟩ := DataW.trod_int Try.underlying3 t0
      obtain ⟨k1, e1, _, b1⟩ := DataW.trod_int Try.underlying3 t1
      obtain ⟨k2, e2, _, b2⟩ := DataW.trod_int Try.underlying3 t2
      simp at e0 e1 e2
      subst e0 e1 e2
      refine ⟨⟨k0, k1, k2⟩, ?_, ?_, ?_, bounds_i64 b0, bounds_i64 b1, bounds_i64 b2⟩
      all_goals rw [add_of_add]; assumption)
    refine ⟨ps, hp1, hl, hm, fun hn => ⟨x, rfl, ?_, hp2⟩⟩
    have h0 := (hp2 0 _ (List.getElem?_eq_getElem (by omega))).1
    rw [add_of_add] at h0
    have := World.block_lt_of_cell? _ _ h0
    rwa [block_of_add] at this
theorem Deed9At.below {w w' : World} {x : Addr} {p : Deed9} {BB : Nat} (h : Deed9At w x p) (hx : x.block < BB) (hb : Below BB w w') : Deed9At w' x p := by
  obtain ⟨h0, h1, h2, h4⟩ := h
  have hc : ∀ j, w'.cell? (x.add j) = w.cell? (x.add j) := fun j => hb.cell (by rw [block_of_add]; exact hx)
  exact ⟨(hc 0).trans h0, (hc 1).trans h1, (hc 2).trans h2, h4⟩
theorem Deed9At.cells {w : World} {x : Addr} {p : Deed9} (h : Deed9At w x p) :
    w.cell? x = some (.int .i64 p.kind) ∧ w.cell? ⟨x.block, x.off + 1, none⟩ = some (.int .i64 p.v) ∧ w.cell? ⟨x.block, x.off + 2, none⟩ = some (.int .i64 p.n) := by
  obtain ⟨h0, h1, h2, _⟩ := h
  obtain ⟨b, o, sp⟩ := x
  have hs : sp = none := by simpa [Addr.add] using World.cell?_spot h0
  subst hs
  exact ⟨by simpa [Addr.add] using h0, by simpa [Addr.add] using h1, by simpa [Addr.add] using h2⟩
end Go.Proofs.Ytikelkfinjcgaaa
