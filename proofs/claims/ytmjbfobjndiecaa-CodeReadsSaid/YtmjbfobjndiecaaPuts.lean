
/-
  What a statement's things are told of that come in: a slice of structs of three numbers and a text each.
-/
import Derived.Test.YtmjbfobjndiecaaRdB
import Derived.Deep.Slices
import Derived.Deep.Fields
import Derived.ChangeSame
namespace Go.Proofs.Ytmjbfobjndiecaa
open Go.ChangeShapes Go.WideShapes Go.Deep Go.RowKit
section
variable {H : Type} {enc : TypeId × Value → H} {P : Program} {w : World} {base : Nat} {spare : Nat → Bool} {held : Bool}
theorem open_slice_fields {t e : TypeId} {fs : Array Field} {fuel : Nat} {cs : List Value} {x : DataW H × List MemPlace} (ht : P.underlying t = some (.slice e)) (he : P.underlying e = some (.struct fs))
    (hone : oneCellFields P fs = true) (hC : P.cellsOf e = fs.size) (h : DataW.trod enc P w base spare held fuel t cs = some x) :
    (cs = [.slice none 0 0] ∧ x = (.nil, [])) ∨
    ∃ (a : Addr) (len cap m : Nat) (D : Nat → DataW H) (Pl : Nat → List MemPlace), cs = [.slice (some a) len cap] ∧ base ≤ a.block ∧ len ≤ cap ∧ cap ≤ maxLen ∧ m = (if spare a.block then cap else len) ∧
      x = (.slice ((List.range len).map D) ((List.range (m - len)).map fun j => D (len + j)), MemPlace.row a (m * fs.size) ++ (List.range m).flatMap Pl) ∧
      ∀ i, i < m → ∃ (ys : List (DataW H × List MemPlace)) (n : Nat), D i = .agg (ys.map (·.1)) ∧ Pl i = ys.flatMap (·.2) ∧ ys.length = fs.size ∧
        ∀ (j : Nat) (f : Field), fs[j]? = some f → ∃ (v : Value) (y : DataW H × List MemPlace), w.cell? (a.add (i * fs.size + j)) = some v ∧ ys[j]? = some y ∧ DataW.trod enc P w base spare held n f.type [v] = some y := by
  rcases open_slice ht h with h0 | ⟨a, len, cap, m, n, D, Pl, hcs, hb, hl, hm, hmm, hx, hi⟩
  · exact .inl h0
  · refine .inr ⟨a, len, cap, m, D, Pl, hcs, hb, hl, hm, hmm, by rw [hC] at hx; exact hx, fun i him => ?_⟩
    obtain ⟨cs', hc, ht'⟩ := hi i him
    rw [hC] at hc
    obtain ⟨ys, n', hn', hy, hlen, hyl, hf⟩ := DataW.trod_struct he ht'
    obtain ⟨_, hcl, hat⟩ := World.cells?_some hc
    simp only [Prod.mk.injEq] at hy
    refine ⟨ys, n', hy.1, hy.2, hyl, fun j f hj => ?_⟩
    obtain ⟨ho, hk⟩ := hone_of hone j f hj
    have hjl : j < fs.size := (Array.getElem?_eq_some_iff.1 hj).1
    have hcell := hat j hjl
    have hv : cs'[j]? = some (cs'[j]'(by omega)) := List.getElem?_eq_getElem (by omega)
    have h1 := hf j f hj
    rw [ho, hk] at h1
    have hone' : (cs'.drop j).take 1 = [cs'[j]'(by omega)] := by
      rw [List.drop_eq_getElem_cons (by omega)]
      rfl
    rw [hone'] at h1
    have hys : ys[j]? = some (ys[j]'(by omega)) := List.getElem?_eq_getElem (by omega)
    refine ⟨_, _, ?_, hys, h1.trans hys⟩
    rw [← Go.Deep.add_add, hcell, hv]
end

/-- Kind, N, V, S. -/
structure PutV where
  kind : Int
  n : Int
  v : Int
  s : ByteArray

/-- One of them at an address, within bounds. -/
def PutAt (w : World) (x : Addr) (p : PutV) : Prop :=
  w.cell? (x.add 0) = some (.int .i64 p.kind) ∧ w.cell? (x.add 1) = some (.int .i64 p.n) ∧ w.cell? (x.add 2) = some (.int .i64 p.v) ∧ w.cell? (x.add 3) = some (.string p.s) ∧
    (-9223372036854775808 ≤ p.kind ∧ p.kind ≤ 9223372036854775807) ∧ (-9223372036854775808 ≤ p.n ∧ p.n ≤ 9223372036854775807) ∧ (-9223372036854775808 ≤ p.v ∧ p.v ≤ 9223372036854775807) ∧ p.s.size ≤ 9223372036854775807

def IsPuts (w : World) (a : Option Addr) (n c : Nat) (ps : List PutV) : Prop :=
  ps.length = n ∧ n ≤ c ∧ c ≤ maxLen ∧ (0 < n → ∃ x, a = some x ∧ x.block < w.heap.size ∧ ∀ i p, ps[i]? = some p → PutAt w (x.add (i * 4)) p)

theorem list_of {α : Type} (n : Nat) (P : Nat → α → Prop) (h : ∀ i, i < n → ∃ x, P i x) : ∃ l : List α, l.length = n ∧ ∀ i x, l[i]? = some x → P i x := by
  induction n with
  | zero => exact ⟨[], rfl, fun i x h => by simp at h⟩
  | succ n ih =>
    obtain ⟨l, hl, hp⟩ := ih (fun i hi => h i (by omega))
    obtain ⟨x, hx⟩ := h n (by omega)
    refine ⟨l ++ [x], by simp [hl], fun i y hy => ?_⟩
    rw [List.getElem?_append] at hy
    split at hy
    · exact hp i y hy
    · rename_i hi
      have : i = n := by
        have := (List.getElem?_eq_some_iff.1 hy).1
        simp at this
        omega
      subst this
      rw [hl, Nat.sub_self] at hy
      simp at hy
      exact hy ▸ hx

theorem PutAt.below {w w' : World} {x : Addr} {p : PutV} {BB : Nat} (h : PutAt w x p) (hx : x.block < BB) (hb : Below BB w w') : PutAt w' x p := by
  obtain ⟨h0, h1, h2, h3, h4⟩ := h
  have hc : ∀ j, w'.cell? (x.add j) = w.cell? (x.add j) := fun j => hb.cell (by rw [block_of_add]; exact hx)
  exact ⟨(hc 0).trans h0, (hc 1).trans h1, (hc 2).trans h2, (hc 3).trans h3, h4⟩
theorem PutAt.drewN {w : World} {x : Addr} {p : PutV} (h : PutAt w x p) (k : Nat) : PutAt (w.drewN k) x p := h
theorem PutAt.cells {w : World} {x : Addr} {p : PutV} (h : PutAt w x p) :
    w.cell? x = some (.int .i64 p.kind) ∧ w.cell? ⟨x.block, x.off + 1, none⟩ = some (.int .i64 p.n) ∧ w.cell? ⟨x.block, x.off + 2, none⟩ = some (.int .i64 p.v) ∧ w.cell? ⟨x.block, x.off + 3, none⟩ = some (.string p.s) := by
  obtain ⟨h0, h1, h2, h3, _⟩ := h
  obtain ⟨b, o, sp⟩ := x
  have hs : sp = none := by simpa [Addr.add] using World.cell?_spot h0
  subst hs
  exact ⟨by simpa [Addr.add] using h0, by simpa [Addr.add] using h1, by simpa [Addr.add] using h2, by simpa [Addr.add] using h3⟩
end Go.Proofs.Ytmjbfobjndiecaa
