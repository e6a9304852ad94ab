
/-
  What HeapOnce leans on besides.
-/
import Derived.Test.YtglgficmfpecgaaHpG
set_option linter.unusedVariables false
namespace Go.Proofs.Ytglgficmfpecgaa
open Go.RowKit Plain
theorem RowT.grown {a b : World} {v u : Value} {r : List Tm} {base nn : Nat} {xs : List Value} (h : RowT a v r) (ho : a.ownsRow base 3 1 u nn xs) (hg : a.grownBy b u.ownBlock) : RowT b v r := by
  obtain ⟨A, c, e, hc, h⟩ := h
  refine ⟨A, c, e, hc, fun h0 => ?_⟩
  obtain ⟨g, o, cs, e1, hb, hr⟩ := h h0
  refine ⟨g, o, cs, e1, hb.grown hg (fun e2 => ?_), hr⟩
  rcases ho.2 with ⟨rfl, _⟩ | ⟨g', cap, cur, rfl, _, hcc, _⟩
  · cases e2
  · have : g' = g := by simpa [Value.ownBlock] using e2.symm
    subst this
    exact Blk.ne_ (t' := 3) (cs' := cur) hb hcc (by decide) rfl
theorem due_le {now : Int} : ∀ {r : List Tm}, ∀ t ∈ r.take (dueN r now), t.2 ≤ now
  | [], t, ht => by simp at ht
  | x :: r, t, ht => by
    by_cases hx : x.2 ≤ now
    · have e : dueN (x :: r) now = dueN r now + 1 := by unfold dueN; simp [List.takeWhile_cons, hx]
      rw [e, List.take_succ_cons] at ht
      rcases List.mem_cons.1 ht with rfl | ht
      · exact hx
      · exact due_le t ht
    · have e : dueN (x :: r) now = 0 := by unfold dueN; simp [List.takeWhile_cons, hx]
      rw [e] at ht
      simp at ht
theorem take_keys (r : List Tm) (c d : Nat) : (r.take c).map (·.1) ++ ((r.drop c).take d).map (·.1) = (r.take (c + d)).map (·.1) := by
  rw [← List.map_append, List.take_add]
theorem atR_mem {r : List Tm} (hs : Srt r) {t : Tm} (ht : t ∈ r) : atR r t.1 = (t.2, true) := by
  unfold atR
  rw [find_key hs.keys (k := t.1) (a := t.2) ht]
end Go.Proofs.Ytglgficmfpecgaa
