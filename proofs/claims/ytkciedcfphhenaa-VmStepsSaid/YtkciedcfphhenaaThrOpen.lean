
/-
  A thread that comes in as an argument: what stands in memory, and that its numbers fit.
-/
import Derived.Test.YtkciedcfphhenaaPrOpen
import Derived.Test.YtkciedcfphhenaaThrM
set_option linter.unusedVariables false
set_option linter.unusedSimpArgs false
namespace Go.Proofs.Ytkciedcfphhenaa
open Go.Joins Go.ChangeShapes Go.WideShapes Go.Deep Go.RowKit Plain
section
variable {H : Type} {enc : TypeId × Value → H} {P : Program} {w : World} {base : Nat} {spare : Nat → Bool} {held : Bool}
theorem open_agg5 {r : Reach} {b0 : Nat} {t : TypeId} {f0 f1 f2 f3 f4 : Field} {v : Value} {d : DataW H} {p : List MemPlace} (hs : P.underlying t = some (.struct #[f0, f1, f2, f3, f4])) (hone : oneCellFields P #[f0, f1, f2, f3, f4] = true) (hC : P.cellsOf t = 5)
    (hv : Value.okWide P w r b0 t v) (h : DataW.Trod enc P w base spare held t v d p) :
    ∃ (v0 v1 v2 v3 v4 : Value) (y0 y1 y2 y3 y4 : DataW H × List MemPlace) (n : Nat), v = .agg #[v0, v1, v2, v3, v4] ∧
      DataW.trod enc P w base spare held n f0.type [v0] = some y0 ∧ DataW.trod enc P w base spare held n f1.type [v1] = some y1 ∧ DataW.trod enc P w base spare held n f2.type [v2] = some y2 ∧ DataW.trod enc P w base spare held n f3.type [v3] = some y3 ∧ DataW.trod enc P w base spare held n f4.type [v4] = some y4 := by
  obtain ⟨cs, rfl, hsz⟩ := okWide_struct hs hv
  obtain ⟨l⟩ := cs
  match l, hsz.trans hC with
  | [c0, c1, c2, c3, c4], _ =>
    obtain ⟨fuel, hf⟩ := h
    obtain ⟨xs, n, _, hx, _, hlen, hg⟩ := DataW.trod_struct hs hf
    obtain ⟨o0, k0⟩ := hone_of hone 0 f0 rfl
    obtain ⟨o1, k1⟩ := hone_of hone 1 f1 rfl
    obtain ⟨o2, k2⟩ := hone_of hone 2 f2 rfl
    obtain ⟨o3, k3⟩ := hone_of hone 3 f3 rfl
    obtain ⟨o4, k4⟩ := hone_of hone 4 f4 rfl
    match xs, hlen with
    | [y0, y1, y2, y3, y4], _ =>
      exact ⟨c0, c1, c2, c3, c4, y0, y1, y2, y3, y4, n, rfl, by simpa [Value.cells, o0, k0] using hg 0 f0 rfl, by simpa [Value.cells, o1, k1] using hg 1 f1 rfl, by simpa [Value.cells, o2, k2] using hg 2 f2 rfl, by simpa [Value.cells, o3, k3] using hg 3 f3 rfl, by simpa [Value.cells, o4, k4] using hg 4 f4 rfl⟩
end
theorem readsD_triples {w : World} {D : Nat → Prop} {x : Addr} {n : Nat} {l : List (Value × Value × Value)} (hl : l.length = n) (hD : D x.block) (h : ∀ i p, l[i]? = some p → w.cell? (x.add (i * 3)) = some p.1 ∧ w.cell? (x.add (i * 3 + 1)) = some p.2.1 ∧ w.cell? (x.add (i * 3 + 2)) = some p.2.2) : ReadsD w D 3 (some x) n (flat3 l) := by
  refine ⟨by rw [flat3_length, hl], fun hn => ⟨x, rfl, hD, fun j u hj => ?_⟩⟩
  obtain ⟨i, p, h1, ⟨rfl, rfl⟩ | ⟨rfl, rfl⟩ | ⟨rfl, rfl⟩⟩ := flat3_get l j u hj
  · exact (h i p h1).1
  · exact (h i p h1).2.1
  · exact (h i p h1).2.2
theorem RI.rid {w : World} {B n c : Nat} {A : Option Addr} {l : List Int} (h : RI w B A n c l) : RID w (fun _ => True) A n c l :=
  ⟨h.1, h.2.1, h.2.2.1, fun hn => by obtain ⟨ad, e, _, hc⟩ := h.2.2.2 hn; exact ⟨ad, e, trivial, hc⟩⟩
section
variable {H : Type} {enc : TypeId × Value → H} {W : World} {base : Nat} {spare : Nat → Bool} {held : Bool}
theorem frames_open {fuel : Nat} {v : Value} {y : DataW H × List MemPlace} (h : DataW.trod enc Try.prog W base spare held fuel 27 [v] = some y) :
    ∃ A n c l, v = .slice A n c ∧ RGD W (fun _ => True) A n c l ∧ (∀ f ∈ l, ((-9223372036854775808 ≤ f.func ∧ f.func ≤ 9223372036854775807) ∧ (-9223372036854775808 ≤ f.pc ∧ f.pc ≤ 9223372036854775807) ∧ FitL f.locals) ∧ f.locals.length ≤ maxLen) ∧ n ≤ maxLen := by
  rcases open_fields_of Try.underlying27 Try.underlying67 (by kernel_rfl) (by kernel_rfl) h with ⟨hcs, _⟩ | ⟨x, n, c, m, D, Pl, hcs, _, hl, hm, hmm, _, hi⟩
  · simp at hcs
    exact ⟨none, 0, 0, [], hcs, ⟨[], rfl, rfl, Nat.le_refl _, ⟨rfl, fun h => absurd h (by omega)⟩, by simp⟩, fun x hx => by simp at hx, by unfold maxLen; omega⟩
  · simp at hcs
    have hnm : n ≤ m := by rw [hmm]; split <;> omega
    obtain ⟨l, hl1, hl2⟩ := list_for n (fun i (t : TFr) => (W.cell? (x.add (i * 3)) = some (.int .i64 t.f.func) ∧ W.cell? (x.add (i * 3 + 1)) = some (.int .i64 t.f.pc) ∧ W.cell? (x.add (i * 3 + 2)) = some (.slice t.A t.f.locals.length t.c)) ∧ RID W (fun _ => True) t.A t.f.locals.length t.c t.f.locals ∧ ((-9223372036854775808 ≤ t.f.func ∧ t.f.func ≤ 9223372036854775807) ∧ (-9223372036854775808 ≤ t.f.pc ∧ t.f.pc ≤ 9223372036854775807) ∧ FitL t.f.locals) ∧ t.f.locals.length ≤ maxLen) (fun i hin => by
      obtain ⟨ys, k, _, _, _, hfld⟩ := hi i (by omega)
      obtain ⟨u0, y0, c0, _, t0⟩ := hfld 0 _ rfl
      obtain ⟨u1, y1, c1, _, t1⟩ := hfld 1 _ rfl
      obtain ⟨u2, y2, c2, _, t2⟩ := hfld 2 _ rfl
      obtain ⟨k0, e0, _, b0⟩ := DataW.trod_int Try.underlying3 t0
      obtain ⟨k1, e1, _, b1⟩ := DataW.trod_int Try.underlying3 t1
      simp at e0 e1
      subst e0 e1
      obtain ⟨A', n', c', l', rfl, hrc, hfc, hn'⟩ := ints_open t2
      obtain rfl : l'.length = n' := hrc.1
      exact ⟨⟨⟨k0, k1, l'⟩, A', c'⟩, ⟨c0, c1, c2⟩, hrc.rid, ⟨bounds_i64 b0, bounds_i64 b1, hfc⟩, hn'⟩)
    refine ⟨some x, n, c, l.map TFr.f, hcs, ⟨l, rfl, by simpa using hl1, hl, readsD_triples (by simpa using hl1) trivial fun i p hp => ?_, fun t ht => ?_⟩, fun f hf => ?_, by omega⟩
    · obtain ⟨t, ht, rfl⟩ : ∃ t, l[i]? = some t ∧ t.cells = p := by simpa using hp
      exact (hl2 i t ht).1
    · obtain ⟨i, hit⟩ := List.getElem?_of_mem ht
      exact (hl2 i t hit).2.1
    · obtain ⟨t, ht, rfl⟩ := List.mem_map.1 hf
      obtain ⟨i, hit⟩ := List.getElem?_of_mem ht
      exact (hl2 i t hit).2.2
set_option maxRecDepth 100000 in
theorem thread_open {r : Reach} {b0 : Nat} {v : Value} {d : DataW H} {p : List MemPlace} (hv : Value.okWide Try.prog W r b0 29 v) (h : DataW.Trod enc Try.prog W base spare held 29 v d p) :
    ∃ (ht : TH) (t : TV), v = .agg #[.int .i64 t.state, .int .i64 t.on, .slice ht.fA t.frames.length ht.fc, .slice ht.sA t.stack.length ht.sc, .int .i64 t.code] ∧ RT W (fun _ => True) ht t ∧ FitT t ∧ LenT t := by
  obtain ⟨v0, v1, v2, v3, v4, y0, y1, y2, y3, y4, n, rfl, t0, t1, t2, t3, t4⟩ := open_agg5 Try.underlying29 (by kernel_rfl) (by kernel_rfl) hv h
  obtain ⟨k0, e0, _, b0⟩ := DataW.trod_int Try.underlying3 t0
  obtain ⟨k1, e1, _, b1⟩ := DataW.trod_int Try.underlying3 t1
  obtain ⟨A2, n2, c2, l2, rfl, r2, f2, m2⟩ := frames_open t2
  obtain ⟨A3, n3, c3, l3, rfl, r3, f3, m3⟩ := ints_open t3
  obtain ⟨k4, e4, _, b4⟩ := DataW.trod_int Try.underlying3 t4
  simp at e0 e1 e4
  subst e0 e1 e4
  obtain rfl : l2.length = n2 := by obtain ⟨ts, _, h2, _⟩ := r2; exact h2
  obtain rfl : l3.length = n3 := r3.1
  refine ⟨⟨A2, c2, A3, c3⟩, ⟨k0, k1, l2, l3, k4⟩, rfl, ⟨r2, r3.rid⟩, ⟨bounds_i64 b0, bounds_i64 b1, bounds_i64 b4, f3, fun f hf => (f2 f hf).1⟩, ?_⟩
  unfold maxLen at m2 m3
  exact ⟨by simp only; omega, by simp only; omega, fun f hf => by have := (f2 f hf).2; unfold maxLen at this; omega⟩
end
end Go.Proofs.Ytkciedcfphhenaa
