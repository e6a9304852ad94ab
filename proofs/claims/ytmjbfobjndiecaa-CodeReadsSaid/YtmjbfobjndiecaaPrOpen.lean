
/-
  A program that comes in as an argument: what stands in memory, and that its numbers fit.
-/
import Derived.Test.YtmjbfobjndiecaaMayB
import Derived.OpenShut
import Derived.Lib.SmallJoins
set_option linter.unusedVariables false
set_option linter.unusedSimpArgs false
namespace Go.Proofs.Ytmjbfobjndiecaa
open Go.Joins Go.ChangeShapes Go.WideShapes Go.Deep Go.RowKit Plain
section
variable {H : Type} {enc : TypeId × Value → H} {P : Program} {w : World} {base : Nat} {spare : Nat → Bool} {held : Bool}
theorem open_fields_of {t e : TypeId} {fs : Array Field} {fuel : Nat} {cs : List Value} {x : DataW H × List MemPlace} (ht : P.underlying t = some (.slice e)) (he : P.underlying e = some (.struct fs))
    (hone : oneCellFields P fs = true) (hC : P.cellsOf e = fs.size) (h : DataW.trod enc P w base spare held fuel t cs = some x) :
    (cs = [.slice none 0 0] ∧ x = (.nil, [])) ∨
    ∃ (a : Addr) (len cap m : Nat) (D : Nat → DataW H) (Pl : Nat → List MemPlace), cs = [.slice (some a) len cap] ∧ base ≤ a.block ∧ len ≤ cap ∧ cap ≤ maxLen ∧ m = (if spare a.block then cap else len) ∧
      x = (.slice ((List.range len).map D) ((List.range (m - len)).map fun j => D (len + j)), MemPlace.row a (m * fs.size) ++ (List.range m).flatMap Pl) ∧
      ∀ i, i < m → ∃ (ys : List (DataW H × List MemPlace)) (n : Nat), D i = .agg (ys.map (·.1)) ∧ Pl i = ys.flatMap (·.2) ∧ ys.length = fs.size ∧
        ∀ (j : Nat) (f : Field), fs[j]? = some f → ∃ (v : Value) (y : DataW H × List MemPlace), w.cell? (a.add (i * fs.size + j)) = some v ∧ ys[j]? = some y ∧ DataW.trod enc P w base spare held n f.type [v] = some y := by
  rcases open_slice ht h with h0 | ⟨a, len, cap, m, n, D, Pl, hcs, hb, hl, hm, hmm, hx, hi⟩
  · exact .inl h0
  · refine .inr ⟨a, len, cap, m, D, Pl, hcs, hb, hl, hm, hmm, by rw [hC] at hx; exact hx, fun i him => ?_⟩
    obtain ⟨cs', hc, ht'⟩ := hi i him
    rw [hC] at hc
    obtain ⟨ys, n', hn', hy, hlen, hyl, hf⟩ := DataW.trod_struct he ht'
    obtain ⟨_, hcl, hat⟩ := World.cells?_some hc
    simp only [Prod.mk.injEq] at hy
    refine ⟨ys, n', hy.1, hy.2, hyl, fun j f hj => ?_⟩
    obtain ⟨ho, hk⟩ := hone_of hone j f hj
    have hjl : j < fs.size := (Array.getElem?_eq_some_iff.1 hj).1
    have hcell := hat j hjl
    have hv : cs'[j]? = some (cs'[j]'(by omega)) := List.getElem?_eq_getElem (by omega)
    have h1 := hf j f hj
    rw [ho, hk] at h1
    have hone' : (cs'.drop j).take 1 = [cs'[j]'(by omega)] := by
      rw [List.drop_eq_getElem_cons (by omega)]
      rfl
    rw [hone'] at h1
    have hys : ys[j]? = some (ys[j]'(by omega)) := List.getElem?_eq_getElem (by omega)
    refine ⟨_, _, ?_, hys, h1.trans hys⟩
    rw [← Go.Deep.add_add, hcell, hv]
end

theorem list_for {α : Type} (n : Nat) (P : Nat → α → Prop) (h : ∀ i, i < n → ∃ x, P i x) : ∃ l : List α, l.length = n ∧ ∀ i x, l[i]? = some x → P i x := by
  induction n with
  | zero => exact ⟨[], rfl, fun i x h => by simp at h⟩
  | succ n ih =>
    obtain ⟨l, hl, hp⟩ := ih (fun i hi => h i (by omega))
    obtain ⟨x, hx⟩ := h n (by omega)
    refine ⟨l ++ [x], by simp [hl], fun i y hy => ?_⟩
    rw [List.getElem?_append] at hy
    split at hy
    · exact hp i y hy
    · rename_i hi
      have : i = n := by
        have := (List.getElem?_eq_some_iff.1 hy).1
        simp at this
        omega
      subst this
      rw [hl, Nat.sub_self] at hy
      simp at hy
      exact hy ▸ hx


section
variable {H : Type} {enc : TypeId × Value → H} {P : Program} {w : World} {base : Nat} {spare : Nat → Bool} {held : Bool}
theorem open_agg7 {r : Reach} {b0 : Nat} {t : TypeId} {f0 f1 f2 f3 f4 f5 f6 : Field} {v : Value} {d : DataW H} {p : List MemPlace} (hs : P.underlying t = some (.struct #[f0, f1, f2, f3, f4, f5, f6])) (hone : oneCellFields P #[f0, f1, f2, f3, f4, f5, f6] = true) (hC : P.cellsOf t = 7)
    (hv : Value.okWide P w r b0 t v) (h : DataW.Trod enc P w base spare held t v d p) :
    ∃ (v0 v1 v2 v3 v4 v5 v6 : Value) (y0 y1 y2 y3 y4 y5 y6 : DataW H × List MemPlace) (n : Nat), v = .agg #[v0, v1, v2, v3, v4, v5, v6] ∧
      DataW.trod enc P w base spare held n f0.type [v0] = some y0 ∧ DataW.trod enc P w base spare held n f1.type [v1] = some y1 ∧ DataW.trod enc P w base spare held n f2.type [v2] = some y2 ∧ DataW.trod enc P w base spare held n f3.type [v3] = some y3 ∧ DataW.trod enc P w base spare held n f4.type [v4] = some y4 ∧ DataW.trod enc P w base spare held n f5.type [v5] = some y5 ∧ DataW.trod enc P w base spare held n f6.type [v6] = some y6 := by
  obtain ⟨cs, rfl, hsz⟩ := okWide_struct hs hv
  obtain ⟨l⟩ := cs
  match l, hsz.trans hC with
  | [c0, c1, c2, c3, c4, c5, c6], _ =>
    obtain ⟨fuel, hf⟩ := h
    obtain ⟨xs, n, _, hx, _, hlen, hg⟩ := DataW.trod_struct hs hf
    obtain ⟨o0, k0⟩ := hone_of hone 0 f0 rfl
    obtain ⟨o1, k1⟩ := hone_of hone 1 f1 rfl
    obtain ⟨o2, k2⟩ := hone_of hone 2 f2 rfl
    obtain ⟨o3, k3⟩ := hone_of hone 3 f3 rfl
    obtain ⟨o4, k4⟩ := hone_of hone 4 f4 rfl
    obtain ⟨o5, k5⟩ := hone_of hone 5 f5 rfl
    obtain ⟨o6, k6⟩ := hone_of hone 6 f6 rfl
    match xs, hlen with
    | [y0, y1, y2, y3, y4, y5, y6], _ =>
      exact ⟨c0, c1, c2, c3, c4, c5, c6, y0, y1, y2, y3, y4, y5, y6, n, rfl, by simpa [Value.cells, o0, k0] using hg 0 f0 rfl, by simpa [Value.cells, o1, k1] using hg 1 f1 rfl, by simpa [Value.cells, o2, k2] using hg 2 f2 rfl, by simpa [Value.cells, o3, k3] using hg 3 f3 rfl, by simpa [Value.cells, o4, k4] using hg 4 f4 rfl, by simpa [Value.cells, o5, k5] using hg 5 f5 rfl, by simpa [Value.cells, o6, k6] using hg 6 f6 rfl⟩
end

theorem flat2_get : ∀ (l : List (Value × Value)) (j : Nat) (u : Value), (flat2 l)[j]? = some u → ∃ i p, l[i]? = some p ∧ ((j = i * 2 ∧ u = p.1) ∨ (j = i * 2 + 1 ∧ u = p.2))
  | [], j, u, h => by simp [flat2] at h
  | q :: r, 0, u, h => by rw [flat2_cons] at h; simp at h; exact ⟨0, q, rfl, .inl ⟨rfl, h.symm⟩⟩
  | q :: r, 1, u, h => by rw [flat2_cons] at h; simp at h; exact ⟨0, q, rfl, .inr ⟨rfl, h.symm⟩⟩
  | q :: r, j + 2, u, h => by
    rw [flat2_cons] at h
    simp at h
    obtain ⟨i, p, h1, h2⟩ := flat2_get r j u h
    refine ⟨i + 1, p, by simpa using h1, ?_⟩
    rcases h2 with ⟨rfl, h2⟩ | ⟨rfl, h2⟩
    · exact .inl ⟨by omega, h2⟩
    · exact .inr ⟨by omega, h2⟩
theorem reads_pairs {w : World} {x : Addr} {n : Nat} {l : List (Value × Value)} (hl : l.length = n) (h : ∀ i p, l[i]? = some p → w.cell? (x.add (i * 2)) = some p.1 ∧ w.cell? (x.add (i * 2 + 1)) = some p.2) : Reads w w.heap.size 2 (some x) n (flat2 l) := by
  refine ⟨by rw [flat2_length, hl], fun hn => ⟨x, rfl, ?_, fun j u hj => ?_⟩⟩
  · have h0 := World.block_lt_of_cell? _ _ (h 0 _ (List.getElem?_eq_getElem (by omega))).1
    rwa [block_of_add] at h0
  · obtain ⟨i, p, h1, ⟨rfl, rfl⟩ | ⟨rfl, rfl⟩⟩ := flat2_get l j u hj
    · exact (h i p h1).1
    · exact (h i p h1).2

section
variable {H : Type} {enc : TypeId × Value → H} {W : World} {base : Nat} {spare : Nat → Bool} {held : Bool}
theorem ints_open {fuel : Nat} {v : Value} {y : DataW H × List MemPlace} (h : DataW.trod enc Try.prog W base spare held fuel 23 [v] = some y) :
    ∃ A n c l, v = .slice A n c ∧ RI W W.heap.size A n c l ∧ FitL l ∧ n ≤ maxLen := by
  rcases open_ints Try.underlying23 Try.underlying3 (by kernel_rfl) h with ⟨hcs, _⟩ | ⟨x, l, c, zs, hcs, _, hl, hm, hz, _, hcell, hwz⟩
  · simp at hcs
    exact ⟨none, 0, 0, [], hcs, ⟨rfl, Nat.le_refl _, Reads.none_⟩, fun x hx => by simp at hx, by unfold maxLen; omega⟩
  · simp at hcs
    have hzl : l ≤ zs.length := by rw [hz]; split <;> omega
    refine ⟨some x, l, c, zs.take l, hcs, ⟨by simp; omega, hl, by rw [IS_length]; simp; omega, fun hn => ⟨x, rfl, ?_, fun j u hj => ?_⟩⟩, fun k hk => bounds_i64 (hwz k (List.mem_of_mem_take hk)), by omega⟩
    · have h0 := World.block_lt_of_cell? _ _ (hcell 0 (by omega))
      rwa [block_of_add] at h0
    · have hjl : j < l := by
        have := (List.getElem?_eq_some_iff.1 hj).1
        rw [IS_length] at this
        simp at this
        omega
      rw [hcell j (by omega), ← hj]
      simp [IS, hjl, List.getD, show j < zs.length by omega]
theorem code_open {fuel : Nat} {v : Value} {y : DataW H × List MemPlace} (h : DataW.trod enc Try.prog W base spare held fuel 43 [v] = some y) :
    ∃ A n c l, v = .slice A n c ∧ RC W W.heap.size A n c l ∧ FitC l ∧ n ≤ maxLen := by
  rcases open_fields_of Try.underlying43 Try.underlying47 (by kernel_rfl) (by kernel_rfl) h with ⟨hcs, _⟩ | ⟨x, n, c, m, D, Pl, hcs, _, hl, hm, hmm, _, hi⟩
  · simp at hcs
    exact ⟨none, 0, 0, [], hcs, ⟨rfl, Nat.le_refl _, Reads.none_⟩, fun x hx => by simp at hx, by unfold maxLen; omega⟩
  · simp at hcs
    have hnm : n ≤ m := by rw [hmm]; split <;> omega
    obtain ⟨l, hl1, hl2⟩ := list_for n (fun i (e : IV) => (W.cell? (x.add (i * 2)) = some (.int .i64 e.op) ∧ W.cell? (x.add (i * 2 + 1)) = some (.int .i64 e.a)) ∧ (-9223372036854775808 ≤ e.op ∧ e.op ≤ 9223372036854775807) ∧ (-9223372036854775808 ≤ e.a ∧ e.a ≤ 9223372036854775807)) (fun i hin => by
      obtain ⟨ys, k, _, _, _, hfld⟩ := hi i (by omega)
      obtain ⟨u0, y0, c0, _, t0⟩ := hfld 0 _ rfl
      obtain ⟨u1, y1, c1, _, t1⟩ := hfld 1 _ rfl
      obtain ⟨k0, e0, _, b0⟩ := DataW.trod_int Try.underlying3 t0
      obtain ⟨k1, e1, _, b1⟩ := DataW.trod_int Try.underlying3 t1
      simp at e0 e1
      subst e0 e1
      exact ⟨⟨k0, k1⟩, ⟨c0, c1⟩, bounds_i64 b0, bounds_i64 b1⟩)
    refine ⟨some x, n, c, l, hcs, ⟨hl1, hl, reads_pairs (by simpa using hl1) fun i p hp => ?_⟩, fun e he => ?_, by omega⟩
    · obtain ⟨e, he, rfl⟩ : ∃ e, l[i]? = some e ∧ (Value.int .i64 e.op, Value.int .i64 e.a) = p := by simpa using hp
      exact (hl2 i e he).1
    · obtain ⟨i, hie⟩ := List.getElem?_of_mem he
      exact (hl2 i e hie).2
theorem funcs_open {fuel : Nat} {v : Value} {y : DataW H × List MemPlace} (h : DataW.trod enc Try.prog W base spare held fuel 22 [v] = some y) :
    ∃ A n c l, v = .slice A n c ∧ RF W W.heap.size A n c l ∧ (∀ f ∈ l, FitF f ∧ f.code.length ≤ maxLen) ∧ n ≤ maxLen := by
  rcases open_fields_of Try.underlying22 Try.underlying45 (by kernel_rfl) (by kernel_rfl) h with ⟨hcs, _⟩ | ⟨x, n, c, m, D, Pl, hcs, _, hl, hm, hmm, _, hi⟩
  · simp at hcs
    exact ⟨none, 0, 0, [], hcs, ⟨[], rfl, rfl, Nat.le_refl _, Reads.none_, by simp⟩, fun x hx => by simp at hx, by unfold maxLen; omega⟩
  · simp at hcs
    have hnm : n ≤ m := by rw [hmm]; split <;> omega
    obtain ⟨l, hl1, hl2⟩ := list_for n (fun i (t : TF) => (W.cell? (x.add (i * 2)) = some (.int .i64 t.f.locals) ∧ W.cell? (x.add (i * 2 + 1)) = some (.slice t.A t.f.code.length t.c)) ∧ RC W W.heap.size t.A t.f.code.length t.c t.f.code ∧ FitF t.f ∧ t.f.code.length ≤ maxLen) (fun i hin => by
      obtain ⟨ys, k, _, _, _, hfld⟩ := hi i (by omega)
      obtain ⟨u0, y0, c0, _, t0⟩ := hfld 0 _ rfl
      obtain ⟨u1, y1, c1, _, t1⟩ := hfld 1 _ rfl
      obtain ⟨k0, e0, _, b0⟩ := DataW.trod_int Try.underlying3 t0
      simp at e0
      subst e0
      obtain ⟨A', n', c', l', rfl, hrc, hfc, hn'⟩ := code_open t1
      obtain rfl : l'.length = n' := hrc.1
      exact ⟨⟨⟨k0, l'⟩, A', c'⟩, ⟨c0, c1⟩, hrc, ⟨bounds_i64 b0, hfc⟩, hn'⟩)
    refine ⟨some x, n, c, l.map TF.f, hcs, ⟨l, rfl, by simpa using hl1, hl, reads_pairs (by simpa using hl1) fun i p hp => ?_, fun t ht => ?_⟩, fun f hf => ?_, by omega⟩
    · obtain ⟨t, ht, rfl⟩ : ∃ t, l[i]? = some t ∧ t.cells = p := by simpa using hp
      exact (hl2 i t ht).1
    · obtain ⟨i, hit⟩ := List.getElem?_of_mem ht
      exact (hl2 i t hit).2.1
    · obtain ⟨t, ht, rfl⟩ := List.mem_map.1 hf
      obtain ⟨i, hit⟩ := List.getElem?_of_mem ht
      exact (hl2 i t hit).2.2
theorem lists_open {fuel : Nat} {v : Value} {y : DataW H × List MemPlace} (h : DataW.trod enc Try.prog W base spare held fuel 24 [v] = some y) :
    ∃ A n c l, v = .slice A n c ∧ RL W W.heap.size A n c l ∧ (∀ x ∈ l, FitL x ∧ x.length ≤ maxLen) ∧ n ≤ maxLen := by
  rcases open_slice1 Try.underlying24 (by kernel_rfl) h with ⟨hcs, _⟩ | ⟨x, n, c, m, k, V, D, Pl, hcs, _, hl, hm, hmm, _, hi⟩
  · simp at hcs
    exact ⟨none, 0, 0, [], hcs, ⟨[], rfl, rfl, Nat.le_refl _, Reads.none_, by simp⟩, fun x hx => by simp at hx, by unfold maxLen; omega⟩
  · simp at hcs
    have hnm : n ≤ m := by rw [hmm]; split <;> omega
    obtain ⟨l, hl1, hl2⟩ := list_for n (fun i (t : TL) => W.cell? (x.add i) = some (.slice t.A t.l.length t.c) ∧ RI W W.heap.size t.A t.l.length t.c t.l ∧ FitL t.l ∧ t.l.length ≤ maxLen) (fun i hin => by
      obtain ⟨c0, t0⟩ := hi i (by omega)
      obtain ⟨A', n', c', l', e, hrc, hfc, hn'⟩ := ints_open t0
      obtain rfl : l'.length = n' := hrc.1
      rw [e] at c0
      exact ⟨⟨l', A', c'⟩, c0, hrc, hfc, hn'⟩)
    refine ⟨some x, n, c, l.map TL.l, hcs, ⟨l, rfl, by simpa using hl1, hl, ⟨by rw [LS_length, hl1]; omega, fun hn => ⟨x, rfl, ?_, fun j u hj => ?_⟩⟩, fun t ht => ?_⟩, fun f hf => ?_, by omega⟩
    · have h0 := World.block_lt_of_cell? _ _ (hl2 0 _ (List.getElem?_eq_getElem (by omega))).1
      rwa [block_of_add] at h0
    · obtain ⟨t, ht, rfl⟩ : ∃ t, l[j]? = some t ∧ Value.slice t.A t.l.length t.c = u := by simpa [LS] using hj
      exact (hl2 j t ht).1
    · obtain ⟨i, hit⟩ := List.getElem?_of_mem ht
      exact (hl2 i t hit).2.1
    · obtain ⟨t, ht, rfl⟩ := List.mem_map.1 hf
      obtain ⟨i, hit⟩ := List.getElem?_of_mem ht
      exact (hl2 i t hit).2.2

set_option maxRecDepth 100000 in
theorem prog_open {r : Reach} {b0 : Nat} {v : Value} {d : DataW H} {p : List MemPlace} (hv : Value.okWide Try.prog W r b0 26 v) (h : DataW.Trod enc Try.prog W base spare held 26 v d p) :
    ∃ (hd : PH) (q : PV), v = .agg #[.slice hd.fA q.funcs.length hd.fc, .int .i64 q.mutexes, .slice hd.cA q.conds.length hd.cc, .slice hd.sA q.semas.length hd.sc, .slice hd.hA q.chans.length hd.hc, .slice hd.xA q.choices.length hd.xc, .int .i64 q.threads] ∧ RP W W.heap.size hd q ∧ Fit q ∧ Lens q := by
  obtain ⟨v0, v1, v2, v3, v4, v5, v6, y0, y1, y2, y3, y4, y5, y6, n, rfl, t0, t1, t2, t3, t4, t5, t6⟩ := open_agg7 Try.underlying26 (by kernel_rfl) (by kernel_rfl) hv h
  obtain ⟨A0, n0, c0, l0, rfl, r0, f0, m0⟩ := funcs_open t0
  obtain ⟨k1, e1, _, b1⟩ := DataW.trod_int Try.underlying3 t1
  obtain ⟨A2, n2, c2, l2, rfl, r2, f2, m2⟩ := ints_open t2
  obtain ⟨A3, n3, c3, l3, rfl, r3, f3, m3⟩ := ints_open t3
  obtain ⟨A4, n4, c4, l4, rfl, r4, f4, m4⟩ := ints_open t4
  obtain ⟨A5, n5, c5, l5, rfl, r5, f5, m5⟩ := lists_open t5
  obtain ⟨k6, e6, _, b6⟩ := DataW.trod_int Try.underlying3 t6
  simp at e1 e6
  subst e1 e6
  obtain rfl : l0.length = n0 := by obtain ⟨ts, _, h2, _⟩ := r0; exact h2
  obtain rfl : l2.length = n2 := r2.1
  obtain rfl : l3.length = n3 := r3.1
  obtain rfl : l4.length = n4 := r4.1
  obtain rfl : l5.length = n5 := by obtain ⟨ts, _, h2, _⟩ := r5; exact h2
  refine ⟨⟨A0, c0, A2, c2, A3, c3, A4, c4, A5, c5⟩, ⟨l0, k1, l2, l3, l4, l5, k6⟩, rfl, ⟨r0, r2, r3, r4, r5⟩, ⟨fun f hf => (f0 f hf).1, bounds_i64 b1, f2, f3, f4, fun x hx => (f5 x hx).1, bounds_i64 b6⟩, ?_⟩
  unfold maxLen at m0 m2 m3 m4 m5
  exact ⟨by simp only; omega, fun f hf => by have := (f0 f hf).2; unfold maxLen at this; omega, by simp only; omega, by simp only; omega, by simp only; omega, by simp only; omega, fun l hl => by have := (f5 l hl).2; unfold maxLen at this; omega⟩
end
end Go.Proofs.Ytmjbfobjndiecaa
