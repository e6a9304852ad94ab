
/-
  How long the rows of a thread may be that comes in: what the row itself says of what is read.
-/
import Derived.Test.YtbgdgfnbdipjkaaThrOpen
import Derived.SizedLaws
set_option linter.unusedVariables false
set_option linter.unusedSimpArgs false
namespace Go.Proofs.Ytbgdgfnbdipjkaa
open Go.Joins Go.ChangeShapes Go.WideShapes Go.Deep Go.RowKit Plain
section
variable {H : Type} {enc : TypeId × Value → H} {P : Program} {w : World} {base : Nat} {spare : Nat → Bool} {held : Bool}
theorem slice_weight {t e : TypeId} {fuel : Nat} {A : Option Addr} {n c : Nat} {y : DataW H × List MemPlace} (ht : P.underlying t = some (.slice e)) (h : DataW.trod enc P w base spare held fuel t [.slice A n c] = some y) (hw : ∀ k ∈ y.1.weights P t, k ≤ reachBytes) : n * P.bytesOf e ≤ reachBytes := by
  rcases DataW.trod_slice ht h with ⟨hcs, _⟩ | ⟨a, len, cap, elems, rest, m, _, hcs, hy, _, _, _, hl, _⟩
  · injection hcs with h1 _
    injection h1 with _ h2 _
    rw [h2]; simp
  · injection hcs with h1 _
    injection h1 with _ h2 _
    have := hw ((elems.length + rest.length) * P.bytesOf e) (by rw [hy]; simp [DataW.weights, ht])
    exact Nat.le_trans (Nat.mul_le_mul_right _ (by omega)) this
theorem weightsAll_mem {e : TypeId} : ∀ {l : List (DataW H)} {d : DataW H}, d ∈ l → ∀ {k : Nat}, k ∈ d.weights P e → k ∈ DataW.weightsAll P e l
  | d0 :: r, d, hd, k, hk => by
    rw [DataW.weightsAll, List.mem_append]
    rcases List.mem_cons.1 hd with rfl | h
    · exact .inl hk
    · exact .inr (weightsAll_mem h hk)
end
section
variable {H : Type} {enc : TypeId × Value → H} {W : World} {base : Nat} {spare : Nat → Bool} {held : Bool}
theorem cells_frames : Try.prog.cellsOf 27 = 1 := by kernel_rfl
theorem cells_ints : Try.prog.cellsOf 23 = 1 := by kernel_rfl
theorem bytes_int : Try.prog.bytesOf 3 = 8 := by kernel_rfl
theorem bytes_frame : Try.prog.bytesOf 34 = 40 := by kernel_rfl
set_option maxRecDepth 100000 in
theorem thread_lens {ht : TH} {t : TV} {d : DataW H} {p : List MemPlace} (h : DataW.Trod enc Try.prog W base spare held 29 (.agg #[.int .i64 t.state, .int .i64 t.on, .slice ht.fA t.frames.length ht.fc, .slice ht.sA t.stack.length ht.sc, .int .i64 t.code]) d p)
    (hr : RT W (fun _ => True) ht t) (hw : ∀ n ∈ d.weights Try.prog 29, n ≤ reachBytes) : LensT t := by
  obtain ⟨fuel, hf⟩ := h
  obtain ⟨xs, n, _, hx, _, hlen, hg⟩ := DataW.trod_struct Try.underlying29 hf
  injection hx with hd _
  subst hd
  have g2 := hg 2 _ rfl
  have g3 := hg 3 _ rfl
  have hlen' : xs.length = 5 := hlen
  obtain ⟨y2, h2⟩ : ∃ y, xs[2]? = some y := ⟨_, List.getElem?_eq_getElem (by omega)⟩
  obtain ⟨y3, h3⟩ : ∃ y, xs[3]? = some y := ⟨_, List.getElem?_eq_getElem (by omega)⟩
  have hw' : ∀ k ∈ DataW.weightsEach Try.prog [3, 3, 27, 23, 3] (xs.map (·.1)), k ≤ reachBytes := by
    intro k hk
    refine hw k ?_
    rw [DataW.weights, Try.underlying29]
    exact hk
  rw [h2] at g2
  rw [h3] at g3
  have t2 : DataW.trod enc Try.prog W base spare held n 27 [.slice ht.fA t.frames.length ht.fc] = some y2 := by simpa [Value.cells, cells_frames] using g2
  have t3 : DataW.trod enc Try.prog W base spare held n 23 [.slice ht.sA t.stack.length ht.sc] = some y3 := by simpa [Value.cells, cells_ints] using g3
  have hw2 : ∀ k ∈ y2.1.weights Try.prog 27, k ≤ reachBytes := fun k hk => hw' k (DataW.weights_mem_each (j := 2) rfl (by simp [h2]) k hk)
  have hw3 : ∀ k ∈ y3.1.weights Try.prog 23, k ≤ reachBytes := fun k hk => hw' k (DataW.weights_mem_each (j := 3) rfl (by simp [h3]) k hk)
  have s2 := slice_weight Try.underlying27 t2 hw2
  have s3 := slice_weight Try.underlying23 t3 hw3
  rw [bytes_frame] at s2
  rw [bytes_int] at s3
  unfold reachBytes at s2 s3
  refine ⟨by omega, by omega, fun f hfm => ?_⟩
  obtain ⟨i, hi⟩ := List.getElem?_of_mem hfm
  have hin : i < t.frames.length := (List.getElem?_eq_some_iff.1 hi).1
  rcases open_fields_of Try.underlying27 Try.underlying34 (by kernel_rfl) (by kernel_rfl) t2 with ⟨hcs, _⟩ | ⟨x, n', c, m, D, Pl, hcs, _, hl, hm, hmm, hy, hfi⟩
  · injection hcs with h1 _
    injection h1 with _ h2 _
    omega
  · injection hcs with h1 _
    injection h1 with hA hn' hc
    have hnm : n' ≤ m := by rw [hmm]; split <;> omega
    obtain ⟨ys, k, hD, _, hyl, hfld⟩ := hfi i (by omega)
    obtain ⟨u2, z2, c2, hz2, q2⟩ := hfld 2 _ rfl
    obtain ⟨ad, fr, hA', _, hfr, _, _, a2, _⟩ := hr.frames.rg.at_ hin
    rw [hA] at hA'
    injection hA' with hA'
    subst hA'
    have hff : fr.f = f := by rw [hi] at hfr; injection hfr with e; exact e.symm
    subst hff
    obtain ⟨ts, _, _, _, hrd, _⟩ := hr.frames.rg
    rw [hA] at hrd
    have hsp := hrd.spot (by omega) (by omega)
    have hce : (⟨(x.add (i * 3)).block, (x.add (i * 3)).off + 2, none⟩ : Addr) = x.add (i * 3 + 2) := by
      obtain ⟨b, o, sp⟩ := x
      simp at hsp
      subst hsp
      unfold Addr.add
      by_cases h0 : i * 3 = 0 <;> simp [h0, Nat.add_assoc]
    rw [hce] at a2
    have c2' : W.cell? (x.add (i * 3 + 2)) = some u2 := c2
    rw [a2] at c2'
    injection c2' with c2'
    subst c2'
    have hmem : ∀ k ∈ z2.1.weights Try.prog 23, k ≤ reachBytes := by
      intro k hk
      refine hw2 k ?_
      rw [hy]
      simp only [DataW.weights, Try.underlying27]
      refine List.mem_cons_of_mem _ (List.mem_append_left _ ?_)
      have hDi : D i ∈ (List.range n').map D := List.mem_map.2 ⟨i, List.mem_range.2 (by omega), rfl⟩
      refine weightsAll_mem hDi ?_
      rw [hD]
      simp only [DataW.weights, Try.underlying34]
      exact DataW.weights_mem_each (j := 2) rfl (by simp [hz2]) k hk
    have s := slice_weight Try.underlying23 q2 hmem
    rw [bytes_int] at s
    unfold reachBytes at s
    omega
end
end Go.Proofs.Ytbgdgfnbdipjkaa
