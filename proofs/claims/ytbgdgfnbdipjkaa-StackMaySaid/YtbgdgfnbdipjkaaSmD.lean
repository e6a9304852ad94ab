
/-
  A cloned thread of whose stack a number is turned; where the law of two threads stands.
-/
import Derived.Test.YtbgdgfnbdipjkaaRefTA
set_option linter.unusedVariables false
set_option linter.unusedSimpArgs false
namespace Go.Proofs.Ytbgdgfnbdipjkaa
open Go.RowKit Plain

theorem wf_int {n : Int} (h : (Lit.int .i64 n).wf = true) : -9223372036854775808 ≤ n ∧ n ≤ 9223372036854775807 := by
  have := bounds_i64 h
  omega
theorem IS_put (l : List Int) (k : Nat) (v : Int) : (IS l).set k (.int .i64 v) = IS (l.set k v) := by simp [IS, List.map_set]
theorem OT.setS {w : World} {base : Nat} {A : Option Addr} {c b : Nat} {qc : Nat} {ts : List TFr} {t : TV} (g : OT w base A c (some ⟨b, 0, none⟩) qc ts t) (k : Nat) (v : Int) :
    OT (w.setCell ⟨b, k, none⟩ (.int .i64 v)) base A c (some ⟨b, 0, none⟩) qc ts { t with stack := t.stack.set k v } ∧ Fr (fun i => i = b) w (w.setCell ⟨b, k, none⟩ (.int .i64 v)) := by
  have hf : Fr (fun i => i = b) w (w.setCell ⟨b, k, none⟩ (.int .i64 v)) := (Fr.refl (fun i => i = b) w).setCell (p := ⟨b, k, none⟩) (.inl rfl) _
  have hi : (ts.map TFr.row ++ [irow (.slice (some ⟨b, 0, none⟩) t.stack.length qc) t.stack])[ts.length]? = some (irow (.slice (some ⟨b, 0, none⟩) t.stack.length qc) t.stack) := by
    rw [List.getElem?_append_right (by simp)]; simp
  have ho := (g.stk.stored k (.int .i64 v)).1
  rw [IS_put] at ho
  have hp := g.ints.put hi (w' := w.setCell ⟨b, k, none⟩ (.int .i64 v)) (hf.mono (fun i _ e => by simp [irow, Value.ownBlock, e])) (xs := IS (t.stack.set k v)) (by simpa [irow] using ho)
  refine ⟨⟨hf.own g.row (fun i hi e => own_ne g.row g.stk (by decide) i hi (by simp [Value.ownBlock, e])), g.fs, ?_⟩, hf⟩
  have e : (ts.map TFr.row ++ [irow (.slice (some ⟨b, 0, none⟩) t.stack.length qc) t.stack]).set ts.length ((irow (.slice (some ⟨b, 0, none⟩) t.stack.length qc) t.stack).1, (irow (.slice (some ⟨b, 0, none⟩) t.stack.length qc) t.stack).2.1, IS (t.stack.set k v)) = ts.map TFr.row ++ [irow (.slice (some ⟨b, 0, none⟩) (t.stack.set k v).length qc) (t.stack.set k v)] := by
    rw [List.set_append_right _ _ (by simp)]
    simp [irow]
  rw [e] at hp
  exact hp

/-- Three boxes with threads. -/
structure SS (w wr : World) (h0 : TH) (t0 : TV) (h1 : TH) (t1 : TV) (h2 : TH) (t2 : TV) (cb : Nat) : Prop where
  b0 : Blk wr w.heap.size 29 #[.int .i64 t0.state, .int .i64 t0.on, .slice h0.fA t0.frames.length h0.fc, .slice h0.sA t0.stack.length h0.sc, .int .i64 t0.code]
  b1 : Blk wr (w.heap.size + 1) 29 #[.int .i64 t1.state, .int .i64 t1.on, .slice h1.fA t1.frames.length h1.fc, .slice h1.sA t1.stack.length h1.sc, .int .i64 t1.code]
  b2 : Blk wr cb 29 #[.int .i64 t2.state, .int .i64 t2.on, .slice h2.fA t2.frames.length h2.fc, .slice h2.sA t2.stack.length h2.sc, .int .i64 t2.code]
  r0 : RT wr (fun i => i < w.heap.size) h0 t0
  r1 : RT wr (fun i => i < w.heap.size) h1 t1
  r2 : RT wr (fun _ => True) h2 t2
  len : LensT t2
  bel : Below w.heap.size w wr
theorem SS.below {w wr X : World} {h0 : TH} {t0 : TV} {h1 : TH} {t1 : TV} {h2 : TH} {t2 : TV} {cb : Nat} (g : SS w wr h0 t0 h1 t1 h2 t2 cb) (hb : Below wr.heap.size wr X) : SS w X h0 t0 h1 t1 h2 t2 cb :=
  ⟨g.b0.below hb g.b0.lt, g.b1.below hb g.b1.lt, g.b2.below hb g.b2.lt, g.r0.below hb, g.r1.below hb, g.r2.below hb, g.len, g.bel.trans (hb.mono g.bel.size)⟩
theorem SS.drewN {w wr : World} {h0 : TH} {t0 : TV} {h1 : TH} {t1 : TV} {h2 : TH} {t2 : TV} {cb : Nat} (g : SS w wr h0 t0 h1 t1 h2 t2 cb) (n : Nat) : SS w (wr.drewN n) h0 t0 h1 t1 h2 t2 cb :=
  g.below (below_drews (Below.refl _ _) n)
end Go.Proofs.Ytbgdgfnbdipjkaa
