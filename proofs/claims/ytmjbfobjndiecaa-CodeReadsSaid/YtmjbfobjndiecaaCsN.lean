
/-
  Rows of one's own of which a number is turned: locals, a choice's number, channels.
-/
import Derived.Test.YtmjbfobjndiecaaCsP
import Derived.Test.YtmjbfobjndiecaaCsM
set_option linter.unusedVariables false
set_option linter.unusedSimpArgs false
namespace Go.Proofs.Ytmjbfobjndiecaa
open Go.RowKit Plain
section
variable {w w' : World} {base : Nat} {vf vc vs vh vx : Value} {cs ss hs : List Int} {fs : List TF} {ls : List TL}
theorem IS_set (l : List Int) (k : Nat) (x : Int) : (IS l).set k (.int .i64 x) = IS (l.set k x) := by simp [IS, List.map_set]
theorem OP.setLoc (g : OP w base vf vc vs vh vx cs ss hs fs ls) {i b cap : Nat} {t : TF} (hi : fs[i]? = some t) (hv : vf = .slice (some ⟨b, 0, none⟩) fs.length cap) (x : Int) :
    OP (w.setCell ⟨b, i * 2, none⟩ (.int .i64 x)) base vf vc vs vh vx cs ss hs (fs.set i { t with f := { t.f with locals := x } }) ls := by
  have hown : vf.ownBlock = some b := by simp [hv, Value.ownBlock]
  have hf : Fr (fun j => vf.ownBlock = some j) w (w.setCell ⟨b, i * 2, none⟩ (.int .i64 x)) := (Fr.refl _ w).setCell (p := ⟨b, i * 2, none⟩) (.inl hown) _
  have ho := g.frow
  have ho2 : (w.setCell ⟨b, i * 2, none⟩ (.int .i64 x)).ownsRow base 45 2 vf fs.length ((FS fs).set (i * 2) (.int .i64 x)) := by
    simp only [hv] at ho ⊢
    exact (ho.stored _ _).1
  have hFS : (FS fs).set (i * 2) (.int .i64 x) = FS (fs.set i { t with f := { t.f with locals := x } }) := by
    unfold FS
    rw [flat2_set1 _ i t.cells _ (by simp [hi]), List.map_set]
    rfl
  refine ⟨g.ints.fr hf (fun r hr j hj h => own_ne (g.ints.1 r hr) ho (by decide) j hj h), hf.own g.lrow (fun j hj h => own_ne g.lrow ho (by decide) j hj h), ?_, ?_⟩
  · rw [List.length_set, ← hFS]
    exact ho2
  · have hc := g.code.fr hf (fun r hr j hj h => own_ne (g.code.1 r hr) ho (by decide) j hj h)
    rw [List.map_set, set_same (by simp [hi, TF.row, TF.val])]
    exact hc
theorem OP.setL (g : OP w base vf vc vs vh vx cs ss hs fs ls) {i k b : Nat} {t : TL} (hi : ls[i]? = some t) (hA : t.A = some ⟨b, 0, none⟩) (x : Int) :
    OP (w.setCell ⟨b, k, none⟩ (.int .i64 x)) base vf vc vs vh vx cs ss hs fs (ls.set i { t with l := t.l.set k x }) := by
  have hrow : (irow vc cs :: irow vs ss :: irow vh hs :: ls.map TL.row)[i + 1 + 1 + 1]? = some t.row := by simp [hi]
  have ho := g.ints.1 _ (List.mem_of_getElem? hrow)
  have hv : t.val = .slice (some ⟨b, 0, none⟩) t.l.length t.c := by rw [TL.val, hA]
  have hown : t.row.1.ownBlock = some b := by simp [TL.row, hv, Value.ownBlock]
  have hf : Fr (fun j => t.row.1.ownBlock = some j) w (w.setCell ⟨b, k, none⟩ (.int .i64 x)) := (Fr.refl _ w).setCell (p := ⟨b, k, none⟩) (.inl hown) _
  have ho2 : (w.setCell ⟨b, k, none⟩ (.int .i64 x)).ownsRow base 3 1 t.row.1 t.row.2.1 (IS (t.l.set k x)) := by
    rw [← IS_set]
    simp only [TL.row, hv] at ho ⊢
    exact (ho.stored _ _).1
  have hLS : LS (ls.set i { t with l := t.l.set k x }) = LS ls := by
    unfold LS
    rw [List.map_set, set_same]
    simp [hi]
  refine ⟨?_, ?_, hf.own g.frow (fun j hj h => own_ne g.frow ho (by decide) j hj h), g.code.fr hf (fun r hr j hj h => own_ne (g.code.1 r hr) ho (by decide) j hj h)⟩
  · have := g.ints.put hrow hf ho2
    rw [List.map_set]
    simpa [TL.row, TL.val] using this
  · rw [hLS, List.length_set]
    exact hf.own g.lrow (fun j hj h => own_ne g.lrow ho (by decide) j hj h)
theorem OP.setH (g : OP w base vf vc vs vh vx cs ss hs fs ls) {k b cap : Nat} (hv : vh = .slice (some ⟨b, 0, none⟩) hs.length cap) (x : Int) :
    OP (w.setCell ⟨b, k, none⟩ (.int .i64 x)) base vf vc vs vh vx cs ss (hs.set k x) fs ls := by
  have hrow : (irow vc cs :: irow vs ss :: irow vh hs :: ls.map TL.row)[2]? = some (irow vh hs) := by simp
  have ho := g.ints.1 _ (List.mem_of_getElem? hrow)
  have hown : (irow vh hs).1.ownBlock = some b := by simp [irow, hv, Value.ownBlock]
  have hf : Fr (fun j => (irow vh hs).1.ownBlock = some j) w (w.setCell ⟨b, k, none⟩ (.int .i64 x)) := (Fr.refl _ w).setCell (p := ⟨b, k, none⟩) (.inl hown) _
  have ho2 : (w.setCell ⟨b, k, none⟩ (.int .i64 x)).ownsRow base 3 1 (irow vh hs).1 (irow vh hs).2.1 (IS (hs.set k x)) := by
    rw [← IS_set]
    simp only [irow, hv] at ho ⊢
    exact (ho.stored _ _).1
  refine ⟨?_, hf.own g.lrow (fun j hj h => own_ne g.lrow ho (by decide) j hj h), hf.own g.frow (fun j hj h => own_ne g.frow ho (by decide) j hj h), g.code.fr hf (fun r hr j hj h => own_ne (g.code.1 r hr) ho (by decide) j hj h)⟩
  have := g.ints.put hrow hf ho2
  simpa [irow] using this
end
end Go.Proofs.Ytmjbfobjndiecaa
