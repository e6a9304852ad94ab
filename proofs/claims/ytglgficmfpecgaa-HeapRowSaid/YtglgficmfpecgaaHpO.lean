
/-
  A heap's calls: put, ahead, swap.
-/
import Derived.Test.YtglgficmfpecgaaHpN
import Derived.Test.YtglgficmfpecgaaHpC
import Derived.Deep.RegionLaw
import Derived.BigQuiet
set_option linter.unusedVariables false
set_option linter.unusedSimpArgs false
namespace Go.Proofs.Ytglgficmfpecgaa
open Go.RowKit Plain

section
variable {w : World} {B h m n : Nat} {v : Value} {ts : List Tm} {f : Int → Option Nat}
set_option maxRecDepth 100000 in
set_option maxHeartbeats 2000000 in
theorem put_any (i : Nat) (t : Tm) (H : HpX w B h m v ts f n) (hB : B ≤ w.heap.size) (hi : i < ts.length) (hs : ts.length ≤ 100000) :
    Calls Try.prog 30 #[.pointer (some ⟨h, 0, none⟩), .int .i64 (i : Int), tmV t] w fun e w' => e = .returned (.tuple #[]) ∧ HpX w' B h m v (ts.set i t) (upd f t.1 (some i)) n ∧ Fr (fun j => j = h ∨ j = m ∨ v.ownBlock = some j) w w' := by
  obtain ⟨t1, t2⟩ := t
  obtain ⟨g, c, rfl, hlc, hg, hgh, hgm, e0, e1, ez, ho⟩ := H.cells hi
  obtain ⟨c0, c1, c2, cz⟩ := H.box_cells
  have hlt := H.lt
  have hhm := H.hm
  have z0 := ez (i * 2)
  have z1 := ez (i * 2 + 1)
  have hlen : ∀ k x y, (((flat ts).set k x).set (k+1) y).length = ts.length * 2 := fun k x y => by simp [flat_length]
  have HH := Lib.hid H
  have HK := Lib.hid (Try.underlying53)
  unfold tmV
  clear H ez cz c2
  have hi' : (i : Int) < (ts.length : Int) := by omega
  go_enter Try.func30, Try.ntmps30
  go_wp2_with fail
  go_region
  have hr1 := own_put HH.out.row hi (t1, t2)
  have hf1 : Fr (fun j => j = g) w ((w.setCell ⟨g, i * 2, none⟩ (.int .i64 t1)).setCell ⟨g, i * 2 + 1, none⟩ (.int .i64 t2)) := ((Fr.refl (fun j => j = g) w).setCell (p := ⟨g, i * 2, none⟩) (.inl rfl) _).setCell (p := ⟨g, i * 2 + 1, none⟩) (.inl rfl) _
  have hsz : ((w.setCell ⟨g, i * 2, none⟩ (.int .i64 t1)).setCell ⟨g, i * 2 + 1, none⟩ (.int .i64 t2)).heap.size = w.heap.size := by simp
  generalize World.setCell _ _ _ = W0 at hr1 hf1 hsz ⊢
  have hf2 := (hf1.alloc (.cells #[.int .i64 t1, .int .i64 t2] 59)).drew
  have hr2 := ((Fr.refl (fun _ => False) W0).alloc (.cells #[.int .i64 t1, .int .i64 t2] 59)).drew.own hr1 (fun _ _ h => h)
  have hm2 := HH.out.mp.fr hf2 (fun e => hgm e.symm)
  have hb2 := hf2.blk HH.out.box (fun e => hgh e.symm)
  have hbx : Blk (W0.alloc (.cells #[.int .i64 t1, .int .i64 t2] 59)).drew w.heap.size 59 #[.int .i64 t1, .int .i64 t2] := by rw [← hsz]; exact (Blk.new W0 _ _).drew
  have hs2 : w.heap.size < (W0.alloc (.cells #[.int .i64 t1, .int .i64 t2] 59)).drew.heap.size := by simp [hsz]
  generalize World.drew _ = W2 at hf2 hr2 hm2 hb2 hbx hs2 ⊢
  have k1 := hb2.cell 1
  have k0 := hbx.cell 0
  simp at k1 k0
  have HF2 := Lib.hid hf2; have HR2 := Lib.hid hr2; have HM2 := Lib.hid hm2; have HB2 := Lib.hid hb2
  clear c0 c1 e0 e1 z0 z1 hr1 hf1 hsz hf2 hr2 hm2 hb2 hbx hlen
  obtain ⟨W3, hrun, hm3, hf3, hs3⟩ := IsMI.put (P := Try.prog) (w := W2.drew) HM2.out HK.out Try.underlying3 t1 i
  have HM3 := Lib.hid hm3; have HF3 := Lib.hid hf3
  clear hm3 hf3
  go_wp2_with fail
  go_region
  go_wp2_with fail
  go_end0
  have hfr : Fr (fun j => j = h ∨ j = m ∨ (some g : Option Nat) = some j) w W3 := (HF2.out.mono (S := fun j => j = h ∨ j = m ∨ (some g : Option Nat) = some j) (fun i _ e => .inr (.inr (by rw [e])))).drew.trans HF3.out (fun i _ e => .inr (.inl e))
  refine ⟨rfl, ⟨?_, ?_, HM3.out, HH.out.hb, HH.out.mb⟩, hfr⟩
  · exact HF3.out.blk (HB2.out.drew) hhm
  · have := HF3.out.own (v := .slice (some ⟨g, 0, none⟩) (ts.set i (t1, t2)).length c) (show (World.drew W2).ownsRow B 59 2 _ _ _ from HR2.out) (fun j hj => by
      have : g = j := by simpa [Value.ownBlock] using hj
      subst this
      exact hgm)
    simpa using this
end
end Go.Proofs.Ytglgficmfpecgaa
