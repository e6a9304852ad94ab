
/-
  All of a ring's things: the list, and the function that tells it.
-/
import Derived.Test.YtipflplilkecjaaRgOwn
import Derived.RangeFuncNested
import Derived.RangeFuncBound
import Derived.RangeFuncCalls
import Derived.RangeFuncLeaves
import Derived.RangeFuncBox
import Derived.Shelf.Abstract
import Derived.Shelf.RegionOpen
import Derived.OwnWalkIn
import Derived.TacticsInMore
import Derived.LoopNIn
import Derived.LoopIn
set_option linter.unusedVariables false
set_option linter.unusedSimpArgs false
namespace Go.Proofs.Ytipflplilkecjaa
open Go.RowKit Go.Shelf Plain

set_option maxHeartbeats 1000000 in
theorem list_any (g s room first : Nat) (l : List Int) (w : World) (h : RgI w g s room first l) :
    Calls Try.prog 57 #[.pointer (some ⟨g, 0, none⟩)] w fun e w' => ∃ b, e = .returned (.slice (some ⟨b, 0, none⟩) l.length l.length) ∧ Blk w' b 3 (l.map EnI).toArray ∧ w.heap.size ≤ b ∧ Below w.heap.size w w' := by
  obtain ⟨i0, hi0, hz0, hz1, hz2⟩ := info_parts info_int
  have c2 : w.cell? ⟨g, 2, none⟩ = some (.int .i64 (l.length : Int)) := (h.box.cell 2).trans rfl
  have hl1 := h.len
  have hl2 := h.hi
  have hlt := h.lt
  have H := Lib.hid h
  clear h
  go_enter Try.func57, Try.ntmps57
  go_wp2_with (with_reducible refine wpList_make_full _ rfl (.tmp 8) (.tmp 8) _ rfl w.heap.size 3 i0 _ 1 Try.underlying26 hi0 hz0 hz1 _ _ _ _ l.length rfl rfl rfl rfl (by rw [hz2]; omega) (by unfold maxLen; omega) (Nat.le_refl _) ?c5)
  case c5 =>
  intro w1 hown hg
  have hz := hg.size
  rw [made_one] at hown
  have hs := blk_of_full hown
  have hb1 : Below w.heap.size w w1 := (Below.refl _ _).grown hg (Nat.le_refl _) (by simp)
  have HS := Lib.hid hs; have HB := Lib.hid hb1
  clear hs hg hown hb1 c2
  go_wp2_with fail
  go_loopw [12] (fun s12 wr => ∃ k : Nat, k ≤ l.length ∧ s12 = .int .i64 (k : Int) ∧ Blk wr w.heap.size 3 ((l.take k ++ List.replicate (l.length - k) 0).map EnI).toArray ∧ Below w.heap.size w wr) (fun s12 _ => l.length - (intOf s12).toNat)
  case atStart => exact ⟨0, by omega, rfl, by simpa using HS.out, HB.out⟩
  case round =>
    clear HS HB
    obtain ⟨k, hk, rfl, hs, hb⟩ := hrel
    have HS := Lib.hid hs; have HB := Lib.hid hb
    have hzz := hb.size
    clear hs hb
    by_cases hlt2 : k < l.length
    · have hx : l[k]? = some (l[k]) := List.getElem?_eq_getElem hlt2
      have hq := at_yesI g s room first l wr (H.out.below HB.out hlt.1 hlt.2) k _ hx
      generalize hxv : l[k] = x at *
      have HX := Lib.hid hx; have HQ := Lib.hid hq
      clear hx hq hxv
      go_wp2_with fail
      refine HQ.out.mono ?_
      rintro e w' ⟨rfl, n, rfl⟩
      have d0 : (wr.drewN n).cell? ⟨w.heap.size, k, none⟩ = some (.int .i64 0) := by
        have := HS.out.cell k
        show wr.cell? _ = _
        rw [this, List.getElem?_toArray, List.getElem?_map, List.getElem?_append_right (by simp; omega), show k - (l.take k).length = 0 by simp; omega, show l.length - k = (l.length - (k + 1)) + 1 by omega, List.replicate_succ]
        rfl
      have z0 : (wr.drewN n).frozen? ⟨w.heap.size, k, none⟩ = false := HS.out.frozen k
      have hk0 : (0 : Int) ≤ (k : Int) := by omega
      have hk1 : (k : Int) < (l.length : Int) := by omega
      go_wp2_with fail
      refine ⟨⟨k + 1, by omega, by go_num, ?_, (below_drews HB.out n).setCell (Nat.le_refl _) _⟩, by simp [intOf]; omega⟩
      have h1 := (HS.out.drewN n).set_ k (.int .i64 x)
      have e1 : ((l.take k ++ List.replicate (l.length - k) (0 : Int)).map EnI).toArray.setIfInBounds k (.int .i64 x) = ((l.take (k + 1) ++ List.replicate (l.length - (k + 1)) (0 : Int)).map EnI).toArray := by
        rw [List.setIfInBounds_toArray, show (Value.int .i64 x) = EnI x from rfl, ← List.map_set]
        congr 2
        have hxo := HX.out
        rw [List.set_append_right _ _ (by simp; omega)]
        rw [List.take_add_one, hxo, show l.length - k = (l.length - (k + 1)) + 1 by omega, List.replicate_succ]
        rw [show k - (l.take k).length = 0 by simp; omega]
        simp
      rw [e1] at h1
      exact h1
    · have hkl : k = l.length := by omega
      have hs := HS.out
      rw [hkl] at hs
      simp only [Nat.sub_self, List.replicate_zero, List.append_nil, List.take_length] at hs
      have HS2 := Lib.hid hs
      clear hs hkl
      go_wp2_with fail
      go_ret
      exact ⟨w.heap.size, rfl, HS2.out, Nat.le_refl _, HB.out⟩

set_option maxHeartbeats 1000000 in
theorem allOf_any (g s room first : Nat) (l : List Int) (w : World) (h : RgI w g s room first l) :
    Calls Try.prog 45 #[.pointer (some ⟨g, 0, none⟩)] w fun e w' => ∃ b bx, e = .returned (.func (.func 58) #[] #[.pointer (some ⟨bx, 0, none⟩)]) ∧ Blk w' bx 26 #[.slice (some ⟨b, 0, none⟩) l.length l.length] ∧ Blk w' b 3 (l.map EnI).toArray ∧ w.heap.size ≤ b ∧ w.heap.size ≤ bx ∧ Below w.heap.size w w' := by
  have hq := list_any g s room first l w h
  have HQ := Lib.hid hq
  clear h hq
  go_enter Try.func45, Try.ntmps45
  go_wp2_with fail
  refine HQ.out.mono ?_
  rintro e w1 ⟨b, rfl, hs, hb, hbel⟩
  have hz := hbel.size
  go_wp2_with fail
  go_ret
  exact ⟨b, w1.heap.size, rfl, Blk.new _ _ _, hs.alloc _, hb, hz, hbel.alloc hz _⟩
end Go.Proofs.Ytipflplilkecjaa
