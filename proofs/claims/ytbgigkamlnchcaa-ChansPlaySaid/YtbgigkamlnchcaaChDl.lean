
/-
  The boxes of a deed, and what it leaves.
-/
import Derived.Test.YtbgigkamlnchcaaChDk
set_option linter.unusedVariables false
set_option linter.unusedSimpArgs false
namespace Go.Proofs.Ytbgigkamlnchcaa
open Go.RowKit Plain

/-- Where rows of the document's may stand in a deed: where they stood, or behind the deed's boxes. -/
abbrev ME (w : World) (E : Nat → Prop) : Nat → Prop := fun k => (E k ∧ k < w.heap.size) ∨ w.heap.size + 1 + 1 + 1 + 1 ≤ k
abbrev EW (w : World) (E : Nat → Prop) : Nat → Prop := fun k => (E k ∧ k < w.heap.size) ∨ w.heap.size ≤ k
structure DeW (w W : World) (B : Nat) (h : ChH) (E : Nat → Prop) (z : ChZ) (n : Nat) (s : Ck) (r0 r1 r2 r3 kind tv cv vv : Int) (A : Option Addr) (lk lc : Nat) (l : List Int) : Prop where
  b5 : Blk W w.heap.size 28 (mkD z n)
  b6 : Blk W (w.heap.size + 1) 22 #[.int .i64 r0, .int .i64 r1, .int .i64 r2, .int .i64 r3]
  b7 : Blk W (w.heap.size + 1 + 1) 35 #[.int .i64 kind, .int .i64 tv, .int .i64 cv, .int .i64 vv, .slice A lk lc]
  b8 : Blk W (w.heap.size + 1 + 1 + 1) 28 zeroC
  ch : ChM W B { h with X := fun k => h.X k ∨ k = w.heap.size + 1 + 1 + 1 } s
  dc : DocC W (fun k => E k ∧ k < w.heap.size) z n s
  bel : Below w.heap.size w W
  hW : ∀ k, h.W k → k < w.heap.size
  sz : w.heap.size + 1 + 1 + 1 + 1 ≤ W.heap.size
  rl : RN W (fun k => ¬ h.W k) A lc l
section
variable {w W W' : World} {B n : Nat} {h : ChH} {E : Nat → Prop} {z : ChZ} {s : Ck} {r0 r1 r2 r3 kind tv cv vv : Int} {A : Option Addr} {lk lc : Nat} {l : List Int}
theorem DeW.later (H : DeW w W B h E z n s r0 r1 r2 r3 kind tv cv vv A lk lc l) (hb : Below W.heap.size W W') : DeW w W' B h E z n s r0 r1 r2 r3 kind tv cv vv A lk lc l :=
  ⟨H.b5.below hb H.b5.lt, H.b6.below hb H.b6.lt, H.b7.below hb H.b7.lt, H.b8.below hb H.b8.lt, H.ch.below hb (Nat.le_refl _), H.dc.below hb (Nat.le_refl _), H.bel.trans (hb.mono H.bel.size), H.hW, Nat.le_trans H.sz hb.size, H.rl.below hb (Nat.le_refl _)⟩
theorem DeW.new (w : World) (r0 r1 r2 r3 kind tv cv vv : Int) (hl : ChM w B h s) (hd : DocC w E z n s) (hr : RN w (fun k => ¬ h.W k) A lc l) : DeW w ((((w.alloc (.cells (mkD z n) 28)).alloc (.cells #[.int .i64 r0, .int .i64 r1, .int .i64 r2, .int .i64 r3] 22)).alloc (.cells #[.int .i64 kind, .int .i64 tv, .int .i64 cv, .int .i64 vv, .slice A lk lc] 35)).alloc (.cells zeroC 28)) B h E z n s r0 r1 r2 r3 kind tv cv vv A lk lc l := by
  have hb : Below w.heap.size w ((((w.alloc (.cells (mkD z n) 28)).alloc (.cells #[.int .i64 r0, .int .i64 r1, .int .i64 r2, .int .i64 r3] 22)).alloc (.cells #[.int .i64 kind, .int .i64 tv, .int .i64 cv, .int .i64 vv, .slice A lk lc] 35)).alloc (.cells zeroC 28)) := ((((Below.refl _ _).alloc (Nat.le_refl _) _).alloc (by simp) _).alloc (by simp; omega) _).alloc (by simp; omega) _
  have h6 := ((Blk.new (w.alloc (.cells (mkD z n) 28)) 22 #[.int .i64 r0, .int .i64 r1, .int .i64 r2, .int .i64 r3]).alloc (.cells #[.int .i64 kind, .int .i64 tv, .int .i64 cv, .int .i64 vv, .slice A lk lc] 35)).alloc (.cells zeroC 28)
  have h7 := (Blk.new ((w.alloc (.cells (mkD z n) 28)).alloc (.cells #[.int .i64 r0, .int .i64 r1, .int .i64 r2, .int .i64 r3] 22)) 35 #[.int .i64 kind, .int .i64 tv, .int .i64 cv, .int .i64 vv, .slice A lk lc]).alloc (.cells zeroC 28)
  have h8 := Blk.new (((w.alloc (.cells (mkD z n) 28)).alloc (.cells #[.int .i64 r0, .int .i64 r1, .int .i64 r2, .int .i64 r3] 22)).alloc (.cells #[.int .i64 kind, .int .i64 tv, .int .i64 cv, .int .i64 vv, .slice A lk lc] 35)) 28 zeroC
  simp only [World.size_alloc] at h6 h7 h8
  exact ⟨(((Blk.new w _ _).alloc _).alloc _).alloc _, h6, h7, h8, hl.addX hb (X' := fun k => k = w.heap.size + 1 + 1 + 1) (fun k hk => ⟨by omega, by simp; omega⟩), (hd.mono (E' := fun k => E k ∧ k < w.heap.size) (fun k h1 h2 => ⟨h1, h2⟩)).below hb (Nat.le_refl _), hb, fun k hk => (hl.wlt hk).2.1, by simp, hr.below hb (Nat.le_refl _)⟩
/-- What a deed leaves. -/
def DePost (w : World) (B : Nat) (h : ChH) (E : Nat → Prop) (n : Nat) (s : Ck) (e : Ending) (w' : World) : Prop :=
  ∃ z : ChZ, e = .returned (.tuple #[.agg (mkD z n), .bool true]) ∧ ChM w' B h s ∧ DocC w' (EW w E) z n s ∧ Fr h.W w w'
theorem de_end (k8 : Blk W (w.heap.size + 1 + 1 + 1) 28 zeroC) (hl : ChM W B { h with X := fun k => h.X k ∨ k = w.heap.size + 1 + 1 + 1 } s) (hd : DocC W (ME w E) z n s) (hf : Fr h.W w W) (hg : h.g < w.heap.size) (hW : ∀ k, h.W k → k < w.heap.size) :
    DePost w B h E n s (.returned (.tuple #[.agg (mkD z n), .bool true])) ((((((((((W.setCell ⟨w.heap.size + 1 + 1 + 1, 0, none⟩ (.int .i64 0)).setCell ⟨w.heap.size + 1 + 1 + 1, 1, none⟩ (.slice none 0 0)).setCell ⟨w.heap.size + 1 + 1 + 1, 2, none⟩ (.slice none 0 0)).setCell ⟨w.heap.size + 1 + 1 + 1, 3, none⟩ (.slice none 0 0)).setCell ⟨w.heap.size + 1 + 1 + 1, 4, none⟩ (.slice z.A1 n z.d1)).setCell ⟨w.heap.size + 1 + 1 + 1, 5, none⟩ (.slice none 0 0)).setCell ⟨w.heap.size + 1 + 1 + 1, 6, none⟩ (.slice none 0 0)).setCell ⟨w.heap.size + 1 + 1 + 1, 7, none⟩ (.slice none 0 0)).setCell ⟨w.heap.size + 1 + 1 + 1, 8, none⟩ (.slice z.A2 n z.d2)).setCell ⟨w.heap.size + 1 + 1 + 1, 9, none⟩ (.slice z.A3 n z.d3)) ∧ Blk ((((((((((W.setCell ⟨w.heap.size + 1 + 1 + 1, 0, none⟩ (.int .i64 0)).setCell ⟨w.heap.size + 1 + 1 + 1, 1, none⟩ (.slice none 0 0)).setCell ⟨w.heap.size + 1 + 1 + 1, 2, none⟩ (.slice none 0 0)).setCell ⟨w.heap.size + 1 + 1 + 1, 3, none⟩ (.slice none 0 0)).setCell ⟨w.heap.size + 1 + 1 + 1, 4, none⟩ (.slice z.A1 n z.d1)).setCell ⟨w.heap.size + 1 + 1 + 1, 5, none⟩ (.slice none 0 0)).setCell ⟨w.heap.size + 1 + 1 + 1, 6, none⟩ (.slice none 0 0)).setCell ⟨w.heap.size + 1 + 1 + 1, 7, none⟩ (.slice none 0 0)).setCell ⟨w.heap.size + 1 + 1 + 1, 8, none⟩ (.slice z.A2 n z.d2)).setCell ⟨w.heap.size + 1 + 1 + 1, 9, none⟩ (.slice z.A3 n z.d3)) (w.heap.size + 1 + 1 + 1) 28 (mkD z n) := by
  have hs := fr_set10 W (w.heap.size + 1 + 1 + 1) (.int .i64 0) (.slice none 0 0) (.slice none 0 0) (.slice none 0 0) (.slice z.A1 n z.d1) (.slice none 0 0) (.slice none 0 0) (.slice none 0 0) (.slice z.A2 n z.d2) (.slice z.A3 n z.d3)
  have hb := k8.set10 (.int .i64 0) (.slice none 0 0) (.slice none 0 0) (.slice none 0 0) (.slice z.A1 n z.d1) (.slice none 0 0) (.slice none 0 0) (.slice none 0 0) (.slice z.A2 n z.d2) (.slice z.A3 n z.d3)
  refine ⟨⟨z, rfl, ?_, (hd.fr hs (fun i hi _ e => ?_)).mono (fun k hk _ => ?_), hf.trans hs (fun i hi e => by omega)⟩, hb⟩
  · exact (hl.frX hs (fun k e => ⟨.inr e, fun hk => by have := hW k hk; omega, by show k ≠ h.g; omega⟩)).dropX (X' := h.X) (fun k hk => .inl hk)
  · rcases hi with hi | hi <;> omega
  · rcases hk with hk | hk
    · exact .inl hk
    · exact .inr (by omega)
end
end Go.Proofs.Ytbgigkamlnchcaa
