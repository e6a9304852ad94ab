
/-
  The document's states, read; SameLists and Same of the document, of two that are one.
-/
import Derived.Test.YtbgigkamlnchcaaChO
set_option linter.unusedVariables false
set_option linter.unusedSimpArgs false
namespace Go.Proofs.Ytbgigkamlnchcaa
open Go.RowKit Plain

/-- Where a state's rows lie. -/
structure ChZ where
  A1 : Option Addr
  d1 : Nat
  A2 : Option Addr
  d2 : Nat
  A3 : Option Addr
  d3 : Nat
abbrev mkD (z : ChZ) (n : Nat) : Array Value := #[.int .i64 0, NilS, NilS, NilS, .slice z.A1 n z.d1, NilS, NilS, NilS, .slice z.A2 n z.d2, .slice z.A3 n z.d3]
abbrev zN (b1 b2 b3 n : Nat) : ChZ := ⟨some ⟨b1, 0, none⟩, n, some ⟨b2, 0, none⟩, n, some ⟨b3, 0, none⟩, n⟩
/-- A state that is read, its rows in blocks of E. -/
structure DocC (w : World) (E : Nat → Prop) (z : ChZ) (n : Nat) (s : Ck) : Prop where
  l1 : s.bf.length = n
  l2 : s.sq.length = n
  l3 : s.rq.length = n
  bf : RNs w E z.A1 z.d1 s.bf
  sq : RNs w E z.A2 z.d2 s.sq
  rq : RNs w E z.A3 z.d3 s.rq
section
variable {w w' : World} {E S : Nat → Prop} {z : ChZ} {n : Nat} {s : Ck}
theorem DocC.fr (h : DocC w E z n s) (hf : Fr S w w') (hS : ∀ i, E i → i < w.heap.size → ¬ S i) : DocC w' E z n s := ⟨h.l1, h.l2, h.l3, h.bf.fr hf hS, h.sq.fr hf hS, h.rq.fr hf hS⟩
theorem DocC.below {B : Nat} (h : DocC w E z n s) (hb : Below B w w') (hB : w.heap.size ≤ B) : DocC w' E z n s := h.fr (Fr.of_below hb) (fun i _ hi h => by omega)
theorem DocC.mono {E' : Nat → Prop} (h : DocC w E z n s) (hm : ∀ i, E i → i < w.heap.size → E' i) : DocC w E' z n s := ⟨h.l1, h.l2, h.l3, h.bf.mono hm, h.sq.mono hm, h.rq.mono hm⟩
theorem DocC.drewN (h : DocC w E z n s) (k : Nat) : DocC (w.drewN k) E z n s := ⟨h.l1, h.l2, h.l3, h.bf, h.sq, h.rq⟩
end
/-- The program's state, as it is read. -/
theorem ChM.doc {w : World} {B K : Nat} {b1 b2 b3 n g : Nat} {s : Ck} (H : ChM w B (mkH b1 b2 b3 n g) s) (O : CkOk K n s) : DocC w (fun _ => True) (zN b1 b2 b3 n) n s :=
  ⟨O.l1, O.l2, O.l3, (H.bf.mono (E := fun _ => True) (fun _ _ _ => trivial)).rns (fun _ _ => trivial), (H.sq.mono (E := fun _ => True) (fun _ _ _ => trivial)).rns (fun _ _ => trivial), (H.rq.mono (E := fun _ => True) (fun _ _ _ => trivial)).rns (fun _ _ => trivial)⟩
theorem blk10 {w : World} {b : Nat} {T : TypeId} {v0 v1 v2 v3 v4 v5 v6 v7 v8 v9 : Value} (h : Blk w b T #[v0, v1, v2, v3, v4, v5, v6, v7, v8, v9]) : w.cell? ⟨b, 0, none⟩ = some v0 ∧ w.cell? ⟨b, 1, none⟩ = some v1 ∧ w.cell? ⟨b, 2, none⟩ = some v2 ∧ w.cell? ⟨b, 3, none⟩ = some v3 ∧ w.cell? ⟨b, 4, none⟩ = some v4 ∧ w.cell? ⟨b, 5, none⟩ = some v5 ∧ w.cell? ⟨b, 6, none⟩ = some v6 ∧ w.cell? ⟨b, 7, none⟩ = some v7 ∧ w.cell? ⟨b, 8, none⟩ = some v8 ∧ w.cell? ⟨b, 9, none⟩ = some v9 :=
  ⟨(h.cell 0).trans rfl, (h.cell 1).trans rfl, (h.cell 2).trans rfl, (h.cell 3).trans rfl, (h.cell 4).trans rfl, (h.cell 5).trans rfl, (h.cell 6).trans rfl, (h.cell 7).trans rfl, (h.cell 8).trans rfl, (h.cell 9).trans rfl⟩
set_option maxRecDepth 100000 in
set_option maxHeartbeats 8000000 in
theorem sameLists_yes (L : List (List Int)) (n : Nat) (hl : L.length = n) (w : World) (E E' : Nat → Prop) (A A' : Option Addr) (c c' : Nat) (ha : RNs w E A c L) (hb : RNs w E' A' c' L) (hn : n ≤ 1000000) (hg : ∀ i, (gl L i).length ≤ 1000000) :
    Calls Try.prog 27 #[.slice A n c, .slice A' n c'] w fun e w' => e = .returned (.bool true) ∧ ∃ k, w' = w.drewN k := by
  have HA := Lib.hid ha; have HB := Lib.hid hb; have HL := Lib.hid hl; have HG := Lib.hid hg
  clear ha hb hl hg
  go_enter Try.func27, Try.ntmps27
  go_wp2_with fail
  go_loopw [5] (fun s wr => ∃ k : Nat, k ≤ n ∧ s = .int .i64 (k : Int) ∧ Hid (∃ d, wr = w.drewN d)) (fun s _ => n - (intOf s).toNat)
  case atStart =>
    exact ⟨0, by omega, rfl, Lib.hid ⟨0, rfl⟩⟩
  case round =>
    obtain ⟨k, hk, rfl, HD⟩ := hrel
    by_cases hlt : k < n
    · have hf : Fr (fun _ => False) w wr := by
        obtain ⟨d, h⟩ := HD.out
        rw [h]
        exact Fr.of_below (below_drews (B := w.heap.size) (Below.refl _ w) d) |>.mono (fun i hi h => by omega)
      have hkL : k < L.length := by rw [HL.out]; exact hlt
      obtain ⟨ad, A1, d1, rfl, _, _, e4, e6⟩ := (HA.out.fr hf (fun _ _ _ h => h)).at_ hkL
      obtain ⟨ad', A1', d1', rfl, _, _, e4', e6'⟩ := (HB.out.fr hf (fun _ _ _ h => h)).at_ hkL
      have hlen := HG.out k
      have hq : ∀ j, _ := fun j => Calls.quiet_of (sameInts_yes (gl L k) _ rfl (wr.drewN j) _ _ A1 A1' d1 d1' (e6.drewN j).reads (e6'.drewN j).reads (by omega))
      have HQ := Lib.hid hq
      have q1 : (k : Int) < (n : Int) := by omega
      have q0 : (0 : Int) ≤ (k : Int) := by omega
      generalize (gl L k).length = rl at *
      clear e6 e6' hf hq hkL
      go_wp2_with fail
      go_quiet ((exact HQ.out _))
      go_wp2_with fail
      exact ⟨⟨k + 1, by omega, by go_num, Lib.hid (by obtain ⟨d, h⟩ := HD.out; exact ⟨_, by rw [h, World.drewN_drewN]⟩)⟩, by simp [intOf]; omega⟩
    · go_wp2_with fail
      go_ret
      exact ⟨rfl, HD.out⟩
theorem RNs.drewN {w : World} {E : Nat → Prop} {A : Option Addr} {c : Nat} {L : List (List Int)} (h : RNs w E A c L) (k : Nat) : RNs (w.drewN k) E A c L := h
set_option maxRecDepth 100000 in
set_option maxHeartbeats 8000000 in
theorem refSame_yes (w : World) (E E' : Nat → Prop) (z z' : ChZ) (n K : Nat) (s : Ck) (h : DocC w E z n s) (h' : DocC w E' z' n s) (O : CkOk K n s) (hK : K ≤ 100000) (hn : n ≤ 1000) :
    Calls Try.prog 10 #[.agg (mkD z n), .agg (mkD z' n)] w fun e w' => e = .returned (.bool true) ∧ Below w.heap.size w w' := by
  have hrow := fun i => O.row i
  obtain ⟨W0, hW0⟩ : ∃ W, W = (w.alloc (.cells (mkD z n) 28)).alloc (.cells (mkD z' n) 28) := ⟨_, rfl⟩
  have k0 : Blk W0 w.heap.size 28 (mkD z n) := by rw [hW0]; exact (Blk.new w _ _).alloc _
  have r0 : Blk W0 (w.heap.size + 1) 28 (mkD z' n) := by rw [hW0]; simpa using Blk.new (w.alloc (.cells (mkD z n) 28)) 28 (mkD z' n)
  have l0 : Below w.heap.size w W0 := by rw [hW0]; exact ((Below.refl _ w).alloc (Nat.le_refl _) _).alloc (by simp) _
  have h1 := h.below l0 (Nat.le_refl _)
  have h2 := h'.below l0 (Nat.le_refl _)
  obtain ⟨x0, x1, x2, x3, x4, x5, x6, x7, x8, x9⟩ := blk10 k0
  obtain ⟨y0, y1, y2, y3, y4, y5, y6, y7, y8, y9⟩ := blk10 r0
  have c1 : ∀ W, Hid (∃ k, W = W0.drewN k) → Calls Try.prog 27 #[.slice z.A1 n z.d1, .slice z'.A1 n z'.d1] W fun e w' => e = .returned (.bool true) ∧ ∃ k, w' = W.drewN k := by
    rintro W ⟨k, rfl⟩
    exact sameLists_yes s.bf n h.l1 _ _ _ _ _ _ _ (h1.bf.drewN k) (h2.bf.drewN k) (by omega) (fun i => by have := hrow i; omega)
  have c2 : ∀ W, Hid (∃ k, W = W0.drewN k) → Calls Try.prog 27 #[.slice z.A2 n z.d2, .slice z'.A2 n z'.d2] W fun e w' => e = .returned (.bool true) ∧ ∃ k, w' = W.drewN k := by
    rintro W ⟨k, rfl⟩
    exact sameLists_yes s.sq n h.l2 _ _ _ _ _ _ _ (h1.sq.drewN k) (h2.sq.drewN k) (by omega) (fun i => by have := hrow i; omega)
  have c3 : ∀ W, Hid (∃ k, W = W0.drewN k) → Calls Try.prog 27 #[.slice z.A3 n z.d3, .slice z'.A3 n z'.d3] W fun e w' => e = .returned (.bool true) ∧ ∃ k, w' = W.drewN k := by
    rintro W ⟨k, rfl⟩
    exact sameLists_yes s.rq n h.l3 _ _ _ _ _ _ _ (h1.rq.drewN k) (h2.rq.drewN k) (by omega) (fun i => by have := hrow i; omega)
  have HW0 := Lib.hid hW0; have C1 := Lib.hid c1; have C2 := Lib.hid c2; have C3 := Lib.hid c3; have L0 := Lib.hid l0
  clear hW0 c1 c2 c3 h1 h2 h h' O k0 r0 l0
  go_enter Try.func10, Try.ntmps10
  go_upto_region 1 with fail
  rw [← HW0.out]
  clear HW0
  go_wp2_with fail
  refine (C1.out _ (Lib.hid ⟨0, rfl⟩)).mono ?_
  rintro e w1 ⟨rfl, k1, rfl⟩
  go_wp2_with fail
  refine (C2.out _ (Lib.hid ⟨k1, rfl⟩)).mono ?_
  rintro e w1 ⟨rfl, k2, rfl⟩
  go_wp2_with fail
  refine (C3.out _ (Lib.hid ⟨k1 + k2, rfl⟩)).mono ?_
  rintro e w1 ⟨rfl, k3, rfl⟩
  go_wp2_with fail
  go_ret
  exact ⟨rfl, below_drews L0.out _⟩
end Go.Proofs.Ytbgigkamlnchcaa
