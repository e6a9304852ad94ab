
/-
  The document's states: own.
-/
import Derived.Test.YtikelkfinjcgaaaLkO
set_option linter.unusedVariables false
set_option linter.unusedSimpArgs false
namespace Go.Proofs.Ytikelkfinjcgaaa
open Go.RowKit Plain

/-- A state of the document's that is read. -/
structure DocC (w : World) (E : Nat → Prop) (z : LkQ) (p q n : Nat) (s : Lk) : Prop where
  lo : s.own.length = p
  ln : s.cnt.length = n
  ll : s.lq.length = p
  lw : s.wq.length = q
  ld : s.dq.length = n
  own : RN w E z.A0 z.d0 s.own
  cnt : RN w E z.A1 z.d1 s.cnt
  lq : RNs w E z.A2 z.d2 s.lq
  wq : RNs w E z.A3 z.d3 s.wq
  dq : RNs w E z.A4 z.d4 s.dq
/-- One whose rows are its own. -/
structure DO (w : World) (b0 b1 b2 b3 b4 b5 : Nat) (z : LkQ) (p q n : Nat) (s : Lk) : Prop where
  lo : s.own.length = p
  ln : s.cnt.length = n
  ll : s.lq.length = p
  lw : s.wq.length = q
  ld : s.dq.length = n
  own : OwnI w b0 (.slice z.A0 p z.d0) s.own
  ownT : ∀ k, (Value.slice z.A0 p z.d0).ownBlock = some k → k < b1
  cnt : OwnI w b1 (.slice z.A1 n z.d1) s.cnt
  cntT : ∀ k, (Value.slice z.A1 n z.d1).ownBlock = some k → k < b2
  lq : OwnSS w b2 b3 (.slice z.A2 p z.d2) s.lq
  wq : OwnSS w b3 b4 (.slice z.A3 q z.d3) s.wq
  dq : OwnSS w b4 b5 (.slice z.A4 n z.d4) s.dq
  o : b0 ≤ b1 ∧ b1 ≤ b2 ∧ b2 ≤ b3 ∧ b3 ≤ b4 ∧ b4 ≤ b5 ∧ b5 ≤ w.heap.size
section
variable {w w' : World} {E E' S : Nat → Prop} {z : LkQ} {p q n b0 b1 b2 b3 b4 b5 : Nat} {s : Lk}
theorem DocC.fr (h : DocC w E z p q n s) (hf : Fr S w w') (hS : ∀ i, E i → i < w.heap.size → ¬ S i) : DocC w' E z p q n s :=
  ⟨h.lo, h.ln, h.ll, h.lw, h.ld, h.own.fr hf hS, h.cnt.fr hf hS, h.lq.fr hf hS, h.wq.fr hf hS, h.dq.fr hf hS⟩
theorem DocC.mono (h : DocC w E z p q n s) (hm : ∀ i, E i → i < w.heap.size → E' i) : DocC w E' z p q n s :=
  ⟨h.lo, h.ln, h.ll, h.lw, h.ld, h.own.mono hm, h.cnt.mono hm, h.lq.mono hm, h.wq.mono hm, h.dq.mono hm⟩
theorem DocC.below {B : Nat} (h : DocC w E z p q n s) (hb : Below B w w') (hB : w.heap.size ≤ B) : DocC w' E z p q n s := h.fr (Fr.of_below hb) (fun i _ hi h => by omega)
theorem DO.fr (h : DO w b0 b1 b2 b3 b4 b5 z p q n s) (hf : Fr S w w') (hS : ∀ i, b0 ≤ i → i < w.heap.size → ¬ S i) : DO w' b0 b1 b2 b3 b4 b5 z p q n s := by
  obtain ⟨o1, o2, o3, o4, o5, o6⟩ := h.o
  have := hf.size
  exact ⟨h.lo, h.ln, h.ll, h.lw, h.ld, hf.own h.own (fun i hi => hS i (own_blk h.own hi).1 (own_blk h.own hi).2.1), h.ownT, hf.own h.cnt (fun i hi => hS i (by have := (own_blk h.cnt hi).1; omega) (own_blk h.cnt hi).2.1), h.cntT,
    h.lq.fr hf (fun i h1 h2 => hS i (by omega) (by omega)), h.wq.fr hf (fun i h1 h2 => hS i (by omega) (by omega)), h.dq.fr hf (fun i h1 h2 => hS i (by omega) (by omega)), ⟨o1, o2, o3, o4, o5, by omega⟩⟩
theorem RN.of_owns {b : Nat} {A : Option Addr} {m c : Nat} {l : List Int} (hl : l.length = m) (h : OwnI w b (.slice A m c) l) : RN w (fun k => b ≤ k) A c l := RN.of_own_n hl h
theorem DO.doc (h : DO w b0 b1 b2 b3 b4 b5 z p q n s) : DocC w (fun k => b0 ≤ k) z p q n s := by
  obtain ⟨o1, o2, o3, o4, o5, o6⟩ := h.o
  have hs : ∀ {B T : Nat} {A : Option Addr} {m c : Nat} {L : List (List Int)}, b0 ≤ B → OwnSS w B T (.slice A m c) L → RNs w (fun k => b0 ≤ k) A c L := fun {B T A m c L} hB hS =>
    (hS.owns (E := fun k => b0 ≤ k) (fun k hk _ => by omega)).rns (fun k hk => by
      obtain ⟨vs, h1, _⟩ := hS
      have := (own_blk h1 hk).1
      omega)
  exact ⟨h.lo, h.ln, h.ll, h.lw, h.ld, RN.of_owns h.lo h.own, (RN.of_owns h.ln h.cnt).mono (fun k hk _ => by omega), hs (by omega) h.lq, hs (by omega) h.wq, hs (by omega) h.dq⟩
end
/-- Bounds of a state. -/
structure SzL (s : Lk) : Prop where
  a : s.own.length ≤ 100000
  b : s.cnt.length ≤ 100000
  c : s.wq.length ≤ 100000
  d : ∀ i, (gl s.lq i).length ≤ 100000
  e : ∀ i, (gl s.wq i).length ≤ 100000
  f : ∀ i, (gl s.dq i).length ≤ 100000
theorem SzL.of {K : Nat} {s : Lk} (h : LkOk K s) (hK : K ≤ 100000) : SzL s := by
  have := h.tt
  exact ⟨Nat.le_trans h.n1 hK, Nat.le_trans h.n3 hK, Nat.le_trans h.n2 hK, fun i => by have := gl_le s.lq i; omega, fun i => by have := gl_le s.wq i; omega, fun i => by have := gl_le s.dq i; omega⟩
theorem blk10 {W : World} {g : Nat} {T : TypeId} {x0 x1 x2 x3 x4 x5 x6 x7 x8 x9 : Value} (h : Blk W g T #[x0, x1, x2, x3, x4, x5, x6, x7, x8, x9]) :
    W.cell? ⟨g, 0, none⟩ = some x0 ∧ W.cell? ⟨g, 1, none⟩ = some x1 ∧ W.cell? ⟨g, 2, none⟩ = some x2 ∧ W.cell? ⟨g, 3, none⟩ = some x3 ∧ W.cell? ⟨g, 4, none⟩ = some x4 ∧ W.cell? ⟨g, 5, none⟩ = some x5 ∧ W.cell? ⟨g, 6, none⟩ = some x6 ∧ W.cell? ⟨g, 7, none⟩ = some x7 ∧ W.cell? ⟨g, 8, none⟩ = some x8 ∧ W.cell? ⟨g, 9, none⟩ = some x9 :=
  ⟨(h.cell 0).trans rfl, (h.cell 1).trans rfl, (h.cell 2).trans rfl, (h.cell 3).trans rfl, (h.cell 4).trans rfl, (h.cell 5).trans rfl, (h.cell 6).trans rfl, (h.cell 7).trans rfl, (h.cell 8).trans rfl, (h.cell 9).trans rfl⟩
/-- A whole box is written. -/
theorem Blk.set10 {W : World} {g : Nat} {T : TypeId} {x0 x1 x2 x3 x4 x5 x6 x7 x8 x9 : Value} (h : Blk W g T #[x0, x1, x2, x3, x4, x5, x6, x7, x8, x9]) (a0 a1 a2 a3 a4 a5 a6 a7 a8 a9 : Value) :
    Blk ((((((((((W.setCell ⟨g, 0, none⟩ a0).setCell ⟨g, 1, none⟩ a1).setCell ⟨g, 2, none⟩ a2).setCell ⟨g, 3, none⟩ a3).setCell ⟨g, 4, none⟩ a4).setCell ⟨g, 5, none⟩ a5).setCell ⟨g, 6, none⟩ a6).setCell ⟨g, 7, none⟩ a7).setCell ⟨g, 8, none⟩ a8).setCell ⟨g, 9, none⟩ a9) g T #[a0, a1, a2, a3, a4, a5, a6, a7, a8, a9] := by
  have := (((((((((h.set_ 0 a0).set_ 1 a1).set_ 2 a2).set_ 3 a3).set_ 4 a4).set_ 5 a5).set_ 6 a6).set_ 7 a7).set_ 8 a8).set_ 9 a9
  simpa using this
theorem fr_set10 (W : World) (g : Nat) (a0 a1 a2 a3 a4 a5 a6 a7 a8 a9 : Value) :
    Fr (fun k => k = g) W ((((((((((W.setCell ⟨g, 0, none⟩ a0).setCell ⟨g, 1, none⟩ a1).setCell ⟨g, 2, none⟩ a2).setCell ⟨g, 3, none⟩ a3).setCell ⟨g, 4, none⟩ a4).setCell ⟨g, 5, none⟩ a5).setCell ⟨g, 6, none⟩ a6).setCell ⟨g, 7, none⟩ a7).setCell ⟨g, 8, none⟩ a8).setCell ⟨g, 9, none⟩ a9) := by
  have st : ∀ (X : World) (j : Nat) (v : Value), Fr (fun k => k = g) W X → Fr (fun k => k = g) W (X.setCell ⟨g, j, none⟩ v) := fun X j v h => h.setCell (p := ⟨g, j, none⟩) (.inl rfl) v
  exact st _ 9 _ (st _ 8 _ (st _ 7 _ (st _ 6 _ (st _ 5 _ (st _ 4 _ (st _ 3 _ (st _ 2 _ (st _ 1 _ (st _ 0 _ (Fr.refl _ W))))))))))
abbrev zeroC : Array Value := #[.int .i64 0, .slice none 0 0, .slice none 0 0, .slice none 0 0, .slice none 0 0, .slice none 0 0, .slice none 0 0, .slice none 0 0, .slice none 0 0, .slice none 0 0]
set_option maxRecDepth 100000 in
set_option maxHeartbeats 8000000 in
theorem own_any (w : World) (E : Nat → Prop) (z : LkQ) (p q n : Nat) (s : Lk) (h : DocC w E z p q n s) (hs : SzL s) :
    Calls Try.prog 48 #[.agg (mkC z p q n)] w fun e w' => ∃ (z' : LkQ) (b0 b1 b2 b3 b4 b5 : Nat), e = .returned (.agg (mkC z' p q n)) ∧ w.heap.size + 1 < b0 ∧ DO w' b0 b1 b2 b3 b4 b5 z' p q n s ∧ Below w.heap.size w w' := by
  have c0 := fun (W : World) (hb : Below w.heap.size w W) => ints_any W E z.A0 z.d0 s.own (h.own.below hb (Nat.le_refl _)) p h.lo (by have := hs.a; have := h.lo; omega)
  have c1 := fun (W : World) (hb : Below w.heap.size w W) => ints_any W E z.A1 z.d1 s.cnt (h.cnt.below hb (Nat.le_refl _)) n h.ln (by have := hs.b; have := h.ln; omega)
  have c2 := fun (W : World) (hb : Below w.heap.size w W) => lists_any W E z.A2 z.d2 s.lq (h.lq.below hb (Nat.le_refl _)) p h.ll (by have := hs.a; have := h.lo; omega) (fun i => by have := hs.d i; omega)
  have c3 := fun (W : World) (hb : Below w.heap.size w W) => lists_any W E z.A3 z.d3 s.wq (h.wq.below hb (Nat.le_refl _)) q h.lw (by have := hs.c; have := h.lw; omega) (fun i => by have := hs.e i; omega)
  have c4 := fun (W : World) (hb : Below w.heap.size w W) => lists_any W E z.A4 z.d4 s.dq (h.dq.below hb (Nat.le_refl _)) n h.ld (by have := hs.b; have := h.ln; omega) (fun i => by have := hs.f i; omega)
  have HL := Lib.hid (⟨h.lo, h.ln, h.ll, h.lw, h.ld⟩ : _ ∧ _ ∧ _ ∧ _ ∧ _)
  have C0 := Lib.hid c0; have C1 := Lib.hid c1; have C2 := Lib.hid c2; have C3 := Lib.hid c3; have C4 := Lib.hid c4
  clear h hs c0 c1 c2 c3 c4
  go_enter Try.func48, Try.ntmps48
  obtain ⟨W0, hW0⟩ : ∃ W, W = (w.alloc (.cells (mkC z p q n) 27)).alloc (.cells zeroC 27) := ⟨_, rfl⟩
  have k0 : Blk W0 w.heap.size 27 (mkC z p q n) := by rw [hW0]; exact (Blk.new w _ _).alloc _
  have r0 : Blk W0 (w.heap.size + 1) 27 zeroC := by rw [hW0]; simpa using Blk.new (w.alloc (.cells (mkC z p q n) 27)) 27 zeroC
  have l0 : Below w.heap.size w W0 := by rw [hW0]; exact ((Below.refl _ w).alloc (Nat.le_refl _) _).alloc (by simp) _
  have z0 : W0.heap.size = w.heap.size + 1 + 1 := by rw [hW0]; simp
  obtain ⟨x0, x1, x2, x3, x4, x5, x6, x7, x8, x9⟩ := blk10 k0
  have f2 := k0.frozen 2
  have HW0 := Lib.hid hW0; have K0 := Lib.hid k0; have R0 := Lib.hid r0; have L0 := Lib.hid l0; have Z0 := Lib.hid z0
  clear hW0 k0 r0 l0 z0
  go_upto_region 1 with fail
  rw [← HW0.out]
  clear HW0
  go_wp2_with fail
  refine (C0.out W0 L0.out).mono ?_
  rintro e w1 ⟨v, rfl, hv, hb⟩
  obtain ⟨A0, d0, e0⟩ := own_form_any hv
  rw [HL.out.1] at e0
  subst e0
  have hk := K0.out.below hb K0.out.lt
  have hr := R0.out.below hb R0.out.lt
  have hl := L0.out.trans (hb.mono L0.out.size)
  have hzb := hb.size
  have hz0 := Z0.out
  obtain ⟨y0, y1, y2, y3, y4, y5, y6, y7, y8, y9⟩ := blk10 hk
  have g2 := hk.frozen 2
  obtain ⟨W1, hW1⟩ : ∃ W, W = w1.setCell ⟨w.heap.size, 2, none⟩ (.slice A0 p d0) := ⟨_, rfl⟩
  have hf : Fr (fun k => k = w.heap.size) w1 W1 := by rw [hW1]; exact fr_set _ _ _ _
  have kn : Blk W1 w.heap.size 27 #[.int .i64 0, .slice none 0 0, .slice A0 p d0, .slice z.A1 n z.d1, .slice none 0 0, .slice z.A2 p z.d2, .slice z.A3 q z.d3, .slice z.A4 n z.d4, .slice none 0 0, .slice none 0 0] := by rw [hW1]; simpa using hk.set_ 2 (.slice A0 p d0)
  have rn := hf.blk hr (by omega)
  have ln := hl.trans (hf.below hl.size (fun i hi => by omega))
  have zs := hf.size
  have B0 := W0.heap.size
  have zz0 : w.heap.size + 1 < W0.heap.size ∧ W0.heap.size ≤ w1.heap.size ∧ w1.heap.size ≤ W1.heap.size := ⟨by omega, hzb, zs⟩
  have o0n : OwnI W1 W0.heap.size (.slice A0 p d0) s.own := hf.own hv (fun k hk e => by have := (own_blk hv hk).1; omega)
  have t0n : ∀ k, (Value.slice A0 p d0).ownBlock = some k → k < w1.heap.size := fun k hk => (own_blk hv hk).2.1
  have O0 := Lib.hid o0n
  have T0 := Lib.hid t0n
  have ZZ0 := Lib.hid zz0
  have K1 := Lib.hid kn; have R1 := Lib.hid rn; have L1 := Lib.hid ln; have HW1 := Lib.hid hW1
  clear hv hb hk hr hl hzb hz0 hf kn rn ln zs B0 zz0 x0 x1 x2 x3 x4 x5 x6 x7 x8 x9 f2 hW1 K0 R0 L0 t0n o0n
  go_upto_region 2 with fail
  rw [← HW1.out]
  clear HW1 y0 y1 y2 y3 y4 y5 y6 y7 y8 y9 g2
  obtain ⟨x0, x1, x2, x3, x4, x5, x6, x7, x8, x9⟩ := blk10 K1.out
  have f3 := K1.out.frozen 3
  go_wp2_with fail
  refine (C1.out W1 L1.out).mono ?_
  rintro e w2 ⟨v, rfl, hv, hb⟩
  obtain ⟨A1, d1, e1⟩ := own_form_any hv
  rw [HL.out.2.1] at e1
  subst e1
  have hk := K1.out.below hb K1.out.lt
  have hr := R1.out.below hb R1.out.lt
  have hl := L1.out.trans (hb.mono L1.out.size)
  have hzb := hb.size
  have hz0 := Z0.out
  obtain ⟨y0, y1, y2, y3, y4, y5, y6, y7, y8, y9⟩ := blk10 hk
  have g3 := hk.frozen 3
  obtain ⟨W2, hW2⟩ : ∃ W, W = w2.setCell ⟨w.heap.size, 3, none⟩ (.slice A1 n d1) := ⟨_, rfl⟩
  have hf : Fr (fun k => k = w.heap.size) w2 W2 := by rw [hW2]; exact fr_set _ _ _ _
  have kn : Blk W2 w.heap.size 27 #[.int .i64 0, .slice none 0 0, .slice A0 p d0, .slice A1 n d1, .slice none 0 0, .slice z.A2 p z.d2, .slice z.A3 q z.d3, .slice z.A4 n z.d4, .slice none 0 0, .slice none 0 0] := by rw [hW2]; simpa using hk.set_ 3 (.slice A1 n d1)
  have rn := hf.blk hr (by omega)
  have ln := hl.trans (hf.below hl.size (fun i hi => by omega))
  have zs := hf.size
  have B1 := W1.heap.size
  have zz1 : w.heap.size + 1 < W1.heap.size ∧ W1.heap.size ≤ w2.heap.size ∧ w2.heap.size ≤ W2.heap.size := ⟨by have := ZZ0.out; omega, hzb, zs⟩
  have o0n : OwnI W2 W0.heap.size (.slice A0 p d0) s.own := hf.own (own_later O0.out hb) (fun k hk e => by have := (own_blk (own_later O0.out hb) hk).1; have := ZZ0.out; omega)
  have o1n : OwnI W2 W1.heap.size (.slice A1 n d1) s.cnt := hf.own hv (fun k hk e => by have := (own_blk hv hk).1; omega)
  have t1n : ∀ k, (Value.slice A1 n d1).ownBlock = some k → k < w2.heap.size := fun k hk => (own_blk hv hk).2.1
  clear O0
  have O0 := Lib.hid o0n
  have O1 := Lib.hid o1n
  have T1 := Lib.hid t1n
  have ZZ1 := Lib.hid zz1
  have K2 := Lib.hid kn; have R2 := Lib.hid rn; have L2 := Lib.hid ln; have HW2 := Lib.hid hW2
  clear hv hb hk hr hl hzb hz0 hf kn rn ln zs B1 zz1 x0 x1 x2 x3 x4 x5 x6 x7 x8 x9 f3 hW2 K1 R1 L1 t1n o0n o1n
  go_upto_region 3 with fail
  rw [← HW2.out]
  clear HW2 y0 y1 y2 y3 y4 y5 y6 y7 y8 y9 g3
  obtain ⟨x0, x1, x2, x3, x4, x5, x6, x7, x8, x9⟩ := blk10 K2.out
  have f5 := K2.out.frozen 5
  go_wp2_with fail
  refine (C2.out W2 L2.out).mono ?_
  rintro e w3 ⟨v, rfl, hv, hb⟩
  obtain ⟨A2, d2, e2⟩ := hv.form
  rw [HL.out.2.2.1] at e2
  subst e2
  have hk := K2.out.below hb K2.out.lt
  have hr := R2.out.below hb R2.out.lt
  have hl := L2.out.trans (hb.mono L2.out.size)
  have hzb := hb.size
  have hz0 := Z0.out
  obtain ⟨y0, y1, y2, y3, y4, y5, y6, y7, y8, y9⟩ := blk10 hk
  have g5 := hk.frozen 5
  obtain ⟨W3, hW3⟩ : ∃ W, W = w3.setCell ⟨w.heap.size, 5, none⟩ (.slice A2 p d2) := ⟨_, rfl⟩
  have hf : Fr (fun k => k = w.heap.size) w3 W3 := by rw [hW3]; exact fr_set _ _ _ _
  have kn : Blk W3 w.heap.size 27 #[.int .i64 0, .slice none 0 0, .slice A0 p d0, .slice A1 n d1, .slice none 0 0, .slice A2 p d2, .slice z.A3 q z.d3, .slice z.A4 n z.d4, .slice none 0 0, .slice none 0 0] := by rw [hW3]; simpa using hk.set_ 5 (.slice A2 p d2)
  have rn := hf.blk hr (by omega)
  have ln := hl.trans (hf.below hl.size (fun i hi => by omega))
  have zs := hf.size
  have B2 := W2.heap.size
  have zz2 : w.heap.size + 1 < W2.heap.size ∧ W2.heap.size ≤ w3.heap.size ∧ w3.heap.size ≤ W3.heap.size := ⟨by have := ZZ1.out; omega, hzb, zs⟩
  have o0n : OwnI W3 W0.heap.size (.slice A0 p d0) s.own := hf.own (own_later O0.out hb) (fun k hk e => by have := (own_blk (own_later O0.out hb) hk).1; have := ZZ0.out; omega)
  have o1n : OwnI W3 W1.heap.size (.slice A1 n d1) s.cnt := hf.own (own_later O1.out hb) (fun k hk e => by have := (own_blk (own_later O1.out hb) hk).1; have := ZZ1.out; omega)
  have o2n : OwnSS W3 W2.heap.size w3.heap.size (.slice A2 p d2) s.lq := hv.fr hf (fun k h1 h2 e => by omega)
  clear O0 O1
  have O0 := Lib.hid o0n
  have O1 := Lib.hid o1n
  have O2 := Lib.hid o2n
  have ZZ2 := Lib.hid zz2
  have K3 := Lib.hid kn; have R3 := Lib.hid rn; have L3 := Lib.hid ln; have HW3 := Lib.hid hW3
  clear hv hb hk hr hl hzb hz0 hf kn rn ln zs B2 zz2 x0 x1 x2 x3 x4 x5 x6 x7 x8 x9 f5 hW3 K2 R2 L2 o0n o1n o2n
  go_upto_region 4 with fail
  rw [← HW3.out]
  clear HW3 y0 y1 y2 y3 y4 y5 y6 y7 y8 y9 g5
  obtain ⟨x0, x1, x2, x3, x4, x5, x6, x7, x8, x9⟩ := blk10 K3.out
  have f6 := K3.out.frozen 6
  go_wp2_with fail
  refine (C3.out W3 L3.out).mono ?_
  rintro e w4 ⟨v, rfl, hv, hb⟩
  obtain ⟨A3, d3, e3⟩ := hv.form
  rw [HL.out.2.2.2.1] at e3
  subst e3
  have hk := K3.out.below hb K3.out.lt
  have hr := R3.out.below hb R3.out.lt
  have hl := L3.out.trans (hb.mono L3.out.size)
  have hzb := hb.size
  have hz0 := Z0.out
  obtain ⟨y0, y1, y2, y3, y4, y5, y6, y7, y8, y9⟩ := blk10 hk
  have g6 := hk.frozen 6
  obtain ⟨W4, hW4⟩ : ∃ W, W = w4.setCell ⟨w.heap.size, 6, none⟩ (.slice A3 q d3) := ⟨_, rfl⟩
  have hf : Fr (fun k => k = w.heap.size) w4 W4 := by rw [hW4]; exact fr_set _ _ _ _
  have kn : Blk W4 w.heap.size 27 #[.int .i64 0, .slice none 0 0, .slice A0 p d0, .slice A1 n d1, .slice none 0 0, .slice A2 p d2, .slice A3 q d3, .slice z.A4 n z.d4, .slice none 0 0, .slice none 0 0] := by rw [hW4]; simpa using hk.set_ 6 (.slice A3 q d3)
  have rn := hf.blk hr (by omega)
  have ln := hl.trans (hf.below hl.size (fun i hi => by omega))
  have zs := hf.size
  have B3 := W3.heap.size
  have zz3 : w.heap.size + 1 < W3.heap.size ∧ W3.heap.size ≤ w4.heap.size ∧ w4.heap.size ≤ W4.heap.size := ⟨by have := ZZ2.out; omega, hzb, zs⟩
  have o0n : OwnI W4 W0.heap.size (.slice A0 p d0) s.own := hf.own (own_later O0.out hb) (fun k hk e => by have := (own_blk (own_later O0.out hb) hk).1; have := ZZ0.out; omega)
  have o1n : OwnI W4 W1.heap.size (.slice A1 n d1) s.cnt := hf.own (own_later O1.out hb) (fun k hk e => by have := (own_blk (own_later O1.out hb) hk).1; have := ZZ1.out; omega)
  have o2n : OwnSS W4 W2.heap.size w3.heap.size (.slice A2 p d2) s.lq := (O2.out.fr (Fr.of_below hb) (fun k h1 h2 e => by have := ZZ2.out; omega)).fr hf (fun k h1 h2 e => by have := ZZ2.out; omega)
  have o3n : OwnSS W4 W3.heap.size w4.heap.size (.slice A3 q d3) s.wq := hv.fr hf (fun k h1 h2 e => by omega)
  clear O0 O1 O2
  have O0 := Lib.hid o0n
  have O1 := Lib.hid o1n
  have O2 := Lib.hid o2n
  have O3 := Lib.hid o3n
  have ZZ3 := Lib.hid zz3
  have K4 := Lib.hid kn; have R4 := Lib.hid rn; have L4 := Lib.hid ln; have HW4 := Lib.hid hW4
  clear hv hb hk hr hl hzb hz0 hf kn rn ln zs B3 zz3 x0 x1 x2 x3 x4 x5 x6 x7 x8 x9 f6 hW4 K3 R3 L3 o0n o1n o2n o3n
  go_upto_region 5 with fail
  rw [← HW4.out]
  clear HW4 y0 y1 y2 y3 y4 y5 y6 y7 y8 y9 g6
  obtain ⟨x0, x1, x2, x3, x4, x5, x6, x7, x8, x9⟩ := blk10 K4.out
  have f7 := K4.out.frozen 7
  go_wp2_with fail
  refine (C4.out W4 L4.out).mono ?_
  rintro e w5 ⟨v, rfl, hv, hb⟩
  obtain ⟨A4, d4, e4⟩ := hv.form
  rw [HL.out.2.2.2.2] at e4
  subst e4
  have hk := K4.out.below hb K4.out.lt
  have hr := R4.out.below hb R4.out.lt
  have hl := L4.out.trans (hb.mono L4.out.size)
  have hzb := hb.size
  have hz0 := Z0.out
  obtain ⟨y0, y1, y2, y3, y4, y5, y6, y7, y8, y9⟩ := blk10 hk
  have g7 := hk.frozen 7
  obtain ⟨W5, hW5⟩ : ∃ W, W = w5.setCell ⟨w.heap.size, 7, none⟩ (.slice A4 n d4) := ⟨_, rfl⟩
  have hf : Fr (fun k => k = w.heap.size) w5 W5 := by rw [hW5]; exact fr_set _ _ _ _
  have kn : Blk W5 w.heap.size 27 #[.int .i64 0, .slice none 0 0, .slice A0 p d0, .slice A1 n d1, .slice none 0 0, .slice A2 p d2, .slice A3 q d3, .slice A4 n d4, .slice none 0 0, .slice none 0 0] := by rw [hW5]; simpa using hk.set_ 7 (.slice A4 n d4)
  have rn := hf.blk hr (by omega)
  have ln := hl.trans (hf.below hl.size (fun i hi => by omega))
  have zs := hf.size
  have B4 := W4.heap.size
  have zz4 : w.heap.size + 1 < W4.heap.size ∧ W4.heap.size ≤ w5.heap.size ∧ w5.heap.size ≤ W5.heap.size := ⟨by have := ZZ3.out; omega, hzb, zs⟩
  have o0n : OwnI W5 W0.heap.size (.slice A0 p d0) s.own := hf.own (own_later O0.out hb) (fun k hk e => by have := (own_blk (own_later O0.out hb) hk).1; have := ZZ0.out; omega)
  have o1n : OwnI W5 W1.heap.size (.slice A1 n d1) s.cnt := hf.own (own_later O1.out hb) (fun k hk e => by have := (own_blk (own_later O1.out hb) hk).1; have := ZZ1.out; omega)
  have o2n : OwnSS W5 W2.heap.size w3.heap.size (.slice A2 p d2) s.lq := (O2.out.fr (Fr.of_below hb) (fun k h1 h2 e => by have := ZZ2.out; have := ZZ3.out; omega)).fr hf (fun k h1 h2 e => by have := ZZ2.out; omega)
  have o3n : OwnSS W5 W3.heap.size w4.heap.size (.slice A3 q d3) s.wq := (O3.out.fr (Fr.of_below hb) (fun k h1 h2 e => by have := ZZ3.out; omega)).fr hf (fun k h1 h2 e => by have := ZZ3.out; omega)
  have o4n : OwnSS W5 W4.heap.size w5.heap.size (.slice A4 n d4) s.dq := hv.fr hf (fun k h1 h2 e => by omega)
  clear O0 O1 O2 O3
  have O0 := Lib.hid o0n
  have O1 := Lib.hid o1n
  have O2 := Lib.hid o2n
  have O3 := Lib.hid o3n
  have O4 := Lib.hid o4n
  have ZZ4 := Lib.hid zz4
  have K5 := Lib.hid kn; have R5 := Lib.hid rn; have L5 := Lib.hid ln; have HW5 := Lib.hid hW5
  clear hv hb hk hr hl hzb hz0 hf kn rn ln zs B4 zz4 x0 x1 x2 x3 x4 x5 x6 x7 x8 x9 f7 hW5 K4 R4 L4 o0n o1n o2n o3n o4n
  go_upto_region 6 with fail
  rw [← HW5.out]
  clear HW5 y0 y1 y2 y3 y4 y5 y6 y7 y8 y9 g7
  obtain ⟨x0, x1, x2, x3, x4, x5, x6, x7, x8, x9⟩ := blk10 K5.out
  obtain ⟨s0, s1, s2, s3, s4, s5, s6, s7, s8, s9⟩ := blk10 R5.out
  have t0 := R5.out.frozen 0
  have t1 := R5.out.frozen 1
  have t2 := R5.out.frozen 2
  have t3 := R5.out.frozen 3
  have t4 := R5.out.frozen 4
  have t5 := R5.out.frozen 5
  have t6 := R5.out.frozen 6
  have t7 := R5.out.frozen 7
  have t8 := R5.out.frozen 8
  have t9 := R5.out.frozen 9
  have hB := R5.out.set10 (.int .i64 0) (.slice none 0 0) (.slice A0 p d0) (.slice A1 n d1) (.slice none 0 0) (.slice A2 p d2) (.slice A3 q d3) (.slice A4 n d4) (.slice none 0 0) (.slice none 0 0)
  have hF := fr_set10 W5 (w.heap.size + 1) (.int .i64 0) (.slice none 0 0) (.slice A0 p d0) (.slice A1 n d1) (.slice none 0 0) (.slice A2 p d2) (.slice A3 q d3) (.slice A4 n d4) (.slice none 0 0) (.slice none 0 0)
  have q0 := ZZ0.out; have q1 := ZZ1.out; have q2 := ZZ2.out; have q3 := ZZ3.out; have q4 := ZZ4.out
  have hd0 : DO W5 W0.heap.size W1.heap.size W2.heap.size W3.heap.size W4.heap.size w5.heap.size ⟨A0, d0, A1, d1, A2, d2, A3, d3, A4, d4⟩ p q n s := by
    refine ⟨HL.out.1, HL.out.2.1, HL.out.2.2.1, HL.out.2.2.2.1, HL.out.2.2.2.2, O0.out, fun k hk => by have := T0.out k hk; omega, O1.out, fun k hk => by have := T1.out k hk; omega, ?_, ?_, O4.out, ⟨by omega, by omega, by omega, by omega, by omega, by omega⟩⟩
    · obtain ⟨vs, a1, a2, a3, a4⟩ := O2.out
      exact ⟨vs, a1, fun k hk => by have := a2 k hk; omega, fun i l hi => by obtain ⟨x, e1, e2, e3⟩ := a3 i l hi; exact ⟨x, e1, e2, fun k hk => by have := e3 k hk; omega⟩, a4⟩
    · obtain ⟨vs, a1, a2, a3, a4⟩ := O3.out
      exact ⟨vs, a1, fun k hk => by have := a2 k hk; omega, fun i l hi => by obtain ⟨x, e1, e2, e3⟩ := a3 i l hi; exact ⟨x, e1, e2, fun k hk => by have := e3 k hk; omega⟩, a4⟩
  have hd := hd0.fr hF (fun i h1 _ e => by omega)
  have hL := L5.out.trans (hF.below L5.out.size (fun i hi => by omega))
  have HB := Lib.hid hB; have HD := Lib.hid hd; have HLL := Lib.hid hL
  have hz5 : w.heap.size + 1 < W0.heap.size := q0.1
  have HZ5 := Lib.hid hz5
  clear hB hF hd0 hd hL hz5 q0 q1 q2 q3 q4 O0 O1 O2 O3 O4 T0 T1 ZZ0 ZZ1 ZZ2 ZZ3 ZZ4 K5 R5 L5
  go_wp2_with fail
  refine bodyPost_ret (v := .agg #[.int .i64 0, .slice none 0 0, .slice A0 p d0, .slice A1 n d1, .slice none 0 0, .slice A2 p d2, .slice A3 q d3, .slice A4 n d4, .slice none 0 0, .slice none 0 0]) (results_cell_row rfl _ _ (w.heap.size + 1) 27 _ (0, 0) _ rfl HB.out Try.underlying27 rfl (by kernel_rfl)) rfl ?_
  exact ⟨⟨A0, d0, A1, d1, A2, d2, A3, d3, A4, d4⟩, _, _, _, _, _, _, rfl, HZ5.out, HD.out, HLL.out⟩
end Go.Proofs.Ytikelkfinjcgaaa
