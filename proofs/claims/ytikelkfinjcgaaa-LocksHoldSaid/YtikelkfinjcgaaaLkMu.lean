
/-
  The law's mutexes, of both: Lock, Unlock.
-/
import Derived.Test.YtikelkfinjcgaaaLkPa
import Derived.Test.YtikelkfinjcgaaaLkF
set_option linter.unusedVariables false
set_option linter.unusedSimpArgs false
namespace Go.Proofs.Ytikelkfinjcgaaa
open Go.RowKit Plain

theorem cells10_keep (W : World) (g b : Nat) (hne : b ≠ g) (c0 c1 c2 c3 c4 c5 c6 c7 c8 c9 a0 a1 a2 a3 a4 a5 a6 a7 a8 a9 : Value) (h : W.cell? ⟨b, 0, none⟩ = some c0 ∧ W.cell? ⟨b, 1, none⟩ = some c1 ∧ W.cell? ⟨b, 2, none⟩ = some c2 ∧ W.cell? ⟨b, 3, none⟩ = some c3 ∧ W.cell? ⟨b, 4, none⟩ = some c4 ∧ W.cell? ⟨b, 5, none⟩ = some c5 ∧ W.cell? ⟨b, 6, none⟩ = some c6 ∧ W.cell? ⟨b, 7, none⟩ = some c7 ∧ W.cell? ⟨b, 8, none⟩ = some c8 ∧ W.cell? ⟨b, 9, none⟩ = some c9) :
    ((((((((((W.setCell ⟨g, 0, none⟩ a0).setCell ⟨g, 1, none⟩ a1).setCell ⟨g, 2, none⟩ a2).setCell ⟨g, 3, none⟩ a3).setCell ⟨g, 4, none⟩ a4).setCell ⟨g, 5, none⟩ a5).setCell ⟨g, 6, none⟩ a6).setCell ⟨g, 7, none⟩ a7).setCell ⟨g, 8, none⟩ a8).setCell ⟨g, 9, none⟩ a9).cell? ⟨b, 0, none⟩ = some c0 ∧ ((((((((((W.setCell ⟨g, 0, none⟩ a0).setCell ⟨g, 1, none⟩ a1).setCell ⟨g, 2, none⟩ a2).setCell ⟨g, 3, none⟩ a3).setCell ⟨g, 4, none⟩ a4).setCell ⟨g, 5, none⟩ a5).setCell ⟨g, 6, none⟩ a6).setCell ⟨g, 7, none⟩ a7).setCell ⟨g, 8, none⟩ a8).setCell ⟨g, 9, none⟩ a9).cell? ⟨b, 1, none⟩ = some c1 ∧ ((((((((((W.setCell ⟨g, 0, none⟩ a0).setCell ⟨g, 1, none⟩ a1).setCell ⟨g, 2, none⟩ a2).setCell ⟨g, 3, none⟩ a3).setCell ⟨g, 4, none⟩ a4).setCell ⟨g, 5, none⟩ a5).setCell ⟨g, 6, none⟩ a6).setCell ⟨g, 7, none⟩ a7).setCell ⟨g, 8, none⟩ a8).setCell ⟨g, 9, none⟩ a9).cell? ⟨b, 2, none⟩ = some c2 ∧ ((((((((((W.setCell ⟨g, 0, none⟩ a0).setCell ⟨g, 1, none⟩ a1).setCell ⟨g, 2, none⟩ a2).setCell ⟨g, 3, none⟩ a3).setCell ⟨g, 4, none⟩ a4).setCell ⟨g, 5, none⟩ a5).setCell ⟨g, 6, none⟩ a6).setCell ⟨g, 7, none⟩ a7).setCell ⟨g, 8, none⟩ a8).setCell ⟨g, 9, none⟩ a9).cell? ⟨b, 3, none⟩ = some c3 ∧ ((((((((((W.setCell ⟨g, 0, none⟩ a0).setCell ⟨g, 1, none⟩ a1).setCell ⟨g, 2, none⟩ a2).setCell ⟨g, 3, none⟩ a3).setCell ⟨g, 4, none⟩ a4).setCell ⟨g, 5, none⟩ a5).setCell ⟨g, 6, none⟩ a6).setCell ⟨g, 7, none⟩ a7).setCell ⟨g, 8, none⟩ a8).setCell ⟨g, 9, none⟩ a9).cell? ⟨b, 4, none⟩ = some c4 ∧ ((((((((((W.setCell ⟨g, 0, none⟩ a0).setCell ⟨g, 1, none⟩ a1).setCell ⟨g, 2, none⟩ a2).setCell ⟨g, 3, none⟩ a3).setCell ⟨g, 4, none⟩ a4).setCell ⟨g, 5, none⟩ a5).setCell ⟨g, 6, none⟩ a6).setCell ⟨g, 7, none⟩ a7).setCell ⟨g, 8, none⟩ a8).setCell ⟨g, 9, none⟩ a9).cell? ⟨b, 5, none⟩ = some c5 ∧ ((((((((((W.setCell ⟨g, 0, none⟩ a0).setCell ⟨g, 1, none⟩ a1).setCell ⟨g, 2, none⟩ a2).setCell ⟨g, 3, none⟩ a3).setCell ⟨g, 4, none⟩ a4).setCell ⟨g, 5, none⟩ a5).setCell ⟨g, 6, none⟩ a6).setCell ⟨g, 7, none⟩ a7).setCell ⟨g, 8, none⟩ a8).setCell ⟨g, 9, none⟩ a9).cell? ⟨b, 6, none⟩ = some c6 ∧ ((((((((((W.setCell ⟨g, 0, none⟩ a0).setCell ⟨g, 1, none⟩ a1).setCell ⟨g, 2, none⟩ a2).setCell ⟨g, 3, none⟩ a3).setCell ⟨g, 4, none⟩ a4).setCell ⟨g, 5, none⟩ a5).setCell ⟨g, 6, none⟩ a6).setCell ⟨g, 7, none⟩ a7).setCell ⟨g, 8, none⟩ a8).setCell ⟨g, 9, none⟩ a9).cell? ⟨b, 7, none⟩ = some c7 ∧ ((((((((((W.setCell ⟨g, 0, none⟩ a0).setCell ⟨g, 1, none⟩ a1).setCell ⟨g, 2, none⟩ a2).setCell ⟨g, 3, none⟩ a3).setCell ⟨g, 4, none⟩ a4).setCell ⟨g, 5, none⟩ a5).setCell ⟨g, 6, none⟩ a6).setCell ⟨g, 7, none⟩ a7).setCell ⟨g, 8, none⟩ a8).setCell ⟨g, 9, none⟩ a9).cell? ⟨b, 8, none⟩ = some c8 ∧ ((((((((((W.setCell ⟨g, 0, none⟩ a0).setCell ⟨g, 1, none⟩ a1).setCell ⟨g, 2, none⟩ a2).setCell ⟨g, 3, none⟩ a3).setCell ⟨g, 4, none⟩ a4).setCell ⟨g, 5, none⟩ a5).setCell ⟨g, 6, none⟩ a6).setCell ⟨g, 7, none⟩ a7).setCell ⟨g, 8, none⟩ a8).setCell ⟨g, 9, none⟩ a9).cell? ⟨b, 9, none⟩ = some c9 := by
  have hF := fr_set10 W g a0 a1 a2 a3 a4 a5 a6 a7 a8 a9
  have hk : ∀ j, ((((((((((W.setCell ⟨g, 0, none⟩ a0).setCell ⟨g, 1, none⟩ a1).setCell ⟨g, 2, none⟩ a2).setCell ⟨g, 3, none⟩ a3).setCell ⟨g, 4, none⟩ a4).setCell ⟨g, 5, none⟩ a5).setCell ⟨g, 6, none⟩ a6).setCell ⟨g, 7, none⟩ a7).setCell ⟨g, 8, none⟩ a8).setCell ⟨g, 9, none⟩ a9).cell? ⟨b, j, none⟩ = W.cell? ⟨b, j, none⟩ := fun j => by
    have st : ∀ (X : World) (i : Nat) (v : Value), X.cell? ⟨b, j, none⟩ = W.cell? ⟨b, j, none⟩ → (X.setCell ⟨g, i, none⟩ v).cell? ⟨b, j, none⟩ = W.cell? ⟨b, j, none⟩ := fun X i v h => by
      rw [← h]
      exact World.cell?_setCell_other _ _ _ _ (fun e => hne (by injection e with e; exact e.symm))
    exact st _ 9 _ (st _ 8 _ (st _ 7 _ (st _ 6 _ (st _ 5 _ (st _ 4 _ (st _ 3 _ (st _ 2 _ (st _ 1 _ (st _ 0 _ rfl)))))))))
  simp only [hk]
  exact h
/-- Where rows of the document's may stand in a deed: where they stood, or behind the deed's three boxes. -/
abbrev ME (w : World) (E : Nat → Prop) : Nat → Prop := fun k => (E k ∧ k < w.heap.size) ∨ w.heap.size + 1 + 1 + 1 ≤ k
/-- The three boxes of a deed, the program's state and the document's. -/
structure MuW (w W : World) (B : Nat) (h : LkH) (E : Nat → Prop) (z : LkQ) (p q n : Nat) (s : Lk) (kind tv x : Int) : Prop where
  b5 : Blk W w.heap.size 27 (mkC z p q n)
  b6 : Blk W (w.heap.size + 1) 34 #[.int .i64 kind, .int .i64 tv, .int .i64 x]
  b8 : Blk W (w.heap.size + 1 + 1) 27 zeroC
  lk : LkM W B { h with X := fun k => h.X k ∨ k = w.heap.size + 1 + 1 } s
  dc : DocC W (fun k => E k ∧ k < w.heap.size) z p q n s
  bel : Below w.heap.size w W
  hW : ∀ k, h.W k → k < w.heap.size
  sz : w.heap.size + 1 + 1 + 1 ≤ W.heap.size
theorem MuW.new (w : World) {B : Nat} {h : LkH} {E : Nat → Prop} {z : LkQ} {p q n : Nat} {s : Lk} (kind tv x : Int) (hl : LkM w B h s) (hd : DocC w E z p q n s) :
    MuW w (((w.alloc (.cells (mkC z p q n) 27)).alloc (.cells #[.int .i64 kind, .int .i64 tv, .int .i64 x] 34)).alloc (.cells zeroC 27)) B h E z p q n s kind tv x := by
  have h5 := (Blk.new (w.alloc (.cells (mkC z p q n) 27)) 34 #[.int .i64 kind, .int .i64 tv, .int .i64 x]).alloc (.cells zeroC 27)
  have h6 := Blk.new ((w.alloc (.cells (mkC z p q n) 27)).alloc (.cells #[.int .i64 kind, .int .i64 tv, .int .i64 x] 34)) 27 zeroC
  simp only [World.size_alloc] at h5 h6
  have hb : Below w.heap.size w (((w.alloc (.cells (mkC z p q n) 27)).alloc (.cells #[.int .i64 kind, .int .i64 tv, .int .i64 x] 34)).alloc (.cells zeroC 27)) := (((Below.refl _ _).alloc (Nat.le_refl _) _).alloc (by simp) _).alloc (by simp; omega) _
  exact ⟨((Blk.new w _ _).alloc _).alloc _, h5, h6, hl.addX hb (X' := fun k => k = w.heap.size + 1 + 1) (fun k hk => ⟨by omega, by simp; omega⟩), (hd.mono (E' := fun k => E k ∧ k < w.heap.size) (fun k h1 h2 => ⟨h1, h2⟩)).below hb (Nat.le_refl _), hb, fun k hk => (hl.wlt hk).2.1, by simp⟩
/-- What a deed leaves. -/
def MuPost (w : World) (B : Nat) (h : LkH) (E : Nat → Prop) (p q n : Nat) (s : Lk) (e : Ending) (w' : World) : Prop :=
  ∃ z : LkQ, e = .returned (.tuple #[.agg (mkC z p q n), .bool true]) ∧ LkM w' B h s ∧ DocC w' (EW w E) z p q n s ∧ Fr h.W w w'
theorem mu_end {w W : World} {B : Nat} {h : LkH} {E : Nat → Prop} {z : LkQ} {p q n : Nat} {s : Lk} (k8 : Blk W (w.heap.size + 1 + 1) 27 zeroC) (hl : LkM W B { h with X := fun k => h.X k ∨ k = w.heap.size + 1 + 1 } s) (hd : DocC W (ME w E) z p q n s) (hf : Fr h.W w W) (hg : h.g < w.heap.size) (hW : ∀ k, h.W k → k < w.heap.size) :
    MuPost w B h E p q n s (.returned (.tuple #[.agg (mkC z p q n), .bool true])) ((((((((((W.setCell ⟨w.heap.size + 1 + 1, 0, none⟩ (.int .i64 0)).setCell ⟨w.heap.size + 1 + 1, 1, none⟩ (.slice none 0 0)).setCell ⟨w.heap.size + 1 + 1, 2, none⟩ (.slice z.A0 p z.d0)).setCell ⟨w.heap.size + 1 + 1, 3, none⟩ (.slice z.A1 n z.d1)).setCell ⟨w.heap.size + 1 + 1, 4, none⟩ (.slice none 0 0)).setCell ⟨w.heap.size + 1 + 1, 5, none⟩ (.slice z.A2 p z.d2)).setCell ⟨w.heap.size + 1 + 1, 6, none⟩ (.slice z.A3 q z.d3)).setCell ⟨w.heap.size + 1 + 1, 7, none⟩ (.slice z.A4 n z.d4)).setCell ⟨w.heap.size + 1 + 1, 8, none⟩ (.slice none 0 0)).setCell ⟨w.heap.size + 1 + 1, 9, none⟩ (.slice none 0 0)) ∧ Blk ((((((((((W.setCell ⟨w.heap.size + 1 + 1, 0, none⟩ (.int .i64 0)).setCell ⟨w.heap.size + 1 + 1, 1, none⟩ (.slice none 0 0)).setCell ⟨w.heap.size + 1 + 1, 2, none⟩ (.slice z.A0 p z.d0)).setCell ⟨w.heap.size + 1 + 1, 3, none⟩ (.slice z.A1 n z.d1)).setCell ⟨w.heap.size + 1 + 1, 4, none⟩ (.slice none 0 0)).setCell ⟨w.heap.size + 1 + 1, 5, none⟩ (.slice z.A2 p z.d2)).setCell ⟨w.heap.size + 1 + 1, 6, none⟩ (.slice z.A3 q z.d3)).setCell ⟨w.heap.size + 1 + 1, 7, none⟩ (.slice z.A4 n z.d4)).setCell ⟨w.heap.size + 1 + 1, 8, none⟩ (.slice none 0 0)).setCell ⟨w.heap.size + 1 + 1, 9, none⟩ (.slice none 0 0)) (w.heap.size + 1 + 1) 27 (mkC z p q n) := by
  have hs := fr_set10 W (w.heap.size + 1 + 1) (.int .i64 0) (.slice none 0 0) (.slice z.A0 p z.d0) (.slice z.A1 n z.d1) (.slice none 0 0) (.slice z.A2 p z.d2) (.slice z.A3 q z.d3) (.slice z.A4 n z.d4) (.slice none 0 0) (.slice none 0 0)
  have hb := k8.set10 (.int .i64 0) (.slice none 0 0) (.slice z.A0 p z.d0) (.slice z.A1 n z.d1) (.slice none 0 0) (.slice z.A2 p z.d2) (.slice z.A3 q z.d3) (.slice z.A4 n z.d4) (.slice none 0 0) (.slice none 0 0)
  refine ⟨⟨z, rfl, ?_, (hd.fr hs (fun i hi _ e => ?_)).mono (fun k hk _ => ?_), hf.trans hs (fun i hi e => by omega)⟩, hb⟩
  · exact (hl.frX hs (fun k e => ⟨.inr e, fun hk => by have := hW k hk; omega, by show k ≠ h.g; omega⟩)).dropX (X' := h.X) (fun k hk => .inl hk)
  · rcases hi with hi | hi <;> omega
  · rcases hk with hk | hk
    · exact .inl hk
    · exact .inr (by omega)
set_option maxRecDepth 100000 in
set_option maxHeartbeats 8000000 in
theorem mutexes_lock (w : World) (B : Nat) (h : LkH) (E : Nat → Prop) (z : LkQ) (p q n : Nat) (s : Lk) (tv x t : Int) (hl : LkM w B h s) (hd : DocC w E z p q n s) {K : Nat} (O : LkOk K s) (hK : K ≤ 100000) (hE : ∀ k, E k → k < w.heap.size → ¬ h.W k) (hx1 : -9223372036854775808 ≤ x) (hx2 : x ≤ 9223372036854775807) (ht : 0 ≤ t) (ht2 : t ≤ 1000000) (hp : 0 < p) (hp2 : p ≤ 8) (m : Nat) (hmx : aroundV x p = (m : Int)) (s2 : Lk) (bv : Bool) (hsb : lockV s m t = (s2, bv)):
    Calls Try.prog 25 #[.pointer (some ⟨h.g, 0, none⟩), .agg (mkC z p q n), .agg #[.int .i64 0, .int .i64 tv, .int .i64 x], .int .i64 t] w (MuPost w B h E p q n s2) := by
  have hdw := MuW.new w 0 tv x hl hd
  obtain ⟨W3, hW3⟩ : ∃ W, W = (((w.alloc (.cells (mkC z p q n) 27)).alloc (.cells #[.int .i64 0, .int .i64 tv, .int .i64 x] 34)).alloc (.cells zeroC 27)) := ⟨_, rfl⟩
  rw [← hW3] at hdw
  have hgb := hl.box.lt
  have hlo := hd.lo; have hll := hd.ll; have hlw := hd.lw
  have HDW := Lib.hid hdw; have HW3 := Lib.hid hW3; have HGB := Lib.hid hgb
  have hp0 : (0 : Int) < (p : Int) := by omega
  have hmm := aroundV_lt (n := x) hp0
  rw [hmx] at hmm
  have hm : m < p := by omega
  have har := fun W => around_any x p W hx1 hx2 hp0 (by omega)
  rw [hmx] at har
  have HAR := Lib.hid har
  obtain ⟨x0, x1, x2, x3, x4, x5, x6, x7, x8, x9⟩ := blk10 hdw.b5
  have d0 : W3.cell? ⟨w.heap.size + 1, 0, none⟩ = some (.int .i64 0) := (hdw.b6.cell 0).trans rfl
  have d1 : W3.cell? ⟨w.heap.size + 1, 1, none⟩ = some (.int .i64 tv) := (hdw.b6.cell 1).trans rfl
  have d2 : W3.cell? ⟨w.heap.size + 1, 2, none⟩ = some (.int .i64 x) := (hdw.b6.cell 2).trans rfl
  clear hl hd hdw hW3 hgb hmm har hlo hll hlw
  go_enter Try.func25, Try.ntmps25
  go_upto_region 1 with fail
  rw [← HW3.out]
  clear HW3
  go_wp2_with fail
  refine (HAR.out _).mono ?_
  rintro e w4 ⟨rfl, rfl⟩
  clear HAR
  have hlo := HDW.out.dc.lo
  have hmo : m < s.own.length := by omega
  have hmn : -1 ≤ gn s.own m := (O.own _ (gn_mem hmo)).1
  have hc : ∀ W, LkM W B { h with X := fun k => h.X k ∨ k = w.heap.size + 1 + 1 } s → Calls Try.prog 16 #[.pointer (some ⟨h.g, 0, none⟩), .int .i64 (m : Int), .int .i64 t] W (fun e w' => e = .returned (.bool (lockV s m t).2) ∧ LkM w' B { h with X := fun k => h.X k ∨ k = w.heap.size + 1 + 1 } ((lockV s m t).1) ∧ Fr h.W W w') := fun W hl => lock_any hl O (by omega) m hmo t ht
  have hdb : ∀ k, (ME w E) k → k < w.heap.size + 1 + 1 + 1 ∨ w.heap.size + 1 + 1 + 1 ≤ k → ¬ h.W k := fun k hk _ e => by
    have := HDW.out.hW k e
    rcases hk with hk | hk
    · exact hE k hk.1 hk.2 e
    · omega
  have HC := Lib.hid hc; have HDB := Lib.hid hdb
  clear hc hdb
  have hdoc := docLock W3 _ z p q n s HDW.out.dc (SzL.of O hK) m hm t hmn
  rw [hsb] at hdoc HC
  have HDC := Lib.hid hdoc
  clear hdoc hmn hmo hlo hsb O hE
  go_wp2_with fail
  refine (HDC.out).mono ?_
  rintro e w4 ⟨z', rfl, hd4, hb⟩
  have zb := hb.size
  obtain ⟨nb, hnb⟩ : ∃ b, b = w4.heap.size := ⟨_, rfl⟩
  have hsz := HDW.out.sz
  have hb5 := Blk.new w4 27 (mkC z' p q n)
  have hb6 := (HDW.out.b6.below hb (by omega)).alloc (.cells (mkC z' p q n) 27)
  have hb8 := (HDW.out.b8.below hb (by omega)).alloc (.cells (mkC z' p q n) 27)
  have hl4 := (HDW.out.lk.below hb (Nat.le_refl _)).alloc (.cells (mkC z' p q n) 27)
  have hd5 : DocC (w4.alloc (.cells (mkC z' p q n) 27)) (ME w E) z' p q n s2 := (hd4.mono (E' := ME w E) (fun k hk _ => by rcases hk with hk | hk; exact .inl hk.1; exact .inr (by omega))).below ((Below.refl _ w4).alloc (Nat.le_refl _) _) (Nat.le_refl _)
  have hbel := (HDW.out.bel.trans (hb.mono (by omega))).alloc (by omega) (.cells (mkC z' p q n) 27)
  obtain ⟨W5, hW5⟩ : ∃ W, W = w4.alloc (.cells (mkC z' p q n) 27) := ⟨_, rfl⟩
  rw [← hW5] at hb5 hb6 hb8 hl4 hd5 hbel
  rw [← hnb] at hb5
  have H5 := Lib.hid hb5; have H6 := Lib.hid hb6; have H8 := Lib.hid hb8; have HL := Lib.hid hl4; have HD := Lib.hid hd5; have HBEL := Lib.hid hbel; have HW5 := Lib.hid hW5; have HNB := Lib.hid hnb; have HW := Lib.hid HDW.out.hW
  have zn : w.heap.size + 1 + 1 < nb := by omega
  have zn5 := hb5.lt
  clear x0 x1 x2 x3 x4 x5 x6 x7 x8 x9 d0 d1 d2 hb5 hb6 hb8 hl4 hd4 hd5 hbel hb hW5 hnb hsz HDW zb
  go_upto_region 4 with fail
  rw [← HW5.out, ← HNB.out]
  clear HW5 HNB
  have n0 : W5.cell? ⟨nb, 0, none⟩ = some (.int .i64 0) := (H5.out.cell 0).trans rfl
  have n1 : W5.cell? ⟨nb, 1, none⟩ = some (.slice none 0 0) := (H5.out.cell 1).trans rfl
  have n2 : W5.cell? ⟨nb, 2, none⟩ = some (.slice z'.A0 p z'.d0) := (H5.out.cell 2).trans rfl
  have n3 : W5.cell? ⟨nb, 3, none⟩ = some (.slice z'.A1 n z'.d1) := (H5.out.cell 3).trans rfl
  have n4 : W5.cell? ⟨nb, 4, none⟩ = some (.slice none 0 0) := (H5.out.cell 4).trans rfl
  have n5 : W5.cell? ⟨nb, 5, none⟩ = some (.slice z'.A2 p z'.d2) := (H5.out.cell 5).trans rfl
  have n6 : W5.cell? ⟨nb, 6, none⟩ = some (.slice z'.A3 q z'.d3) := (H5.out.cell 6).trans rfl
  have n7 : W5.cell? ⟨nb, 7, none⟩ = some (.slice z'.A4 n z'.d4) := (H5.out.cell 7).trans rfl
  have n8 : W5.cell? ⟨nb, 8, none⟩ = some (.slice none 0 0) := (H5.out.cell 8).trans rfl
  have n9 : W5.cell? ⟨nb, 9, none⟩ = some (.slice none 0 0) := (H5.out.cell 9).trans rfl
  have d0 : W5.cell? ⟨w.heap.size + 1, 0, none⟩ = some (.int .i64 0) := (H6.out.cell 0).trans rfl
  have d1 : W5.cell? ⟨w.heap.size + 1, 1, none⟩ = some (.int .i64 tv) := (H6.out.cell 1).trans rfl
  have d2 : W5.cell? ⟨w.heap.size + 1, 2, none⟩ = some (.int .i64 x) := (H6.out.cell 2).trans rfl
  have hks : ∀ W : World, (W.cell? ⟨nb, 0, none⟩ = some (.int .i64 0) ∧ W.cell? ⟨nb, 1, none⟩ = some (.slice none 0 0) ∧ W.cell? ⟨nb, 2, none⟩ = some (.slice z'.A0 p z'.d0) ∧ W.cell? ⟨nb, 3, none⟩ = some (.slice z'.A1 n z'.d1) ∧ W.cell? ⟨nb, 4, none⟩ = some (.slice none 0 0) ∧ W.cell? ⟨nb, 5, none⟩ = some (.slice z'.A2 p z'.d2) ∧ W.cell? ⟨nb, 6, none⟩ = some (.slice z'.A3 q z'.d3) ∧ W.cell? ⟨nb, 7, none⟩ = some (.slice z'.A4 n z'.d4) ∧ W.cell? ⟨nb, 8, none⟩ = some (.slice none 0 0) ∧ W.cell? ⟨nb, 9, none⟩ = some (.slice none 0 0)) → ((((((((((W.setCell ⟨w.heap.size + 1 + 1, 0, none⟩ (.int .i64 0)).setCell ⟨w.heap.size + 1 + 1, 1, none⟩ (.slice none 0 0)).setCell ⟨w.heap.size + 1 + 1, 2, none⟩ (.slice z'.A0 p z'.d0)).setCell ⟨w.heap.size + 1 + 1, 3, none⟩ (.slice z'.A1 n z'.d1)).setCell ⟨w.heap.size + 1 + 1, 4, none⟩ (.slice none 0 0)).setCell ⟨w.heap.size + 1 + 1, 5, none⟩ (.slice z'.A2 p z'.d2)).setCell ⟨w.heap.size + 1 + 1, 6, none⟩ (.slice z'.A3 q z'.d3)).setCell ⟨w.heap.size + 1 + 1, 7, none⟩ (.slice z'.A4 n z'.d4)).setCell ⟨w.heap.size + 1 + 1, 8, none⟩ (.slice none 0 0)).setCell ⟨w.heap.size + 1 + 1, 9, none⟩ (.slice none 0 0)).cell? ⟨nb, 0, none⟩ = some (.int .i64 0) ∧ ((((((((((W.setCell ⟨w.heap.size + 1 + 1, 0, none⟩ (.int .i64 0)).setCell ⟨w.heap.size + 1 + 1, 1, none⟩ (.slice none 0 0)).setCell ⟨w.heap.size + 1 + 1, 2, none⟩ (.slice z'.A0 p z'.d0)).setCell ⟨w.heap.size + 1 + 1, 3, none⟩ (.slice z'.A1 n z'.d1)).setCell ⟨w.heap.size + 1 + 1, 4, none⟩ (.slice none 0 0)).setCell ⟨w.heap.size + 1 + 1, 5, none⟩ (.slice z'.A2 p z'.d2)).setCell ⟨w.heap.size + 1 + 1, 6, none⟩ (.slice z'.A3 q z'.d3)).setCell ⟨w.heap.size + 1 + 1, 7, none⟩ (.slice z'.A4 n z'.d4)).setCell ⟨w.heap.size + 1 + 1, 8, none⟩ (.slice none 0 0)).setCell ⟨w.heap.size + 1 + 1, 9, none⟩ (.slice none 0 0)).cell? ⟨nb, 1, none⟩ = some (.slice none 0 0) ∧ ((((((((((W.setCell ⟨w.heap.size + 1 + 1, 0, none⟩ (.int .i64 0)).setCell ⟨w.heap.size + 1 + 1, 1, none⟩ (.slice none 0 0)).setCell ⟨w.heap.size + 1 + 1, 2, none⟩ (.slice z'.A0 p z'.d0)).setCell ⟨w.heap.size + 1 + 1, 3, none⟩ (.slice z'.A1 n z'.d1)).setCell ⟨w.heap.size + 1 + 1, 4, none⟩ (.slice none 0 0)).setCell ⟨w.heap.size + 1 + 1, 5, none⟩ (.slice z'.A2 p z'.d2)).setCell ⟨w.heap.size + 1 + 1, 6, none⟩ (.slice z'.A3 q z'.d3)).setCell ⟨w.heap.size + 1 + 1, 7, none⟩ (.slice z'.A4 n z'.d4)).setCell ⟨w.heap.size + 1 + 1, 8, none⟩ (.slice none 0 0)).setCell ⟨w.heap.size + 1 + 1, 9, none⟩ (.slice none 0 0)).cell? ⟨nb, 2, none⟩ = some (.slice z'.A0 p z'.d0) ∧ ((((((((((W.setCell ⟨w.heap.size + 1 + 1, 0, none⟩ (.int .i64 0)).setCell ⟨w.heap.size + 1 + 1, 1, none⟩ (.slice none 0 0)).setCell ⟨w.heap.size + 1 + 1, 2, none⟩ (.slice z'.A0 p z'.d0)).setCell ⟨w.heap.size + 1 + 1, 3, none⟩ (.slice z'.A1 n z'.d1)).setCell ⟨w.heap.size + 1 + 1, 4, none⟩ (.slice none 0 0)).setCell ⟨w.heap.size + 1 + 1, 5, none⟩ (.slice z'.A2 p z'.d2)).setCell ⟨w.heap.size + 1 + 1, 6, none⟩ (.slice z'.A3 q z'.d3)).setCell ⟨w.heap.size + 1 + 1, 7, none⟩ (.slice z'.A4 n z'.d4)).setCell ⟨w.heap.size + 1 + 1, 8, none⟩ (.slice none 0 0)).setCell ⟨w.heap.size + 1 + 1, 9, none⟩ (.slice none 0 0)).cell? ⟨nb, 3, none⟩ = some (.slice z'.A1 n z'.d1) ∧ ((((((((((W.setCell ⟨w.heap.size + 1 + 1, 0, none⟩ (.int .i64 0)).setCell ⟨w.heap.size + 1 + 1, 1, none⟩ (.slice none 0 0)).setCell ⟨w.heap.size + 1 + 1, 2, none⟩ (.slice z'.A0 p z'.d0)).setCell ⟨w.heap.size + 1 + 1, 3, none⟩ (.slice z'.A1 n z'.d1)).setCell ⟨w.heap.size + 1 + 1, 4, none⟩ (.slice none 0 0)).setCell ⟨w.heap.size + 1 + 1, 5, none⟩ (.slice z'.A2 p z'.d2)).setCell ⟨w.heap.size + 1 + 1, 6, none⟩ (.slice z'.A3 q z'.d3)).setCell ⟨w.heap.size + 1 + 1, 7, none⟩ (.slice z'.A4 n z'.d4)).setCell ⟨w.heap.size + 1 + 1, 8, none⟩ (.slice none 0 0)).setCell ⟨w.heap.size + 1 + 1, 9, none⟩ (.slice none 0 0)).cell? ⟨nb, 4, none⟩ = some (.slice none 0 0) ∧ ((((((((((W.setCell ⟨w.heap.size + 1 + 1, 0, none⟩ (.int .i64 0)).setCell ⟨w.heap.size + 1 + 1, 1, none⟩ (.slice none 0 0)).setCell ⟨w.heap.size + 1 + 1, 2, none⟩ (.slice z'.A0 p z'.d0)).setCell ⟨w.heap.size + 1 + 1, 3, none⟩ (.slice z'.A1 n z'.d1)).setCell ⟨w.heap.size + 1 + 1, 4, none⟩ (.slice none 0 0)).setCell ⟨w.heap.size + 1 + 1, 5, none⟩ (.slice z'.A2 p z'.d2)).setCell ⟨w.heap.size + 1 + 1, 6, none⟩ (.slice z'.A3 q z'.d3)).setCell ⟨w.heap.size + 1 + 1, 7, none⟩ (.slice z'.A4 n z'.d4)).setCell ⟨w.heap.size + 1 + 1, 8, none⟩ (.slice none 0 0)).setCell ⟨w.heap.size + 1 + 1, 9, none⟩ (.slice none 0 0)).cell? ⟨nb, 5, none⟩ = some (.slice z'.A2 p z'.d2) ∧ ((((((((((W.setCell ⟨w.heap.size + 1 + 1, 0, none⟩ (.int .i64 0)).setCell ⟨w.heap.size + 1 + 1, 1, none⟩ (.slice none 0 0)).setCell ⟨w.heap.size + 1 + 1, 2, none⟩ (.slice z'.A0 p z'.d0)).setCell ⟨w.heap.size + 1 + 1, 3, none⟩ (.slice z'.A1 n z'.d1)).setCell ⟨w.heap.size + 1 + 1, 4, none⟩ (.slice none 0 0)).setCell ⟨w.heap.size + 1 + 1, 5, none⟩ (.slice z'.A2 p z'.d2)).setCell ⟨w.heap.size + 1 + 1, 6, none⟩ (.slice z'.A3 q z'.d3)).setCell ⟨w.heap.size + 1 + 1, 7, none⟩ (.slice z'.A4 n z'.d4)).setCell ⟨w.heap.size + 1 + 1, 8, none⟩ (.slice none 0 0)).setCell ⟨w.heap.size + 1 + 1, 9, none⟩ (.slice none 0 0)).cell? ⟨nb, 6, none⟩ = some (.slice z'.A3 q z'.d3) ∧ ((((((((((W.setCell ⟨w.heap.size + 1 + 1, 0, none⟩ (.int .i64 0)).setCell ⟨w.heap.size + 1 + 1, 1, none⟩ (.slice none 0 0)).setCell ⟨w.heap.size + 1 + 1, 2, none⟩ (.slice z'.A0 p z'.d0)).setCell ⟨w.heap.size + 1 + 1, 3, none⟩ (.slice z'.A1 n z'.d1)).setCell ⟨w.heap.size + 1 + 1, 4, none⟩ (.slice none 0 0)).setCell ⟨w.heap.size + 1 + 1, 5, none⟩ (.slice z'.A2 p z'.d2)).setCell ⟨w.heap.size + 1 + 1, 6, none⟩ (.slice z'.A3 q z'.d3)).setCell ⟨w.heap.size + 1 + 1, 7, none⟩ (.slice z'.A4 n z'.d4)).setCell ⟨w.heap.size + 1 + 1, 8, none⟩ (.slice none 0 0)).setCell ⟨w.heap.size + 1 + 1, 9, none⟩ (.slice none 0 0)).cell? ⟨nb, 7, none⟩ = some (.slice z'.A4 n z'.d4) ∧ ((((((((((W.setCell ⟨w.heap.size + 1 + 1, 0, none⟩ (.int .i64 0)).setCell ⟨w.heap.size + 1 + 1, 1, none⟩ (.slice none 0 0)).setCell ⟨w.heap.size + 1 + 1, 2, none⟩ (.slice z'.A0 p z'.d0)).setCell ⟨w.heap.size + 1 + 1, 3, none⟩ (.slice z'.A1 n z'.d1)).setCell ⟨w.heap.size + 1 + 1, 4, none⟩ (.slice none 0 0)).setCell ⟨w.heap.size + 1 + 1, 5, none⟩ (.slice z'.A2 p z'.d2)).setCell ⟨w.heap.size + 1 + 1, 6, none⟩ (.slice z'.A3 q z'.d3)).setCell ⟨w.heap.size + 1 + 1, 7, none⟩ (.slice z'.A4 n z'.d4)).setCell ⟨w.heap.size + 1 + 1, 8, none⟩ (.slice none 0 0)).setCell ⟨w.heap.size + 1 + 1, 9, none⟩ (.slice none 0 0)).cell? ⟨nb, 8, none⟩ = some (.slice none 0 0) ∧ ((((((((((W.setCell ⟨w.heap.size + 1 + 1, 0, none⟩ (.int .i64 0)).setCell ⟨w.heap.size + 1 + 1, 1, none⟩ (.slice none 0 0)).setCell ⟨w.heap.size + 1 + 1, 2, none⟩ (.slice z'.A0 p z'.d0)).setCell ⟨w.heap.size + 1 + 1, 3, none⟩ (.slice z'.A1 n z'.d1)).setCell ⟨w.heap.size + 1 + 1, 4, none⟩ (.slice none 0 0)).setCell ⟨w.heap.size + 1 + 1, 5, none⟩ (.slice z'.A2 p z'.d2)).setCell ⟨w.heap.size + 1 + 1, 6, none⟩ (.slice z'.A3 q z'.d3)).setCell ⟨w.heap.size + 1 + 1, 7, none⟩ (.slice z'.A4 n z'.d4)).setCell ⟨w.heap.size + 1 + 1, 8, none⟩ (.slice none 0 0)).setCell ⟨w.heap.size + 1 + 1, 9, none⟩ (.slice none 0 0)).cell? ⟨nb, 9, none⟩ = some (.slice none 0 0) := fun W h9 => cells10_keep W (w.heap.size + 1 + 1) nb (by omega) _ _ _ _ _ _ _ _ _ _ _ _ _ _ _ _ _ _ _ _ h9
  have KS := Lib.hid hks
  clear hks
  have hc5 := HC.out W5.drew (HL.out.drewN 1)
  have HC5 := Lib.hid hc5
  clear hc5 HC
  go_region_held3 (fun w' => w'.cell? ⟨nb, 0, none⟩ = some (.int .i64 0) ∧ w'.cell? ⟨nb, 1, none⟩ = some (.slice none 0 0) ∧ w'.cell? ⟨nb, 2, none⟩ = some (.slice z'.A0 p z'.d0) ∧ w'.cell? ⟨nb, 3, none⟩ = some (.slice z'.A1 n z'.d1) ∧ w'.cell? ⟨nb, 4, none⟩ = some (.slice none 0 0) ∧ w'.cell? ⟨nb, 5, none⟩ = some (.slice z'.A2 p z'.d2) ∧ w'.cell? ⟨nb, 6, none⟩ = some (.slice z'.A3 q z'.d3) ∧ w'.cell? ⟨nb, 7, none⟩ = some (.slice z'.A4 n z'.d4) ∧ w'.cell? ⟨nb, 8, none⟩ = some (.slice none 0 0) ∧ w'.cell? ⟨nb, 9, none⟩ = some (.slice none 0 0))
    (first | with_reducible exact ⟨n0, n1, n2, n3, n4, n5, n6, n7, n8, n9⟩ | with_reducible exact ⟨m0, m1, m2, m3, m4, m5, m6, m7, m8, m9⟩ | with_reducible exact KS.out _ ⟨m0, m1, m2, m3, m4, m5, m6, m7, m8, m9⟩ | go_keep)
    ((go_simp; with_reducible refine (HC5.out).mono ?_
      rintro e w6 ⟨rfl, hq, hf⟩
      have k5 := hf.blk H5.out (fun e => by have := HW.out _ e; omega)
      have k8 := hf.blk H8.out (fun e => by have := HW.out _ e; omega)
      have m0 : w6.cell? ⟨nb, 0, none⟩ = some (.int .i64 0) := (k5.cell 0).trans rfl
      have m1 : w6.cell? ⟨nb, 1, none⟩ = some (.slice none 0 0) := (k5.cell 1).trans rfl
      have m2 : w6.cell? ⟨nb, 2, none⟩ = some (.slice z'.A0 p z'.d0) := (k5.cell 2).trans rfl
      have m3 : w6.cell? ⟨nb, 3, none⟩ = some (.slice z'.A1 n z'.d1) := (k5.cell 3).trans rfl
      have m4 : w6.cell? ⟨nb, 4, none⟩ = some (.slice none 0 0) := (k5.cell 4).trans rfl
      have m5 : w6.cell? ⟨nb, 5, none⟩ = some (.slice z'.A2 p z'.d2) := (k5.cell 5).trans rfl
      have m6 : w6.cell? ⟨nb, 6, none⟩ = some (.slice z'.A3 q z'.d3) := (k5.cell 6).trans rfl
      have m7 : w6.cell? ⟨nb, 7, none⟩ = some (.slice z'.A4 n z'.d4) := (k5.cell 7).trans rfl
      have m8 : w6.cell? ⟨nb, 8, none⟩ = some (.slice none 0 0) := (k5.cell 8).trans rfl
      have m9 : w6.cell? ⟨nb, 9, none⟩ = some (.slice none 0 0) := (k5.cell 9).trans rfl
      have t0 : w6.cell? ⟨w.heap.size + 1 + 1, 0, none⟩ = some (.int .i64 0) := (k8.cell 0).trans rfl
      have u0 : w6.frozen? ⟨w.heap.size + 1 + 1, 0, none⟩ = false := k8.frozen 0
      have t1 : w6.cell? ⟨w.heap.size + 1 + 1, 1, none⟩ = some (.slice none 0 0) := (k8.cell 1).trans rfl
      have u1 : w6.frozen? ⟨w.heap.size + 1 + 1, 1, none⟩ = false := k8.frozen 1
      have t2 : w6.cell? ⟨w.heap.size + 1 + 1, 2, none⟩ = some (.slice none 0 0) := (k8.cell 2).trans rfl
      have u2 : w6.frozen? ⟨w.heap.size + 1 + 1, 2, none⟩ = false := k8.frozen 2
      have t3 : w6.cell? ⟨w.heap.size + 1 + 1, 3, none⟩ = some (.slice none 0 0) := (k8.cell 3).trans rfl
      have u3 : w6.frozen? ⟨w.heap.size + 1 + 1, 3, none⟩ = false := k8.frozen 3
      have t4 : w6.cell? ⟨w.heap.size + 1 + 1, 4, none⟩ = some (.slice none 0 0) := (k8.cell 4).trans rfl
      have u4 : w6.frozen? ⟨w.heap.size + 1 + 1, 4, none⟩ = false := k8.frozen 4
      have t5 : w6.cell? ⟨w.heap.size + 1 + 1, 5, none⟩ = some (.slice none 0 0) := (k8.cell 5).trans rfl
      have u5 : w6.frozen? ⟨w.heap.size + 1 + 1, 5, none⟩ = false := k8.frozen 5
      have t6 : w6.cell? ⟨w.heap.size + 1 + 1, 6, none⟩ = some (.slice none 0 0) := (k8.cell 6).trans rfl
      have u6 : w6.frozen? ⟨w.heap.size + 1 + 1, 6, none⟩ = false := k8.frozen 6
      have t7 : w6.cell? ⟨w.heap.size + 1 + 1, 7, none⟩ = some (.slice none 0 0) := (k8.cell 7).trans rfl
      have u7 : w6.frozen? ⟨w.heap.size + 1 + 1, 7, none⟩ = false := k8.frozen 7
      have t8 : w6.cell? ⟨w.heap.size + 1 + 1, 8, none⟩ = some (.slice none 0 0) := (k8.cell 8).trans rfl
      have u8 : w6.frozen? ⟨w.heap.size + 1 + 1, 8, none⟩ = false := k8.frozen 8
      have t9 : w6.cell? ⟨w.heap.size + 1 + 1, 9, none⟩ = some (.slice none 0 0) := (k8.cell 9).trans rfl
      have u9 : w6.frozen? ⟨w.heap.size + 1 + 1, 9, none⟩ = false := k8.frozen 9
      skip))
  all_goals
    clear n0 n1 n2 n3 n4 n5 n6 n7 n8 n9 m0 m1 m2 m3 m4 m5 m6 m7 m8 m9 d0 d1 d2
    go_wp2_with fail
    have hE := mu_end (E := E) k8 hq ((HD.out.drewN 1).fr hf (fun i hi _ e => HDB.out i hi (by omega) e)) ((((Fr.of_below HBEL.out).mono (S := h.W) (fun i hi e => by omega)).drewN 1).trans hf (fun i _ e => e)) HGB.out HW.out
    refine bodyPost_ret (v := .tuple #[.agg (mkC z' p q n), .bool true]) (res9_1 rfl _ _ (w.heap.size + 1 + 1) 27 _ (0, 0) _ _ rfl rfl hE.2 Try.underlying27 rfl (by kernel_rfl)) rfl hE.1
set_option maxRecDepth 100000 in
set_option maxHeartbeats 8000000 in
theorem mutexes_unlock (w : World) (B : Nat) (h : LkH) (E : Nat → Prop) (z : LkQ) (p q n : Nat) (s : Lk) (tv x t : Int) (hl : LkM w B h s) (hd : DocC w E z p q n s) {K : Nat} (O : LkOk K s) (hK : K ≤ 100000) (hE : ∀ k, E k → k < w.heap.size → ¬ h.W k) (hx1 : -9223372036854775808 ≤ x) (hx2 : x ≤ 9223372036854775807) (ht : 0 ≤ t) (ht2 : t ≤ 1000000) (hp : 0 < p) (hp2 : p ≤ 8) (m : Nat) (hmx : aroundV x p = (m : Int)) (s2 : Lk) (a1 a2 : Int) (hsb : unlockV s m t = (s2, a1, a2)):
    Calls Try.prog 25 #[.pointer (some ⟨h.g, 0, none⟩), .agg (mkC z p q n), .agg #[.int .i64 1, .int .i64 tv, .int .i64 x], .int .i64 t] w (MuPost w B h E p q n s2) := by
  have hdw := MuW.new w 1 tv x hl hd
  obtain ⟨W3, hW3⟩ : ∃ W, W = (((w.alloc (.cells (mkC z p q n) 27)).alloc (.cells #[.int .i64 1, .int .i64 tv, .int .i64 x] 34)).alloc (.cells zeroC 27)) := ⟨_, rfl⟩
  rw [← hW3] at hdw
  have hgb := hl.box.lt
  have hlo := hd.lo; have hll := hd.ll; have hlw := hd.lw
  have HDW := Lib.hid hdw; have HW3 := Lib.hid hW3; have HGB := Lib.hid hgb
  have hp0 : (0 : Int) < (p : Int) := by omega
  have hmm := aroundV_lt (n := x) hp0
  rw [hmx] at hmm
  have hm : m < p := by omega
  have har := fun W => around_any x p W hx1 hx2 hp0 (by omega)
  rw [hmx] at har
  have HAR := Lib.hid har
  obtain ⟨x0, x1, x2, x3, x4, x5, x6, x7, x8, x9⟩ := blk10 hdw.b5
  have d0 : W3.cell? ⟨w.heap.size + 1, 0, none⟩ = some (.int .i64 1) := (hdw.b6.cell 0).trans rfl
  have d1 : W3.cell? ⟨w.heap.size + 1, 1, none⟩ = some (.int .i64 tv) := (hdw.b6.cell 1).trans rfl
  have d2 : W3.cell? ⟨w.heap.size + 1, 2, none⟩ = some (.int .i64 x) := (hdw.b6.cell 2).trans rfl
  clear hl hd hdw hW3 hgb hmm har hlo hll hlw
  go_enter Try.func25, Try.ntmps25
  go_upto_region 1 with fail
  rw [← HW3.out]
  clear HW3
  go_wp2_with fail
  refine (HAR.out _).mono ?_
  rintro e w4 ⟨rfl, rfl⟩
  clear HAR
  have hlo := HDW.out.dc.lo
  have hmo : m < s.own.length := by omega
  have hmn : -1 ≤ gn s.own m := (O.own _ (gn_mem hmo)).1
  have hc : ∀ W, LkM W B { h with X := fun k => h.X k ∨ k = w.heap.size + 1 + 1 } s → Calls Try.prog 17 #[.pointer (some ⟨h.g, 0, none⟩), .int .i64 (m : Int), .int .i64 t] W (fun e w' => e = .returned (.tuple #[.int .i64 (unlockV s m t).2.1, .int .i64 (unlockV s m t).2.2]) ∧ LkM w' B { h with X := fun k => h.X k ∨ k = w.heap.size + 1 + 1 } ((unlockV s m t).1) ∧ Fr h.W W w') := fun W hl => unlock_any hl O (by omega) m hmo t ht
  have hdb : ∀ k, (ME w E) k → k < w.heap.size + 1 + 1 + 1 ∨ w.heap.size + 1 + 1 + 1 ≤ k → ¬ h.W k := fun k hk _ e => by
    have := HDW.out.hW k e
    rcases hk with hk | hk
    · exact hE k hk.1 hk.2 e
    · omega
  have HC := Lib.hid hc; have HDB := Lib.hid hdb
  clear hc hdb
  have hdoc := docUnlock W3 _ z p q n s HDW.out.dc (SzL.of O hK) m hm t
  rw [hsb] at hdoc HC
  have HDC := Lib.hid hdoc
  clear hdoc hmn hmo hlo hsb O hE
  go_wp2_with fail
  refine (HDC.out).mono ?_
  rintro e w4 ⟨z', rfl, hd4, hb⟩
  have zb := hb.size
  obtain ⟨nb, hnb⟩ : ∃ b, b = w4.heap.size := ⟨_, rfl⟩
  have hsz := HDW.out.sz
  have hb5 := Blk.new w4 27 (mkC z' p q n)
  have hb6 := (HDW.out.b6.below hb (by omega)).alloc (.cells (mkC z' p q n) 27)
  have hb8 := (HDW.out.b8.below hb (by omega)).alloc (.cells (mkC z' p q n) 27)
  have hl4 := (HDW.out.lk.below hb (Nat.le_refl _)).alloc (.cells (mkC z' p q n) 27)
  have hd5 : DocC (w4.alloc (.cells (mkC z' p q n) 27)) (ME w E) z' p q n s2 := (hd4.mono (E' := ME w E) (fun k hk _ => by rcases hk with hk | hk; exact .inl hk.1; exact .inr (by omega))).below ((Below.refl _ w4).alloc (Nat.le_refl _) _) (Nat.le_refl _)
  have hbel := (HDW.out.bel.trans (hb.mono (by omega))).alloc (by omega) (.cells (mkC z' p q n) 27)
  obtain ⟨W5, hW5⟩ : ∃ W, W = w4.alloc (.cells (mkC z' p q n) 27) := ⟨_, rfl⟩
  rw [← hW5] at hb5 hb6 hb8 hl4 hd5 hbel
  rw [← hnb] at hb5
  have H5 := Lib.hid hb5; have H6 := Lib.hid hb6; have H8 := Lib.hid hb8; have HL := Lib.hid hl4; have HD := Lib.hid hd5; have HBEL := Lib.hid hbel; have HW5 := Lib.hid hW5; have HNB := Lib.hid hnb; have HW := Lib.hid HDW.out.hW
  have zn : w.heap.size + 1 + 1 < nb := by omega
  have zn5 := hb5.lt
  clear x0 x1 x2 x3 x4 x5 x6 x7 x8 x9 d0 d1 d2 hb5 hb6 hb8 hl4 hd4 hd5 hbel hb hW5 hnb hsz HDW zb
  go_upto_region 7 with fail
  rw [← HW5.out, ← HNB.out]
  clear HW5 HNB
  have hc5 := HC.out W5 HL.out
  have HC5 := Lib.hid hc5
  clear hc5 HC
  go_wp2_with fail
  refine HC5.out.mono ?_
  rintro e w6 ⟨rfl, hq, hf⟩

  have k5 := hf.blk H5.out (fun e => by have := HW.out _ e; omega)
  have k8 := hf.blk H8.out (fun e => by have := HW.out _ e; omega)
  have hE := mu_end (E := E) k8 hq (HD.out.fr hf (fun i hi _ e => HDB.out i hi (by omega) e)) (((Fr.of_below HBEL.out).mono (S := h.W) (fun i hi e => by omega)).trans hf (fun i _ e => e)) HGB.out HW.out
  have m0 : w6.cell? ⟨nb, 0, none⟩ = some (.int .i64 0) := (k5.cell 0).trans rfl
  have m1 : w6.cell? ⟨nb, 1, none⟩ = some (.slice none 0 0) := (k5.cell 1).trans rfl
  have m2 : w6.cell? ⟨nb, 2, none⟩ = some (.slice z'.A0 p z'.d0) := (k5.cell 2).trans rfl
  have m3 : w6.cell? ⟨nb, 3, none⟩ = some (.slice z'.A1 n z'.d1) := (k5.cell 3).trans rfl
  have m4 : w6.cell? ⟨nb, 4, none⟩ = some (.slice none 0 0) := (k5.cell 4).trans rfl
  have m5 : w6.cell? ⟨nb, 5, none⟩ = some (.slice z'.A2 p z'.d2) := (k5.cell 5).trans rfl
  have m6 : w6.cell? ⟨nb, 6, none⟩ = some (.slice z'.A3 q z'.d3) := (k5.cell 6).trans rfl
  have m7 : w6.cell? ⟨nb, 7, none⟩ = some (.slice z'.A4 n z'.d4) := (k5.cell 7).trans rfl
  have m8 : w6.cell? ⟨nb, 8, none⟩ = some (.slice none 0 0) := (k5.cell 8).trans rfl
  have m9 : w6.cell? ⟨nb, 9, none⟩ = some (.slice none 0 0) := (k5.cell 9).trans rfl
  have t0 : w6.cell? ⟨w.heap.size + 1 + 1, 0, none⟩ = some (.int .i64 0) := (k8.cell 0).trans rfl
  have u0 : w6.frozen? ⟨w.heap.size + 1 + 1, 0, none⟩ = false := k8.frozen 0
  have t1 : w6.cell? ⟨w.heap.size + 1 + 1, 1, none⟩ = some (.slice none 0 0) := (k8.cell 1).trans rfl
  have u1 : w6.frozen? ⟨w.heap.size + 1 + 1, 1, none⟩ = false := k8.frozen 1
  have t2 : w6.cell? ⟨w.heap.size + 1 + 1, 2, none⟩ = some (.slice none 0 0) := (k8.cell 2).trans rfl
  have u2 : w6.frozen? ⟨w.heap.size + 1 + 1, 2, none⟩ = false := k8.frozen 2
  have t3 : w6.cell? ⟨w.heap.size + 1 + 1, 3, none⟩ = some (.slice none 0 0) := (k8.cell 3).trans rfl
  have u3 : w6.frozen? ⟨w.heap.size + 1 + 1, 3, none⟩ = false := k8.frozen 3
  have t4 : w6.cell? ⟨w.heap.size + 1 + 1, 4, none⟩ = some (.slice none 0 0) := (k8.cell 4).trans rfl
  have u4 : w6.frozen? ⟨w.heap.size + 1 + 1, 4, none⟩ = false := k8.frozen 4
  have t5 : w6.cell? ⟨w.heap.size + 1 + 1, 5, none⟩ = some (.slice none 0 0) := (k8.cell 5).trans rfl
  have u5 : w6.frozen? ⟨w.heap.size + 1 + 1, 5, none⟩ = false := k8.frozen 5
  have t6 : w6.cell? ⟨w.heap.size + 1 + 1, 6, none⟩ = some (.slice none 0 0) := (k8.cell 6).trans rfl
  have u6 : w6.frozen? ⟨w.heap.size + 1 + 1, 6, none⟩ = false := k8.frozen 6
  have t7 : w6.cell? ⟨w.heap.size + 1 + 1, 7, none⟩ = some (.slice none 0 0) := (k8.cell 7).trans rfl
  have u7 : w6.frozen? ⟨w.heap.size + 1 + 1, 7, none⟩ = false := k8.frozen 7
  have t8 : w6.cell? ⟨w.heap.size + 1 + 1, 8, none⟩ = some (.slice none 0 0) := (k8.cell 8).trans rfl
  have u8 : w6.frozen? ⟨w.heap.size + 1 + 1, 8, none⟩ = false := k8.frozen 8
  have t9 : w6.cell? ⟨w.heap.size + 1 + 1, 9, none⟩ = some (.slice none 0 0) := (k8.cell 9).trans rfl
  have u9 : w6.frozen? ⟨w.heap.size + 1 + 1, 9, none⟩ = false := k8.frozen 9
  have HE := Lib.hid hE
  clear hE hq hf HL HD HBEL HDB k5 k8 H5 H6 H8 HC5
  go_wp2_with fail

  refine bodyPost_ret (v := .tuple #[.agg (mkC z' p q n), .bool true]) (res9_1 rfl _ _ (w.heap.size + 1 + 1) 27 _ (0, 0) _ _ rfl rfl HE.out.2 Try.underlying27 rfl (by kernel_rfl)) rfl HE.out.1
end Go.Proofs.Ytikelkfinjcgaaa
