
/-
  does: a deed, of a pool and of the document's.
-/
import Derived.Test.YtipflplilkecjaaDqLike
set_option linter.unusedVariables false
set_option linter.unusedSimpArgs false
namespace Go.Proofs.Ytipflplilkecjaa
open Go.RowKit Plain

def doesP (room : Nat) (L : List (List Int)) (Q : List Int) (ki wi ni : Int) : List (List Int) × List Int :=
  if ki = 0 then (giveP room L Q wi ni).1 else if ki = 1 then (takeP L Q wi).1 else if ki = 2 then (L, Q ++ [ni]) else if ki = 3 then (pullP L Q ni).1 else (stealP L Q wi ni).1
theorem doesP_len (room : Nat) (L : List (List Int)) (Q : List Int) (ki wi ni : Int) : (doesP room L Q ki wi ni).1.length = L.length ∧ (doesP room L Q ki wi ni).2.length ≤ Q.length + 1 := by
  unfold doesP
  split
  · unfold giveP
    split
    · split <;> simp
    · simp
  · split
    · unfold takeP
      split
      · split
        · simp
        · cases Q <;> simp <;> omega
      · simp
    · split
      · simp
      · split
        · unfold pullP
          split
          · simp
          · have := List.length_erase_le (a := ni) (l := Q)
            simp
            omega
        · unfold stealP
          split
          · split
            · simp
            · split <;> simp
          · simp
/-- What a deed leaves: both have the same. -/
def DoesR (g d s room N : Nat) (Dq : Nat → Prop) (xb : Nat → Prop) (w w' : World) (L' : List (List Int)) (Q' : List Int) (v : Value) : Prop :=
  ∃ Dq' lA lc gA gc, v = .agg (DocV room lA N lc gA Q'.length gc) ∧ Pl w' g d s room Dq' L' Q' ∧ DocP w' (fun k => ¬ PlD d s Dq' k ∧ ¬ xb k) lA lc gA gc L' Q' ∧ Fr (PlD d s Dq) w w' ∧ (∀ i, PlD d s Dq' i → PlD d s Dq i ∨ w.heap.size ≤ i)
/-- The boxes of does. -/
structure Bx (w W : World) (room : Nat) (lA : Option Addr) (N lc : Nat) (gA : Option Addr) (M gc : Nat) (ki wi ni : Int) : Prop where
  b4 : Blk W w.heap.size 28 (DocV room lA N lc gA M gc)
  b5 : Blk W (w.heap.size + 1) 34 #[.int .i64 ki, .int .i64 wi, .int .i64 ni]
  b6 : Blk W (w.heap.size + 1 + 1) 28 #[.int .i64 0, .slice none 0 0, .slice none 0 0]
section
variable {w W W' : World} {room : Nat} {lA : Option Addr} {N lc : Nat} {gA : Option Addr} {M gc : Nat} {ki wi ni : Int}
abbrev bxW (w : World) (room : Nat) (lA : Option Addr) (N lc : Nat) (gA : Option Addr) (M gc : Nat) (ki wi ni : Int) : World := ((w.alloc (.cells (DocV room lA N lc gA M gc) 28)).alloc (.cells #[.int .i64 ki, .int .i64 wi, .int .i64 ni] 34)).alloc (.cells #[.int .i64 0, .slice none 0 0, .slice none 0 0] 28)
theorem Bx.new : Bx w (bxW w room lA N lc gA M gc ki wi ni) room lA N lc gA M gc ki wi ni := by
  refine ⟨((Blk.new w _ _).alloc _).alloc _, ?_, ?_⟩
  · have := (Blk.new (w.alloc (.cells (DocV room lA N lc gA M gc) 28)) 34 #[.int .i64 ki, .int .i64 wi, .int .i64 ni]).alloc (.cells #[.int .i64 0, .slice none 0 0, .slice none 0 0] 28)
    simpa using this
  · have := Blk.new ((w.alloc (.cells (DocV room lA N lc gA M gc) 28)).alloc (.cells #[.int .i64 ki, .int .i64 wi, .int .i64 ni] 34)) 28 #[.int .i64 0, .slice none 0 0, .slice none 0 0]
    simpa using this
theorem bx_below : Below w.heap.size w (bxW w room lA N lc gA M gc ki wi ni) ∧ (bxW w room lA N lc gA M gc ki wi ni).heap.size = w.heap.size + 1 + 1 + 1 :=
  ⟨(((Below.refl _ w).alloc (Nat.le_refl _) _).alloc (by simp) _).alloc (by simp; omega) _, by simp⟩
theorem Bx.fr {S : Nat → Prop} (h : Bx w W room lA N lc gA M gc ki wi ni) (hf : Fr S W W') (hS : ∀ i, S i → i < w.heap.size ∨ w.heap.size + 1 + 1 + 1 ≤ i) : Bx w W' room lA N lc gA M gc ki wi ni :=
  ⟨hf.blk h.b4 (fun e => by have := hS _ e; omega), hf.blk h.b5 (fun e => by have := hS _ e; omega), hf.blk h.b6 (fun e => by have := hS _ e; omega)⟩
theorem Bx.cells (h : Bx w W room lA N lc gA M gc ki wi ni) :
    (W.cell? ⟨w.heap.size, 0, none⟩ = some (.int .i64 (room : Int)) ∧ W.cell? ⟨w.heap.size, 1, none⟩ = some (.slice lA N lc) ∧ W.cell? ⟨w.heap.size, 2, none⟩ = some (.slice gA M gc)) ∧
    (W.cell? ⟨w.heap.size + 1, 0, none⟩ = some (.int .i64 ki) ∧ W.cell? ⟨w.heap.size + 1, 1, none⟩ = some (.int .i64 wi) ∧ W.cell? ⟨w.heap.size + 1, 2, none⟩ = some (.int .i64 ni)) ∧
    (W.cell? ⟨w.heap.size + 1 + 1, 0, none⟩ = some (.int .i64 0) ∧ W.cell? ⟨w.heap.size + 1 + 1, 1, none⟩ = some (.slice none 0 0) ∧ W.cell? ⟨w.heap.size + 1 + 1, 2, none⟩ = some (.slice none 0 0)) ∧
    W.frozen? ⟨w.heap.size + 1 + 1, 0, none⟩ = false ∧ W.frozen? ⟨w.heap.size + 1 + 1, 1, none⟩ = false ∧ W.frozen? ⟨w.heap.size + 1 + 1, 2, none⟩ = false :=
  ⟨⟨(h.b4.cell 0).trans rfl, (h.b4.cell 1).trans rfl, (h.b4.cell 2).trans rfl⟩, ⟨(h.b5.cell 0).trans rfl, (h.b5.cell 1).trans rfl, (h.b5.cell 2).trans rfl⟩, ⟨(h.b6.cell 0).trans rfl, (h.b6.cell 1).trans rfl, (h.b6.cell 2).trans rfl⟩, h.b6.frozen 0, h.b6.frozen 1, h.b6.frozen 2⟩
end
theorem blk3 {W : World} {b : Nat} {T : Nat} {x y z : Value} (h : Blk W b T #[x, y, z]) : W.cell? ⟨b, 0, none⟩ = some x ∧ W.cell? ⟨b, 1, none⟩ = some y ∧ W.cell? ⟨b, 2, none⟩ = some z := ⟨(h.cell 0).trans rfl, (h.cell 1).trans rfl, (h.cell 2).trans rfl⟩
/-- The document's pool behind a call of the document's, then one of the pool's, then the result's store. -/
def PreEnd (g d s room : Nat) (Dq : Nat → Prop) (xb : Nat → Prop) (w w3 : World) (lA gA : Option Addr) (lc gc : Nat) (L' : List (List Int)) (Q' : List Int) : Prop :=
  ∃ wz, DocP wz (fun k => ((¬ PlD d s Dq k ∧ ¬ xb k) ∧ k < w.heap.size) ∨ w.heap.size + 1 + 1 + 1 ≤ k) lA lc gA gc L' Q' ∧ Below w.heap.size w wz ∧ w.heap.size + 1 + 1 < wz.heap.size ∧ PlTurn g d s room Dq wz w3 (L', Q')
theorem does_end {g d s room N : Nat} {xb : Nat → Prop} {Dq : Nat → Prop} {w w3 : World} {L' : List (List Int)} {Q' : List Int} {lA gA : Option Addr} {M lc gc : Nat} (hxb : ∀ k, xb k → k < w.heap.size) (hbd : ∀ i, PlD d s Dq i → i < w.heap.size) (hM : Q'.length = M)
    (hpre : PreEnd g d s room Dq xb w w3 lA gA lc gc L' Q') (a b c : Value) :
    DoesR g d s room N Dq xb w (((w3.setCell ⟨w.heap.size + 1 + 1, 0, none⟩ a).setCell ⟨w.heap.size + 1 + 1, 1, none⟩ b).setCell ⟨w.heap.size + 1 + 1, 2, none⟩ c) L' Q' (.agg (DocV room lA N lc gA M gc))  := by
  obtain ⟨wz, h, hb, hsz, ht⟩ := hpre
  obtain ⟨Dq', h1, h2, h3, -⟩ := ht
  have hz := hb.size
  have hn : ∀ i, PlD d s Dq' i → PlD d s Dq i ∨ wz.heap.size ≤ i := fun i hi => by
    rcases hi with e | e
    · rcases h3 i e with e | e
      · exact .inl (.inl e)
      · exact .inr e.1
    · exact .inl (.inr e)
  · have hset := (Fr.refl (fun k => k = w.heap.size + 1 + 1) w3).set3 (g := w.heap.size + 1 + 1) (.inl rfl) a b c
    have hnb : ¬ PlD d s Dq' (w.heap.size + 1 + 1) := fun e => by
      rcases hn _ e with e | e
      · have := hbd _ e; omega
      · omega
    have hd1 := h.mono (E' := fun k => ((¬ PlD d s Dq k ∧ ¬ xb k) ∧ k ≠ w.heap.size + 1 + 1) ∧ k < wz.heap.size) (fun k e hk => by
      rcases e with e | e
      · exact ⟨⟨e.1, by omega⟩, hk⟩
      · exact ⟨⟨⟨fun e2 => by have := hbd _ e2; omega, fun e2 => by have := hxb _ e2; omega⟩, by omega⟩, hk⟩)
    have hd2 := (hd1.fr h2 (fun i hi _ => hi.1.1.1)).fr hset (fun i hi _ => hi.1.2)
    have hfr : Fr (PlD d s Dq) w (((w3.setCell ⟨w.heap.size + 1 + 1, 0, none⟩ a).setCell ⟨w.heap.size + 1 + 1, 1, none⟩ b).setCell ⟨w.heap.size + 1 + 1, 2, none⟩ c) := by
      have f0 := (Fr.of_below hb).mono (S := fun i => w.heap.size ≤ i ∨ PlD d s Dq i) (fun i _ h => .inl h)
      have f1 := h2.mono (S := fun i => w.heap.size ≤ i ∨ PlD d s Dq i) (fun i _ h => .inr h)
      have f2 := hset.mono (S := fun i => w.heap.size ≤ i ∨ PlD d s Dq i) (fun i _ h => .inl (by omega))
      refine ((f0.trans f1 (fun i _ h => h)).trans f2 (fun i _ h => h)).mono (fun i hi e => ?_)
      rcases e with e | e
      · omega
      · exact e
    refine ⟨Dq', lA, lc, gA, gc, by rw [hM], h1.fr hset (fun i hi => by subst hi; exact hnb), hd2.mono (fun k e _ => ⟨fun e2 => ?_, e.1.1.2⟩), hfr, fun i hi => ?_⟩
    rotate_left
    · rcases hn i hi with e | e
      · exact .inl e
      · exact .inr (by omega)
    rcases hn k e2 with e3 | e3
    · exact e.1.1.1 e3
    · omega
section
variable (g d s room : Nat) (Dq : Nat → Prop) (L : List (List Int)) (Q : List Int) (w : World) (xb : Nat → Prop) (hxb : ∀ k, xb k → k < w.heap.size) (hp : Pl w g d s room Dq L Q) (lA gA : Option Addr) (lc gc : Nat) (hd : DocP w (fun k => ¬ PlD d s Dq k ∧ ¬ xb k) lA lc gA gc L Q) (N M : Nat) (hN : L.length = N) (hM : Q.length = M) (hM6 : M ≤ 100000) (wi ni : Int)
include hxb hp hd hN hM hM6
set_option maxRecDepth 100000 in
set_option maxHeartbeats 8000000 in
theorem does0 : Calls Try.prog 11 #[.pointer (some ⟨g, 0, none⟩), .agg (DocV room lA N lc gA M gc), .agg #[.int .i64 0, .int .i64 wi, .int .i64 ni]] w fun e w' => ∃ v, e = .returned (.tuple #[v, .bool true]) ∧ DoesR g d s room N Dq xb w w' (giveP room L Q wi ni).1.1 (giveP room L Q wi ni).1.2 v := by
  obtain ⟨hlr, hr1, hr8, hN64⟩ := hp.row
  rw [hN] at hN64
  have hbd := hp.bound
  have hB := Bx.new (w := w) (room := room) (lA := lA) (N := N) (lc := lc) (gA := gA) (M := M) (gc := gc) (ki := 0) (wi := wi) (ni := ni)
  obtain ⟨hb0, hz0⟩ := bx_below (w := w) (room := room) (lA := lA) (N := N) (lc := lc) (gA := gA) (M := M) (gc := gc) (ki := 0) (wi := wi) (ni := ni)
  obtain ⟨⟨a0, a1, a2⟩, ⟨d0, d1, d2⟩, ⟨r0, r1, r2⟩, rz0, rz1, rz2⟩ := hB.cells
  have hd0 := (hd.mono (E' := fun k => (¬ PlD d s Dq k ∧ ¬ xb k) ∧ k < w.heap.size) (fun k e hk => ⟨e, hk⟩)).below hb0 (Nat.le_refl _)
  have href := refGive7 room lA gA lc gc L Q _ _ hd0 N M hN hM hN64 (by omega) hr8 hlr wi ni
  have hpool := fun (W : World) (hb : Below w.heap.size w W) => giveP_any g d s room Dq L Q W (hp.below hb (Nat.le_refl _)) wi ni (by omega)
  generalize giveP room L Q wi ni = rr at *
  obtain ⟨⟨L2, Q2⟩, ee⟩ := rr
  have HB := Lib.hid hB; have HB0 := Lib.hid hb0; have HREF := Lib.hid href; have HPOOL := Lib.hid hpool; have HBD := Lib.hid hbd; have HXB := Lib.hid hxb; have HZ0 := Lib.hid hz0
  clear hB hb0 href hpool hbd hd0 hd hp hN hM hlr hz0
  go_enter Try.func11, Try.ntmps11
  go_wp2_with fail
  refine HREF.out.mono ?_
  rintro e w1 ⟨v, rfl, lA2, lc2, gA2, gc2, rfl, hdoc, hb1⟩
  rw [HZ0.out] at hdoc hb1
  have hz1 := hb1.size
  rw [HZ0.out] at hz1
  obtain ⟨Mq, hMq⟩ : ∃ m, m = Q2.length := ⟨_, rfl⟩
  rw [← hMq]
  have HMQ := Lib.hid hMq
  clear hMq
  go_upto_region 4 with fail
  obtain ⟨bx, hbx⟩ : ∃ b, b = w1.heap.size := ⟨_, rfl⟩
  rw [← hbx]
  have hbox := Blk.new w1 28 #[.int .i64 (room : Int), .slice lA2 N lc2, .slice gA2 Mq gc2]
  rw [← hbx] at hbox
  have hB1 := (HB.out.fr (Fr.of_below hb1) (fun i hi => .inr hi)).fr (S := fun _ => False) ((Fr.refl _ w1).alloc (.cells #[.int .i64 (room : Int), .slice lA2 N lc2, .slice gA2 Mq gc2] 28)) (fun _ h => h.elim)
  have hbz := (HB0.out.trans (hb1.mono (by omega))).alloc (Nat.le_trans HB0.out.size (by rw [HZ0.out]; exact hz1)) (.cells #[.int .i64 (room : Int), .slice lA2 N lc2, .slice gA2 Mq gc2] 28)
  have hdz := hdoc.alloc (.cells #[.int .i64 (room : Int), .slice lA2 N lc2, .slice gA2 Mq gc2] 28)
  have hzz : w.heap.size + 1 + 1 < (w1.alloc (.cells #[.int .i64 (room : Int), .slice lA2 N lc2, .slice gA2 Mq gc2] 28)).heap.size := by simp; omega
  have hbxl : bx < (w1.alloc (.cells #[.int .i64 (room : Int), .slice lA2 N lc2, .slice gA2 Mq gc2] 28)).heap.size := by simp; omega
  have HDZ := Lib.hid hdz; have HBZ := Lib.hid hbz; have HZZ := Lib.hid hzz
  obtain ⟨c0, c1, c2⟩ := blk3 hbox
  obtain ⟨-, ⟨-, e1, e2⟩, ⟨s0, s1, s2⟩, sz0, sz1, sz2⟩ := hB1.cells
  have hB1' := Lib.hid hB1; have hbox' := Lib.hid hbox
  clear hB1 hbox hdoc hb1 hbz hdz hzz HREF a0 a1 a2 d1 d2 r0 r1 r2 rz0 rz1 rz2
  generalize hWz : w1.alloc (.cells #[.int .i64 (room : Int), .slice lA2 N lc2, .slice gA2 Mq gc2] 28) = Wz at *
  have hpool : ∀ W, Below Wz.heap.size Wz W → Calls Try.prog 23 #[.pointer (some ⟨g, 0, none⟩), .int .i64 wi, .int .i64 ni] W fun e w3 => e = .returned (.int .i64 ee) ∧ Hid (PreEnd g d s room Dq xb w w3 lA2 gA2 lc2 gc2 L2 Q2) ∧ Hid (Bx w w3 room lA N lc gA M gc 0 wi ni) ∧ (w3.cell? ⟨bx, 0, none⟩ = some (.int .i64 (room : Int)) ∧ w3.cell? ⟨bx, 1, none⟩ = some (.slice lA2 N lc2) ∧ w3.cell? ⟨bx, 2, none⟩ = some (.slice gA2 Mq gc2) ∧ w3.cell? ⟨w.heap.size + 1, 1, none⟩ = some (.int .i64 wi) ∧ w3.cell? ⟨w.heap.size + 1, 2, none⟩ = some (.int .i64 ni)) ∧ (w3.cell? ⟨w.heap.size + 1 + 1, 0, none⟩ = some (.int .i64 0) ∧ w3.cell? ⟨w.heap.size + 1 + 1, 1, none⟩ = some (.slice none 0 0) ∧ w3.cell? ⟨w.heap.size + 1 + 1, 2, none⟩ = some (.slice none 0 0) ∧ w3.frozen? ⟨w.heap.size + 1 + 1, 0, none⟩ = false ∧ w3.frozen? ⟨w.heap.size + 1 + 1, 1, none⟩ = false ∧ w3.frozen? ⟨w.heap.size + 1 + 1, 2, none⟩ = false) := fun W hb => by
    refine (HPOOL.out W (HBZ.out.trans (hb.mono HBZ.out.size))).mono ?_
    rintro e w3 ⟨rfl, ht⟩
    have hf : Fr (PlD d s Dq) W w3 := by obtain ⟨_, _, h2, _⟩ := ht; exact h2
    have hbW := hb.size
    have hBW := (hB1'.out.fr (S := fun i => Wz.heap.size ≤ i) (Fr.of_below hb) (fun i hi => .inr (by have := HZZ.out; omega))).fr hf (fun i hi => .inl (HBD.out i hi))
    obtain ⟨-, ⟨-, g1, g2⟩, ⟨t0, t1, t2⟩, tz0, tz1, tz2⟩ := hBW.cells
    have hbb : Blk w3 bx 28 #[.int .i64 (room : Int), .slice lA2 N lc2, .slice gA2 Mq gc2] := hf.blk (hbox'.out.below hb hbxl) (fun e => by have := HBD.out _ e; omega)
    exact ⟨rfl, Lib.hid ⟨W, HDZ.out.below hb (Nat.le_refl _), HBZ.out.trans (hb.mono HBZ.out.size), Nat.lt_of_lt_of_le HZZ.out hbW, ht⟩, Lib.hid hBW, ⟨(hbb.cell 0).trans rfl, (hbb.cell 1).trans rfl, (hbb.cell 2).trans rfl, g1, g2⟩, t0, t1, t2, tz0, tz1, tz2⟩
  have hk3 : ∀ (W : World) (a b e : Value), (W.cell? ⟨bx, 0, none⟩ = some (.int .i64 (room : Int)) ∧ W.cell? ⟨bx, 1, none⟩ = some (.slice lA2 N lc2) ∧ W.cell? ⟨bx, 2, none⟩ = some (.slice gA2 Mq gc2) ∧ W.cell? ⟨w.heap.size + 1, 1, none⟩ = some (.int .i64 wi) ∧ W.cell? ⟨w.heap.size + 1, 2, none⟩ = some (.int .i64 ni)) → ((((W.setCell ⟨w.heap.size + 1 + 1, 0, none⟩ a).setCell ⟨w.heap.size + 1 + 1, 1, none⟩ b).setCell ⟨w.heap.size + 1 + 1, 2, none⟩ e).cell? ⟨bx, 0, none⟩ = some (.int .i64 (room : Int)) ∧ (((W.setCell ⟨w.heap.size + 1 + 1, 0, none⟩ a).setCell ⟨w.heap.size + 1 + 1, 1, none⟩ b).setCell ⟨w.heap.size + 1 + 1, 2, none⟩ e).cell? ⟨bx, 1, none⟩ = some (.slice lA2 N lc2) ∧ (((W.setCell ⟨w.heap.size + 1 + 1, 0, none⟩ a).setCell ⟨w.heap.size + 1 + 1, 1, none⟩ b).setCell ⟨w.heap.size + 1 + 1, 2, none⟩ e).cell? ⟨bx, 2, none⟩ = some (.slice gA2 Mq gc2) ∧ (((W.setCell ⟨w.heap.size + 1 + 1, 0, none⟩ a).setCell ⟨w.heap.size + 1 + 1, 1, none⟩ b).setCell ⟨w.heap.size + 1 + 1, 2, none⟩ e).cell? ⟨w.heap.size + 1, 1, none⟩ = some (.int .i64 wi) ∧ (((W.setCell ⟨w.heap.size + 1 + 1, 0, none⟩ a).setCell ⟨w.heap.size + 1 + 1, 1, none⟩ b).setCell ⟨w.heap.size + 1 + 1, 2, none⟩ e).cell? ⟨w.heap.size + 1, 2, none⟩ = some (.int .i64 ni)) := fun W a b e g => by
    have hc := fun (p : Addr) (hp : p.block ≠ w.heap.size + 1 + 1) => set3_other W (w.heap.size + 1 + 1) a b e p hp
    exact ⟨(hc _ (by show bx ≠ _; omega)).trans g.1, (hc _ (by show bx ≠ _; omega)).trans g.2.1, (hc _ (by show bx ≠ _; omega)).trans g.2.2.1, (hc _ (by simp)).trans g.2.2.2.1, (hc _ (by simp)).trans g.2.2.2.2⟩
  have HK3 := Lib.hid hk3; have HP2 := Lib.hid hpool
  have hne1 : ¬ bx = w.heap.size + 1 + 1 := by omega
  have hne2 : ¬ w.heap.size + 1 + 1 = bx := by omega
  clear hk3 hpool HPOOL HB HB0 hWz hbx hz1 hbxl
  go_region_held3 (fun w' => w'.cell? ⟨bx, 0, none⟩ = some (.int .i64 (room : Int)) ∧ w'.cell? ⟨bx, 1, none⟩ = some (.slice lA2 N lc2) ∧ w'.cell? ⟨bx, 2, none⟩ = some (.slice gA2 Mq gc2) ∧ w'.cell? ⟨w.heap.size + 1, 1, none⟩ = some (.int .i64 wi) ∧ w'.cell? ⟨w.heap.size + 1, 2, none⟩ = some (.int .i64 ni))
    (first | with_reducible exact ⟨c0, c1, c2, e1, e2⟩ | with_reducible exact G3 | with_reducible exact HK3.out _ _ _ _ G3 | go_keep)
    (first
      | (go_simp; with_reducible refine (HP2.out _ (by first | with_reducible exact Below.refl _ _ | exact (Below.refl _ _).drew | exact below_drews (Below.refl _ _) _ | exact (below_drews (Below.refl _ _) _).drew | exact below_drews ((Below.refl _ _).drew) _)).mono ?_
         rintro e w3 ⟨rfl, HT3, HBW, G3, t0, t1, t2, tz0, tz1, tz2⟩)
      | fail)
  all_goals
    go_wp2_with fail
    obtain ⟨f1, f2⟩ : Blk _ _ _ _ ∧ True := ⟨HBW.out.b6.set3 (.int .i64 (room : Int)) (.slice lA2 N lc2) (.slice gA2 Mq gc2), trivial⟩
    refine bodyPost_ret (v := .tuple #[.agg (DocV room lA2 N lc2 gA2 Mq gc2), .bool true]) (res_cell_slot rfl _ _ (w.heap.size + 1 + 1) 28 _ (0, 0) _ _ rfl rfl f1 Try.underlying28 rfl (by kernel_rfl)) rfl ?_
    exact ⟨_, rfl, does_end HXB.out HBD.out HMQ.out.symm HT3.out _ _ _⟩
set_option maxRecDepth 100000 in
set_option maxHeartbeats 8000000 in
theorem does3 : Calls Try.prog 11 #[.pointer (some ⟨g, 0, none⟩), .agg (DocV room lA N lc gA M gc), .agg #[.int .i64 3, .int .i64 wi, .int .i64 ni]] w fun e w' => ∃ v, e = .returned (.tuple #[v, .bool true]) ∧ DoesR g d s room N Dq xb w w' (pullP L Q ni).1.1 (pullP L Q ni).1.2 v := by
  obtain ⟨hlr, hr1, hr8, hN64⟩ := hp.row
  rw [hN] at hN64
  have hbd := hp.bound
  have hB := Bx.new (w := w) (room := room) (lA := lA) (N := N) (lc := lc) (gA := gA) (M := M) (gc := gc) (ki := 3) (wi := wi) (ni := ni)
  obtain ⟨hb0, hz0⟩ := bx_below (w := w) (room := room) (lA := lA) (N := N) (lc := lc) (gA := gA) (M := M) (gc := gc) (ki := 3) (wi := wi) (ni := ni)
  obtain ⟨⟨a0, a1, a2⟩, ⟨d0, d1, d2⟩, ⟨r0, r1, r2⟩, rz0, rz1, rz2⟩ := hB.cells
  have hd0 := (hd.mono (E' := fun k => (¬ PlD d s Dq k ∧ ¬ xb k) ∧ k < w.heap.size) (fun k e hk => ⟨e, hk⟩)).below hb0 (Nat.le_refl _)
  have href := refPull7 room lA gA lc gc L Q _ _ hd0 N M hN hM hN64 (by omega) hr8 hlr ni
  have hpool := fun (W : World) (hb : Below w.heap.size w W) => pullP_any g d s room Dq L Q W (hp.below hb (Nat.le_refl _)) ni (by omega)
  generalize pullP L Q ni = rr at *
  obtain ⟨⟨L2, Q2⟩, ee⟩ := rr
  have HB := Lib.hid hB; have HB0 := Lib.hid hb0; have HREF := Lib.hid href; have HPOOL := Lib.hid hpool; have HBD := Lib.hid hbd; have HXB := Lib.hid hxb; have HZ0 := Lib.hid hz0
  clear hB hb0 href hpool hbd hd0 hd hp hN hM hlr hz0
  go_enter Try.func11, Try.ntmps11
  go_wp2_with fail
  refine HREF.out.mono ?_
  rintro e w1 ⟨v, rfl, lA2, lc2, gA2, gc2, rfl, hdoc, hb1⟩
  rw [HZ0.out] at hdoc hb1
  have hz1 := hb1.size
  rw [HZ0.out] at hz1
  obtain ⟨Mq, hMq⟩ : ∃ m, m = Q2.length := ⟨_, rfl⟩
  rw [← hMq]
  have HMQ := Lib.hid hMq
  clear hMq
  go_upto_region 14 with fail
  obtain ⟨bx, hbx⟩ : ∃ b, b = w1.heap.size := ⟨_, rfl⟩
  rw [← hbx]
  have hbox := Blk.new w1 28 #[.int .i64 (room : Int), .slice lA2 N lc2, .slice gA2 Mq gc2]
  rw [← hbx] at hbox
  have hB1 := (HB.out.fr (Fr.of_below hb1) (fun i hi => .inr hi)).fr (S := fun _ => False) ((Fr.refl _ w1).alloc (.cells #[.int .i64 (room : Int), .slice lA2 N lc2, .slice gA2 Mq gc2] 28)) (fun _ h => h.elim)
  have hbz := (HB0.out.trans (hb1.mono (by omega))).alloc (Nat.le_trans HB0.out.size (by rw [HZ0.out]; exact hz1)) (.cells #[.int .i64 (room : Int), .slice lA2 N lc2, .slice gA2 Mq gc2] 28)
  have hdz := hdoc.alloc (.cells #[.int .i64 (room : Int), .slice lA2 N lc2, .slice gA2 Mq gc2] 28)
  have hzz : w.heap.size + 1 + 1 < (w1.alloc (.cells #[.int .i64 (room : Int), .slice lA2 N lc2, .slice gA2 Mq gc2] 28)).heap.size := by simp; omega
  have hbxl : bx < (w1.alloc (.cells #[.int .i64 (room : Int), .slice lA2 N lc2, .slice gA2 Mq gc2] 28)).heap.size := by simp; omega
  have HDZ := Lib.hid hdz; have HBZ := Lib.hid hbz; have HZZ := Lib.hid hzz
  obtain ⟨c0, c1, c2⟩ := blk3 hbox
  obtain ⟨-, ⟨-, e1, e2⟩, ⟨s0, s1, s2⟩, sz0, sz1, sz2⟩ := hB1.cells
  have hB1' := Lib.hid hB1; have hbox' := Lib.hid hbox
  clear hB1 hbox hdoc hb1 hbz hdz hzz HREF a0 a1 a2 d1 d2 r0 r1 r2 rz0 rz1 rz2
  generalize hWz : w1.alloc (.cells #[.int .i64 (room : Int), .slice lA2 N lc2, .slice gA2 Mq gc2] 28) = Wz at *
  have hpool : ∀ W, Below Wz.heap.size Wz W → Calls Try.prog 38 #[.pointer (some ⟨g, 0, none⟩), .int .i64 ni] W fun e w3 => e = .returned (.bool ee) ∧ Hid (PreEnd g d s room Dq xb w w3 lA2 gA2 lc2 gc2 L2 Q2) ∧ Hid (Bx w w3 room lA N lc gA M gc 3 wi ni) ∧ (w3.cell? ⟨bx, 0, none⟩ = some (.int .i64 (room : Int)) ∧ w3.cell? ⟨bx, 1, none⟩ = some (.slice lA2 N lc2) ∧ w3.cell? ⟨bx, 2, none⟩ = some (.slice gA2 Mq gc2) ∧ w3.cell? ⟨w.heap.size + 1, 1, none⟩ = some (.int .i64 wi) ∧ w3.cell? ⟨w.heap.size + 1, 2, none⟩ = some (.int .i64 ni)) ∧ (w3.cell? ⟨w.heap.size + 1 + 1, 0, none⟩ = some (.int .i64 0) ∧ w3.cell? ⟨w.heap.size + 1 + 1, 1, none⟩ = some (.slice none 0 0) ∧ w3.cell? ⟨w.heap.size + 1 + 1, 2, none⟩ = some (.slice none 0 0) ∧ w3.frozen? ⟨w.heap.size + 1 + 1, 0, none⟩ = false ∧ w3.frozen? ⟨w.heap.size + 1 + 1, 1, none⟩ = false ∧ w3.frozen? ⟨w.heap.size + 1 + 1, 2, none⟩ = false) := fun W hb => by
    refine (HPOOL.out W (HBZ.out.trans (hb.mono HBZ.out.size))).mono ?_
    rintro e w3 ⟨rfl, ht⟩
    have hf : Fr (PlD d s Dq) W w3 := by obtain ⟨_, _, h2, _⟩ := ht; exact h2
    have hbW := hb.size
    have hBW := (hB1'.out.fr (S := fun i => Wz.heap.size ≤ i) (Fr.of_below hb) (fun i hi => .inr (by have := HZZ.out; omega))).fr hf (fun i hi => .inl (HBD.out i hi))
    obtain ⟨-, ⟨-, g1, g2⟩, ⟨t0, t1, t2⟩, tz0, tz1, tz2⟩ := hBW.cells
    have hbb : Blk w3 bx 28 #[.int .i64 (room : Int), .slice lA2 N lc2, .slice gA2 Mq gc2] := hf.blk (hbox'.out.below hb hbxl) (fun e => by have := HBD.out _ e; omega)
    exact ⟨rfl, Lib.hid ⟨W, HDZ.out.below hb (Nat.le_refl _), HBZ.out.trans (hb.mono HBZ.out.size), Nat.lt_of_lt_of_le HZZ.out hbW, ht⟩, Lib.hid hBW, ⟨(hbb.cell 0).trans rfl, (hbb.cell 1).trans rfl, (hbb.cell 2).trans rfl, g1, g2⟩, t0, t1, t2, tz0, tz1, tz2⟩
  have hk3 : ∀ (W : World) (a b e : Value), (W.cell? ⟨bx, 0, none⟩ = some (.int .i64 (room : Int)) ∧ W.cell? ⟨bx, 1, none⟩ = some (.slice lA2 N lc2) ∧ W.cell? ⟨bx, 2, none⟩ = some (.slice gA2 Mq gc2) ∧ W.cell? ⟨w.heap.size + 1, 1, none⟩ = some (.int .i64 wi) ∧ W.cell? ⟨w.heap.size + 1, 2, none⟩ = some (.int .i64 ni)) → ((((W.setCell ⟨w.heap.size + 1 + 1, 0, none⟩ a).setCell ⟨w.heap.size + 1 + 1, 1, none⟩ b).setCell ⟨w.heap.size + 1 + 1, 2, none⟩ e).cell? ⟨bx, 0, none⟩ = some (.int .i64 (room : Int)) ∧ (((W.setCell ⟨w.heap.size + 1 + 1, 0, none⟩ a).setCell ⟨w.heap.size + 1 + 1, 1, none⟩ b).setCell ⟨w.heap.size + 1 + 1, 2, none⟩ e).cell? ⟨bx, 1, none⟩ = some (.slice lA2 N lc2) ∧ (((W.setCell ⟨w.heap.size + 1 + 1, 0, none⟩ a).setCell ⟨w.heap.size + 1 + 1, 1, none⟩ b).setCell ⟨w.heap.size + 1 + 1, 2, none⟩ e).cell? ⟨bx, 2, none⟩ = some (.slice gA2 Mq gc2) ∧ (((W.setCell ⟨w.heap.size + 1 + 1, 0, none⟩ a).setCell ⟨w.heap.size + 1 + 1, 1, none⟩ b).setCell ⟨w.heap.size + 1 + 1, 2, none⟩ e).cell? ⟨w.heap.size + 1, 1, none⟩ = some (.int .i64 wi) ∧ (((W.setCell ⟨w.heap.size + 1 + 1, 0, none⟩ a).setCell ⟨w.heap.size + 1 + 1, 1, none⟩ b).setCell ⟨w.heap.size + 1 + 1, 2, none⟩ e).cell? ⟨w.heap.size + 1, 2, none⟩ = some (.int .i64 ni)) := fun W a b e g => by
    have hc := fun (p : Addr) (hp : p.block ≠ w.heap.size + 1 + 1) => set3_other W (w.heap.size + 1 + 1) a b e p hp
    exact ⟨(hc _ (by show bx ≠ _; omega)).trans g.1, (hc _ (by show bx ≠ _; omega)).trans g.2.1, (hc _ (by show bx ≠ _; omega)).trans g.2.2.1, (hc _ (by simp)).trans g.2.2.2.1, (hc _ (by simp)).trans g.2.2.2.2⟩
  have HK3 := Lib.hid hk3; have HP2 := Lib.hid hpool
  have hne1 : ¬ bx = w.heap.size + 1 + 1 := by omega
  have hne2 : ¬ w.heap.size + 1 + 1 = bx := by omega
  clear hk3 hpool HPOOL HB HB0 hWz hbx hz1 hbxl
  go_region_held3 (fun w' => w'.cell? ⟨bx, 0, none⟩ = some (.int .i64 (room : Int)) ∧ w'.cell? ⟨bx, 1, none⟩ = some (.slice lA2 N lc2) ∧ w'.cell? ⟨bx, 2, none⟩ = some (.slice gA2 Mq gc2) ∧ w'.cell? ⟨w.heap.size + 1, 1, none⟩ = some (.int .i64 wi) ∧ w'.cell? ⟨w.heap.size + 1, 2, none⟩ = some (.int .i64 ni))
    (first | with_reducible exact ⟨c0, c1, c2, e1, e2⟩ | with_reducible exact G3 | with_reducible exact HK3.out _ _ _ _ G3 | go_keep)
    (first
      | (go_simp; with_reducible refine (HP2.out _ (by first | with_reducible exact Below.refl _ _ | exact (Below.refl _ _).drew | exact below_drews (Below.refl _ _) _ | exact (below_drews (Below.refl _ _) _).drew | exact below_drews ((Below.refl _ _).drew) _)).mono ?_
         rintro e w3 ⟨rfl, HT3, HBW, G3, t0, t1, t2, tz0, tz1, tz2⟩)
      | fail)
  all_goals
    go_wp2_with fail
    obtain ⟨f1, f2⟩ : Blk _ _ _ _ ∧ True := ⟨HBW.out.b6.set3 (.int .i64 (room : Int)) (.slice lA2 N lc2) (.slice gA2 Mq gc2), trivial⟩
    refine bodyPost_ret (v := .tuple #[.agg (DocV room lA2 N lc2 gA2 Mq gc2), .bool true]) (res_cell_slot rfl _ _ (w.heap.size + 1 + 1) 28 _ (0, 0) _ _ rfl rfl f1 Try.underlying28 rfl (by kernel_rfl)) rfl ?_
    exact ⟨_, rfl, does_end HXB.out HBD.out HMQ.out.symm HT3.out _ _ _⟩
set_option maxRecDepth 100000 in
set_option maxHeartbeats 8000000 in
theorem does1 : Calls Try.prog 11 #[.pointer (some ⟨g, 0, none⟩), .agg (DocV room lA N lc gA M gc), .agg #[.int .i64 1, .int .i64 wi, .int .i64 ni]] w fun e w' => ∃ v, e = .returned (.tuple #[v, .bool true]) ∧ DoesR g d s room N Dq xb w w' (takeP L Q wi).1.1 (takeP L Q wi).1.2 v := by
  obtain ⟨hlr, hr1, hr8, hN64⟩ := hp.row
  rw [hN] at hN64
  have hbd := hp.bound
  have hB := Bx.new (w := w) (room := room) (lA := lA) (N := N) (lc := lc) (gA := gA) (M := M) (gc := gc) (ki := 1) (wi := wi) (ni := ni)
  obtain ⟨hb0, hz0⟩ := bx_below (w := w) (room := room) (lA := lA) (N := N) (lc := lc) (gA := gA) (M := M) (gc := gc) (ki := 1) (wi := wi) (ni := ni)
  obtain ⟨⟨a0, a1, a2⟩, ⟨d0, d1, d2⟩, ⟨r0, r1, r2⟩, rz0, rz1, rz2⟩ := hB.cells
  have hd0 := (hd.mono (E' := fun k => (¬ PlD d s Dq k ∧ ¬ xb k) ∧ k < w.heap.size) (fun k e hk => ⟨e, hk⟩)).below hb0 (Nat.le_refl _)
  have href := refTake7 room lA gA lc gc L Q _ _ hd0 N M hN hM hN64 (by omega) hr8 hlr wi
  have hpool := fun (W : World) (hb : Below w.heap.size w W) => takeP_any g d s room Dq L Q W (hp.below hb (Nat.le_refl _)) wi (by omega)
  generalize takeP L Q wi = rr at *
  obtain ⟨⟨L2, Q2⟩, n2, ee⟩ := rr
  have HB := Lib.hid hB; have HB0 := Lib.hid hb0; have HREF := Lib.hid href; have HPOOL := Lib.hid hpool; have HBD := Lib.hid hbd; have HXB := Lib.hid hxb; have HZ0 := Lib.hid hz0
  clear hB hb0 href hpool hbd hd0 hd hp hN hM hlr hz0
  go_enter Try.func11, Try.ntmps11
  go_wp2_with fail
  refine HREF.out.mono ?_
  rintro e w1 ⟨v, rfl, lA2, lc2, gA2, gc2, rfl, hdoc, hb1⟩
  rw [HZ0.out] at hdoc hb1
  have hz1 := hb1.size
  rw [HZ0.out] at hz1
  obtain ⟨Mq, hMq⟩ : ∃ m, m = Q2.length := ⟨_, rfl⟩
  rw [← hMq]
  have HMQ := Lib.hid hMq
  clear hMq
  go_upto_region 7 with fail
  obtain ⟨bx, hbx⟩ : ∃ b, b = w1.heap.size := ⟨_, rfl⟩
  rw [← hbx]
  have hbox := Blk.new w1 28 #[.int .i64 (room : Int), .slice lA2 N lc2, .slice gA2 Mq gc2]
  rw [← hbx] at hbox
  have hB1 := (HB.out.fr (Fr.of_below hb1) (fun i hi => .inr hi)).fr (S := fun _ => False) ((Fr.refl _ w1).alloc (.cells #[.int .i64 (room : Int), .slice lA2 N lc2, .slice gA2 Mq gc2] 28)) (fun _ h => h.elim)
  have hbz := (HB0.out.trans (hb1.mono (by omega))).alloc (Nat.le_trans HB0.out.size (by rw [HZ0.out]; exact hz1)) (.cells #[.int .i64 (room : Int), .slice lA2 N lc2, .slice gA2 Mq gc2] 28)
  have hdz := hdoc.alloc (.cells #[.int .i64 (room : Int), .slice lA2 N lc2, .slice gA2 Mq gc2] 28)
  have hzz : w.heap.size + 1 + 1 < (w1.alloc (.cells #[.int .i64 (room : Int), .slice lA2 N lc2, .slice gA2 Mq gc2] 28)).heap.size := by simp; omega
  have hbxl : bx < (w1.alloc (.cells #[.int .i64 (room : Int), .slice lA2 N lc2, .slice gA2 Mq gc2] 28)).heap.size := by simp; omega
  have HDZ := Lib.hid hdz; have HBZ := Lib.hid hbz; have HZZ := Lib.hid hzz
  obtain ⟨c0, c1, c2⟩ := blk3 hbox
  obtain ⟨-, ⟨-, e1, e2⟩, ⟨s0, s1, s2⟩, sz0, sz1, sz2⟩ := hB1.cells
  have hB1' := Lib.hid hB1; have hbox' := Lib.hid hbox
  clear hB1 hbox hdoc hb1 hbz hdz hzz HREF a0 a1 a2 d1 d2 r0 r1 r2 rz0 rz1 rz2
  generalize hWz : w1.alloc (.cells #[.int .i64 (room : Int), .slice lA2 N lc2, .slice gA2 Mq gc2] 28) = Wz at *
  have hpool : ∀ W, Below Wz.heap.size Wz W → Calls Try.prog 24 #[.pointer (some ⟨g, 0, none⟩), .int .i64 wi] W fun e w3 => e = .returned (.tuple #[.int .i64 n2, .int .i64 ee]) ∧ Hid (PreEnd g d s room Dq xb w w3 lA2 gA2 lc2 gc2 L2 Q2) ∧ Hid (Bx w w3 room lA N lc gA M gc 1 wi ni) ∧ (w3.cell? ⟨bx, 0, none⟩ = some (.int .i64 (room : Int)) ∧ w3.cell? ⟨bx, 1, none⟩ = some (.slice lA2 N lc2) ∧ w3.cell? ⟨bx, 2, none⟩ = some (.slice gA2 Mq gc2) ∧ w3.cell? ⟨w.heap.size + 1, 1, none⟩ = some (.int .i64 wi) ∧ w3.cell? ⟨w.heap.size + 1, 2, none⟩ = some (.int .i64 ni)) ∧ (w3.cell? ⟨w.heap.size + 1 + 1, 0, none⟩ = some (.int .i64 0) ∧ w3.cell? ⟨w.heap.size + 1 + 1, 1, none⟩ = some (.slice none 0 0) ∧ w3.cell? ⟨w.heap.size + 1 + 1, 2, none⟩ = some (.slice none 0 0) ∧ w3.frozen? ⟨w.heap.size + 1 + 1, 0, none⟩ = false ∧ w3.frozen? ⟨w.heap.size + 1 + 1, 1, none⟩ = false ∧ w3.frozen? ⟨w.heap.size + 1 + 1, 2, none⟩ = false) := fun W hb => by
    refine (HPOOL.out W (HBZ.out.trans (hb.mono HBZ.out.size))).mono ?_
    rintro e w3 ⟨rfl, ht⟩
    have hf : Fr (PlD d s Dq) W w3 := by obtain ⟨_, _, h2, _⟩ := ht; exact h2
    have hbW := hb.size
    have hBW := (hB1'.out.fr (S := fun i => Wz.heap.size ≤ i) (Fr.of_below hb) (fun i hi => .inr (by have := HZZ.out; omega))).fr hf (fun i hi => .inl (HBD.out i hi))
    obtain ⟨-, ⟨-, g1, g2⟩, ⟨t0, t1, t2⟩, tz0, tz1, tz2⟩ := hBW.cells
    have hbb : Blk w3 bx 28 #[.int .i64 (room : Int), .slice lA2 N lc2, .slice gA2 Mq gc2] := hf.blk (hbox'.out.below hb hbxl) (fun e => by have := HBD.out _ e; omega)
    exact ⟨rfl, Lib.hid ⟨W, HDZ.out.below hb (Nat.le_refl _), HBZ.out.trans (hb.mono HBZ.out.size), Nat.lt_of_lt_of_le HZZ.out hbW, ht⟩, Lib.hid hBW, ⟨(hbb.cell 0).trans rfl, (hbb.cell 1).trans rfl, (hbb.cell 2).trans rfl, g1, g2⟩, t0, t1, t2, tz0, tz1, tz2⟩
  have hk3 : ∀ (W : World) (a b e : Value), (W.cell? ⟨bx, 0, none⟩ = some (.int .i64 (room : Int)) ∧ W.cell? ⟨bx, 1, none⟩ = some (.slice lA2 N lc2) ∧ W.cell? ⟨bx, 2, none⟩ = some (.slice gA2 Mq gc2) ∧ W.cell? ⟨w.heap.size + 1, 1, none⟩ = some (.int .i64 wi) ∧ W.cell? ⟨w.heap.size + 1, 2, none⟩ = some (.int .i64 ni)) → ((((W.setCell ⟨w.heap.size + 1 + 1, 0, none⟩ a).setCell ⟨w.heap.size + 1 + 1, 1, none⟩ b).setCell ⟨w.heap.size + 1 + 1, 2, none⟩ e).cell? ⟨bx, 0, none⟩ = some (.int .i64 (room : Int)) ∧ (((W.setCell ⟨w.heap.size + 1 + 1, 0, none⟩ a).setCell ⟨w.heap.size + 1 + 1, 1, none⟩ b).setCell ⟨w.heap.size + 1 + 1, 2, none⟩ e).cell? ⟨bx, 1, none⟩ = some (.slice lA2 N lc2) ∧ (((W.setCell ⟨w.heap.size + 1 + 1, 0, none⟩ a).setCell ⟨w.heap.size + 1 + 1, 1, none⟩ b).setCell ⟨w.heap.size + 1 + 1, 2, none⟩ e).cell? ⟨bx, 2, none⟩ = some (.slice gA2 Mq gc2) ∧ (((W.setCell ⟨w.heap.size + 1 + 1, 0, none⟩ a).setCell ⟨w.heap.size + 1 + 1, 1, none⟩ b).setCell ⟨w.heap.size + 1 + 1, 2, none⟩ e).cell? ⟨w.heap.size + 1, 1, none⟩ = some (.int .i64 wi) ∧ (((W.setCell ⟨w.heap.size + 1 + 1, 0, none⟩ a).setCell ⟨w.heap.size + 1 + 1, 1, none⟩ b).setCell ⟨w.heap.size + 1 + 1, 2, none⟩ e).cell? ⟨w.heap.size + 1, 2, none⟩ = some (.int .i64 ni)) := fun W a b e g => by
    have hc := fun (p : Addr) (hp : p.block ≠ w.heap.size + 1 + 1) => set3_other W (w.heap.size + 1 + 1) a b e p hp
    exact ⟨(hc _ (by show bx ≠ _; omega)).trans g.1, (hc _ (by show bx ≠ _; omega)).trans g.2.1, (hc _ (by show bx ≠ _; omega)).trans g.2.2.1, (hc _ (by simp)).trans g.2.2.2.1, (hc _ (by simp)).trans g.2.2.2.2⟩
  have HK3 := Lib.hid hk3; have HP2 := Lib.hid hpool
  have hne1 : ¬ bx = w.heap.size + 1 + 1 := by omega
  have hne2 : ¬ w.heap.size + 1 + 1 = bx := by omega
  clear hk3 hpool HPOOL HB HB0 hWz hbx hz1 hbxl
  clear c0 c1 c2 s0 s1 s2 sz0 sz1 sz2 HK3
  go_wp2_with fail
  refine (HP2.out _ (by first | with_reducible exact Below.refl _ _ | exact (Below.refl _ _).drew | exact below_drews (Below.refl _ _) _ | exact (below_drews (Below.refl _ _) _).drew | exact below_drews ((Below.refl _ _).drew) _)).mono ?_
  rintro e w3 ⟨rfl, HT3, HBW, ⟨c0, c1, c2, e3, e4⟩, t0, t1, t2, tz0, tz1, tz2⟩
  clear e1 e2
  all_goals
    go_wp2_with fail
    obtain ⟨f1, f2⟩ : Blk _ _ _ _ ∧ True := ⟨HBW.out.b6.set3 (.int .i64 (room : Int)) (.slice lA2 N lc2) (.slice gA2 Mq gc2), trivial⟩
    refine bodyPost_ret (v := .tuple #[.agg (DocV room lA2 N lc2 gA2 Mq gc2), .bool true]) (res_cell_slot rfl _ _ (w.heap.size + 1 + 1) 28 _ (0, 0) _ _ rfl rfl f1 Try.underlying28 rfl (by kernel_rfl)) rfl ?_
    exact ⟨_, rfl, does_end HXB.out HBD.out HMQ.out.symm HT3.out _ _ _⟩
set_option maxRecDepth 100000 in
set_option maxHeartbeats 8000000 in
theorem does4 (ki : Int) (hk0 : ¬ ki = 0) (hk1 : ¬ ki = 1) (hk2 : ¬ ki = 2) (hk3 : ¬ ki = 3) : Calls Try.prog 11 #[.pointer (some ⟨g, 0, none⟩), .agg (DocV room lA N lc gA M gc), .agg #[.int .i64 ki, .int .i64 wi, .int .i64 ni]] w fun e w' => ∃ v, e = .returned (.tuple #[v, .bool true]) ∧ DoesR g d s room N Dq xb w w' (stealP L Q wi ni).1.1 (stealP L Q wi ni).1.2 v := by
  obtain ⟨hlr, hr1, hr8, hN64⟩ := hp.row
  rw [hN] at hN64
  have hbd := hp.bound
  have hB := Bx.new (w := w) (room := room) (lA := lA) (N := N) (lc := lc) (gA := gA) (M := M) (gc := gc) (ki := ki) (wi := wi) (ni := ni)
  obtain ⟨hb0, hz0⟩ := bx_below (w := w) (room := room) (lA := lA) (N := N) (lc := lc) (gA := gA) (M := M) (gc := gc) (ki := ki) (wi := wi) (ni := ni)
  obtain ⟨⟨a0, a1, a2⟩, ⟨d0, d1, d2⟩, ⟨r0, r1, r2⟩, rz0, rz1, rz2⟩ := hB.cells
  have hd0 := (hd.mono (E' := fun k => (¬ PlD d s Dq k ∧ ¬ xb k) ∧ k < w.heap.size) (fun k e hk => ⟨e, hk⟩)).below hb0 (Nat.le_refl _)
  have href := refSteal7 room lA gA lc gc L Q _ _ hd0 N M hN hM hN64 (by omega) hr8 hlr wi ni
  have hpool := fun (W : World) (hb : Below w.heap.size w W) => stealP_any g d s room Dq L Q W (hp.below hb (Nat.le_refl _)) wi ni
  generalize stealP L Q wi ni = rr at *
  obtain ⟨⟨L2, Q2⟩, n2, ee⟩ := rr
  have HB := Lib.hid hB; have HB0 := Lib.hid hb0; have HREF := Lib.hid href; have HPOOL := Lib.hid hpool; have HBD := Lib.hid hbd; have HXB := Lib.hid hxb; have HZ0 := Lib.hid hz0
  clear hB hb0 href hpool hbd hd0 hd hp hN hM hlr hz0
  go_enter Try.func11, Try.ntmps11
  go_wp2_with fail
  refine HREF.out.mono ?_
  rintro e w1 ⟨v, rfl, lA2, lc2, gA2, gc2, rfl, hdoc, hb1⟩
  rw [HZ0.out] at hdoc hb1
  have hz1 := hb1.size
  rw [HZ0.out] at hz1
  obtain ⟨Mq, hMq⟩ : ∃ m, m = Q2.length := ⟨_, rfl⟩
  rw [← hMq]
  have HMQ := Lib.hid hMq
  clear hMq
  go_upto_region 16 with fail
  obtain ⟨bx, hbx⟩ : ∃ b, b = w1.heap.size := ⟨_, rfl⟩
  rw [← hbx]
  have hbox := Blk.new w1 28 #[.int .i64 (room : Int), .slice lA2 N lc2, .slice gA2 Mq gc2]
  rw [← hbx] at hbox
  have hB1 := (HB.out.fr (Fr.of_below hb1) (fun i hi => .inr hi)).fr (S := fun _ => False) ((Fr.refl _ w1).alloc (.cells #[.int .i64 (room : Int), .slice lA2 N lc2, .slice gA2 Mq gc2] 28)) (fun _ h => h.elim)
  have hbz := (HB0.out.trans (hb1.mono (by omega))).alloc (Nat.le_trans HB0.out.size (by rw [HZ0.out]; exact hz1)) (.cells #[.int .i64 (room : Int), .slice lA2 N lc2, .slice gA2 Mq gc2] 28)
  have hdz := hdoc.alloc (.cells #[.int .i64 (room : Int), .slice lA2 N lc2, .slice gA2 Mq gc2] 28)
  have hzz : w.heap.size + 1 + 1 < (w1.alloc (.cells #[.int .i64 (room : Int), .slice lA2 N lc2, .slice gA2 Mq gc2] 28)).heap.size := by simp; omega
  have hbxl : bx < (w1.alloc (.cells #[.int .i64 (room : Int), .slice lA2 N lc2, .slice gA2 Mq gc2] 28)).heap.size := by simp; omega
  have HDZ := Lib.hid hdz; have HBZ := Lib.hid hbz; have HZZ := Lib.hid hzz
  obtain ⟨c0, c1, c2⟩ := blk3 hbox
  obtain ⟨-, ⟨-, e1, e2⟩, ⟨s0, s1, s2⟩, sz0, sz1, sz2⟩ := hB1.cells
  have hB1' := Lib.hid hB1; have hbox' := Lib.hid hbox
  clear hB1 hbox hdoc hb1 hbz hdz hzz HREF a0 a1 a2 d1 d2 r0 r1 r2 rz0 rz1 rz2
  generalize hWz : w1.alloc (.cells #[.int .i64 (room : Int), .slice lA2 N lc2, .slice gA2 Mq gc2] 28) = Wz at *
  have hpool : ∀ W, Below Wz.heap.size Wz W → Calls Try.prog 25 #[.pointer (some ⟨g, 0, none⟩), .int .i64 wi, .int .i64 ni] W fun e w3 => e = .returned (.tuple #[.int .i64 n2, .int .i64 ee]) ∧ Hid (PreEnd g d s room Dq xb w w3 lA2 gA2 lc2 gc2 L2 Q2) ∧ Hid (Bx w w3 room lA N lc gA M gc ki wi ni) ∧ (w3.cell? ⟨bx, 0, none⟩ = some (.int .i64 (room : Int)) ∧ w3.cell? ⟨bx, 1, none⟩ = some (.slice lA2 N lc2) ∧ w3.cell? ⟨bx, 2, none⟩ = some (.slice gA2 Mq gc2) ∧ w3.cell? ⟨w.heap.size + 1, 1, none⟩ = some (.int .i64 wi) ∧ w3.cell? ⟨w.heap.size + 1, 2, none⟩ = some (.int .i64 ni)) ∧ (w3.cell? ⟨w.heap.size + 1 + 1, 0, none⟩ = some (.int .i64 0) ∧ w3.cell? ⟨w.heap.size + 1 + 1, 1, none⟩ = some (.slice none 0 0) ∧ w3.cell? ⟨w.heap.size + 1 + 1, 2, none⟩ = some (.slice none 0 0) ∧ w3.frozen? ⟨w.heap.size + 1 + 1, 0, none⟩ = false ∧ w3.frozen? ⟨w.heap.size + 1 + 1, 1, none⟩ = false ∧ w3.frozen? ⟨w.heap.size + 1 + 1, 2, none⟩ = false) := fun W hb => by
    refine (HPOOL.out W (HBZ.out.trans (hb.mono HBZ.out.size))).mono ?_
    rintro e w3 ⟨rfl, ht⟩
    have hf : Fr (PlD d s Dq) W w3 := by obtain ⟨_, _, h2, _⟩ := ht; exact h2
    have hbW := hb.size
    have hBW := (hB1'.out.fr (S := fun i => Wz.heap.size ≤ i) (Fr.of_below hb) (fun i hi => .inr (by have := HZZ.out; omega))).fr hf (fun i hi => .inl (HBD.out i hi))
    obtain ⟨-, ⟨-, g1, g2⟩, ⟨t0, t1, t2⟩, tz0, tz1, tz2⟩ := hBW.cells
    have hbb : Blk w3 bx 28 #[.int .i64 (room : Int), .slice lA2 N lc2, .slice gA2 Mq gc2] := hf.blk (hbox'.out.below hb hbxl) (fun e => by have := HBD.out _ e; omega)
    exact ⟨rfl, Lib.hid ⟨W, HDZ.out.below hb (Nat.le_refl _), HBZ.out.trans (hb.mono HBZ.out.size), Nat.lt_of_lt_of_le HZZ.out hbW, ht⟩, Lib.hid hBW, ⟨(hbb.cell 0).trans rfl, (hbb.cell 1).trans rfl, (hbb.cell 2).trans rfl, g1, g2⟩, t0, t1, t2, tz0, tz1, tz2⟩
  have hk3 : ∀ (W : World) (a b e : Value), (W.cell? ⟨bx, 0, none⟩ = some (.int .i64 (room : Int)) ∧ W.cell? ⟨bx, 1, none⟩ = some (.slice lA2 N lc2) ∧ W.cell? ⟨bx, 2, none⟩ = some (.slice gA2 Mq gc2) ∧ W.cell? ⟨w.heap.size + 1, 1, none⟩ = some (.int .i64 wi) ∧ W.cell? ⟨w.heap.size + 1, 2, none⟩ = some (.int .i64 ni)) → ((((W.setCell ⟨w.heap.size + 1 + 1, 0, none⟩ a).setCell ⟨w.heap.size + 1 + 1, 1, none⟩ b).setCell ⟨w.heap.size + 1 + 1, 2, none⟩ e).cell? ⟨bx, 0, none⟩ = some (.int .i64 (room : Int)) ∧ (((W.setCell ⟨w.heap.size + 1 + 1, 0, none⟩ a).setCell ⟨w.heap.size + 1 + 1, 1, none⟩ b).setCell ⟨w.heap.size + 1 + 1, 2, none⟩ e).cell? ⟨bx, 1, none⟩ = some (.slice lA2 N lc2) ∧ (((W.setCell ⟨w.heap.size + 1 + 1, 0, none⟩ a).setCell ⟨w.heap.size + 1 + 1, 1, none⟩ b).setCell ⟨w.heap.size + 1 + 1, 2, none⟩ e).cell? ⟨bx, 2, none⟩ = some (.slice gA2 Mq gc2) ∧ (((W.setCell ⟨w.heap.size + 1 + 1, 0, none⟩ a).setCell ⟨w.heap.size + 1 + 1, 1, none⟩ b).setCell ⟨w.heap.size + 1 + 1, 2, none⟩ e).cell? ⟨w.heap.size + 1, 1, none⟩ = some (.int .i64 wi) ∧ (((W.setCell ⟨w.heap.size + 1 + 1, 0, none⟩ a).setCell ⟨w.heap.size + 1 + 1, 1, none⟩ b).setCell ⟨w.heap.size + 1 + 1, 2, none⟩ e).cell? ⟨w.heap.size + 1, 2, none⟩ = some (.int .i64 ni)) := fun W a b e g => by
    have hc := fun (p : Addr) (hp : p.block ≠ w.heap.size + 1 + 1) => set3_other W (w.heap.size + 1 + 1) a b e p hp
    exact ⟨(hc _ (by show bx ≠ _; omega)).trans g.1, (hc _ (by show bx ≠ _; omega)).trans g.2.1, (hc _ (by show bx ≠ _; omega)).trans g.2.2.1, (hc _ (by simp)).trans g.2.2.2.1, (hc _ (by simp)).trans g.2.2.2.2⟩
  have HK3 := Lib.hid hk3; have HP2 := Lib.hid hpool
  have hne1 : ¬ bx = w.heap.size + 1 + 1 := by omega
  have hne2 : ¬ w.heap.size + 1 + 1 = bx := by omega
  clear hk3 hpool HPOOL HB HB0 hWz hbx hz1 hbxl
  clear c0 c1 c2 s0 s1 s2 sz0 sz1 sz2 HK3
  go_wp2_with fail
  refine (HP2.out _ (by first | with_reducible exact Below.refl _ _ | exact (Below.refl _ _).drew | exact below_drews (Below.refl _ _) _ | exact (below_drews (Below.refl _ _) _).drew | exact below_drews ((Below.refl _ _).drew) _)).mono ?_
  rintro e w3 ⟨rfl, HT3, HBW, ⟨c0, c1, c2, e3, e4⟩, t0, t1, t2, tz0, tz1, tz2⟩
  clear e1 e2
  all_goals
    go_wp2_with fail
    obtain ⟨f1, f2⟩ : Blk _ _ _ _ ∧ True := ⟨HBW.out.b6.set3 (.int .i64 (room : Int)) (.slice lA2 N lc2) (.slice gA2 Mq gc2), trivial⟩
    refine bodyPost_ret (v := .tuple #[.agg (DocV room lA2 N lc2 gA2 Mq gc2), .bool true]) (res_cell_slot rfl _ _ (w.heap.size + 1 + 1) 28 _ (0, 0) _ _ rfl rfl f1 Try.underlying28 rfl (by kernel_rfl)) rfl ?_
    exact ⟨_, rfl, does_end HXB.out HBD.out HMQ.out.symm HT3.out _ _ _⟩
end
theorem put_end {g d s room N : Nat} {xb : Nat → Prop} {Dq : Nat → Prop} {w W w3 w4 : World} {L' : List (List Int)} {Q' : List Int} {lA gA : Option Addr} {lc gc : Nat} (hxb : ∀ k, xb k → k < w.heap.size) (hbd : ∀ i, PlD d s Dq i → i < w.heap.size)
    (hb : Below w.heap.size w W) (hsz : w.heap.size + 1 + 1 < W.heap.size) (ht : PlTurn g d s room Dq W w3 (L', Q')) (hdoc : DocP w4 (fun k => ((¬ PlD d s Dq k ∧ ¬ xb k) ∧ k < w.heap.size) ∨ w3.heap.size ≤ k) lA lc gA gc L' Q') (hb4 : Below w3.heap.size w3 w4) (a b c : Value) :
    DoesR g d s room N Dq xb w (((w4.setCell ⟨w.heap.size + 1 + 1, 0, none⟩ a).setCell ⟨w.heap.size + 1 + 1, 1, none⟩ b).setCell ⟨w.heap.size + 1 + 1, 2, none⟩ c) L' Q' (.agg (DocV room lA N lc gA Q'.length gc)) := by
  obtain ⟨Dq', h1, h2, h3, -⟩ := ht
  have hz := hb.size
  have hz2 := h2.size
  have hz4 := hb4.size
  have hn : ∀ i, PlD d s Dq' i → PlD d s Dq i ∨ (W.heap.size ≤ i ∧ i < w3.heap.size) := fun i hi => by
    rcases hi with e | e
    · rcases h3 i e with e | e
      · exact .inl (.inl e)
      · exact .inr e
    · exact .inl (.inr e)
  have hset := (Fr.refl (fun k => k = w.heap.size + 1 + 1) w4).set3 (g := w.heap.size + 1 + 1) (.inl rfl) a b c
  have hnb : ¬ PlD d s Dq' (w.heap.size + 1 + 1) := fun e => by
    rcases hn _ e with e | e
    · have := hbd _ e; omega
    · omega
  have hd2 := hdoc.fr hset (fun i hi _ e => by rcases hi with hi | hi <;> omega)
  have hfr : Fr (PlD d s Dq) w (((w4.setCell ⟨w.heap.size + 1 + 1, 0, none⟩ a).setCell ⟨w.heap.size + 1 + 1, 1, none⟩ b).setCell ⟨w.heap.size + 1 + 1, 2, none⟩ c) := by
    have f0 := (Fr.of_below hb).mono (S := fun i => w.heap.size ≤ i ∨ PlD d s Dq i) (fun i _ h => .inl h)
    have f1 := h2.mono (S := fun i => w.heap.size ≤ i ∨ PlD d s Dq i) (fun i _ h => .inr h)
    have f3 := (Fr.of_below hb4).mono (S := fun i => w.heap.size ≤ i ∨ PlD d s Dq i) (fun i _ h => .inl (by omega))
    have f2 := hset.mono (S := fun i => w.heap.size ≤ i ∨ PlD d s Dq i) (fun i _ h => .inl (by omega))
    refine (((f0.trans f1 (fun i _ h => h)).trans f3 (fun i _ h => h)).trans f2 (fun i _ h => h)).mono (fun i hi e => ?_)
    rcases e with e | e
    · omega
    · exact e
  refine ⟨Dq', lA, lc, gA, gc, rfl, (h1.below hb4 (Nat.le_refl _)).fr hset (fun i hi => by subst hi; exact hnb), hd2.mono (fun k e _ => ⟨fun e2 => ?_, fun e2 => by rcases e with e | e; exact e.1.2 e2; have := hxb _ e2; omega⟩), hfr, fun i hi => ?_⟩
  · rcases hn k e2 with e3 | e3
    · rcases e with e | e
      · exact e.1.1 e3
      · have := hbd _ e3; omega
    · rcases e with e | e <;> omega
  · rcases hn i hi with e | e
    · exact .inl e
    · exact .inr (by omega)
section
variable (g d s room : Nat) (Dq : Nat → Prop) (L : List (List Int)) (Q : List Int) (w : World) (xb : Nat → Prop) (hxb : ∀ k, xb k → k < w.heap.size) (hp : Pl w g d s room Dq L Q) (lA gA : Option Addr) (lc gc : Nat) (hd : DocP w (fun k => ¬ PlD d s Dq k ∧ ¬ xb k) lA lc gA gc L Q) (N M : Nat) (hN : L.length = N) (hM : Q.length = M) (hM6 : M ≤ 100000) (wi ni : Int)
include hxb hp hd hN hM hM6
set_option maxRecDepth 100000 in
set_option maxHeartbeats 8000000 in
theorem does2 : Calls Try.prog 11 #[.pointer (some ⟨g, 0, none⟩), .agg (DocV room lA N lc gA M gc), .agg #[.int .i64 2, .int .i64 wi, .int .i64 ni]] w fun e w' => ∃ v, e = .returned (.tuple #[v, .bool true]) ∧ DoesR g d s room N Dq xb w w' L (Q ++ [ni]) v := by
  obtain ⟨hlr, hr1, hr8, hN64⟩ := hp.row
  rw [hN] at hN64
  have hbd := hp.bound
  have hB := Bx.new (w := w) (room := room) (lA := lA) (N := N) (lc := lc) (gA := gA) (M := M) (gc := gc) (ki := 2) (wi := wi) (ni := ni)
  obtain ⟨hb0, hz0⟩ := bx_below (w := w) (room := room) (lA := lA) (N := N) (lc := lc) (gA := gA) (M := M) (gc := gc) (ki := 2) (wi := wi) (ni := ni)
  obtain ⟨⟨a0, a1, a2⟩, ⟨d0, d1, d2⟩, ⟨r0, r1, r2⟩, rz0, rz1, rz2⟩ := hB.cells
  have hd0 := (hd.mono (E' := fun k => (¬ PlD d s Dq k ∧ ¬ xb k) ∧ k < w.heap.size) (fun k e hk => ⟨e, hk⟩)).below hb0 (Nat.le_refl _)
  obtain ⟨W0, hW0⟩ : ∃ W, W = bxW w room lA N lc gA M gc 2 wi ni := ⟨_, rfl⟩
  rw [← hW0] at hB hb0 hz0 a0 a1 a2 d2 r0 r1 r2 rz0 rz1 rz2 hd0
  have hput : ∀ W, Below W0.heap.size W0 W → Calls Try.prog 35 #[.pointer (some ⟨g, 0, none⟩), .int .i64 ni] W fun e w3 => e = .returned (.tuple #[]) ∧ Hid (∃ W, Below w.heap.size w W ∧ w.heap.size + 1 + 1 < W.heap.size ∧ PlTurn g d s room Dq W w3 (L, Q ++ [ni]) ∧ DocP w3 (fun k => (¬ PlD d s Dq k ∧ ¬ xb k) ∧ k < w.heap.size) lA lc gA gc L Q) ∧ Hid (Bx w w3 room lA N lc gA M gc 2 wi ni) ∧ (w3.cell? ⟨w.heap.size, 0, none⟩ = some (.int .i64 (room : Int)) ∧ w3.cell? ⟨w.heap.size, 1, none⟩ = some (.slice lA N lc) ∧ w3.cell? ⟨w.heap.size, 2, none⟩ = some (.slice gA M gc) ∧ w3.cell? ⟨w.heap.size + 1, 2, none⟩ = some (.int .i64 ni)) := fun W hb => by
    have hpW := hp.below (hb0.trans (hb.mono hb0.size)) (Nat.le_refl _)
    obtain ⟨⟨rs, hr1, hr2⟩, -⟩ := id hpW
    refine (put_q g _ Dq rs W ni hr1 (by rw [hr2]; omega)).mono ?_
    rintro e w3 ⟨rfl, rs', q1, q2, q3⟩
    have ⟨p1, p2⟩ := hpW.que q3 q1 (fun i hi => hi)
    rw [q2, hr2] at p1
    have hbW := hb.size
    have hBW := (hB.fr (S := fun i => W0.heap.size ≤ i) (Fr.of_below hb) (fun i hi => .inr (by omega))).fr p2 (fun i hi => .inl (hbd i hi))
    obtain ⟨⟨g0, g1, g2⟩, ⟨-, -, g3⟩, -⟩ := hBW.cells
    exact ⟨rfl, Lib.hid ⟨W, hb0.trans (hb.mono hb0.size), by omega, ⟨_, p1, p2, fun i hi => hi, rfl⟩, (hd0.below hb (Nat.le_refl _)).fr p2 (fun i hi _ => hi.1.1)⟩, Lib.hid hBW, g0, g1, g2, g3⟩
  have HPUT := Lib.hid hput; have HBD := Lib.hid hbd; have HXB := Lib.hid hxb; have HN := Lib.hid hN; have HM := Lib.hid hM; have HLR := Lib.hid hlr
  clear hput hbd hB hb0 hd0 hd hp hN hM hlr hz0 r0 r1 r2 rz0 rz1 rz2
  go_enter Try.func11, Try.ntmps11
  go_upto_region 10 with fail
  rw [show (((w.alloc (.cells (DocV room lA N lc gA M gc) 28)).alloc (.cells #[.int .i64 2, .int .i64 wi, .int .i64 ni] 34)).alloc (.cells #[.int .i64 0, .slice none 0 0, .slice none 0 0] 28)) = W0 from hW0.symm]
  clear hW0
  go_region_held3 (fun w' => w'.cell? ⟨w.heap.size, 0, none⟩ = some (.int .i64 (room : Int)) ∧ w'.cell? ⟨w.heap.size, 1, none⟩ = some (.slice lA N lc) ∧ w'.cell? ⟨w.heap.size, 2, none⟩ = some (.slice gA M gc) ∧ w'.cell? ⟨w.heap.size + 1, 2, none⟩ = some (.int .i64 ni))
    (first | with_reducible exact ⟨a0, a1, a2, d2⟩ | with_reducible exact G3 | go_keep)
    (first
      | (go_simp; with_reducible refine (HPUT.out _ (by first | with_reducible exact Below.refl _ _ | exact (Below.refl _ _).drew | exact below_drews (Below.refl _ _) _ | exact (below_drews (Below.refl _ _) _).drew | exact below_drews ((Below.refl _ _).drew) _)).mono ?_
         rintro e w3 ⟨rfl, HT3, HBW, G3⟩)
      | fail)
  all_goals
    obtain ⟨c0, c1, c2, e2⟩ := G3
    obtain ⟨Wc, k1, k2, k3, k4⟩ := HT3.out
    have HREF := Lib.hid (refPut7 room lA gA lc gc L Q w3 _ k4 N M HN.out HM.out hN64 (by omega) hr8 HLR.out ni)
    have HK2 := Lib.hid k2; have HK1 := Lib.hid k1; have HK3 := Lib.hid k3
    have hz3 : w.heap.size + 1 + 1 + 1 ≤ w3.heap.size := HBW.out.b6.lt
    have HZ3 := Lib.hid hz3
    clear k1 k2 k3 k4 a0 a1 a2 d2 hz3
    go_wp2_with fail
    refine HREF.out.mono ?_
    rintro e w4 ⟨v, rfl, lA2, lc2, gA2, gc2, rfl, hdoc, hb4⟩
    have hBW4 := HBW.out.fr (Fr.of_below hb4) (fun i hi => .inr (Nat.le_trans HZ3.out hi))
    obtain ⟨-, -, ⟨s0, s1, s2⟩, sz0, sz1, sz2⟩ := hBW4.cells
    obtain ⟨Mq, hMq⟩ : ∃ m, m = (Q ++ [ni]).length := ⟨_, rfl⟩
    rw [← hMq]
    have HMQ := Lib.hid hMq; have HB4 := Lib.hid hb4; have HDC := Lib.hid hdoc; have HBW4 := Lib.hid hBW4
    clear hMq hb4 hdoc hBW4
    go_wp2_with fail
    obtain ⟨f1, f2⟩ : Blk _ _ _ _ ∧ True := ⟨HBW4.out.b6.set3 (.int .i64 (room : Int)) (.slice lA2 N lc2) (.slice gA2 Mq gc2), trivial⟩
    refine bodyPost_ret (v := .tuple #[.agg (DocV room lA2 N lc2 gA2 Mq gc2), .bool true]) (res_cell_slot rfl _ _ (w.heap.size + 1 + 1) 28 _ (0, 0) _ _ rfl rfl f1 Try.underlying28 rfl (by kernel_rfl)) rfl ?_
    rw [HMQ.out] at f1 ⊢
    exact ⟨_, rfl, put_end HXB.out HBD.out HK1.out HK2.out HK3.out HDC.out HB4.out _ _ _⟩
set_option maxHeartbeats 1000000 in
theorem does_any (ki : Int) : Calls Try.prog 11 #[.pointer (some ⟨g, 0, none⟩), .agg (DocV room lA N lc gA M gc), .agg #[.int .i64 ki, .int .i64 wi, .int .i64 ni]] w fun e w' => ∃ v, e = .returned (.tuple #[v, .bool true]) ∧ DoesR g d s room N Dq xb w w' (doesP room L Q ki wi ni).1 (doesP room L Q ki wi ni).2 v := by
  unfold doesP
  by_cases h0 : ki = 0
  · subst h0
    rw [if_pos rfl]
    exact does0 g d s room Dq L Q w xb hxb hp lA gA lc gc hd N M hN hM hM6 wi ni
  · rw [if_neg h0]
    by_cases h1 : ki = 1
    · subst h1
      rw [if_pos rfl]
      exact does1 g d s room Dq L Q w xb hxb hp lA gA lc gc hd N M hN hM hM6 wi ni
    · rw [if_neg h1]
      by_cases h2 : ki = 2
      · subst h2
        rw [if_pos rfl]
        exact does2 g d s room Dq L Q w xb hxb hp lA gA lc gc hd N M hN hM hM6 wi ni
      · rw [if_neg h2]
        by_cases h3 : ki = 3
        · subst h3
          rw [if_pos rfl]
          exact does3 g d s room Dq L Q w xb hxb hp lA gA lc gc hd N M hN hM hM6 wi ni
        · rw [if_neg h3]
          exact does4 g d s room Dq L Q w xb hxb hp lA gA lc gc hd N M hN hM hM6 wi ni ki h0 h1 h2 h3
end
end Go.Proofs.Ytipflplilkecjaa
