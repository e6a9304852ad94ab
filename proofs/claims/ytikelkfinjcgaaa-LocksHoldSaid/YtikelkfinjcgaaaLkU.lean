
/-
  The document's Unlock.
-/
import Derived.Test.YtikelkfinjcgaaaLkT2
set_option linter.unusedVariables false
set_option linter.unusedSimpArgs false
namespace Go.Proofs.Ytikelkfinjcgaaa
open Go.RowKit Plain

/-- A state whose conditions' rows are its own still. -/
structure DocW (w' : World) (u b3 b4 : Nat) (z : LkQ) (p q n : Nat) (s : Lk) : Prop where
  lo : s.own.length = p
  ln : s.cnt.length = n
  ll : s.lq.length = p
  lw : s.wq.length = q
  ld : s.dq.length = n
  own : RN w' (fun k => u ≤ k ∧ (k < b3 ∨ b4 ≤ k)) z.A0 z.d0 s.own
  cnt : RN w' (fun k => u ≤ k ∧ (k < b3 ∨ b4 ≤ k)) z.A1 z.d1 s.cnt
  lq : RNs w' (fun k => u ≤ k ∧ (k < b3 ∨ b4 ≤ k)) z.A2 z.d2 s.lq
  wq : OwnSS w' b3 b4 (.slice z.A3 q z.d3) s.wq
  dq : RNs w' (fun k => u ≤ k ∧ (k < b3 ∨ b4 ≤ k)) z.A4 z.d4 s.dq
  hb : u ≤ b3 ∧ b3 ≤ b4 ∧ b4 ≤ w'.heap.size
section
variable {w w' W W2 : World} {S : Nat → Prop} {u b0 b1 b2 b3 b4 b5 p q n : Nat} {z : LkQ} {s : Lk}
theorem DocW.fr (h : DocW w u b3 b4 z p q n s) (hf : Fr S w w') (hS : ∀ i, u ≤ i → i < w.heap.size → ¬ S i) : DocW w' u b3 b4 z p q n s :=
  ⟨h.lo, h.ln, h.ll, h.lw, h.ld, h.own.fr hf (fun i hi => hS i hi.1), h.cnt.fr hf (fun i hi => hS i hi.1), h.lq.fr hf (fun i hi => hS i hi.1), by
    obtain ⟨vs, h1, h2, h3, h4⟩ := h.wq
    have hb := h.hb
    refine ⟨vs, hf.own h1 (fun i hi => hS i (by have := (own_blk h1 hi).1; omega) (own_blk h1 hi).2.1), h2, fun i l hi => ?_, h4⟩
    obtain ⟨x, e, hx, hl⟩ := h3 i l hi
    exact ⟨x, e, hf.own hx (fun k hk => hS k (by have := (own_blk hx hk).1; omega) (own_blk hx hk).2.1), hl⟩, h.dq.fr hf (fun i hi => hS i hi.1), h.hb.1, h.hb.2.1, Nat.le_trans h.hb.2.2 hf.size⟩
theorem DocW.doc (h : DocW w u b3 b4 z p q n s) : DocC w (fun k => u ≤ k) z p q n s := by
  have hb := h.hb
  have hwq : RNs w (fun k => u ≤ k) z.A3 z.d3 s.wq := (h.wq.owns (E := fun k => u ≤ k) (fun k hk _ => by omega)).rns (fun k hk => by
      obtain ⟨vs, h1, _⟩ := h.wq
      have := (own_blk h1 hk).1
      omega)
  exact ⟨h.lo, h.ln, h.ll, h.lw, h.ld, h.own.mono (fun k hk _ => hk.1), h.cnt.mono (fun k hk _ => hk.1), h.lq.mono (fun k hk _ => hk.1), hwq, h.dq.mono (fun k hk _ => hk.1)⟩
/-- A condition's row has turned. -/
theorem DocW.turn (h : DocW w u b3 b4 z p q n s) {L : List (List Int)} (hf : Fr (fun k => b3 ≤ k ∧ k < b4) w w') (hs : OwnS w' b3 (fun k => b3 ≤ k) (.slice z.A3 q z.d3) L) (hl : L.length = s.wq.length) : DocC w' (fun k => u ≤ k) z p q n { s with wq := L } := by
  have hb := h.hb
  have hrn : RNs w' (fun k => b3 ≤ k) z.A3 z.d3 L := OwnS.rns hs (fun k hk => by obtain ⟨vs, h1, _⟩ := hs; exact (own_blk h1 hk).1)
  exact ⟨h.lo, h.ln, h.ll, by rw [← h.lw]; exact hl, h.ld, (h.own.fr hf (fun k hk _ e => by omega)).mono (fun k hk _ => hk.1), (h.cnt.fr hf (fun k hk _ e => by omega)).mono (fun k hk _ => hk.1), (h.lq.fr hf (fun k hk _ e => by omega)).mono (fun k hk _ => hk.1), hrn.mono (fun k hk _ => by omega), (h.dq.fr hf (fun k hk _ e => by omega)).mono (fun k hk _ => hk.1)⟩
theorem rns_iv {B T u b3 b4 : Nat} {A : Option Addr} {m c : Nat} {L : List (List Int)} (hS : OwnSS w B T (.slice A m c) L) (h1 : u ≤ B) (h2 : T ≤ b3 ∨ b4 ≤ B) : RNs w (fun k => u ≤ k ∧ (k < b3 ∨ b4 ≤ k)) A c L :=
  (hS.owns (E := fun k => u ≤ k ∧ (k < b3 ∨ b4 ≤ k)) (fun k hk hk2 => ⟨by omega, by omega⟩)).rns (fun k hk => by
      obtain ⟨vs, h1, h2, _⟩ := hS
      have := (own_blk h1 hk).1
      have := h2 k hk
      exact ⟨by omega, by omega⟩)
theorem rn_iv {b T u b3 b4 : Nat} {A : Option Addr} {m c : Nat} {l : List Int} (hl : l.length = m) (h : OwnI w b (.slice A m c) l) (hT : ∀ k, (Value.slice A m c).ownBlock = some k → k < T) (h1 : u ≤ b) (h2 : T ≤ b3) : RN w (fun k => u ≤ k ∧ (k < b3 ∨ b4 ≤ k)) A c l := by
  have h0 := RN.of_owns hl h
  refine ⟨h0.1, fun hn => ?_⟩
  obtain ⟨ad, e, hd, hb, hc⟩ := h0.2 hn
  obtain ⟨b', c', cs, e1, _, _, _, e2, _⟩ := own_form h hn
  injection e1 with e1 _ _
  rw [e] at e1
  injection e1 with e1
  subst e1
  have := hT _ e2
  exact ⟨_, e, ⟨by simp only at hd ⊢; omega, .inl (by simp only; omega)⟩, hb, hc⟩
theorem DB.w_ (h : DB w W b0 b1 b2 b3 b4 b5 z p q n s) : Blk W w.heap.size 27 (mkC z p q n) ∧ Blk W (w.heap.size + 1) 27 zeroC ∧ Below w.heap.size w W ∧ DocW W (w.heap.size + 2) b3 b4 z p q n s := by
  obtain ⟨o1, o2, o3, o4, o5, o6⟩ := h.d.o
  have hlt := h.lt
  exact ⟨h.k, h.r, h.l, h.d.lo, h.d.ln, h.d.ll, h.d.lw, h.d.ld, rn_iv h.d.lo h.d.own h.d.ownT (by omega) (by omega), rn_iv h.d.ln h.d.cnt h.d.cntT (by omega) (by omega), rns_iv h.d.lq (by omega) (.inl (by omega)), h.d.wq, rns_iv h.d.dq (by omega) (.inr (by omega)), by omega, by omega, by omega⟩
theorem DB.turnLqW (h : DB w W b0 b1 b2 b3 b4 b5 z p q n s) {L : List (List Int)} (hf : Fr (fun k => b2 ≤ k ∧ k < b3) W W2) (hs : OwnS W2 b2 (fun k => b2 ≤ k ∧ k < b3) (.slice z.A2 p z.d2) L) (hl : L.length = s.lq.length) : Blk W2 w.heap.size 27 (mkC z p q n) ∧ Blk W2 (w.heap.size + 1) 27 zeroC ∧ Below w.heap.size w W2 ∧ DocW W2 (w.heap.size + 2) b3 b4 z p q n { s with lq := L } := by
  obtain ⟨o1, o2, o3, o4, o5, o6⟩ := h.d.o
  have hlt := h.lt
  have hob : ∀ k, (Value.slice z.A2 p z.d2).ownBlock = some k → b2 ≤ k ∧ k < b3 := fun k hk => by
    obtain ⟨vs, h1, h2, _⟩ := h.d.lq
    exact ⟨(own_blk h1 hk).1, h2 k hk⟩
  have hrn : RNs W2 (fun k => b2 ≤ k ∧ k < b3) z.A2 z.d2 L := OwnS.rns hs hob
  have hwq := h.d.wq.fr hf (fun k h1 h2 e => by omega)
  have hdq := h.d.dq.fr hf (fun k h1 h2 e => by omega)
  have hown := hf.own h.d.own (fun k hk e => by have := h.d.ownT k hk; omega)
  have hcnt := hf.own h.d.cnt (fun k hk e => by have := h.d.cntT k hk; omega)
  exact ⟨hf.blk h.k (by omega), hf.blk h.r (by omega), h.l.trans (hf.below h.l.size (fun i hi => by omega)), h.d.lo, h.d.ln, by rw [← h.d.ll]; exact hl, h.d.lw, h.d.ld, rn_iv h.d.lo hown h.d.ownT (by omega) (by omega), rn_iv h.d.ln hcnt h.d.cntT (by omega) (by omega), hrn.mono (fun k hk _ => ⟨by omega, .inl (by omega)⟩), hwq, rns_iv hdq (by omega) (.inr (by omega)), by omega, by omega, by have := hf.size; omega⟩
theorem w_drew {w W : World} {z : LkQ} {b3 b4 p q n : Nat} {s : Lk} (h : Hid (Blk W w.heap.size 27 (mkC z p q n) ∧ Blk W (w.heap.size + 1) 27 zeroC ∧ Below w.heap.size w W ∧ DocW W (w.heap.size + 2) b3 b4 z p q n s)) :
    Hid (Blk W.drew w.heap.size 27 (mkC z p q n) ∧ Blk W.drew (w.heap.size + 1) 27 zeroC ∧ Below w.heap.size w W.drew ∧ DocW W.drew (w.heap.size + 2) b3 b4 z p q n s) :=
  Lib.hid ⟨h.out.1, h.out.2.1, h.out.2.2.1.drew, h.out.2.2.2.fr (S := fun _ => False) ((Fr.refl _ W).drew) (fun _ _ _ h => h)⟩
end
/-- A row of them is put in, within its blocks. -/
theorem OwnSS.put2 {W1 : World} {B T : Nat} {v : Value} {L : List (List Int)} (h : OwnSS W1 B T v L) {b n cap i : Nat} (hv : v = .slice (some ⟨b, 0, none⟩) n cap) (hi : i < L.length) {A : Option Addr} {c : Nat} {l : List Int} (hr : RN W1 (fun k => B ≤ k ∧ k < T ∧ k ≠ b) A c l) :
    OwnS (W1.setCell ⟨b, i, none⟩ (.slice A l.length c)) B (fun k => B ≤ k ∧ k < T) v (L.set i l) := by
  obtain ⟨a1, a2⟩ := h.put hv hi hr
  have hb : v.ownBlock = some b := by rw [hv]; rfl
  obtain ⟨vs, h1, h2, h3, h4⟩ := h
  have hos : OwnS W1 B (fun k => B ≤ k ∧ k < T ∧ k ≠ b) v L := by
    refine ⟨vs, h1, fun j l' hj => ?_⟩
    obtain ⟨y, e, hy, hyl⟩ := h3 j l' hj
    obtain ⟨A2, c2, e2, _, _⟩ := hy.slice
    subst e2
    refine ⟨A2, c2, e, (RN.of_own hy).1, fun h5 => ?_⟩
    obtain ⟨ad, e3, hd, hbl, hc⟩ := (RN.of_own hy).2 h5
    obtain ⟨b2, cc, cs, e4, _, _, _, ho, _⟩ := own_form hy h5
    injection e4 with e5 _ _
    rw [e3] at e5
    injection e5 with e5
    subst e5
    exact ⟨_, e3, ⟨hd, hyl _ ho, fun e6 => own_ne hy h1 tI_ne_tS ho (by rw [hb, ← e6])⟩, hbl, hc⟩
  exact (hos.set hv hi (fun k hk => hk.2.2) hr).mono (fun k hk _ => ⟨hk.1, hk.2.1⟩)
set_option maxRecDepth 100000 in
set_option maxHeartbeats 8000000 in
theorem refUnlock_no (w : World) (E : Nat → Prop) (z : LkQ) (p q n : Nat) (s : Lk) (h : DocC w E z p q n s) (m : Nat) (hm : m < p) (t : Int) (hx : gn s.own m ≠ t) :
    Calls Try.prog 44 #[.agg (mkC z p q n), .int .i64 (m : Int), .int .i64 t] w fun e w' => e = .returned (.tuple #[.agg (mkC z p q n), .int .i64 (-1), .int .i64 10]) ∧ Below w.heap.size w w' := by
  have q1 : (m : Int) < (p : Int) := by omega
  have q0 : (0 : Int) ≤ (m : Int) := by omega
  have hmo : m < s.own.length := by rw [h.lo]; exact hm
  obtain ⟨ad, e1, e2, e3, e4⟩ := h.own.at_ hmo
  obtain ⟨W0, hW0⟩ : ∃ W, W = (w.alloc (.cells (mkC z p q n) 27)).alloc (.cells zeroC 27) := ⟨_, rfl⟩
  have k0 : Blk W0 w.heap.size 27 (mkC z p q n) := by rw [hW0]; exact (Blk.new w _ _).alloc _
  have r0 : Blk W0 (w.heap.size + 1) 27 zeroC := by rw [hW0]; simpa using Blk.new (w.alloc (.cells (mkC z p q n) 27)) 27 zeroC
  have l0 : Below w.heap.size w W0 := by rw [hW0]; exact ((Below.refl _ w).alloc (Nat.le_refl _) _).alloc (by simp) _
  have e5 : W0.cell? (ad.add m) = some (.int .i64 (gn s.own m)) := (l0.cell (p := ad.add m) (by rw [block_of_add]; exact e3)).trans e4
  obtain ⟨x0, x1, x2, x3, x4, x5, x6, x7, x8, x9⟩ := blk10 k0
  obtain ⟨s0, s1, s2, s3, s4, s5, s6, s7, s8, s9⟩ := blk10 r0
  have t0 := r0.frozen 0
  have t1 := r0.frozen 1
  have t2 := r0.frozen 2
  have t3 := r0.frozen 3
  have t4 := r0.frozen 4
  have t5 := r0.frozen 5
  have t6 := r0.frozen 6
  have t7 := r0.frozen 7
  have t8 := r0.frozen 8
  have t9 := r0.frozen 9
  have hB := r0.set10 (.int .i64 0) (.slice none 0 0) (.slice z.A0 p z.d0) (.slice z.A1 n z.d1) (.slice none 0 0) (.slice z.A2 p z.d2) (.slice z.A3 q z.d3) (.slice z.A4 n z.d4) (.slice none 0 0) (.slice none 0 0)
  have hF := fr_set10 W0 (w.heap.size + 1) (.int .i64 0) (.slice none 0 0) (.slice z.A0 p z.d0) (.slice z.A1 n z.d1) (.slice none 0 0) (.slice z.A2 p z.d2) (.slice z.A3 q z.d3) (.slice z.A4 n z.d4) (.slice none 0 0) (.slice none 0 0)
  have hL := l0.trans (hF.below l0.size (fun i hi => by omega))
  rw [e1] at hB hL
  have HW0 := Lib.hid hW0; have HBL := Lib.hid (⟨hB, hL⟩ : _ ∧ _)
  rw [e1] at x2
  generalize gn s.own m = y at *
  have hx2 : (y == t) = false := by simpa using hx
  have HE1 := Lib.hid e1
  clear hW0 k0 r0 l0 h e4 hB hF hL hmo e1 e2
  go_enter Try.func44, Try.ntmps44
  go_upto_region 1 with fail
  rw [← HW0.out]
  clear HW0
  go_wp2_with fail
  refine bodyPost_ret (v := .tuple #[.agg #[.int .i64 0, .slice none 0 0, .slice (some ad) p z.d0, .slice z.A1 n z.d1, .slice none 0 0, .slice z.A2 p z.d2, .slice z.A3 q z.d3, .slice z.A4 n z.d4, .slice none 0 0, .slice none 0 0], .int .i64 (-1), .int .i64 10]) (res9_2 rfl _ _ (w.heap.size + 1) 27 _ (0, 0) _ _ _ rfl rfl rfl HBL.out.1 Try.underlying27 rfl (by kernel_rfl)) rfl ?_
  exact ⟨by rw [← show z.A0 = some ad from HE1.out], HBL.out.2⟩
def DocWE (w' : World) (u : Nat) (z : LkQ) (p q n : Nat) (s : Lk) : Prop := ∃ b3 b4, DocW w' u b3 b4 z p q n s
theorem docw_fin {w W : World} {z : LkQ} {b3 b4 p q n : Nat} {s : Lk} (hr : Blk W (w.heap.size + 1) 27 zeroC) (hl : Below w.heap.size w W) (hd : DocW W (w.heap.size + 2) b3 b4 z p q n s) :
    Blk ((((((((((W.setCell ⟨w.heap.size + 1, 0, none⟩ (.int .i64 0)).setCell ⟨w.heap.size + 1, 1, none⟩ (.slice none 0 0)).setCell ⟨w.heap.size + 1, 2, none⟩ (.slice z.A0 p z.d0)).setCell ⟨w.heap.size + 1, 3, none⟩ (.slice z.A1 n z.d1)).setCell ⟨w.heap.size + 1, 4, none⟩ (.slice none 0 0)).setCell ⟨w.heap.size + 1, 5, none⟩ (.slice z.A2 p z.d2)).setCell ⟨w.heap.size + 1, 6, none⟩ (.slice z.A3 q z.d3)).setCell ⟨w.heap.size + 1, 7, none⟩ (.slice z.A4 n z.d4)).setCell ⟨w.heap.size + 1, 8, none⟩ (.slice none 0 0)).setCell ⟨w.heap.size + 1, 9, none⟩ (.slice none 0 0)) (w.heap.size + 1) 27 (mkC z p q n) ∧ DocW ((((((((((W.setCell ⟨w.heap.size + 1, 0, none⟩ (.int .i64 0)).setCell ⟨w.heap.size + 1, 1, none⟩ (.slice none 0 0)).setCell ⟨w.heap.size + 1, 2, none⟩ (.slice z.A0 p z.d0)).setCell ⟨w.heap.size + 1, 3, none⟩ (.slice z.A1 n z.d1)).setCell ⟨w.heap.size + 1, 4, none⟩ (.slice none 0 0)).setCell ⟨w.heap.size + 1, 5, none⟩ (.slice z.A2 p z.d2)).setCell ⟨w.heap.size + 1, 6, none⟩ (.slice z.A3 q z.d3)).setCell ⟨w.heap.size + 1, 7, none⟩ (.slice z.A4 n z.d4)).setCell ⟨w.heap.size + 1, 8, none⟩ (.slice none 0 0)).setCell ⟨w.heap.size + 1, 9, none⟩ (.slice none 0 0)) (w.heap.size + 2) b3 b4 z p q n s ∧ Below w.heap.size w ((((((((((W.setCell ⟨w.heap.size + 1, 0, none⟩ (.int .i64 0)).setCell ⟨w.heap.size + 1, 1, none⟩ (.slice none 0 0)).setCell ⟨w.heap.size + 1, 2, none⟩ (.slice z.A0 p z.d0)).setCell ⟨w.heap.size + 1, 3, none⟩ (.slice z.A1 n z.d1)).setCell ⟨w.heap.size + 1, 4, none⟩ (.slice none 0 0)).setCell ⟨w.heap.size + 1, 5, none⟩ (.slice z.A2 p z.d2)).setCell ⟨w.heap.size + 1, 6, none⟩ (.slice z.A3 q z.d3)).setCell ⟨w.heap.size + 1, 7, none⟩ (.slice z.A4 n z.d4)).setCell ⟨w.heap.size + 1, 8, none⟩ (.slice none 0 0)).setCell ⟨w.heap.size + 1, 9, none⟩ (.slice none 0 0)) := by
  have hF := fr_set10 W (w.heap.size + 1) (.int .i64 0) (.slice none 0 0) (.slice z.A0 p z.d0) (.slice z.A1 n z.d1) (.slice none 0 0) (.slice z.A2 p z.d2) (.slice z.A3 q z.d3) (.slice z.A4 n z.d4) (.slice none 0 0) (.slice none 0 0)
  exact ⟨hr.set10 _ _ _ _ _ _ _ _ _ _, hd.fr hF (fun i hi _ e => by omega), hl.trans (hF.below hl.size (fun i hi => by omega))⟩
theorem docw_drew {w W : World} {z : LkQ} {b3 b4 p q n : Nat} {s : Lk} (h : Blk W (w.heap.size + 1) 27 (mkC z p q n) ∧ DocW W (w.heap.size + 2) b3 b4 z p q n s ∧ Below w.heap.size w W) :
    Blk W.drew (w.heap.size + 1) 27 (mkC z p q n) ∧ DocW W.drew (w.heap.size + 2) b3 b4 z p q n s ∧ Below w.heap.size w W.drew :=
  ⟨h.1, h.2.1.fr (S := fun _ => False) ((Fr.refl _ W).drew) (fun _ _ _ h => h), h.2.2.drew⟩
set_option maxRecDepth 100000 in
set_option maxHeartbeats 8000000 in
theorem refUnlock_none (w : World) (E : Nat → Prop) (z : LkQ) (p q n : Nat) (s : Lk) (h : DocC w E z p q n s) (hs : SzL s) (m : Nat) (hm : m < p) (t : Int) (hx : gn s.own m = t) (hr0 : gl s.lq m = []) :
    Calls Try.prog 44 #[.agg (mkC z p q n), .int .i64 (m : Int), .int .i64 t] w fun e w' => ∃ z' : LkQ, e = .returned (.tuple #[.agg (mkC z' p q n), .int .i64 (-1), .int .i64 0]) ∧ DocWE w' (w.heap.size + 2) z' p q n { s with own := s.own.set m (-1) } ∧ Below w.heap.size w w' := by
  obtain ⟨i0, hi0, hz0, hz1, hz2⟩ := info_parts info_int
  have hpa : p ≤ 100000 := by have := hs.a; have := h.lo; omega
  have hna : n ≤ 100000 := by have := hs.b; have := h.ln; omega
  have hqa : q ≤ 100000 := by have := hs.c; have := h.lw; omega
  have q1 : (m : Int) < (p : Int) := by omega
  have q0 : (0 : Int) ≤ (m : Int) := by omega
  go_enter Try.func44, Try.ntmps44
  obtain ⟨W0, hW0⟩ : ∃ W, W = (w.alloc (.cells (mkC z p q n) 27)).alloc (.cells zeroC 27) := ⟨_, rfl⟩
  have k0 : Blk W0 w.heap.size 27 (mkC z p q n) := by rw [hW0]; exact (Blk.new w _ _).alloc _
  have r0 : Blk W0 (w.heap.size + 1) 27 zeroC := by rw [hW0]; simpa using Blk.new (w.alloc (.cells (mkC z p q n) 27)) 27 zeroC
  have l0 : Below w.heap.size w W0 := by rw [hW0]; exact ((Below.refl _ w).alloc (Nat.le_refl _) _).alloc (by simp) _
  have z0 : W0.heap.size = w.heap.size + 1 + 1 := by rw [hW0]; simp
  have hmo0 : m < s.own.length := by rw [h.lo]; exact hm
  obtain ⟨ad0, c1, c2, c3, c4⟩ := h.own.at_ hmo0
  have c5 : W0.cell? (ad0.add m) = some (.int .i64 (gn s.own m)) := (l0.cell (p := ad0.add m) (by rw [block_of_add]; exact c3)).trans c4
  rw [hx] at c5
  have co := own_any W0 E z p q n s (h.below l0 (Nat.le_refl _)) hs
  have HW0 := Lib.hid hW0; have K0 := Lib.hid k0; have R0 := Lib.hid r0; have L0 := Lib.hid l0; have Z0 := Lib.hid z0; have CO := Lib.hid co
  clear hW0 k0 r0 l0 z0 co h hs c2 c3 c4 hmo0
  go_upto_region 1 with fail
  rw [← HW0.out]
  clear HW0
  obtain ⟨x0, x1, x2, x3, x4, x5, x6, x7, x8, x9⟩ := blk10 K0.out
  have C1 := Lib.hid c1
  rw [c1] at x2
  rw [show mkC z p q n = mkC { z with A0 := some ad0 } p q n by simp only [mkC, C1.out]] at CO
  clear c1
  go_wp2_with fail
  refine CO.out.mono ?_
  rintro e w1 ⟨z', b0, b1, b2, b3, b4, b5, rfl, hlt, hd, hb⟩
  have hk := K0.out.below hb K0.out.lt
  have hr := R0.out.below hb R0.out.lt
  have hl := L0.out.trans (hb.mono L0.out.size)
  obtain ⟨W1, hW1⟩ : ∃ W, W = ((((((((((w1.setCell ⟨w.heap.size, 0, none⟩ (.int .i64 0)).setCell ⟨w.heap.size, 1, none⟩ (.slice none 0 0)).setCell ⟨w.heap.size, 2, none⟩ (.slice z'.A0 p z'.d0)).setCell ⟨w.heap.size, 3, none⟩ (.slice z'.A1 n z'.d1)).setCell ⟨w.heap.size, 4, none⟩ (.slice none 0 0)).setCell ⟨w.heap.size, 5, none⟩ (.slice z'.A2 p z'.d2)).setCell ⟨w.heap.size, 6, none⟩ (.slice z'.A3 q z'.d3)).setCell ⟨w.heap.size, 7, none⟩ (.slice z'.A4 n z'.d4)).setCell ⟨w.heap.size, 8, none⟩ (.slice none 0 0)).setCell ⟨w.heap.size, 9, none⟩ (.slice none 0 0)) := ⟨_, rfl⟩
  have hF := fr_set10 w1 w.heap.size (.int .i64 0) (.slice none 0 0) (.slice z'.A0 p z'.d0) (.slice z'.A1 n z'.d1) (.slice none 0 0) (.slice z'.A2 p z'.d2) (.slice z'.A3 q z'.d3) (.slice z'.A4 n z'.d4) (.slice none 0 0) (.slice none 0 0)
  have hB := hk.set10 (.int .i64 0) (.slice none 0 0) (.slice z'.A0 p z'.d0) (.slice z'.A1 n z'.d1) (.slice none 0 0) (.slice z'.A2 p z'.d2) (.slice z'.A3 q z'.d3) (.slice z'.A4 n z'.d4) (.slice none 0 0) (.slice none 0 0)
  rw [← hW1] at hF hB
  have hlt2 : w.heap.size + 1 < b0 := by rw [Z0.out] at hlt; omega
  have HD := Lib.hid (⟨hB, hF.blk hr (by omega), hd.fr hF (fun i h1 _ e => by omega), hl.trans (hF.below hl.size (fun i hi => by omega)), hlt2⟩ : DB w W1 b0 b1 b2 b3 b4 b5 z' p q n s)
  obtain ⟨y0, y1, y2, y3, y4, y5, y6, y7, y8, y9⟩ := blk10 hk
  have g0 := hk.frozen 0
  have g1 := hk.frozen 1
  have g2 := hk.frozen 2
  have g3 := hk.frozen 3
  have g4 := hk.frozen 4
  have g5 := hk.frozen 5
  have g6 := hk.frozen 6
  have g7 := hk.frozen 7
  have g8 := hk.frozen 8
  have g9 := hk.frozen 9
  have HW1 := Lib.hid hW1
  clear c5 hk hr hl hF hB hlt hlt2 hd hb hW1 x0 x1 x2 x3 x4 x5 x6 x7 x8 x9 K0 R0 L0 Z0 CO
  go_upto_region 4 with fail
  rw [← HW1.out]
  clear HW1 y0 y1 y2 y3 y4 y5 y6 y7 y8 y9 g0 g1 g2 g3 g4 g5 g6 g7 g8 g9
  obtain ⟨x0, x1, x2, x3, x4, x5, x6, x7, x8, x9⟩ := blk10 HD.out.k
  have hmo : m < s.own.length := by rw [HD.out.d.lo]; exact hm
  have hml : m < s.lq.length := by rw [HD.out.d.ll]; exact hm
  obtain ⟨bo, co, e1, e2, e3, e4, e5, e6⟩ := OwnI.at_ HD.out.d.own hmo
  have e0 := e1
  injection e1 with e1 e1a e1b
  have HA0 := Lib.hid e1
  rw [e1] at x2
  have f0 := e6 m
  have hbo : bo < b1 ∧ w.heap.size + 1 < bo := ⟨HD.out.d.ownT bo (by rw [e1]; rfl), by have := (own_blk HD.out.d.own (k := bo) (by rw [e1]; rfl)).1; have := HD.out.lt; omega⟩
  have HBO := Lib.hid hbo.2
  obtain ⟨W2, hW2⟩ : ∃ W, W = W1.setCell ⟨bo, m, none⟩ (.int .i64 (-1)) := ⟨_, rfl⟩
  have hD2 := HD.out.setOwn e0 m (-1)
  rw [← hW2] at hD2
  have e7 : W2.cell? ⟨bo, m, none⟩ = some (.int .i64 (-1)) := by
    obtain ⟨bo', co', v1, v2, v3, v4, v5, v6⟩ := OwnI.at_ hD2.d.own (i := m) (by simpa using hmo)
    rw [e1] at v1
    injection v1 with v1 _ _
    injection v1 with v1
    injection v1 with v1
    subst v1
    rw [v5]
    simp only
    rw [gn_set hmo]
  obtain ⟨bq, cq, A, c, g1, g2, g3, g4, g5, g6, g7, g8, g9⟩ := hD2.d.lq.at_ hml
  simp only [hr0, List.length_nil] at g6
  injection g1 with g1 g1a g1b
  have hT := hD2.w_
  obtain ⟨y0, y1, y2, y3, y4, y5, y6, y7, y8, y9⟩ := blk10 hD2.k
  rw [g1] at y5
  have HT := Lib.hid hT; have HW2 := Lib.hid hW2
  clear hT hW2 hD2 e0 e1 e1a e1b e2 e3 e4 e6 x0 x1 x3 x4 x5 x6 x7 x8 x9 hmo hml HD g1 g1a g1b g2 g3 g4 g5 g7 g8 g9 y0 y1 y2 y3 y4 y6 y7 y8 y9 hbo
  go_upto_region 5 with fail
  rw [← HW2.out]
  clear HW2 x2 e5 f0
  obtain ⟨x0, x1, x2, x3, x4, x5, x6, x7, x8, x9⟩ := blk10 HT.out.1
  obtain ⟨s0, s1, s2, s3, s4, s5, s6, s7, s8, s9⟩ := blk10 HT.out.2.1
  have t0 := HT.out.2.1.frozen 0
  have t1 := HT.out.2.1.frozen 1
  have t2 := HT.out.2.1.frozen 2
  have t3 := HT.out.2.1.frozen 3
  have t4 := HT.out.2.1.frozen 4
  have t5 := HT.out.2.1.frozen 5
  have t6 := HT.out.2.1.frozen 6
  have t7 := HT.out.2.1.frozen 7
  have t8 := HT.out.2.1.frozen 8
  have t9 := HT.out.2.1.frozen 9
  have hT8 := docw_fin HT.out.2.1 HT.out.2.2.1 HT.out.2.2.2
  have zne1 : ¬ bo = w.heap.size + 1 := by have := HBO.out; omega
  have zne2 : ¬ w.heap.size + 1 = bo := by have := HBO.out; omega
  have hkb : Blk W2 w.heap.size 27 #[.int .i64 0, .slice none 0 0, .slice (some ⟨bo, 0, none⟩) p z'.d0, .slice z'.A1 n z'.d1, .slice none 0 0, .slice z'.A2 p z'.d2, .slice z'.A3 q z'.d3, .slice z'.A4 n z'.d4, .slice none 0 0, .slice none 0 0] := by have h9 := HT.out.1; rw [show mkC z' p q n = #[.int .i64 0, .slice none 0 0, .slice (some ⟨bo, 0, none⟩) p z'.d0, .slice z'.A1 n z'.d1, .slice none 0 0, .slice z'.A2 p z'.d2, .slice z'.A3 q z'.d3, .slice z'.A4 n z'.d4, .slice none 0 0, .slice none 0 0] by simp only [mkC, HA0.out]] at h9; exact h9
  rw [HA0.out] at x2
  rw [show Value.slice z'.A0 p z'.d0 = .slice (some ⟨bo, 0, none⟩) p z'.d0 by rw [HA0.out]] at hT8
  have HE := Lib.hid hT8; have HE2 := Lib.hid (docw_drew hT8)
  clear HT hT8 hkb
  go_upto_region 8 with fail
  try clear y5 g6
  go_big_region
  all_goals
    go_wp2_with fail
    first
      | (refine bodyPost_ret (v := .tuple #[.agg #[.int .i64 0, .slice none 0 0, .slice z'.A0 p z'.d0, .slice z'.A1 n z'.d1, .slice none 0 0, .slice z'.A2 p z'.d2, .slice z'.A3 q z'.d3, .slice z'.A4 n z'.d4, .slice none 0 0, .slice none 0 0], .int .i64 (-1), .int .i64 0]) (res9_2 rfl _ _ (w.heap.size + 1) 27 _ (0, 0) _ _ _ rfl rfl rfl HE2.out.1 Try.underlying27 rfl (by kernel_rfl)) rfl ?_
         exact ⟨z', rfl, ⟨b3, b4, HE2.out.2.1⟩, HE2.out.2.2⟩)
      | (refine bodyPost_ret (v := .tuple #[.agg #[.int .i64 0, .slice none 0 0, .slice z'.A0 p z'.d0, .slice z'.A1 n z'.d1, .slice none 0 0, .slice z'.A2 p z'.d2, .slice z'.A3 q z'.d3, .slice z'.A4 n z'.d4, .slice none 0 0, .slice none 0 0], .int .i64 (-1), .int .i64 0]) (res9_2 rfl _ _ (w.heap.size + 1) 27 _ (0, 0) _ _ _ rfl rfl rfl HE.out.1 Try.underlying27 rfl (by kernel_rfl)) rfl ?_
         exact ⟨z', rfl, ⟨b3, b4, HE.out.2.1⟩, HE.out.2.2⟩)
theorem DB.drew {w W : World} {b0 b1 b2 b3 b4 b5 p q n : Nat} {z : LkQ} {s : Lk} (h : DB w W b0 b1 b2 b3 b4 b5 z p q n s) : DB w W.drew b0 b1 b2 b3 b4 b5 z p q n s :=
  ⟨h.k, h.r, h.d.fr (S := fun _ => False) ((Fr.refl _ W).drew) (fun _ _ _ h => h), h.l.drew, h.lt⟩
set_option maxRecDepth 100000 in
set_option maxHeartbeats 8000000 in
theorem refUnlock_first (w : World) (E : Nat → Prop) (z : LkQ) (p q n : Nat) (s : Lk) (h : DocC w E z p q n s) (hs : SzL s) (m : Nat) (hm : m < p) (t : Int) (hx : gn s.own m = t) (x : Int) (r : List Int) (hr0 : gl s.lq m = x :: r) :
    Calls Try.prog 44 #[.agg (mkC z p q n), .int .i64 (m : Int), .int .i64 t] w fun e w' => ∃ z' : LkQ, e = .returned (.tuple #[.agg (mkC z' p q n), .int .i64 x, .int .i64 0]) ∧ DocWE w' (w.heap.size + 2) z' p q n { s with own := s.own.set m x, lq := s.lq.set m r } ∧ Below w.heap.size w w' := by
  obtain ⟨i0, hi0, hz0, hz1, hz2⟩ := info_parts info_int
  have hpa : p ≤ 100000 := by have := hs.a; have := h.lo; omega
  have hna : n ≤ 100000 := by have := hs.b; have := h.ln; omega
  have hqa : q ≤ 100000 := by have := hs.c; have := h.lw; omega
  have hrl := hs.d m
  rw [hr0] at hrl
  simp only [List.length_cons] at hrl
  have q1 : (m : Int) < (p : Int) := by omega
  have q0 : (0 : Int) ≤ (m : Int) := by omega
  go_enter Try.func44, Try.ntmps44
  obtain ⟨W0, hW0⟩ : ∃ W, W = (w.alloc (.cells (mkC z p q n) 27)).alloc (.cells zeroC 27) := ⟨_, rfl⟩
  have k0 : Blk W0 w.heap.size 27 (mkC z p q n) := by rw [hW0]; exact (Blk.new w _ _).alloc _
  have r0 : Blk W0 (w.heap.size + 1) 27 zeroC := by rw [hW0]; simpa using Blk.new (w.alloc (.cells (mkC z p q n) 27)) 27 zeroC
  have l0 : Below w.heap.size w W0 := by rw [hW0]; exact ((Below.refl _ w).alloc (Nat.le_refl _) _).alloc (by simp) _
  have z0 : W0.heap.size = w.heap.size + 1 + 1 := by rw [hW0]; simp
  have hmo0 : m < s.own.length := by rw [h.lo]; exact hm
  obtain ⟨ad0, c1, c2, c3, c4⟩ := h.own.at_ hmo0
  have c5 : W0.cell? (ad0.add m) = some (.int .i64 (gn s.own m)) := (l0.cell (p := ad0.add m) (by rw [block_of_add]; exact c3)).trans c4
  rw [hx] at c5
  have co := own_any W0 E z p q n s (h.below l0 (Nat.le_refl _)) hs
  have HW0 := Lib.hid hW0; have K0 := Lib.hid k0; have R0 := Lib.hid r0; have L0 := Lib.hid l0; have Z0 := Lib.hid z0; have CO := Lib.hid co
  clear hW0 k0 r0 l0 z0 co h hs c2 c3 c4 hmo0
  go_upto_region 1 with fail
  rw [← HW0.out]
  clear HW0
  obtain ⟨x0, x1, x2, x3, x4, x5, x6, x7, x8, x9⟩ := blk10 K0.out
  have C1 := Lib.hid c1
  rw [c1] at x2
  rw [show mkC z p q n = mkC { z with A0 := some ad0 } p q n by simp only [mkC, C1.out]] at CO
  clear c1
  go_wp2_with fail
  refine CO.out.mono ?_
  rintro e w1 ⟨z', b0, b1, b2, b3, b4, b5, rfl, hlt, hd, hb⟩
  have hk := K0.out.below hb K0.out.lt
  have hr := R0.out.below hb R0.out.lt
  have hl := L0.out.trans (hb.mono L0.out.size)
  obtain ⟨W1, hW1⟩ : ∃ W, W = ((((((((((w1.setCell ⟨w.heap.size, 0, none⟩ (.int .i64 0)).setCell ⟨w.heap.size, 1, none⟩ (.slice none 0 0)).setCell ⟨w.heap.size, 2, none⟩ (.slice z'.A0 p z'.d0)).setCell ⟨w.heap.size, 3, none⟩ (.slice z'.A1 n z'.d1)).setCell ⟨w.heap.size, 4, none⟩ (.slice none 0 0)).setCell ⟨w.heap.size, 5, none⟩ (.slice z'.A2 p z'.d2)).setCell ⟨w.heap.size, 6, none⟩ (.slice z'.A3 q z'.d3)).setCell ⟨w.heap.size, 7, none⟩ (.slice z'.A4 n z'.d4)).setCell ⟨w.heap.size, 8, none⟩ (.slice none 0 0)).setCell ⟨w.heap.size, 9, none⟩ (.slice none 0 0)) := ⟨_, rfl⟩
  have hF := fr_set10 w1 w.heap.size (.int .i64 0) (.slice none 0 0) (.slice z'.A0 p z'.d0) (.slice z'.A1 n z'.d1) (.slice none 0 0) (.slice z'.A2 p z'.d2) (.slice z'.A3 q z'.d3) (.slice z'.A4 n z'.d4) (.slice none 0 0) (.slice none 0 0)
  have hB := hk.set10 (.int .i64 0) (.slice none 0 0) (.slice z'.A0 p z'.d0) (.slice z'.A1 n z'.d1) (.slice none 0 0) (.slice z'.A2 p z'.d2) (.slice z'.A3 q z'.d3) (.slice z'.A4 n z'.d4) (.slice none 0 0) (.slice none 0 0)
  rw [← hW1] at hF hB
  have hlt2 : w.heap.size + 1 < b0 := by rw [Z0.out] at hlt; omega
  have HD := Lib.hid (⟨hB, hF.blk hr (by omega), hd.fr hF (fun i h1 _ e => by omega), hl.trans (hF.below hl.size (fun i hi => by omega)), hlt2⟩ : DB w W1 b0 b1 b2 b3 b4 b5 z' p q n s)
  obtain ⟨y0, y1, y2, y3, y4, y5, y6, y7, y8, y9⟩ := blk10 hk
  have g0 := hk.frozen 0
  have g1 := hk.frozen 1
  have g2 := hk.frozen 2
  have g3 := hk.frozen 3
  have g4 := hk.frozen 4
  have g5 := hk.frozen 5
  have g6 := hk.frozen 6
  have g7 := hk.frozen 7
  have g8 := hk.frozen 8
  have g9 := hk.frozen 9
  have HW1 := Lib.hid hW1
  clear c5 hk hr hl hF hB hlt hlt2 hd hb hW1 x0 x1 x2 x3 x4 x5 x6 x7 x8 x9 K0 R0 L0 Z0 CO
  go_upto_region 4 with fail
  rw [← HW1.out]
  clear HW1 y0 y1 y2 y3 y4 y5 y6 y7 y8 y9 g0 g1 g2 g3 g4 g5 g6 g7 g8 g9
  obtain ⟨x0, x1, x2, x3, x4, x5, x6, x7, x8, x9⟩ := blk10 HD.out.k
  have hmo : m < s.own.length := by rw [HD.out.d.lo]; exact hm
  have hml : m < s.lq.length := by rw [HD.out.d.ll]; exact hm
  obtain ⟨bo, co, e1, e2, e3, e4, e5, e6⟩ := OwnI.at_ HD.out.d.own hmo
  have e0 := e1
  injection e1 with e1 e1a e1b
  have HA0 := Lib.hid e1
  rw [e1] at x2
  have f0 := e6 m
  have hbo : bo < b1 ∧ w.heap.size + 1 < bo := ⟨HD.out.d.ownT bo (by rw [e1]; rfl), by have := (own_blk HD.out.d.own (k := bo) (by rw [e1]; rfl)).1; have := HD.out.lt; omega⟩
  have HBO := Lib.hid hbo.2
  obtain ⟨W5, hW5⟩ : ∃ W, W = W1.setCell ⟨bo, m, none⟩ (.int .i64 (-1)) := ⟨_, rfl⟩
  have hD2 := HD.out.setOwn e0 m (-1)
  rw [← hW5] at hD2
  have hD3 := hD2.setOwn e0 m x
  rw [show ({ ({ s with own := s.own.set m (-1) } : Lk) with own := ({ s with own := s.own.set m (-1) } : Lk).own.set m x } : Lk) = { s with own := s.own.set m x } by simp] at hD3
  have HD3 := Lib.hid hD3; have HD2 := Lib.hid hD2; have HW5 := Lib.hid hW5
  have f05 : W5.frozen? ⟨bo, m, none⟩ = false := by
    obtain ⟨bo', co', v1, v2, v3, v4, v5, v6⟩ := OwnI.at_ hD2.d.own (i := m) (by simpa using hmo)
    rw [e1] at v1
    injection v1 with v1 _ _
    injection v1 with v1
    injection v1 with v1
    subst v1
    exact v6 m
  have e75 : W5.cell? ⟨bo, m, none⟩ = some (.int .i64 (-1)) := by
    obtain ⟨bo', co', v1, v2, v3, v4, v5, v6⟩ := OwnI.at_ hD2.d.own (i := m) (by simpa using hmo)
    rw [e1] at v1
    injection v1 with v1 _ _
    injection v1 with v1
    injection v1 with v1
    subst v1
    rw [v5]
    simp only
    rw [gn_set hmo]
  obtain ⟨y0, y1, y2, y3, y4, y5, y6, y7, y8, y9⟩ := blk10 hD2.k
  rw [e1] at y2
  have HML := Lib.hid hml; have HMO := Lib.hid hmo
  clear hW5 hD2 hD3 e0 e1 e1a e1b e2 e3 e4 e6 x0 x1 x3 x4 x5 x6 x7 x8 x9 hbo y0 y1 y3 y4 y6 y7 y8 y9 hml hmo HD
  obtain ⟨bq, cq, A, c, g1, g2, g3, g4, g5, g6, g7, g8, g9⟩ := HD2.out.d.lq.at_ HML.out
  simp only [hr0] at g6 g8 g9
  obtain ⟨ad, had, hDD, hab, hac⟩ := (RN.of_own g8).2 (by simp)
  have ha0 := hac 0 x rfl
  have hsp := World.cell?_spot ha0
  obtain ⟨ab, ao, asp⟩ := ad
  have hsp2 : asp = none := by simpa [Addr.add] using hsp
  subst hsp2
  simp only [show (⟨ab, ao, none⟩ : Addr).add 0 = ⟨ab, ao, none⟩ by simp [Addr.add]] at ha0
  injection g1 with g1 g1a g1b
  rw [g1] at y5
  subst had
  rw [show (x :: r).length = r.length + 1 from rfl] at g6
  obtain ⟨rl, hrl2⟩ : ∃ rl, rl = r.length := ⟨_, rfl⟩
  rw [← hrl2] at g6 hrl
  have HRL := Lib.hid hrl2
  clear hrl2 g1 g1a g1b g2 g7 g8 g9 hac hDD hsp
  go_upto_region 5 with fail
  rw [← HW5.out]
  clear HW5 x2 e5 f0
  go_upto_region 6 with fail
  go_cut [] (fun wx => Hid (DB w wx b0 b1 b2 b3 b4 b5 z' p q n { s with own := s.own.set m x }))
  case first =>
    have c1 : (0 : Int) < (rl : Int) + 1 := by omega
    go_big_region
    all_goals
      go_wp2_with fail
      go_meet
      first | exact HD3 | exact Lib.hid HD3.out.drew
  case rest =>
  have HD := hcut
  obtain ⟨W3, hW3⟩ : ∃ W, W = wc := ⟨_, rfl⟩
  rw [← hW3] at HD ⊢
  clear hW3 hcut HD3 HD2 ha0 hab y2 y5 g3 g4 g5 g6 f05 e75
  have hml : m < ({ s with own := s.own.set m x } : Lk).lq.length := HML.out
  obtain ⟨x0, x1, x2, x3, x4, x5, x6, x7, x8, x9⟩ := blk10 HD.out.k
  have hx : gl ({ s with own := s.own.set m x } : Lk).lq m = x :: r := hr0
  obtain ⟨bq, cq, A, c, g1, g2, g3, g4, g5, g6, g7, g8, g9⟩ := HD.out.d.lq.at_ hml
  have g0 := g1
  injection g1 with g1 g1a g1b
  rw [g1] at x5
  have hrn : RN W3 (fun k => b2 ≤ k ∧ k < b3 ∧ k ≠ bq) A c (x :: r) := by
    have h1 := RN.of_own (by rw [hx] at g8; exact g8 : OwnI W3 b2 (.slice A (x :: r).length c) (x :: r))
    refine ⟨h1.1, fun h0 => ?_⟩
    obtain ⟨ad, u1, u2, u3, u4⟩ := h1.2 h0
    subst u1
    rw [hx] at g8 g9
    obtain ⟨b9, c9, cs9, v1, _, _, _, v2, _⟩ := own_form g8 h0
    injection v1 with v1 _ _
    injection v1 with v1
    subst v1
    exact ⟨_, rfl, g9 _ v2, u3, u4⟩
  obtain ⟨ad, had, hDD, hab, hac⟩ := hrn.2 (by simp)
  have ha0 := hac 0 x rfl
  have hsp := World.cell?_spot ha0
  obtain ⟨ab, ao, asp⟩ := ad
  have hsp2 : asp = none := by simpa [Addr.add] using hsp
  subst hsp2
  simp only [show (⟨ab, ao, none⟩ : Addr).add 0 = ⟨ab, ao, none⟩ by simp [Addr.add]] at ha0
  have hcl := hrn.1
  rw [hx] at g6
  have hlen : (x :: r).length = r.length + 1 := rfl
  rw [hlen] at g6 hcl
  subst had
  have hput : ∀ A' c', RN W3 (fun k => b2 ≤ k ∧ k < b3 ∧ k ≠ bq) A' c' r → Hid (Blk (W3.setCell ⟨bq, m, none⟩ (.slice A' r.length c')) w.heap.size 27 (mkC z' p q n) ∧ Blk (W3.setCell ⟨bq, m, none⟩ (.slice A' r.length c')) (w.heap.size + 1) 27 zeroC ∧ Below w.heap.size w (W3.setCell ⟨bq, m, none⟩ (.slice A' r.length c')) ∧ DocW (W3.setCell ⟨bq, m, none⟩ (.slice A' r.length c')) (w.heap.size + 2) b3 b4 z' p q n { s with own := s.own.set m x, lq := s.lq.set m r }) := by
    intro A' c' hrr
    have a1 := HD.out.d.lq.put2 g0 hml hrr
    have a2 := (HD.out.d.lq.put g0 hml hrr).2
    exact Lib.hid (HD.out.turnLqW a2 a1 (by simp))
  have hPUT := Lib.hid hput
  have f70 := g7 m
  have hgl := HD.out.k.lt
  have hgb1 : ¬ w.heap.size = bq := fun e => by obtain ⟨o1, o2, o3, o4, o5, o6⟩ := HD.out.d.o; have := HD.out.lt; omega
  have hgb2 : ¬ bq = w.heap.size := fun e => hgb1 e.symm
  have hgb3 : ¬ ab = bq := hDD.2.2
  have HRN := Lib.hid hrn; have HX := Lib.hid hx
  clear hrn hput hac hx g0 g1 g1a g1b g2 g3 g4 g7 g8 g9 hDD hlen HD x0 x1 x2 x3 x4 x6 x7 x8 x9 hml hsp
  have c1 : (1 : Int) ≤ (rl : Int) + 1 := by omega
  rw [← HRL.out] at g6 hcl hPUT
  have c2 : (rl : Int) + 1 ≤ (c : Int) := by omega
  go_upto_region 7 with fail
  go_cut [] (fun wx => Hid (Blk wx w.heap.size 27 (mkC z' p q n) ∧ Blk wx (w.heap.size + 1) 27 zeroC ∧ Below w.heap.size w wx ∧ DocW wx (w.heap.size + 2) b3 b4 z' p q n { s with own := s.own.set m x, lq := s.lq.set m r }))
  case first =>
    by_cases hc1 : c = 1
    · subst hc1
      have hr9 : rl = 0 := by omega
      have HT := hPUT.out (some ⟨ab, ao, none⟩) 0 (by
        have : r = [] := List.eq_nil_of_length_eq_zero (by rw [← HRL.out]; exact hr9)
        rw [this]
        exact RN.nil _ _ _ _)
      subst hr9
      go_big_region
      all_goals
        go_wp2_with fail
        go_meet
        first | exact HT | exact w_drew HT
    · have hc2 : ¬ (c : Int) = 1 := by omega
      have hc3 : ¬ c = 1 := hc1
      have hrt : RN W3 (fun k => b2 ≤ k ∧ k < b3 ∧ k ≠ bq) (some ⟨ab, ao + 1, none⟩) (c - 1) r := by
        have h := HRN.out
        refine ⟨by have := h.1; simp at this; omega, fun h0 => ?_⟩
        obtain ⟨ad2, u1, u2, u3, u4⟩ := h.2 (by simp)
        injection u1 with u1
        subst u1
        refine ⟨_, rfl, u2, u3, fun j y hj => ?_⟩
        have := u4 (j + 1) y (by simpa using hj)
        have e : (⟨ab, ao, none⟩ : Addr).add (j + 1) = (⟨ab, ao + 1, none⟩ : Addr).add j := by
          rw [Addr.add_lit, Addr.add_lit]
          congr 1
          omega
        rw [← e]
        exact this
      have HT := hPUT.out _ _ hrt
      clear hrt
      go_big_region
      all_goals
        go_wp2_with fail
        go_meet
        first | exact HT | exact w_drew HT
  case rest =>
  have HT := hcut
  obtain ⟨W2, hW2⟩ : ∃ W, W = wc := ⟨_, rfl⟩
  rw [← hW2] at HT ⊢
  clear hW2 hcut hPUT HRN HX HRL g6 f70 ha0 x5
  have e7 : W2.cell? ⟨bo, m, none⟩ = some (.int .i64 x) := by
    obtain ⟨ad9, v1, v2, v3, v4⟩ := HT.out.2.2.2.own.at_ (i := m) (by simpa using HMO.out)
    rw [show z'.A0 = some ⟨bo, 0, none⟩ from HA0.out] at v1
    injection v1 with v1
    subst v1
    rw [Addr.add_lit] at v4
    simp only [Nat.zero_add] at v4
    rw [v4, gn_set HMO.out]
  obtain ⟨x0, x1, x2, x3, x4, x5, x6, x7, x8, x9⟩ := blk10 HT.out.1
  obtain ⟨s0, s1, s2, s3, s4, s5, s6, s7, s8, s9⟩ := blk10 HT.out.2.1
  have t0 := HT.out.2.1.frozen 0
  have t1 := HT.out.2.1.frozen 1
  have t2 := HT.out.2.1.frozen 2
  have t3 := HT.out.2.1.frozen 3
  have t4 := HT.out.2.1.frozen 4
  have t5 := HT.out.2.1.frozen 5
  have t6 := HT.out.2.1.frozen 6
  have t7 := HT.out.2.1.frozen 7
  have t8 := HT.out.2.1.frozen 8
  have t9 := HT.out.2.1.frozen 9
  have hT8 := docw_fin HT.out.2.1 HT.out.2.2.1 HT.out.2.2.2
  have zne1 : ¬ bo = w.heap.size + 1 := by have := HBO.out; omega
  have zne2 : ¬ w.heap.size + 1 = bo := by have := HBO.out; omega
  have hkb : Blk W2 w.heap.size 27 #[.int .i64 0, .slice none 0 0, .slice (some ⟨bo, 0, none⟩) p z'.d0, .slice z'.A1 n z'.d1, .slice none 0 0, .slice z'.A2 p z'.d2, .slice z'.A3 q z'.d3, .slice z'.A4 n z'.d4, .slice none 0 0, .slice none 0 0] := by have h9 := HT.out.1; rw [show mkC z' p q n = #[.int .i64 0, .slice none 0 0, .slice (some ⟨bo, 0, none⟩) p z'.d0, .slice z'.A1 n z'.d1, .slice none 0 0, .slice z'.A2 p z'.d2, .slice z'.A3 q z'.d3, .slice z'.A4 n z'.d4, .slice none 0 0, .slice none 0 0] by simp only [mkC, HA0.out]] at h9; exact h9
  rw [HA0.out] at x2
  rw [show Value.slice z'.A0 p z'.d0 = .slice (some ⟨bo, 0, none⟩) p z'.d0 by rw [HA0.out]] at hT8
  have HE := Lib.hid hT8; have HE2 := Lib.hid (docw_drew hT8)
  clear HT hT8 hkb
  go_upto_region 8 with fail
  try clear y5 g6
  go_big_region
  all_goals
    go_wp2_with fail
    first
      | (refine bodyPost_ret (v := .tuple #[.agg #[.int .i64 0, .slice none 0 0, .slice z'.A0 p z'.d0, .slice z'.A1 n z'.d1, .slice none 0 0, .slice z'.A2 p z'.d2, .slice z'.A3 q z'.d3, .slice z'.A4 n z'.d4, .slice none 0 0, .slice none 0 0], .int .i64 x, .int .i64 0]) (res9_2 rfl _ _ (w.heap.size + 1) 27 _ (0, 0) _ _ _ rfl rfl rfl HE2.out.1 Try.underlying27 rfl (by kernel_rfl)) rfl ?_
         exact ⟨z', rfl, ⟨b3, b4, HE2.out.2.1⟩, HE2.out.2.2⟩)
      | (refine bodyPost_ret (v := .tuple #[.agg #[.int .i64 0, .slice none 0 0, .slice z'.A0 p z'.d0, .slice z'.A1 n z'.d1, .slice none 0 0, .slice z'.A2 p z'.d2, .slice z'.A3 q z'.d3, .slice z'.A4 n z'.d4, .slice none 0 0, .slice none 0 0], .int .i64 x, .int .i64 0]) (res9_2 rfl _ _ (w.heap.size + 1) 27 _ (0, 0) _ _ _ rfl rfl rfl HE.out.1 Try.underlying27 rfl (by kernel_rfl)) rfl ?_
         exact ⟨z', rfl, ⟨b3, b4, HE.out.2.1⟩, HE.out.2.2⟩)
end Go.Proofs.Ytikelkfinjcgaaa
