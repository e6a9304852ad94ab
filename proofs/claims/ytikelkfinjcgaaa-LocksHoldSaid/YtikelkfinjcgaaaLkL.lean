
/-
  A state that New made, in its box; small states; the document's example.
-/
import Derived.Test.YtikelkfinjcgaaaLkF
import Derived.Test.YtikelkfinjcgaaaRgX
set_option linter.unusedVariables false
set_option linter.unusedSimpArgs false
namespace Go.Proofs.Ytikelkfinjcgaaa
open Go.RowKit Plain

theorem new_box {w w' : World} {h : LkH} {s : Lk} (hb : Below w.heap.size w w') (h1 : OwnI w' w.heap.size h.vo s.own) (h2 : OwnI w' w.heap.size h.vn s.cnt) (h3 : OwnS w' w.heap.size h.D h.vl s.lq) (h4 : OwnS w' w.heap.size h.D h.vw s.wq) (h5 : OwnS w' w.heap.size h.D h.vd s.dq)
    (n1 : ∀ k, h.vo.ownBlock = some k → h.vn.ownBlock ≠ some k) (n2 : ∀ k, h.vl.ownBlock = some k → h.vw.ownBlock ≠ some k) (n3 : ∀ k, h.vl.ownBlock = some k → h.vd.ownBlock ≠ some k) (n4 : ∀ k, h.vw.ownBlock = some k → h.vd.ownBlock ≠ some k) (hX : ∀ k, ¬ h.X k) :
    LkM (w'.alloc (.cells h.cells 27)) w.heap.size { h with g := w'.heap.size } s ∧ Below w.heap.size w (w'.alloc (.cells h.cells 27)) := by
  have hf := (Fr.refl (fun _ => False) w').alloc (.cells h.cells 27)
  exact ⟨⟨Blk.new w' _ _, hf.own h1 (fun _ _ h => h), hf.own h2 (fun _ _ h => h), h3.fr hf (fun _ _ h => h) (fun _ _ _ h => h), h4.fr hf (fun _ _ h => h) (fun _ _ _ h => h), h5.fr hf (fun _ _ h => h) (fun _ _ _ h => h), n1, n2, n3, n4, fun k hk => (hX k hk).elim⟩, hb.alloc hb.size _⟩
/-- Where the locks of a state of New's lie. -/
structure LkQ where
  A0 : Option Addr
  d0 : Nat
  A1 : Option Addr
  d1 : Nat
  A2 : Option Addr
  d2 : Nat
  A3 : Option Addr
  d3 : Nat
  A4 : Option Addr
  d4 : Nat
abbrev mkH (z : LkQ) (g p q n : Nat) : LkH := ⟨g, .slice z.A0 p z.d0, .slice z.A1 n z.d1, .slice z.A2 p z.d2, .slice z.A3 q z.d3, .slice z.A4 n z.d4, .int .i64 0, .slice none 0 0, .slice none 0 0, .slice none 0 0, .slice none 0 0, fun _ => False⟩
abbrev mkC (z : LkQ) (p q n : Nat) : Array Value := #[.int .i64 0, .slice none 0 0, .slice z.A0 p z.d0, .slice z.A1 n z.d1, .slice none 0 0, .slice z.A2 p z.d2, .slice z.A3 q z.d3, .slice z.A4 n z.d4, .slice none 0 0, .slice none 0 0]
/-- New, and the box that its state is put into. -/
theorem new_lk (w : World) (D : Nat → Prop) (A : Option Addr) (c : Nat) (l : List Int) (hr : RN w D A c l) (n : Nat) (hn : l.length = n) (hK : n ≤ 1000) (hA : A = none → c = 0) (p q : Nat) (hp : p ≤ 8) (hq : q ≤ 8) :
    Calls Try.prog 15 #[.int .i64 (p : Int), .int .i64 (q : Int), .slice A n c] w fun e w' => ∃ z : LkQ, e = .returned (.agg (mkC z p q n)) ∧ Below w.heap.size w w' ∧ LkM (w'.alloc (.cells (mkC z p q n) 27)) w.heap.size (mkH z w'.heap.size p q n) (newV p q l) ∧ Below w.heap.size w (w'.alloc (.cells (mkC z p q n) 27)) := by
  refine (new_any w w.heap.size (Nat.le_refl _) D A c l hr n hn hK hA p q hp hq).mono ?_
  rintro e w' ⟨h, rfl, hb, h1, h2, h3, h4, h5, n1, n2, n3, n4, k0, k1, k4, k8, k9, kX⟩
  obtain ⟨A0, d0, e0⟩ := own_form_any h1
  obtain ⟨A1, d1, e1⟩ := own_form_any h2
  obtain ⟨A2, d2, e2⟩ := h3.slice
  obtain ⟨A3, d3, e3⟩ := h4.slice
  obtain ⟨A4, d4, e4⟩ := h5.slice
  have := new_box hb h1 h2 h3 h4 h5 n1 n2 n3 n4 (fun k e => by rw [kX] at e; exact e)
  obtain ⟨g, vo, vn, vl, vw, vd, c0, c1, c4, c8, c9, X⟩ := h
  simp only [newV, List.length_replicate, hn] at e0 e1 e2 e3 e4 k0 k1 k4 k8 k9 kX
  subst e0 e1 e2 e3 e4 k0 k1 k4 k8 k9 kX
  exact ⟨⟨A0, d0, A1, d1, A2, d2, A3, d3, A4, d4⟩, rfl, hb, this.1, this.2⟩

namespace Plain
/-- One mutex that is x's, l wait; conditions W. -/
abbrev S1 (x : Int) (l : List Int) (W : List (List Int)) : Lk := ⟨[x], [l], W, [], []⟩
/-- One semaphore of count c, d wait. -/
abbrev SC (c : Int) (d : List Int) : Lk := ⟨[], [], [], [c], [d]⟩
theorem s1_ok {K : Nat} {x : Int} {l : List Int} {W : List (List Int)} (h1 : -1 ≤ x ∧ x ≤ 1000000) (h2 : ∀ y ∈ l, 0 ≤ y ∧ y ≤ 1000000) (h3 : x = -1 → l = []) (h4 : Thr W) (h5 : l.length + tot W ≤ K) (h6 : 1 ≤ K) (h7 : W.length ≤ K) : LkOk K (S1 x l W) := by
  refine ⟨rfl, rfl, fun y hy => ?_, by simp, fun r hr => ?_, h4, fun r hr => by simp at hr, ?_, h6, h7, by simp, fun m hm e => ?_, fun m hm => by simp at hm⟩
  · simp at hy; subst hy; exact h1
  · simp at hr; subst hr; exact h2
  · have e1 : tot [l] = l.length := by simp [tot]
    have e2 : tot ([] : List (List Int)) = 0 := rfl
    show tot [l] + tot W + tot [] ≤ K
    rw [e1, e2]
    omega
  · simp at hm
    subst hm
    exact h3 e
theorem sc_ok {K : Nat} {c : Int} {d : List Int} (h1 : 0 ≤ c ∧ c ≤ (K : Int)) (h2 : ∀ y ∈ d, 0 ≤ y ∧ y ≤ 1000000) (h3 : 0 < c → d = []) (h5 : d.length ≤ K) (h6 : 1 ≤ K) : LkOk K (SC c d) := by
  refine ⟨rfl, rfl, by simp, fun y hy => ?_, fun r hr => by simp at hr, fun r hr => by simp at hr, fun r hr => ?_, ?_, by simp, by simp, h6, fun m hm => by simp at hm, fun m hm e => ?_⟩
  · simp at hy; subst hy; exact h1
  · simp at hr; subst hr; exact h2
  · show tot [] + tot [] + tot [d] ≤ K
    simpa [tot] using h5
  · simp at hm
    subst hm
    exact h3 e
end Plain

set_option maxRecDepth 100000 in
set_option maxHeartbeats 4000000 in
theorem lives_lk (w : World) : Calls Try.prog 13 #[] w fun e w' => e = .returned (.bool true) ∧ Below w.heap.size w w' := by
  have hnew := new_lk w (fun _ => True) none 0 [] (RN.nil _ _ _ _) 0 rfl (by omega) (fun _ => rfl) 1 0 (by omega) (by omega)
  rw [show newV 1 0 [] = S1 (-1) [] [] from rfl] at hnew
  have HNEW := Lib.hid hnew
  clear hnew
  go_enter Try.func13, Try.ntmps13
  go_wp2_with fail
  refine HNEW.out.mono ?_
  rintro e w1 ⟨z, rfl, hb, hM, hbel⟩
  obtain ⟨w2, hw2⟩ : ∃ W, W = w1.alloc (.cells (mkC z 1 0 0) 27) := ⟨_, rfl⟩
  rw [← hw2] at hM hbel
  obtain ⟨g, hg⟩ : ∃ g, g = w1.heap.size := ⟨_, rfl⟩
  rw [← hg] at hM
  have hO : LkOk 20 (S1 (-1) [] []) := s1_ok (by omega) (by simp) (fun _ => rfl) (fun r hr => by simp at hr) (by simp [tot]) (by omega) (by simp)
  obtain ⟨b0, b1, b2, b3, b4⟩ := hM.cells
  have hk1 := lock_any hM hO (by omega) 0 (by decide) 5 (by omega)
  rw [show lockV (S1 (-1) [] []) 0 5 = (S1 5 [] [], true) from rfl, show ((0 : Nat) : Int) = 0 from rfl] at hk1
  have HM := Lib.hid hM; have HB := Lib.hid hbel; have HW := Lib.hid hw2; have H1 := Lib.hid hk1
  have HG := Lib.hid hg
  clear hM hbel hk1 hb hO b1 b3 b4 HNEW hw2 hg
  go_upto_region 2 with fail
  rw [← HW.out, ← HG.out]
  clear HW HG
  go_wp2_with fail
  refine H1.out.mono ?_
  rintro e w3 ⟨rfl, hT3⟩
  have hO3 : LkOk 20 (S1 5 [] []) := s1_ok (by omega) (by simp) (fun h => by omega) (fun r hr => by simp at hr) (by simp [tot]) (by omega) (by simp)
  have hk2 := lock_any hT3.1 hO3 (by omega) 0 (by decide) 6 (by omega)
  rw [show lockV (S1 5 [] []) 0 6 = (S1 5 [6] [], false) from rfl, show ((0 : Nat) : Int) = 0 from rfl] at hk2
  have H2 := Lib.hid hk2; have HT3 := Lib.hid hT3
  clear hk2 hO3 hT3 b0 b2
  go_wp2_with fail
  refine H2.out.mono ?_
  rintro e w4 ⟨rfl, hT4⟩
  have hO4 : LkOk 20 (S1 5 [6] []) := s1_ok (by omega) (by simp) (fun h => by omega) (fun r hr => by simp at hr) (by simp [tot]) (by omega) (by simp)
  have hk3 := unlock_any hT4.1 hO4 (by omega) 0 (by decide) 5 (by omega)
  rw [show unlockV (S1 5 [6] []) 0 5 = (S1 6 [] [], 6, 0) from rfl, show ((0 : Nat) : Int) = 0 from rfl] at hk3
  have H3 := Lib.hid hk3; have HT4 := Lib.hid (HT3.out.trans hT4)
  clear hk3 hO4 hT4
  go_wp2_with fail
  refine H3.out.mono ?_
  rintro e w5 ⟨rfl, hT5⟩
  have hT := HT4.out.trans hT5
  have hf := free_any w5 _ _ _ hT5.1 (by simp) (by simp) (by simp) (by simp)
  rw [show freeV (S1 6 [] []) = false from rfl] at hf
  have hX := hT5.1.box
  have H5 := Lib.hid hf; have HT := Lib.hid hT
  clear hf hT hT5 H1 H2 H3
  have z0 := (hX.cell 0).trans rfl
  have z1 := (hX.cell 1).trans rfl
  have z2 := (hX.cell 2).trans rfl
  have z3 := (hX.cell 3).trans rfl
  have z4 := (hX.cell 4).trans rfl
  have z5 := (hX.cell 5).trans rfl
  have z6 := (hX.cell 6).trans rfl
  have z7 := (hX.cell 7).trans rfl
  have z8 := (hX.cell 8).trans rfl
  have z9 := (hX.cell 9).trans rfl
  clear hX
  go_wp2_with fail
  refine H5.out.mono ?_
  rintro e w6 ⟨rfl, hb6⟩
  have HB6 := Lib.hid hb6
  clear hb6 z0 z1 z2 z3 z4 z5 z6 z7 z8 z9
  go_wp2_with fail
  go_ret
  refine ⟨rfl, ?_⟩
  have h1 := HT.out
  have h2 : Below w.heap.size w2 w5 := h1.2.below HB.out.size (fun i hi => (HM.out.wlt hi).1)
  exact (HB.out.trans h2).trans (HB6.out.mono (Nat.le_trans HB.out.size h1.2.size))
end Go.Proofs.Ytikelkfinjcgaaa
