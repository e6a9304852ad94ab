
/-
  A state that New made, in its box; the document's example; Ready, Senders, Index.
-/
import Derived.Test.YtbgigkamlnchcaaChN
import Derived.Test.YtbgigkamlnchcaaRgX
set_option linter.unusedVariables false
set_option linter.unusedSimpArgs false
namespace Go.Proofs.Ytbgigkamlnchcaa
open Go.RowKit Go.Shelf Plain

abbrev mkH (b1 b2 b3 n g : Nat) : ChH := ⟨g, .slice (some ⟨b1, 0, none⟩) n n, .slice (some ⟨b2, 0, none⟩) n n, .slice (some ⟨b3, 0, none⟩) n n, .int .i64 0, NilS, NilS, NilS, NilS, NilS, NilS, fun _ => False⟩
theorem rows_of_blk {w : World} {base b n : Nat} (D : Nat → Prop) (h : Blk w b 25 (List.replicate n NilS).toArray) (hb : base ≤ b) (hn : n ≤ 1000) : OwnS w base D (.slice (some ⟨b, 0, none⟩) n n) (List.replicate n []) := by
  refine ⟨List.replicate n NilS, ⟨by simp, .inr ⟨b, n, _, by simp, hb, h, by simp, by unfold maxLen; omega, by simp, ?_⟩⟩, fun i l hi => ?_⟩
  · simp
  · have hlt := (List.getElem?_eq_some_iff.1 hi).1
    simp at hlt
    rw [List.getElem?_replicate_of_lt hlt] at hi
    injection hi with hi
    subst hi
    exact ⟨none, 0, by rw [List.getElem?_replicate_of_lt hlt]; rfl, RN.nil _ _ _ _⟩
theorem new_box {w w' : World} {b1 b2 b3 n : Nat} (h : NewAt w w' b1 b2 b3 n) (hn : n ≤ 1000) :
    ChM (w'.alloc (.cells (mkC b1 b2 b3 n) 28)) w.heap.size (mkH b1 b2 b3 n w'.heap.size) (newV n) ∧ Below w.heap.size w (w'.alloc (.cells (mkC b1 b2 b3 n) 28)) := by
  obtain ⟨hb, h1, h2, h3, n12, n13, n23, l1, l2, l3⟩ := h
  refine ⟨⟨Blk.new w' _ _, rows_of_blk _ (h1.alloc _) l1 hn, rows_of_blk _ (h2.alloc _) l2 hn, rows_of_blk _ (h3.alloc _) l3 hn, ?_, ?_, ?_, fun k hk => hk.elim⟩, hb.alloc hb.size _⟩
  · intro k e1 e2
    simp [Value.ownBlock] at e1 e2
    omega
  · intro k e1 e2
    simp [Value.ownBlock] at e1 e2
    omega
  · intro k e1 e2
    simp [Value.ownBlock] at e1 e2
    omega
theorem new_ch (w : World) (n : Nat) (hn : n ≤ 1000) :
    Calls Try.prog 8 #[.int .i64 (n : Int)] w fun e w' => ∃ b1 b2 b3, e = .returned (.agg (mkC b1 b2 b3 n)) ∧ ChM (w'.alloc (.cells (mkC b1 b2 b3 n) 28)) w.heap.size (mkH b1 b2 b3 n w'.heap.size) (newV n) ∧ Below w.heap.size w (w'.alloc (.cells (mkC b1 b2 b3 n) 28)) := by
  refine (new_any w n hn).mono ?_
  rintro e w' ⟨b1, b2, b3, rfl, h⟩
  exact ⟨b1, b2, b3, rfl, new_box h hn⟩
set_option maxRecDepth 100000 in
set_option maxHeartbeats 4000000 in
theorem lives_ch (w : World) : Calls Try.prog 17 #[] w fun e w' => e = .returned (.bool true) ∧ Below w.heap.size w w' := by
  have hnew := new_ch w 1 (by omega)
  have HNEW := Lib.hid hnew
  clear hnew
  go_enter Try.func17, Try.ntmps17
  go_wp2_with fail
  refine HNEW.out.mono ?_
  rintro e w1 ⟨b1, b2, b3, rfl, hM, hbel⟩
  obtain ⟨w2, hw2⟩ : ∃ W, W = w1.alloc (.cells (mkC b1 b2 b3 1) 28) := ⟨_, rfl⟩
  rw [← hw2] at hM hbel
  obtain ⟨g, hg⟩ : ∃ g, g = w1.heap.size := ⟨_, rfl⟩
  rw [← hg] at hM
  have hO := CkOk.new 1
  obtain ⟨c0, c1, c2⟩ := hM.cells
  have hk1 := recv_any hM hO (by omega) (by omega) 0 (by omega) 5 (by omega)
  rw [show recvV (newV 1) 0 5 = (⟨[[]], [[]], [[5]]⟩, 0, -1, false) from rfl, show ((0 : Nat) : Int) = 0 from rfl] at hk1
  have HM := Lib.hid hM; have HB := Lib.hid hbel; have HW := Lib.hid hw2; have H1 := Lib.hid hk1
  have HG := Lib.hid hg
  clear hM hbel hk1 hO HNEW hw2 hg
  go_upto_region 2 with fail
  rw [← HW.out, ← HG.out]
  clear HW HG
  go_wp2_with fail
  refine H1.out.mono ?_
  rintro e w3 ⟨rfl, hT3⟩
  have hO3 : CkOk 2 1 ⟨[[]], [[]], [[5]]⟩ := (CkOk.new 1).recv (m := 0) (by omega) 5
  have hk2 := send_any hT3.1 hO3 (by omega) (by omega) 0 (by omega) 0 6 9 (by omega)
  rw [show sendV ⟨[[]], [[]], [[5]]⟩ 0 0 6 9 = (⟨[[]], [[]], [[]]⟩, 5, true) from rfl, show ((0 : Nat) : Int) = 0 from rfl] at hk2
  have H2 := Lib.hid hk2; have HT3 := Lib.hid hT3
  clear hk2 hO3 hT3 c0 c1 c2
  go_wp2_with fail
  refine H2.out.mono ?_
  rintro e w4 ⟨rfl, hT4⟩
  have hT := HT3.out.trans hT4
  have hfin : Below w.heap.size w w4 := HB.out.trans (hT.2.below HB.out.size (fun k hk => (HM.out.wlt hk).1))
  have HFIN := Lib.hid hfin
  clear hT hT4 hfin HT3 H2 H1 HB HM
  go_wp2_with fail
  go_ret
  exact ⟨rfl, HFIN.out⟩
section
variable {w : World} {B : Nat} {h : ChH} {s : Ck} {K n : Nat}
/-- A state that is handed in, and the box that it is laid into. -/
theorem ready_yes (H : ChM w B h s) (O : CkOk K n s) (hN : n ≤ 1000000) (hK : K ≤ 100000) (m : Nat) (hm : m < n) :
    Calls Try.prog 12 #[.agg h.cells, .int .i64 (m : Int)] w fun e w' => e = .returned (.bool (readyV s m)) ∧ Below w.heap.size w w' := by
  obtain ⟨q, qcap, A, c, f1, f2, f3, f4, f5, f6, f7⟩ := H.bf.at_ (i := m) (by rw [O.l1]; exact hm)
  obtain ⟨p, pcap, Ap, cp, g1, g2, g3, g4, g5, g6, g7⟩ := H.sq.at_ (i := m) (by rw [O.l2]; exact hm)
  have hev := O.ev m
  have hrow := O.row m
  obtain ⟨W, hW⟩ : ∃ W, W = w.alloc (.cells h.cells 28) := ⟨_, rfl⟩
  have hb : Below w.heap.size w W := by rw [hW]; exact (Below.refl _ _).alloc (Nat.le_refl _) _
  have hbx : Blk W w.heap.size 28 h.cells := by rw [hW]; exact Blk.new _ _ _
  have e4 : W.cell? ⟨w.heap.size, 4, none⟩ = some h.vb := (hbx.cell 4).trans rfl
  have e8 : W.cell? ⟨w.heap.size, 8, none⟩ = some h.vs := (hbx.cell 8).trans rfl
  have hat1 := at_yes W q n qcap m hm hN _ ((hb.cell (p := ⟨q, m, none⟩) f3).trans f5)
  have hat2 := fun k => at_yes (W.drewN k) p n pcap m hm hN _ ((hb.cell (p := ⟨p, m, none⟩) g3).trans g5)
  rw [f1, O.l1] at e4
  rw [g1, O.l2] at e8
  have H1 := Lib.hid hat1; have H2 := Lib.hid hat2; have HW := Lib.hid hW; have HB := Lib.hid hb
  clear hat1 hat2 hW hb H O f1 f2 f3 f4 f5 f6 f7 g1 g2 g3 g4 g5 g6 g7 hbx
  have hr : readyV s m = (decide (0 < (gl s.bf m).length) || decide (1 < (gl s.sq m).length)) := by
    unfold readyV
    congr 1
    · cases gl s.bf m <;> simp
    · cases hs : gl s.sq m with
      | nil => simp
      | cons x l =>
        cases l with
        | nil => rw [hs] at hev; simp at hev
        | cons y l => simp
  rw [hr]
  clear hr hev
  generalize (gl s.bf m).length = k1 at *
  generalize (gl s.sq m).length = k2 at *
  by_cases h1 : 0 < k1
  · have q1 : decide ((k1 : Int) > 0) = true := by simpa using h1
    have q2 : decide (0 < k1) = true := by simpa using h1
    clear h1
    go_enter Try.func12, Try.ntmps12
    go_upto_region 1 with fail
    rw [← HW.out]
    go_wp2_with fail
    refine H1.out.mono ?_
    rintro e w1 ⟨rfl, j, rfl⟩
    go_wp2_with fail
    go_ret
    exact ⟨by rw [q2]; rfl, below_drews HB.out _⟩
  · have q1 : decide ((k1 : Int) > 0) = false := by simp; omega
    have q2 : decide (0 < k1) = false := by simpa using h1
    clear h1
    go_enter Try.func12, Try.ntmps12
    go_upto_region 1 with fail
    rw [← HW.out]
    go_wp2_with fail
    refine H1.out.mono ?_
    rintro e w1 ⟨rfl, j, rfl⟩
    go_wp2_with fail
    refine (H2.out j).mono ?_
    rintro e w1 ⟨rfl, j2, rfl⟩
    go_wp2_with fail
    go_ret
    refine ⟨?_, below_drews HB.out _⟩
    rw [q2]
    simp
    omega
end
end Go.Proofs.Ytbgigkamlnchcaa
