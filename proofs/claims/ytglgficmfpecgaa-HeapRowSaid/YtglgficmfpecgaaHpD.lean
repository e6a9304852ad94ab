
/-
  A deed, of the heap and of the document; the document's example.
-/
import Derived.Test.YtglgficmfpecgaaHpY
set_option linter.unusedVariables false
set_option linter.unusedSimpArgs false
namespace Go.Proofs.Ytglgficmfpecgaa
open Go.RowKit Plain

theorem OwnI.reads {w : World} {base : Nat} {v : Value} {l : List Int} (h : OwnI w base v l) : ∃ A c, v = .slice A l.length c ∧ Reads w w.heap.size 1 A l.length (l.map EnI) := by
  obtain ⟨A, c, e, _, hr⟩ := h.slice
  exact ⟨A, c, e, hr⟩
set_option maxHeartbeats 1000000 in
theorem same_own {w : World} {b1 b2 : Nat} {v1 v2 : Value} {l : List Int} (h1 : OwnI w b1 v1 l) (h2 : OwnI w b2 v2 l) (hl : l.length ≤ 100000) :
    Calls Try.prog 11 #[v1, v2] w fun e w' => e = .returned (.bool true) ∧ ∃ k, w' = w.drewN k := by
  obtain ⟨A, c, rfl, hr⟩ := h1.reads
  obtain ⟨A', c', rfl, hr'⟩ := h2.reads
  exact sameInts_yes l l.length rfl w _ _ A A' c c' hr hr' (by omega)

set_option maxHeartbeats 2000000 in
theorem lives_hp (w : World) : Calls Try.prog 15 #[] w fun e w' => e = .returned (.bool true) ∧ Below w.heap.size w w' := by
  have hN := Lib.hid (new_hp w w.heap.size (Nat.le_refl _))
  go_enter Try.func15, Try.ntmps15
  go_wp2_with fail
  refine hN.out.mono ?_
  rintro e w1 ⟨h, rfl, h1, f1⟩
  have hs1 := set_hp 7 10 h1 f1.bel.size Rel.nil (by simp)
  have HS1 := Lib.hid hs1; have HF1 := Lib.hid f1
  clear hs1 f1 h1 hN
  go_wp2_with fail
  refine HS1.out.mono ?_
  rintro e w2 ⟨rfl, ts2, n2, h2, r2, f2, _⟩
  have f2' := HF1.out.trans f2
  have e2 : setR [] 7 10 = [(7, 10)] := by decide
  rw [e2] at r2
  have hs2 := set_hp 3 10 h2 f2'.bel.size r2 (by rw [r2.perm.length_eq]; simp)
  have HS2 := Lib.hid hs2; have HF2 := Lib.hid f2'
  clear hs2 f2 f2' h2 r2 HS1
  go_wp2_with fail
  refine HS2.out.mono ?_
  rintro e w3 ⟨rfl, ts3, n3, h3, r3, f3, _⟩
  have f3' := HF2.out.trans f3
  have e3 : setR [(7, 10)] 3 10 = [(3, 10), (7, 10)] := by decide
  rw [e3] at r3
  have hs3 := due_hp 10 h3 f3'.bel.size r3 (by rw [r3.perm.length_eq]; simp)
  have HS3 := Lib.hid hs3; have HF3 := Lib.hid f3'
  clear hs3 f3 f3' h3 r3 HS2
  go_wp2_with fail
  refine HS3.out.mono ?_
  rintro e w4 ⟨v, rfl, ho, ts4, n4, h4, r4, f4, _⟩
  have e4 : (([((3 : Int), (10 : Int)), (7, 10)]).take (dueN [(3, 10), (7, 10)] 10)).map (·.1) = [3, 7] := by decide
  rw [e4] at ho
  obtain ⟨A, c, rfl, hr⟩ := ho.reads
  have hal : Below w4.heap.size w4 (w4.alloc (.cells #[.int .i64 3, .int .i64 7] 3)) := (Below.refl _ w4).alloc (Nat.le_refl _) _
  have hr2 := hr.below hal
  have hlit : Reads (w4.alloc (.cells #[.int .i64 3, .int .i64 7] 3)) (w4.heap.size + 1) 1 (some ⟨w4.heap.size, 0, none⟩) 2 ([3, 7].map EnI) := ⟨rfl, fun _ => ⟨_, rfl, by simp, fun j u hj => by
      match j, hj with
      | 0, hj => simp at hj; subst hj; simp [Addr.add]
      | 1, hj => simp at hj; subst hj; simp [Addr.add]⟩⟩
  have hsm := sameInts_yes [3, 7] 2 rfl (w4.alloc (.cells #[.int .i64 3, .int .i64 7] 3)) _ _ A (some ⟨w4.heap.size, 0, none⟩) c 2 hr2 hlit (by omega)
  have HSM := Lib.hid hsm; have HF4 := Lib.hid (HF3.out.trans f4)
  clear ho hr hal hr2 hlit hsm f4 h4 r4 HS3
  go_wp2_with fail
  refine HSM.out.mono ?_
  rintro e w5 ⟨rfl, k, rfl⟩
  go_wp2_with fail
  go_ret
  exact ⟨rfl, below_drews (HF4.out.bel.alloc HF4.out.bel.size _) _⟩

namespace Plain
def doesR (r : List Tm) (d : Int × Int × Int) : List Tm := if d.1 = 0 then setR r d.2.1 d.2.2 else if d.1 = 1 then cancelR r d.2.1 else if d.1 = 2 then r.drop (dueN r d.2.2) else r
def doesN (r : List Tm) (d : Int × Int × Int) : Nat := (if d.1 = 2 then dueN r d.2.2 else 1) * (3 * digV (r.length + 1))
end Plain
def dV (d : Int × Int × Int) : Value := .agg #[.int .i64 d.1, .int .i64 d.2.1, .int .i64 d.2.2]
section
variable {w : World} {B h n : Nat} {v : Value} {ts r : List Tm}
set_option maxRecDepth 100000 in
set_option maxHeartbeats 4000000 in
theorem does_hp (d : Int × Int × Int) (H : HP w B h ts n) (hB : B ≤ w.heap.size) (hR : Rel ts r) (hrow : RowT w v r) (hs : r.length ≤ 1000) :
    Calls Try.prog 9 #[.pointer (some ⟨h, 0, none⟩), v, dV d] w fun e w' => ∃ v', e = .returned (.tuple #[v', .bool true]) ∧ RowT w' v' (doesR r d) ∧ ∃ ts' n', HP w' B h ts' n' ∧ Rel ts' (doesR r d) ∧ Fx B w w' ∧ n ≤ n' ∧ n' ≤ n + doesN r d := by
  obtain ⟨d0, d1, d2⟩ := d
  unfold dV
  simp only
  have hl := hR.perm.length_eq
  have hal : Fx B w (w.alloc (.cells #[.int .i64 d0, .int .i64 d1, .int .i64 d2] 29)) := (Fx.refl B w).alloc hB _
  have H1 := H.below ((Below.refl w.heap.size w).alloc (Nat.le_refl _) (.cells #[.int .i64 d0, .int .i64 d1, .int .i64 d2] 29)) (Nat.le_refl _)
  have row1 := hrow.fx hal
  have bx : Blk (w.alloc (.cells #[.int .i64 d0, .int .i64 d1, .int .i64 d2] 29)) w.heap.size 29 #[.int .i64 d0, .int .i64 d1, .int .i64 d2] := Blk.new w _ _
  have hB1 := Nat.le_trans hB hal.bel.size
  have hdt : (29 : TypeId) ≠ 56 ∧ (29 : TypeId) ≠ 59 := by decide
  obtain ⟨W, hW⟩ : ∃ W, W = w.alloc (.cells #[.int .i64 d0, .int .i64 d1, .int .i64 d2] 29) := ⟨_, rfl⟩
  rw [← hW] at hal H1 row1 bx hB1
  obtain ⟨bb, hbb⟩ : ∃ b, b = w.heap.size := ⟨_, rfl⟩
  rw [← hbb] at bx
  have HAL := Lib.hid hal; have HH1 := Lib.hid H1; have ROW1 := Lib.hid row1; have BX := Lib.hid bx; have HB1 := Lib.hid hB1; have HR := Lib.hid hR; have HDT := Lib.hid hdt
  have HL := Lib.hid hl; have HBB := Lib.hid hbb; have HWW := Lib.hid hW
  have q0 := bx.cell 0
  have q1 := bx.cell 1
  have q2 := bx.cell 2
  simp at q0 q1 q2
  clear hal H1 row1 bx hB1 hR hl hrow H hdt
  by_cases k0 : d0 = 0
  · subst k0
    have hdR : doesR r (0, d1, d2) = setR r d1 d2 := rfl
    have hdN : doesN r (0, d1, d2) = 3 * digV (r.length + 1) := by unfold doesN; simp
    rw [hdR, hdN]
    have hc := set_r d1 d2 ROW1.out (by omega)
    obtain ⟨q, hq⟩ : ∃ q, q = hasR r d1 := ⟨_, rfl⟩
    rw [← hq] at hc
    have HC := Lib.hid hc; have HQ := Lib.hid hq
    clear hc hdR hdN hbb hW hq
    go_enter Try.func9, Try.ntmps9
    go_upto_region 1 with fail
    rw [← HWW.out, ← HBB.out]
    go_wp2_with fail
    refine HC.out.mono ?_
    rintro e w1 ⟨v', rfl, ho, hb⟩
    have bx1 := BX.out.below hb BX.out.lt
    have h1' := HH1.out.below hb (Nat.le_refl _)
    have f1' := HAL.out.trans (Fx.of_below hb HB1.out (Nat.le_refl _))
    have hBw1 := Nat.le_trans HB1.out hb.size
    have y1 := bx1.cell 1
    have y2 := bx1.cell 2
    simp at y1 y2
    have hs := set_hp d1 d2 h1' hBw1 HR.out (by rw [HL.out]; omega)
    rw [← HQ.out] at hs
    have HSS := Lib.hid hs; have HO := Lib.hid (RowT.of_own ho); have HF1 := Lib.hid f1'
    clear hs ho hb bx1 h1' f1' hBw1 q0 q1 q2 HC
    go_wp2_with fail
    refine HSS.out.mono ?_
    rintro e w2 ⟨rfl, ts', n', h2, r2, f2, g1, g2⟩
    go_wp2_with fail
    go_ret2
    refine ⟨_, rfl, HO.out.fx f2, ts', n', h2, r2, HF1.out.trans f2, g1, ?_⟩
    rw [HL.out] at g2
    exact g2
  · by_cases k1 : d0 = 1
    · subst k1
      have hdR : doesR r (1, d1, d2) = cancelR r d1 := rfl
      have hdN : doesN r (1, d1, d2) = 3 * digV (r.length + 1) := by unfold doesN; simp
      rw [hdR, hdN]
      have hc := cancel_r d1 ROW1.out (by omega)
      obtain ⟨q, hq⟩ : ∃ q, q = hasR r d1 := ⟨_, rfl⟩
      rw [← hq] at hc
      have HC := Lib.hid hc; have HQ := Lib.hid hq
      clear hc hdR hdN hbb hW hq
      go_enter Try.func9, Try.ntmps9
      go_upto_region 1 with fail
      rw [← HWW.out, ← HBB.out]
      go_wp2_with fail
      refine HC.out.mono ?_
      rintro e w1 ⟨v', rfl, ho, hb⟩
      have bx1 := BX.out.below hb BX.out.lt
      have h1' := HH1.out.below hb (Nat.le_refl _)
      have f1' := HAL.out.trans (Fx.of_below hb HB1.out (Nat.le_refl _))
      have hBw1 := Nat.le_trans HB1.out hb.size
      have y1 := bx1.cell 1
      have y2 := bx1.cell 2
      simp at y1 y2
      have hs := cancel_hp d1 h1' hBw1 HR.out (by rw [HL.out]; omega)
      rw [← HQ.out] at hs
      have HSS := Lib.hid hs; have HO := Lib.hid (RowT.of_own ho); have HF1 := Lib.hid f1'
      clear hs ho hb bx1 h1' f1' hBw1 q0 q1 q2 HC
      go_wp2_with fail
      refine HSS.out.mono ?_
      rintro e w2 ⟨rfl, ts', n', h2, r2, f2, g1, g2⟩
      go_wp2_with fail
      go_ret2
      refine ⟨_, rfl, HO.out.fx f2, ts', n', h2, r2, HF1.out.trans f2, g1, ?_⟩
      rw [HL.out] at g2
      have := digV_mono (show r.length ≤ r.length + 1 by omega)
      omega
    · by_cases k2 : d0 = 2
      · subst k2
        have hdR : doesR r (2, d1, d2) = r.drop (dueN r d2) := rfl
        have hdN : doesN r (2, d1, d2) = dueN r d2 * (3 * digV (r.length + 1)) := by unfold doesN; simp
        rw [hdR, hdN]
        have hc := due_r d2 ROW1.out (by omega)
        have HC := Lib.hid hc
        obtain ⟨L, hLq⟩ : ∃ L, L = (r.take (dueN r d2)).map (·.1) := ⟨_, rfl⟩
        have hLl : L.length ≤ 1000 := by rw [hLq]; simp; omega
        have HLQ := Lib.hid hLq; have HLL := Lib.hid hLl
        obtain ⟨R2, hR2⟩ : ∃ R, R = r.drop (dueN r d2) := ⟨_, rfl⟩
        have HR2 := Lib.hid hR2
        rw [← hR2]
        rw [← hR2, ← hLq] at HC
        clear hc hdR hdN hbb hW hLq hLl hR2
        go_enter Try.func9, Try.ntmps9
        go_upto_region 1 with fail
        rw [← HWW.out, ← HBB.out]
        go_wp2_with fail
        refine HC.out.mono ?_
        rintro e w1 ⟨v', u, rfl, hrw, ho, hb⟩
        have bx1 := BX.out.below hb BX.out.lt
        have h1' := HH1.out.below hb (Nat.le_refl _)
        have f1' := HAL.out.trans (Fx.of_below hb HB1.out (Nat.le_refl _))
        have hBw1 := Nat.le_trans HB1.out hb.size
        have y1 := bx1.cell 1
        have y2 := bx1.cell 2
        simp at y1 y2
        have hs := due_hp d2 h1' hBw1 HR.out (by rw [HL.out]; omega)
        rw [← HLQ.out, ← HR2.out] at hs
        have HSS := Lib.hid hs; have HRW := Lib.hid hrw; have HO := Lib.hid ho; have HF1 := Lib.hid f1'
        clear hs ho hrw hb bx1 h1' f1' hBw1 q0 q1 q2 HC
        go_wp2_with fail
        refine HSS.out.mono ?_
        rintro e w2 ⟨u2, rfl, ho2, ts', n', h2, r2, f2, g1, g2⟩
        have hsm := same_own ho2 (f2.own HO.out intT_ne.1 intT_ne.2) (by have := HLL.out; omega)
        have HSM := Lib.hid hsm; have HH2 := Lib.hid h2; have HRR2 := Lib.hid r2; have HF2 := Lib.hid f2; have HG1 := Lib.hid g1; have HG2 := Lib.hid g2
        clear ho2 h2 r2 f2 g1 g2 hsm HSS
        go_wp2_with fail
        refine HSM.out.mono ?_
        rintro e w3 ⟨rfl, k, rfl⟩
        go_wp2_with fail
        go_ret2
        refine ⟨_, rfl, (HRW.out.fx HF2.out).drewN k, ts', n', HH2.out.drewN k, HRR2.out, (HF1.out.trans HF2.out).drewN k, HG1.out, ?_⟩
        have g2 := HG2.out
        rw [HL.out] at g2
        have h7 := Nat.mul_le_mul_left (dueN r d2) (Nat.mul_le_mul_left 3 (digV_mono (show r.length ≤ r.length + 1 by omega)))
        omega
      · have hdR : doesR r (d0, d1, d2) = r := by unfold doesR; simp [k0, k1, k2]
        have hdN : doesN r (d0, d1, d2) = 3 * digV (r.length + 1) := by unfold doesN; simp [k2]
        rw [hdR, hdN]
        have hs := at_hp d1 HH1.out HR.out (by rw [HL.out]; omega)
        obtain ⟨pa, pb, hpq⟩ : ∃ pa pb, atR r d1 = (pa, pb) := ⟨_, _, rfl⟩
        have hc := fun (W' : World) (hx : RowT W' v r) => at_r d1 hx (by omega)
        rw [hpq] at hs hc
        simp only at hs hc
        have HC := Lib.hid hc; have HSS := Lib.hid hs
        have hk0 : (d0 == 0) = false := by rw [beq_eq_false_iff_ne]; exact k0
        have hk1 : (d0 == 1) = false := by rw [beq_eq_false_iff_ne]; exact k1
        have hk2 : (d0 == 2) = false := by rw [beq_eq_false_iff_ne]; exact k2
        clear hc hs hdR hdN hbb hW hpq
        go_enter Try.func9, Try.ntmps9
        go_upto_region 1 with fail
        rw [← HWW.out, ← HBB.out]
        go_wp2_with fail
        refine HSS.out.mono ?_
        rintro e w1 ⟨rfl, k, rfl⟩
        have bx1 := BX.out.drewN k
        have y1 := bx1.cell 1
        simp at y1
        have ha := HC.out _ (ROW1.out.drewN k)
        have HA := Lib.hid ha
        clear bx1 ha HC HSS q0 q1 q2
        go_wp2_with fail
        refine HA.out.mono ?_
        rintro e w2 ⟨rfl, rfl⟩
        go_wp2_with fail
        go_ret2
        exact ⟨_, rfl, ROW1.out.drewN k, ts, n, HH1.out.drewN k, HR.out, HAL.out.drewN k, Nat.le_refl _, Nat.le_add_right _ _⟩
end
end Go.Proofs.Ytglgficmfpecgaa
