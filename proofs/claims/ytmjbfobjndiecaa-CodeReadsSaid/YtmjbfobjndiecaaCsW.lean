
/-
  How the document writes a program.
-/
import Derived.Test.YtmjbfobjndiecaaRefW
import Derived.Test.YtmjbfobjndiecaaGoodM
set_option linter.unusedVariables false
set_option linter.unusedSimpArgs false
namespace Go.Proofs.Ytmjbfobjndiecaa
open Go.RowKit Plain

theorem OutB.app {W wr w3 w4 : World} {bs ys : List Nat} {v v' : Value} {m : Nat} (h : OutB W W.heap.size bs v wr) (hb : Below wr.heap.size wr w3) (hm : m = ys.length)
    (ho : w4.ownsRow W.heap.size 5 1 v' (bs.length + m) (BS bs ++ BS ys)) (hg : w3.grownBy w4 v.ownBlock) : OutB W W.heap.size (bs ++ ys) v' w4 := by
  obtain ⟨A, c, rfl, h1, h2⟩ := h
  obtain ⟨A4, c4, rfl, _, _⟩ := own_slice ho
  have hl : bs.length + m = (bs ++ ys).length := by rw [List.length_append, hm]
  rw [hl, BS_append] at ho
  rw [hl]
  refine ⟨A4, c4, rfl, ho, ?_⟩
  exact (h2.trans (hb.mono h2.size)).grown hg (by have := h2.size; have := hb.size; omega) (fun i hi => (h1.lt i hi).1)
theorem OutB.blk {W wr w3 w4 : World} {bs : List Nat} {v : Value} {g : Nat} {t : TypeId} {cs : Array Value} (h : OutB W W.heap.size bs v wr) (hb : Below wr.heap.size wr w3) (hk : Blk wr g t cs) (ht : 5 ≠ t) (hg : w3.grownBy w4 v.ownBlock) : Blk w4 g t cs := by
  obtain ⟨A, c, rfl, h1, h2⟩ := h
  exact (hk.below hb hk.lt).grown hg (fun e => own_blk_ne h1 hk ht e.symm)
theorem OutB.bel {W wr : World} {bs : List Nat} {v : Value} (h : OutB W W.heap.size bs v wr) : Below W.heap.size W wr := by
  obtain ⟨_, _, _, _, h⟩ := h; exact h
theorem OutB.up {w W u : World} {bs : List Nat} {v : Value} (h : OutB W W.heap.size bs v u) (hB : Below w.heap.size w W) : OutB w w.heap.size bs v u := by
  obtain ⟨A, c, h0, h1, h2⟩ := h
  exact ⟨A, c, h0, own_mono h1 hB.size, hB.trans (h2.mono hB.size)⟩
theorem OutB.alloc {W wr : World} {bs : List Nat} {v : Value} (h : OutB W W.heap.size bs v wr) (o : Obj) : OutB W W.heap.size bs v (wr.alloc o) := by
  obtain ⟨A, c, h0, h1, h2⟩ := h
  exact ⟨A, c, h0, h1.alloc o, h2.alloc h2.size o⟩


def RelW (W : World) (p : PV) (s3 s4 : Value) (wr : World) : Prop := ∃ k : Nat, k ≤ p.funcs.length ∧ s4 = .int .i64 (k : Int) ∧ OutB W W.heap.size (shortL p.funcs.length ++ (p.funcs.take k).flatMap funcL) s3 wr
def RelV (W : World) (g : Nat) (cs : Array Value) (bs : List Nat) (c : List IV) (s3 s6 : Value) (wr : World) : Prop := ∃ j : Nat, j ≤ c.length ∧ s6 = .int .i64 (j : Int) ∧ OutB W W.heap.size (bs ++ (c.take j).flatMap instrL) s3 wr ∧ Blk wr g 45 cs
def RelX (W : World) (bs : List Nat) (l : List (List Int)) (s3 s7 : Value) (wr : World) : Prop := ∃ k : Nat, k ≤ l.length ∧ s7 = .int .i64 (k : Int) ∧ OutB W W.heap.size (bs ++ (l.take k).flatMap listL) s3 wr
set_option maxHeartbeats 8000000 in
set_option maxRecDepth 100000 in
theorem refWrite_any (h : PH) (p : PV) (w : World) (B : Nat) (hr : RP w B h p) (hB : B ≤ w.heap.size) (hp : Puts p) :
    Calls Try.prog 12 #[.agg #[.slice h.fA p.funcs.length h.fc, .int .i64 p.mutexes, .slice h.cA p.conds.length h.cc, .slice h.sA p.semas.length h.sc, .slice h.hA p.chans.length h.hc, .slice h.xA p.choices.length h.xc, .int .i64 p.threads]] w fun e w' => ∃ v, e = .returned v ∧ OutB w w.heap.size (progL p) v w' := by
  obtain ⟨i0, hi0, hz0, hz1, hz2⟩ := info_parts info_byte
  obtain ⟨fA, fc, cA, cc, sA, sc, hA, hc, xA, xc⟩ := h
  obtain ⟨W, hW⟩ : ∃ W, W = w.alloc (.cells #[.slice fA p.funcs.length fc, .int .i64 p.mutexes, .slice cA p.conds.length cc, .slice sA p.semas.length sc, .slice hA p.chans.length hc, .slice xA p.choices.length xc, .int .i64 p.threads] 26) := ⟨_, rfl⟩
  have T1 : Blk W w.heap.size 26 #[.slice fA p.funcs.length fc, .int .i64 p.mutexes, .slice cA p.conds.length cc, .slice sA p.semas.length sc, .slice hA p.chans.length hc, .slice xA p.choices.length xc, .int .i64 p.threads] := by rw [hW]; exact Blk.new _ _ _
  have T3 : Below w.heap.size w W := by rw [hW]; exact (Below.refl _ _).alloc (Nat.le_refl _) _
  have zW := T1.lt
  have KS : Hid (∀ X, Below W.heap.size W X → X.cell? ⟨w.heap.size, 0, none⟩ = some (.slice fA p.funcs.length fc) ∧ X.cell? ⟨w.heap.size, 1, none⟩ = some (.int .i64 p.mutexes) ∧ X.cell? ⟨w.heap.size, 2, none⟩ = some (.slice cA p.conds.length cc) ∧ X.cell? ⟨w.heap.size, 3, none⟩ = some (.slice sA p.semas.length sc) ∧ X.cell? ⟨w.heap.size, 4, none⟩ = some (.slice hA p.chans.length hc) ∧ X.cell? ⟨w.heap.size, 5, none⟩ = some (.slice xA p.choices.length xc) ∧ X.cell? ⟨w.heap.size, 6, none⟩ = some (.int .i64 p.threads)) := by
    intro X hX
    exact ⟨(hX.cell (p := ⟨w.heap.size, 0, none⟩) (show w.heap.size < W.heap.size by omega)).trans ((T1.cell 0).trans rfl), (hX.cell (p := ⟨w.heap.size, 1, none⟩) (show w.heap.size < W.heap.size by omega)).trans ((T1.cell 1).trans rfl), (hX.cell (p := ⟨w.heap.size, 2, none⟩) (show w.heap.size < W.heap.size by omega)).trans ((T1.cell 2).trans rfl), (hX.cell (p := ⟨w.heap.size, 3, none⟩) (show w.heap.size < W.heap.size by omega)).trans ((T1.cell 3).trans rfl), (hX.cell (p := ⟨w.heap.size, 4, none⟩) (show w.heap.size < W.heap.size by omega)).trans ((T1.cell 4).trans rfl), (hX.cell (p := ⟨w.heap.size, 5, none⟩) (show w.heap.size < W.heap.size by omega)).trans ((T1.cell 5).trans rfl), (hX.cell (p := ⟨w.heap.size, 6, none⟩) (show w.heap.size < W.heap.size by omega)).trans ((T1.cell 6).trans rfl)⟩
  have RX : Hid (∀ X, Below W.heap.size W X → RP X w.heap.size ⟨fA, fc, cA, cc, sA, sc, hA, hc, xA, xc⟩ p) := fun X hX => (hr.more hB).below (T3.trans (hX.mono (by omega)))
  have HWW := Lib.hid hW.symm; have HT3 := Lib.hid T3
  have hpf := hp.funcs.1
  have hpm := hp.mutexes; have hpt := hp.threads; have hpc := hp.conds.1; have hps := hp.semas.1; have hph := hp.chans.1; have hpx := hp.choices.1
  have HP := Lib.hid hp
  obtain ⟨p0, p1, p2, p3, p4, p5, p6⟩ := KS.out W (Below.refl _ _)
  clear hr hp hW T1 T3
  go_enter Try.func12, Try.ntmps12
  go_upto_region 1 with fail
  rw [HWW.out]
  go_wp2_with fail
  refine (ref_short (p.funcs.length : Int) W (by omega)).mono ?_
  rintro e w1 ⟨A1, c1, rfl, hown1, hb1⟩
  rw [show ((p.funcs.length : Int)).toNat = p.funcs.length by omega] at hown1
  have HO1 := Lib.hid hown1; have HB1 := Lib.hid hb1
  clear hown1 hb1 p0 p1 p2 p3 p4 p5 p6
  rw [show ((p.funcs.length : Int)).toNat = p.funcs.length by omega]
  go_wp2_with fail
  go_loopw [3, 4] (fun s3 s4 wr => RelW W p s3 s4 wr) (fun _ s4 _ => p.funcs.length - (intOf s4).toNat)
  case atStart => exact ⟨0, by omega, rfl, A1, c1, by simp, by simpa using HO1.out, HB1.out⟩
  case round =>
    obtain ⟨k, hk, rfl, ho⟩ := hrel
    clear HO1 HB1
    obtain ⟨p0, p1, p2, p3, p4, p5, p6⟩ := KS.out wr ho.bel
    have hLk : (shortL p.funcs.length ++ (p.funcs.take k).flatMap funcL).length ≤ 9 + 1000 * 10018 := by
      have h1 := shortN_len (n := p.funcs.length) (by omega)
      have h2 := flatMap_len (p.funcs.take k) funcL 10018 (fun f hf => funcL_len f (HP.out.funcs.2 f (List.mem_of_mem_take hf)).2.1 (HP.out.funcs.2 f (List.mem_of_mem_take hf)).1)
      simp only [List.length_append, List.length_take] at h2 ⊢
      have : min k p.funcs.length * 10018 ≤ 1000 * 10018 := Nat.mul_le_mul_right _ (by omega)
      omega
    by_cases hlt : k < p.funcs.length
    · have hrx := (RX.out wr ho.bel).funcs
      obtain ⟨ad, t, rfl, hb0, hz, d0, d1, hrc⟩ := hrx.at_ hlt
      have HSN := Lib.hid (flatMap_take (f := funcL) hz)
      have hpf' := HP.out.funcs.2 _ (List.mem_of_getElem? hz)
      have htl := hpf'.1
      have htc := hpf'.2.1
      have HPF := Lib.hid hpf'.2.2
      generalize hbs : (shortL p.funcs.length ++ (p.funcs.take k).flatMap funcL) = bs at *
      have HBS := Lib.hid hbs
      have hbel := ho.bel
      have hkb : Blk (wr.alloc (.cells #[.int .i64 t.f.locals, .slice t.A t.f.code.length t.c] 45)) wr.heap.size 45 #[.int .i64 t.f.locals, .slice t.A t.f.code.length t.c] := Blk.new _ _ _
      have hoa := ho.alloc (.cells #[.int .i64 t.f.locals, .slice t.A t.f.code.length t.c] 45)
      obtain ⟨Wb, hWb⟩ : ∃ X, X = wr.alloc (.cells #[.int .i64 t.f.locals, .slice t.A t.f.code.length t.c] 45) := ⟨_, rfl⟩
      rw [← hWb] at hkb hoa
      have HWb := Lib.hid hWb.symm
      have hrcb : ∀ X, Below W.heap.size W X → RC X w.heap.size t.A t.f.code.length t.c t.f.code := fun X hX => by
        have h1 := (RX.out X hX).funcs
        obtain ⟨ad', t', e', _, hz', _, d1', hrc'⟩ := h1.at_ hlt
        injection e' with e'
        subst e'
        have h2 := hbel.cell (p := ⟨(ad.add (k * 2)).block, (ad.add (k * 2)).off + 1, none⟩) (by show (ad.add (k * 2)).block < _; rw [block_of_add]; omega)
        have h3 := hX.cell (p := ⟨(ad.add (k * 2)).block, (ad.add (k * 2)).off + 1, none⟩) (by show (ad.add (k * 2)).block < _; rw [block_of_add]; omega)
        rw [h3, ← h2, d1] at d1'
        injection d1' with d1'
        injection d1' with q1 q2 q3
        have hff : t'.f = t.f := by rw [hz'] at hz; injection hz
        rw [hff, ← q1, ← q3] at hrc'
        exact hrc'
      have HRC := Lib.hid hrcb
      clear hz hpf' hbs hWb hrx hrc hrcb hbel ho
      have HK := Lib.hid hkb
      have x0 := (hkb.cell 0).trans rfl
      have x1 := (hkb.cell 1).trans rfl
      have zk := hkb.lt
      clear hkb
      obtain ⟨A2, c2, rfl, how, hbw⟩ := hoa
      have HO : Hid (OutB W W.heap.size bs (.slice A2 (bs).length c2) Wb) := ⟨A2, c2, rfl, how, hbw⟩
      have HOW := Lib.hid how
      have zw := hbw.size
      clear how hbw
      go_upto_region 6 with fail
      rw [HWb.out]
      go_wp2_with fail
      refine (ref_short t.f.locals Wb htl).mono ?_
      rintro e w3 ⟨A3, c3, rfl, hown3, hb3⟩
      have hy : (shortL t.f.locals.toNat).length ≤ 9 := shortI_len htl
      have z3 := hb3.size
      have zo := HO.out.bel.size
      have HR3 := Lib.hid (Reads.of_own hown3); have HB3 := Lib.hid hb3
      clear hown3 hb3
      have HOb : Hid (w3.ownsRow W.heap.size 5 1 (.slice A2 bs.length c2) bs.length (BS bs)) := (Fr.of_below HB3.out).own HOW.out (fun i hi => by have := (HOW.out.lt i hi).2; omega)
      go_wp2_with (at_builtin; go_must (refine wpList_append_any _ rfl (.tmp 24) (.tmp 27) _ rfl W.heap.size 5 i0 _ 1 1 Try.underlying29 hi0 hz0 hz1 hz2 rfl (by decide) (.slice A2 bs.length c2) _ _ rfl HOb.out _ A3 (shortL t.f.locals.toNat).length c3 (BS (shortL t.f.locals.toNat)) rfl HR3.out (BS_one _) ?c1 ?c2 (by omega) ?k))
      case c1 => unfold maxLen; omega
      case c2 => omega
      case k =>
      intro v4 w4 hown4 hg4 hat4
      have ho4 := HO.out.app HB3.out rfl hown4 hg4
      have HK4 := Lib.hid (HO.out.blk HB3.out HK.out (by decide) hg4)
      clear hat4 hg4 hown4 HOb HR3 HB3
      obtain ⟨bn, hbn⟩ : ∃ bn, bn = bs ++ (shortL t.f.locals.toNat) := ⟨_, rfl⟩
      rw [← hbn] at ho4
      have hL4 : bn.length ≤ 18 + 1000 * 10018 := by rw [hbn, List.length_append]; omega
      have HE4 : Hid (bn = bs ++ (shortL t.f.locals.toNat)) := hbn
      have hk4 := HK4.out
      clear HO HOW HK hbn hy z3 zo zw x0 x1 zk
      have x0 := (hk4.cell 0).trans rfl
      have x1 := (hk4.cell 1).trans rfl
      have zk := hk4.lt
      clear hk4
      have HK := HK4
      clear HK4
      have HE1 := HE4
      clear HE4
      have hLb : bs.length ≤ 9 + 1000 * 10018 := hLk
      obtain ⟨bs0, hbs0⟩ : ∃ b, b = bs := ⟨_, rfl⟩
      have HE0 : Hid (bs0 = bs) := hbs0
      clear hbs0
      obtain ⟨A2, c2, rfl, how, hbw⟩ := ho4
      have HO : Hid (OutB W W.heap.size bn (.slice A2 (bn).length c2) w4) := ⟨A2, c2, rfl, how, hbw⟩
      have HOW := Lib.hid how
      have zw := hbw.size
      clear how hbw
      go_wp2_with fail
      refine (ref_short (t.f.code.length : Int) w4 (by omega)).mono ?_
      rintro e w3 ⟨A3, c3, rfl, hown3, hb3⟩
      rw [show ((t.f.code.length : Int)).toNat = t.f.code.length by omega] at hown3
      rw [show ((t.f.code.length : Int)).toNat = t.f.code.length by omega]
      have hy : (shortL t.f.code.length).length ≤ 9 := shortN_len (by omega)
      have z3 := hb3.size
      have zo := HO.out.bel.size
      have HR3 := Lib.hid (Reads.of_own hown3); have HB3 := Lib.hid hb3
      clear hown3 hb3
      have HOb : Hid (w3.ownsRow W.heap.size 5 1 (.slice A2 bn.length c2) bn.length (BS bn)) := (Fr.of_below HB3.out).own HOW.out (fun i hi => by have := (HOW.out.lt i hi).2; omega)
      go_wp2_with (at_builtin; go_must (refine wpList_append_any _ rfl (.tmp 29) (.tmp 33) _ rfl W.heap.size 5 i0 _ 1 1 Try.underlying29 hi0 hz0 hz1 hz2 rfl (by decide) (.slice A2 bn.length c2) _ _ rfl HOb.out _ A3 (shortL t.f.code.length).length c3 (BS (shortL t.f.code.length)) rfl HR3.out (BS_one _) ?c1 ?c2 (by omega) ?k))
      case c1 => unfold maxLen; omega
      case c2 => omega
      case k =>
      intro v5 w5 hown4 hg4 hat4
      have ho5 := HO.out.app HB3.out rfl hown4 hg4
      have HK4 := Lib.hid (HO.out.blk HB3.out HK.out (by decide) hg4)
      clear hat4 hg4 hown4 HOb HR3 HB3
      obtain ⟨bm, hbm⟩ : ∃ bm, bm = bn ++ shortL t.f.code.length := ⟨_, rfl⟩
      rw [← hbm] at ho5
      have hLm : bm.length ≤ 27 + 1000 * 10018 := by rw [hbm, List.length_append]; omega
      have HE2 : Hid (bm = bn ++ shortL t.f.code.length) := hbm
      clear HO HOW HK hbm hy z3 zo zw x0 x1 zk
      have HK := HK4
      have HO5 := Lib.hid ho5
      clear HK4 ho5
      go_wp2_with fail
      clear HWb
      generalize wr.heap.size = gb at *
      go_loopw [3, 6] (fun s3 s6 wx => RelV W gb #[.int .i64 t.f.locals, .slice t.A t.f.code.length t.c] bm t.f.code s3 s6 wx) (fun _ s6 _ => t.f.code.length - (intOf s6).toNat)
      case atStart => exact ⟨0, by omega, rfl, by simpa using HO5.out, HK.out⟩
      case round =>
        obtain ⟨j, hj, rfl, ho, hkb⟩ := hrel
        clear HO5 HK
        have x0 := (hkb.cell 0).trans rfl
        have x1 := (hkb.cell 1).trans rfl
        have zk := hkb.lt
        have HK := Lib.hid hkb
        have hLj : (bm ++ (t.f.code.take j).flatMap instrL).length ≤ 27 + 1000 * 10018 + 10000 := by
          have h2 := flatMap_len (t.f.code.take j) instrL 10 (fun x _ => instrL_len x)
          simp only [List.length_append, List.length_take] at h2 ⊢
          have : min j t.f.code.length * 10 ≤ 1000 * 10 := Nat.mul_le_mul_right _ (by omega)
          omega
        by_cases hlt2 : j < t.f.code.length
        · obtain ⟨ae, i, hAe, hbe, hz, d0, d1⟩ := (HRC.out _ ho.bel).at_ hlt2
          rw [hAe] at x1
          have HAE := Lib.hid hAe
          clear hAe
          have HSJ := Lib.hid (flatMap_take (f := instrL) hz)
          have hpi := HPF.out _ (List.mem_of_getElem? hz)
          have ho1 := hpi.1.1; have ho2 := hpi.1.2; have hi1 := hpi.2.1; have hi2 := hpi.2.2
          generalize hbq : (bm ++ (t.f.code.take j).flatMap instrL) = bq at *
          have HBQ := Lib.hid hbq
          clear hz hpi hbq hkb
          have hbx := ho.bel
          have d1x : ∀ X, Below W.heap.size W X → X.cell? ⟨(ae.add (j * 2)).block, (ae.add (j * 2)).off + 1, none⟩ = some (.int .i64 i.a) := fun X hX => by
            rw [← d1, hbx.cell (p := ⟨(ae.add (j * 2)).block, (ae.add (j * 2)).off + 1, none⟩) (by show (ae.add (j * 2)).block < _; rw [block_of_add]; omega)]
            exact hX.cell (p := ⟨(ae.add (j * 2)).block, (ae.add (j * 2)).off + 1, none⟩) (by show (ae.add (j * 2)).block < _; rw [block_of_add]; omega)
          have HD := Lib.hid d1x
          clear d1 d1x hbx
          obtain ⟨A2, c2, rfl, how, hbw⟩ := ho
          have HO : Hid (OutB W W.heap.size bq (.slice A2 (bq).length c2) wr) := ⟨A2, c2, rfl, how, hbw⟩
          have HOW := Lib.hid how
          have zw := hbw.size
          clear how hbw
          have hcv : i.op % 256 = ((i.op.toNat % 256 : Nat) : Int) := by omega
          have hro : ∀ T, Reads (wr.alloc (.cells #[.int .u8 (i.op % 256)] T)) (wr.heap.size + 1) 1 (some ⟨wr.heap.size, 0, none⟩) 1 (BS [i.op.toNat % 256]) := fun T => by rw [hcv]; exact reads_one wr _ T
          have HRO := Lib.hid hro
          clear hro hcv
          go_upto_region 11 with fail
          go_wp2_with (at_builtin; go_must (refine wpList_append_any _ rfl (.tmp 42) (.tmp 50) _ rfl W.heap.size 5 i0 _ 1 1 Try.underlying29 hi0 hz0 hz1 hz2 rfl (by decide) (.slice A2 bq.length c2) _ _ rfl (HOW.out.alloc _) _ (some ⟨wr.heap.size, 0, none⟩) 1 1 (BS [i.op.toNat % 256]) rfl (HRO.out _) (BS_one _) ?c1 ?c2 ?c3 ?k))
          case c1 => unfold maxLen; omega
          case c2 => omega
          case c3 => simp; omega
          case k =>
          intro v4 w4 hown4 hg4 hat4
          have hbo : Below wr.heap.size wr (wr.alloc (.cells #[.int .u8 (i.op % 256)] 5)) := (Below.refl _ _).alloc (Nat.le_refl _) _
          have ho4 := HO.out.app (ys := [i.op.toNat % 256]) hbo rfl hown4 hg4
          have hk4 := HO.out.blk hbo HK.out (by decide) hg4
          obtain ⟨bn, hbn⟩ : ∃ bn, bn = bq ++ [i.op.toNat % 256] := ⟨_, rfl⟩
          rw [← hbn] at ho4
          have hL4 : bn.length ≤ 27 + 1000 * 10018 + 10001 := by rw [hbn, List.length_append]; simp; omega
          have HBN := Lib.hid hbn
          have e1 := HD.out w4 ho4.bel
          clear hat4 hg4 hown4 hbo HO HOW HK x0 x1 zk zw hbn d0
          have x0 := (hk4.cell 0).trans rfl
          have x1 := (hk4.cell 1).trans rfl
          rw [HAE.out] at x1
          have zk := hk4.lt
          have HK := Lib.hid hk4
          clear hk4
          obtain ⟨A2, c2, rfl, how, hbw⟩ := ho4
          have HO : Hid (OutB W W.heap.size bn (.slice A2 (bn).length c2) w4) := ⟨A2, c2, rfl, how, hbw⟩
          have HOW := Lib.hid how
          have zw := hbw.size
          clear how hbw
          go_wp2_with fail
          refine (ref_signed i.a w4 hi1 hi2).mono ?_
          rintro e w3 ⟨A3, c3, rfl, hown3, hb3⟩
          have hy : (shortL (zig (clampZ i.a))).length ≤ 9 := shortL_nine (zig_le i.a)
          have z3 := hb3.size
          have zo := HO.out.bel.size
          have HR3 := Lib.hid (Reads.of_own hown3); have HB3 := Lib.hid hb3
          clear hown3 hb3
          have HOb : Hid (w3.ownsRow W.heap.size 5 1 (.slice A2 bn.length c2) bn.length (BS bn)) := (Fr.of_below HB3.out).own HOW.out (fun i hi => by have := (HOW.out.lt i hi).2; omega)
          go_wp2_with (at_builtin; go_must (refine wpList_append_any _ rfl (.tmp 52) (.tmp 59) _ rfl W.heap.size 5 i0 _ 1 1 Try.underlying29 hi0 hz0 hz1 hz2 rfl (by decide) (.slice A2 bn.length c2) _ _ rfl HOb.out _ A3 (shortL (zig (clampZ i.a))).length c3 (BS (shortL (zig (clampZ i.a)))) rfl HR3.out (BS_one _) ?c1 ?c2 (by omega) ?k))
          case c1 => unfold maxLen; omega
          case c2 => omega
          case k =>
          intro v5 w5 hown4 hg4 hat4
          have ho5 := HO.out.app HB3.out rfl hown4 hg4
          have HK4 := Lib.hid (HO.out.blk HB3.out HK.out (by decide) hg4)
          clear hat4 hg4 hown4 HOb HR3 HB3
          have HO5 := Lib.hid ho5
          clear ho5 hy x0 x1
          have hvj : bm ++ (t.f.code.take (j + 1)).flatMap instrL = bn ++ shortL (zig (clampZ i.a)) := by
            rw [HSJ.out, HBN.out, ← HBQ.out]
            simp [instrL, fixedL, clampZ]
          have HVJ := Lib.hid hvj
          clear hvj
          go_wp2_with fail
          exact ⟨⟨j + 1, by omega, by go_num, by rw [HVJ.out]; exact HO5.out, HK4.out⟩, by simp [intOf]; omega⟩
        · have hje : j = t.f.code.length := by omega
          rw [hje, List.take_of_length_le (Nat.le_refl _)] at ho
          have hvk : shortL p.funcs.length ++ (p.funcs.take (k + 1)).flatMap funcL = bm ++ t.f.code.flatMap instrL := by
            rw [HSN.out, HE2.out, HE1.out, ← List.append_assoc, HBS.out]
            simp [funcL, codeL]
          rw [← hvk] at ho
          have HOE := Lib.hid ho
          clear ho hvk hkb
          go_wp2_with fail
          exact ⟨⟨k + 1, by omega, by go_num, HOE.out⟩, by simp [intOf]; omega⟩
    · rw [List.take_of_length_le (by omega)] at ho hLk
      have hfe : shortL p.funcs.length ++ p.funcs.flatMap funcL = funcsL p.funcs := rfl
      rw [hfe] at ho hLk
      clear hfe
      have hfl := ho
      have hL0 := hLk
      generalize hfb : funcsL p.funcs = bs at *
      have HFB := Lib.hid hfb
      clear hfb ho hLk
      clear p0 p1 p2 p3 p4 p5 p6
      obtain ⟨A2, c2, rfl, how, hbw⟩ := hfl
      have HO : Hid (OutB W W.heap.size bs (.slice A2 (bs).length c2) wr) := ⟨A2, c2, rfl, how, hbw⟩
      have HOW := Lib.hid how
      have zw := hbw.size
      clear how hbw
      obtain ⟨p0, p1, p2, p3, p4, p5, p6⟩ := KS.out _ HO.out.bel
      go_wp2_with fail
      refine (ref_short p.mutexes wr hpm).mono ?_
      rintro e w3 ⟨A3, c3, rfl, hown3, hb3⟩
      have hy : (shortL p.mutexes.toNat).length ≤ 9 := shortI_len hpm
      have z3 := hb3.size
      have zo := HO.out.bel.size
      have HR3 := Lib.hid (Reads.of_own hown3); have HB3 := Lib.hid hb3
      clear hown3 hb3
      have HOb : Hid (w3.ownsRow W.heap.size 5 1 (.slice A2 bs.length c2) bs.length (BS bs)) := (Fr.of_below HB3.out).own HOW.out (fun i hi => by have := (HOW.out.lt i hi).2; omega)
      go_wp2_with (at_builtin; go_must (refine wpList_append_any _ rfl (.tmp 61) (.tmp 64) _ rfl W.heap.size 5 i0 _ 1 1 Try.underlying29 hi0 hz0 hz1 hz2 rfl (by decide) (.slice A2 bs.length c2) _ _ rfl HOb.out _ A3 (shortL p.mutexes.toNat).length c3 (BS (shortL p.mutexes.toNat)) rfl HR3.out (BS_one _) ?c1 ?c2 (by omega) ?k))
      case c1 => unfold maxLen; omega
      case c2 => omega
      case k =>
      intro v5 u1 hown4 hg4 hat4
      have ho5 := HO.out.app HB3.out rfl hown4 hg4
      clear hat4 hg4 hown4 HOb HR3 HB3
      obtain ⟨b1, hbn⟩ : ∃ b, b = bs ++ (shortL p.mutexes.toNat) := ⟨_, rfl⟩
      rw [← hbn] at ho5
      have hfl := ho5
      have hLb1 : b1.length ≤ 10018018 := by rw [hbn, List.length_append]; omega
      have HEb1 : Hid (b1 = bs ++ (shortL p.mutexes.toNat)) := hbn
      clear HO HOW hbn hy z3 zo zw ho5 p0 p1 p2 p3 p4 p5 p6
      obtain ⟨A2, c2, rfl, how, hbw⟩ := hfl
      have HO : Hid (OutB W W.heap.size b1 (.slice A2 (b1).length c2) u1) := ⟨A2, c2, rfl, how, hbw⟩
      have HOW := Lib.hid how
      have zw := hbw.size
      clear how hbw
      obtain ⟨p0, p1, p2, p3, p4, p5, p6⟩ := KS.out _ HO.out.bel
      go_wp2_with fail
      refine (refList_any p.conds u1 w.heap.size cA p.conds.length cc (RX.out u1 HO.out.bel).conds (by have := HT3.out.size; omega) HP.out.conds.1 HP.out.conds.2).mono ?_
      rintro e w3 ⟨v3, rfl, A3, c3, rfl, hown3, hb3⟩
      have hy : (listL p.conds).length ≤ 9009 := listL_len _ hpc HP.out.conds.2
      have z3 := hb3.size
      have zo := HO.out.bel.size
      have HR3 := Lib.hid (Reads.of_own hown3); have HB3 := Lib.hid hb3
      clear hown3 hb3
      have HOb : Hid (w3.ownsRow W.heap.size 5 1 (.slice A2 b1.length c2) b1.length (BS b1)) := (Fr.of_below HB3.out).own HOW.out (fun i hi => by have := (HOW.out.lt i hi).2; omega)
      go_wp2_with (at_builtin; go_must (refine wpList_append_any _ rfl (.tmp 66) (.tmp 69) _ rfl W.heap.size 5 i0 _ 1 1 Try.underlying29 hi0 hz0 hz1 hz2 rfl (by decide) (.slice A2 b1.length c2) _ _ rfl HOb.out _ A3 (listL p.conds).length c3 (BS (listL p.conds)) rfl HR3.out (BS_one _) ?c1 ?c2 (by omega) ?k))
      case c1 => unfold maxLen; omega
      case c2 => omega
      case k =>
      intro v5 u2 hown4 hg4 hat4
      have ho5 := HO.out.app HB3.out rfl hown4 hg4
      clear hat4 hg4 hown4 HOb HR3 HB3
      obtain ⟨b2, hbn⟩ : ∃ b, b = b1 ++ (listL p.conds) := ⟨_, rfl⟩
      rw [← hbn] at ho5
      have hfl := ho5
      have hLb2 : b2.length ≤ 10027027 := by rw [hbn, List.length_append]; omega
      have HEb2 : Hid (b2 = b1 ++ (listL p.conds)) := hbn
      clear HO HOW hbn hy z3 zo zw ho5 p0 p1 p2 p3 p4 p5 p6
      obtain ⟨A2, c2, rfl, how, hbw⟩ := hfl
      have HO : Hid (OutB W W.heap.size b2 (.slice A2 (b2).length c2) u2) := ⟨A2, c2, rfl, how, hbw⟩
      have HOW := Lib.hid how
      have zw := hbw.size
      clear how hbw
      obtain ⟨p0, p1, p2, p3, p4, p5, p6⟩ := KS.out _ HO.out.bel
      go_wp2_with fail
      refine (refList_any p.semas u2 w.heap.size sA p.semas.length sc (RX.out u2 HO.out.bel).semas (by have := HT3.out.size; omega) HP.out.semas.1 HP.out.semas.2).mono ?_
      rintro e w3 ⟨v3, rfl, A3, c3, rfl, hown3, hb3⟩
      have hy : (listL p.semas).length ≤ 9009 := listL_len _ hps HP.out.semas.2
      have z3 := hb3.size
      have zo := HO.out.bel.size
      have HR3 := Lib.hid (Reads.of_own hown3); have HB3 := Lib.hid hb3
      clear hown3 hb3
      have HOb : Hid (w3.ownsRow W.heap.size 5 1 (.slice A2 b2.length c2) b2.length (BS b2)) := (Fr.of_below HB3.out).own HOW.out (fun i hi => by have := (HOW.out.lt i hi).2; omega)
      go_wp2_with (at_builtin; go_must (refine wpList_append_any _ rfl (.tmp 71) (.tmp 74) _ rfl W.heap.size 5 i0 _ 1 1 Try.underlying29 hi0 hz0 hz1 hz2 rfl (by decide) (.slice A2 b2.length c2) _ _ rfl HOb.out _ A3 (listL p.semas).length c3 (BS (listL p.semas)) rfl HR3.out (BS_one _) ?c1 ?c2 (by omega) ?k))
      case c1 => unfold maxLen; omega
      case c2 => omega
      case k =>
      intro v5 u3 hown4 hg4 hat4
      have ho5 := HO.out.app HB3.out rfl hown4 hg4
      clear hat4 hg4 hown4 HOb HR3 HB3
      obtain ⟨b3, hbn⟩ : ∃ b, b = b2 ++ (listL p.semas) := ⟨_, rfl⟩
      rw [← hbn] at ho5
      have hfl := ho5
      have hLb3 : b3.length ≤ 10036036 := by rw [hbn, List.length_append]; omega
      have HEb3 : Hid (b3 = b2 ++ (listL p.semas)) := hbn
      clear HO HOW hbn hy z3 zo zw ho5 p0 p1 p2 p3 p4 p5 p6
      obtain ⟨A2, c2, rfl, how, hbw⟩ := hfl
      have HO : Hid (OutB W W.heap.size b3 (.slice A2 (b3).length c2) u3) := ⟨A2, c2, rfl, how, hbw⟩
      have HOW := Lib.hid how
      have zw := hbw.size
      clear how hbw
      obtain ⟨p0, p1, p2, p3, p4, p5, p6⟩ := KS.out _ HO.out.bel
      go_wp2_with fail
      refine (refList_any p.chans u3 w.heap.size hA p.chans.length hc (RX.out u3 HO.out.bel).chans (by have := HT3.out.size; omega) HP.out.chans.1 HP.out.chans.2).mono ?_
      rintro e w3 ⟨v3, rfl, A3, c3, rfl, hown3, hb3⟩
      have hy : (listL p.chans).length ≤ 9009 := listL_len _ hph HP.out.chans.2
      have z3 := hb3.size
      have zo := HO.out.bel.size
      have HR3 := Lib.hid (Reads.of_own hown3); have HB3 := Lib.hid hb3
      clear hown3 hb3
      have HOb : Hid (w3.ownsRow W.heap.size 5 1 (.slice A2 b3.length c2) b3.length (BS b3)) := (Fr.of_below HB3.out).own HOW.out (fun i hi => by have := (HOW.out.lt i hi).2; omega)
      go_wp2_with (at_builtin; go_must (refine wpList_append_any _ rfl (.tmp 76) (.tmp 79) _ rfl W.heap.size 5 i0 _ 1 1 Try.underlying29 hi0 hz0 hz1 hz2 rfl (by decide) (.slice A2 b3.length c2) _ _ rfl HOb.out _ A3 (listL p.chans).length c3 (BS (listL p.chans)) rfl HR3.out (BS_one _) ?c1 ?c2 (by omega) ?k))
      case c1 => unfold maxLen; omega
      case c2 => omega
      case k =>
      intro v5 u4 hown4 hg4 hat4
      have ho5 := HO.out.app HB3.out rfl hown4 hg4
      clear hat4 hg4 hown4 HOb HR3 HB3
      obtain ⟨b4, hbn⟩ : ∃ b, b = b3 ++ (listL p.chans) := ⟨_, rfl⟩
      rw [← hbn] at ho5
      have hfl := ho5
      have hLb4 : b4.length ≤ 10045045 := by rw [hbn, List.length_append]; omega
      have HEb4 : Hid (b4 = b3 ++ (listL p.chans)) := hbn
      clear HO HOW hbn hy z3 zo zw ho5 p0 p1 p2 p3 p4 p5 p6
      obtain ⟨A2, c2, rfl, how, hbw⟩ := hfl
      have HO : Hid (OutB W W.heap.size b4 (.slice A2 (b4).length c2) u4) := ⟨A2, c2, rfl, how, hbw⟩
      have HOW := Lib.hid how
      have zw := hbw.size
      clear how hbw
      obtain ⟨p0, p1, p2, p3, p4, p5, p6⟩ := KS.out _ HO.out.bel
      go_wp2_with fail
      refine (ref_short (p.choices.length : Int) u4 (by omega)).mono ?_
      rintro e w3 ⟨A3, c3, rfl, hown3, hb3⟩
      rw [show ((p.choices.length : Int)).toNat = p.choices.length by omega] at hown3
      rw [show ((p.choices.length : Int)).toNat = p.choices.length by omega]
      have hy : (shortL p.choices.length).length ≤ 9 := shortN_len (by omega)
      have z3 := hb3.size
      have zo := HO.out.bel.size
      have HR3 := Lib.hid (Reads.of_own hown3); have HB3 := Lib.hid hb3
      clear hown3 hb3
      have HOb : Hid (w3.ownsRow W.heap.size 5 1 (.slice A2 b4.length c2) b4.length (BS b4)) := (Fr.of_below HB3.out).own HOW.out (fun i hi => by have := (HOW.out.lt i hi).2; omega)
      go_wp2_with (at_builtin; go_must (refine wpList_append_any _ rfl (.tmp 81) (.tmp 85) _ rfl W.heap.size 5 i0 _ 1 1 Try.underlying29 hi0 hz0 hz1 hz2 rfl (by decide) (.slice A2 b4.length c2) _ _ rfl HOb.out _ A3 (shortL p.choices.length).length c3 (BS (shortL p.choices.length)) rfl HR3.out (BS_one _) ?c1 ?c2 (by omega) ?k))
      case c1 => unfold maxLen; omega
      case c2 => omega
      case k =>
      intro v5 u5 hown4 hg4 hat4
      have ho5 := HO.out.app HB3.out rfl hown4 hg4
      clear hat4 hg4 hown4 HOb HR3 HB3
      obtain ⟨b5, hbn⟩ : ∃ b, b = b4 ++ (shortL p.choices.length) := ⟨_, rfl⟩
      rw [← hbn] at ho5
      have hfl := ho5
      have hLb5 : b5.length ≤ 10045054 := by rw [hbn, List.length_append]; omega
      have HEb5 : Hid (b5 = b4 ++ (shortL p.choices.length)) := hbn
      clear HO HOW hbn hy z3 zo zw ho5 p0 p1 p2 p3 p4 p5 p6
      obtain ⟨p0, p1, p2, p3, p4, p5, p6⟩ := KS.out _ hfl.bel
      have HFL := Lib.hid hfl
      clear hfl
      go_wp2_with fail
      clear p0 p1 p2 p3 p4 p5 p6
      go_loopw [3, 7] (fun s3 s7 wx => RelX W b5 p.choices s3 s7 wx) (fun _ s7 _ => p.choices.length - (intOf s7).toNat)
      case atStart => exact ⟨0, by omega, rfl, by simpa using HFL.out⟩
      case round =>
        obtain ⟨j, hj, rfl, hfl⟩ := hrel
        clear HFL
        have hLj : (b5 ++ (p.choices.take j).flatMap listL).length ≤ 10045054 + 1000 * 9009 := by
          have h2 := flatMap_len (p.choices.take j) listL 9009 (fun l hl => listL_len l (HP.out.choices.2 l (List.mem_of_mem_take hl)).1 (HP.out.choices.2 l (List.mem_of_mem_take hl)).2)
          simp only [List.length_append, List.length_take] at h2 ⊢
          have : min j p.choices.length * 9009 ≤ 1000 * 9009 := Nat.mul_le_mul_right _ (by omega)
          omega
        by_cases hlt2 : j < p.choices.length
        · obtain ⟨ad2, t, hA2, hb2, hz, d0, hri⟩ := (RX.out _ hfl.bel).choices.at_ hlt2
          have HSJ := Lib.hid (flatMap_take (f := listL) hz)
          have hpi := HP.out.choices.2 _ (List.mem_of_getElem? hz)
          have hti := hpi.1
          have HPI := Lib.hid hpi.2; have HRI := Lib.hid hri
          generalize hbq : (b5 ++ (p.choices.take j).flatMap listL) = bq at *
          have HBQ := Lib.hid hbq
          clear hz hpi hbq hri
          subst hA2
          obtain ⟨A2, c2, rfl, how, hbw⟩ := hfl
          have HO : Hid (OutB W W.heap.size bq (.slice A2 (bq).length c2) wr) := ⟨A2, c2, rfl, how, hbw⟩
          have HOW := Lib.hid how
          have zw := hbw.size
          clear how hbw
          obtain ⟨p0, p1, p2, p3, p4, p5, p6⟩ := KS.out _ HO.out.bel
          go_wp2_with fail
          refine (refList_any t.l wr w.heap.size t.A t.l.length t.c HRI.out (by have := HT3.out.size; omega) hti HPI.out).mono ?_
          rintro e w3 ⟨v3, rfl, A3, c3, rfl, hown3, hb3⟩
          have hy : (listL t.l).length ≤ 9009 := listL_len _ hti HPI.out
          have z3 := hb3.size
          have zo := HO.out.bel.size
          have HR3 := Lib.hid (Reads.of_own hown3); have HB3 := Lib.hid hb3
          clear hown3 hb3
          have HOb : Hid (w3.ownsRow W.heap.size 5 1 (.slice A2 bq.length c2) bq.length (BS bq)) := (Fr.of_below HB3.out).own HOW.out (fun i hi => by have := (HOW.out.lt i hi).2; omega)
          go_wp2_with (at_builtin; go_must (refine wpList_append_any _ rfl (.tmp 94) (.tmp 100) _ rfl W.heap.size 5 i0 _ 1 1 Try.underlying29 hi0 hz0 hz1 hz2 rfl (by decide) (.slice A2 bq.length c2) _ _ rfl HOb.out _ A3 (listL t.l).length c3 (BS (listL t.l)) rfl HR3.out (BS_one _) ?c1 ?c2 (by omega) ?k))
          case c1 => unfold maxLen; omega
          case c2 => omega
          case k =>
          intro v5 w5 hown4 hg4 hat4
          have ho5 := HO.out.app HB3.out rfl hown4 hg4
          clear hat4 hg4 hown4 HOb HR3 HB3
          have HO5 := Lib.hid ho5
          clear ho5 hy
          have hvj : b5 ++ (p.choices.take (j + 1)).flatMap listL = bq ++ listL t.l := by rw [HSJ.out, ← List.append_assoc, HBQ.out]
          have HVJ := Lib.hid hvj
          clear hvj
          go_wp2_with fail
          exact ⟨⟨j + 1, by omega, by go_num, by rw [HVJ.out]; exact HO5.out⟩, by simp [intOf]; omega⟩
        · rw [List.take_of_length_le (by omega)] at hfl hLj
          obtain ⟨b6, hb6⟩ : ∃ b, b = b5 ++ p.choices.flatMap listL := ⟨_, rfl⟩
          rw [← hb6] at hfl hLj
          have HE6 := Lib.hid hb6
          clear hb6
          obtain ⟨A2, c2, rfl, how, hbw⟩ := hfl
          have HO : Hid (OutB W W.heap.size b6 (.slice A2 (b6).length c2) wr) := ⟨A2, c2, rfl, how, hbw⟩
          have HOW := Lib.hid how
          have zw := hbw.size
          clear how hbw
          obtain ⟨p0, p1, p2, p3, p4, p5, p6⟩ := KS.out _ HO.out.bel
          go_wp2_with fail
          refine (ref_short p.threads wr hpt).mono ?_
          rintro e w3 ⟨A3, c3, rfl, hown3, hb3⟩
          have hy : (shortL p.threads.toNat).length ≤ 9 := shortI_len hpt
          have z3 := hb3.size
          have zo := HO.out.bel.size
          have HR3 := Lib.hid (Reads.of_own hown3); have HB3 := Lib.hid hb3
          clear hown3 hb3
          have HOb : Hid (w3.ownsRow W.heap.size 5 1 (.slice A2 b6.length c2) b6.length (BS b6)) := (Fr.of_below HB3.out).own HOW.out (fun i hi => by have := (HOW.out.lt i hi).2; omega)
          go_wp2_with (at_builtin; go_must (refine wpList_append_any _ rfl (.tmp 102) (.tmp 105) _ rfl W.heap.size 5 i0 _ 1 1 Try.underlying29 hi0 hz0 hz1 hz2 rfl (by decide) (.slice A2 b6.length c2) _ _ rfl HOb.out _ A3 (shortL p.threads.toNat).length c3 (BS (shortL p.threads.toNat)) rfl HR3.out (BS_one _) ?c1 ?c2 (by omega) ?k))
          case c1 => unfold maxLen; omega
          case c2 => omega
          case k =>
          intro v5 u7 hown4 hg4 hat4
          have ho5 := HO.out.app HB3.out rfl hown4 hg4
          clear hat4 hg4 hown4 HOb HR3 HB3
          obtain ⟨b7, hbn⟩ : ∃ b, b = b6 ++ (shortL p.threads.toNat) := ⟨_, rfl⟩
          rw [← hbn] at ho5
          have hfl := ho5
          have hLb7 : b7.length ≤ 19054063 := by rw [hbn, List.length_append]; omega
          have HEb7 : Hid (b7 = b6 ++ (shortL p.threads.toNat)) := hbn
          clear HO HOW hbn hy z3 zo zw ho5 p0 p1 p2 p3 p4 p5 p6
          have hfin : b7 = progL p := by
            rw [HEb7.out, HE6.out, HEb5.out, HEb4.out, HEb3.out, HEb2.out, HEb1.out, ← HFB.out]
            simp [progL, listsL]
          have hres := hfl.up HT3.out
          rw [hfin] at hres
          have HRES := Lib.hid hres
          clear hfl hres hfin
          go_wp2_with fail
          go_ret
          exact ⟨_, rfl, HRES.out⟩
end Go.Proofs.Ytmjbfobjndiecaa
