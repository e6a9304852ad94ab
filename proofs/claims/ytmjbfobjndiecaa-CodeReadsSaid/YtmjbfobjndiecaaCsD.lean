
/-
  Same of the document, of any two programs.
-/
import Derived.Test.YtmjbfobjndiecaaCsC
set_option linter.unusedVariables false
set_option linter.unusedSimpArgs false
namespace Go.Proofs.Ytmjbfobjndiecaa
open Go.RowKit Plain

/-- The loop's rows: functions ahead of k are the same. -/
def EqW (W : World) (l m : List FV) (n : Nat) (s : Value) (wr : World) : Prop := ∃ k : Nat, k ≤ n ∧ s = .int .i64 (k : Int) ∧ Below W.heap.size W wr ∧ Hid (l.take k = m.take k)
def EqC (W : World) (l m : List IV) (n : Nat) (s : Value) (wr : World) : Prop := ∃ k d : Nat, k ≤ n ∧ s = .int .i64 (k : Int) ∧ wr = W.drewN d ∧ Hid (l.take k = m.take k)
theorem fv_ne_l {f g : FV} (h : ¬ f.locals = g.locals) : f ≠ g := fun e => h (by rw [e])
theorem fv_ne_c {f g : FV} (h : f.code ≠ g.code) : f ≠ g := fun e => h (by rw [e])
theorem fv_eq {f g : FV} (h1 : f.locals = g.locals) (h2 : f.code = g.code) : f = g := by
  obtain ⟨a, b⟩ := f; obtain ⟨c, d⟩ := g; simp at h1 h2; rw [h1, h2]
theorem iv_ne_o {f g : IV} (h : ¬ f.op = g.op) : f ≠ g := fun e => h (by rw [e])
theorem iv_ne_a {f g : IV} (h : ¬ f.a = g.a) : f ≠ g := fun e => h (by rw [e])
theorem iv_eq {f g : IV} (h1 : f.op = g.op) (h2 : f.a = g.a) : f = g := by
  obtain ⟨a, b⟩ := f; obtain ⟨c, d⟩ := g; simp at h1 h2; rw [h1, h2]

set_option maxHeartbeats 8000000 in
set_option maxRecDepth 100000 in
theorem refSame_any (h k : PH) (p q : PV) (w : World) (hp : RP w w.heap.size h p) (hq : RP w w.heap.size k q) (lp : Short3 p) (lq : Short3 q) :
    Calls Try.prog 16 #[.agg #[.slice h.fA p.funcs.length h.fc, .int .i64 p.mutexes, .slice h.cA p.conds.length h.cc, .slice h.sA p.semas.length h.sc, .slice h.hA p.chans.length h.hc, .slice h.xA p.choices.length h.xc, .int .i64 p.threads], .agg #[.slice k.fA q.funcs.length k.fc, .int .i64 q.mutexes, .slice k.cA q.conds.length k.cc, .slice k.sA q.semas.length k.sc, .slice k.hA q.chans.length k.hc, .slice k.xA q.choices.length k.xc, .int .i64 q.threads]] w fun e w' => e = .returned (.bool (decide (p = q))) ∧ Below w.heap.size w w' := by
  obtain ⟨T1, T2, T3⟩ := two w 26 26 #[.slice h.fA p.funcs.length h.fc, .int .i64 p.mutexes, .slice h.cA p.conds.length h.cc, .slice h.sA p.semas.length h.sc, .slice h.hA p.chans.length h.hc, .slice h.xA p.choices.length h.xc, .int .i64 p.threads] #[.slice k.fA q.funcs.length k.fc, .int .i64 q.mutexes, .slice k.cA q.conds.length k.cc, .slice k.sA q.semas.length k.sc, .slice k.hA q.chans.length k.hc, .slice k.xA q.choices.length k.xc, .int .i64 q.threads]
  obtain ⟨W, hW⟩ : ∃ W, W = (w.alloc (.cells #[.slice h.fA p.funcs.length h.fc, .int .i64 p.mutexes, .slice h.cA p.conds.length h.cc, .slice h.sA p.semas.length h.sc, .slice h.hA p.chans.length h.hc, .slice h.xA p.choices.length h.xc, .int .i64 p.threads] 26)).alloc (.cells #[.slice k.fA q.funcs.length k.fc, .int .i64 q.mutexes, .slice k.cA q.conds.length k.cc, .slice k.sA q.semas.length k.sc, .slice k.hA q.chans.length k.hc, .slice k.xA q.choices.length k.xc, .int .i64 q.threads] 26) := ⟨_, rfl⟩
  rw [← hW] at T1 T2 T3
  have zz1 := T1.lt
  have zz2 := T2.lt
  have KS : Hid (∀ X, Below W.heap.size W X → X.cell? ⟨w.heap.size, 0, none⟩ = some (.slice h.fA p.funcs.length h.fc) ∧ X.cell? ⟨w.heap.size, 1, none⟩ = some (.int .i64 p.mutexes) ∧ X.cell? ⟨w.heap.size, 2, none⟩ = some (.slice h.cA p.conds.length h.cc) ∧ X.cell? ⟨w.heap.size, 3, none⟩ = some (.slice h.sA p.semas.length h.sc) ∧ X.cell? ⟨w.heap.size, 4, none⟩ = some (.slice h.hA p.chans.length h.hc) ∧ X.cell? ⟨w.heap.size, 5, none⟩ = some (.slice h.xA p.choices.length h.xc) ∧ X.cell? ⟨w.heap.size, 6, none⟩ = some (.int .i64 p.threads) ∧ X.cell? ⟨w.heap.size + 1, 0, none⟩ = some (.slice k.fA q.funcs.length k.fc) ∧ X.cell? ⟨w.heap.size + 1, 1, none⟩ = some (.int .i64 q.mutexes) ∧ X.cell? ⟨w.heap.size + 1, 2, none⟩ = some (.slice k.cA q.conds.length k.cc) ∧ X.cell? ⟨w.heap.size + 1, 3, none⟩ = some (.slice k.sA q.semas.length k.sc) ∧ X.cell? ⟨w.heap.size + 1, 4, none⟩ = some (.slice k.hA q.chans.length k.hc) ∧ X.cell? ⟨w.heap.size + 1, 5, none⟩ = some (.slice k.xA q.choices.length k.xc) ∧ X.cell? ⟨w.heap.size + 1, 6, none⟩ = some (.int .i64 q.threads)) := by
    intro X hX
    exact ⟨(hX.cell (p := ⟨w.heap.size, 0, none⟩) (show w.heap.size < W.heap.size by omega)).trans ((T1.cell 0).trans rfl), (hX.cell (p := ⟨w.heap.size, 1, none⟩) (show w.heap.size < W.heap.size by omega)).trans ((T1.cell 1).trans rfl), (hX.cell (p := ⟨w.heap.size, 2, none⟩) (show w.heap.size < W.heap.size by omega)).trans ((T1.cell 2).trans rfl), (hX.cell (p := ⟨w.heap.size, 3, none⟩) (show w.heap.size < W.heap.size by omega)).trans ((T1.cell 3).trans rfl), (hX.cell (p := ⟨w.heap.size, 4, none⟩) (show w.heap.size < W.heap.size by omega)).trans ((T1.cell 4).trans rfl), (hX.cell (p := ⟨w.heap.size, 5, none⟩) (show w.heap.size < W.heap.size by omega)).trans ((T1.cell 5).trans rfl), (hX.cell (p := ⟨w.heap.size, 6, none⟩) (show w.heap.size < W.heap.size by omega)).trans ((T1.cell 6).trans rfl), (hX.cell (p := ⟨w.heap.size + 1, 0, none⟩) (show w.heap.size + 1 < W.heap.size by omega)).trans ((T2.cell 0).trans rfl), (hX.cell (p := ⟨w.heap.size + 1, 1, none⟩) (show w.heap.size + 1 < W.heap.size by omega)).trans ((T2.cell 1).trans rfl), (hX.cell (p := ⟨w.heap.size + 1, 2, none⟩) (show w.heap.size + 1 < W.heap.size by omega)).trans ((T2.cell 2).trans rfl), (hX.cell (p := ⟨w.heap.size + 1, 3, none⟩) (show w.heap.size + 1 < W.heap.size by omega)).trans ((T2.cell 3).trans rfl), (hX.cell (p := ⟨w.heap.size + 1, 4, none⟩) (show w.heap.size + 1 < W.heap.size by omega)).trans ((T2.cell 4).trans rfl), (hX.cell (p := ⟨w.heap.size + 1, 5, none⟩) (show w.heap.size + 1 < W.heap.size by omega)).trans ((T2.cell 5).trans rfl), (hX.cell (p := ⟨w.heap.size + 1, 6, none⟩) (show w.heap.size + 1 < W.heap.size by omega)).trans ((T2.cell 6).trans rfl)⟩
  have BW : Hid (∀ X, Below W.heap.size W X → Below w.heap.size w X) := fun X hX => T3.trans (hX.mono (by omega))
  obtain ⟨b_conds, hb_conds⟩ : ∃ b, b = decide (p.conds = q.conds) := ⟨_, rfl⟩
  have C_conds : Hid (∀ X, Below W.heap.size W X → Calls Try.prog 53 #[.slice h.cA p.conds.length h.cc, .slice k.cA q.conds.length k.cc] X fun e w' => e = .returned (.bool b_conds) ∧ Below W.heap.size W w') := fun X hX => by
    rw [hb_conds]
    exact (refInts_any p.conds q.conds X w.heap.size w.heap.size h.cA k.cA _ _ h.cc k.cc ((hp.conds).keep fun r hr => (BW.out X hX).cell hr) ((hq.conds).keep fun r hr => (BW.out X hX).cell hr) (by have := lp.conds; omega) (by have := lq.conds; omega)).mono fun e w' ⟨he, d, hd⟩ => ⟨he, by rw [hd]; exact below_drews hX d⟩
  obtain ⟨b_semas, hb_semas⟩ : ∃ b, b = decide (p.semas = q.semas) := ⟨_, rfl⟩
  have C_semas : Hid (∀ X, Below W.heap.size W X → Calls Try.prog 53 #[.slice h.sA p.semas.length h.sc, .slice k.sA q.semas.length k.sc] X fun e w' => e = .returned (.bool b_semas) ∧ Below W.heap.size W w') := fun X hX => by
    rw [hb_semas]
    exact (refInts_any p.semas q.semas X w.heap.size w.heap.size h.sA k.sA _ _ h.sc k.sc ((hp.semas).keep fun r hr => (BW.out X hX).cell hr) ((hq.semas).keep fun r hr => (BW.out X hX).cell hr) (by have := lp.semas; omega) (by have := lq.semas; omega)).mono fun e w' ⟨he, d, hd⟩ => ⟨he, by rw [hd]; exact below_drews hX d⟩
  obtain ⟨b_chans, hb_chans⟩ : ∃ b, b = decide (p.chans = q.chans) := ⟨_, rfl⟩
  have C_chans : Hid (∀ X, Below W.heap.size W X → Calls Try.prog 53 #[.slice h.hA p.chans.length h.hc, .slice k.hA q.chans.length k.hc] X fun e w' => e = .returned (.bool b_chans) ∧ Below W.heap.size W w') := fun X hX => by
    rw [hb_chans]
    exact (refInts_any p.chans q.chans X w.heap.size w.heap.size h.hA k.hA _ _ h.hc k.hc ((hp.chans).keep fun r hr => (BW.out X hX).cell hr) ((hq.chans).keep fun r hr => (BW.out X hX).cell hr) (by have := lp.chans; omega) (by have := lq.chans; omega)).mono fun e w' ⟨he, d, hd⟩ => ⟨he, by rw [hd]; exact below_drews hX d⟩
  obtain ⟨b_choices, hb_choices⟩ : ∃ b, b = decide (p.choices = q.choices) := ⟨_, rfl⟩
  have C_choices : Hid (∀ X, Below W.heap.size W X → Calls Try.prog 54 #[.slice h.xA p.choices.length h.xc, .slice k.xA q.choices.length k.xc] X fun e w' => e = .returned (.bool b_choices) ∧ Below W.heap.size W w') := fun X hX => by
    rw [hb_choices]
    exact (refLists_any p.choices q.choices X w.heap.size w.heap.size h.xA k.xA _ _ h.xc k.xc ((hp.choices).keep fun r hr => (BW.out X hX).cell hr) ((hq.choices).keep fun r hr => (BW.out X hX).cell hr) (by have := lp.choices; omega) (by have := lq.choices; omega) (fun x hx => by have := lp.each x hx; omega) (fun x hx => by have := lq.each x hx; omega)).mono fun e w' ⟨he, d, hd⟩ => ⟨he, by rw [hd]; exact below_drews hX d⟩
  have HB_conds := Lib.hid hb_conds; have HB_semas := Lib.hid hb_semas; have HB_chans := Lib.hid hb_chans; have HB_choices := Lib.hid hb_choices
  have HW := Lib.hid hW.symm
  have HF1 := Lib.hid hp.funcs; have HF2 := Lib.hid hq.funcs; have HL1 := Lib.hid lp; have HL2 := Lib.hid lq; have HT3 := Lib.hid T3
  have hpl := lp.funcs
  have hql := lq.funcs
  clear hp hq lp lq hW T1 T2 T3 hb_conds hb_semas hb_chans hb_choices
  obtain ⟨p0, p1, p2, p3, p4, p5, p6, q0, q1, q2, q3, q4, q5, q6⟩ := KS.out W (Below.refl _ _)
  obtain ⟨fA, fc, cA, cc, sA, sc, hA, hc, xA, xc⟩ := h
  obtain ⟨gA, gc, cA', cc', sA', sc', hA', hc', xA', xc'⟩ := k
  simp only at *
  by_cases hn : p.funcs.length = q.funcs.length
  · have hnb : ((p.funcs.length : Int) == (q.funcs.length : Int)) = true := by rw [beq_iff_eq]; omega
    obtain ⟨n, hN⟩ : ∃ n, n = q.funcs.length := ⟨_, rfl⟩
    have HNP : Hid (p.funcs.length = n) := by show _ = _; omega
    have HNQ : Hid (q.funcs.length = n) := hN.symm
    have hn1000 : n ≤ 1000 := by omega
    rw [HNP.out] at p0
    rw [HNQ.out] at q0
    clear hn hN hnb
    go_enter Try.func16, Try.ntmps16
    go_upto_region 1 with fail
    rw [HW.out]
    go_wp2_with fail
    go_loopw [5] (fun s wr => EqW W p.funcs q.funcs n s wr) (fun s _ => n - (intOf s).toNat)
    case atStart => exact ⟨0, by omega, rfl, Below.refl _ _, Lib.hid rfl⟩
    case round =>
      obtain ⟨j, hj, rfl, hbel, HT⟩ := hrel
      clear p0 p1 p2 p3 p4 p5 p6 q0 q1 q2 q3 q4 q5 q6
      obtain ⟨p0, p1, p2, p3, p4, p5, p6, q0, q1, q2, q3, q4, q5, q6⟩ := KS.out wr hbel
      rw [HNP.out] at p0
      rw [HNQ.out] at q0
      have hwr := BW.out wr hbel
      have zr := hbel.size
      have HBL := Lib.hid hbel
      by_cases hlt : j < n
      · obtain ⟨ad1, t1, rfl, hb1, hz1, d0, d1, hr1⟩ := HF1.out.at_ (k := j) (by rw [HNP.out]; exact hlt)
        obtain ⟨ad2, t2, rfl, hb2, hz2, f0, f1, hr2⟩ := HF2.out.at_ (k := j) (by rw [HNQ.out]; exact hlt)
        have a0 := (hwr.cell (p := ad1.add (j * 2)) (by rw [block_of_add]; exact hb1)).trans d0
        have a1 := (hwr.cell (p := ⟨(ad1.add (j * 2)).block, (ad1.add (j * 2)).off + 1, none⟩) (by show (ad1.add (j * 2)).block < _; rw [block_of_add]; exact hb1)).trans d1
        have e0 : ∀ o, (wr.alloc o).cell? (ad2.add (j * 2)) = some (.int .i64 t2.f.locals) := fun o => ((hwr.alloc hwr.size o).cell (p := ad2.add (j * 2)) (by rw [block_of_add]; exact hb2)).trans f0
        have e1 : ∀ o, (wr.alloc o).cell? ⟨(ad2.add (j * 2)).block, (ad2.add (j * 2)).off + 1, none⟩ = some (.slice t2.A t2.f.code.length t2.c) := fun o => ((hwr.alloc hwr.size o).cell (p := ⟨(ad2.add (j * 2)).block, (ad2.add (j * 2)).off + 1, none⟩) (by show (ad2.add (j * 2)).block < _; rw [block_of_add]; exact hb2)).trans f1
        have g0 : ∀ o, (wr.alloc o).cell? ⟨w.heap.size + 1, 0, none⟩ = some (.slice (some ad2) n gc) := fun o => by
          rw [← HNQ.out]
          exact ((hbel.alloc hbel.size o).cell (p := ⟨w.heap.size + 1, 0, none⟩) (show w.heap.size + 1 < W.heap.size by omega)).trans ((KS.out W (Below.refl _ _)).2.2.2.2.2.2.2.1)
        obtain ⟨U1, U2, U3⟩ := two wr 45 45 #[.int .i64 t1.f.locals, .slice t1.A t1.f.code.length t1.c] #[.int .i64 t2.f.locals, .slice t2.A t2.f.code.length t2.c]
        obtain ⟨V, hV⟩ : ∃ V, V = (wr.alloc (.cells #[.int .i64 t1.f.locals, .slice t1.A t1.f.code.length t1.c] 45)).alloc (.cells #[.int .i64 t2.f.locals, .slice t2.A t2.f.code.length t2.c] 45) := ⟨_, rfl⟩
        rw [← hV] at U1 U2 U3
        have x0 : V.cell? ⟨wr.heap.size, 0, none⟩ = some (.int .i64 t1.f.locals) := (U1.cell 0).trans rfl
        have x1 : V.cell? ⟨wr.heap.size, 1, none⟩ = some (.slice t1.A t1.f.code.length t1.c) := (U1.cell 1).trans rfl
        have y0 : V.cell? ⟨wr.heap.size + 1, 0, none⟩ = some (.int .i64 t2.f.locals) := (U2.cell 0).trans rfl
        have y1 : V.cell? ⟨wr.heap.size + 1, 1, none⟩ = some (.slice t2.A t2.f.code.length t2.c) := (U2.cell 1).trans rfl
        have zv1 := U1.lt
        have zv2 := U2.lt
        have HV := Lib.hid hV.symm
        have HWV : Hid (Below W.heap.size W V) := HBL.out.trans (U3.mono zr)
        have HR1 : Hid (RC V w.heap.size t1.A t1.f.code.length t1.c t1.f.code) := hr1.keep fun r hr => (BW.out V HWV.out).cell hr
        have HR2 : Hid (RC V w.heap.size t2.A t2.f.code.length t2.c t2.f.code) := hr2.keep fun r hr => (BW.out V HWV.out).cell hr
        have hl1 : t1.f.code.length ≤ 1000 := HL1.out.code _ (List.mem_of_getElem? hz1)
        have hl2 : t2.f.code.length ≤ 1000 := HL2.out.code _ (List.mem_of_getElem? hz2)
        have HZ1 := Lib.hid hz1; have HZ2 := Lib.hid hz2
        have HNO : Hid (t1.f ≠ t2.f → decide (p = q) = false) := fun hne => decide_eq_false fun e => take_ne HZ1.out HZ2.out hne (by rw [e])
        clear hz1 hz2 hr1 hr2 d0 d1 f0 f1 hV U1 U2 U3 hbel hwr
        by_cases hlo : t1.f.locals = t2.f.locals
        · have hlob : (t1.f.locals == t2.f.locals) = true := beq_iff_eq.2 hlo
          have HLO := Lib.hid hlo
          clear hlo
          by_cases hcl : t1.f.code.length = t2.f.code.length
          · obtain ⟨cn, hcn⟩ : ∃ cn, cn = t2.f.code.length := ⟨_, rfl⟩
            have HC1 : Hid (t1.f.code.length = cn) := by show _ = _; omega
            have HC2 : Hid (t2.f.code.length = cn) := hcn.symm
            have hc1000 : cn ≤ 1000 := by omega
            rw [HC1.out] at x1
            rw [HC2.out] at y1
            clear hcl hcn
            go_upto_region 8 with fail
            rw [HV.out]
            go_wp2_with fail
            go_loopw [8] (fun s wx => EqC V t1.f.code t2.f.code cn s wx) (fun s _ => cn - (intOf s).toNat)
            case atStart => exact ⟨0, 0, by omega, rfl, rfl, Lib.hid rfl⟩
            case round =>
              obtain ⟨i, d, hi, rfl, rfl, HI⟩ := hrel
              by_cases hit : i < cn
              · obtain ⟨ae1, i1, hA1, _, hy1, k1, m1⟩ := HR1.out.at_ (k := i) (by rw [HC1.out]; exact hit)
                obtain ⟨ae2, i2, hA2, _, hy2, k2, m2⟩ := HR2.out.at_ (k := i) (by rw [HC2.out]; exact hit)
                rw [hA1] at x1
                rw [hA2] at y1
                have HY1 := Lib.hid hy1; have HY2 := Lib.hid hy2
                clear hy1 hy2
                by_cases ho : i1.op = i2.op
                · by_cases ha : i1.a = i2.a
                  · have HI2 := Lib.hid ((take_succ_eq HI.out HY1.out HY2.out).2 (iv_eq ho ha))
                    go_wp2_with fail
                    go_quiet (fail)
                    go_wp2_with fail
                    exact ⟨⟨i + 1, d + nq, by omega, by go_num, rfl, HI2⟩, by simp [intOf]; omega⟩
                  · have HFA := Lib.hid (HNO.out (fv_ne_c (take_ne HY1.out HY2.out (iv_ne_a ha))))
                    go_wp2_with fail
                    go_quiet (fail)
                    go_wp2_with fail
                    go_ret
                    exact ⟨ret_bool HFA.out.symm, BW.out _ (below_drews (below_drews HWV.out _) _)⟩
                · have HFA := Lib.hid (HNO.out (fv_ne_c (take_ne HY1.out HY2.out (iv_ne_o ho))))
                  go_wp2_with fail
                  go_quiet (fail)
                  go_wp2_with fail
                  go_ret
                  exact ⟨ret_bool HFA.out.symm, BW.out _ (below_drews (below_drews HWV.out _) _)⟩
              · have hce : t1.f.code = t2.f.code := by
                  have := HI.out
                  rwa [List.take_of_length_le (by rw [HC1.out]; omega), List.take_of_length_le (by rw [HC2.out]; omega)] at this
                have HT2 := Lib.hid ((take_succ_eq HT.out HZ1.out HZ2.out).2 (fv_eq HLO.out hce))
                clear hce
                go_wp2_with fail
                exact ⟨⟨j + 1, by omega, by go_num, below_drews HWV.out _, HT2⟩, by simp [intOf]; omega⟩
          · have HFA := Lib.hid (HNO.out (fv_ne_c fun e => hcl (by rw [e])))
            have hcb : ((t1.f.code.length : Int) == (t2.f.code.length : Int)) = false := by rw [beq_eq_false_iff_ne]; omega
            go_upto_region 8 with fail
            rw [HV.out]
            go_wp2_with fail
            go_ret
            exact ⟨ret_bool HFA.out.symm, BW.out _ HWV.out⟩
        · have HFA := Lib.hid (HNO.out (fv_ne_l hlo))
          have hlob : (t1.f.locals == t2.f.locals) = false := by rw [beq_eq_false_iff_ne]; exact hlo
          go_upto_region 8 with fail
          rw [HV.out]
          go_wp2_with fail
          go_ret
          exact ⟨ret_bool HFA.out.symm, BW.out _ HWV.out⟩
      · have hfe : p.funcs = q.funcs := by
          have := HT.out
          rwa [List.take_of_length_le (by rw [HNP.out]; omega), List.take_of_length_le (by rw [HNQ.out]; omega)] at this
        have HFE := Lib.hid hfe
        have hX0 := hbel
        clear hfe HT hbel hwr
        by_cases hm : p.mutexes = q.mutexes
        · have hmb : (p.mutexes == q.mutexes) = true := beq_iff_eq.2 hm
          have HM := Lib.hid hm
          by_cases ht : p.threads = q.threads
          · have htb : (p.threads == q.threads) = true := beq_iff_eq.2 ht
            have HTT := Lib.hid ht
            clear hm ht
            go_wp2_with fail
            refine (C_conds.out _ hX0).mono ?_
            rintro e X1 ⟨rfl, hX1⟩
            clear p0 p1 p2 p3 p4 p5 p6 q0 q1 q2 q3 q4 q5 q6 hX0
            obtain ⟨p0, p1, p2, p3, p4, p5, p6, q0, q1, q2, q3, q4, q5, q6⟩ := KS.out X1 hX1
            cases b_conds
            · have hv : decide (p = q) = false := decide_eq_false fun e => by have := HB_conds.out; rw [decide_eq_true (by rw [e])] at this; exact absurd this (by simp)
              have HV := Lib.hid hv
              clear hv
              go_wp2_with fail
              go_ret
              exact ⟨ret_bool HV.out.symm, BW.out _ hX1⟩
            have hX0 := hX1
            clear hX1
            go_wp2_with fail
            refine (C_semas.out _ hX0).mono ?_
            rintro e X1 ⟨rfl, hX1⟩
            clear p0 p1 p2 p3 p4 p5 p6 q0 q1 q2 q3 q4 q5 q6 hX0
            obtain ⟨p0, p1, p2, p3, p4, p5, p6, q0, q1, q2, q3, q4, q5, q6⟩ := KS.out X1 hX1
            cases b_semas
            · have hv : decide (p = q) = false := decide_eq_false fun e => by have := HB_semas.out; rw [decide_eq_true (by rw [e])] at this; exact absurd this (by simp)
              have HV := Lib.hid hv
              clear hv
              go_wp2_with fail
              go_ret
              exact ⟨ret_bool HV.out.symm, BW.out _ hX1⟩
            have hX0 := hX1
            clear hX1
            go_wp2_with fail
            refine (C_chans.out _ hX0).mono ?_
            rintro e X1 ⟨rfl, hX1⟩
            clear p0 p1 p2 p3 p4 p5 p6 q0 q1 q2 q3 q4 q5 q6 hX0
            obtain ⟨p0, p1, p2, p3, p4, p5, p6, q0, q1, q2, q3, q4, q5, q6⟩ := KS.out X1 hX1
            cases b_chans
            · have hv : decide (p = q) = false := decide_eq_false fun e => by have := HB_chans.out; rw [decide_eq_true (by rw [e])] at this; exact absurd this (by simp)
              have HV := Lib.hid hv
              clear hv
              go_wp2_with fail
              go_ret
              exact ⟨ret_bool HV.out.symm, BW.out _ hX1⟩
            have hX0 := hX1
            clear hX1
            go_wp2_with fail
            refine (C_choices.out _ hX0).mono ?_
            rintro e X1 ⟨rfl, hX1⟩
            have hv : decide (p = q) = b_choices := by
              rw [HB_choices.out]
              congr 1
              rw [pv_ext]
              refine propext ⟨fun hh => hh.2.2.2.2.2.2, fun hh => ⟨HM.out, HTT.out, HFE.out, of_decide_eq_true HB_conds.out.symm, of_decide_eq_true HB_semas.out.symm, of_decide_eq_true HB_chans.out.symm, hh⟩⟩
            have HV := Lib.hid hv
            clear hv
            go_wp2_with fail
            go_ret
            exact ⟨ret_bool HV.out.symm, BW.out _ hX1⟩
          · have htb : (p.threads == q.threads) = false := by rw [beq_eq_false_iff_ne]; exact ht
            have HV : Hid (decide (p = q) = false) := decide_eq_false fun e => ht (by rw [e])
            clear hm ht
            go_wp2_with fail
            go_ret
            exact ⟨ret_bool HV.out.symm, BW.out _ hX0⟩
        · have hmb : (p.mutexes == q.mutexes) = false := by rw [beq_eq_false_iff_ne]; exact hm
          have HV : Hid (decide (p = q) = false) := decide_eq_false fun e => hm (by rw [e])
          clear hm
          go_wp2_with fail
          go_ret
          exact ⟨ret_bool HV.out.symm, BW.out _ hX0⟩
  · have hnb : ((p.funcs.length : Int) == (q.funcs.length : Int)) = false := by rw [beq_eq_false_iff_ne]; omega
    have HV : Hid (decide (p = q) = false) := decide_eq_false fun e => hn (by rw [e])
    clear hn
    go_enter Try.func16, Try.ntmps16
    go_upto_region 1 with fail
    rw [HW.out]
    go_wp2_with fail
    go_ret
    exact ⟨ret_bool HV.out.symm, BW.out _ (Below.refl _ _)⟩
end Go.Proofs.Ytmjbfobjndiecaa
