
/-
  Same of the program, of any two programs.
-/
import Derived.Test.YtmjbfobjndiecaaCsAB
import Derived.Test.YtmjbfobjndiecaaMayC
set_option linter.unusedVariables false
set_option linter.unusedSimpArgs false
namespace Go.Proofs.Ytmjbfobjndiecaa
open Go.RowKit Plain

set_option maxHeartbeats 2000000 in
set_option maxRecDepth 100000 in
theorem sameFunc_any (f g : FV) (w : World) (A1 A2 : Option Addr) (c1 c2 : Nat) (h1 : RC w w.heap.size A1 f.code.length c1 f.code) (h2 : RC w w.heap.size A2 g.code.length c2 g.code) (hn : f.code.length ≤ 9223372036854775807) (hn2 : g.code.length ≤ 9223372036854775807) :
    Calls Try.prog 56 #[.agg #[.int .i64 f.locals, .slice A1 f.code.length c1], .agg #[.int .i64 g.locals, .slice A2 g.code.length c2]] w fun e w' => e = .returned (.bool (decide (f = g))) ∧ Below w.heap.size w w' := by
  obtain ⟨T1, T2, T3⟩ := two w 45 45 #[.int .i64 f.locals, .slice A1 f.code.length c1] #[.int .i64 g.locals, .slice A2 g.code.length c2]
  obtain ⟨W, hW⟩ : ∃ W, W = (w.alloc (.cells #[.int .i64 f.locals, .slice A1 f.code.length c1] 45)).alloc (.cells #[.int .i64 g.locals, .slice A2 g.code.length c2] 45) := ⟨_, rfl⟩
  rw [← hW] at T1 T2 T3
  have x0 : W.cell? ⟨w.heap.size, 0, none⟩ = some (.int .i64 f.locals) := (T1.cell 0).trans rfl
  have x1 : W.cell? ⟨w.heap.size, 1, none⟩ = some (.slice A1 f.code.length c1) := (T1.cell 1).trans rfl
  have y0 : W.cell? ⟨w.heap.size + 1, 0, none⟩ = some (.int .i64 g.locals) := (T2.cell 0).trans rfl
  have y1 : W.cell? ⟨w.heap.size + 1, 1, none⟩ = some (.slice A2 g.code.length c2) := (T2.cell 1).trans rfl
  have z1 := T1.lt
  have z2 := T2.lt
  have hcon := eqCode_any f.code g.code W w.heap.size w.heap.size A1 A2 _ _ c1 c2 (h1.keep fun p hp => T3.cell hp) (h2.keep fun p hp => T3.cell hp) hn hn2
  obtain ⟨b, hb⟩ : ∃ b, b = decide (f.code = g.code) := ⟨_, rfl⟩
  rw [← hb] at hcon
  have HC := Lib.hid hcon; have HB := Lib.hid hb; have HW := Lib.hid hW.symm; have HT := Lib.hid T3
  clear hcon hb hW T1 T2 T3 h1 h2
  by_cases hl : f.locals = g.locals
  · have hv : Hid (decide (f = g) = b) := by
      show _ = _
      rw [HB.out]
      obtain ⟨fl, fc⟩ := f; obtain ⟨gl, gc⟩ := g
      simp only at hl ⊢
      simp [hl]
    have hlb : (f.locals == g.locals) = true := beq_iff_eq.2 hl
    clear hl
    go_enter Try.func56, Try.ntmps56
    go_upto_region 1 with fail
    rw [HW.out]
    go_wp2_with fail
    refine HC.out.mono ?_
    rintro e w1 ⟨rfl, d, rfl⟩
    go_wp2_with fail
    go_ret
    exact ⟨ret_bool hv.out.symm, below_drews HT.out _⟩
  · have hv : Hid (decide (f = g) = false) := by
      show _ = _
      exact decide_eq_false fun e => hl (by rw [e])
    have hlb : (f.locals == g.locals) = false := by rw [beq_eq_false_iff_ne]; exact hl
    clear hl
    go_enter Try.func56, Try.ntmps56
    go_upto_region 1 with fail
    rw [HW.out]
    go_wp2_with fail
    go_ret
    exact ⟨ret_bool hv.out.symm, HT.out⟩

def EqF (w : World) (l m : List FV) (n : Nat) (s : Value) (wr : World) : Prop := ∃ k : Nat, k ≤ n ∧ s = .int .i64 (k : Int) ∧ Below w.heap.size w wr ∧ Hid (l.take k = m.take k)

set_option maxHeartbeats 2000000 in
set_option maxRecDepth 100000 in
theorem eqFuncs_any (l m : List FV) (w : World) (A1 A2 : Option Addr) (n1 n2 c1 c2 : Nat) (h1 : RF w w.heap.size A1 n1 c1 l) (h2 : RF w w.heap.size A2 n2 c2 m) (hn : n1 ≤ 9223372036854775807) (hn2 : n2 ≤ 9223372036854775807) (hl1 : ∀ x ∈ l, x.code.length ≤ 9223372036854775807) (hl2 : ∀ x ∈ m, x.code.length ≤ 9223372036854775807) :
    Calls Try.prog 55 #[.slice A1 n1 c1, .slice A2 n2 c2, .func (.func 56) #[] #[]] w fun e w' => e = .returned (.bool (decide (l = m))) ∧ Below w.heap.size w w' := by
  have hlen1 : l.length = n1 := by obtain ⟨ts, _, h, _⟩ := h1; exact h
  have hlen2 : m.length = n2 := by obtain ⟨ts, _, h, _⟩ := h2; exact h
  have HL1 := Lib.hid hlen1; have HL2 := Lib.hid hlen2
  by_cases hnn : n1 = n2
  · subst hnn
    have H1 := Lib.hid h1; have H2 := Lib.hid h2; have HX1 := Lib.hid hl1; have HX2 := Lib.hid hl2
    clear h1 h2 hl1 hl2 hlen1 hlen2
    obtain ⟨b, hb⟩ : ∃ b, b = decide (l = m) := ⟨_, rfl⟩
    rw [← hb]
    have HB := Lib.hid hb
    clear hb
    go_enter Try.func55, Try.ntmps55
    go_wp2_with fail
    go_loopw [17] (fun s wr => EqF w l m n1 s wr) (fun s _ => n1 - (intOf s).toNat)
    case atStart => exact ⟨0, by omega, rfl, Below.refl _ _, Lib.hid rfl⟩
    case round =>
      obtain ⟨k, hk, rfl, hbel, HT⟩ := hrel
      have HBL := Lib.hid hbel
      have zr := hbel.size
      by_cases hlt : k < n1
      · obtain ⟨ad1, p1, rfl, hb1, hz1, d0, d1, hr1⟩ := H1.out.at_ hlt
        obtain ⟨ad2, p2, rfl, hb2, hz2, f0, f1, hr2⟩ := H2.out.at_ hlt
        have a0 := (hbel.cell (p := ad1.add (k * 2)) (by rw [block_of_add]; exact hb1)).trans d0
        have a1 := (hbel.cell (p := ⟨(ad1.add (k * 2)).block, (ad1.add (k * 2)).off + 1, none⟩) (by show (ad1.add (k * 2)).block < _; rw [block_of_add]; exact hb1)).trans d1
        have e0 : ∀ o, (wr.alloc o).cell? (ad2.add (k * 2)) = some (.int .i64 p2.f.locals) := fun o => ((hbel.alloc zr o).cell (p := ad2.add (k * 2)) (by rw [block_of_add]; exact hb2)).trans f0
        have e1 : ∀ o, (wr.alloc o).cell? ⟨(ad2.add (k * 2)).block, (ad2.add (k * 2)).off + 1, none⟩ = some (.slice p2.A p2.f.code.length p2.c) := fun o => ((hbel.alloc zr o).cell (p := ⟨(ad2.add (k * 2)).block, (ad2.add (k * 2)).off + 1, none⟩) (by show (ad2.add (k * 2)).block < _; rw [block_of_add]; exact hb2)).trans f1
        have hcon := fun o1 o2 => sameFunc_any p1.f p2.f ((wr.alloc o1).alloc o2) p1.A p2.A p1.c p2.c ((hr1.keep fun p hp => ((hbel.alloc zr o1).alloc (by simp; omega) o2).cell hp).more (by simp; omega)) ((hr2.keep fun p hp => ((hbel.alloc zr o1).alloc (by simp; omega) o2).cell hp).more (by simp; omega)) (HX1.out _ (List.mem_of_getElem? hz1)) (HX2.out _ (List.mem_of_getElem? hz2))
        have hnext : ∀ o1 o2 w', Below ((wr.alloc o1).alloc o2).heap.size ((wr.alloc o1).alloc o2) w' → Below w.heap.size w w' := fun o1 o2 w' hb => ((hbel.alloc zr o1).alloc (by simp; omega) o2).trans (hb.mono (by simp; omega))
        have HNX := Lib.hid hnext
        by_cases hz : p1.f = p2.f
        · have ht := (take_succ_eq HT.out hz1 hz2).2 hz
          have HT2 := Lib.hid ht
          rw [decide_eq_true hz] at hcon
          have HC := Lib.hid hcon
          clear hz1 hz2 ht HT hcon hr1 hr2 hz d0 d1 f0 f1 hbel hnext
          go_wp2_with fail
          refine (HC.out _ _).mono ?_
          rintro e w3 ⟨rfl, hb3⟩
          have HB3 := Lib.hid (HNX.out _ _ _ hb3)
          clear hb3
          go_wp2_with fail
          exact ⟨⟨k + 1, by omega, by go_num, HB3.out, HT2⟩, by simp [intOf]; omega⟩
        · have hne := take_ne hz1 hz2 hz
          have hb : b = false := by rw [HB.out]; exact decide_eq_false hne
          subst hb
          rw [decide_eq_false hz] at hcon
          have HC := Lib.hid hcon
          clear hz1 hz2 hne hz HT hcon hr1 hr2 d0 d1 f0 f1 hbel hnext
          go_wp2_with fail
          refine (HC.out _ _).mono ?_
          rintro e w3 ⟨rfl, hb3⟩
          have HB3 := Lib.hid (HNX.out _ _ _ hb3)
          clear hb3
          go_wp2_with fail
          go_ret
          exact ⟨rfl, HB3.out⟩
      · have hke : k = n1 := by omega
        have he : l = m := by
          have := HT.out
          rw [hke] at this
          rwa [List.take_of_length_le (by rw [HL1.out]; exact Nat.le_refl _), List.take_of_length_le (by rw [HL2.out]; exact Nat.le_refl _)] at this
        have hb : b = true := by rw [HB.out]; exact decide_eq_true he
        subst hb
        clear he HT hke hbel
        go_wp2_with fail
        go_ret
        exact ⟨rfl, HBL.out⟩
  · have hne : l ≠ m := fun e => hnn (by rw [← hlen1, ← hlen2, e])
    rw [decide_eq_false hne]
    have hnI : ((n1 : Int) == (n2 : Int)) = false := by rw [beq_eq_false_iff_ne]; omega
    clear h1 h2 hne
    go_enter Try.func55, Try.ntmps55
    go_wp2_with fail
    go_ret
    exact ⟨rfl, Below.refl _ _⟩

theorem pv_ext {p q : PV} : p = q ↔ (p.mutexes = q.mutexes ∧ p.threads = q.threads ∧ p.funcs = q.funcs ∧ p.conds = q.conds ∧ p.semas = q.semas ∧ p.chans = q.chans ∧ p.choices = q.choices) := by
  obtain ⟨a, b, c, d, e, f, g⟩ := p
  obtain ⟨a', b', c', d', e', f', g'⟩ := q
  simp
  constructor
  · rintro ⟨h1, h2, h3, h4, h5, h6, h7⟩; exact ⟨h2, h7, h1, h3, h4, h5, h6⟩
  · rintro ⟨h2, h7, h1, h3, h4, h5, h6⟩; exact ⟨h1, h2, h3, h4, h5, h6, h7⟩
/-- Rows of at most 1000 things. -/
structure Short3 (p : PV) : Prop where
  funcs : p.funcs.length ≤ 1000
  code : ∀ f ∈ p.funcs, f.code.length ≤ 1000
  conds : p.conds.length ≤ 1000
  semas : p.semas.length ≤ 1000
  chans : p.chans.length ≤ 1000
  choices : p.choices.length ≤ 1000
  each : ∀ l ∈ p.choices, l.length ≤ 1000

set_option maxHeartbeats 8000000 in
set_option maxRecDepth 100000 in
theorem same_any (h k : PH) (p q : PV) (w : World) (hp : RP w w.heap.size h p) (hq : RP w w.heap.size k q) (lp : Short3 p) (lq : Short3 q) :
    Calls Try.prog 17 #[.agg #[.slice h.fA p.funcs.length h.fc, .int .i64 p.mutexes, .slice h.cA p.conds.length h.cc, .slice h.sA p.semas.length h.sc, .slice h.hA p.chans.length h.hc, .slice h.xA p.choices.length h.xc, .int .i64 p.threads], .agg #[.slice k.fA q.funcs.length k.fc, .int .i64 q.mutexes, .slice k.cA q.conds.length k.cc, .slice k.sA q.semas.length k.sc, .slice k.hA q.chans.length k.hc, .slice k.xA q.choices.length k.xc, .int .i64 q.threads]] w fun e w' => e = .returned (.bool (decide (p = q))) ∧ Below w.heap.size w w' := by
  obtain ⟨T1, T2, T3⟩ := two w 26 26 #[.slice h.fA p.funcs.length h.fc, .int .i64 p.mutexes, .slice h.cA p.conds.length h.cc, .slice h.sA p.semas.length h.sc, .slice h.hA p.chans.length h.hc, .slice h.xA p.choices.length h.xc, .int .i64 p.threads] #[.slice k.fA q.funcs.length k.fc, .int .i64 q.mutexes, .slice k.cA q.conds.length k.cc, .slice k.sA q.semas.length k.sc, .slice k.hA q.chans.length k.hc, .slice k.xA q.choices.length k.xc, .int .i64 q.threads]
  obtain ⟨W, hW⟩ : ∃ W, W = (w.alloc (.cells #[.slice h.fA p.funcs.length h.fc, .int .i64 p.mutexes, .slice h.cA p.conds.length h.cc, .slice h.sA p.semas.length h.sc, .slice h.hA p.chans.length h.hc, .slice h.xA p.choices.length h.xc, .int .i64 p.threads] 26)).alloc (.cells #[.slice k.fA q.funcs.length k.fc, .int .i64 q.mutexes, .slice k.cA q.conds.length k.cc, .slice k.sA q.semas.length k.sc, .slice k.hA q.chans.length k.hc, .slice k.xA q.choices.length k.xc, .int .i64 q.threads] 26) := ⟨_, rfl⟩
  rw [← hW] at T1 T2 T3
  have zz1 := T1.lt
  have zz2 := T2.lt
  have KS : Hid (∀ X, Below W.heap.size W X → X.cell? ⟨w.heap.size, 0, none⟩ = some (.slice h.fA p.funcs.length h.fc) ∧ X.cell? ⟨w.heap.size, 1, none⟩ = some (.int .i64 p.mutexes) ∧ X.cell? ⟨w.heap.size, 2, none⟩ = some (.slice h.cA p.conds.length h.cc) ∧ X.cell? ⟨w.heap.size, 3, none⟩ = some (.slice h.sA p.semas.length h.sc) ∧ X.cell? ⟨w.heap.size, 4, none⟩ = some (.slice h.hA p.chans.length h.hc) ∧ X.cell? ⟨w.heap.size, 5, none⟩ = some (.slice h.xA p.choices.length h.xc) ∧ X.cell? ⟨w.heap.size, 6, none⟩ = some (.int .i64 p.threads) ∧ X.cell? ⟨w.heap.size + 1, 0, none⟩ = some (.slice k.fA q.funcs.length k.fc) ∧ X.cell? ⟨w.heap.size + 1, 1, none⟩ = some (.int .i64 q.mutexes) ∧ X.cell? ⟨w.heap.size + 1, 2, none⟩ = some (.slice k.cA q.conds.length k.cc) ∧ X.cell? ⟨w.heap.size + 1, 3, none⟩ = some (.slice k.sA q.semas.length k.sc) ∧ X.cell? ⟨w.heap.size + 1, 4, none⟩ = some (.slice k.hA q.chans.length k.hc) ∧ X.cell? ⟨w.heap.size + 1, 5, none⟩ = some (.slice k.xA q.choices.length k.xc) ∧ X.cell? ⟨w.heap.size + 1, 6, none⟩ = some (.int .i64 q.threads)) := by
    intro X hX
    exact ⟨(hX.cell (p := ⟨w.heap.size, 0, none⟩) (show w.heap.size < W.heap.size by omega)).trans ((T1.cell 0).trans rfl), (hX.cell (p := ⟨w.heap.size, 1, none⟩) (show w.heap.size < W.heap.size by omega)).trans ((T1.cell 1).trans rfl), (hX.cell (p := ⟨w.heap.size, 2, none⟩) (show w.heap.size < W.heap.size by omega)).trans ((T1.cell 2).trans rfl), (hX.cell (p := ⟨w.heap.size, 3, none⟩) (show w.heap.size < W.heap.size by omega)).trans ((T1.cell 3).trans rfl), (hX.cell (p := ⟨w.heap.size, 4, none⟩) (show w.heap.size < W.heap.size by omega)).trans ((T1.cell 4).trans rfl), (hX.cell (p := ⟨w.heap.size, 5, none⟩) (show w.heap.size < W.heap.size by omega)).trans ((T1.cell 5).trans rfl), (hX.cell (p := ⟨w.heap.size, 6, none⟩) (show w.heap.size < W.heap.size by omega)).trans ((T1.cell 6).trans rfl), (hX.cell (p := ⟨w.heap.size + 1, 0, none⟩) (show w.heap.size + 1 < W.heap.size by omega)).trans ((T2.cell 0).trans rfl), (hX.cell (p := ⟨w.heap.size + 1, 1, none⟩) (show w.heap.size + 1 < W.heap.size by omega)).trans ((T2.cell 1).trans rfl), (hX.cell (p := ⟨w.heap.size + 1, 2, none⟩) (show w.heap.size + 1 < W.heap.size by omega)).trans ((T2.cell 2).trans rfl), (hX.cell (p := ⟨w.heap.size + 1, 3, none⟩) (show w.heap.size + 1 < W.heap.size by omega)).trans ((T2.cell 3).trans rfl), (hX.cell (p := ⟨w.heap.size + 1, 4, none⟩) (show w.heap.size + 1 < W.heap.size by omega)).trans ((T2.cell 4).trans rfl), (hX.cell (p := ⟨w.heap.size + 1, 5, none⟩) (show w.heap.size + 1 < W.heap.size by omega)).trans ((T2.cell 5).trans rfl), (hX.cell (p := ⟨w.heap.size + 1, 6, none⟩) (show w.heap.size + 1 < W.heap.size by omega)).trans ((T2.cell 6).trans rfl)⟩
  have BW : Hid (∀ X, Below W.heap.size W X → Below w.heap.size w X) := fun X hX => T3.trans (hX.mono (by omega))
  obtain ⟨b_conds, hb_conds⟩ : ∃ b, b = decide (p.conds = q.conds) := ⟨_, rfl⟩
  have C_conds : Hid (∀ X, Below W.heap.size W X → Calls Try.prog 57 #[.slice h.cA p.conds.length h.cc, .slice k.cA q.conds.length k.cc] X fun e w' => e = .returned (.bool b_conds) ∧ Below W.heap.size W w') := fun X hX => by
    rw [hb_conds]
    exact (eqInts_any p.conds q.conds X w.heap.size w.heap.size h.cA k.cA _ _ h.cc k.cc ((hp.conds).keep fun r hr => (BW.out X hX).cell hr) ((hq.conds).keep fun r hr => (BW.out X hX).cell hr) (by have := lp.conds; omega) (by have := lq.conds; omega)).mono fun e w' ⟨he, d, hd⟩ => ⟨he, by rw [hd]; exact below_drews hX d⟩
  obtain ⟨b_semas, hb_semas⟩ : ∃ b, b = decide (p.semas = q.semas) := ⟨_, rfl⟩
  have C_semas : Hid (∀ X, Below W.heap.size W X → Calls Try.prog 57 #[.slice h.sA p.semas.length h.sc, .slice k.sA q.semas.length k.sc] X fun e w' => e = .returned (.bool b_semas) ∧ Below W.heap.size W w') := fun X hX => by
    rw [hb_semas]
    exact (eqInts_any p.semas q.semas X w.heap.size w.heap.size h.sA k.sA _ _ h.sc k.sc ((hp.semas).keep fun r hr => (BW.out X hX).cell hr) ((hq.semas).keep fun r hr => (BW.out X hX).cell hr) (by have := lp.semas; omega) (by have := lq.semas; omega)).mono fun e w' ⟨he, d, hd⟩ => ⟨he, by rw [hd]; exact below_drews hX d⟩
  obtain ⟨b_chans, hb_chans⟩ : ∃ b, b = decide (p.chans = q.chans) := ⟨_, rfl⟩
  have C_chans : Hid (∀ X, Below W.heap.size W X → Calls Try.prog 57 #[.slice h.hA p.chans.length h.hc, .slice k.hA q.chans.length k.hc] X fun e w' => e = .returned (.bool b_chans) ∧ Below W.heap.size W w') := fun X hX => by
    rw [hb_chans]
    exact (eqInts_any p.chans q.chans X w.heap.size w.heap.size h.hA k.hA _ _ h.hc k.hc ((hp.chans).keep fun r hr => (BW.out X hX).cell hr) ((hq.chans).keep fun r hr => (BW.out X hX).cell hr) (by have := lp.chans; omega) (by have := lq.chans; omega)).mono fun e w' ⟨he, d, hd⟩ => ⟨he, by rw [hd]; exact below_drews hX d⟩
  obtain ⟨b_choices, hb_choices⟩ : ∃ b, b = decide (p.choices = q.choices) := ⟨_, rfl⟩
  have C_choices : Hid (∀ X, Below W.heap.size W X → Calls Try.prog 58 #[.slice h.xA p.choices.length h.xc, .slice k.xA q.choices.length k.xc, .func (.func 57) #[] #[]] X fun e w' => e = .returned (.bool b_choices) ∧ Below W.heap.size W w') := fun X hX => by
    rw [hb_choices]
    exact (eqLists_any p.choices q.choices X w.heap.size w.heap.size h.xA k.xA _ _ h.xc k.xc ((hp.choices).keep fun r hr => (BW.out X hX).cell hr) ((hq.choices).keep fun r hr => (BW.out X hX).cell hr) (by have := lp.choices; omega) (by have := lq.choices; omega) (fun x hx => by have := lp.each x hx; omega) (fun x hx => by have := lq.each x hx; omega)).mono fun e w' ⟨he, d, hd⟩ => ⟨he, by rw [hd]; exact below_drews hX d⟩
  obtain ⟨b_funcs, hb_funcs⟩ : ∃ b, b = decide (p.funcs = q.funcs) := ⟨_, rfl⟩
  have C_funcs : Hid (∀ X, Below W.heap.size W X → Calls Try.prog 55 #[.slice h.fA p.funcs.length h.fc, .slice k.fA q.funcs.length k.fc, .func (.func 56) #[] #[]] X fun e w' => e = .returned (.bool b_funcs) ∧ Below W.heap.size W w') := fun X hX => by
    rw [hb_funcs]
    exact (eqFuncs_any p.funcs q.funcs X h.fA k.fA _ _ h.fc k.fc (((hp.funcs).keep fun r hr => (BW.out X hX).cell hr).more (by have := hX.size; omega)) (((hq.funcs).keep fun r hr => (BW.out X hX).cell hr).more (by have := hX.size; omega)) (by have := lp.funcs; omega) (by have := lq.funcs; omega) (fun x hx => by have := lp.code x hx; omega) (fun x hx => by have := lq.code x hx; omega)).mono fun e w' ⟨he, hd⟩ => ⟨he, hX.trans (hd.mono hX.size)⟩
  have HB_conds := Lib.hid hb_conds; have HB_semas := Lib.hid hb_semas; have HB_chans := Lib.hid hb_chans; have HB_choices := Lib.hid hb_choices; have HB_funcs := Lib.hid hb_funcs
  have HW := Lib.hid hW.symm
  clear hW T1 T2 T3 hb_conds hb_semas hb_chans hb_choices hb_funcs
  clear hp hq
  obtain ⟨p0, p1, p2, p3, p4, p5, p6, q0, q1, q2, q3, q4, q5, q6⟩ := KS.out W (Below.refl _ _)
  have hX0 := Below.refl W.heap.size W
  by_cases hm : p.mutexes = q.mutexes
  · have hmb : (p.mutexes == q.mutexes) = true := beq_iff_eq.2 hm
    have HM := Lib.hid hm
    by_cases ht : p.threads = q.threads
    · have htb : (p.threads == q.threads) = true := beq_iff_eq.2 ht
      have HTT := Lib.hid ht
      clear hm ht
      go_enter Try.func17, Try.ntmps17
      go_upto_region 1 with fail
      rw [HW.out]
      go_wp2_with fail
      refine (C_funcs.out _ hX0).mono ?_
      rintro e X1 ⟨rfl, hX1⟩
      clear p0 p1 p2 p3 p4 p5 p6 q0 q1 q2 q3 q4 q5 q6 hX0
      obtain ⟨p0, p1, p2, p3, p4, p5, p6, q0, q1, q2, q3, q4, q5, q6⟩ := KS.out X1 hX1
      cases b_funcs
      · have hv : decide (p = q) = false := decide_eq_false fun e => by have := HB_funcs.out; rw [decide_eq_true (by rw [e])] at this; exact absurd this (by simp)
        have HV := Lib.hid hv
        clear hv
        go_wp2_with fail
        go_ret
        exact ⟨ret_bool HV.out.symm, BW.out _ hX1⟩
      have hX0 := hX1
      clear hX1
      go_wp2_with fail
      refine (C_conds.out _ hX0).mono ?_
      rintro e X1 ⟨rfl, hX1⟩
      clear p0 p1 p2 p3 p4 p5 p6 q0 q1 q2 q3 q4 q5 q6 hX0
      obtain ⟨p0, p1, p2, p3, p4, p5, p6, q0, q1, q2, q3, q4, q5, q6⟩ := KS.out X1 hX1
      cases b_conds
      · have hv : decide (p = q) = false := decide_eq_false fun e => by have := HB_conds.out; rw [decide_eq_true (by rw [e])] at this; exact absurd this (by simp)
        have HV := Lib.hid hv
        clear hv
        go_wp2_with fail
        go_ret
        exact ⟨ret_bool HV.out.symm, BW.out _ hX1⟩
      have hX0 := hX1
      clear hX1
      go_wp2_with fail
      refine (C_semas.out _ hX0).mono ?_
      rintro e X1 ⟨rfl, hX1⟩
      clear p0 p1 p2 p3 p4 p5 p6 q0 q1 q2 q3 q4 q5 q6 hX0
      obtain ⟨p0, p1, p2, p3, p4, p5, p6, q0, q1, q2, q3, q4, q5, q6⟩ := KS.out X1 hX1
      cases b_semas
      · have hv : decide (p = q) = false := decide_eq_false fun e => by have := HB_semas.out; rw [decide_eq_true (by rw [e])] at this; exact absurd this (by simp)
        have HV := Lib.hid hv
        clear hv
        go_wp2_with fail
        go_ret
        exact ⟨ret_bool HV.out.symm, BW.out _ hX1⟩
      have hX0 := hX1
      clear hX1
      go_wp2_with fail
      refine (C_chans.out _ hX0).mono ?_
      rintro e X1 ⟨rfl, hX1⟩
      clear p0 p1 p2 p3 p4 p5 p6 q0 q1 q2 q3 q4 q5 q6 hX0
      obtain ⟨p0, p1, p2, p3, p4, p5, p6, q0, q1, q2, q3, q4, q5, q6⟩ := KS.out X1 hX1
      cases b_chans
      · have hv : decide (p = q) = false := decide_eq_false fun e => by have := HB_chans.out; rw [decide_eq_true (by rw [e])] at this; exact absurd this (by simp)
        have HV := Lib.hid hv
        clear hv
        go_wp2_with fail
        go_ret
        exact ⟨ret_bool HV.out.symm, BW.out _ hX1⟩
      have hX0 := hX1
      clear hX1
      go_wp2_with fail
      refine (C_choices.out _ hX0).mono ?_
      rintro e X1 ⟨rfl, hX1⟩
      have hv : decide (p = q) = b_choices := by
        rw [HB_choices.out]
        congr 1
        rw [pv_ext]
        refine propext ⟨fun hh => hh.2.2.2.2.2.2, fun hh => ⟨HM.out, HTT.out, of_decide_eq_true HB_funcs.out.symm, of_decide_eq_true HB_conds.out.symm, of_decide_eq_true HB_semas.out.symm, of_decide_eq_true HB_chans.out.symm, hh⟩⟩
      have HV := Lib.hid hv
      clear hv
      go_wp2_with fail
      go_ret
      exact ⟨ret_bool HV.out.symm, BW.out _ hX1⟩
    · have htb : (p.threads == q.threads) = false := by rw [beq_eq_false_iff_ne]; exact ht
      have HV : Hid (decide (p = q) = false) := decide_eq_false fun e => ht (by rw [e])
      clear ht hm
      go_enter Try.func17, Try.ntmps17
      go_upto_region 1 with fail
      rw [HW.out]
      go_wp2_with fail
      go_ret
      exact ⟨ret_bool HV.out.symm, BW.out _ hX0⟩
  · have hmb : (p.mutexes == q.mutexes) = false := by rw [beq_eq_false_iff_ne]; exact hm
    have HV : Hid (decide (p = q) = false) := decide_eq_false fun e => hm (by rw [e])
    clear hm
    go_enter Try.func17, Try.ntmps17
    go_upto_region 1 with fail
    rw [HW.out]
    go_wp2_with fail
    go_ret
    exact ⟨ret_bool HV.out.symm, BW.out _ hX0⟩
end Go.Proofs.Ytmjbfobjndiecaa
