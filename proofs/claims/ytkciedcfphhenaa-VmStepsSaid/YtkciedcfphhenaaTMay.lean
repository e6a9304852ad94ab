
/-
  May of the document, for any thread.
-/
import Derived.Test.YtkciedcfphhenaaThrO
import Derived.Deep.QuietTactic
import Derived.BigQuiet
set_option linter.unusedVariables false
set_option linter.unusedSimpArgs false
namespace Go.Proofs.Ytkciedcfphhenaa
open Go.RowKit Plain

set_option maxHeartbeats 4000000 in
theorem refKept_any (l : List Int) (w : World) (B : Nat) (A : Option Addr) (n c : Nat) (hr : RI w B A n c l) (hn : n ≤ 9223372036854775807) :
    Calls Try.prog 45 #[.slice A n c] w fun e w' => e = .returned (.bool (keptB l)) ∧ w' = w := by
  have HR := Lib.hid hr
  have HL := Lib.hid hr.1
  clear hr
  go_enter Try.func45, Try.ntmps45
  go_wp2_with fail
  go_loopw [3] (fun s7 wr => ∃ k : Nat, k ≤ n ∧ s7 = .int .i64 (k : Int) ∧ wr = w ∧ Hid (keptB (l.take k) = true)) (fun s7 _ => n - (intOf s7).toNat)
  case atStart => exact ⟨0, by omega, rfl, rfl, by show _ = _; simp [keptB]⟩
  case round =>
    obtain ⟨k, hk, rfl, rfl, hkept⟩ := hrel
    by_cases hlt : k < n
    · obtain ⟨ad, z, rfl, hab, hz, hc⟩ := HR.out.at_ hlt
      have HZ := Lib.hid hz
      clear hz
      have hno : ¬ isKept z = true → keptB l = false := fun hkz => by
        rw [keptB, List.all_eq_false]
        exact ⟨z, List.mem_of_getElem? HZ.out, by simpa using hkz⟩
      have hyes : isKept z = true → keptB (l.take (k + 1)) = true := fun hkz => by rw [keptB, all_take' HZ.out, hkz, Bool.and_true]; exact hkept.out
      have hiff : isKept z = true ↔ -1073741824 ≤ z ∧ z ≤ 1073741824 := by unfold isKept; simp
      have HNO := Lib.hid hno; have HYES := Lib.hid hyes; have HIFF := Lib.hid hiff
      clear hno hyes hiff
      by_cases h1 : z < -1073741824
      · have HA := Lib.hid (HNO.out fun h => by have := HIFF.out.1 h; omega)
        go_wp2_with fail
        go_ret
        exact ⟨ret_bool HA.out.symm, rfl⟩
      · by_cases h2 : 1073741824 < z
        · have HA := Lib.hid (HNO.out fun h => by have := HIFF.out.1 h; omega)
          have h1b : decide (z < -1073741824) = false := decide_eq_false h1
          go_wp2_with fail
          go_ret
          exact ⟨ret_bool HA.out.symm, rfl⟩
        · have HN := Lib.hid (HYES.out (HIFF.out.2 (by omega)))
          have h1b : decide (z < -1073741824) = false := decide_eq_false h1
          have h2b : decide (1073741824 < z) = false := decide_eq_false h2
          go_wp2_with fail
          exact ⟨⟨k + 1, by omega, by go_num, trivial, HN.out⟩, by simp [intOf]; omega⟩
    · have hall : keptB l = true := by
        have := hkept.out
        rwa [List.take_of_length_le (by rw [HL.out]; omega)] at this
      have HA := Lib.hid hall
      clear hall
      go_wp2_with fail
      go_ret
      exact ⟨ret_bool HA.out.symm, rfl⟩

set_option maxHeartbeats 8000000 in
set_option maxRecDepth 100000 in
theorem refFrmB_any (h : PH) (p : PV) (w : World) (B : Nat) (hr : RP w B h p) (hB : B ≤ w.heap.size) (hlen : Lens p) (x : TFr) (hri : RI w w.heap.size x.A x.f.locals.length x.c x.f.locals) (hxl : x.f.locals.length ≤ 9223372036854775807) :
    Calls Try.prog 46 #[.agg #[.slice h.fA p.funcs.length h.fc, .int .i64 p.mutexes, .slice h.cA p.conds.length h.cc, .slice h.sA p.semas.length h.sc, .slice h.hA p.chans.length h.hc, .slice h.xA p.choices.length h.xc, .int .i64 p.threads], .agg #[.int .i64 x.f.func, .int .i64 x.f.pc, .slice x.A x.f.locals.length x.c]] w
      fun e w' => e = .returned (.bool (frB p x.f)) ∧ Below w.heap.size w w' := by
  obtain ⟨fA, fc, cA, cc, sA, sc, hA, hc, xA, xc⟩ := h
  have hrf : RF w B fA p.funcs.length fc p.funcs := hr.funcs
  have hpl := hlen.funcs
  have HRF := Lib.hid hrf; have HRI := Lib.hid hri; have HC := Lib.hid hlen.code
  have hend : ∀ cs ds, Below w.heap.size w ((w.alloc (.cells cs 26)).alloc (.cells ds 67)) := fun cs ds => ((Below.refl _ _).alloc (Nat.le_refl _) _).alloc (by simp) _
  have hend2 : ∀ cs ds es, Below w.heap.size w (((w.alloc (.cells cs 26)).alloc (.cells ds 67)).alloc (.cells es 60)) := fun cs ds es => (((Below.refl _ _).alloc (Nat.le_refl _) _).alloc (by simp) _).alloc (by simp; omega) _
  have HE := Lib.hid hend; have HE2 := Lib.hid hend2
  clear hr hlen hrf hri hend hend2
  by_cases h0 : x.f.func < 0
  · have hv : frB p x.f = false := by unfold frB; rw [decide_eq_false (show ¬ 0 ≤ x.f.func by omega)]; simp
    have HV := Lib.hid hv
    obtain ⟨⟨xf, xpc, xl⟩, xA', xc'⟩ := x
    simp only at h0 hxl HV ⊢
    clear hv
    go_enter Try.func46, Try.ntmps46
    go_wp2_with fail
    go_ret
    exact ⟨ret_bool HV.out.symm, HE.out _ _⟩
  · by_cases h1 : (p.funcs.length : Int) ≤ x.f.func
    · have hv : frB p x.f = false := by unfold frB; rw [decide_eq_false (show ¬ x.f.func < (p.funcs.length : Int) by omega)]; simp
      have HV := Lib.hid hv
      obtain ⟨⟨xf, xpc, xl⟩, xA', xc'⟩ := x
      simp only at h0 h1 hxl HV ⊢
      have h0b : decide (xf < 0) = false := decide_eq_false h0
      clear hv h0
      go_enter Try.func46, Try.ntmps46
      go_wp2_with fail
      go_ret
      exact ⟨ret_bool HV.out.symm, HE.out _ _⟩
    · obtain ⟨k, hk0⟩ := Int.eq_ofNat_of_zero_le (show 0 ≤ x.f.func by omega)
      have hk : k < p.funcs.length := by omega
      obtain ⟨ad, t, rfl, hab, hi, c0, c1, hrc⟩ := HRF.out.at_ hk
      have hcl := HC.out _ (List.mem_of_getElem? hi)
      have hfa : funcAt p x.f.func = t.f := by unfold funcAt; rw [hk0, show ((k : Int)).toNat = k by omega, List.getD_eq_getElem?_getD, hi]; rfl
      have hfr : frB p x.f = (decide (0 ≤ x.f.pc) && decide (x.f.pc ≤ t.f.code.length) && decide ((x.f.locals.length : Int) = t.f.locals) && keptB x.f.locals) := by
        unfold frB
        rw [hfa, decide_eq_true (show 0 ≤ x.f.func by omega), decide_eq_true (show x.f.func < (p.funcs.length : Int) by omega), Bool.true_and, Bool.true_and]
      rw [hfr]
      have d0 : ∀ cs ds, ((w.alloc (.cells cs 26)).alloc (.cells ds 67)).cell? (ad.add (k * 2)) = some (.int .i64 t.f.locals) := fun cs ds => ((HE.out cs ds).cell (by rw [block_of_add]; omega)).trans c0
      have d1 : ∀ cs ds, ((w.alloc (.cells cs 26)).alloc (.cells ds 67)).cell? ⟨(ad.add (k * 2)).block, (ad.add (k * 2)).off + 1, none⟩ = some (.slice t.A t.f.code.length t.c) := fun cs ds => ((HE.out cs ds).cell (p := ⟨(ad.add (k * 2)).block, (ad.add (k * 2)).off + 1, none⟩) (by show (ad.add (k * 2)).block < _; rw [block_of_add]; omega)).trans c1
      obtain ⟨⟨xf, xpc, xl⟩, xA', xc'⟩ := x
      simp only at hk0 hxl h0 h1 ⊢
      subst hk0
      have hk' : (k : Int) < (p.funcs.length : Int) := by omega
      have h0b : decide ((k : Int) < 0) = false := decide_eq_false h0
      have h1b : decide ((p.funcs.length : Int) ≤ (k : Int)) = false := decide_eq_false h1
      have HRI2 : Hid (RI w w.heap.size xA' xl.length xc' xl) := HRI.out
      clear hi c0 c1 hrc hfa hfr h0 h1 HRI
      obtain ⟨bk, hbk⟩ : ∃ b, keptB xl = b := ⟨_, rfl⟩
      rw [hbk]
      have HBK := Lib.hid hbk
      clear hbk
      have hcall := fun W (hb : Below w.heap.size w W) => refKept_any xl W w.heap.size xA' xl.length xc' (HRI2.out.keep fun q hq => hb.cell hq) hxl
      have HCALL := Lib.hid hcall
      clear hcall
      obtain ⟨b1, hb1⟩ : ∃ b, decide (0 ≤ xpc) = b := ⟨_, rfl⟩
      obtain ⟨b2, hb2⟩ : ∃ b, decide (xpc ≤ (t.f.code.length : Int)) = b := ⟨_, rfl⟩
      obtain ⟨b3, hb3⟩ : ∃ b, decide ((xl.length : Int) = t.f.locals) = b := ⟨_, rfl⟩
      rw [hb1, hb2, hb3]
      have hb3' : ((xl.length : Int) == t.f.locals) = b3 := by rw [← hb3]; by_cases e : (xl.length : Int) = t.f.locals <;> simp [e]
      have HB3 := Lib.hid hb3
      clear hb3
      go_enter Try.func46, Try.ntmps46
      go_wp2_with fail
      refine (HCALL.out _ (HE2.out _ _ _)).mono ?_
      rintro e w' ⟨rfl, rfl⟩
      rw [HBK.out]
      cases b1 with
      | false =>
        go_wp2_with fail
        go_ret
        exact ⟨rfl, HE2.out _ _ _⟩
      | true =>
        cases b2 with
        | false =>
          go_wp2_with fail
          go_ret
          exact ⟨rfl, HE2.out _ _ _⟩
        | true =>
          cases b3 with
          | false =>
            go_wp2_with fail
            go_ret
            exact ⟨rfl, HE2.out _ _ _⟩
          | true =>
            cases bk with
            | false =>
              go_wp2_with fail
              go_ret
              exact ⟨rfl, HE2.out _ _ _⟩
            | true =>
              go_wp2_with fail
              go_ret
              exact ⟨rfl, HE2.out _ _ _⟩

structure FM (w wr : World) (vs us : Array Value) : Prop where
  pb : Blk wr w.heap.size 26 vs
  tb : Blk wr (w.heap.size + 1) 29 us
  bel : Below w.heap.size w wr
theorem FM.below {w wr X : World} {vs us : Array Value} (g : FM w wr vs us) (hb : Below wr.heap.size wr X) : FM w X vs us :=
  ⟨g.pb.below hb g.pb.lt, g.tb.below hb g.tb.lt, g.bel.trans (hb.mono g.bel.size)⟩
theorem FM.new (w : World) (vs us : Array Value) : FM w ((w.alloc (.cells vs 26)).alloc (.cells us 29)) vs us := by
  refine ⟨(Blk.new w _ _).alloc _, ?_, ((Below.refl _ _).alloc (Nat.le_refl _) _).alloc (by simp) _⟩
  simpa using Blk.new (w.alloc (.cells vs 26)) 29 us
theorem mayT_frs {p : PV} {t : TV} (h : mayT p t = true) : t.frames.all (frB p) = true := by
  by_cases hs : t.state = 9
  · rw [List.eq_nil_of_length_eq_zero ((mayT_dead p t hs).1 h).1]; rfl
  · exact ((framesB_iff p _).1 ((mayT_live p t hs).1 h).2.2.1).2
theorem mayT_range {p : PV} {t : TV} (h : mayT p t = true) : (0 ≤ t.state ∧ t.state ≤ 9) ∧ (0 ≤ t.code ∧ t.code ≤ 6) ∧ t.frames.length ≤ 8 ∧ t.stack.length ≤ 16 ∧ keptB t.stack = true ∧ isKept t.on = true := by
  by_cases hs : t.state = 9
  · obtain ⟨a, b, c, d⟩ := (mayT_dead p t hs).1 h
    exact ⟨by omega, d, by omega, by omega, by rw [List.eq_nil_of_length_eq_zero b]; rfl, c⟩
  · obtain ⟨a, b, c, d, e, f, g⟩ := (mayT_live p t hs).1 h
    exact ⟨a, by omega, ((framesB_iff p _).1 c).1, d, e, f⟩

set_option maxHeartbeats 16000000 in
set_option maxRecDepth 100000 in
theorem refMay_any (h : PH) (p : PV) (w : World) (B : Nat) (hr : RP w B h p) (hB : B ≤ w.heap.size) (hlen : Lens p) (ht : TH) (t : TV) (D : Nat → Prop) (hr2 : RT w D ht t) (hl : LenT t) :
    Calls Try.prog 14 #[.agg #[.slice h.fA p.funcs.length h.fc, .int .i64 p.mutexes, .slice h.cA p.conds.length h.cc, .slice h.sA p.semas.length h.sc, .slice h.hA p.chans.length h.hc, .slice h.xA p.choices.length h.xc, .int .i64 p.threads], .agg #[.int .i64 t.state, .int .i64 t.on, .slice ht.fA t.frames.length ht.fc, .slice ht.sA t.stack.length ht.sc, .int .i64 t.code]] w fun e w' => e = .returned (.bool (mayT p t)) ∧ Below w.heap.size w w' := by
  have hfr := fun (W : World) (hb : Below w.heap.size w W) (x : TFr) (hri : RI W W.heap.size x.A x.f.locals.length x.c x.f.locals) (hxl : x.f.locals.length ≤ 9223372036854775807) => refFrmB_any h p W W.heap.size ((hr.below (hb.mono hB)).more (Nat.le_trans hB hb.size)) (Nat.le_refl _) hlen x hri hxl
  have hk := fun (W : World) (hb : Below w.heap.size w W) => refKept_any t.stack W W.heap.size ht.sA t.stack.length ht.sc ((hr2.below hb).stack.ri) hl.stack
  have hF := hr2.frames.rg
  have hll := hl.locals
  have hlf := hl.frames
  have hls := hl.stack
  have hrange := fun hh => mayT_range (p := p) (t := t) hh
  have hdead := mayT_dead p t
  have hlive := mayT_live p t
  have hall := fun hh => mayT_frs (p := p) (t := t) hh
  have HFR := Lib.hid hfr; have HK := Lib.hid hk; have HF := Lib.hid hF; have HLL := Lib.hid hll; have HRG := Lib.hid hrange; have HDE := Lib.hid hdead; have HLI := Lib.hid hlive; have HALL := Lib.hid hall
  clear hr hr2 hlen hl hfr hk hF hll hrange hdead hlive hall
  obtain ⟨tA, tc, kA, kc⟩ := ht
  obtain ⟨fA, fc, cA, cc, sA, sc, hA, hc, xA, xc⟩ := h
  obtain ⟨st, on, fr, stk, cd⟩ := t
  simp only at HFR HK HF HLL HRG HDE HLI HALL hlf hls ⊢
  obtain ⟨bm, hbm⟩ : ∃ b, mayT p ⟨st, on, fr, stk, cd⟩ = b := ⟨_, rfl⟩
  rw [hbm] at HRG HDE HLI HALL ⊢
  clear hbm
  obtain ⟨bk, hbk⟩ : ∃ b, keptB stk = b := ⟨_, rfl⟩
  obtain ⟨bo, hbo⟩ : ∃ b, isKept on = b := ⟨_, rfl⟩
  obtain ⟨ko, hko⟩ : ∃ k, keep on = k := ⟨_, rfl⟩
  have hbo1 : (on == ko) = bo := by
    rw [← hbo, ← hko, Bool.eq_iff_iff, isKept_iff, beq_iff_eq]
    exact eq_comm
  have hbo2 : (on != ko) = !bo := by rw [← hbo1]; rfl
  have hkc := fun W => refKeep_any on W
  rw [hko] at hkc
  have HBK := Lib.hid hbk; have HBO := Lib.hid hbo; have HKC := Lib.hid hkc
  clear hbk hbo hko hkc
  have hfm := FM.new w #[.slice fA p.funcs.length fc, .int .i64 p.mutexes, .slice cA p.conds.length cc, .slice sA p.semas.length sc, .slice hA p.chans.length hc, .slice xA p.choices.length xc, .int .i64 p.threads] #[.int .i64 st, .int .i64 on, .slice tA fr.length tc, .slice kA stk.length kc, .int .i64 cd]
  have HFM := Lib.hid hfm
  clear hfm
  go_enter Try.func14, Try.ntmps14
  go_upto_region 1 with fail
  obtain ⟨W0, hW0⟩ : ∃ W, W = ((w.alloc (.cells #[.slice fA p.funcs.length fc, .int .i64 p.mutexes, .slice cA p.conds.length cc, .slice sA p.semas.length sc, .slice hA p.chans.length hc, .slice xA p.choices.length xc, .int .i64 p.threads] 26)).alloc (.cells #[.int .i64 st, .int .i64 on, .slice tA fr.length tc, .slice kA stk.length kc, .int .i64 cd] 29)) := ⟨_, rfl⟩
  rw [← hW0] at HFM ⊢
  clear hW0
  have x0 := (HFM.out.tb.cell 0).trans rfl
  have x1 := (HFM.out.tb.cell 1).trans rfl
  have x2 := (HFM.out.tb.cell 2).trans rfl
  have x3 := (HFM.out.tb.cell 3).trans rfl
  have x4 := (HFM.out.tb.cell 4).trans rfl
  have z1 := HFM.out.tb.lt
  go_wp2_with fail
  refine (HK.out _ HFM.out.bel).mono ?_
  rintro e wq ⟨rfl, rfl⟩
  rw [HBK.out]
  by_cases g0 : st < 0
  · have hbm : bm = false := by
      cases bm with
      | false => rfl
      | true => exact absurd (HRG.out rfl) (fun hh => by omega)
    subst hbm
    go_upto_region 2 with fail
    go_quiet (first | (go_at_call 24; exact Calls.quiet_of_same (HKC.out _)))
    go_wp2_with fail
    go_ret
    exact ⟨rfl, below_drews HFM.out.bel _⟩
  · have d0 : decide (st < 0) = false := decide_eq_false g0
    by_cases g1 : 9 < st
    · have hbm : bm = false := by
        cases bm with
        | false => rfl
        | true => exact absurd (HRG.out rfl) (fun hh => by omega)
      subst hbm
      go_upto_region 2 with fail
      go_quiet (first | (go_at_call 24; exact Calls.quiet_of_same (HKC.out _)))
      go_wp2_with fail
      go_ret
      exact ⟨rfl, below_drews HFM.out.bel _⟩
    · have d1 : decide (9 < st) = false := decide_eq_false g1
      by_cases g2 : cd < 0
      · have hbm : bm = false := by
          cases bm with
          | false => rfl
          | true => exact absurd (HRG.out rfl) (fun hh => by omega)
        subst hbm
        go_upto_region 2 with fail
        go_quiet (first | (go_at_call 24; exact Calls.quiet_of_same (HKC.out _)))
        go_wp2_with fail
        go_ret
        exact ⟨rfl, below_drews HFM.out.bel _⟩
      · have d2 : decide (cd < 0) = false := decide_eq_false g2
        by_cases g3 : 6 < cd
        · have hbm : bm = false := by
            cases bm with
            | false => rfl
            | true => exact absurd (HRG.out rfl) (fun hh => by omega)
          subst hbm
          go_upto_region 2 with fail
          go_quiet (first | (go_at_call 24; exact Calls.quiet_of_same (HKC.out _)))
          go_wp2_with fail
          go_ret
          exact ⟨rfl, below_drews HFM.out.bel _⟩
        · have d3 : decide (6 < cd) = false := decide_eq_false g3
          by_cases g4 : (8 : Int) < (fr.length : Int)
          · have hbm : bm = false := by
              cases bm with
              | false => rfl
              | true => exact absurd (HRG.out rfl) (fun hh => by omega)
            subst hbm
            go_upto_region 2 with fail
            go_quiet (first | (go_at_call 24; exact Calls.quiet_of_same (HKC.out _)))
            go_wp2_with fail
            go_ret
            exact ⟨rfl, below_drews HFM.out.bel _⟩
          · have d4 : decide ((8 : Int) < (fr.length : Int)) = false := decide_eq_false g4
            by_cases g5 : (16 : Int) < (stk.length : Int)
            · have hbm : bm = false := by
                cases bm with
                | false => rfl
                | true => exact absurd (HRG.out rfl) (fun hh => by omega)
              subst hbm
              go_upto_region 2 with fail
              go_quiet (first | (go_at_call 24; exact Calls.quiet_of_same (HKC.out _)))
              go_wp2_with fail
              go_ret
              exact ⟨rfl, below_drews HFM.out.bel _⟩
            · have d5 : decide ((16 : Int) < (stk.length : Int)) = false := decide_eq_false g5
              cases bk with
              | false =>
                have hbm : bm = false := by
                  cases bm with
                  | false => rfl
                  | true => exact absurd (HRG.out rfl) (fun hh => by have := hh.2.2.2.2.1; rw [HBK.out] at this; cases this)
                subst hbm
                go_upto_region 2 with fail
                go_quiet (first | (go_at_call 24; exact Calls.quiet_of_same (HKC.out _)))
                go_wp2_with fail
                go_ret
                exact ⟨rfl, below_drews HFM.out.bel _⟩
              | true =>
                cases bo with
                | false =>
                  have hbm : bm = false := by
                    cases bm with
                    | false => rfl
                    | true => exact absurd (HRG.out rfl) (fun hh => by have := hh.2.2.2.2.2; rw [HBO.out] at this; cases this)
                  subst hbm
                  go_upto_region 2 with fail
                  go_quiet (first | (go_at_call 24; exact Calls.quiet_of_same (HKC.out _)))
                  go_wp2_with fail
                  go_ret
                  exact ⟨rfl, below_drews HFM.out.bel _⟩
                | true =>
                  go_upto_region 2 with fail
                  go_quiet (first | (go_at_call 24; exact Calls.quiet_of_same (HKC.out _)))
                  go_wp2_with fail
                  have hfm2 : FM w (wq.drewN nq) #[.slice fA p.funcs.length fc, .int .i64 p.mutexes, .slice cA p.conds.length cc, .slice sA p.semas.length sc, .slice hA p.chans.length hc, .slice xA p.choices.length xc, .int .i64 p.threads] #[.int .i64 st, .int .i64 on, .slice tA fr.length tc, .slice kA stk.length kc, .int .i64 cd] := HFM.out.below (below_drews (Below.refl _ _) nq)
                  have HFM2 := Lib.hid hfm2
                  clear hfm2 x0 x1 x2 x3 x4 HFM z1
                  go_loopw [6] (fun s wr => ∃ k : Nat, k ≤ fr.length ∧ s = .int .i64 (k : Int) ∧ FM w wr #[.slice fA p.funcs.length fc, .int .i64 p.mutexes, .slice cA p.conds.length cc, .slice sA p.semas.length sc, .slice hA p.chans.length hc, .slice xA p.choices.length xc, .int .i64 p.threads] #[.int .i64 st, .int .i64 on, .slice tA fr.length tc, .slice kA stk.length kc, .int .i64 cd] ∧ Hid ((fr.take k).all (frB p) = true)) (fun s _ => fr.length - (intOf s).toNat)
                  case atStart => exact ⟨0, by omega, rfl, HFM2.out, by show _ = _; simp⟩
                  case round =>
                    obtain ⟨k, hk, rfl, g, hp⟩ := hrel
                    have G := Lib.hid g
                    have zb := g.bel.size
                    have z1 := g.tb.lt
                    have x2 : wr.cell? ⟨w.heap.size + 1, 2, none⟩ = some (.slice tA fr.length tc) := (g.tb.cell 2).trans rfl
                    by_cases hlt : k < fr.length
                    · obtain ⟨ad, x, rfl, hab, hx, a0, a1, a2, hri⟩ := HF.out.at_ hlt
                      have hxl := HLL.out x.f (List.mem_of_getElem? hx)
                      have hlti : (k : Int) < (fr.length : Int) := by omega
                      have hS : ∀ X, Below wr.heap.size wr X → X.cell? ⟨w.heap.size, 0, none⟩ = some (.slice fA p.funcs.length fc) ∧ X.cell? ⟨w.heap.size, 1, none⟩ = some (.int .i64 p.mutexes) ∧ X.cell? ⟨w.heap.size, 2, none⟩ = some (.slice cA p.conds.length cc) ∧ X.cell? ⟨w.heap.size, 3, none⟩ = some (.slice sA p.semas.length sc) ∧ X.cell? ⟨w.heap.size, 4, none⟩ = some (.slice hA p.chans.length hc) ∧ X.cell? ⟨w.heap.size, 5, none⟩ = some (.slice xA p.choices.length xc) ∧ X.cell? ⟨w.heap.size, 6, none⟩ = some (.int .i64 p.threads) ∧ X.cell? ⟨w.heap.size + 1, 2, none⟩ = some (.slice (some ad) fr.length tc) ∧ X.cell? (ad.add (k * 3)) = some (.int .i64 x.f.func) ∧ X.cell? ⟨(ad.add (k * 3)).block, (ad.add (k * 3)).off + 1, none⟩ = some (.int .i64 x.f.pc) ∧ X.cell? ⟨(ad.add (k * 3)).block, (ad.add (k * 3)).off + 2, none⟩ = some (.slice x.A x.f.locals.length x.c) := fun X hX => by
                        have hbx := g.bel.trans (hX.mono zb)
                        have k1 := g.pb.below hX g.pb.lt
                        have k2 := g.tb.below hX g.tb.lt
                        exact ⟨(k1.cell 0).trans rfl, (k1.cell 1).trans rfl, (k1.cell 2).trans rfl, (k1.cell 3).trans rfl, (k1.cell 4).trans rfl, (k1.cell 5).trans rfl, (k1.cell 6).trans rfl, (k2.cell 2).trans rfl, (hbx.cell (p := ad.add (k * 3)) (by rw [block_of_add]; omega)).trans a0,
                          (hbx.cell (p := ⟨(ad.add (k * 3)).block, (ad.add (k * 3)).off + 1, none⟩) (by show (ad.add (k * 3)).block < _; rw [block_of_add]; omega)).trans a1, (hbx.cell (p := ⟨(ad.add (k * 3)).block, (ad.add (k * 3)).off + 2, none⟩) (by show (ad.add (k * 3)).block < _; rw [block_of_add]; omega)).trans a2⟩
                      obtain ⟨bx, hbx⟩ : ∃ b, frB p x.f = b := ⟨_, rfl⟩
                      have hcon : ∀ X, Below wr.heap.size wr X → Calls Try.prog 46 #[.agg #[.slice fA p.funcs.length fc, .int .i64 p.mutexes, .slice cA p.conds.length cc, .slice sA p.semas.length sc, .slice hA p.chans.length hc, .slice xA p.choices.length xc, .int .i64 p.threads], .agg #[.int .i64 x.f.func, .int .i64 x.f.pc, .slice x.A x.f.locals.length x.c]] X fun e w' => e = .returned (.bool bx) ∧ Below wr.heap.size wr w' := fun X hX =>
                        (HFR.out X (g.bel.trans (hX.mono zb)) x ((hri.keep fun q hq => (g.bel.trans (hX.mono zb)).cell hq).more (Nat.le_trans zb hX.size)) hxl).mono fun e w' h => ⟨by rw [h.1, hbx], hX.trans (h.2.mono hX.size)⟩
                      have hno : ¬ frB p x.f = true → bm = false := fun hh => by
                        cases bm with
                        | false => rfl
                        | true => exact absurd (List.all_eq_true.1 (HALL.out rfl) _ (List.mem_of_getElem? hx)) hh
                      have hyes : frB p x.f = true → (fr.take (k + 1)).all (frB p) = true := fun hh => by rw [all_take' hx, hh, Bool.and_true]; exact hp.out
                      rw [hbx] at hno hyes
                      have hbq := Below.refl wr.heap.size wr
                      have HS := Lib.hid hS; have HCON := Lib.hid hcon; have HNO := Lib.hid hno; have HYES := Lib.hid hyes
                      obtain ⟨s0, s1, s2, s3, s4, s5, s6, s7, s8, s9, s10⟩ := hS wr hbq
                      clear g hS hcon hno hyes hbx hx a0 a1 a2 hri hxl x2
                      go_upto_region 7 with fail
                      go_region_held3 (fun w' => w'.cell? ⟨w.heap.size, 0, none⟩ = some (.slice fA p.funcs.length fc) ∧ w'.cell? ⟨w.heap.size, 1, none⟩ = some (.int .i64 p.mutexes) ∧ w'.cell? ⟨w.heap.size, 2, none⟩ = some (.slice cA p.conds.length cc) ∧ w'.cell? ⟨w.heap.size, 3, none⟩ = some (.slice sA p.semas.length sc) ∧ w'.cell? ⟨w.heap.size, 4, none⟩ = some (.slice hA p.chans.length hc) ∧ w'.cell? ⟨w.heap.size, 5, none⟩ = some (.slice xA p.choices.length xc) ∧ w'.cell? ⟨w.heap.size, 6, none⟩ = some (.int .i64 p.threads) ∧ w'.cell? ⟨w.heap.size + 1, 2, none⟩ = some (.slice (some ad) fr.length tc) ∧ w'.cell? (ad.add (k * 3)) = some (.int .i64 x.f.func) ∧ w'.cell? ⟨(ad.add (k * 3)).block, (ad.add (k * 3)).off + 1, none⟩ = some (.int .i64 x.f.pc) ∧ w'.cell? ⟨(ad.add (k * 3)).block, (ad.add (k * 3)).off + 2, none⟩ = some (.slice x.A x.f.locals.length x.c))
                        (first | (with_reducible exact HS.out _ hbq) | (with_reducible exact HS.out _ hbq.drew) | go_keep)
                        (first | (go_simp; go_at_call 46; refine (HCON.out _ (by first | with_reducible exact hbq | with_reducible exact hbq.drew)).mono ?_; rintro e w6 ⟨rfl, hbq⟩))
                      all_goals
                        have HBQ := Lib.hid hbq
                        clear hbq s0 s1 s2 s3 s4 s5 s6 s7 s8 s9 s10
                        cases bx with
                        | true =>
                          go_wp2_with fail
                          exact ⟨⟨k + 1, by omega, by go_num, G.out.below HBQ.out, HYES.out rfl⟩, by simp [intOf]; omega⟩
                        | false =>
                          have hbm := HNO.out (by decide)
                          subst hbm
                          go_wp2_with fail
                          go_ret
                          exact ⟨rfl, (G.out.below HBQ.out).bel⟩
                    · have hall : fr.all (frB p) = true := by
                        have := hp.out
                        rwa [List.take_of_length_le (by omega)] at this
                      have y0 := (g.tb.cell 0).trans rfl
                      have y2 := (g.tb.cell 2).trans rfl
                      have y3 := (g.tb.cell 3).trans rfl
                      have y4 := (g.tb.cell 4).trans rfl
                      have hlti : ¬ ((k : Int) < (fr.length : Int)) := by omega
                      clear g
                      by_cases hs : st = 9
                      · subst hs
                        by_cases e1 : fr = []
                        · by_cases e2 : stk = []
                          · have hv : bm = true := (HDE.out rfl).2 ⟨by rw [e1]; rfl, by rw [e2]; rfl, HBO.out, by omega⟩
                            subst hv
                            clear hall
                            go_wp2_with fail
                            all_goals first | (exfalso; simp_all; done) | (go_ret; exact ⟨ret_bool (by first | rfl | (simp [e1]; done) | (simp [e2]; done)), G.out.bel⟩)
                          · have hv : bm = false := by
                              cases bm with
                              | false => rfl
                              | true => exact absurd (List.eq_nil_of_length_eq_zero ((HDE.out rfl).1 rfl).2.1) e2
                            subst hv
                            clear hall
                            go_wp2_with fail
                            all_goals first | (exfalso; simp_all; done) | (go_ret; exact ⟨ret_bool (by first | rfl | (simp [e1]; done) | (simp [e2]; done)), G.out.bel⟩)
                        · have hv : bm = false := by
                            cases bm with
                            | false => rfl
                            | true => exact absurd (List.eq_nil_of_length_eq_zero ((HDE.out rfl).1 rfl).1) e1
                          subst hv
                          clear hall
                          go_wp2_with fail
                          all_goals first | (exfalso; simp_all; done) | (go_ret; exact ⟨ret_bool (by first | rfl | (simp [e1]; done) | (simp [e2]; done)), G.out.bel⟩)
                      · have hsb : (st == 9) = false := by simpa using hs
                        by_cases e1 : fr = []
                        · have hv : bm = false := by
                            cases bm with
                            | false => rfl
                            | true => have := ((HLI.out hs).1 rfl).2.1; rw [e1] at this; exact absurd this (by decide)
                          subst hv
                          clear hall hs
                          go_wp2_with fail
                          all_goals first | (exfalso; simp_all; done) | (go_ret; exact ⟨ret_bool (by first | rfl | (simp [e1]; done)), G.out.bel⟩)
                        · have hp0 := List.length_pos_iff.2 e1
                          by_cases e2 : cd = 0
                          · have hv : bm = true := (HLI.out hs).2 ⟨by omega, hp0, (framesB_iff p fr).2 ⟨by omega, hall⟩, by omega, HBK.out, HBO.out, e2⟩
                            subst hv e2
                            clear hall hs
                            go_wp2_with fail
                            all_goals first | (exfalso; simp_all; done) | (go_ret; exact ⟨ret_bool (by first | rfl | (simp [e1]; done)), G.out.bel⟩)
                          · have hv : bm = false := by
                              cases bm with
                              | false => rfl
                              | true => exact absurd ((HLI.out hs).1 rfl).2.2.2.2.2.2 e2
                            subst hv
                            have e2b : (cd == 0) = false := by simpa using e2
                            clear hall hs
                            go_wp2_with fail
                            all_goals first | (exfalso; simp_all; done) | (go_ret; exact ⟨ret_bool (by first | rfl | (simp [e1]; done) | (simp [e2]; done)), G.out.bel⟩)
end Go.Proofs.Ytkciedcfphhenaa
