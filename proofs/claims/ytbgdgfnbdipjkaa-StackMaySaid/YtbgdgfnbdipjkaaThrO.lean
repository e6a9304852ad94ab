
/-
  May of the program, for any thread.
-/
import Derived.Test.YtbgdgfnbdipjkaaThrG
import Derived.Test.YtbgdgfnbdipjkaaSDeep
set_option linter.unusedVariables false
set_option linter.unusedSimpArgs false
namespace Go.Proofs.Ytbgdgfnbdipjkaa
open Go.RowKit Plain

theorem framesB_iff (p : PV) (l : List FrV) : framesB p l = true ↔ l.length ≤ 8 ∧ l.all (frB p) = true := by unfold framesB; simp
theorem mayT_dead (p : PV) (t : TV) (h : t.state = 9) : mayT p t = true ↔ t.frames.length = 0 ∧ t.stack.length = 0 ∧ isKept t.on = true ∧ (0 ≤ t.code ∧ t.code ≤ 6) := by
  unfold mayT
  rw [if_pos h, h]
  constructor
  · intro hh
    simp only [Bool.and_eq_true, decide_eq_true_eq, List.isEmpty_iff] at hh
    obtain ⟨⟨⟨⟨⟨⟨⟨⟨⟨_, _⟩, c0⟩, c1⟩, _⟩, _⟩, _⟩, k⟩, _⟩, f, s⟩ := hh
    exact ⟨by rw [f]; rfl, by rw [s]; rfl, k, c0, c1⟩
  · rintro ⟨f, s, k, c0, c1⟩
    have f' := List.eq_nil_of_length_eq_zero f
    have s' := List.eq_nil_of_length_eq_zero s
    rw [f', s', k, decide_eq_true c0, decide_eq_true c1]
    rfl
theorem mayT_live (p : PV) (t : TV) (h : t.state ≠ 9) : mayT p t = true ↔ (0 ≤ t.state ∧ t.state ≤ 9) ∧ 0 < t.frames.length ∧ framesB p t.frames = true ∧ t.stack.length ≤ 16 ∧ keptB t.stack = true ∧ isKept t.on = true ∧ t.code = 0 := by
  rw [mayT_iff p t h, framesB_iff]
  constructor
  · rintro ⟨m1, m2, m3, m4, m5, m6, m7, m8, m9, m10, m11⟩
    exact ⟨⟨m1, m2⟩, List.length_pos_iff.2 (List.isEmpty_eq_false_iff.1 m10), ⟨m5, m9⟩, m6, m7, m8, m11⟩
  · rintro ⟨⟨m1, m2⟩, m10, ⟨m5, m9⟩, m6, m7, m8, m11⟩
    exact ⟨m1, m2, by omega, by omega, m5, m6, m7, m8, m9, List.isEmpty_eq_false_iff.2 (List.length_pos_iff.1 m10), m11⟩
theorem mayT_no {p : PV} {t : TV} (h : ¬ mayT p t = true) : mayT p t = false := by simpa using h

set_option maxHeartbeats 8000000 in
set_option maxRecDepth 100000 in
theorem may_dead (h : PH) (p : PV) (w : World) (B : Nat) (hr : RP w B h p) (hB : B ≤ w.heap.size) (hlen : Lens p) (ht : TH) (t : TV) (D : Nat → Prop) (hr2 : RT w D ht t) (hl : LenT t) (hs : t.state = 9) :
    Calls Try.prog 13 #[.agg #[.slice h.fA p.funcs.length h.fc, .int .i64 p.mutexes, .slice h.cA p.conds.length h.cc, .slice h.sA p.semas.length h.sc, .slice h.hA p.chans.length h.hc, .slice h.xA p.choices.length h.xc, .int .i64 p.threads], .agg #[.int .i64 t.state, .int .i64 t.on, .slice ht.fA t.frames.length ht.fc, .slice ht.sA t.stack.length ht.sc, .int .i64 t.code]] w fun e w' => e = .returned (.bool (mayT p t)) ∧ Below w.heap.size w w' := by
  have hmf := fun (W : World) (hb : Below w.heap.size w W) => mayFrames_any h p W W.heap.size ((hr.below (hb.mono hB)).more (Nat.le_trans hB hb.size)) (Nat.le_refl _) hlen ht.fA t.frames.length ht.fc t.frames ((hr2.below hb).frames.rg) hl.locals hl.frames
  have hk := fun (W : World) (hb : Below w.heap.size w W) => areKept_any t.stack W W.heap.size ht.sA t.stack.length ht.sc ((hr2.below hb).stack.ri) hl.stack
  have HMF := Lib.hid hmf; have HK := Lib.hid hk
  have hb2 : ∀ cs ds, Below w.heap.size w ((w.alloc (.cells cs 26)).alloc (.cells ds 29)) := fun cs ds => ((Below.refl _ _).alloc (Nat.le_refl _) _).alloc (by simp) _
  have HB2 := Lib.hid hb2
  have hx5 : ∀ cs ds W, Below ((w.alloc (.cells cs 26)).alloc (.cells ds 29)).heap.size ((w.alloc (.cells cs 26)).alloc (.cells ds 29)) W → Blk W (w.heap.size + 1) 29 ds ∧ Below w.heap.size w W := fun cs ds W hb => by
    refine ⟨Blk.below ?_ hb (by simp), (hb2 cs ds).trans (hb.mono (hb2 cs ds).size)⟩
    simpa using Blk.new (w.alloc (.cells cs 26)) 29 ds
  have HX5 := Lib.hid hx5
  clear hr hr2 hlen hl hmf hk hb2 hx5
  obtain ⟨tA, tc, kA, kc⟩ := ht
  obtain ⟨fA, fc, cA, cc, sA, sc, hA, hc, xA, xc⟩ := h
  obtain ⟨st, on, fr, stk, cd⟩ := t
  simp only at hs HMF HK ⊢
  subst hs
  by_cases hf : fr = []
  · subst hf
    by_cases hk : stk = []
    · subst hk
      have hfb : framesB p [] = true := rfl
      have hkb : keptB [] = true := rfl
      have HFB := Lib.hid hfb; have HKB := Lib.hid hkb
      have hon : ∀ b, isKept on = b → True := fun _ _ => trivial
      clear hfb hkb hon
      simp only [List.length_nil] at HMF HK ⊢
      obtain ⟨bo, hbo⟩ : ∃ b, isKept on = b := ⟨_, rfl⟩
      obtain ⟨bc, hbc⟩ : ∃ b, (decide (0 ≤ cd) && decide (cd ≤ 6)) = b := ⟨_, rfl⟩
      have hv : mayT p ⟨9, on, [], [], cd⟩ = (bo && bc) := by
        rw [Bool.eq_iff_iff, mayT_dead p _ rfl, ← hbo, ← hbc]
        simp
      have HV := Lib.hid hv; have HBO := Lib.hid hbo; have HBC := Lib.hid hbc
      clear hv hbo hbc
      go_enter Try.func13, Try.ntmps13
      go_wp2_with fail
      refine (swithin_any 9 0 9 _).mono ?_
      rintro e w' ⟨rfl, rfl⟩
      rw [show (decide ((0 : Int) ≤ 9) && decide ((9 : Int) ≤ 9)) = true by decide]
      go_wp2_with fail
      refine (HMF.out _ (HB2.out _ _)).mono ?_
      rintro e w5 ⟨rfl, hb5⟩
      obtain ⟨hbx5, h5⟩ := HX5.out _ _ _ hb5
      have x0 := (hbx5.cell 0).trans rfl
      have x1 := (hbx5.cell 1).trans rfl
      have x3 := (hbx5.cell 3).trans rfl
      have x4 := (hbx5.cell 4).trans rfl
      have H5 := Lib.hid h5
      clear hb5 hbx5 h5
      rw [HFB.out]
      go_wp2_with fail
      refine (HK.out _ H5.out).mono ?_
      rintro e w6 ⟨rfl, rfl⟩
      rw [HKB.out]
      go_wp2_with fail
      refine (isKept_any on _).mono ?_
      rintro e w7 ⟨rfl, rfl⟩
      rw [HBO.out]
      cases bo with
      | false =>
        go_wp2_with fail
        go_ret
        exact ⟨ret_bool HV.out.symm, H5.out⟩
      | true =>
        go_wp2_with fail
        refine (swithin_any cd 0 6 _).mono ?_
        rintro e w8 ⟨rfl, rfl⟩
        rw [HBC.out]
        cases bc with
        | false =>
          go_wp2_with fail
          go_ret
          exact ⟨ret_bool HV.out.symm, H5.out⟩
        | true =>
          go_wp2_with fail
          go_ret
          exact ⟨ret_bool HV.out.symm, H5.out⟩
    · have hv : mayT p ⟨9, on, [], stk, cd⟩ = false := mayT_no fun h => hk (List.eq_nil_of_length_eq_zero ((mayT_dead p _ rfl).1 h).2.1)
      have hp : (0 : Int) < (stk.length : Int) := by have := List.length_pos_iff.2 hk; omega
      have hfb : framesB p [] = true := rfl
      have HFB := Lib.hid hfb; have HV := Lib.hid hv
      clear hfb hv
      simp only [List.length_nil] at HMF HK ⊢
      have hpb : decide ((0 : Int) < (stk.length : Int)) = true := decide_eq_true hp
      clear hp
      by_cases h16 : (stk.length : Int) ≤ 16
      · go_enter Try.func13, Try.ntmps13
        go_wp2_with fail
        refine (swithin_any 9 0 9 _).mono ?_
        rintro e w' ⟨rfl, rfl⟩
        rw [show (decide ((0 : Int) ≤ 9) && decide ((9 : Int) ≤ 9)) = true by decide]
        go_wp2_with fail
        refine (HMF.out _ (HB2.out _ _)).mono ?_
        rintro e w5 ⟨rfl, hb5⟩
        obtain ⟨hbx5, h5⟩ := HX5.out _ _ _ hb5
        have x0 := (hbx5.cell 0).trans rfl
        have x1 := (hbx5.cell 1).trans rfl
        have x3 := (hbx5.cell 3).trans rfl
        have x4 := (hbx5.cell 4).trans rfl
        have H5 := Lib.hid h5
        clear hb5 hbx5 h5
        rw [HFB.out]
        go_wp2_with fail
        go_ret
        exact ⟨ret_bool HV.out.symm, H5.out⟩
      · have h16b : decide ((stk.length : Int) ≤ 16) = false := decide_eq_false h16
        go_enter Try.func13, Try.ntmps13
        go_wp2_with fail
        refine (swithin_any 9 0 9 _).mono ?_
        rintro e w' ⟨rfl, rfl⟩
        rw [show (decide ((0 : Int) ≤ 9) && decide ((9 : Int) ≤ 9)) = true by decide]
        go_wp2_with fail
        refine (HMF.out _ (HB2.out _ _)).mono ?_
        rintro e w5 ⟨rfl, hb5⟩
        obtain ⟨hbx5, h5⟩ := HX5.out _ _ _ hb5
        have x0 := (hbx5.cell 0).trans rfl
        have x1 := (hbx5.cell 1).trans rfl
        have x3 := (hbx5.cell 3).trans rfl
        have x4 := (hbx5.cell 4).trans rfl
        have H5 := Lib.hid h5
        clear hb5 hbx5 h5
        rw [HFB.out]
        go_wp2_with fail
        go_ret
        exact ⟨ret_bool HV.out.symm, H5.out⟩
  · have hv : mayT p ⟨9, on, fr, stk, cd⟩ = false := mayT_no fun h => hf (List.eq_nil_of_length_eq_zero ((mayT_dead p _ rfl).1 h).1)
    have hp : ((fr.length : Int) == 0) = false := by have := List.length_pos_iff.2 hf; rw [beq_eq_false_iff_ne]; omega
    have HV := Lib.hid hv
    clear hv hf
    go_enter Try.func13, Try.ntmps13
    go_wp2_with fail
    refine (swithin_any 9 0 9 _).mono ?_
    rintro e w' ⟨rfl, rfl⟩
    rw [show (decide ((0 : Int) ≤ 9) && decide ((9 : Int) ≤ 9)) = true by decide]
    go_wp2_with fail
    go_ret
    exact ⟨ret_bool HV.out.symm, HB2.out _ _⟩

set_option maxHeartbeats 8000000 in
set_option maxRecDepth 100000 in
theorem may_live (h : PH) (p : PV) (w : World) (B : Nat) (hr : RP w B h p) (hB : B ≤ w.heap.size) (hlen : Lens p) (ht : TH) (t : TV) (D : Nat → Prop) (hr2 : RT w D ht t) (hl : LenT t) (hs : t.state ≠ 9) :
    Calls Try.prog 13 #[.agg #[.slice h.fA p.funcs.length h.fc, .int .i64 p.mutexes, .slice h.cA p.conds.length h.cc, .slice h.sA p.semas.length h.sc, .slice h.hA p.chans.length h.hc, .slice h.xA p.choices.length h.xc, .int .i64 p.threads], .agg #[.int .i64 t.state, .int .i64 t.on, .slice ht.fA t.frames.length ht.fc, .slice ht.sA t.stack.length ht.sc, .int .i64 t.code]] w fun e w' => e = .returned (.bool (mayT p t)) ∧ Below w.heap.size w w' := by
  have hmf := fun (W : World) (hb : Below w.heap.size w W) => mayFrames_any h p W W.heap.size ((hr.below (hb.mono hB)).more (Nat.le_trans hB hb.size)) (Nat.le_refl _) hlen ht.fA t.frames.length ht.fc t.frames ((hr2.below hb).frames.rg) hl.locals hl.frames
  have hk := fun (W : World) (hb : Below w.heap.size w W) => areKept_any t.stack W W.heap.size ht.sA t.stack.length ht.sc ((hr2.below hb).stack.ri) hl.stack
  have HMF := Lib.hid hmf; have HK := Lib.hid hk
  have hb2 : ∀ cs ds, Below w.heap.size w ((w.alloc (.cells cs 26)).alloc (.cells ds 29)) := fun cs ds => ((Below.refl _ _).alloc (Nat.le_refl _) _).alloc (by simp) _
  have HB2 := Lib.hid hb2
  have hx5 : ∀ cs ds W, Below ((w.alloc (.cells cs 26)).alloc (.cells ds 29)).heap.size ((w.alloc (.cells cs 26)).alloc (.cells ds 29)) W → Blk W (w.heap.size + 1) 29 ds ∧ Below w.heap.size w W := fun cs ds W hb => by
    refine ⟨Blk.below ?_ hb (by simp), (hb2 cs ds).trans (hb.mono (hb2 cs ds).size)⟩
    simpa using Blk.new (w.alloc (.cells cs 26)) 29 ds
  have HX5 := Lib.hid hx5
  clear hr hr2 hlen hl hmf hk hb2 hx5
  obtain ⟨tA, tc, kA, kc⟩ := ht
  obtain ⟨fA, fc, cA, cc, sA, sc, hA, hc, xA, xc⟩ := h
  obtain ⟨st, on, fr, stk, cd⟩ := t
  simp only at hs HMF HK ⊢
  have hs9b : (st == 9) = false := by simpa using hs
  have hbi := mayT_live p ⟨st, on, fr, stk, cd⟩ hs
  simp only at hbi
  have HBI := Lib.hid hbi
  clear hbi hs
  by_cases h0 : 0 ≤ st ∧ st ≤ 9
  · have hw0 : (decide (0 ≤ st) && decide (st ≤ 9)) = true := by rw [decide_eq_true h0.1, decide_eq_true h0.2]; rfl
    have HW0 := Lib.hid hw0; have H0 := Lib.hid h0
    clear hw0 h0
    by_cases hf : 0 < fr.length
    · have hfi : ((fr.length : Int) == 0) = false := by rw [beq_eq_false_iff_ne]; omega
      have HF := Lib.hid hf
      clear hf
      obtain ⟨bf, hbf⟩ : ∃ b, framesB p fr = b := ⟨_, rfl⟩
      obtain ⟨bk, hbk⟩ : ∃ b, keptB stk = b := ⟨_, rfl⟩
      obtain ⟨bo, hbo⟩ : ∃ b, isKept on = b := ⟨_, rfl⟩
      have HBF := Lib.hid hbf; have HBK := Lib.hid hbk; have HBO := Lib.hid hbo
      clear hbf hbk hbo
      go_enter Try.func13, Try.ntmps13
      go_wp2_with fail
      refine (swithin_any st 0 9 _).mono ?_
      rintro e w' ⟨rfl, rfl⟩
      rw [HW0.out]
      go_wp2_with fail
      refine (HMF.out _ (HB2.out _ _)).mono ?_
      rintro e w5 ⟨rfl, hb5⟩
      obtain ⟨hbx5, h5⟩ := HX5.out _ _ _ hb5
      have x0 := (hbx5.cell 0).trans rfl
      have x1 := (hbx5.cell 1).trans rfl
      have x3 := (hbx5.cell 3).trans rfl
      have x4 := (hbx5.cell 4).trans rfl
      have H5 := Lib.hid h5
      clear hb5 hbx5 h5
      rw [HBF.out]
      cases bf with
      | false =>
        have hv : mayT p ⟨st, on, fr, stk, cd⟩ = false := mayT_no fun h => by have := (HBI.out.1 h).2.2.1; rw [HBF.out] at this; cases this
        have HV := Lib.hid hv
        clear hv
        go_wp2_with fail
        go_ret
        exact ⟨ret_bool HV.out.symm, H5.out⟩
      | true =>
        by_cases h16 : stk.length ≤ 16
        · have h16i : (stk.length : Int) ≤ 16 := by omega
          go_wp2_with fail
          refine (HK.out _ H5.out).mono ?_
          rintro e w6 ⟨rfl, rfl⟩
          rw [HBK.out]
          cases bk with
          | false =>
            have hv : mayT p ⟨st, on, fr, stk, cd⟩ = false := mayT_no fun h => by have := (HBI.out.1 h).2.2.2.2.1; rw [HBK.out] at this; cases this
            have HV := Lib.hid hv
            clear hv
            go_wp2_with fail
            go_ret
            exact ⟨ret_bool HV.out.symm, H5.out⟩
          | true =>
            go_wp2_with fail
            refine (isKept_any on _).mono ?_
            rintro e w7 ⟨rfl, rfl⟩
            rw [HBO.out]
            cases bo with
            | false =>
              have hv : mayT p ⟨st, on, fr, stk, cd⟩ = false := mayT_no fun h => by have := (HBI.out.1 h).2.2.2.2.2.1; rw [HBO.out] at this; cases this
              have HV := Lib.hid hv
              clear hv
              go_wp2_with fail
              go_ret
              exact ⟨ret_bool HV.out.symm, H5.out⟩
            | true =>
              have H16 := Lib.hid h16
              clear h16
              obtain ⟨bc, hbc⟩ : ∃ b, (decide (0 ≤ cd) && decide (cd ≤ 6)) = b := ⟨_, rfl⟩
              have HBC := Lib.hid hbc
              clear hbc
              go_wp2_with fail
              refine (swithin_any cd 0 6 _).mono ?_
              rintro e w8 ⟨rfl, rfl⟩
              rw [HBC.out]
              cases bc with
              | false =>
                have hv : mayT p ⟨st, on, fr, stk, cd⟩ = false := mayT_no fun h => by have := (HBI.out.1 h).2.2.2.2.2.2; have h2 := HBC.out; rw [this] at h2; exact absurd h2 (by decide)
                have HV := Lib.hid hv
                clear hv
                go_wp2_with fail
                go_ret
                exact ⟨ret_bool HV.out.symm, H5.out⟩
              | true =>
                by_cases hcz : cd = 0
                · have hv : mayT p ⟨st, on, fr, stk, cd⟩ = true := HBI.out.2 ⟨H0.out, HF.out, HBF.out, H16.out, HBK.out, HBO.out, hcz⟩
                  have HV := Lib.hid hv
                  have hcb : (cd == 0) = true := by simpa using hcz
                  clear hv hcz
                  go_wp2_with fail
                  go_ret
                  exact ⟨ret_bool HV.out.symm, H5.out⟩
                · have hcb : (cd == 0) = false := by simpa using hcz
                  have hv : mayT p ⟨st, on, fr, stk, cd⟩ = false := mayT_no fun h => hcz (HBI.out.1 h).2.2.2.2.2.2
                  have HV := Lib.hid hv
                  clear hv
                  clear hcz
                  go_wp2_with fail
                  go_ret
                  exact ⟨ret_bool HV.out.symm, H5.out⟩
        · have h16i : decide ((stk.length : Int) ≤ 16) = false := decide_eq_false (by omega)
          have hv : mayT p ⟨st, on, fr, stk, cd⟩ = false := mayT_no fun h => h16 (HBI.out.1 h).2.2.2.1
          have HV := Lib.hid hv
          clear hv
          clear h16
          go_wp2_with fail
          go_ret
          exact ⟨ret_bool HV.out.symm, H5.out⟩
    · have hfi : ((fr.length : Int) == 0) = true := by rw [show fr.length = 0 by omega]; rfl
      have hv : mayT p ⟨st, on, fr, stk, cd⟩ = false := mayT_no fun h => hf (HBI.out.1 h).2.1
      have HV := Lib.hid hv
      clear hv
      clear hf
      go_enter Try.func13, Try.ntmps13
      go_wp2_with fail
      refine (swithin_any st 0 9 _).mono ?_
      rintro e w' ⟨rfl, rfl⟩
      rw [HW0.out]
      go_wp2_with fail
      go_ret
      exact ⟨ret_bool HV.out.symm, HB2.out _ _⟩
  · have hw0 : (decide (0 ≤ st) && decide (st ≤ 9)) = false := by rw [Bool.eq_false_iff]; intro hh; simp at hh; exact h0 hh
    have HW0 := Lib.hid hw0
    have hv : mayT p ⟨st, on, fr, stk, cd⟩ = false := mayT_no fun h => h0 (HBI.out.1 h).1
    have HV := Lib.hid hv
    clear hv
    clear hw0 h0
    go_enter Try.func13, Try.ntmps13
    go_wp2_with fail
    refine (swithin_any st 0 9 _).mono ?_
    rintro e w' ⟨rfl, rfl⟩
    rw [HW0.out]
    go_wp2_with fail
    go_ret
    exact ⟨ret_bool HV.out.symm, HB2.out _ _⟩

theorem may_any (h : PH) (p : PV) (w : World) (B : Nat) (hr : RP w B h p) (hB : B ≤ w.heap.size) (hlen : Lens p) (ht : TH) (t : TV) (D : Nat → Prop) (hr2 : RT w D ht t) (hl : LenT t) :
    Calls Try.prog 13 #[.agg #[.slice h.fA p.funcs.length h.fc, .int .i64 p.mutexes, .slice h.cA p.conds.length h.cc, .slice h.sA p.semas.length h.sc, .slice h.hA p.chans.length h.hc, .slice h.xA p.choices.length h.xc, .int .i64 p.threads], .agg #[.int .i64 t.state, .int .i64 t.on, .slice ht.fA t.frames.length ht.fc, .slice ht.sA t.stack.length ht.sc, .int .i64 t.code]] w fun e w' => e = .returned (.bool (mayT p t)) ∧ Below w.heap.size w w' := by
  by_cases hs : t.state = 9
  · exact may_dead h p w B hr hB hlen ht t D hr2 hl hs
  · exact may_live h p w B hr hB hlen ht t D hr2 hl hs
end Go.Proofs.Ytbgdgfnbdipjkaa
