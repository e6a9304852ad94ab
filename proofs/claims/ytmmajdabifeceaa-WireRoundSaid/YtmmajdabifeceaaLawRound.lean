/-
  Proved here: WireRound returns true for every input: what is written is read, in its row, and nothing is left.
-/
import Derived.Test.YtmmajdabifeceaaRows
import Derived.WalkKit
import Derived.ProofKit
import Derived.OpenShut
import Derived.ShutString
import Derived.ChangeOld
import Derived.Below
import Derived.Test.YtmmajdabifeceaaRound
namespace Go.Proofs.Ytmmajdabifeceaa.wireRound
open Go.ChangeShapes Go.WideShapes Go.ChangeAt Go.RowKit Go.Proofs.Ytmmajdabifeceaa Go.Proofs.Ytmmajdabifeceaa.Plain
open Go.ChangeMaps (open_string shut_string)
set_option linter.unusedVariables false

theorem own : ownKnob Try.prog.godebug = none := by kernel_rfl
theorem laidOut : laidOutB Try.prog = true := by kernel_rfl

def RoundRel (w : World) (B1 g N : Nat) (v : Value) (ps : List PutV) (BB : List Nat) (s : Value) (wr : World) : Prop :=
  ∃ (i at_ : Nat), s = .int .i64 (i : Int) ∧ i ≤ 20 ∧ i ≤ N ∧ Hid (at_ = (putsL ps i).length) ∧ Rd wr B1 g v BB at_ 0 ∧ Below w.heap.size w wr

theorem close_rel {w w1 wr : World} {B1 g N i at_ K : Nat} {v : Value} {ps : List PutV} {p : PutV} {BB : List Nat} {s : Value} (hs : s = .int .i64 ((i + 1 : Nat) : Int)) (h1 : i < N) (h2 : i < 20) (hat : at_ = (putsL ps i).length) (hK : K = (PutB p).length) (hS : putsL ps (i + 1) = putsL ps i ++ PutB p)
    (hR : RdStep B1 g v BB (at_ + K, 0) w1 wr) (hb : Below w.heap.size w w1) (hg : w.heap.size ≤ g) : RoundRel w B1 g N v ps BB s wr := by
  refine ⟨i + 1, at_ + K, hs, by omega, by omega, ?_, hR.1, hb.trans (hR.2.below hb.size (fun i hi => by subst hi; exact hg))⟩
  show at_ + K = _
  rw [hS, List.length_append, hat, hK]

set_option maxRecDepth 100000 in
set_option maxHeartbeats 4000000 in
theorem walk (a0 : Option Addr) (len0 cap0 : Nat) (z0 : List PutV) (w : World) (w0 : IsPuts w a0 len0 cap0 z0) :
    Calls Try.prog 5 #[.slice a0 len0 cap0] w fun e w' => e = .returned (.bool true) ∧ Below w.heap.size w w' := by
  have HP := Lib.hid w0
  have HPU := Lib.hid (puts_any a0 len0 cap0 z0 w w0)
  have hbl : (putsL z0 (min len0 20)).length ≤ 140737488355328 := puts_le w0
  have hn9 : len0 ≤ 9223372036854775807 := by have := w0.2.1; have := w0.2.2.1; unfold maxLen at *; omega
  have hblt := putsL_lt z0 (min len0 20)
  obtain ⟨BB, hBB⟩ : ∃ BB, BB = putsL z0 (min len0 20) := ⟨_, rfl⟩
  rw [← hBB] at HPU hbl hblt
  have HBB := Lib.hid hBB
  have HX := Lib.hid hblt
  have HBL := Lib.hid hbl
  clear hBB w0 hblt hbl
  go_enter Try.func5, Try.ntmps5
  go_wp2_with fail
  refine HPU.out.mono ?_
  rintro e w1 ⟨A1, c1, A2, c2, rfl, hr1, _, hb1⟩
  have zz1 := hb1.size
  have HB1 := Lib.hid hb1
  clear hb1
  go_wp2_with fail
  refine (newReader_any BB BB.length rfl w1 _ A1 c1 hr1 HBL.out).mono ?_
  rintro e w2 ⟨v, g, rfl, hR2, hg2, hb2⟩
  have zz2 := hb2.size
  have hg : w.heap.size ≤ g := by omega
  have HB2 := Lib.hid (HB1.out.trans (hb2.mono (show w.heap.size ≤ w1.heap.size by omega)))
  have HR2 := Lib.hid hR2
  clear hb2 hR2
  go_wp2_with fail
  go_loopw [7] (fun s wr => RoundRel w w1.heap.size g len0 v z0 BB s wr) (fun s _ => 20 - (intOf s).toNat)
  case atStart => exact ⟨0, 0, rfl, by omega, by omega, by show 0 = _; simp [putsL], HR2.out, HB2.out⟩
  case round =>
    obtain ⟨i, at_, rfl, hi20, hin, HAT, hRr, hBr⟩ := hrel
    have HRr := Lib.hid hRr
    have HBr := Lib.hid hBr
    have zr := hBr.size
    clear hRr hBr
    by_cases hgo : i < len0 ∧ i < 20
    · obtain ⟨hgo1, hgo2⟩ := hgo
      obtain ⟨hpl, hpc, hpm, hpa⟩ := HP.out
      obtain ⟨x, rfl, hxb, hpx⟩ := hpa (by omega)
      have hpi : z0[i]? = some z0[i] := List.getElem?_eq_getElem (show i < z0.length by omega)
      have hp0 := hpx i _ hpi
      have hsucc := putsL_succ hpi
      obtain ⟨rest, hsplit⟩ := putsL_split hpi (show i < min len0 20 by omega)
      rw [← HBB.out] at hsplit
      generalize z0[i] = p at hp0 hsucc hsplit
      have hdrop : BB.drop at_ = PutB p ++ rest := by rw [HAT.out]; exact drop_putsL hsplit
      have hfits : at_ + (PutB p).length ≤ BB.length := by
        have := congrArg List.length hsplit
        rw [List.length_append, List.length_append, ← HAT.out] at this
        omega
      have hxb' : (x.add (i * 4)).block < w.heap.size := by rw [block_of_add]; exact hxb
      have HP0 := Lib.hid hp0
      have HSUCC := Lib.hid hsucc
      have HDROP := Lib.hid hdrop
      have HFITS := Lib.hid hfits
      have bN := hp0.2.2.2.2.2.1
      have bV := hp0.2.2.2.2.2.2.1
      have bS := hp0.2.2.2.2.2.2.2
      clear hpl hpm hpa hpx hpi hp0 hsucc hsplit hdrop hfits
      obtain ⟨ck, cn, cv, cs⟩ := (HP0.out.below hxb' HBr.out).cells
      by_cases hs2 : 200 < p.s.size
      all_goals
        go_wp2_with fail
        go_quiet (fail)
        rename_i nq
      generalize hx : p.s.extract 0 200 = s
      have hsc : s = cutS p.s := by unfold cutS; rw [if_neg (by omega), hx]
      clear hx
      rotate_left
      obtain ⟨s, hx⟩ : ∃ s, s = p.s := ⟨_, rfl⟩
      have hsc : s = cutS p.s := by unfold cutS; rw [if_pos (by omega), hx]
      rw [← hx]
      clear hx
      all_goals
        have hs200 : s.size ≤ 200 := by rw [hsc]; exact cutS_size _
        have HSC := Lib.hid hsc
        clear hsc
        have HBq := Lib.hid (below_drews HBr.out nq)
        have HRq := Lib.hid (HRr.out.drewN nq)
        have HKEEP : Hid (∀ w', Below w.heap.size w w' → w'.cell? ⟨(x.add (i * 4)).block, (x.add (i * 4)).off + 2, none⟩ = some (.int .i64 p.v)) := fun w' hb => (HP0.out.below hxb' hb).cells.2.2.1
        by_cases h0 : p.kind = 0
        · have hb0 : (p.kind == 0) = true := by rw [beq_iff_eq]; exact h0
          have H0 := Lib.hid h0
          clear h0
          obtain ⟨k, hk, hke, hkl⟩ := run_u64 p.v
          have hpb : PutB p = fixedL k (wideOf p.n) := by unfold PutB; rw [if_pos H0.out, hke]
          have hlb : (PutB p).length = wideOf p.n := by rw [hpb, fixedL_length]
          have hfx : (BB.drop at_).take (wideOf p.n) = fixedL k (wideOf p.n) := by rw [HDROP.out, hpb]; exact List.take_left' (fixedL_length _ _)
          have hle : leV ((BB.drop at_).take (wideOf p.n)) = k % 256 ^ wideOf p.n := by rw [hfx, leV_fixedL]
          have HLE := Lib.hid hle
          have HLB := Lib.hid hlb
          have hwd := wideOf_wide p.n
          have HWD := Lib.hid hwd
          have hfit : at_ + wideOf p.n ≤ BB.length := by have := HFITS.out; omega
          have HFIT := Lib.hid hfit
          clear hke hpb hlb hfx hle hwd hfit
          go_wp2_with fail
          refine (wide_any p.n _ bN.1 bN.2).mono ?_
          rintro e wx ⟨rfl, rfl⟩
          have HBx := Lib.hid (HBq.out.alloc (show w.heap.size ≤ wr.heap.size from zr) (.cells #[.int .i64 1, .int .i64 2, .int .i64 4, .int .i64 8] 3))
          have HRx := Lib.hid (HRq.out.alloc (.cells #[.int .i64 1, .int .i64 2, .int .i64 4, .int .i64 8] 3))
          have cv2 := HKEEP.out _ HBx.out
          rcases HWD.out with hw | hw | hw | hw
          · have hct : Calls Try.prog 21 #[.pointer (some ⟨g, 0, none⟩), .int .i64 1] ((wr.drewN nq).alloc (.cells #[.int .i64 1, .int .i64 2, .int .i64 4, .int .i64 8] 3)) fun en w' => en = .returned (.int .u64 ((k : Int) % 256)) ∧ RdStep w1.heap.size g v BB (at_ + (PutB p).length, 0) ((wr.drewN nq).alloc (.cells #[.int .i64 1, .int .i64 2, .int .i64 4, .int .i64 8] 3)) w' := by
              have h := rd_fixed_yes _ g v BB at_ (wideOf p.n) _ HRx.out HX.out HBL.out HWD.out HFIT.out
              rw [HLE.out, ← HLB.out] at h
              rw [HLB.out, hw] at h
              rw [HLB.out, hw]
              simpa using h
            rw [hw]
            have HCT := Lib.hid hct
            clear hct hw ck cn cv cs
            go_wp2_with fail
            refine HCT.out.mono ?_
            rintro e wc ⟨rfl, hst⟩
            have HST := Lib.hid hst
            clear hst
            go_wp2_with fail
            exact ⟨close_rel (by go_num) hgo1 hgo2 HAT.out rfl HSUCC.out HST.out HBx.out hg, by simp [intOf]; omega⟩
          · have hct : Calls Try.prog 21 #[.pointer (some ⟨g, 0, none⟩), .int .i64 2] ((wr.drewN nq).alloc (.cells #[.int .i64 1, .int .i64 2, .int .i64 4, .int .i64 8] 3)) fun en w' => en = .returned (.int .u64 ((k : Int) % 65536)) ∧ RdStep w1.heap.size g v BB (at_ + (PutB p).length, 0) ((wr.drewN nq).alloc (.cells #[.int .i64 1, .int .i64 2, .int .i64 4, .int .i64 8] 3)) w' := by
              have h := rd_fixed_yes _ g v BB at_ (wideOf p.n) _ HRx.out HX.out HBL.out HWD.out HFIT.out
              rw [HLE.out, ← HLB.out] at h
              rw [HLB.out, hw] at h
              rw [HLB.out, hw]
              simpa using h
            rw [hw]
            have HCT := Lib.hid hct
            clear hct hw ck cn cv cs
            go_wp2_with fail
            refine HCT.out.mono ?_
            rintro e wc ⟨rfl, hst⟩
            have HST := Lib.hid hst
            clear hst
            go_wp2_with fail
            exact ⟨close_rel (by go_num) hgo1 hgo2 HAT.out rfl HSUCC.out HST.out HBx.out hg, by simp [intOf]; omega⟩
          · have hct : Calls Try.prog 21 #[.pointer (some ⟨g, 0, none⟩), .int .i64 4] ((wr.drewN nq).alloc (.cells #[.int .i64 1, .int .i64 2, .int .i64 4, .int .i64 8] 3)) fun en w' => en = .returned (.int .u64 ((k : Int) % 4294967296)) ∧ RdStep w1.heap.size g v BB (at_ + (PutB p).length, 0) ((wr.drewN nq).alloc (.cells #[.int .i64 1, .int .i64 2, .int .i64 4, .int .i64 8] 3)) w' := by
              have h := rd_fixed_yes _ g v BB at_ (wideOf p.n) _ HRx.out HX.out HBL.out HWD.out HFIT.out
              rw [HLE.out, ← HLB.out] at h
              rw [HLB.out, hw] at h
              rw [HLB.out, hw]
              simpa using h
            rw [hw]
            have HCT := Lib.hid hct
            clear hct hw ck cn cv cs
            go_wp2_with fail
            refine HCT.out.mono ?_
            rintro e wc ⟨rfl, hst⟩
            have HST := Lib.hid hst
            clear hst
            go_wp2_with fail
            exact ⟨close_rel (by go_num) hgo1 hgo2 HAT.out rfl HSUCC.out HST.out HBx.out hg, by simp [intOf]; omega⟩
          · have hct : Calls Try.prog 21 #[.pointer (some ⟨g, 0, none⟩), .int .i64 8] ((wr.drewN nq).alloc (.cells #[.int .i64 1, .int .i64 2, .int .i64 4, .int .i64 8] 3)) fun en w' => en = .returned (.int .u64 (k : Int)) ∧ RdStep w1.heap.size g v BB (at_ + (PutB p).length, 0) ((wr.drewN nq).alloc (.cells #[.int .i64 1, .int .i64 2, .int .i64 4, .int .i64 8] 3)) w' := by
              have h := rd_fixed_yes _ g v BB at_ (wideOf p.n) _ HRx.out HX.out HBL.out HWD.out HFIT.out
              rw [HLE.out, ← HLB.out] at h
              rw [HLB.out, hw] at h
              rw [HLB.out, hw]
              have hk8 : (k : Int) % 18446744073709551616 = (k : Int) := by omega
              simpa [hk8] using h
            rw [hw]
            have HCT := Lib.hid hct
            clear hct hw ck cn cv cs
            go_wp2_with fail
            refine HCT.out.mono ?_
            rintro e wc ⟨rfl, hst⟩
            have HST := Lib.hid hst
            clear hst
            go_wp2_with fail
            exact ⟨close_rel (by go_num) hgo1 hgo2 HAT.out rfl HSUCC.out HST.out HBx.out hg, by simp [intOf]; omega⟩
        · have hb0 : (p.kind == 0) = false := by rw [beq_eq_false_iff_ne]; exact h0
          have H0 := Lib.hid h0
          clear h0
          by_cases h1 : p.kind = 1
          · have hb1 : (p.kind == 1) = true := by rw [beq_iff_eq]; exact h1
            have H1 := Lib.hid h1
            clear h1
            have hpb : PutB p = shortL p.v.toNat := by unfold PutB; rw [if_neg H0.out, if_pos H1.out]
            have HPBE := Lib.hid hpb
            clear hpb
            have hrs : rs (BB.drop at_) = (p.v.toNat, (PutB p).length, 0) := by rw [HDROP.out, HPBE.out]; exact rs_shortL _ _ (by omega)
            have HRS := Lib.hid hrs
            clear hrs
            by_cases hneg : p.v < 0
            · have hct : ∀ W, Rd W w1.heap.size g v BB at_ 0 → Calls Try.prog 22 #[.pointer (some ⟨g, 0, none⟩)] W fun en w' => en = .returned (.int .i64 0) ∧ RdStep w1.heap.size g v BB (at_ + (PutB p).length, 0) W w' := fun W hR => by
                have h := rd_short_yes _ g v BB at_ _ _ W hR HX.out HBL.out HRS.out HFITS.out
                rwa [show ((p.v.toNat : Nat) : Int) = 0 by omega] at h
              go_wp2_with fail
              go_region_held3 (fun w' => w'.cell? ⟨(x.add (i * 4)).block, (x.add (i * 4)).off + 2, none⟩ = some (.int .i64 p.v))
                (first | go_keep | (exact HKEEP.out _ hbk))
                ((go_simp; go_at_call 22
                  go_must (refine (hct _ (HRr.out.drewN _)).mono ?_)
                  rintro e wc ⟨rfl, hst⟩
                  have hbk := (below_drews HBr.out _).trans (hst.2.below (show w.heap.size ≤ wr.heap.size from zr) (fun i hi => by subst hi; exact hg))))
              all_goals
                have HST := Lib.hid hst
                clear hst hbk hct
                go_wp2_with fail
                exact ⟨close_rel (by go_num) hgo1 hgo2 HAT.out rfl HSUCC.out HST.out (below_drews HBr.out _) hg, by simp [intOf]; omega⟩
            · have hct : ∀ W, Rd W w1.heap.size g v BB at_ 0 → Calls Try.prog 22 #[.pointer (some ⟨g, 0, none⟩)] W fun en w' => en = .returned (.int .i64 p.v) ∧ RdStep w1.heap.size g v BB (at_ + (PutB p).length, 0) W w' := fun W hR => by
                have h := rd_short_yes _ g v BB at_ _ _ W hR HX.out HBL.out HRS.out HFITS.out
                rwa [show ((p.v.toNat : Nat) : Int) = p.v by omega] at h
              go_wp2_with fail
              go_region_held3 (fun w' => w'.cell? ⟨(x.add (i * 4)).block, (x.add (i * 4)).off + 2, none⟩ = some (.int .i64 p.v))
                (first | go_keep | (exact HKEEP.out _ hbk))
                ((go_simp; go_at_call 22
                  go_must (refine (hct _ (HRr.out.drewN _)).mono ?_)
                  rintro e wc ⟨rfl, hst⟩
                  have hbk := (below_drews HBr.out _).trans (hst.2.below (show w.heap.size ≤ wr.heap.size from zr) (fun i hi => by subst hi; exact hg))))
              all_goals
                have HST := Lib.hid hst
                clear hst hbk hct
                go_wp2_with fail
                exact ⟨close_rel (by go_num) hgo1 hgo2 HAT.out rfl HSUCC.out HST.out (below_drews HBr.out _) hg, by simp [intOf]; omega⟩
          · have hb1 : (p.kind == 1) = false := by rw [beq_eq_false_iff_ne]; exact h1
            have H1 := Lib.hid h1
            clear h1
            by_cases h2 : p.kind = 2
            · have hb2 : (p.kind == 2) = true := by rw [beq_iff_eq]; exact h2
              have H2 := Lib.hid h2
              clear h2
              have hpb : PutB p = shortL (zig (clampZ p.v)) := by unfold PutB; rw [if_neg H0.out, if_neg H1.out, if_pos H2.out]
              have hrs : rs (BB.drop at_) = (zig (clampZ p.v), (PutB p).length, 0) := by rw [HDROP.out, hpb]; exact rs_shortL _ _ (zig_le _)
              have HRS := Lib.hid hrs
              clear hrs hpb
              by_cases hlo : p.v < -2305843009213693952
              · have hct : ∀ W, Rd W w1.heap.size g v BB at_ 0 → Calls Try.prog 23 #[.pointer (some ⟨g, 0, none⟩)] W fun en w' => en = .returned (.int .i64 (-2305843009213693952)) ∧ RdStep w1.heap.size g v BB (at_ + (PutB p).length, 0) W w' := fun W hR => by
                  have h := rd_signed_yes _ g v BB at_ _ _ W hR HX.out HBL.out HRS.out HFITS.out (zig_small _)
                  rwa [unzig_zig, show clampZ p.v = -2305843009213693952 by unfold clampZ; omega] at h
                go_wp2_with fail
                go_region_held3 (fun w' => w'.cell? ⟨(x.add (i * 4)).block, (x.add (i * 4)).off + 2, none⟩ = some (.int .i64 p.v))
                  (first | go_keep | (exact HKEEP.out _ hbk))
                  ((go_simp; go_at_call 23
                    go_must (refine (hct _ (HRr.out.drewN _)).mono ?_)
                    rintro e wc ⟨rfl, hst⟩
                    have hbk := (below_drews HBr.out _).trans (hst.2.below (show w.heap.size ≤ wr.heap.size from zr) (fun i hi => by subst hi; exact hg))))
                all_goals
                  have HST := Lib.hid hst
                  clear hst hbk hct
                  go_wp2_with fail
                  exact ⟨close_rel (by go_num) hgo1 hgo2 HAT.out rfl HSUCC.out HST.out (below_drews HBr.out _) hg, by simp [intOf]; omega⟩
              · by_cases hhi : 2305843009213693951 < p.v
                · have hct : ∀ W, Rd W w1.heap.size g v BB at_ 0 → Calls Try.prog 23 #[.pointer (some ⟨g, 0, none⟩)] W fun en w' => en = .returned (.int .i64 2305843009213693951) ∧ RdStep w1.heap.size g v BB (at_ + (PutB p).length, 0) W w' := fun W hR => by
                    have h := rd_signed_yes _ g v BB at_ _ _ W hR HX.out HBL.out HRS.out HFITS.out (zig_small _)
                    rwa [unzig_zig, show clampZ p.v = 2305843009213693951 by unfold clampZ; omega] at h
                  go_wp2_with fail
                  go_region_held3 (fun w' => w'.cell? ⟨(x.add (i * 4)).block, (x.add (i * 4)).off + 2, none⟩ = some (.int .i64 p.v))
                    (first | go_keep | (exact HKEEP.out _ hbk))
                    ((go_simp; go_at_call 23
                      go_must (refine (hct _ (HRr.out.drewN _)).mono ?_)
                      rintro e wc ⟨rfl, hst⟩
                      have hbk := (below_drews HBr.out _).trans (hst.2.below (show w.heap.size ≤ wr.heap.size from zr) (fun i hi => by subst hi; exact hg))))
                  all_goals
                    have HST := Lib.hid hst
                    clear hst hbk hct
                    go_wp2_with fail
                    exact ⟨close_rel (by go_num) hgo1 hgo2 HAT.out rfl HSUCC.out HST.out (below_drews HBr.out _) hg, by simp [intOf]; omega⟩
                · have hct : ∀ W, Rd W w1.heap.size g v BB at_ 0 → Calls Try.prog 23 #[.pointer (some ⟨g, 0, none⟩)] W fun en w' => en = .returned (.int .i64 p.v) ∧ RdStep w1.heap.size g v BB (at_ + (PutB p).length, 0) W w' := fun W hR => by
                    have h := rd_signed_yes _ g v BB at_ _ _ W hR HX.out HBL.out HRS.out HFITS.out (zig_small _)
                    rwa [unzig_zig, show clampZ p.v = p.v by unfold clampZ; omega] at h
                  go_wp2_with fail
                  go_region_held3 (fun w' => w'.cell? ⟨(x.add (i * 4)).block, (x.add (i * 4)).off + 2, none⟩ = some (.int .i64 p.v))
                    (first | go_keep | (exact HKEEP.out _ hbk))
                    ((go_simp; go_at_call 23
                      go_must (refine (hct _ (HRr.out.drewN _)).mono ?_)
                      rintro e wc ⟨rfl, hst⟩
                      have hbk := (below_drews HBr.out _).trans (hst.2.below (show w.heap.size ≤ wr.heap.size from zr) (fun i hi => by subst hi; exact hg))))
                  all_goals
                    have HST := Lib.hid hst
                    clear hst hbk hct
                    go_wp2_with fail
                    exact ⟨close_rel (by go_num) hgo1 hgo2 HAT.out rfl HSUCC.out HST.out (below_drews HBr.out _) hg, by simp [intOf]; omega⟩
            · have hb2 : (p.kind == 2) = false := by rw [beq_eq_false_iff_ne]; exact h2
              have H2 := Lib.hid h2
              clear h2
              by_cases h3 : p.kind = 3
              · have hb3 : (p.kind == 3) = true := by rw [beq_iff_eq]; exact h3
                have H3 := Lib.hid h3
                have hpb : PutB p = shortL s.size ++ SB s := by unfold PutB; rw [if_neg H0.out, if_neg H1.out, if_neg H2.out, if_pos H3.out, HSC.out]
                have HPBE := Lib.hid hpb
                have hlb : (PutB p).length = (shortL s.size).length + s.size := by rw [hpb, List.length_append, SB_length]
                have HLB := Lib.hid hlb
                have hrs : rs (BB.drop at_) = (s.size, (shortL s.size).length, 0) := by rw [HDROP.out, hpb, List.append_assoc]; exact rs_shortL _ _ (by omega)
                have HRS := Lib.hid hrs
                have htx : TX (((BB.drop at_).drop (shortL s.size).length).take s.size) = s := by
                  rw [HDROP.out, hpb, List.append_assoc, List.drop_left, show s.size = (SB s).length from (SB_length s).symm, List.take_left, TX_SB]
                have HTX := Lib.hid htx
                clear h3 hpb hlb hrs htx
                go_wp2_with fail
                have hct := rd_text_yes _ g v BB at_ s.size (shortL s.size).length _ HRq.out HX.out HBL.out HRS.out (by have := HLB.out; have := HFITS.out; omega)
                rw [HTX.out] at hct
                refine hct.mono ?_
                clear hct
                rintro e wc ⟨rfl, hst⟩
                have HST := Lib.hid hst
                clear hst
                go_wp2_with fail
                exact ⟨close_rel (by go_num) hgo1 hgo2 HAT.out HLB.out.symm HSUCC.out HST.out HBq.out hg, by simp [intOf]; omega⟩
              · have hb3 : (p.kind == 3) = false := by rw [beq_eq_false_iff_ne]; exact h3
                have hpb : PutB p = SB s := by unfold PutB; rw [if_neg H0.out, if_neg H1.out, if_neg H2.out, if_neg h3, HSC.out]
                have hlb : (PutB p).length = s.size := by rw [hpb, SB_length]
                have HLB := Lib.hid hlb
                have htk : (BB.drop at_).take s.size = SB s := by rw [HDROP.out, hpb, show s.size = (SB s).length from (SB_length s).symm, List.take_left]
                have HTK := Lib.hid htk
                clear h3 hpb hlb htk
                go_wp2_with fail
                have hct := rd_raw_yes _ g v BB at_ s.size (s.size : Int) _ HRq.out HBL.out (by simp) (by have := HLB.out; have := HFITS.out; omega)
                rw [HTK.out] at hct
                refine hct.mono ?_
                clear hct
                rintro e wc ⟨v3, rfl, hown, hst⟩
                obtain ⟨A3, c3, rfl, hr3⟩ := reads_own hown
                have hstr := fun cap => run_text_of (P := Try.prog) wc 23 9 5 _ A3 s.size cap _ hr3 (SB_lt s) Try.underlying23 Try.underlying5 Try.underlying9
                rw [TX_SB] at hstr
                have HST := Lib.hid hst
                clear hst hown hr3
                go_wp2_with fail
                exact ⟨close_rel (by go_num) hgo1 hgo2 HAT.out HLB.out.symm HSUCC.out HST.out HBq.out hg, by simp [intOf]; omega⟩
    · have him : i = min len0 20 := by omega
      have hat : at_ = BB.length := by rw [HAT.out, HBB.out, him]
      have HATL := Lib.hid hat
      clear him hat
      by_cases hi : i < len0
      all_goals
        go_wp2_with fail
        refine (rd_end_ok _ g v BB at_ _ HRr.out HBL.out HATL.out).mono ?_
        rintro e wc ⟨rfl, k1, rfl⟩
        go_wp2_with fail
        refine (rd_left _ g v BB at_ 0 _ (HRr.out.drewN k1) HBL.out).mono ?_
        rintro e wc ⟨rfl, k2, rfl⟩
        have hz0 : ((BB.length : Int) - (at_ : Int)) = 0 := by have := HATL.out; omega
        go_wp2_with fail
        refine (lives_any _).mono ?_
        rintro e wc ⟨rfl, hb9⟩
        go_wp2_with fail
        go_ret
        exact ⟨rfl, (below_drews HBr.out (k1 + k2)).trans (hb9.mono (show w.heap.size ≤ wr.heap.size from zr))⟩

set_option maxRecDepth 100000 in
theorem lifted (os : Os) (started : os.Started) (H : Type) (enc : TypeId × Value → H) :
    ReturnsInHanded {} Try.checked os 5 .any (Rows.wireRoundSpec.pre6 enc Try.prog Try.f5 Rows.wireRoundRow.domain false) (Rows.wireRoundSpec.post enc Try.prog Try.f5 false true false false) := by
  refine returnsInHanded_of_change (C := Try.checked) own started (by kernel_rfl) Try.func5
    (ChangeSpec.witness6 (enc := enc) (C := Try.checked) false ⟨#[], #[.slice none 0 0], []⟩ 8 (by kernel_rfl) (by kernel_rfl) (by kernel_rfl) (by kernel_rfl)) ?_
  intro W base args ds gs before hval0 hW hcnd _
  have hval : ∀ (j : Nat) t v, Try.f5.params[j]? = some t → args[j]? = some v → Value.okWide Try.prog W .any base t v := hval0
  have hW' := hW
  obtain ⟨p, q, hA0, hV, rfl, hfz, hnd⟩ := hW
  have hA : DataW.TrodAll enc Try.prog W 0 (fun _ => true) true Try.f5.params.toList args.toList ds p := hA0
  rw [Try.params5] at hA hval
  obtain ⟨v0, vs0, d0, ds0, p0, q0, hargs, rfl, rfl, h0, r0⟩ := trodAll_cons hA
  obtain ⟨rfl, rfl, rfl⟩ := trodAll_nil r0
  obtain rfl : args = #[v0] := by cases args; simp_all
  obtain ⟨rfl, rfl⟩ := trodVars_none hV
  obtain ⟨a0, len0, cap0, rfl⟩ := okWide_slice Try.underlying22 (hval 0 22 v0 rfl rfl)
  have k0 := h0
  have lt0 : ∀ x ∈ p0, x.block < W.heap.size := by obtain ⟨m, hm⟩ := k0; exact DataW.trod_lt m _ _ _ hm
  obtain ⟨z0, w0⟩ := puts_open h0
  clear hA0 hval0
  refine (walk a0 len0 cap0 z0 W w0).mono fun e W' ⟨he, bel⟩ => ?_
  subst he
  exact ⟨_, rfl, _, _, _, [], _, [], hW', trodAll_mk1 (shut_bool Try.underlying4 _), (trodAll_cons_mk (Below.trod laidOut (by kernel_rfl) (of_decide_eq_true (by kernel_rfl)) k0 bel lt0) trodAll_mk0), rfl, bel.frame _, fun h => by cases h⟩

theorem over : Rows.wireRoundRow.holds Try.pinned (OpenSpec.ofChange Rows.wireRoundSpec) :=
  OpenClaim.holds_of_wide 5 Try.f5 rfl rfl rfl rfl rfl rfl rfl ⟨rfl, rfl, rfl, rfl, rfl⟩ rfl rfl rfl rfl rfl (by kernel_rfl) Try.func5 (by kernel_rfl)
    (of_decide_eq_true (by kernel_rfl)) (by unfold Func.isWrapper; first | (rw [if_pos (by decide +kernel)]; kernel_rfl) | (rw [if_neg (by decide +kernel)]; exact ⟨rfl, rfl⟩))
    (fun os started H enc _ => lifted os started H enc)

theorem proved : Rows.WireRoundSaid := over
#print axioms proved
end Go.Proofs.Ytmmajdabifeceaa.wireRound
