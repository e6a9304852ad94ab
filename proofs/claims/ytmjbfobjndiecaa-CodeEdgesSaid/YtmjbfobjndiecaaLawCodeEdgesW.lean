
/-
  The walk of CodeEdges.
-/
import Derived.Test.YtmjbfobjndiecaaRows
import Derived.WalkKit
import Derived.ProofKit
import Derived.OpenShut
import Derived.ShutString
import Derived.ChangeOld
import Derived.Below
import Derived.Test.YtmjbfobjndiecaaCsD
import Derived.Test.YtmjbfobjndiecaaCsW
import Derived.Test.YtmjbfobjndiecaaCsN
import Derived.Test.YtmjbfobjndiecaaCsP
import Derived.Test.YtmjbfobjndiecaaPrOpen
import Derived.Test.YtmjbfobjndiecaaCLives
import Derived.Test.YtmjbfobjndiecaaSame
import Derived.Test.YtmjbfobjndiecaaCrE
import Derived.Test.YtmjbfobjndiecaaCrQ
import Derived.Test.YtmjbfobjndiecaaRegTake
import Derived.Test.YtmjbfobjndiecaaWriteN
import Derived.Test.YtmjbfobjndiecaaRfMay
namespace Go.Proofs.Ytmjbfobjndiecaa.codeEdges
open Go.ChangeShapes Go.WideShapes Go.ChangeAt Go.RowKit Go.Proofs.Ytmjbfobjndiecaa Go.Proofs.Ytmjbfobjndiecaa.Plain
open Go.ChangeMaps (open_string shut_string)
set_option linter.unusedVariables false


theorem wf_i64 {n : Int} (h : (Lit.int .i64 n).wf = true) : -9223372036854775808 ≤ n ∧ n ≤ 9223372036854775807 := by
  have := bounds_i64 h
  omega
theorem bool_cases (b : Bool) : b = true ∨ b = false := by cases b <;> simp
theorem may_few {p : PV} (h : mayB p = true) : Few3 p := by
  simp only [mayB, Bool.and_eq_true] at h
  obtain ⟨⟨⟨hh, _⟩, hx⟩, hf⟩ := h
  simp only [headB, Bool.and_eq_true, decide_eq_true_eq] at hh
  obtain ⟨⟨⟨⟨⟨⟨⟨⟨⟨a0, a1⟩, a2⟩, a3⟩, a4⟩, a5⟩, a6⟩, a7⟩, a8⟩, a9⟩ := hh
  refine ⟨a1, fun f hm => ?_, a4, a5, a6, a7, fun l hm => ?_⟩
  · have h1 := List.all_eq_true.1 hf f hm
    simp only [funcB, Bool.and_eq_true, decide_eq_true_eq] at h1
    exact h1.1.2
  · have h1 := List.all_eq_true.1 hx l hm
    simp only [choiceB, Bool.and_eq_true, decide_eq_true_eq] at h1
    exact h1.2
set_option maxRecDepth 100000 in
set_option maxHeartbeats 40000000 in
theorem walk (hd0 : PH) (q0 : PV) (a1 : Int) (a2 : Int) (a3 : Int) (w : World) (w0 : RP w w.heap.size hd0 q0 ∧ Fit q0 ∧ Lens q0) (w1 : (Lit.int .i64 a1).wf = true) (w2 : (Lit.int .i64 a2).wf = true) (w3 : (Lit.int .i64 a3).wf = true) :
    Calls Try.prog 6 #[.agg #[.slice hd0.fA q0.funcs.length hd0.fc, .int .i64 q0.mutexes, .slice hd0.cA q0.conds.length hd0.cc, .slice hd0.sA q0.semas.length hd0.sc, .slice hd0.hA q0.chans.length hd0.hc, .slice hd0.xA q0.choices.length hd0.xc, .int .i64 q0.threads], .int .i64 a1, .int .i64 a2, .int .i64 a3] w fun e w' => e = .returned (.bool true) ∧ Below w.heap.size w w' := by
  obtain ⟨hrp, hfit, hlen⟩ := w0
  obtain ⟨W0, hW0⟩ : ∃ X, X = w.alloc (.cells #[.slice hd0.fA q0.funcs.length hd0.fc, .int .i64 q0.mutexes, .slice hd0.cA q0.conds.length hd0.cc, .slice hd0.sA q0.semas.length hd0.sc, .slice hd0.hA q0.chans.length hd0.hc, .slice hd0.xA q0.choices.length hd0.xc, .int .i64 q0.threads] 26) := ⟨_, rfl⟩
  have h0 : Below w.heap.size w W0 := by rw [hW0]; exact (Below.refl _ _).alloc (Nat.le_refl _) _
  have hk0 : Blk W0 w.heap.size 26 #[.slice hd0.fA q0.funcs.length hd0.fc, .int .i64 q0.mutexes, .slice hd0.cA q0.conds.length hd0.cc, .slice hd0.sA q0.semas.length hd0.sc, .slice hd0.hA q0.chans.length hd0.hc, .slice hd0.xA q0.choices.length hd0.xc, .int .i64 q0.threads] := by rw [hW0]; exact Blk.new _ _ _
  have hr0 : RP W0 w.heap.size hd0 q0 := hrp.below h0
  have z0 := h0.size
  obtain ⟨m0, m1, m2, m3, m4, m5, m6⟩ : W0.cell? ⟨w.heap.size, 0, none⟩ = some (.slice hd0.fA q0.funcs.length hd0.fc) ∧ W0.cell? ⟨w.heap.size, 1, none⟩ = some (.int .i64 q0.mutexes) ∧ W0.cell? ⟨w.heap.size, 2, none⟩ = some (.slice hd0.cA q0.conds.length hd0.cc) ∧ W0.cell? ⟨w.heap.size, 3, none⟩ = some (.slice hd0.sA q0.semas.length hd0.sc) ∧ W0.cell? ⟨w.heap.size, 4, none⟩ = some (.slice hd0.hA q0.chans.length hd0.hc) ∧ W0.cell? ⟨w.heap.size, 5, none⟩ = some (.slice hd0.xA q0.choices.length hd0.xc) ∧ W0.cell? ⟨w.heap.size, 6, none⟩ = some (.int .i64 q0.threads) := ⟨((hk0).cell 0).trans rfl, ((hk0).cell 1).trans rfl, ((hk0).cell 2).trans rfl, ((hk0).cell 3).trans rfl, ((hk0).cell 4).trans rfl, ((hk0).cell 5).trans rfl, ((hk0).cell 6).trans rfl⟩
  have hg1 := good_funcs_len q0
  have HFIT := Lib.hid hfit
  have A1 := wf_i64 w1
  have A2 := wf_i64 w2
  have A3 := wf_i64 w3
  clear w1 w2 w3
  have HW0 := Lib.hid hW0.symm; have HR0 := Lib.hid hr0; have HF0 := Lib.hid hfit; have H0 := Lib.hid h0
  clear hrp hlen hfit hr0 hW0 hk0 h0
  go_enter Try.func6, Try.ntmps6
  go_upto_region 1 with fail
  rw [HW0.out]
  go_wp2_with fail
  refine (good_any hd0 q0 W0 w.heap.size HR0.out (by omega) HF0.out).mono ?_
  rintro e w1 hm
  obtain ⟨vf, vc, vs, vh, vx, fs, ls, rfl, hop, hfs, hls, hbg⟩ := hm
  clear m0 m1 m2 m3 m4 m5 m6 HF0 HR0
  have hgl := good_lens q0
  have hgs := may_few (good_may q0 HFIT.out)
  generalize good q0 = g at *
  have hfn : fs.length = g.funcs.length := by rw [← hfs, List.length_map]
  have hln : ls.length = g.choices.length := by rw [← hls, List.length_map]
  obtain ⟨U1, hU1⟩ : ∃ X, X = w1.alloc (.cells #[vf, .int .i64 g.mutexes, vc, vs, vh, vx, .int .i64 g.threads] 26) := ⟨_, rfl⟩
  have hb1 : Below w1.heap.size w1 U1 := by rw [hU1]; exact (Below.refl _ _).alloc (Nat.le_refl _) _
  have hk1 : Blk U1 w1.heap.size 26 #[vf, .int .i64 g.mutexes, vc, vs, vh, vx, .int .i64 g.threads] := by rw [hU1]; exact Blk.new _ _ _
  have hz1 := hbg.size
  have hEO : EO W0 U1 w1.heap.size W0.heap.size g.mutexes g.threads vf vc vs vh vx g.conds g.semas g.chans fs ls := ⟨hk1, hop.below hb1, hbg.trans (hb1.mono hz1), hz1⟩
  have HU1 := Lib.hid hU1.symm; have E := Lib.hid hEO; have HZB := Lib.hid hz1; have HFS := Lib.hid hfs; have HLS := Lib.hid hls; have HGL := Lib.hid hgl; have HGS := Lib.hid hgs; have HFN := Lib.hid hfn; have HLN := Lib.hid hln
  obtain ⟨fA, fc, hvf, _, _⟩ := own_slice hEO.op.frow
  rw [hfn] at hvf
  obtain ⟨xA, xc, hvx, _, _⟩ := own_slice hEO.op.lrow
  rw [hln] at hvx
  obtain ⟨cA, cc, hvc, _, _⟩ := own_slice (hEO.op.ints.1 (irow vc g.conds) (by simp))
  obtain ⟨sA, sc, hvs, _, _⟩ := own_slice (hEO.op.ints.1 (irow vs g.semas) (by simp))
  obtain ⟨hA, hc, hvh, _, _⟩ := own_slice (hEO.op.ints.1 (irow vh g.chans) (by simp))
  simp only [irow] at hvc hvs hvh
  subst hvf hvx hvc hvs hvh
  clear hU1 hb1 hk1 hop hbg hEO hfs hls hgl hgs hfn hln
  go_upto_region 2 with fail
  rw [HU1.out]
  have c0 := (E.out.ob.cell 0).trans rfl
  generalize w1.heap.size = b at *
  go_wp2_with fail
  refine (around_any a2 (g.funcs.length : Int) U1 A2.1 A2.2 (by omega) (by omega)).mono ?_
  rintro e w2 ⟨rfl, rfl⟩
  have hfr := around_bd a2 (g.funcs.length : Int) (by omega)
  generalize around a2 (g.funcs.length : Int) = f0 at *
  obtain ⟨f, rfl⟩ : ∃ f : Nat, f0 = (f : Int) := ⟨f0.toNat, by omega⟩
  have hfl : f < g.funcs.length := by omega
  clear hfr
  go_wp2_with fail
  refine (around_any a1 10 U1 A1.1 A1.2 (by omega) (by omega)).mono ?_
  rintro e w2 ⟨rfl, rfl⟩
  have hk := around_bd a1 10 (by omega)
  generalize around a1 10 = k at *
  have HSH : Hid (∀ (F : List FV) mu th C S H X, F.length ≤ 1000 → (∀ f ∈ F, f.code.length ≤ 1000) → C.length ≤ 1000 → S.length ≤ 1000 → H.length ≤ 1000 → X.length ≤ 1000 → (∀ l ∈ X, l.length ≤ 1000) → Short3 ⟨F, mu, C, S, H, X, th⟩) := fun F mu th C S H X h1 h2 h3 h4 h5 h6 h7 => ⟨h1, h2, h3, h4, h5, h6, h7⟩
  have HF1 : Hid ((fs.map TF.f).length ≤ 16 ∧ ∀ f ∈ fs.map TF.f, f.code.length ≤ 64) := by show _ ∧ _; rw [HFS.out]; exact ⟨HGS.out.funcs, HGS.out.code⟩
  have HX1 : Hid ((ls.map TL.l).length ≤ 8 ∧ ∀ l ∈ ls.map TL.l, l.length ≤ 8) := by show _ ∧ _; rw [HLS.out]; exact ⟨HGS.out.choices, HGS.out.each⟩
  have hcl := HGS.out.conds
  have hsl := HGS.out.semas
  have hhl := HGS.out.chans
  have hxl := HGS.out.choices
  have hz := E.out.ob.lt
  have zw := E.out.bel.size
  have zo := E.out.lo
  obtain ⟨i0, hi0, hz0, hz1, hz2⟩ := info_parts info_int
  obtain ⟨j0, hj0, hy0, hy1, hy2⟩ := info_parts info_ints
  have y0 := E.out.ob.frozen 0
  have y1 := E.out.ob.frozen 1
  have y2 := E.out.ob.frozen 2
  have y3 := E.out.ob.frozen 3
  have y4 := E.out.ob.frozen 4
  have y5 := E.out.ob.frozen 5
  have y6 := E.out.ob.frozen 6
  have c1 := (E.out.ob.cell 1).trans rfl
  have c2 := (E.out.ob.cell 2).trans rfl
  have c3 := (E.out.ob.cell 3).trans rfl
  have c4 := (E.out.ob.cell 4).trans rfl
  have c5 := (E.out.ob.cell 5).trans rfl
  have c6 := (E.out.ob.cell 6).trans rfl
  go_upto_block 0 with fail
  go_cut [] (fun wx => EdgeC W0 b W0.heap.size wx)
  case first =>
    have hks : k = 0 ∨ k = 1 ∨ k = 2 ∨ k = 3 ∨ k = 4 ∨ k = 5 ∨ k = 6 ∨ k = 7 ∨ k = 8 ∨ k = 9 := by omega
    clear hk
    rcases hks with rfl | rfl | rfl | rfl | rfl | rfl | rfl | rfl | rfl | rfl
    · go_wp2_with fail
      go_meet
      exact edge_of (E.out.ob.set_ 1 (.int .i64 a3)) ((E.out.op.wq a3 g.threads).fr1 E.out.ob (fr_set 1 _)) rfl rfl (HSH.out _ _ _ _ _ _ _ (by have := HF1.out.1; omega) (fun f hf => by have := HF1.out.2 f hf; omega) (by omega) (by omega) (by omega) (by have := HX1.out.1; omega) (fun l hl => by have := HX1.out.2 l hl; omega)) (E.out.bel.setCell (p := ⟨b, 1, none⟩) zo _)
    · go_wp2_with fail
      go_meet
      exact edge_of (E.out.ob.set_ 6 (.int .i64 a3)) ((E.out.op.wq g.mutexes a3).fr1 E.out.ob (fr_set 6 _)) rfl rfl (HSH.out _ _ _ _ _ _ _ (by have := HF1.out.1; omega) (fun f hf => by have := HF1.out.2 f hf; omega) (by omega) (by omega) (by omega) (by have := HX1.out.1; omega) (fun l hl => by have := HX1.out.2 l hl; omega)) (E.out.bel.setCell (p := ⟨b, 6, none⟩) zo _)
    · have HO : Hid (U1.ownsRow W0.heap.size 3 1 (.slice cA g.conds.length cc) g.conds.length (IS g.conds)) := E.out.op.ints.1 (irow (.slice cA g.conds.length cc) g.conds) (by simp)
      go_wp2_with (at_builtin; go_must (refine wpList_append_any _ rfl (.tmp 44) (.tmp 46) _ rfl W0.heap.size 3 i0 _ 1 8 Try.underlying23 hi0 hz0 hz1 hz2 rfl (by decide) (.slice cA g.conds.length cc) g.conds.length (IS g.conds) rfl (HO.out.alloc _) (U1.heap.size + 1) (some ⟨U1.heap.size, 0, none⟩) 1 1 [.int .i64 a3] rfl (reads_new U1 (.int .i64 a3) _) (by intro u hu; simp at hu; subst hu; rfl) ?c1 ?c2 ?c3 ?k))
      case c1 => unfold maxLen; omega
      case c2 => omega
      case c3 => simp; omega
      case k =>
      intro v3 w3 hown3 hg3 hat3
      obtain ⟨A9, c9, rfl, _, _⟩ := own_slice hown3
      have hob3 := (E.out.ob.alloc (.cells #[.int .i64 a3] 3)).grown hg3 (fun e => own_blk_ne HO.out E.out.ob (by decide) e.symm)
      have hf3 : Fr (fun i => (Value.slice cA g.conds.length cc).ownBlock = some i) U1 w3 := ((Fr.refl _ U1).alloc _).trans (Fr.of_grown hg3) (fun i _ h => h)
      have hbel3 : Below W0.heap.size W0 w3 := (E.out.bel.alloc zw _).grown hg3 (by simp; omega) (fun r hr => by have := (HO.out.lt r hr).1; omega)
      have e0 := (hob3.cell 2).trans rfl
      have e1 := hob3.frozen 2
      have e2 := hob3.lt
      have HG := Lib.hid (edge_of (hob3.set_ 2 (.slice A9 (g.conds.length + 1) c9)) ((E.out.op.wq_c g.mutexes g.threads a3 hf3 hown3).fr1 hob3 (fr_set 2 (.slice A9 (g.conds.length + 1) c9))) rfl rfl (HSH.out _ _ _ _ _ _ _ (by have := HF1.out.1; omega) (fun f hf => by have := HF1.out.2 f hf; omega) (by simp; omega) (by omega) (by omega) (by have := HX1.out.1; omega) (fun l hl => by have := HX1.out.2 l hl; omega)) (hbel3.setCell (p := ⟨b, 2, none⟩) zo _))
      clear hob3 hf3 hbel3 hown3 hg3 hat3
      go_wp2_with fail
      go_meet
      exact HG.out
    · have HO : Hid (U1.ownsRow W0.heap.size 3 1 (.slice sA g.semas.length sc) g.semas.length (IS g.semas)) := E.out.op.ints.1 (irow (.slice sA g.semas.length sc) g.semas) (by simp)
      go_wp2_with (at_builtin; go_must (refine wpList_append_any _ rfl (.tmp 52) (.tmp 54) _ rfl W0.heap.size 3 i0 _ 1 8 Try.underlying23 hi0 hz0 hz1 hz2 rfl (by decide) (.slice sA g.semas.length sc) g.semas.length (IS g.semas) rfl (HO.out.alloc _) (U1.heap.size + 1) (some ⟨U1.heap.size, 0, none⟩) 1 1 [.int .i64 a3] rfl (reads_new U1 (.int .i64 a3) _) (by intro u hu; simp at hu; subst hu; rfl) ?c1 ?c2 ?c3 ?k))
      case c1 => unfold maxLen; omega
      case c2 => omega
      case c3 => simp; omega
      case k =>
      intro v3 w3 hown3 hg3 hat3
      obtain ⟨A9, c9, rfl, _, _⟩ := own_slice hown3
      have hob3 := (E.out.ob.alloc (.cells #[.int .i64 a3] 3)).grown hg3 (fun e => own_blk_ne HO.out E.out.ob (by decide) e.symm)
      have hf3 : Fr (fun i => (Value.slice sA g.semas.length sc).ownBlock = some i) U1 w3 := ((Fr.refl _ U1).alloc _).trans (Fr.of_grown hg3) (fun i _ h => h)
      have hbel3 : Below W0.heap.size W0 w3 := (E.out.bel.alloc zw _).grown hg3 (by simp; omega) (fun r hr => by have := (HO.out.lt r hr).1; omega)
      have e0 := (hob3.cell 3).trans rfl
      have e1 := hob3.frozen 3
      have e2 := hob3.lt
      have HG := Lib.hid (edge_of (hob3.set_ 3 (.slice A9 (g.semas.length + 1) c9)) ((E.out.op.wq_s g.mutexes g.threads a3 hf3 hown3).fr1 hob3 (fr_set 3 (.slice A9 (g.semas.length + 1) c9))) rfl rfl (HSH.out _ _ _ _ _ _ _ (by have := HF1.out.1; omega) (fun f hf => by have := HF1.out.2 f hf; omega) (by omega) (by simp; omega) (by omega) (by have := HX1.out.1; omega) (fun l hl => by have := HX1.out.2 l hl; omega)) (hbel3.setCell (p := ⟨b, 3, none⟩) zo _))
      clear hob3 hf3 hbel3 hown3 hg3 hat3
      go_wp2_with fail
      go_meet
      exact HG.out
    · have HO : Hid (U1.ownsRow W0.heap.size 3 1 (.slice hA g.chans.length hc) g.chans.length (IS g.chans)) := E.out.op.ints.1 (irow (.slice hA g.chans.length hc) g.chans) (by simp)
      go_wp2_with (at_builtin; go_must (refine wpList_append_any _ rfl (.tmp 60) (.tmp 62) _ rfl W0.heap.size 3 i0 _ 1 8 Try.underlying23 hi0 hz0 hz1 hz2 rfl (by decide) (.slice hA g.chans.length hc) g.chans.length (IS g.chans) rfl (HO.out.alloc _) (U1.heap.size + 1) (some ⟨U1.heap.size, 0, none⟩) 1 1 [.int .i64 a3] rfl (reads_new U1 (.int .i64 a3) _) (by intro u hu; simp at hu; subst hu; rfl) ?c1 ?c2 ?c3 ?k))
      case c1 => unfold maxLen; omega
      case c2 => omega
      case c3 => simp; omega
      case k =>
      intro v3 w3 hown3 hg3 hat3
      obtain ⟨A9, c9, rfl, _, _⟩ := own_slice hown3
      have hob3 := (E.out.ob.alloc (.cells #[.int .i64 a3] 3)).grown hg3 (fun e => own_blk_ne HO.out E.out.ob (by decide) e.symm)
      have hf3 : Fr (fun i => (Value.slice hA g.chans.length hc).ownBlock = some i) U1 w3 := ((Fr.refl _ U1).alloc _).trans (Fr.of_grown hg3) (fun i _ h => h)
      have hbel3 : Below W0.heap.size W0 w3 := (E.out.bel.alloc zw _).grown hg3 (by simp; omega) (fun r hr => by have := (HO.out.lt r hr).1; omega)
      have e0 := (hob3.cell 4).trans rfl
      have e1 := hob3.frozen 4
      have e2 := hob3.lt
      have HG := Lib.hid (edge_of (hob3.set_ 4 (.slice A9 (g.chans.length + 1) c9)) ((E.out.op.wq_h g.mutexes g.threads a3 hf3 hown3).fr1 hob3 (fr_set 4 (.slice A9 (g.chans.length + 1) c9))) rfl rfl (HSH.out _ _ _ _ _ _ _ (by have := HF1.out.1; omega) (fun f hf => by have := HF1.out.2 f hf; omega) (by omega) (by omega) (by simp; omega) (by have := HX1.out.1; omega) (fun l hl => by have := HX1.out.2 l hl; omega)) (hbel3.setCell (p := ⟨b, 4, none⟩) zo _))
      clear hob3 hf3 hbel3 hown3 hg3 hat3
      go_wp2_with fail
      go_meet
      exact HG.out
    · have HO : Hid (U1.ownsRow W0.heap.size 23 1 (.slice xA g.choices.length xc) g.choices.length (LS ls)) := by
        have := E.out.op.lrow
        rw [HLN.out] at this
        exact this
      go_wp2_with (at_builtin; go_must (refine wpList_append_any _ rfl (.tmp 68) (.tmp 71) _ rfl W0.heap.size 23 j0 _ 1 24 Try.underlying24 hj0 hy0 hy1 hy2 rfl (by decide) (.slice xA g.choices.length xc) g.choices.length (LS ls) rfl ((HO.out.alloc _).alloc _) (U1.heap.size + 1 + 1) (some ⟨U1.heap.size + 1, 0, none⟩) 1 1 [.slice (some ⟨U1.heap.size, 0, none⟩) 1 1] rfl (by simpa using reads_new (U1.alloc (.cells #[.int .i64 a3] 3)) (.slice (some ⟨U1.heap.size, 0, none⟩) 1 1) 23) (by intro u hu; simp at hu; subst hu; rfl) ?c1 ?c2 ?c3 ?k))
      case c1 => unfold maxLen; omega
      case c2 => omega
      case c3 => simp; omega
      case k =>
      intro v3 w3 hown3 hg3 hat3
      obtain ⟨A9, c9, rfl, _, _⟩ := own_slice hown3
      have hob3 := ((E.out.ob.alloc (.cells #[.int .i64 a3] 3)).alloc (.cells #[.slice (some ⟨U1.heap.size, 0, none⟩) 1 1] 23)).grown hg3 (fun e => own_blk_ne HO.out E.out.ob (by decide) e.symm)
      have hf3 : Fr (fun i => (Value.slice xA g.choices.length xc).ownBlock = some i) U1 w3 := (((Fr.refl _ U1).alloc _).alloc _).trans (Fr.of_grown hg3) (fun i _ h => h)
      have hbel3 : Below W0.heap.size W0 w3 := ((E.out.bel.alloc zw _).alloc (by simp; omega) _).grown hg3 (by simp; omega) (fun r hr => by have := (HO.out.lt r hr).1; omega)
      have hin : w3.ownsRow W0.heap.size 3 1 (TL.val ⟨[a3], some ⟨U1.heap.size, 0, none⟩, 1⟩) 1 (IS [a3]) := (Fr.of_grown hg3).own ((own_one U1 a3 W0.heap.size zw).alloc _) (fun i hi hs => own_ne (own_one U1 a3 W0.heap.size zw) (HO.out.alloc _) (by decide) i hi hs)
      have hxx := E.out.op.wq_x g.mutexes g.threads ⟨[a3], some ⟨U1.heap.size, 0, none⟩, 1⟩ hf3 (by rw [HLN.out]; exact hown3) hin
      have e0 := (hob3.cell 5).trans rfl
      have e1 := hob3.frozen 5
      have e2 := hob3.lt
      have HG := Lib.hid (edge_of (hob3.set_ 5 (.slice A9 (g.choices.length + 1) c9)) (hxx.fr1 hob3 (fr_set 5 (.slice A9 (g.choices.length + 1) c9))) rfl rfl (HSH.out _ _ _ _ _ _ _ (by have := HF1.out.1; omega) (fun f hf => by have := HF1.out.2 f hf; omega) (by omega) (by omega) (by omega) (by have := HX1.out.1; simp at this; simp; omega) (each_app HX1.out.2)) (hbel3.setCell (p := ⟨b, 5, none⟩) zo _))
      clear hob3 hf3 hbel3 hown3 hg3 hat3 hxx hin
      go_wp2_with fail
      go_meet
      exact HG.out
    · have hfr := E.out.op.frow
      rw [HFN.out] at hfr
      obtain ⟨bf, cap, hv, hbb, hbz⟩ := hfr.form (by omega)
      injection hv with hv1 _ hv2
      subst hv1 hv2
      have hti : fs[f]? = some (fs[f]'(by have := HFN.out; omega)) := List.getElem?_eq_getElem _
      generalize fs[f]'(by have := HFN.out; omega) = t at hti
      obtain ⟨e0, e1⟩ := FS_at hti
      have r0 := (hfr.cellAt (f * 2) (by omega)).trans e0
      have r1 := (hfr.cellAt (f * 2 + 1) (by omega)).trans e1
      have q0' := hfr.frozenAt (f * 2)
      have q1' := hfr.frozenAt (f * 2 + 1)
      have i1 : (f : Int) < (g.funcs.length : Int) := by omega
      have i2 : (0 : Int) ≤ (f : Int) := by omega
      have hbne : b ≠ bf := fun e => own_blk_ne hfr E.out.ob (by decide) (by simp [Value.ownBlock, e])
      have htc : t.f.code.length ≤ 64 := HF1.out.2 t.f (List.mem_map_of_mem (List.mem_of_getElem? hti))
      have hbz2 : bf < U1.heap.size := hbz
      have hSF : ∀ t' : TF, t'.f.code.length ≤ 100 → ((fs.set f t').map TF.f).length ≤ 1000 ∧ ∀ u ∈ (fs.set f t').map TF.f, u.code.length ≤ 1000 := fun t' h => by
        refine ⟨by have := HF1.out.1; simp at this; simp; omega, fun u hu => ?_⟩
        obtain ⟨u', hu', rfl⟩ := List.mem_map.1 hu
        rcases List.mem_or_eq_of_mem_set hu' with h' | h'
        · have := HF1.out.2 u'.f (List.mem_map_of_mem h'); omega
        · rw [h']; omega
      have HSF := Lib.hid hSF; have HTI := Lib.hid hti; have HFR := Lib.hid hfr
      clear hSF hti e0 e1 hfr
      have HS6 := Lib.hid (edge_of (E.out.ob.far (p := ⟨bf, f * 2, none⟩) hbne (.int .i64 a3)) ((E.out.op.setLoc HTI.out (by rw [HFN.out]) a3).wq g.mutexes g.threads) rfl rfl (HSH.out _ _ _ _ _ _ _ (HSF.out (TF.mk (FV.mk a3 t.f.code) t.A t.c) (by simpa using Nat.le_trans htc (by omega))).1 (HSF.out (TF.mk (FV.mk a3 t.f.code) t.A t.c) (by simpa using Nat.le_trans htc (by omega))).2 (by omega) (by omega) (by omega) (by have := HX1.out.1; omega) (fun l hl => by have := HX1.out.2 l hl; omega)) (E.out.bel.setCell (p := ⟨bf, f * 2, none⟩) hbb _))
      go_wp2_with fail
      go_meet
      exact HS6.out
    · have hfr := E.out.op.frow
      rw [HFN.out] at hfr
      obtain ⟨bf, cap, hv, hbb, hbz⟩ := hfr.form (by omega)
      injection hv with hv1 _ hv2
      subst hv1 hv2
      have hti : fs[f]? = some (fs[f]'(by have := HFN.out; omega)) := List.getElem?_eq_getElem _
      generalize fs[f]'(by have := HFN.out; omega) = t at hti
      obtain ⟨e0, e1⟩ := FS_at hti
      have r0 := (hfr.cellAt (f * 2) (by omega)).trans e0
      have r1 := (hfr.cellAt (f * 2 + 1) (by omega)).trans e1
      have q0' := hfr.frozenAt (f * 2)
      have q1' := hfr.frozenAt (f * 2 + 1)
      have i1 : (f : Int) < (g.funcs.length : Int) := by omega
      have i2 : (0 : Int) ≤ (f : Int) := by omega
      have hbne : b ≠ bf := fun e => own_blk_ne hfr E.out.ob (by decide) (by simp [Value.ownBlock, e])
      have htc : t.f.code.length ≤ 64 := HF1.out.2 t.f (List.mem_map_of_mem (List.mem_of_getElem? hti))
      have hbz2 : bf < U1.heap.size := hbz
      have hSF : ∀ t' : TF, t'.f.code.length ≤ 100 → ((fs.set f t').map TF.f).length ≤ 1000 ∧ ∀ u ∈ (fs.set f t').map TF.f, u.code.length ≤ 1000 := fun t' h => by
        refine ⟨by have := HF1.out.1; simp at this; simp; omega, fun u hu => ?_⟩
        obtain ⟨u', hu', rfl⟩ := List.mem_map.1 hu
        rcases List.mem_or_eq_of_mem_set hu' with h' | h'
        · have := HF1.out.2 u'.f (List.mem_map_of_mem h'); omega
        · rw [h']; omega
      have HSF := Lib.hid hSF; have HTI := Lib.hid hti; have HFR := Lib.hid hfr
      clear hSF hti e0 e1 hfr
      have HRC : Hid (U1.ownsRow W0.heap.size 47 2 (.slice t.A t.f.code.length t.c) t.f.code.length (CS t.f.code)) := E.out.op.code.1 t.row (List.mem_map_of_mem (List.mem_of_getElem? HTI.out))
      obtain ⟨m0, hm0, hw0, hw1, hw2⟩ := info_parts info_instr
      go_upto_region 20 with fail
      have r1a : ∀ o, (U1.drew.alloc o).cell? ⟨bf, f * 2 + 1, none⟩ = some (.slice t.A t.f.code.length t.c) := fun o => (World.cell?_alloc_lt _ o _ hbz2).trans r1
      have c0a : ∀ o, (U1.drew.alloc o).cell? ⟨b, 0, none⟩ = some (.slice (some ⟨bf, 0, none⟩) g.funcs.length fc) := fun o => (World.cell?_alloc_lt _ o _ hz).trans c0
      refine wp_region_noPanic ?_
      refine wp_region_held_drew (S := fun w' => w'.cell? ⟨b, 0, none⟩ = some (.slice (some ⟨bf, 0, none⟩) g.funcs.length fc)) (by kernel_rfl) (by exact c0) (fun hHeld => ?_)
      refine take_yes (i := 0) (v := ?v1) rfl (by kernel_rfl) (by kernel_rfl) (by kernel_rfl) (fun _ _ _ h => h) (by rfl) (by assumption) ?hy1 ?rest1
      case hy1 => (intro w hSw; go_simp; try (with_reducible rfl))
      try simp only [Act.put, List.setIfInBounds_toArray, List.set_cons_zero, List.set_cons_succ]
      refine take_yes (i := 1) (v := ?v2) rfl (by kernel_rfl) (by kernel_rfl) (by kernel_rfl) (fun _ _ _ h => h) (by rfl) (by assumption) ?hy2 ?rest2
      case hy2 => (intro w hSw; go_simp; try (with_reducible rfl))
      try simp only [Act.put, List.setIfInBounds_toArray, List.set_cons_zero, List.set_cons_succ]
      refine take_yes (i := 2) (v := ?v3) rfl (by kernel_rfl) (by kernel_rfl) (by kernel_rfl) (fun _ _ _ h => h) (by rfl) (by assumption) ?hy3 ?rest3
      case hy3 => (intro w hSw; go_simp; try (with_reducible rfl))
      try simp only [Act.put, List.setIfInBounds_toArray, List.set_cons_zero, List.set_cons_succ]
      refine take_yes (i := 3) (v := ?v4) rfl (by kernel_rfl) (by kernel_rfl) (by kernel_rfl) (fun _ _ _ h => h) (by rfl) (by assumption) ?hy4 ?rest4
      case hy4 => (intro w hSw; go_simp; try (with_reducible rfl))
      try simp only [Act.put, List.setIfInBounds_toArray, List.set_cons_zero, List.set_cons_succ]
      refine take_yes (i := 4) (v := ?v5) rfl (by kernel_rfl) (by kernel_rfl) (by kernel_rfl) (fun _ _ _ h => h) (by rfl) (by assumption) ?hy5 ?rest5
      case hy5 => (intro w hSw; go_simp; try (with_reducible rfl))
      try simp only [Act.put, List.setIfInBounds_toArray, List.set_cons_zero, List.set_cons_succ]
      refine take_yes (i := 5) (v := ?v6) rfl (by kernel_rfl) (by kernel_rfl) (by kernel_rfl) (fun _ _ _ h => h) (by rfl) (by assumption) ?hy6 ?rest6
      case hy6 => (intro w hSw; go_simp; try (with_reducible rfl))
      try simp only [Act.put, List.setIfInBounds_toArray, List.set_cons_zero, List.set_cons_succ]
      refine take_yes (i := 6) (v := ?v7) rfl (by kernel_rfl) (by kernel_rfl) (by kernel_rfl) (fun _ _ _ h => h) (by rfl) (by assumption) ?hy7 ?rest7
      case hy7 => (intro w hSw; go_simp; try (with_reducible rfl))
      try simp only [Act.put, List.setIfInBounds_toArray, List.set_cons_zero, List.set_cons_succ]
      refine take_yes (i := 7) (v := ?v8) rfl (by kernel_rfl) (by kernel_rfl) (by kernel_rfl) (fun _ _ _ h => h) (by rfl) (by assumption) ?hy8 ?rest8
      case hy8 => (intro w hSw; go_simp; try (with_reducible rfl))
      try simp only [Act.put, List.setIfInBounds_toArray, List.set_cons_zero, List.set_cons_succ]
      refine take_yes (i := 9) (v := ?v9) rfl (by kernel_rfl) (by kernel_rfl) (by kernel_rfl) (fun _ _ _ h => h) (by rfl) (by assumption) ?hy9 ?rest9
      case hy9 => (intro w hSw; go_simp; try (with_reducible rfl))
      try simp only [Act.put, List.setIfInBounds_toArray, List.set_cons_zero, List.set_cons_succ]
      refine take_yes (i := 10) (v := ?v10) rfl (by kernel_rfl) (by kernel_rfl) (by kernel_rfl) (fun _ _ _ h => h) (by rfl) (by assumption) ?hy10 ?rest10
      case hy10 => (intro w hSw; go_simp; try (with_reducible rfl))
      try simp only [Act.put, List.setIfInBounds_toArray, List.set_cons_zero, List.set_cons_succ]
      refine ready_two (i := 8) (j := 11) rfl rfl (by kernel_rfl) (fun K hK => ?_) (fun K hK => ?_)
      · go_simp
        refine hK.out _ _ c0 (fun hHeld => ?_)
        clear hK K
        try simp only [Act.put, List.setIfInBounds_toArray, List.set_cons_zero, List.set_cons_succ]
        refine ready_one (i := 11) rfl (by kernel_rfl) (fun K hK => ?_)
        go_simp
        refine hK.out _ _ (c0a _) (fun hHeld => ?_)
        clear hK K
        try simp only [Act.put, List.setIfInBounds_toArray, List.set_cons_zero, List.set_cons_succ]
        refine ready_one (i := 12) rfl (by kernel_rfl) (fun K hK => ?_)
        refine step_append_any _ (by rfl) (.tmp 92) (.tmp 95) _ (by rfl) W0.heap.size 47 m0 _ 2 16 Try.underlying43 hm0 hw0 hw1 hw2 rfl (by decide) (.slice t.A t.f.code.length t.c) t.f.code.length (CS t.f.code) (by rfl) (HRC.out.drew.alloc _) (U1.heap.size + 1) (some ⟨U1.heap.size, 0, none⟩) 1 1 [.int .i64 a3, .int .i64 0] (by rfl) (reads_new2 U1.drew (.int .i64 a3) (.int .i64 0) _) (by intro u hu; simp at hu; rcases hu with rfl | rfl <;> rfl) (by unfold maxLen; omega) (by omega) (by simp; omega) ?_
        intro v3 w3 hown3 hg3 hat3
        obtain ⟨A9, c9, rfl, _, _⟩ := own_slice hown3
        have hf3 : Fr (fun i => t.val.ownBlock = some i) U1 w3 := ((Fr.refl _ U1).drew.alloc _).trans (Fr.of_grown hg3) (fun i _ h => h)
        have ho3 : w3.ownsRow W0.heap.size 47 2 (.slice A9 (t.f.code.length + 1) c9) (t.f.code.length + 1) (CS (t.f.code ++ [⟨a3, 0⟩])) := by rw [← CS_append]; exact hown3
        have hob3 : Blk w3 b 26 _ := (E.out.ob.drew.alloc _).grown hg3 (fun e => own_blk_ne HRC.out E.out.ob (by decide) e.symm)
        have hbel3 : Below W0.heap.size W0 w3 := (E.out.bel.drew.alloc zw _).grown hg3 (by simp; omega) (fun r hr => by have := (HRC.out.lt r hr).1; omega)
        clear hown3 hg3 hat3
        have hwq := E.out.op.wq_code (t' := (TF.mk (FV.mk t.f.locals (t.f.code ++ [⟨a3, 0⟩])) A9 c9)) g.mutexes g.threads HTI.out (by rw [HFN.out]) rfl hf3 (by simpa [TF.val] using ho3)
        rw [show TF.val (TF.mk (FV.mk t.f.locals (t.f.code ++ [⟨a3, 0⟩])) A9 c9) = .slice A9 (t.f.code.length + 1) c9 from by simp [TF.val]] at hwq
        have HQ := Lib.hid (edge_of (hob3.far (p := ⟨bf, f * 2 + 1, none⟩) hbne (.slice A9 (t.f.code.length + 1) c9)) hwq rfl rfl (HSH.out _ _ _ _ _ _ _ (HSF.out (TF.mk (FV.mk t.f.locals (t.f.code ++ [⟨a3, 0⟩])) A9 c9) (by simp; omega)).1 (HSF.out (TF.mk (FV.mk t.f.locals (t.f.code ++ [⟨a3, 0⟩])) A9 c9) (by simp; omega)).2 (by omega) (by omega) (by omega) (by have := HX1.out.1; omega) (fun l hl => by have := HX1.out.2 l hl; omega)) (hbel3.setCell (p := ⟨bf, f * 2 + 1, none⟩) hbb _))
        have hfr3 : w3.ownsRow W0.heap.size 45 2 (.slice (some ⟨bf, 0, none⟩) g.funcs.length fc) g.funcs.length (FS fs) := hf3.own HFR.out (fun i hi hs => own_ne (E.out.op.code.1 t.row (List.mem_map_of_mem (List.mem_of_getElem? HTI.out))) HFR.out (by decide) i hs hi)
        have s1 := (hfr3.cellAt (f * 2 + 1) (by omega)).trans (FS_at HTI.out).2
        have s2 := hfr3.frozenAt (f * 2 + 1)
        have s0 := (hob3.cell 0).trans rfl
        have s5 : ∀ v, (w3.setCell ⟨bf, f * 2 + 1, none⟩ v).cell? ⟨b, 0, none⟩ = some (.slice (some ⟨bf, 0, none⟩) g.funcs.length fc) := fun v => ((hob3.far (p := ⟨bf, f * 2 + 1, none⟩) hbne v).cell 0).trans rfl
        clear hob3 hbel3 hf3 ho3 hfr3 hwq
        refine hK.out _ _ s0 (fun hHeld => ?_)
        clear hK K
        try simp only [Act.put, List.setIfInBounds_toArray, List.set_cons_zero, List.set_cons_succ]
        refine take_yes (i := 13) (v := ?v11) rfl (by kernel_rfl) (by kernel_rfl) (by kernel_rfl) (fun _ _ _ h => h) (by rfl) (by assumption) ?hy11 ?rest11
        case hy11 => (intro w hSw; go_simp; try (with_reducible rfl))
        try simp only [Act.put, List.setIfInBounds_toArray, List.set_cons_zero, List.set_cons_succ]
        refine take_yes (i := 14) (v := ?v12) rfl (by kernel_rfl) (by kernel_rfl) (by kernel_rfl) (fun _ _ _ h => h) (by rfl) (by assumption) ?hy12 ?rest12
        case hy12 => (intro w hSw; go_simp; try (with_reducible rfl))
        try simp only [Act.put, List.setIfInBounds_toArray, List.set_cons_zero, List.set_cons_succ]
        refine ready_one (i := 15) rfl (by kernel_rfl) (fun K hK => ?_)
        go_simp
        refine hK.out _ _ (s5 _) (fun hHeld => ?_)
        clear hK K
        try simp only [Act.put, List.setIfInBounds_toArray, List.set_cons_zero, List.set_cons_succ]
        refine wpAnyH_done (by kernel_rfl) ?_ _
        refine NoPanic.normal ?_
        go_wp2_with fail
        go_meet
        exact HQ.out
      · go_simp
        refine hK.out _ _ (c0a _) (fun hHeld => ?_)
        clear hK K
        try simp only [Act.put, List.setIfInBounds_toArray, List.set_cons_zero, List.set_cons_succ]
        have r1b := r1a (.cells #[.int .i64 a3, .int .i64 0] 47)
        refine ready_one (i := 8) rfl (by kernel_rfl) (fun K hK => ?_)
        go_simp
        refine hK.out _ _ (c0a _) (fun hHeld => ?_)
        clear hK K
        try simp only [Act.put, List.setIfInBounds_toArray, List.set_cons_zero, List.set_cons_succ]
        refine ready_one (i := 12) rfl (by kernel_rfl) (fun K hK => ?_)
        refine step_append_any _ (by rfl) (.tmp 92) (.tmp 95) _ (by rfl) W0.heap.size 47 m0 _ 2 16 Try.underlying43 hm0 hw0 hw1 hw2 rfl (by decide) (.slice t.A t.f.code.length t.c) t.f.code.length (CS t.f.code) (by rfl) (HRC.out.drew.alloc _) (U1.heap.size + 1) (some ⟨U1.heap.size, 0, none⟩) 1 1 [.int .i64 a3, .int .i64 0] (by rfl) (reads_new2 U1.drew (.int .i64 a3) (.int .i64 0) _) (by intro u hu; simp at hu; rcases hu with rfl | rfl <;> rfl) (by unfold maxLen; omega) (by omega) (by simp; omega) ?_
        intro v3 w3 hown3 hg3 hat3
        obtain ⟨A9, c9, rfl, _, _⟩ := own_slice hown3
        have hf3 : Fr (fun i => t.val.ownBlock = some i) U1 w3 := ((Fr.refl _ U1).drew.alloc _).trans (Fr.of_grown hg3) (fun i _ h => h)
        have ho3 : w3.ownsRow W0.heap.size 47 2 (.slice A9 (t.f.code.length + 1) c9) (t.f.code.length + 1) (CS (t.f.code ++ [⟨a3, 0⟩])) := by rw [← CS_append]; exact hown3
        have hob3 : Blk w3 b 26 _ := (E.out.ob.drew.alloc _).grown hg3 (fun e => own_blk_ne HRC.out E.out.ob (by decide) e.symm)
        have hbel3 : Below W0.heap.size W0 w3 := (E.out.bel.drew.alloc zw _).grown hg3 (by simp; omega) (fun r hr => by have := (HRC.out.lt r hr).1; omega)
        clear hown3 hg3 hat3
        have hwq := E.out.op.wq_code (t' := (TF.mk (FV.mk t.f.locals (t.f.code ++ [⟨a3, 0⟩])) A9 c9)) g.mutexes g.threads HTI.out (by rw [HFN.out]) rfl hf3 (by simpa [TF.val] using ho3)
        rw [show TF.val (TF.mk (FV.mk t.f.locals (t.f.code ++ [⟨a3, 0⟩])) A9 c9) = .slice A9 (t.f.code.length + 1) c9 from by simp [TF.val]] at hwq
        have HQ := Lib.hid (edge_of (hob3.far (p := ⟨bf, f * 2 + 1, none⟩) hbne (.slice A9 (t.f.code.length + 1) c9)) hwq rfl rfl (HSH.out _ _ _ _ _ _ _ (HSF.out (TF.mk (FV.mk t.f.locals (t.f.code ++ [⟨a3, 0⟩])) A9 c9) (by simp; omega)).1 (HSF.out (TF.mk (FV.mk t.f.locals (t.f.code ++ [⟨a3, 0⟩])) A9 c9) (by simp; omega)).2 (by omega) (by omega) (by omega) (by have := HX1.out.1; omega) (fun l hl => by have := HX1.out.2 l hl; omega)) (hbel3.setCell (p := ⟨bf, f * 2 + 1, none⟩) hbb _))
        have hfr3 : w3.ownsRow W0.heap.size 45 2 (.slice (some ⟨bf, 0, none⟩) g.funcs.length fc) g.funcs.length (FS fs) := hf3.own HFR.out (fun i hi hs => own_ne (E.out.op.code.1 t.row (List.mem_map_of_mem (List.mem_of_getElem? HTI.out))) HFR.out (by decide) i hs hi)
        have s1 := (hfr3.cellAt (f * 2 + 1) (by omega)).trans (FS_at HTI.out).2
        have s2 := hfr3.frozenAt (f * 2 + 1)
        have s0 := (hob3.cell 0).trans rfl
        have s5 : ∀ v, (w3.setCell ⟨bf, f * 2 + 1, none⟩ v).cell? ⟨b, 0, none⟩ = some (.slice (some ⟨bf, 0, none⟩) g.funcs.length fc) := fun v => ((hob3.far (p := ⟨bf, f * 2 + 1, none⟩) hbne v).cell 0).trans rfl
        clear hob3 hbel3 hf3 ho3 hfr3 hwq
        refine hK.out _ _ s0 (fun hHeld => ?_)
        clear hK K
        try simp only [Act.put, List.setIfInBounds_toArray, List.set_cons_zero, List.set_cons_succ]
        refine take_yes (i := 13) (v := ?v13) rfl (by kernel_rfl) (by kernel_rfl) (by kernel_rfl) (fun _ _ _ h => h) (by rfl) (by assumption) ?hy13 ?rest13
        case hy13 => (intro w hSw; go_simp; try (with_reducible rfl))
        try simp only [Act.put, List.setIfInBounds_toArray, List.set_cons_zero, List.set_cons_succ]
        refine take_yes (i := 14) (v := ?v14) rfl (by kernel_rfl) (by kernel_rfl) (by kernel_rfl) (fun _ _ _ h => h) (by rfl) (by assumption) ?hy14 ?rest14
        case hy14 => (intro w hSw; go_simp; try (with_reducible rfl))
        try simp only [Act.put, List.setIfInBounds_toArray, List.set_cons_zero, List.set_cons_succ]
        refine ready_one (i := 15) rfl (by kernel_rfl) (fun K hK => ?_)
        go_simp
        refine hK.out _ _ (s5 _) (fun hHeld => ?_)
        clear hK K
        try simp only [Act.put, List.setIfInBounds_toArray, List.set_cons_zero, List.set_cons_succ]
        refine wpAnyH_done (by kernel_rfl) ?_ _
        refine NoPanic.normal ?_
        go_wp2_with fail
        go_meet
        exact HQ.out
    · have hfr := E.out.op.frow
      rw [HFN.out] at hfr
      obtain ⟨bf, cap, hv, hbb, hbz⟩ := hfr.form (by omega)
      injection hv with hv1 _ hv2
      subst hv1 hv2
      have hti : fs[f]? = some (fs[f]'(by have := HFN.out; omega)) := List.getElem?_eq_getElem _
      generalize fs[f]'(by have := HFN.out; omega) = t at hti
      obtain ⟨e0, e1⟩ := FS_at hti
      have r0 := (hfr.cellAt (f * 2) (by omega)).trans e0
      have r1 := (hfr.cellAt (f * 2 + 1) (by omega)).trans e1
      have q0' := hfr.frozenAt (f * 2)
      have q1' := hfr.frozenAt (f * 2 + 1)
      have i1 : (f : Int) < (g.funcs.length : Int) := by omega
      have i2 : (0 : Int) ≤ (f : Int) := by omega
      have hbne : b ≠ bf := fun e => own_blk_ne hfr E.out.ob (by decide) (by simp [Value.ownBlock, e])
      have htc : t.f.code.length ≤ 64 := HF1.out.2 t.f (List.mem_map_of_mem (List.mem_of_getElem? hti))
      have hbz2 : bf < U1.heap.size := hbz
      have hSF : ∀ t' : TF, t'.f.code.length ≤ 100 → ((fs.set f t').map TF.f).length ≤ 1000 ∧ ∀ u ∈ (fs.set f t').map TF.f, u.code.length ≤ 1000 := fun t' h => by
        refine ⟨by have := HF1.out.1; simp at this; simp; omega, fun u hu => ?_⟩
        obtain ⟨u', hu', rfl⟩ := List.mem_map.1 hu
        rcases List.mem_or_eq_of_mem_set hu' with h' | h'
        · have := HF1.out.2 u'.f (List.mem_map_of_mem h'); omega
        · rw [h']; omega
      have HSF := Lib.hid hSF; have HTI := Lib.hid hti; have HFR := Lib.hid hfr
      clear hSF hti e0 e1 hfr
      have HRC : Hid (U1.ownsRow W0.heap.size 47 2 (.slice t.A t.f.code.length t.c) t.f.code.length (CS t.f.code)) := E.out.op.code.1 t.row (List.mem_map_of_mem (List.mem_of_getElem? HTI.out))
      obtain ⟨m0, hm0, hw0, hw1, hw2⟩ := info_parts info_instr
      have hop := around_bd a2 27 (by omega)
      obtain ⟨op, hop2⟩ : ∃ n : Int, around a2 27 = n := ⟨_, rfl⟩
      rw [hop2] at hop
      go_upto_region 22 with fail
      have r1a : ∀ o, (U1.drew.alloc o).cell? ⟨bf, f * 2 + 1, none⟩ = some (.slice t.A t.f.code.length t.c) := fun o => (World.cell?_alloc_lt _ o _ hbz2).trans r1
      have c0a : ∀ o, (U1.drew.alloc o).cell? ⟨b, 0, none⟩ = some (.slice (some ⟨bf, 0, none⟩) g.funcs.length fc) := fun o => (World.cell?_alloc_lt _ o _ hz).trans c0
      refine wp_region_noPanic ?_
      refine wp_region_held_drew (S := fun w' => w'.cell? ⟨b, 0, none⟩ = some (.slice (some ⟨bf, 0, none⟩) g.funcs.length fc)) (by kernel_rfl) (by exact c0) (fun hHeld => ?_)
      refine take_yes (i := 0) (v := ?v15) rfl (by kernel_rfl) (by kernel_rfl) (by kernel_rfl) (fun _ _ _ h => h) (by rfl) (by assumption) ?hy15 ?rest15
      case hy15 => (intro w hSw; go_simp; try (with_reducible rfl))
      try simp only [Act.put, List.setIfInBounds_toArray, List.set_cons_zero, List.set_cons_succ]
      refine take_yes (i := 1) (v := ?v16) rfl (by kernel_rfl) (by kernel_rfl) (by kernel_rfl) (fun _ _ _ h => h) (by rfl) (by assumption) ?hy16 ?rest16
      case hy16 => (intro w hSw; go_simp; try (with_reducible rfl))
      try simp only [Act.put, List.setIfInBounds_toArray, List.set_cons_zero, List.set_cons_succ]
      refine take_yes (i := 2) (v := ?v17) rfl (by kernel_rfl) (by kernel_rfl) (by kernel_rfl) (fun _ _ _ h => h) (by rfl) (by assumption) ?hy17 ?rest17
      case hy17 => (intro w hSw; go_simp; try (with_reducible rfl))
      try simp only [Act.put, List.setIfInBounds_toArray, List.set_cons_zero, List.set_cons_succ]
      refine take_yes (i := 3) (v := ?v18) rfl (by kernel_rfl) (by kernel_rfl) (by kernel_rfl) (fun _ _ _ h => h) (by rfl) (by assumption) ?hy18 ?rest18
      case hy18 => (intro w hSw; go_simp; try (with_reducible rfl))
      try simp only [Act.put, List.setIfInBounds_toArray, List.set_cons_zero, List.set_cons_succ]
      refine take_yes (i := 4) (v := ?v19) rfl (by kernel_rfl) (by kernel_rfl) (by kernel_rfl) (fun _ _ _ h => h) (by rfl) (by assumption) ?hy19 ?rest19
      case hy19 => (intro w hSw; go_simp; try (with_reducible rfl))
      try simp only [Act.put, List.setIfInBounds_toArray, List.set_cons_zero, List.set_cons_succ]
      refine take_yes (i := 5) (v := ?v20) rfl (by kernel_rfl) (by kernel_rfl) (by kernel_rfl) (fun _ _ _ h => h) (by rfl) (by assumption) ?hy20 ?rest20
      case hy20 => (intro w hSw; go_simp; try (with_reducible rfl))
      try simp only [Act.put, List.setIfInBounds_toArray, List.set_cons_zero, List.set_cons_succ]
      refine take_yes (i := 6) (v := ?v21) rfl (by kernel_rfl) (by kernel_rfl) (by kernel_rfl) (fun _ _ _ h => h) (by rfl) (by assumption) ?hy21 ?rest21
      case hy21 => (intro w hSw; go_simp; try (with_reducible rfl))
      try simp only [Act.put, List.setIfInBounds_toArray, List.set_cons_zero, List.set_cons_succ]
      refine take_yes (i := 7) (v := ?v22) rfl (by kernel_rfl) (by kernel_rfl) (by kernel_rfl) (fun _ _ _ h => h) (by rfl) (by assumption) ?hy22 ?rest22
      case hy22 => (intro w hSw; go_simp; try (with_reducible rfl))
      try simp only [Act.put, List.setIfInBounds_toArray, List.set_cons_zero, List.set_cons_succ]
      refine take_yes (i := 9) (v := ?v23) rfl (by kernel_rfl) (by kernel_rfl) (by kernel_rfl) (fun _ _ _ h => h) (by rfl) (by assumption) ?hy23 ?rest23
      case hy23 => (intro w hSw; go_simp; try (with_reducible rfl))
      try simp only [Act.put, List.setIfInBounds_toArray, List.set_cons_zero, List.set_cons_succ]
      refine take_yes (i := 11) (v := ?v24) rfl (by kernel_rfl) (by kernel_rfl) (by kernel_rfl) (fun _ _ _ h => h) (by rfl) (by assumption) ?hy24 ?rest24
      case hy24 => (intro w hSw; go_simp; try (with_reducible rfl))
      try simp only [Act.put, List.setIfInBounds_toArray, List.set_cons_zero, List.set_cons_succ]
      refine ready_two (i := 8) (j := 10) rfl rfl (by kernel_rfl) (fun K hK => ?_) (fun K hK => ?_)
      · go_simp
        refine hK.out _ _ c0 (fun hHeld => ?_)
        clear hK K
        try simp only [Act.put, List.setIfInBounds_toArray, List.set_cons_zero, List.set_cons_succ]
        refine ready_one (i := 10) rfl (by kernel_rfl) (fun K hK => ?_)
        go_simp
        refine (around_any a2 27 _ A2.1 A2.2 (by omega) (by omega)).mono ?_
        rintro e w3 ⟨rfl, rfl⟩
        rw [hop2]
        refine hK.out _ _ c0 (fun hHeld => ?_)
        clear hK K
        try simp only [Act.put, List.setIfInBounds_toArray, List.set_cons_zero, List.set_cons_succ]
        refine take_yes (i := 12) (v := ?v25) rfl (by kernel_rfl) (by kernel_rfl) (by kernel_rfl) (fun _ _ _ h => h) (by rfl) (by assumption) ?hy25 ?rest25
        case hy25 => (intro w hSw; go_simp; try (with_reducible rfl))
        try simp only [Act.put, List.setIfInBounds_toArray, List.set_cons_zero, List.set_cons_succ]
        refine ready_one (i := 13) rfl (by kernel_rfl) (fun K hK => ?_)
        go_simp
        refine hK.out _ _ (c0a _) (fun hHeld => ?_)
        clear hK K
        try simp only [Act.put, List.setIfInBounds_toArray, List.set_cons_zero, List.set_cons_succ]
        refine ready_one (i := 14) rfl (by kernel_rfl) (fun K hK => ?_)
        refine step_append_any _ (by rfl) (.tmp 109) (.tmp 114) _ (by rfl) W0.heap.size 47 m0 _ 2 16 Try.underlying43 hm0 hw0 hw1 hw2 rfl (by decide) (.slice t.A t.f.code.length t.c) t.f.code.length (CS t.f.code) (by rfl) (HRC.out.drew.alloc _) (U1.heap.size + 1) (some ⟨U1.heap.size, 0, none⟩) 1 1 [.int .i64 op, .int .i64 a3] (by rfl) (reads_new2 U1.drew (.int .i64 op) (.int .i64 a3) _) (by intro u hu; simp at hu; rcases hu with rfl | rfl <;> rfl) (by unfold maxLen; omega) (by omega) (by simp; omega) ?_
        intro v3 w3 hown3 hg3 hat3
        obtain ⟨A9, c9, rfl, _, _⟩ := own_slice hown3
        have hf3 : Fr (fun i => t.val.ownBlock = some i) U1 w3 := ((Fr.refl _ U1).drew.alloc _).trans (Fr.of_grown hg3) (fun i _ h => h)
        have ho3 : w3.ownsRow W0.heap.size 47 2 (.slice A9 (t.f.code.length + 1) c9) (t.f.code.length + 1) (CS (t.f.code ++ [⟨op, a3⟩])) := by rw [← CS_append]; exact hown3
        have hob3 : Blk w3 b 26 _ := (E.out.ob.drew.alloc _).grown hg3 (fun e => own_blk_ne HRC.out E.out.ob (by decide) e.symm)
        have hbel3 : Below W0.heap.size W0 w3 := (E.out.bel.drew.alloc zw _).grown hg3 (by simp; omega) (fun r hr => by have := (HRC.out.lt r hr).1; omega)
        clear hown3 hg3 hat3
        have hwq := E.out.op.wq_code (t' := (TF.mk (FV.mk t.f.locals (t.f.code ++ [⟨op, a3⟩])) A9 c9)) g.mutexes g.threads HTI.out (by rw [HFN.out]) rfl hf3 (by simpa [TF.val] using ho3)
        rw [show TF.val (TF.mk (FV.mk t.f.locals (t.f.code ++ [⟨op, a3⟩])) A9 c9) = .slice A9 (t.f.code.length + 1) c9 from by simp [TF.val]] at hwq
        have HQ := Lib.hid (edge_of (hob3.far (p := ⟨bf, f * 2 + 1, none⟩) hbne (.slice A9 (t.f.code.length + 1) c9)) hwq rfl rfl (HSH.out _ _ _ _ _ _ _ (HSF.out (TF.mk (FV.mk t.f.locals (t.f.code ++ [⟨op, a3⟩])) A9 c9) (by simp; omega)).1 (HSF.out (TF.mk (FV.mk t.f.locals (t.f.code ++ [⟨op, a3⟩])) A9 c9) (by simp; omega)).2 (by omega) (by omega) (by omega) (by have := HX1.out.1; omega) (fun l hl => by have := HX1.out.2 l hl; omega)) (hbel3.setCell (p := ⟨bf, f * 2 + 1, none⟩) hbb _))
        have hfr3 : w3.ownsRow W0.heap.size 45 2 (.slice (some ⟨bf, 0, none⟩) g.funcs.length fc) g.funcs.length (FS fs) := hf3.own HFR.out (fun i hi hs => own_ne (E.out.op.code.1 t.row (List.mem_map_of_mem (List.mem_of_getElem? HTI.out))) HFR.out (by decide) i hs hi)
        have s1 := (hfr3.cellAt (f * 2 + 1) (by omega)).trans (FS_at HTI.out).2
        have s2 := hfr3.frozenAt (f * 2 + 1)
        have s0 := (hob3.cell 0).trans rfl
        have s5 : ∀ v, (w3.setCell ⟨bf, f * 2 + 1, none⟩ v).cell? ⟨b, 0, none⟩ = some (.slice (some ⟨bf, 0, none⟩) g.funcs.length fc) := fun v => ((hob3.far (p := ⟨bf, f * 2 + 1, none⟩) hbne v).cell 0).trans rfl
        clear hob3 hbel3 hf3 ho3 hfr3 hwq
        refine hK.out _ _ s0 (fun hHeld => ?_)
        clear hK K
        try simp only [Act.put, List.setIfInBounds_toArray, List.set_cons_zero, List.set_cons_succ]
        refine take_yes (i := 15) (v := ?v26) rfl (by kernel_rfl) (by kernel_rfl) (by kernel_rfl) (fun _ _ _ h => h) (by rfl) (by assumption) ?hy26 ?rest26
        case hy26 => (intro w hSw; go_simp; try (with_reducible rfl))
        try simp only [Act.put, List.setIfInBounds_toArray, List.set_cons_zero, List.set_cons_succ]
        refine take_yes (i := 16) (v := ?v27) rfl (by kernel_rfl) (by kernel_rfl) (by kernel_rfl) (fun _ _ _ h => h) (by rfl) (by assumption) ?hy27 ?rest27
        case hy27 => (intro w hSw; go_simp; try (with_reducible rfl))
        try simp only [Act.put, List.setIfInBounds_toArray, List.set_cons_zero, List.set_cons_succ]
        refine ready_one (i := 17) rfl (by kernel_rfl) (fun K hK => ?_)
        go_simp
        refine hK.out _ _ (s5 _) (fun hHeld => ?_)
        clear hK K
        try simp only [Act.put, List.setIfInBounds_toArray, List.set_cons_zero, List.set_cons_succ]
        refine wpAnyH_done (by kernel_rfl) ?_ _
        refine NoPanic.normal ?_
        go_wp2_with fail
        go_meet
        exact HQ.out
      · go_simp
        refine (around_any a2 27 _ A2.1 A2.2 (by omega) (by omega)).mono ?_
        rintro e w3 ⟨rfl, rfl⟩
        rw [hop2]
        refine hK.out _ _ c0 (fun hHeld => ?_)
        clear hK K
        try simp only [Act.put, List.setIfInBounds_toArray, List.set_cons_zero, List.set_cons_succ]
        refine take_yes (i := 12) (v := ?v28) rfl (by kernel_rfl) (by kernel_rfl) (by kernel_rfl) (fun _ _ _ h => h) (by rfl) (by assumption) ?hy28 ?rest28
        case hy28 => (intro w hSw; go_simp; try (with_reducible rfl))
        try simp only [Act.put, List.setIfInBounds_toArray, List.set_cons_zero, List.set_cons_succ]
        refine ready_two (i := 8) (j := 13) rfl rfl (by kernel_rfl) (fun K hK => ?_) (fun K hK => ?_)
        · go_simp
          refine hK.out _ _ c0 (fun hHeld => ?_)
          clear hK K
          try simp only [Act.put, List.setIfInBounds_toArray, List.set_cons_zero, List.set_cons_succ]
          refine ready_one (i := 13) rfl (by kernel_rfl) (fun K hK => ?_)
          go_simp
          refine hK.out _ _ (c0a _) (fun hHeld => ?_)
          clear hK K
          try simp only [Act.put, List.setIfInBounds_toArray, List.set_cons_zero, List.set_cons_succ]
          refine ready_one (i := 14) rfl (by kernel_rfl) (fun K hK => ?_)
          refine step_append_any _ (by rfl) (.tmp 109) (.tmp 114) _ (by rfl) W0.heap.size 47 m0 _ 2 16 Try.underlying43 hm0 hw0 hw1 hw2 rfl (by decide) (.slice t.A t.f.code.length t.c) t.f.code.length (CS t.f.code) (by rfl) (HRC.out.drew.alloc _) (U1.heap.size + 1) (some ⟨U1.heap.size, 0, none⟩) 1 1 [.int .i64 op, .int .i64 a3] (by rfl) (reads_new2 U1.drew (.int .i64 op) (.int .i64 a3) _) (by intro u hu; simp at hu; rcases hu with rfl | rfl <;> rfl) (by unfold maxLen; omega) (by omega) (by simp; omega) ?_
          intro v3 w3 hown3 hg3 hat3
          obtain ⟨A9, c9, rfl, _, _⟩ := own_slice hown3
          have hf3 : Fr (fun i => t.val.ownBlock = some i) U1 w3 := ((Fr.refl _ U1).drew.alloc _).trans (Fr.of_grown hg3) (fun i _ h => h)
          have ho3 : w3.ownsRow W0.heap.size 47 2 (.slice A9 (t.f.code.length + 1) c9) (t.f.code.length + 1) (CS (t.f.code ++ [⟨op, a3⟩])) := by rw [← CS_append]; exact hown3
          have hob3 : Blk w3 b 26 _ := (E.out.ob.drew.alloc _).grown hg3 (fun e => own_blk_ne HRC.out E.out.ob (by decide) e.symm)
          have hbel3 : Below W0.heap.size W0 w3 := (E.out.bel.drew.alloc zw _).grown hg3 (by simp; omega) (fun r hr => by have := (HRC.out.lt r hr).1; omega)
          clear hown3 hg3 hat3
          have hwq := E.out.op.wq_code (t' := (TF.mk (FV.mk t.f.locals (t.f.code ++ [⟨op, a3⟩])) A9 c9)) g.mutexes g.threads HTI.out (by rw [HFN.out]) rfl hf3 (by simpa [TF.val] using ho3)
          rw [show TF.val (TF.mk (FV.mk t.f.locals (t.f.code ++ [⟨op, a3⟩])) A9 c9) = .slice A9 (t.f.code.length + 1) c9 from by simp [TF.val]] at hwq
          have HQ := Lib.hid (edge_of (hob3.far (p := ⟨bf, f * 2 + 1, none⟩) hbne (.slice A9 (t.f.code.length + 1) c9)) hwq rfl rfl (HSH.out _ _ _ _ _ _ _ (HSF.out (TF.mk (FV.mk t.f.locals (t.f.code ++ [⟨op, a3⟩])) A9 c9) (by simp; omega)).1 (HSF.out (TF.mk (FV.mk t.f.locals (t.f.code ++ [⟨op, a3⟩])) A9 c9) (by simp; omega)).2 (by omega) (by omega) (by omega) (by have := HX1.out.1; omega) (fun l hl => by have := HX1.out.2 l hl; omega)) (hbel3.setCell (p := ⟨bf, f * 2 + 1, none⟩) hbb _))
          have hfr3 : w3.ownsRow W0.heap.size 45 2 (.slice (some ⟨bf, 0, none⟩) g.funcs.length fc) g.funcs.length (FS fs) := hf3.own HFR.out (fun i hi hs => own_ne (E.out.op.code.1 t.row (List.mem_map_of_mem (List.mem_of_getElem? HTI.out))) HFR.out (by decide) i hs hi)
          have s1 := (hfr3.cellAt (f * 2 + 1) (by omega)).trans (FS_at HTI.out).2
          have s2 := hfr3.frozenAt (f * 2 + 1)
          have s0 := (hob3.cell 0).trans rfl
          have s5 : ∀ v, (w3.setCell ⟨bf, f * 2 + 1, none⟩ v).cell? ⟨b, 0, none⟩ = some (.slice (some ⟨bf, 0, none⟩) g.funcs.length fc) := fun v => ((hob3.far (p := ⟨bf, f * 2 + 1, none⟩) hbne v).cell 0).trans rfl
          clear hob3 hbel3 hf3 ho3 hfr3 hwq
          refine hK.out _ _ s0 (fun hHeld => ?_)
          clear hK K
          try simp only [Act.put, List.setIfInBounds_toArray, List.set_cons_zero, List.set_cons_succ]
          refine take_yes (i := 15) (v := ?v29) rfl (by kernel_rfl) (by kernel_rfl) (by kernel_rfl) (fun _ _ _ h => h) (by rfl) (by assumption) ?hy29 ?rest29
          case hy29 => (intro w hSw; go_simp; try (with_reducible rfl))
          try simp only [Act.put, List.setIfInBounds_toArray, List.set_cons_zero, List.set_cons_succ]
          refine take_yes (i := 16) (v := ?v30) rfl (by kernel_rfl) (by kernel_rfl) (by kernel_rfl) (fun _ _ _ h => h) (by rfl) (by assumption) ?hy30 ?rest30
          case hy30 => (intro w hSw; go_simp; try (with_reducible rfl))
          try simp only [Act.put, List.setIfInBounds_toArray, List.set_cons_zero, List.set_cons_succ]
          refine ready_one (i := 17) rfl (by kernel_rfl) (fun K hK => ?_)
          go_simp
          refine hK.out _ _ (s5 _) (fun hHeld => ?_)
          clear hK K
          try simp only [Act.put, List.setIfInBounds_toArray, List.set_cons_zero, List.set_cons_succ]
          refine wpAnyH_done (by kernel_rfl) ?_ _
          refine NoPanic.normal ?_
          go_wp2_with fail
          go_meet
          exact HQ.out
        · go_simp
          refine hK.out _ _ (c0a _) (fun hHeld => ?_)
          clear hK K
          try simp only [Act.put, List.setIfInBounds_toArray, List.set_cons_zero, List.set_cons_succ]
          have r1b := r1a (.cells #[.int .i64 op, .int .i64 a3] 47)
          refine ready_one (i := 8) rfl (by kernel_rfl) (fun K hK => ?_)
          go_simp
          refine hK.out _ _ (c0a _) (fun hHeld => ?_)
          clear hK K
          try simp only [Act.put, List.setIfInBounds_toArray, List.set_cons_zero, List.set_cons_succ]
          refine ready_one (i := 14) rfl (by kernel_rfl) (fun K hK => ?_)
          refine step_append_any _ (by rfl) (.tmp 109) (.tmp 114) _ (by rfl) W0.heap.size 47 m0 _ 2 16 Try.underlying43 hm0 hw0 hw1 hw2 rfl (by decide) (.slice t.A t.f.code.length t.c) t.f.code.length (CS t.f.code) (by rfl) (HRC.out.drew.alloc _) (U1.heap.size + 1) (some ⟨U1.heap.size, 0, none⟩) 1 1 [.int .i64 op, .int .i64 a3] (by rfl) (reads_new2 U1.drew (.int .i64 op) (.int .i64 a3) _) (by intro u hu; simp at hu; rcases hu with rfl | rfl <;> rfl) (by unfold maxLen; omega) (by omega) (by simp; omega) ?_
          intro v3 w3 hown3 hg3 hat3
          obtain ⟨A9, c9, rfl, _, _⟩ := own_slice hown3
          have hf3 : Fr (fun i => t.val.ownBlock = some i) U1 w3 := ((Fr.refl _ U1).drew.alloc _).trans (Fr.of_grown hg3) (fun i _ h => h)
          have ho3 : w3.ownsRow W0.heap.size 47 2 (.slice A9 (t.f.code.length + 1) c9) (t.f.code.length + 1) (CS (t.f.code ++ [⟨op, a3⟩])) := by rw [← CS_append]; exact hown3
          have hob3 : Blk w3 b 26 _ := (E.out.ob.drew.alloc _).grown hg3 (fun e => own_blk_ne HRC.out E.out.ob (by decide) e.symm)
          have hbel3 : Below W0.heap.size W0 w3 := (E.out.bel.drew.alloc zw _).grown hg3 (by simp; omega) (fun r hr => by have := (HRC.out.lt r hr).1; omega)
          clear hown3 hg3 hat3
          have hwq := E.out.op.wq_code (t' := (TF.mk (FV.mk t.f.locals (t.f.code ++ [⟨op, a3⟩])) A9 c9)) g.mutexes g.threads HTI.out (by rw [HFN.out]) rfl hf3 (by simpa [TF.val] using ho3)
          rw [show TF.val (TF.mk (FV.mk t.f.locals (t.f.code ++ [⟨op, a3⟩])) A9 c9) = .slice A9 (t.f.code.length + 1) c9 from by simp [TF.val]] at hwq
          have HQ := Lib.hid (edge_of (hob3.far (p := ⟨bf, f * 2 + 1, none⟩) hbne (.slice A9 (t.f.code.length + 1) c9)) hwq rfl rfl (HSH.out _ _ _ _ _ _ _ (HSF.out (TF.mk (FV.mk t.f.locals (t.f.code ++ [⟨op, a3⟩])) A9 c9) (by simp; omega)).1 (HSF.out (TF.mk (FV.mk t.f.locals (t.f.code ++ [⟨op, a3⟩])) A9 c9) (by simp; omega)).2 (by omega) (by omega) (by omega) (by have := HX1.out.1; omega) (fun l hl => by have := HX1.out.2 l hl; omega)) (hbel3.setCell (p := ⟨bf, f * 2 + 1, none⟩) hbb _))
          have hfr3 : w3.ownsRow W0.heap.size 45 2 (.slice (some ⟨bf, 0, none⟩) g.funcs.length fc) g.funcs.length (FS fs) := hf3.own HFR.out (fun i hi hs => own_ne (E.out.op.code.1 t.row (List.mem_map_of_mem (List.mem_of_getElem? HTI.out))) HFR.out (by decide) i hs hi)
          have s1 := (hfr3.cellAt (f * 2 + 1) (by omega)).trans (FS_at HTI.out).2
          have s2 := hfr3.frozenAt (f * 2 + 1)
          have s0 := (hob3.cell 0).trans rfl
          have s5 : ∀ v, (w3.setCell ⟨bf, f * 2 + 1, none⟩ v).cell? ⟨b, 0, none⟩ = some (.slice (some ⟨bf, 0, none⟩) g.funcs.length fc) := fun v => ((hob3.far (p := ⟨bf, f * 2 + 1, none⟩) hbne v).cell 0).trans rfl
          clear hob3 hbel3 hf3 ho3 hfr3 hwq
          refine hK.out _ _ s0 (fun hHeld => ?_)
          clear hK K
          try simp only [Act.put, List.setIfInBounds_toArray, List.set_cons_zero, List.set_cons_succ]
          refine take_yes (i := 15) (v := ?v31) rfl (by kernel_rfl) (by kernel_rfl) (by kernel_rfl) (fun _ _ _ h => h) (by rfl) (by assumption) ?hy31 ?rest31
          case hy31 => (intro w hSw; go_simp; try (with_reducible rfl))
          try simp only [Act.put, List.setIfInBounds_toArray, List.set_cons_zero, List.set_cons_succ]
          refine take_yes (i := 16) (v := ?v32) rfl (by kernel_rfl) (by kernel_rfl) (by kernel_rfl) (fun _ _ _ h => h) (by rfl) (by assumption) ?hy32 ?rest32
          case hy32 => (intro w hSw; go_simp; try (with_reducible rfl))
          try simp only [Act.put, List.setIfInBounds_toArray, List.set_cons_zero, List.set_cons_succ]
          refine ready_one (i := 17) rfl (by kernel_rfl) (fun K hK => ?_)
          go_simp
          refine hK.out _ _ (s5 _) (fun hHeld => ?_)
          clear hK K
          try simp only [Act.put, List.setIfInBounds_toArray, List.set_cons_zero, List.set_cons_succ]
          refine wpAnyH_done (by kernel_rfl) ?_ _
          refine NoPanic.normal ?_
          go_wp2_with fail
          go_meet
          exact HQ.out
    · have hfr := E.out.op.frow
      rw [HFN.out] at hfr
      obtain ⟨bf, cap, hv, hbb, hbz⟩ := hfr.form (by omega)
      injection hv with hv1 _ hv2
      subst hv1 hv2
      have hti : fs[f]? = some (fs[f]'(by have := HFN.out; omega)) := List.getElem?_eq_getElem _
      generalize fs[f]'(by have := HFN.out; omega) = t at hti
      obtain ⟨e0, e1⟩ := FS_at hti
      have r0 := (hfr.cellAt (f * 2) (by omega)).trans e0
      have r1 := (hfr.cellAt (f * 2 + 1) (by omega)).trans e1
      have q0' := hfr.frozenAt (f * 2)
      have q1' := hfr.frozenAt (f * 2 + 1)
      have i1 : (f : Int) < (g.funcs.length : Int) := by omega
      have i2 : (0 : Int) ≤ (f : Int) := by omega
      have hbne : b ≠ bf := fun e => own_blk_ne hfr E.out.ob (by decide) (by simp [Value.ownBlock, e])
      have htc : t.f.code.length ≤ 64 := HF1.out.2 t.f (List.mem_map_of_mem (List.mem_of_getElem? hti))
      have hbz2 : bf < U1.heap.size := hbz
      have hSF : ∀ t' : TF, t'.f.code.length ≤ 100 → ((fs.set f t').map TF.f).length ≤ 1000 ∧ ∀ u ∈ (fs.set f t').map TF.f, u.code.length ≤ 1000 := fun t' h => by
        refine ⟨by have := HF1.out.1; simp at this; simp; omega, fun u hu => ?_⟩
        obtain ⟨u', hu', rfl⟩ := List.mem_map.1 hu
        rcases List.mem_or_eq_of_mem_set hu' with h' | h'
        · have := HF1.out.2 u'.f (List.mem_map_of_mem h'); omega
        · rw [h']; omega
      have HSF := Lib.hid hSF; have HTI := Lib.hid hti; have HFR := Lib.hid hfr
      clear hSF hti e0 e1 hfr
      have hn70 := around_bd a3 70 (by omega)
      obtain ⟨n70, hn7⟩ : ∃ n : Nat, around a3 70 = (n : Int) := ⟨(around a3 70).toNat, by omega⟩
      have hnle : n70 < 70 := by omega
      have hmk := run_make_instr n70 (by omega)
      go_upto_region 4 with fail
      refine wp_region_noPanic ?_
      refine wp_region_held_drew (S := fun w' => w'.cell? ⟨b, 0, none⟩ = some (.slice (some ⟨bf, 0, none⟩) g.funcs.length fc)) (by kernel_rfl) (by exact c0) (fun hHeld => ?_)
      refine take_yes (i := 0) (v := ?v33) rfl (by kernel_rfl) (by kernel_rfl) (by kernel_rfl) (fun _ _ _ h => h) (by rfl) (by assumption) ?hy33 ?rest33
      case hy33 => (intro w hSw; go_simp; try (with_reducible rfl))
      try simp only [Act.put, List.setIfInBounds_toArray, List.set_cons_zero, List.set_cons_succ]
      refine take_yes (i := 1) (v := ?v34) rfl (by kernel_rfl) (by kernel_rfl) (by kernel_rfl) (fun _ _ _ h => h) (by rfl) (by assumption) ?hy34 ?rest34
      case hy34 => (intro w hSw; go_simp; try (with_reducible rfl))
      try simp only [Act.put, List.setIfInBounds_toArray, List.set_cons_zero, List.set_cons_succ]
      refine take_yes (i := 2) (v := ?v35) rfl (by kernel_rfl) (by kernel_rfl) (by kernel_rfl) (fun _ _ _ h => h) (by rfl) (by assumption) ?hy35 ?rest35
      case hy35 => (intro w hSw; go_simp; try (with_reducible rfl))
      try simp only [Act.put, List.setIfInBounds_toArray, List.set_cons_zero, List.set_cons_succ]
      refine take_yes (i := 3) (v := ?v36) rfl (by kernel_rfl) (by kernel_rfl) (by kernel_rfl) (fun _ _ _ h => h) (by rfl) (by assumption) ?hy36 ?rest36
      case hy36 => (intro w hSw; go_simp; try (with_reducible rfl))
      try simp only [Act.put, List.setIfInBounds_toArray, List.set_cons_zero, List.set_cons_succ]
      refine ready_one (i := 4) rfl (by kernel_rfl) (fun K hK => ?_)
      go_simp
      refine (around_any a3 70 _ A3.1 A3.2 (by omega) (by omega)).mono ?_
      rintro e w3 ⟨rfl, rfl⟩
      rw [hn7]
      refine hK.out _ _ c0 (fun hHeld => ?_)
      clear hK K
      try simp only [Act.put, List.setIfInBounds_toArray, List.set_cons_zero, List.set_cons_succ]
      refine ready_one (i := 5) rfl (by kernel_rfl) (fun K hK => ?_)
      go_simp
      obtain ⟨w3, hw3⟩ : ∃ X, X = (U1.alloc (.cells (madeCells #[.int .i64 0, .int .i64 0] (n70 * 2)) 47)).drew := ⟨_, rfl⟩
      rw [← hw3]
      have hf3 : Fr (fun i => t.val.ownBlock = some i) U1 w3 := by rw [hw3]; exact ((Fr.refl _ U1).alloc _).drew
      have ho3 : w3.ownsRow W0.heap.size 47 2 (.slice (some ⟨U1.heap.size, 0, none⟩) n70 n70) n70 (CS (List.replicate n70 ⟨0, 0⟩)) := by rw [hw3]; exact (own_made U1 n70 W0.heap.size (by omega) zw).drew
      have hob3 : Blk w3 b 26 #[.slice (some ⟨bf, 0, none⟩) g.funcs.length fc, .int .i64 g.mutexes, .slice cA g.conds.length cc, .slice sA g.semas.length sc, .slice hA g.chans.length hc, .slice xA g.choices.length xc, .int .i64 g.threads] := by rw [hw3]; exact (E.out.ob.alloc _).drew
      have hbel3 : Below W0.heap.size W0 w3 := by rw [hw3]; exact (E.out.bel.alloc zw _).drew
      clear hw3
      have hwq := E.out.op.wq_code (t' := (TF.mk (FV.mk t.f.locals (List.replicate n70 ⟨0, 0⟩)) (some ⟨U1.heap.size, 0, none⟩) n70)) g.mutexes g.threads HTI.out (by rw [HFN.out]) rfl hf3 (by simpa [TF.val] using ho3)
      rw [show TF.val (TF.mk (FV.mk t.f.locals (List.replicate n70 ⟨0, 0⟩)) (some ⟨U1.heap.size, 0, none⟩) n70) = .slice (some ⟨U1.heap.size, 0, none⟩) n70 n70 from by simp [TF.val]] at hwq
      have HQ := Lib.hid (edge_of (hob3.far (p := ⟨bf, f * 2 + 1, none⟩) hbne (.slice (some ⟨U1.heap.size, 0, none⟩) n70 n70)) hwq rfl rfl (HSH.out _ _ _ _ _ _ _ (HSF.out (TF.mk (FV.mk t.f.locals (List.replicate n70 ⟨0, 0⟩)) (some ⟨U1.heap.size, 0, none⟩) n70) (by simp; omega)).1 (HSF.out (TF.mk (FV.mk t.f.locals (List.replicate n70 ⟨0, 0⟩)) (some ⟨U1.heap.size, 0, none⟩) n70) (by simp; omega)).2 (by omega) (by omega) (by omega) (by have := HX1.out.1; omega) (fun l hl => by have := HX1.out.2 l hl; omega)) (hbel3.setCell (p := ⟨bf, f * 2 + 1, none⟩) hbb _))
      have hfr3 : w3.ownsRow W0.heap.size 45 2 (.slice (some ⟨bf, 0, none⟩) g.funcs.length fc) g.funcs.length (FS fs) := hf3.own HFR.out (fun i hi hs => own_ne (E.out.op.code.1 t.row (List.mem_map_of_mem (List.mem_of_getElem? HTI.out))) HFR.out (by decide) i hs hi)
      have s1 := (hfr3.cellAt (f * 2 + 1) (by omega)).trans (FS_at HTI.out).2
      have s2 := hfr3.frozenAt (f * 2 + 1)
      have s0 := (hob3.cell 0).trans rfl
      have s5 : ∀ v, (w3.setCell ⟨bf, f * 2 + 1, none⟩ v).cell? ⟨b, 0, none⟩ = some (.slice (some ⟨bf, 0, none⟩) g.funcs.length fc) := fun v => ((hob3.far (p := ⟨bf, f * 2 + 1, none⟩) hbne v).cell 0).trans rfl
      clear hob3 hbel3 hf3 ho3 hfr3 hwq
      refine hK.out _ _ s0 (fun hHeld => ?_)
      clear hK K
      try simp only [Act.put, List.setIfInBounds_toArray, List.set_cons_zero, List.set_cons_succ]
      refine take_yes (i := 6) (v := ?v37) rfl (by kernel_rfl) (by kernel_rfl) (by kernel_rfl) (fun _ _ _ h => h) (by rfl) (by assumption) ?hy37 ?rest37
      case hy37 => (intro w hSw; go_simp; try (with_reducible rfl))
      try simp only [Act.put, List.setIfInBounds_toArray, List.set_cons_zero, List.set_cons_succ]
      refine take_yes (i := 7) (v := ?v38) rfl (by kernel_rfl) (by kernel_rfl) (by kernel_rfl) (fun _ _ _ h => h) (by rfl) (by assumption) ?hy38 ?rest38
      case hy38 => (intro w hSw; go_simp; try (with_reducible rfl))
      try simp only [Act.put, List.setIfInBounds_toArray, List.set_cons_zero, List.set_cons_succ]
      refine ready_one (i := 8) rfl (by kernel_rfl) (fun K hK => ?_)
      go_simp
      refine hK.out _ _ (s5 _) (fun hHeld => ?_)
      clear hK K
      try simp only [Act.put, List.setIfInBounds_toArray, List.set_cons_zero, List.set_cons_succ]
      refine wpAnyH_done (by kernel_rfl) ?_ _
      refine NoPanic.normal ?_
      go_wp2_with fail
      go_meet
      exact HQ.out
  case rest =>
    clear E HU1 HFS HLS HGL HGS HFN HLN HSH HF1 HX1 c0 c1 c2 c3 c4 c5 c6 y0 y1 y2 y3 y4 y5 y6 hi0 hz0 hz1 hz2 hj0 hy0 hy1 hy2 hz zw zo hcl hsl hhl hxl hk hfl hg1 HZB
    obtain ⟨q, qfA, qfc, qcA, qcc, qsA, qsc, qhA, qhc, qxA, qxc, hkq, hrq, hsq, hbq⟩ := hcut
    have hb0 : Below w.heap.size w wc := H0.out.trans (hbq.mono z0)
    have HKQ : Hid (∀ X, Below wc.heap.size wc X → (X.cell? ⟨b, 0, none⟩ = some (.slice qfA q.funcs.length qfc) ∧ X.cell? ⟨b, 1, none⟩ = some (.int .i64 q.mutexes) ∧ X.cell? ⟨b, 2, none⟩ = some (.slice qcA q.conds.length qcc) ∧ X.cell? ⟨b, 3, none⟩ = some (.slice qsA q.semas.length qsc) ∧ X.cell? ⟨b, 4, none⟩ = some (.slice qhA q.chans.length qhc) ∧ X.cell? ⟨b, 5, none⟩ = some (.slice qxA q.choices.length qxc) ∧ X.cell? ⟨b, 6, none⟩ = some (.int .i64 q.threads)) ∧ RP X wc.heap.size ⟨qfA, qfc, qcA, qcc, qsA, qsc, qhA, qhc, qxA, qxc⟩ q) := fun X hX => ⟨⟨((hkq.below hX hkq.lt).cell 0).trans rfl, ((hkq.below hX hkq.lt).cell 1).trans rfl, ((hkq.below hX hkq.lt).cell 2).trans rfl, ((hkq.below hX hkq.lt).cell 3).trans rfl, ((hkq.below hX hkq.lt).cell 4).trans rfl, ((hkq.below hX hkq.lt).cell 5).trans rfl, ((hkq.below hX hkq.lt).cell 6).trans rfl⟩, hrq.below hX⟩
    have HBX : Hid (∀ X, Below wc.heap.size wc X → Below w.heap.size w X) := fun X hX => hb0.trans (hX.mono hb0.size)
    have HSQ := Lib.hid hsq
    have HLQ : Hid (Lens q) := ⟨by have := hsq.funcs; omega, fun f hf => by have := hsq.code f hf; omega, by have := hsq.conds; omega, by have := hsq.semas; omega, by have := hsq.chans; omega, by have := hsq.choices; omega, fun l hl => by have := hsq.each l hl; omega⟩
    have hX0 := Below.refl wc.heap.size wc
    clear hkq hrq hsq hbq hb0 H0
    obtain ⟨⟨m0, m1, m2, m3, m4, m5, m6⟩, hrg⟩ := HKQ.out wc hX0
    have zzwc := hX0.size
    have HG := Lib.hid hrg
    clear hrg
    rcases bool_cases (mayB q) with hb | hb
    · have HB := Lib.hid hb
      clear hb
      have hc : mayC q = true := by rw [may_eq]; exact HB.out
      have hpt := puts_of q hc
      have HC := Lib.hid hc; have HPT := Lib.hid hpt
      clear hc hpt
      go_wp2_with fail
      refine (write_yes ⟨qfA, qfc, qcA, qcc, qsA, qsc, qhA, qhc, qxA, qxc⟩ q wc wc.heap.size HG.out (by omega) HLQ.out HC.out).mono ?_
      rintro e X2 ⟨A2, c2, rfl, ho2, hY⟩
      have hX2 : Below wc.heap.size wc X2 := hX0.trans (hY.mono zzwc)
      have HYX2 := Lib.hid hY
      clear hY
      have HO2 := Lib.hid ho2
      clear ho2
      clear m0 m1 m2 m3 m4 m5 m6 HG zzwc
      obtain ⟨⟨m0, m1, m2, m3, m4, m5, m6⟩, hrg⟩ := HKQ.out X2 hX2
      have zzX2 := hX2.size
      have HG := Lib.hid hrg
      clear hrg
      go_wp2_with fail
      refine (refMay_any ⟨qfA, qfc, qcA, qcc, qsA, qsc, qhA, qhc, qxA, qxc⟩ q X2 wc.heap.size HG.out (by omega) HLQ.out).mono ?_
      rintro e X3 ⟨rfl, hY⟩
      have hX3 : Below wc.heap.size wc X3 := hX2.trans (hY.mono zzX2)
      have HYX3 := Lib.hid hY
      clear hY
      rw [HB.out]
      clear m0 m1 m2 m3 m4 m5 m6 HG zzX2
      obtain ⟨⟨m0, m1, m2, m3, m4, m5, m6⟩, hrg⟩ := HKQ.out X3 hX3
      have zzX3 := hX3.size
      have HG := Lib.hid hrg
      clear hrg
      go_wp2_with fail
      refine (mayC_any ⟨qfA, qfc, qcA, qcc, qsA, qsc, qhA, qhc, qxA, qxc⟩ q X3 wc.heap.size HG.out (by omega) HLQ.out).mono ?_
      rintro e X4 ⟨rfl, hY⟩
      have hX4 : Below wc.heap.size wc X4 := hX3.trans (hY.mono zzX3)
      have HYX4 := Lib.hid hY
      clear hY
      rw [HC.out]
      clear m0 m1 m2 m3 m4 m5 m6 HG zzX3
      have HBY : Hid (Reads X4 X2.heap.size 1 A2 (progL q).length (BS (progL q))) := ((Reads.of_own HO2.out).below (HYX3.out.trans (HYX4.out.mono HYX3.out.size)))
      have hzx : X2.heap.size ≤ X4.heap.size := Nat.le_trans HYX3.out.size HYX4.out.size
      have HRD := Lib.hid (read_any (progL q) (progL q).length rfl (progL_lt q) X4 X2.heap.size A2 c2 HBY.out hzx (progL_len HPT.out))
      clear hzx
      go_wp2_with fail
      refine HRD.out.mono ?_
      rintro e X5 ⟨hd5, he, hrp5, hb5⟩
      have hrb := read_back q HB.out
      rw [hrb.1, hrb.2] at he
      rw [hrb.2] at hrp5
      subst he
      obtain ⟨rfA, rfc, rcA, rcc, rsA, rsc, rhA, rhc, rxA, rxc⟩ := hd5
      simp only at hrp5 ⊢
      obtain ⟨U5, hU5⟩ : ∃ X, X = X5.alloc (.cells #[.slice rfA q.funcs.length rfc, .int .i64 q.mutexes, .slice rcA q.conds.length rcc, .slice rsA q.semas.length rsc, .slice rhA q.chans.length rhc, .slice rxA q.choices.length rxc, .int .i64 q.threads] 26) := ⟨_, rfl⟩
      have hba5 : Below X5.heap.size X5 U5 := by rw [hU5]; exact (Below.refl _ _).alloc (Nat.le_refl _) _
      have hk5 : Blk U5 X5.heap.size 26 #[.slice rfA q.funcs.length rfc, .int .i64 q.mutexes, .slice rcA q.conds.length rcc, .slice rsA q.semas.length rsc, .slice rhA q.chans.length rhc, .slice rxA q.choices.length rxc, .int .i64 q.threads] := by rw [hU5]; exact Blk.new _ _ _
      have hX5 : Below wc.heap.size wc X5 := hX4.trans (hb5.mono hX4.size)
      have hUX5 : Below wc.heap.size wc U5 := hX5.trans (hba5.mono hX5.size)
      have HU5 := Lib.hid hU5.symm
      have hr5 := (hrp5.below hba5).more hba5.size
      obtain ⟨r0, r1, r2, r3, r4, r5, r6⟩ : U5.cell? ⟨X5.heap.size, 0, none⟩ = some (.slice rfA q.funcs.length rfc) ∧ U5.cell? ⟨X5.heap.size, 1, none⟩ = some (.int .i64 q.mutexes) ∧ U5.cell? ⟨X5.heap.size, 2, none⟩ = some (.slice rcA q.conds.length rcc) ∧ U5.cell? ⟨X5.heap.size, 3, none⟩ = some (.slice rsA q.semas.length rsc) ∧ U5.cell? ⟨X5.heap.size, 4, none⟩ = some (.slice rhA q.chans.length rhc) ∧ U5.cell? ⟨X5.heap.size, 5, none⟩ = some (.slice rxA q.choices.length rxc) ∧ U5.cell? ⟨X5.heap.size, 6, none⟩ = some (.int .i64 q.threads) := ⟨((hk5).cell 0).trans rfl, ((hk5).cell 1).trans rfl, ((hk5).cell 2).trans rfl, ((hk5).cell 3).trans rfl, ((hk5).cell 4).trans rfl, ((hk5).cell 5).trans rfl, ((hk5).cell 6).trans rfl⟩
      have HR5 := Lib.hid hr5
      clear hU5 hba5 hk5 hrp5 hb5 hrb HRD hr5
      go_upto_region 30 with fail
      rw [HU5.out]
      obtain ⟨⟨m0, m1, m2, m3, m4, m5, m6⟩, hrg⟩ := HKQ.out U5 hUX5
      have zzU5 := hUX5.size
      have HG := Lib.hid hrg
      clear hrg
      go_wp2_with fail
      refine (refSame_any ⟨qfA, qfc, qcA, qcc, qsA, qsc, qhA, qhc, qxA, qxc⟩ ⟨rfA, rfc, rcA, rcc, rsA, rsc, rhA, rhc, rxA, rxc⟩ q q U5 (HG.out.more zzU5) HR5.out HSQ.out HSQ.out).mono ?_
      rintro e X6 ⟨rfl, hY⟩
      have hX6 : Below wc.heap.size wc X6 := hUX5.trans (hY.mono zzU5)
      clear hY
      rw [show decide (q = q) = true from decide_eq_true rfl]
      clear m0 m1 m2 m3 m4 m5 m6 r0 r1 r2 r3 r4 r5 r6 HG zzU5
      go_wp2_with fail
      refine (clives_any _).mono ?_
      rintro e w11 ⟨rfl, hb11⟩
      have HFIN : Hid (Below w.heap.size w w11) := HBX.out _ (hX6.trans (hb11.mono hX6.size))
      clear hb11
      go_wp2_with fail
      go_ret
      exact ⟨rfl, HFIN.out⟩
    · have HB := Lib.hid hb
      clear hb
      have hc : mayC q = false := by rw [may_eq]; exact HB.out
      have HC := Lib.hid hc
      clear hc
      go_wp2_with fail
      refine (write_no ⟨qfA, qfc, qcA, qcc, qsA, qsc, qhA, qhc, qxA, qxc⟩ q wc wc.heap.size HG.out (by omega) HLQ.out HC.out).mono ?_
      rintro e X2 ⟨rfl, hY⟩
      have hX2 : Below wc.heap.size wc X2 := hX0.trans (hY.mono zzwc)
      have HYX2 := Lib.hid hY
      clear hY
      clear m0 m1 m2 m3 m4 m5 m6 HG zzwc
      obtain ⟨⟨m0, m1, m2, m3, m4, m5, m6⟩, hrg⟩ := HKQ.out X2 hX2
      have zzX2 := hX2.size
      have HG := Lib.hid hrg
      clear hrg
      go_wp2_with fail
      refine (refMay_any ⟨qfA, qfc, qcA, qcc, qsA, qsc, qhA, qhc, qxA, qxc⟩ q X2 wc.heap.size HG.out (by omega) HLQ.out).mono ?_
      rintro e X3 ⟨rfl, hY⟩
      have hX3 : Below wc.heap.size wc X3 := hX2.trans (hY.mono zzX2)
      have HYX3 := Lib.hid hY
      clear hY
      rw [HB.out]
      clear m0 m1 m2 m3 m4 m5 m6 HG zzX2
      obtain ⟨⟨m0, m1, m2, m3, m4, m5, m6⟩, hrg⟩ := HKQ.out X3 hX3
      have zzX3 := hX3.size
      have HG := Lib.hid hrg
      clear hrg
      go_wp2_with fail
      refine (mayC_any ⟨qfA, qfc, qcA, qcc, qsA, qsc, qhA, qhc, qxA, qxc⟩ q X3 wc.heap.size HG.out (by omega) HLQ.out).mono ?_
      rintro e X4 ⟨rfl, hY⟩
      have hX4 : Below wc.heap.size wc X4 := hX3.trans (hY.mono zzX3)
      have HYX4 := Lib.hid hY
      clear hY
      rw [HC.out]
      clear m0 m1 m2 m3 m4 m5 m6 HG zzX3
      go_wp2_with fail
      refine (clives_any _).mono ?_
      rintro e w11 ⟨rfl, hb11⟩
      have HFIN : Hid (Below w.heap.size w w11) := HBX.out _ (hX4.trans (hb11.mono hX4.size))
      clear hb11
      go_wp2_with fail
      go_ret
      exact ⟨rfl, HFIN.out⟩
end Go.Proofs.Ytmjbfobjndiecaa.codeEdges
