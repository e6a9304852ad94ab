
/-
  The document's Enter, Jump, Set, Get.
-/
import Derived.Test.YtkciedcfphhenaaRefTC
import Derived.Deep.RegionHeld3
import Derived.Deep.AppendLies
import Derived.Deep.RegionLaw
import Derived.Deep.RegionHeld
import Derived.Deep.DeepCutAuto
import Derived.Deep.CutBlock
set_option linter.unusedVariables false
set_option linter.unusedSimpArgs false
namespace Go.Proofs.Ytkciedcfphhenaa
open Go.RowKit Plain

set_option maxHeartbeats 4000000 in
set_option maxRecDepth 100000 in
theorem refJump_yes (h : TH) (t : TV) (k : Nat) (f : FrV) (pc : Int) (w : World) (D : Nat → Prop) (hr : RT w D h t) (hl : LensT t) (hroom : t.frames.length = k + 1 ∧ k < 1000000 ∧ t.frames[k]? = some f) :
    Calls Try.prog 35 #[.agg #[.int .i64 t.state, .int .i64 t.on, .slice h.fA t.frames.length h.fc, .slice h.sA t.stack.length h.sc, .int .i64 t.code], .int .i64 pc] w
      fun e w' => ∃ h' : TH, e = .returned (.agg #[.int .i64 t.state, .int .i64 t.on, .slice h'.fA (k + 1) h'.fc, .slice h'.sA t.stack.length h'.sc, .int .i64 t.code]) ∧ RT w' (fun i => w.heap.size ≤ i) h' { t with frames := t.frames.set k { f with pc := pc } } ∧ (Below w.heap.size w w') := by
  have hlen1 := hl.stack
  have hlen2 := hl.frames
  have hcl := fun (W : World) (hW : RT W D h t) => refClone_any h t W D hW hl
  have HC := Lib.hid hcl
  obtain ⟨hlen, hk6, hfr⟩ := hroom
  have HLEN := Lib.hid hlen; have HFR := Lib.hid hfr
  clear hlen hfr
  obtain ⟨tA, tc, kA, kc⟩ := h
  have HR := Lib.hid hr
  clear hr hcl hl
  go_enter Try.func35, Try.ntmps35
  go_wp2_with fail
  refine (HC.out _ ((HR.out.alloc _).alloc _)).mono ?_
  rintro e w1 ⟨A, c, qA, qc, ts, rfl, hot, hb⟩
  have hz : ((w.alloc (.cells #[.int .i64 t.state, .int .i64 t.on, .slice tA t.frames.length tc, .slice kA t.stack.length kc, .int .i64 t.code] 29)).alloc (.cells #[.int .i64 0, .int .i64 0, .slice none 0 0, .slice none 0 0, .int .i64 0] 29)).heap.size = w.heap.size + 1 + 1 := by simp
  have hrb : Blk ((w.alloc (.cells #[.int .i64 t.state, .int .i64 t.on, .slice tA t.frames.length tc, .slice kA t.stack.length kc, .int .i64 t.code] 29)).alloc (.cells #[.int .i64 0, .int .i64 0, .slice none 0 0, .slice none 0 0, .int .i64 0] 29)) (w.heap.size + 1) 29 #[.int .i64 0, .int .i64 0, .slice none 0 0, .slice none 0 0, .int .i64 0] := by simpa using Blk.new (w.alloc (.cells #[.int .i64 t.state, .int .i64 t.on, .slice tA t.frames.length tc, .slice kA t.stack.length kc, .int .i64 t.code] 29)) 29 #[.int .i64 0, .int .i64 0, .slice none 0 0, .slice none 0 0, .int .i64 0]
  have hwk := wk_of (w := w) hrb (((Below.refl _ _).alloc (Nat.le_refl _) _).alloc (by simp) _) (by omega) hot hb
  rw [hz] at hwk
  have HW := Lib.hid hwk
  obtain ⟨ob, hob⟩ : ∃ b, b = w1.heap.size := ⟨_, rfl⟩
  clear hot hb hwk hrb hz HR HC
  go_upto_region 2 with fail
  obtain ⟨W3, hW3⟩ : ∃ W, W = w1.alloc (.cells #[.int .i64 t.state, .int .i64 t.on, .slice A t.frames.length c, .slice qA t.stack.length qc, .int .i64 t.code] 29) := ⟨_, rfl⟩
  rw [← hW3, ← hob] at HW
  rw [← hW3, ← hob]
  clear hW3 hob
  obtain ⟨b, cap, hv, hgb, hgz⟩ := HW.out.ot.row.form (by have := HLEN.out; omega)
  injection hv with hv1 _ hv2
  subst hv1 hv2
  obtain ⟨x, hx, hxf⟩ : ∃ x, ts[k]? = some x ∧ x.f = f := by
    have h0 := HFR.out
    rw [← HW.out.ot.fs, List.getElem?_map] at h0
    cases hxk : ts[k]? with
    | none => rw [hxk] at h0; simp at h0
    | some x => rw [hxk] at h0; simp at h0; exact ⟨x, rfl, h0⟩
  subst hxf
  have hnl : k < ts.length := (List.getElem?_eq_some_iff.1 hx).1
  obtain ⟨e0, e1, e2⟩ := FrS_at hx
  have HX := Lib.hid hx
  have d0 := (HW.out.ot.row.cellAt (k * 3) (by have := HLEN.out; omega)).trans e0
  have d1 := (HW.out.ot.row.cellAt (k * 3 + 1) (by have := HLEN.out; omega)).trans e1
  have d2 := (HW.out.ot.row.cellAt (k * 3 + 2) (by have := HLEN.out; omega)).trans e2
  have g1 := HW.out.ot.row.frozenAt (k * 3 + 1)
  have x2 : W3.cell? ⟨ob, 2, none⟩ = some (.slice (some ⟨b, 0, none⟩) (k + 1) c) := (HW.out.bx.cell 2).trans (by simp [HLEN.out])
  have hzb : b < W3.heap.size := hgz
  clear hx e0 e1 e2 hnl hgz
  have zob := HW.out.bx.lt
  have zrb := HW.out.rs.lt
  go_upto_region 3 with fail
  have hfin := fin_jump HW.out HX.out pc
  obtain ⟨W4, hW4⟩ : ∃ W, W = W3.setCell ⟨b, k * 3 + 1, none⟩ (.int .i64 pc) := ⟨_, rfl⟩
  rw [← hW4] at hfin ⊢
  have hlk : (t.frames.set k { x.f with pc := pc }).length = k + 1 := by rw [List.length_set, HLEN.out]
  have HLK := Lib.hid hlk
  have HFIN := Lib.hid hfin
  clear hfin hW4 d0 d1 d2 g1 x2 zob zrb HW hlk
  have hfb := HFIN.out.bx
  have hfr := HFIN.out.rs
  have q0 := (hfb.cell 0).trans rfl
  have qf0 := hfb.frozen 0
  have q1 := (hfb.cell 1).trans rfl
  have qf1 := hfb.frozen 1
  have q2 := (hfb.cell 2).trans rfl
  have qf2 := hfb.frozen 2
  have q3 := (hfb.cell 3).trans rfl
  have qf3 := hfb.frozen 3
  have q4 := (hfb.cell 4).trans rfl
  have qf4 := hfb.frozen 4
  have r0 : W4.cell? ⟨w.heap.size + 1, 0, none⟩ = some (.int .i64 0) := (hfr.cell 0).trans rfl
  have u0 : W4.frozen? ⟨w.heap.size + 1, 0, none⟩ = false := hfr.frozen 0
  have r1 : W4.cell? ⟨w.heap.size + 1, 1, none⟩ = some (.int .i64 0) := (hfr.cell 1).trans rfl
  have u1 : W4.frozen? ⟨w.heap.size + 1, 1, none⟩ = false := hfr.frozen 1
  have r2 : W4.cell? ⟨w.heap.size + 1, 2, none⟩ = some (.slice none 0 0) := (hfr.cell 2).trans rfl
  have u2 : W4.frozen? ⟨w.heap.size + 1, 2, none⟩ = false := hfr.frozen 2
  have r3 : W4.cell? ⟨w.heap.size + 1, 3, none⟩ = some (.slice none 0 0) := (hfr.cell 3).trans rfl
  have u3 : W4.frozen? ⟨w.heap.size + 1, 3, none⟩ = false := hfr.frozen 3
  have r4 : W4.cell? ⟨w.heap.size + 1, 4, none⟩ = some (.int .i64 0) := (hfr.cell 4).trans rfl
  have u4 : W4.frozen? ⟨w.heap.size + 1, 4, none⟩ = false := hfr.frozen 4
  have zo4 := hfb.lt
  have zr4 := hfr.lt
  clear hfb hfr
  simp only [HLK.out] at q2
  go_wp2_with fail
  have hret := HFIN.out.ret
  simp only [HLK.out] at hret
  refine bodyPost_ret (v := .agg #[.int .i64 t.state, .int .i64 t.on, .slice (some ⟨b, 0, none⟩) (k + 1) c, .slice qA t.stack.length qc, .int .i64 t.code]) (results_cell_row rfl _ _ (w.heap.size + 1) 29 _ (0, 0) _ rfl (Blk.set5 HFIN.out.rs (.int .i64 t.state) (.int .i64 t.on) (.slice (some ⟨b, 0, none⟩) (k + 1) c) (.slice qA t.stack.length qc) (.int .i64 t.code)) Try.underlying29 rfl (by kernel_rfl)) rfl ?_
  exact ⟨⟨(some ⟨b, 0, none⟩), c, qA, qc⟩, rfl, hret⟩

set_option maxHeartbeats 4000000 in
set_option maxRecDepth 100000 in
theorem refSet_yes (h : TH) (t : TV) (k : Nat) (f : FrV) (i : Nat) (v z : Int) (w : World) (D : Nat → Prop) (hr : RT w D h t) (hl : LensT t) (hroom : t.frames.length = k + 1 ∧ k < 1000000 ∧ t.frames[k]? = some f ∧ f.locals[i]? = some z ∧ f.locals.length ≤ 1000000) :
    Calls Try.prog 42 #[.agg #[.int .i64 t.state, .int .i64 t.on, .slice h.fA t.frames.length h.fc, .slice h.sA t.stack.length h.sc, .int .i64 t.code], .int .i64 (i : Int), .int .i64 v] w
      fun e w' => ∃ h' : TH, e = .returned (.agg #[.int .i64 t.state, .int .i64 t.on, .slice h'.fA (k + 1) h'.fc, .slice h'.sA t.stack.length h'.sc, .int .i64 t.code]) ∧ RT w' (fun i => w.heap.size ≤ i) h' { t with frames := t.frames.set k { f with locals := f.locals.set i (keep v) } } ∧ (Below w.heap.size w w') := by
  have hlen1 := hl.stack
  have hlen2 := hl.frames
  have hcl := fun (W : World) (hW : RT W D h t) => refClone_any h t W D hW hl
  have HC := Lib.hid hcl
  obtain ⟨hlen, hk6, hfr, hli, hl6⟩ := hroom
  have HLI := Lib.hid hli
  have hil : i < f.locals.length := (List.getElem?_eq_some_iff.1 hli).1
  clear hli
  have HLEN := Lib.hid hlen; have HFR := Lib.hid hfr
  clear hlen hfr
  obtain ⟨tA, tc, kA, kc⟩ := h
  have HR := Lib.hid hr
  clear hr hcl hl
  go_enter Try.func42, Try.ntmps42
  go_wp2_with fail
  refine (HC.out _ ((HR.out.alloc _).alloc _)).mono ?_
  rintro e w1 ⟨A, c, qA, qc, ts, rfl, hot, hb⟩
  have hz : ((w.alloc (.cells #[.int .i64 t.state, .int .i64 t.on, .slice tA t.frames.length tc, .slice kA t.stack.length kc, .int .i64 t.code] 29)).alloc (.cells #[.int .i64 0, .int .i64 0, .slice none 0 0, .slice none 0 0, .int .i64 0] 29)).heap.size = w.heap.size + 1 + 1 := by simp
  have hrb : Blk ((w.alloc (.cells #[.int .i64 t.state, .int .i64 t.on, .slice tA t.frames.length tc, .slice kA t.stack.length kc, .int .i64 t.code] 29)).alloc (.cells #[.int .i64 0, .int .i64 0, .slice none 0 0, .slice none 0 0, .int .i64 0] 29)) (w.heap.size + 1) 29 #[.int .i64 0, .int .i64 0, .slice none 0 0, .slice none 0 0, .int .i64 0] := by simpa using Blk.new (w.alloc (.cells #[.int .i64 t.state, .int .i64 t.on, .slice tA t.frames.length tc, .slice kA t.stack.length kc, .int .i64 t.code] 29)) 29 #[.int .i64 0, .int .i64 0, .slice none 0 0, .slice none 0 0, .int .i64 0]
  have hwk := wk_of (w := w) hrb (((Below.refl _ _).alloc (Nat.le_refl _) _).alloc (by simp) _) (by omega) hot hb
  rw [hz] at hwk
  have HW := Lib.hid hwk
  obtain ⟨ob, hob⟩ : ∃ b, b = w1.heap.size := ⟨_, rfl⟩
  clear hot hb hwk hrb hz HR HC
  go_upto_region 2 with fail
  obtain ⟨W3, hW3⟩ : ∃ W, W = w1.alloc (.cells #[.int .i64 t.state, .int .i64 t.on, .slice A t.frames.length c, .slice qA t.stack.length qc, .int .i64 t.code] 29) := ⟨_, rfl⟩
  rw [← hW3, ← hob] at HW
  rw [← hW3, ← hob]
  clear hW3 hob
  obtain ⟨b, cap, hv, hgb, hgz⟩ := HW.out.ot.row.form (by have := HLEN.out; omega)
  injection hv with hv1 _ hv2
  subst hv1 hv2
  obtain ⟨x, hx, hxf⟩ : ∃ x, ts[k]? = some x ∧ x.f = f := by
    have h0 := HFR.out
    rw [← HW.out.ot.fs, List.getElem?_map] at h0
    cases hxk : ts[k]? with
    | none => rw [hxk] at h0; simp at h0
    | some x => rw [hxk] at h0; simp at h0; exact ⟨x, rfl, h0⟩
  subst hxf
  have hnl : k < ts.length := (List.getElem?_eq_some_iff.1 hx).1
  obtain ⟨e0, e1, e2⟩ := FrS_at hx
  have HX := Lib.hid hx
  have d0 := (HW.out.ot.row.cellAt (k * 3) (by have := HLEN.out; omega)).trans e0
  have d1 := (HW.out.ot.row.cellAt (k * 3 + 1) (by have := HLEN.out; omega)).trans e1
  have d2 := (HW.out.ot.row.cellAt (k * 3 + 2) (by have := HLEN.out; omega)).trans e2
  have g1 := HW.out.ot.row.frozenAt (k * 3 + 1)
  have x2 : W3.cell? ⟨ob, 2, none⟩ = some (.slice (some ⟨b, 0, none⟩) (k + 1) c) := (HW.out.bx.cell 2).trans (by simp [HLEN.out])
  have hzb : b < W3.heap.size := hgz
  clear hx e0 e1 e2 hnl hgz
  have hox := HW.out.ot.each x (List.mem_of_getElem? HX.out)
  obtain ⟨bL, capL, hvL, hgbL, hgzL⟩ := hox.form (by omega)
  injection hvL with hvL1 _ hvL2
  have HXA := Lib.hid hvL1
  rw [hvL1] at hox d2
  have dL := (hox.cellAt i (by omega)).trans (IS_at HLI.out)
  have gL := hox.frozenAt i
  clear hox hvL1 hvL2 hgbL
  have zob := HW.out.bx.lt
  have zrb := HW.out.rs.lt
  have iw : IntKind.i64.wrap (k : Int) = (k : Int) := IntWalk.i64_in _ (by omega)
  have ik : (k : Int) < (k : Int) + 1 := by omega
  have ii : (i : Int) < (x.f.locals.length : Int) := by omega
  go_cut [] (fun wx => Fin5 w wx (w.heap.size + 1) ob (w.heap.size + 1 + 1) ⟨some ⟨b, 0, none⟩, c, qA, qc⟩ { t with frames := t.frames.set k { x.f with locals := x.f.locals.set i (keep v) } })
  case first =>
    go_region_law (go_simp; refine (refKeep_any v _).mono ?_; rintro e wq ⟨rfl, rfl⟩; go_wp2_with fail)
    all_goals
      go_wp2_with fail
      go_meet
      exact (fin_set HW.out HX.out HXA.out (keep v)).drew
  case rest =>
  have hlk : (t.frames.set k { x.f with locals := x.f.locals.set i (keep v) }).length = k + 1 := by rw [List.length_set, HLEN.out]
  have HLK := Lib.hid hlk
  have HFIN := Lib.hid hcut
  obtain ⟨W4, hW4⟩ : ∃ W, W = wc := ⟨_, rfl⟩
  rw [← hW4] at HFIN ⊢
  clear hcut hW4 d0 d1 d2 dL gL g1 x2 zob zrb HW hlk iw ik ii hil hgzL hzb
  have hfb := HFIN.out.bx
  have hfr := HFIN.out.rs
  have q0 := (hfb.cell 0).trans rfl
  have qf0 := hfb.frozen 0
  have q1 := (hfb.cell 1).trans rfl
  have qf1 := hfb.frozen 1
  have q2 := (hfb.cell 2).trans rfl
  have qf2 := hfb.frozen 2
  have q3 := (hfb.cell 3).trans rfl
  have qf3 := hfb.frozen 3
  have q4 := (hfb.cell 4).trans rfl
  have qf4 := hfb.frozen 4
  have r0 : W4.cell? ⟨w.heap.size + 1, 0, none⟩ = some (.int .i64 0) := (hfr.cell 0).trans rfl
  have u0 : W4.frozen? ⟨w.heap.size + 1, 0, none⟩ = false := hfr.frozen 0
  have r1 : W4.cell? ⟨w.heap.size + 1, 1, none⟩ = some (.int .i64 0) := (hfr.cell 1).trans rfl
  have u1 : W4.frozen? ⟨w.heap.size + 1, 1, none⟩ = false := hfr.frozen 1
  have r2 : W4.cell? ⟨w.heap.size + 1, 2, none⟩ = some (.slice none 0 0) := (hfr.cell 2).trans rfl
  have u2 : W4.frozen? ⟨w.heap.size + 1, 2, none⟩ = false := hfr.frozen 2
  have r3 : W4.cell? ⟨w.heap.size + 1, 3, none⟩ = some (.slice none 0 0) := (hfr.cell 3).trans rfl
  have u3 : W4.frozen? ⟨w.heap.size + 1, 3, none⟩ = false := hfr.frozen 3
  have r4 : W4.cell? ⟨w.heap.size + 1, 4, none⟩ = some (.int .i64 0) := (hfr.cell 4).trans rfl
  have u4 : W4.frozen? ⟨w.heap.size + 1, 4, none⟩ = false := hfr.frozen 4
  have zo4 := hfb.lt
  have zr4 := hfr.lt
  clear hfb hfr
  simp only [HLK.out] at q2
  go_wp2_with fail
  have hret := HFIN.out.ret
  simp only [HLK.out] at hret
  refine bodyPost_ret (v := .agg #[.int .i64 t.state, .int .i64 t.on, .slice (some ⟨b, 0, none⟩) (k + 1) c, .slice qA t.stack.length qc, .int .i64 t.code]) (results_cell_row rfl _ _ (w.heap.size + 1) 29 _ (0, 0) _ rfl (Blk.set5 HFIN.out.rs (.int .i64 t.state) (.int .i64 t.on) (.slice (some ⟨b, 0, none⟩) (k + 1) c) (.slice qA t.stack.length qc) (.int .i64 t.code)) Try.underlying29 rfl (by kernel_rfl)) rfl ?_
  exact ⟨⟨(some ⟨b, 0, none⟩), c, qA, qc⟩, rfl, hret⟩

set_option maxHeartbeats 4000000 in
set_option maxRecDepth 100000 in
theorem refGet_yes (h : TH) (t : TV) (k : Nat) (f : FrV) (i : Nat) (z : Int) (w : World) (D : Nat → Prop) (hr : RT w D h t) (hroom : t.frames.length = k + 1 ∧ k < 1000000 ∧ t.frames[k]? = some f ∧ f.locals[i]? = some z ∧ f.locals.length ≤ 1000000) :
    Calls Try.prog 41 #[.agg #[.int .i64 t.state, .int .i64 t.on, .slice h.fA t.frames.length h.fc, .slice h.sA t.stack.length h.sc, .int .i64 t.code], .int .i64 (i : Int)] w fun e w' => e = .returned (.int .i64 z) ∧ Below w.heap.size w w' := by
  obtain ⟨hlen, hk6, hfr, hli, hl6⟩ := hroom
  have hrg := hr.frames.rg
  obtain ⟨ad, x, hA, hab, hx, c0, c1, c2, hri⟩ := hrg.at_ (k := k) (by omega)
  rw [hfr] at hx
  injection hx with hx
  subst hx
  obtain ⟨al, z', hAL, habL, hz, cL⟩ := hri.at_ (k := i) (List.getElem?_eq_some_iff.1 hli).1
  rw [hli] at hz
  injection hz with hz
  subst hz
  have hil : i < x.f.locals.length := (List.getElem?_eq_some_iff.1 hli).1
  have hbel : Below w.heap.size w (w.alloc (.cells #[.int .i64 t.state, .int .i64 t.on, .slice h.fA t.frames.length h.fc, .slice h.sA t.stack.length h.sc, .int .i64 t.code] 29)) := (Below.refl _ _).alloc (Nat.le_refl _) _
  have d2 := (hbel.cell (p := ⟨(ad.add (k * 3)).block, (ad.add (k * 3)).off + 2, none⟩) (by simpa [block_of_add] using hab)).trans c2
  have dL := (hbel.cell (p := al.add i) (by simpa [block_of_add] using habL)).trans cL
  rw [hAL] at d2
  obtain ⟨tA, tc, kA, kc⟩ := h
  simp only at hA d2 dL ⊢
  subst hA
  rw [hlen] at d2 dL ⊢
  have HB := Lib.hid hbel
  clear hr hlen hfr hli hrg c0 c1 c2 hri cL hbel hAL
  go_enter Try.func41, Try.ntmps41
  go_wp2_with fail
  go_ret
  exact ⟨rfl, (Below.refl _ _).alloc (Nat.le_refl _) _⟩
end Go.Proofs.Ytkciedcfphhenaa
