
/-
  Jump, Set of the program.
-/
import Derived.Test.YtkciedcfphhenaaThrK
import Derived.IntWalk
import Derived.Deep.RegionLaw
import Derived.Deep.RegionHeld
import Derived.Deep.DeepCutAuto
import Derived.Deep.CutBlock
set_option linter.unusedVariables false
set_option linter.unusedSimpArgs false
namespace Go.Proofs.Ytkciedcfphhenaa
open Go.RowKit Plain

set_option maxHeartbeats 4000000 in
set_option maxRecDepth 100000 in
theorem jump_yes (h : TH) (t : TV) (k : Nat) (f : FrV) (pc : Int) (w : World) (D : Nat → Prop) (hr : RT w D h t) (hl : LensT t) (hroom : t.frames.length = k + 1 ∧ k < 1000000 ∧ t.frames[k]? = some f) :
    Calls Try.prog 73 #[.agg #[.int .i64 t.state, .int .i64 t.on, .slice h.fA t.frames.length h.fc, .slice h.sA t.stack.length h.sc, .int .i64 t.code], .int .i64 pc] w
      fun e w' => ∃ h' : TH, e = .returned (.agg #[.int .i64 t.state, .int .i64 t.on, .slice h'.fA (k + 1) h'.fc, .slice h'.sA t.stack.length h'.sc, .int .i64 t.code]) ∧ RT w' (fun i => D i ∨ w.heap.size ≤ i) h' { t with frames := t.frames.set k { f with pc := pc } } ∧ Below w.heap.size w w' := by
  obtain ⟨i0, hi0, hz0, hz1, hz2⟩ := info_parts info_int
  have hshare := fun (W : World) (hW : RT W (fun i => D i ∧ i < w.heap.size) h t) => share_any h t W _ hW hl
  have HS := Lib.hid hshare
  obtain ⟨fA, fc, sA, sc⟩ := h
  have HR := Lib.hid hr.cut
  have HROOM := Lib.hid hroom
  clear hr hshare hl hroom
  go_enter Try.func73, Try.ntmps73
  go_wp2_with fail
  refine (HS.out _ ((HR.out.alloc _).alloc _)).mono ?_
  rintro e w1 ⟨A', c', ts, rfl, hown, hfs, heach, hb⟩
  obtain ⟨W2, hW2⟩ : ∃ W, W = (w.alloc (.cells #[.int .i64 t.state, .int .i64 t.on, .slice fA t.frames.length fc, .slice sA t.stack.length sc, .int .i64 t.code] 29)).alloc (.cells #[.int .i64 0, .int .i64 0, .slice none 0 0, .slice none 0 0, .int .i64 0] 29) := ⟨_, rfl⟩
  have hz : W2.heap.size = w.heap.size + 1 + 1 := by rw [hW2]; simp
  have hbx2 : Blk W2 w.heap.size 29 #[.int .i64 t.state, .int .i64 t.on, .slice fA t.frames.length fc, .slice sA t.stack.length sc, .int .i64 t.code] := by rw [hW2]; exact (Blk.new w _ _).alloc _
  have hrb2 : Blk W2 (w.heap.size + 1) 29 #[.int .i64 0, .int .i64 0, .slice none 0 0, .slice none 0 0, .int .i64 0] := by rw [hW2]; simpa using Blk.new (w.alloc (.cells #[.int .i64 t.state, .int .i64 t.on, .slice fA t.frames.length fc, .slice sA t.stack.length sc, .int .i64 t.code] 29)) 29 #[.int .i64 0, .int .i64 0, .slice none 0 0, .slice none 0 0, .int .i64 0]
  have hbel2 : Below w.heap.size w W2 := by rw [hW2]; exact ((Below.refl w.heap.size w).alloc (Nat.le_refl _) _).alloc (by simp) _
  rw [← hW2] at hown hb heach
  have hri2 : RT W2 (fun i => D i ∧ i < w.heap.size) ⟨fA, fc, sA, sc⟩ t := by rw [hW2]; exact (HR.out.alloc _).alloc _
  clear hW2
  rw [hz] at hown hb
  have hsz := hb.size
  rw [hz] at hsz
  have hbx1 := hbx2.below hb (by omega)
  have hrb1 := hrb2.below hb (by omega)
  have hbel1 : Below w.heap.size w w1 := hbel2.trans (hb.mono (by omega))
  have hst1 : RID w1 (fun i => D i ∧ i < w.heap.size) sA t.stack.length sc t.stack := (hri2.stack).keep fun p hd _ => hb.cell (by omega)
  have hea1 : ∀ x ∈ ts, x.c = x.f.locals.length ∧ RID w1 (fun i => D i ∧ i < w.heap.size) x.A x.f.locals.length x.f.locals.length x.f.locals := fun x hx => ⟨(heach x hx).1, (heach x hx).2.keep fun p hd _ => hb.cell (by omega)⟩
  have x0 := (hbx1.cell 0).trans rfl
  have x1 := (hbx1.cell 1).trans rfl
  have x2 := (hbx1.cell 2).trans rfl
  have x3 := (hbx1.cell 3).trans rfl
  have x4 := (hbx1.cell 4).trans rfl
  have y0 := hbx1.frozen 0
  have y1 := hbx1.frozen 1
  have y2 := hbx1.frozen 2
  have y3 := hbx1.frozen 3
  have y4 := hbx1.frozen 4
  have H1 := Lib.hid hbx1; have H2 := Lib.hid hrb1; have H3 := Lib.hid hbel1; have H4 := Lib.hid hst1; have H5 := Lib.hid hea1; have H6 := Lib.hid hown; have H7 := Lib.hid hfs
  have hlt : w.heap.size + 1 < w1.heap.size := by omega
  have hlt0 : w.heap.size < w1.heap.size := by omega
  have r0 := (H2.out.cell 0).trans rfl
  have u0 := H2.out.frozen 0
  have r1 := (H2.out.cell 1).trans rfl
  have u1 := H2.out.frozen 1
  have r2 := (H2.out.cell 2).trans rfl
  have u2 := H2.out.frozen 2
  have r3 := (H2.out.cell 3).trans rfl
  have u3 := H2.out.frozen 3
  have r4 := (H2.out.cell 4).trans rfl
  have u4 := H2.out.frozen 4
  clear hbx2 hrb2 hbel2 hri2 hown hb heach hbx1 hrb1 hbel1 hst1 hea1 hfs hsz hz
  have hsd := shd_of (w := w) H1.out H2.out (by omega) ⟨Nat.le_refl _, by omega⟩ ⟨by omega, by omega⟩ H6.out H7.out H5.out H4.out H3.out (fun i hi => hi.2)
  have G := Lib.hid hsd
  clear hsd H3 H4 H5 H6 H7
  obtain ⟨hlen, hk6, hfrm⟩ := HROOM.out
  have HLEN := Lib.hid hlen
  have HFRM := Lib.hid hfrm
  clear hlen hfrm
  go_upto_region 2 with fail
  obtain ⟨W3, hW3⟩ : ∃ W, W = (((((w1.setCell ⟨w.heap.size, 0, none⟩ (.int .i64 t.state)).setCell ⟨w.heap.size, 1, none⟩ (.int .i64 t.on)).setCell ⟨w.heap.size, 2, none⟩ (.slice A' t.frames.length c')).setCell ⟨w.heap.size, 3, none⟩ (.slice sA t.stack.length t.stack.length)).setCell ⟨w.heap.size, 4, none⟩ (.int .i64 t.code)) := ⟨_, rfl⟩
  have G3 : Hid (Shd w W3 w.heap.size (w.heap.size + 1) (w.heap.size + 1 + 1) (fun i => D i ∧ i < w.heap.size) t A' c' sA ts) := by
    show Shd _ _ _ _ _ _ _ _ _ _ _
    rw [hW3]; exact G.out
  rw [← hW3]
  clear hW3 G H1 H2 x0 y0 r0 u0 x1 y1 r1 u1 x2 y2 r2 u2 x3 y3 r3 u3 x4 y4 r4 u4 hlt hlt0
  obtain ⟨b, cap, hv, hgb, hgz⟩ := G3.out.row.form (by have := HLEN.out; omega)
  injection hv with hv1 _ hv2
  subst hv1 hv2
  obtain ⟨x, hx, hxf⟩ : ∃ x, ts[k]? = some x ∧ x.f = f := by
    have h0 := HFRM.out
    rw [← G3.out.fs, List.getElem?_map] at h0
    cases hxk : ts[k]? with
    | none => rw [hxk] at h0; simp at h0
    | some x => rw [hxk] at h0; simp at h0; exact ⟨x, rfl, h0⟩
  subst hxf
  have HX := Lib.hid hx
  have hb := G3.out.bx
  rw [HLEN.out] at hb
  have x0 : W3.cell? ⟨w.heap.size, 0, none⟩ = some (.int .i64 t.state) := (hb.cell 0).trans rfl
  have y0 := hb.frozen 0
  have x1 : W3.cell? ⟨w.heap.size, 1, none⟩ = some (.int .i64 t.on) := (hb.cell 1).trans rfl
  have y1 := hb.frozen 1
  have x2 : W3.cell? ⟨w.heap.size, 2, none⟩ = some (.slice (some ⟨b, 0, none⟩) (k + 1) c') := (hb.cell 2).trans rfl
  have y2 := hb.frozen 2
  have x3 : W3.cell? ⟨w.heap.size, 3, none⟩ = some (.slice sA t.stack.length t.stack.length) := (hb.cell 3).trans rfl
  have y3 := hb.frozen 3
  have x4 : W3.cell? ⟨w.heap.size, 4, none⟩ = some (.int .i64 t.code) := (hb.cell 4).trans rfl
  have y4 := hb.frozen 4
  have hltB : w.heap.size < W3.heap.size := hb.lt
  clear hb hx hgb
  go_wp2_with fail
  refine (last_any ⟨b, 0, none⟩ rfl t.state t.on t.code k c' hk6 sA t.stack.length t.stack.length _).mono ?_
  rintro e W4 ⟨rfl, hb4⟩
  have g4 := G3.out.below hb4
  have G4 := Lib.hid g4
  have hb := g4.bx
  rw [HLEN.out] at hb
  obtain ⟨e0, e1, e2⟩ := FrS_at HX.out
  clear hb4 g4 G3 x0 y0 x1 y1 x2 y2 x3 y3 x4 y4 hltB
  have x0 : W4.cell? ⟨w.heap.size, 0, none⟩ = some (.int .i64 t.state) := (hb.cell 0).trans rfl
  have y0 := hb.frozen 0
  have x1 : W4.cell? ⟨w.heap.size, 1, none⟩ = some (.int .i64 t.on) := (hb.cell 1).trans rfl
  have y1 := hb.frozen 1
  have x2 : W4.cell? ⟨w.heap.size, 2, none⟩ = some (.slice (some ⟨b, 0, none⟩) (k + 1) c') := (hb.cell 2).trans rfl
  have y2 := hb.frozen 2
  have x3 : W4.cell? ⟨w.heap.size, 3, none⟩ = some (.slice sA t.stack.length t.stack.length) := (hb.cell 3).trans rfl
  have y3 := hb.frozen 3
  have x4 : W4.cell? ⟨w.heap.size, 4, none⟩ = some (.int .i64 t.code) := (hb.cell 4).trans rfl
  have y4 := hb.frozen 4
  have r0 := (G4.out.rb.cell 0).trans rfl
  have u0 := G4.out.rb.frozen 0
  have r1 := (G4.out.rb.cell 1).trans rfl
  have u1 := G4.out.rb.frozen 1
  have r2 := (G4.out.rb.cell 2).trans rfl
  have u2 := G4.out.rb.frozen 2
  have r3 := (G4.out.rb.cell 3).trans rfl
  have u3 := G4.out.rb.frozen 3
  have r4 := (G4.out.rb.cell 4).trans rfl
  have u4 := G4.out.rb.frozen 4
  have d0 := (G4.out.row.cellAt (k * 3) (by have := HLEN.out; omega)).trans e0
  have d1 := (G4.out.row.cellAt (k * 3 + 1) (by have := HLEN.out; omega)).trans e1
  have d2 := (G4.out.row.cellAt (k * 3 + 2) (by have := HLEN.out; omega)).trans e2
  have v1 := G4.out.row.frozenAt (k * 3 + 1)
  have v2 := G4.out.row.frozenAt (k * 3 + 2)
  have hbl := G4.out.row.lt b rfl
  have hltA : w.heap.size + 1 < W4.heap.size := G4.out.rb.lt
  have hltB : w.heap.size < W4.heap.size := by omega
  have hnb1 : ¬ b = w.heap.size := by omega
  have hnb2 : ¬ b = w.heap.size + 1 := by omega
  clear hb e0 e1 e2
  go_wp2_with fail
  have hf := (Fr.refl (fun i => i = w.heap.size ∨ i = w.heap.size + 1) (W4.setCell ⟨b, k * 3 + 1, none⟩ (.int .i64 pc))).set5 (g := w.heap.size + 1) (.inl (.inr rfl)) (.int .i64 t.state) (.int .i64 t.on) (.slice (some ⟨b, 0, none⟩) (k + 1) c') (.slice sA t.stack.length t.stack.length) (.int .i64 t.code)
  refine bodyPost_ret (v := .agg #[.int .i64 t.state, .int .i64 t.on, .slice (some ⟨b, 0, none⟩) (k + 1) c', .slice sA t.stack.length t.stack.length, .int .i64 t.code]) (results_cell_row rfl _ _ (w.heap.size + 1) 29 _ (0, 0) _ rfl (Blk.set5 (G4.out.rb.far (by simp; omega) _) _ _ _ _ _) Try.underlying29 rfl (by kernel_rfl)) rfl ?_
  have hrt := G4.out.jump HX.out pc hf
  exact ⟨⟨some ⟨b, 0, none⟩, c', sA, t.stack.length⟩, rfl, hrt.1.wide, hrt.2⟩

set_option maxHeartbeats 4000000 in
set_option maxRecDepth 100000 in
theorem set_yes (h : TH) (t : TV) (k : Nat) (f : FrV) (i : Nat) (v z : Int) (w : World) (D : Nat → Prop) (hr : RT w D h t) (hl : LensT t) (hroom : t.frames.length = k + 1 ∧ k < 1000000 ∧ t.frames[k]? = some f ∧ f.locals[i]? = some z ∧ f.locals.length ≤ 1000000) :
    Calls Try.prog 71 #[.agg #[.int .i64 t.state, .int .i64 t.on, .slice h.fA t.frames.length h.fc, .slice h.sA t.stack.length h.sc, .int .i64 t.code], .int .i64 (i : Int), .int .i64 v] w
      fun e w' => ∃ h' : TH, e = .returned (.agg #[.int .i64 t.state, .int .i64 t.on, .slice h'.fA (k + 1) h'.fc, .slice h'.sA t.stack.length h'.sc, .int .i64 t.code]) ∧ RT w' (fun i => D i ∨ w.heap.size ≤ i) h' { t with frames := t.frames.set k { f with locals := f.locals.set i (keep v) } } ∧ Below w.heap.size w w' := by
  obtain ⟨i0, hi0, hz0, hz1, hz2⟩ := info_parts info_int
  have hshare := fun (W : World) (hW : RT W (fun i => D i ∧ i < w.heap.size) h t) => share_any h t W _ hW hl
  have HS := Lib.hid hshare
  obtain ⟨fA, fc, sA, sc⟩ := h
  have HR := Lib.hid hr.cut
  have HROOM := Lib.hid hroom
  clear hr hshare hl hroom
  go_enter Try.func71, Try.ntmps71
  go_wp2_with fail
  refine (HS.out _ ((HR.out.alloc _).alloc _)).mono ?_
  rintro e w1 ⟨A', c', ts, rfl, hown, hfs, heach, hb⟩
  obtain ⟨W2, hW2⟩ : ∃ W, W = (w.alloc (.cells #[.int .i64 t.state, .int .i64 t.on, .slice fA t.frames.length fc, .slice sA t.stack.length sc, .int .i64 t.code] 29)).alloc (.cells #[.int .i64 0, .int .i64 0, .slice none 0 0, .slice none 0 0, .int .i64 0] 29) := ⟨_, rfl⟩
  have hz : W2.heap.size = w.heap.size + 1 + 1 := by rw [hW2]; simp
  have hbx2 : Blk W2 w.heap.size 29 #[.int .i64 t.state, .int .i64 t.on, .slice fA t.frames.length fc, .slice sA t.stack.length sc, .int .i64 t.code] := by rw [hW2]; exact (Blk.new w _ _).alloc _
  have hrb2 : Blk W2 (w.heap.size + 1) 29 #[.int .i64 0, .int .i64 0, .slice none 0 0, .slice none 0 0, .int .i64 0] := by rw [hW2]; simpa using Blk.new (w.alloc (.cells #[.int .i64 t.state, .int .i64 t.on, .slice fA t.frames.length fc, .slice sA t.stack.length sc, .int .i64 t.code] 29)) 29 #[.int .i64 0, .int .i64 0, .slice none 0 0, .slice none 0 0, .int .i64 0]
  have hbel2 : Below w.heap.size w W2 := by rw [hW2]; exact ((Below.refl w.heap.size w).alloc (Nat.le_refl _) _).alloc (by simp) _
  rw [← hW2] at hown hb heach
  have hri2 : RT W2 (fun i => D i ∧ i < w.heap.size) ⟨fA, fc, sA, sc⟩ t := by rw [hW2]; exact (HR.out.alloc _).alloc _
  clear hW2
  rw [hz] at hown hb
  have hsz := hb.size
  rw [hz] at hsz
  have hbx1 := hbx2.below hb (by omega)
  have hrb1 := hrb2.below hb (by omega)
  have hbel1 : Below w.heap.size w w1 := hbel2.trans (hb.mono (by omega))
  have hst1 : RID w1 (fun i => D i ∧ i < w.heap.size) sA t.stack.length sc t.stack := (hri2.stack).keep fun p hd _ => hb.cell (by omega)
  have hea1 : ∀ x ∈ ts, x.c = x.f.locals.length ∧ RID w1 (fun i => D i ∧ i < w.heap.size) x.A x.f.locals.length x.f.locals.length x.f.locals := fun x hx => ⟨(heach x hx).1, (heach x hx).2.keep fun p hd _ => hb.cell (by omega)⟩
  have x0 := (hbx1.cell 0).trans rfl
  have x1 := (hbx1.cell 1).trans rfl
  have x2 := (hbx1.cell 2).trans rfl
  have x3 := (hbx1.cell 3).trans rfl
  have x4 := (hbx1.cell 4).trans rfl
  have y0 := hbx1.frozen 0
  have y1 := hbx1.frozen 1
  have y2 := hbx1.frozen 2
  have y3 := hbx1.frozen 3
  have y4 := hbx1.frozen 4
  have H1 := Lib.hid hbx1; have H2 := Lib.hid hrb1; have H3 := Lib.hid hbel1; have H4 := Lib.hid hst1; have H5 := Lib.hid hea1; have H6 := Lib.hid hown; have H7 := Lib.hid hfs
  have hlt : w.heap.size + 1 < w1.heap.size := by omega
  have hlt0 : w.heap.size < w1.heap.size := by omega
  have r0 := (H2.out.cell 0).trans rfl
  have u0 := H2.out.frozen 0
  have r1 := (H2.out.cell 1).trans rfl
  have u1 := H2.out.frozen 1
  have r2 := (H2.out.cell 2).trans rfl
  have u2 := H2.out.frozen 2
  have r3 := (H2.out.cell 3).trans rfl
  have u3 := H2.out.frozen 3
  have r4 := (H2.out.cell 4).trans rfl
  have u4 := H2.out.frozen 4
  clear hbx2 hrb2 hbel2 hri2 hown hb heach hbx1 hrb1 hbel1 hst1 hea1 hfs hsz hz
  have hsd := shd_of (w := w) H1.out H2.out (by omega) ⟨Nat.le_refl _, by omega⟩ ⟨by omega, by omega⟩ H6.out H7.out H5.out H4.out H3.out (fun i hi => hi.2)
  have G := Lib.hid hsd
  clear hsd H3 H4 H5 H6 H7
  obtain ⟨hlen, hk6, hfrm, hli, hl6⟩ := HROOM.out
  have HLEN := Lib.hid hlen
  have HFRM := Lib.hid hfrm
  have HLI := Lib.hid hli
  have hil : i < f.locals.length := (List.getElem?_eq_some_iff.1 hli).1
  clear hli
  clear hlen hfrm
  go_upto_region 2 with fail
  obtain ⟨W3, hW3⟩ : ∃ W, W = (((((w1.setCell ⟨w.heap.size, 0, none⟩ (.int .i64 t.state)).setCell ⟨w.heap.size, 1, none⟩ (.int .i64 t.on)).setCell ⟨w.heap.size, 2, none⟩ (.slice A' t.frames.length c')).setCell ⟨w.heap.size, 3, none⟩ (.slice sA t.stack.length t.stack.length)).setCell ⟨w.heap.size, 4, none⟩ (.int .i64 t.code)) := ⟨_, rfl⟩
  have G3 : Hid (Shd w W3 w.heap.size (w.heap.size + 1) (w.heap.size + 1 + 1) (fun i => D i ∧ i < w.heap.size) t A' c' sA ts) := by
    show Shd _ _ _ _ _ _ _ _ _ _ _
    rw [hW3]; exact G.out
  rw [← hW3]
  clear hW3 G H1 H2 x0 y0 r0 u0 x1 y1 r1 u1 x2 y2 r2 u2 x3 y3 r3 u3 x4 y4 r4 u4 hlt hlt0
  obtain ⟨b, cap, hv, hgb, hgz⟩ := G3.out.row.form (by have := HLEN.out; omega)
  injection hv with hv1 _ hv2
  subst hv1 hv2
  obtain ⟨x, hx, hxf⟩ : ∃ x, ts[k]? = some x ∧ x.f = f := by
    have h0 := HFRM.out
    rw [← G3.out.fs, List.getElem?_map] at h0
    cases hxk : ts[k]? with
    | none => rw [hxk] at h0; simp at h0
    | some x => rw [hxk] at h0; simp at h0; exact ⟨x, rfl, h0⟩
  subst hxf
  have HX := Lib.hid hx
  have hb := G3.out.bx
  rw [HLEN.out] at hb
  have x0 : W3.cell? ⟨w.heap.size, 0, none⟩ = some (.int .i64 t.state) := (hb.cell 0).trans rfl
  have y0 := hb.frozen 0
  have x1 : W3.cell? ⟨w.heap.size, 1, none⟩ = some (.int .i64 t.on) := (hb.cell 1).trans rfl
  have y1 := hb.frozen 1
  have x2 : W3.cell? ⟨w.heap.size, 2, none⟩ = some (.slice (some ⟨b, 0, none⟩) (k + 1) c') := (hb.cell 2).trans rfl
  have y2 := hb.frozen 2
  have x3 : W3.cell? ⟨w.heap.size, 3, none⟩ = some (.slice sA t.stack.length t.stack.length) := (hb.cell 3).trans rfl
  have y3 := hb.frozen 3
  have x4 : W3.cell? ⟨w.heap.size, 4, none⟩ = some (.int .i64 t.code) := (hb.cell 4).trans rfl
  have y4 := hb.frozen 4
  have hltB : w.heap.size < W3.heap.size := hb.lt
  clear hb hx hgb
  go_wp2_with fail
  refine (last_any ⟨b, 0, none⟩ rfl t.state t.on t.code k c' hk6 sA t.stack.length t.stack.length _).mono ?_
  rintro e W4 ⟨rfl, hb4⟩
  have g4 := G3.out.below hb4
  have G4 := Lib.hid g4
  have hb := g4.bx
  rw [HLEN.out] at hb
  obtain ⟨e0, e1, e2⟩ := FrS_at HX.out
  clear hb4 g4 G3 x0 y0 x1 y1 x2 y2 x3 y3 x4 y4 hltB
  have x0 : W4.cell? ⟨w.heap.size, 0, none⟩ = some (.int .i64 t.state) := (hb.cell 0).trans rfl
  have y0 := hb.frozen 0
  have x1 : W4.cell? ⟨w.heap.size, 1, none⟩ = some (.int .i64 t.on) := (hb.cell 1).trans rfl
  have y1 := hb.frozen 1
  have x2 : W4.cell? ⟨w.heap.size, 2, none⟩ = some (.slice (some ⟨b, 0, none⟩) (k + 1) c') := (hb.cell 2).trans rfl
  have y2 := hb.frozen 2
  have x3 : W4.cell? ⟨w.heap.size, 3, none⟩ = some (.slice sA t.stack.length t.stack.length) := (hb.cell 3).trans rfl
  have y3 := hb.frozen 3
  have x4 : W4.cell? ⟨w.heap.size, 4, none⟩ = some (.int .i64 t.code) := (hb.cell 4).trans rfl
  have y4 := hb.frozen 4
  have r0 := (G4.out.rb.cell 0).trans rfl
  have u0 := G4.out.rb.frozen 0
  have r1 := (G4.out.rb.cell 1).trans rfl
  have u1 := G4.out.rb.frozen 1
  have r2 := (G4.out.rb.cell 2).trans rfl
  have u2 := G4.out.rb.frozen 2
  have r3 := (G4.out.rb.cell 3).trans rfl
  have u3 := G4.out.rb.frozen 3
  have r4 := (G4.out.rb.cell 4).trans rfl
  have u4 := G4.out.rb.frozen 4
  have d0 := (G4.out.row.cellAt (k * 3) (by have := HLEN.out; omega)).trans e0
  have d1 := (G4.out.row.cellAt (k * 3 + 1) (by have := HLEN.out; omega)).trans e1
  have d2 := (G4.out.row.cellAt (k * 3 + 2) (by have := HLEN.out; omega)).trans e2
  have v1 := G4.out.row.frozenAt (k * 3 + 1)
  have v2 := G4.out.row.frozenAt (k * 3 + 2)
  have hbl := G4.out.row.lt b rfl
  have hltA : w.heap.size + 1 < W4.heap.size := G4.out.rb.lt
  have hltB : w.heap.size < W4.heap.size := by omega
  have hnb1 : ¬ b = w.heap.size := by omega
  have hnb2 : ¬ b = w.heap.size + 1 := by omega
  clear hb e0 e1 e2
  have hlx : ts[k]? = some x := HX.out
  obtain ⟨hxc, hrx⟩ := G4.out.each x (List.mem_of_getElem? hlx)
  have hri := hrx.ri
  have HRI := Lib.hid hri
  rw [hxc] at d2
  clear hlx hxc hrx hri
  go_wp2_with fail
  refine (hasLocal_yes b (k * 3) i x.f.locals.length x.f.locals.length x.A _ d2 hil hl6).mono ?_
  rintro e wq ⟨rfl, rfl⟩
  go_wp2_with fail
  refine (own_ints x.f.locals W4 _ x.A x.f.locals.length x.f.locals.length HRI.out (Nat.le_refl _) (by omega)).mono ?_
  rintro e w5 ⟨AL, cL, rfl, hownL, hb5⟩
  have g5 := G4.out.below hb5
  have G5 := Lib.hid g5
  obtain ⟨bL, cap, hv, hgL, hgzL⟩ := hownL.form (by omega)
  injection hv with hv1 _ hv2
  subst hv1 hv2
  have hown5 : w5.ownsRow (w.heap.size + 1 + 1) 3 1 (.slice (some ⟨bL, 0, none⟩) x.f.locals.length cL) x.f.locals.length (IS x.f.locals) := own_mono hownL (by have := G4.out.row.lt b rfl; omega)
  have hneb : ¬ b = bL := fun e => own_ne g5.row hown5 (by decide) b rfl (by rw [e]; rfl)
  have HOWN := Lib.hid hown5
  clear G4 HRI hownL hb5 x0 y0 x1 y1 x2 y2 x3 y3 x4 y4 d0 d1 d2 v1 v2 hbl hltA hltB hnb1 hnb2 g5 hgL hown5
  have hb := G5.out.bx
  rw [HLEN.out] at hb
  obtain ⟨e0, e1, e2⟩ := FrS_at HX.out
  have x0 : w5.cell? ⟨w.heap.size, 0, none⟩ = some (.int .i64 t.state) := (hb.cell 0).trans rfl
  have y0 := hb.frozen 0
  have x1 : w5.cell? ⟨w.heap.size, 1, none⟩ = some (.int .i64 t.on) := (hb.cell 1).trans rfl
  have y1 := hb.frozen 1
  have x2 : w5.cell? ⟨w.heap.size, 2, none⟩ = some (.slice (some ⟨b, 0, none⟩) (k + 1) c') := (hb.cell 2).trans rfl
  have y2 := hb.frozen 2
  have x3 : w5.cell? ⟨w.heap.size, 3, none⟩ = some (.slice sA t.stack.length t.stack.length) := (hb.cell 3).trans rfl
  have y3 := hb.frozen 3
  have x4 : w5.cell? ⟨w.heap.size, 4, none⟩ = some (.int .i64 t.code) := (hb.cell 4).trans rfl
  have y4 := hb.frozen 4
  have r0 := (G5.out.rb.cell 0).trans rfl
  have u0 := G5.out.rb.frozen 0
  have r1 := (G5.out.rb.cell 1).trans rfl
  have u1 := G5.out.rb.frozen 1
  have r2 := (G5.out.rb.cell 2).trans rfl
  have u2 := G5.out.rb.frozen 2
  have r3 := (G5.out.rb.cell 3).trans rfl
  have u3 := G5.out.rb.frozen 3
  have r4 := (G5.out.rb.cell 4).trans rfl
  have u4 := G5.out.rb.frozen 4
  have d2 := (G5.out.row.cellAt (k * 3 + 2) (by have := HLEN.out; omega)).trans e2
  have v2 := G5.out.row.frozenAt (k * 3 + 2)
  clear hb e0 e1 e2
  go_upto_region 6 with fail
  have hf0 : Fr (fun i => i = b) w5 (w5.setCell ⟨b, k * 3 + 2, none⟩ (.slice (some ⟨bL, 0, none⟩) x.f.locals.length cL)) := (Fr.refl (fun i => i = b) w5).setCell (p := ⟨b, k * 3 + 2, none⟩) (.inl rfl) _
  have hro6 := (G5.out.row.stored (k * 3 + 2) (.slice (some ⟨bL, 0, none⟩) x.f.locals.length cL)).1
  have hkn : k < ts.length := (List.getElem?_eq_some_iff.1 HX.out).1
  have dd2 := (hro6.cellAt (k * 3 + 2) (by have := HLEN.out; omega)).trans (List.getElem?_set_self (by rw [FrS_length]; omega))
  have hlo6 := hf0.own HOWN.out (fun j hj e => by have hj' : bL = j := (by injection hj); omega)
  have dL := (hlo6.cellAt i (by omega)).trans (IS_at HLI.out)
  have gL := hlo6.frozenAt i
  have hlb := (G5.out.row.lt b rfl)
  have hlL := (hlo6.lt bL rfl)
  have hb6 := hf0.blk G5.out.bx (by omega)
  rw [HLEN.out] at hb6
  have hr6 := hf0.blk G5.out.rb (by omega)
  obtain ⟨W6, hW6⟩ : ∃ W, W = w5.setCell ⟨b, k * 3 + 2, none⟩ (.slice (some ⟨bL, 0, none⟩) x.f.locals.length cL) := ⟨_, rfl⟩
  have HB6 := Lib.hid hb6; have HR6 := Lib.hid hr6; have HW6 := Lib.hid hW6
  rw [← hW6] at dd2 dL gL hlL HB6 HR6 ⊢
  clear hf0 hro6 hkn hlo6 hb6 hr6 hW6 x0 y0 x1 y1 x2 y2 x3 y3 x4 y4 d2 v2 r0 u0 r1 u1 r2 u2 r3 u3 r4 u4
  go_cut [] (fun wx => wx = (W6.setCell ⟨bL, i, none⟩ (.int .i64 (keep v))).drew)
  case first =>
    have iw : (i : Int) < (x.f.locals.length : Int) := by omega
    go_region_law (go_simp; refine (keep_any v _).mono ?_; rintro e wq ⟨rfl, rfl⟩; go_wp2_with fail)
    all_goals
      go_wp2_with fail
      go_meet
      rfl
  case rest =>
  subst hcut
  have hneL1 : ¬ bL = w.heap.size := by omega
  have hneL2 : ¬ bL = w.heap.size + 1 := by omega
  have hb := HB6.out.far (p := ⟨bL, i, none⟩) (by simp; omega) (.int .i64 (keep v))
  have hr := HR6.out.far (p := ⟨bL, i, none⟩) (by simp; omega) (.int .i64 (keep v))
  obtain ⟨W7, hW7⟩ : ∃ W, W = W6.setCell ⟨bL, i, none⟩ (.int .i64 (keep v)) := ⟨_, rfl⟩
  have HW7 := Lib.hid hW7
  have HR7 := Lib.hid hr
  rw [← hW7] at hb HR7 ⊢
  clear dd2 dL gL hW7 hr
  have x0 : W7.cell? ⟨w.heap.size, 0, none⟩ = some (.int .i64 t.state) := (hb.cell 0).trans rfl
  have y0 := hb.frozen 0
  have x1 : W7.cell? ⟨w.heap.size, 1, none⟩ = some (.int .i64 t.on) := (hb.cell 1).trans rfl
  have y1 := hb.frozen 1
  have x2 : W7.cell? ⟨w.heap.size, 2, none⟩ = some (.slice (some ⟨b, 0, none⟩) (k + 1) c') := (hb.cell 2).trans rfl
  have y2 := hb.frozen 2
  have x3 : W7.cell? ⟨w.heap.size, 3, none⟩ = some (.slice sA t.stack.length t.stack.length) := (hb.cell 3).trans rfl
  have y3 := hb.frozen 3
  have x4 : W7.cell? ⟨w.heap.size, 4, none⟩ = some (.int .i64 t.code) := (hb.cell 4).trans rfl
  have y4 := hb.frozen 4
  have r0 := (HR7.out.cell 0).trans rfl
  have u0 := HR7.out.frozen 0
  have r1 := (HR7.out.cell 1).trans rfl
  have u1 := HR7.out.frozen 1
  have r2 := (HR7.out.cell 2).trans rfl
  have u2 := HR7.out.frozen 2
  have r3 := (HR7.out.cell 3).trans rfl
  have u3 := HR7.out.frozen 3
  have r4 := (HR7.out.cell 4).trans rfl
  have u4 := HR7.out.frozen 4
  have hltA : w.heap.size + 1 < W7.heap.size := HR7.out.lt
  have hltB : w.heap.size < W7.heap.size := by omega
  clear hb
  go_wp2_with fail
  have hf := ((Fr.refl (fun i => i = w.heap.size ∨ i = w.heap.size + 1) W7).set5 (g := w.heap.size + 1) (.inl (.inr rfl)) (.int .i64 t.state) (.int .i64 t.on) (.slice (some ⟨b, 0, none⟩) (k + 1) c') (.slice sA t.stack.length t.stack.length) (.int .i64 t.code)).drew
  refine bodyPost_ret (v := .agg #[.int .i64 t.state, .int .i64 t.on, .slice (some ⟨b, 0, none⟩) (k + 1) c', .slice sA t.stack.length t.stack.length, .int .i64 t.code]) (results_cell_row rfl _ _ (w.heap.size + 1) 29 _ (0, 0) _ rfl (Blk.drew (Blk.set5 HR7.out _ _ _ _ _)) Try.underlying29 rfl (by kernel_rfl)) rfl ?_
  rw [HW7.out, HW6.out] at hf ⊢
  have hrt := G5.out.setl HX.out HOWN.out (keep v) hf
  exact ⟨⟨some ⟨b, 0, none⟩, c', sA, t.stack.length⟩, rfl, hrt.1.wide, hrt.2⟩
end Go.Proofs.Ytkciedcfphhenaa
