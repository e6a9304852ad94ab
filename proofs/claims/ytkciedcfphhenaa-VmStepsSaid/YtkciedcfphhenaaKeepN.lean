
/-
  Pop of the program where there is no number; Push, Pop, Enter of the document where there is no room, or no number.
-/
import Derived.Test.YtkciedcfphhenaaThrH
import Derived.IntWalk
import Derived.Deep.RegionLaw
import Derived.Deep.RegionHeld
import Derived.Deep.DeepCutAuto
import Derived.Deep.CutBlock
set_option linter.unusedVariables false
set_option linter.unusedSimpArgs false
namespace Go.Proofs.Ytkciedcfphhenaa
open Go.RowKit Plain

set_option maxHeartbeats 4000000 in
set_option maxRecDepth 100000 in
theorem pop_no (h : TH) (t : TV) (w : World) (D : Nat → Prop) (hr : RT w D h t) (hl : LensT t) (hroom : t.stack.length ≤ 0) :
    Calls Try.prog 90 #[.agg #[.int .i64 t.state, .int .i64 t.on, .slice h.fA t.frames.length h.fc, .slice h.sA t.stack.length h.sc, .int .i64 t.code]] w
      fun e w' => ∃ h' : TH, e = .returned (.tuple #[.agg #[.int .i64 t.state, .int .i64 t.on, .slice h'.fA t.frames.length h'.fc, .slice h'.sA t.stack.length h'.sc, .int .i64 t.code], .int .i64 0, .bool false]) ∧ RT w' (fun i => D i ∨ w.heap.size ≤ i) h' t ∧ Below w.heap.size w w' := by
  obtain ⟨i0, hi0, hz0, hz1, hz2⟩ := info_parts info_int
  have hshare := fun (W : World) (hW : RT W (fun i => D i ∧ i < w.heap.size) h t) => share_any h t W _ hW hl
  have HS := Lib.hid hshare
  obtain ⟨fA, fc, sA, sc⟩ := h
  have HR := Lib.hid hr.cut
  clear hr hshare hl
  have hlz : (t.stack.length : Int) - 1 < 0 := by omega
  go_enter Try.func90, Try.ntmps90
  go_wp2_with fail
  refine (HS.out _ ((HR.out.alloc _).alloc _)).mono ?_
  rintro e w1 ⟨A', c', ts, rfl, hown, hfs, heach, hb⟩
  obtain ⟨W2, hW2⟩ : ∃ W, W = (w.alloc (.cells #[.int .i64 t.state, .int .i64 t.on, .slice fA t.frames.length fc, .slice sA t.stack.length sc, .int .i64 t.code] 29)).alloc (.cells #[.int .i64 0, .int .i64 0, .slice none 0 0, .slice none 0 0, .int .i64 0] 29) := ⟨_, rfl⟩
  have hz : W2.heap.size = w.heap.size + 1 + 1 := by rw [hW2]; simp
  have hbx2 : Blk W2 w.heap.size 29 #[.int .i64 t.state, .int .i64 t.on, .slice fA t.frames.length fc, .slice sA t.stack.length sc, .int .i64 t.code] := by rw [hW2]; exact (Blk.new w _ _).alloc _
  have hrb2 : Blk W2 (w.heap.size + 1) 29 #[.int .i64 0, .int .i64 0, .slice none 0 0, .slice none 0 0, .int .i64 0] := by rw [hW2]; simpa using Blk.new (w.alloc (.cells #[.int .i64 t.state, .int .i64 t.on, .slice fA t.frames.length fc, .slice sA t.stack.length sc, .int .i64 t.code] 29)) 29 #[.int .i64 0, .int .i64 0, .slice none 0 0, .slice none 0 0, .int .i64 0]
  have hbel2 : Below w.heap.size w W2 := by rw [hW2]; exact ((Below.refl w.heap.size w).alloc (Nat.le_refl _) _).alloc (by simp) _
  rw [← hW2] at hown hb heach
  have hri2 : RT W2 (fun i => D i ∧ i < w.heap.size) ⟨fA, fc, sA, sc⟩ t := by rw [hW2]; exact (HR.out.alloc _).alloc _
  clear hW2
  rw [hz] at hown hb
  have hsz := hb.size
  rw [hz] at hsz
  have hbx1 := hbx2.below hb (by omega)
  have hrb1 := hrb2.below hb (by omega)
  have hbel1 : Below w.heap.size w w1 := hbel2.trans (hb.mono (by omega))
  have hst1 : RID w1 (fun i => D i ∧ i < w.heap.size) sA t.stack.length sc t.stack := (hri2.stack).keep fun p hd _ => hb.cell (by omega)
  have hea1 : ∀ x ∈ ts, x.c = x.f.locals.length ∧ RID w1 (fun i => D i ∧ i < w.heap.size) x.A x.f.locals.length x.f.locals.length x.f.locals := fun x hx => ⟨(heach x hx).1, (heach x hx).2.keep fun p hd _ => hb.cell (by omega)⟩
  have x0 := (hbx1.cell 0).trans rfl
  have x1 := (hbx1.cell 1).trans rfl
  have x2 := (hbx1.cell 2).trans rfl
  have x3 := (hbx1.cell 3).trans rfl
  have x4 := (hbx1.cell 4).trans rfl
  have y0 := hbx1.frozen 0
  have y1 := hbx1.frozen 1
  have y2 := hbx1.frozen 2
  have y3 := hbx1.frozen 3
  have y4 := hbx1.frozen 4
  have H1 := Lib.hid hbx1; have H2 := Lib.hid hrb1; have H3 := Lib.hid hbel1; have H4 := Lib.hid hst1; have H5 := Lib.hid hea1; have H6 := Lib.hid hown; have H7 := Lib.hid hfs
  have hlt : w.heap.size + 1 < w1.heap.size := by omega
  have hlt0 : w.heap.size < w1.heap.size := by omega
  have r0 := (H2.out.cell 0).trans rfl
  have r1 := (H2.out.cell 1).trans rfl
  have r2 := (H2.out.cell 2).trans rfl
  have r3 := (H2.out.cell 3).trans rfl
  have r4 := (H2.out.cell 4).trans rfl
  have u0 := H2.out.frozen 0
  have u1 := H2.out.frozen 1
  have u2 := H2.out.frozen 2
  have u3 := H2.out.frozen 3
  have u4 := H2.out.frozen 4
  clear hbx2 hrb2 hbel2 hri2 hown hb heach hbx1 hrb1 hbel1 hst1 hea1 hfs hsz hz
  have hsd := shd_of (w := w) H1.out H2.out (by omega) ⟨Nat.le_refl _, by omega⟩ ⟨by omega, by omega⟩ H6.out H7.out H5.out H4.out H3.out (fun i hi => hi.2)
  have G := Lib.hid hsd
  clear hsd H3 H4 H5 H6 H7
  go_wp2_with fail
  refine bodyPost_ret (v := .tuple #[.agg #[.int .i64 t.state, .int .i64 t.on, .slice A' t.frames.length c', .slice sA t.stack.length t.stack.length, .int .i64 t.code], .int .i64 0, .bool false]) (results_cell_slots rfl _ _ (w.heap.size + 1) 29 _ (0, 0) _ _ _ rfl rfl rfl (Blk.set5 G.out.rb _ _ _ _ _) Try.underlying29 rfl (by kernel_rfl)) rfl ?_
  have hf := (Fr.refl (fun i => i = w.heap.size ∨ i = w.heap.size + 1) (((((w1.setCell ⟨w.heap.size, 0, none⟩ (.int .i64 t.state)).setCell ⟨w.heap.size, 1, none⟩ (.int .i64 t.on)).setCell ⟨w.heap.size, 2, none⟩ (.slice A' t.frames.length c')).setCell ⟨w.heap.size, 3, none⟩ (.slice sA t.stack.length t.stack.length)).setCell ⟨w.heap.size, 4, none⟩ (.int .i64 t.code))).set5 (g := w.heap.size + 1) (.inl (.inr rfl)) (.int .i64 t.state) (.int .i64 t.on) (.slice A' t.frames.length c') (.slice sA t.stack.length t.stack.length) (.int .i64 t.code)
  have hrt := G.out.rt hf (st := t.stack) (G.out.stk hf)
  exact ⟨⟨A', c', sA, t.stack.length⟩, rfl, hrt.1.wide, hrt.2⟩
set_option maxHeartbeats 4000000 in
set_option maxRecDepth 100000 in
theorem refPush_no (h : TH) (t : TV) (v : Int) (w : World) (D : Nat → Prop) (hr : RT w D h t) (hroom : 16 ≤ t.stack.length) :
    Calls Try.prog 40 #[.agg #[.int .i64 t.state, .int .i64 t.on, .slice h.fA t.frames.length h.fc, .slice h.sA t.stack.length h.sc, .int .i64 t.code], .int .i64 v] w fun e w' => e = .returned (.tuple #[.agg #[.int .i64 t.state, .int .i64 t.on, .slice h.fA t.frames.length h.fc, .slice h.sA t.stack.length h.sc, .int .i64 t.code], .bool false]) ∧ RT w' D h t ∧ Below w.heap.size w w' := by
  obtain ⟨tA, tc, kA, kc⟩ := h
  have HR := Lib.hid hr
  clear hr
  go_enter Try.func40, Try.ntmps40
  go_wp2_with fail
  have hz5 : Blk ((w.alloc (.cells #[.int .i64 t.state, .int .i64 t.on, .slice tA t.frames.length tc, .slice kA t.stack.length kc, .int .i64 t.code] 29)).alloc (.cells #[.int .i64 t.state, .int .i64 t.on, .slice tA t.frames.length tc, .slice kA t.stack.length kc, .int .i64 t.code] 29)) (w.heap.size + 1) 29 #[.int .i64 t.state, .int .i64 t.on, .slice tA t.frames.length tc, .slice kA t.stack.length kc, .int .i64 t.code] := by simpa using Blk.new (w.alloc (.cells #[.int .i64 t.state, .int .i64 t.on, .slice tA t.frames.length tc, .slice kA t.stack.length kc, .int .i64 t.code] 29)) 29 #[.int .i64 t.state, .int .i64 t.on, .slice tA t.frames.length tc, .slice kA t.stack.length kc, .int .i64 t.code]
  refine bodyPost_ret (v := .tuple #[.agg #[.int .i64 t.state, .int .i64 t.on, .slice tA t.frames.length tc, .slice kA t.stack.length kc, .int .i64 t.code], .bool false]) (results_cell_slot rfl _ _ (w.heap.size + 1) 29 _ (0, 0) _ _ rfl rfl hz5 Try.underlying29 rfl (by kernel_rfl)) rfl ?_
  exact ⟨rfl, (HR.out.alloc _).alloc _, ((Below.refl _ _).alloc (Nat.le_refl _) _).alloc (by simp) _⟩
set_option maxHeartbeats 4000000 in
set_option maxRecDepth 100000 in
theorem refPop_no (h : TH) (t : TV) (w : World) (D : Nat → Prop) (hr : RT w D h t) (hroom : t.stack.length = 0) :
    Calls Try.prog 37 #[.agg #[.int .i64 t.state, .int .i64 t.on, .slice h.fA t.frames.length h.fc, .slice h.sA t.stack.length h.sc, .int .i64 t.code]] w fun e w' => e = .returned (.tuple #[.agg #[.int .i64 t.state, .int .i64 t.on, .slice h.fA t.frames.length h.fc, .slice h.sA t.stack.length h.sc, .int .i64 t.code], .int .i64 0, .bool false]) ∧ RT w' D h t ∧ Below w.heap.size w w' := by
  obtain ⟨tA, tc, kA, kc⟩ := h
  have HR := Lib.hid hr
  have hz0 : (t.stack.length : Int) = 0 := by omega
  have hzb : ((t.stack.length : Int) == 0) = true := by rw [hz0]; rfl
  clear hr hroom hz0
  go_enter Try.func37, Try.ntmps37
  go_wp2_with fail
  have hz5 : Blk ((w.alloc (.cells #[.int .i64 t.state, .int .i64 t.on, .slice tA t.frames.length tc, .slice kA t.stack.length kc, .int .i64 t.code] 29)).alloc (.cells #[.int .i64 t.state, .int .i64 t.on, .slice tA t.frames.length tc, .slice kA t.stack.length kc, .int .i64 t.code] 29)) (w.heap.size + 1) 29 #[.int .i64 t.state, .int .i64 t.on, .slice tA t.frames.length tc, .slice kA t.stack.length kc, .int .i64 t.code] := by simpa using Blk.new (w.alloc (.cells #[.int .i64 t.state, .int .i64 t.on, .slice tA t.frames.length tc, .slice kA t.stack.length kc, .int .i64 t.code] 29)) 29 #[.int .i64 t.state, .int .i64 t.on, .slice tA t.frames.length tc, .slice kA t.stack.length kc, .int .i64 t.code]
  refine bodyPost_ret (v := .tuple #[.agg #[.int .i64 t.state, .int .i64 t.on, .slice tA t.frames.length tc, .slice kA t.stack.length kc, .int .i64 t.code], .int .i64 0, .bool false]) (results_cell_slots rfl _ _ (w.heap.size + 1) 29 _ (0, 0) _ _ _ rfl rfl rfl hz5 Try.underlying29 rfl (by kernel_rfl)) rfl ?_
  exact ⟨rfl, (HR.out.alloc _).alloc _, ((Below.refl _ _).alloc (Nat.le_refl _) _).alloc (by simp) _⟩
set_option maxHeartbeats 4000000 in
set_option maxRecDepth 100000 in
theorem refEnter_no (h : PH) (p : PV) (ht : TH) (t : TV) (f : Int) (w : World) (D : Nat → Prop) (hr : RT w D ht t) (hroom : 8 ≤ t.frames.length) :
    Calls Try.prog 43 #[.agg #[.slice h.fA p.funcs.length h.fc, .int .i64 p.mutexes, .slice h.cA p.conds.length h.cc, .slice h.sA p.semas.length h.sc, .slice h.hA p.chans.length h.hc, .slice h.xA p.choices.length h.xc, .int .i64 p.threads], .agg #[.int .i64 t.state, .int .i64 t.on, .slice ht.fA t.frames.length ht.fc, .slice ht.sA t.stack.length ht.sc, .int .i64 t.code], .int .i64 f] w
      fun e w' => e = .returned (.tuple #[.agg #[.int .i64 t.state, .int .i64 t.on, .slice ht.fA t.frames.length ht.fc, .slice ht.sA t.stack.length ht.sc, .int .i64 t.code], .bool false]) ∧ RT w' D ht t ∧ Below w.heap.size w w' := by
  obtain ⟨tA, tc, kA, kc⟩ := ht
  obtain ⟨fA, fc, cA, cc, sA, sc, hA, hc, xA, xc⟩ := h
  have HR := Lib.hid hr
  clear hr
  go_enter Try.func43, Try.ntmps43
  go_wp2_with fail
  have hz5 := Blk.new ((w.alloc (.cells #[.slice fA p.funcs.length fc, .int .i64 p.mutexes, .slice cA p.conds.length cc, .slice sA p.semas.length sc, .slice hA p.chans.length hc, .slice xA p.choices.length xc, .int .i64 p.threads] 26)).alloc (.cells #[.int .i64 t.state, .int .i64 t.on, .slice tA t.frames.length tc, .slice kA t.stack.length kc, .int .i64 t.code] 29)) 29 #[.int .i64 t.state, .int .i64 t.on, .slice tA t.frames.length tc, .slice kA t.stack.length kc, .int .i64 t.code]
  have hsz : ((w.alloc (.cells #[.slice fA p.funcs.length fc, .int .i64 p.mutexes, .slice cA p.conds.length cc, .slice sA p.semas.length sc, .slice hA p.chans.length hc, .slice xA p.choices.length xc, .int .i64 p.threads] 26)).alloc (.cells #[.int .i64 t.state, .int .i64 t.on, .slice tA t.frames.length tc, .slice kA t.stack.length kc, .int .i64 t.code] 29)).heap.size = w.heap.size + 1 + 1 := by simp
  rw [hsz] at hz5
  refine bodyPost_ret (v := .tuple #[.agg #[.int .i64 t.state, .int .i64 t.on, .slice tA t.frames.length tc, .slice kA t.stack.length kc, .int .i64 t.code], .bool false]) (results_cell_slot rfl _ _ (w.heap.size + 1 + 1) 29 _ (0, 0) _ _ rfl rfl hz5 Try.underlying29 rfl (by kernel_rfl)) rfl ?_
  exact ⟨rfl, ((HR.out.alloc _).alloc _).alloc _, (((Below.refl _ _).alloc (Nat.le_refl _) _).alloc (by simp) _).alloc (by simp; omega) _⟩
end Go.Proofs.Ytkciedcfphhenaa
