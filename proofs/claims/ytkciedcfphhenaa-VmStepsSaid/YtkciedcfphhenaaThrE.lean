
/-
  Enter: of the program.
-/
import Derived.Test.YtkciedcfphhenaaThrD
set_option linter.unusedVariables false
set_option linter.unusedSimpArgs false
namespace Go.Proofs.Ytkciedcfphhenaa
open Go.RowKit Plain

set_option maxHeartbeats 4000000 in
set_option maxRecDepth 100000 in
theorem enter_no (h : PH) (p : PV) (ht : TH) (t : TV) (w : World) (B : Nat) (D : Nat → Prop) (hr : RP w B h p) (hr2 : RT w D ht t) (hB : B ≤ w.heap.size) (hfl : FewLoc p) (hplen : p.funcs.length ≤ 9223372036854775807) (hl : LensT t) (f : Nat) (hf : f < p.funcs.length) (hroom : 8 ≤ t.frames.length) :
    Calls Try.prog 95 #[.agg #[.slice h.fA p.funcs.length h.fc, .int .i64 p.mutexes, .slice h.cA p.conds.length h.cc, .slice h.sA p.semas.length h.sc, .slice h.hA p.chans.length h.hc, .slice h.xA p.choices.length h.xc, .int .i64 p.threads], .agg #[.int .i64 t.state, .int .i64 t.on, .slice ht.fA t.frames.length ht.fc, .slice ht.sA t.stack.length ht.sc, .int .i64 t.code], .int .i64 (f : Int)] w
      fun e w' => ∃ h' : TH, e = .returned (.tuple #[.agg #[.int .i64 t.state, .int .i64 t.on, .slice h'.fA t.frames.length h'.fc, .slice h'.sA t.stack.length h'.sc, .int .i64 t.code], .bool false]) ∧ RT w' (fun i => D i ∨ w.heap.size ≤ i) h' t ∧ Below w.heap.size w w' := by
  obtain ⟨i0, hi0, hz0, hz1, hz2⟩ := info_parts info_frame
  have hshare := fun (W : World) (hW : RT W (fun i => D i ∧ i < w.heap.size) ht t) => share_any ht t W _ hW hl
  have hbeg := fun (W : World) (hW : RP W B h p) (hBW : B ≤ W.heap.size) => begin_any h p W B hW hBW hfl hplen f hf
  have HS := Lib.hid hshare
  have HBEG := Lib.hid hbeg
  obtain ⟨tA, tc, kA, kc⟩ := ht
  obtain ⟨fA, fc, cA, cc, sA, sc, hA, hc, xA, xc⟩ := h
  have HR := Lib.hid hr
  have HR2 := Lib.hid hr2.cut
  clear hr hr2 hshare hbeg hl hfl
  go_enter Try.func95, Try.ntmps95
  go_wp2_with fail
  refine (HS.out _ (((HR2.out.alloc _).alloc _).alloc _)).mono ?_
  rintro e w1 ⟨A', c', ts, rfl, hown, hfs, heach, hb⟩
  obtain ⟨W2, hW2⟩ : ∃ W, W = ((w.alloc (.cells #[.slice fA p.funcs.length fc, .int .i64 p.mutexes, .slice cA p.conds.length cc, .slice sA p.semas.length sc, .slice hA p.chans.length hc, .slice xA p.choices.length xc, .int .i64 p.threads] 26)).alloc (.cells #[.int .i64 t.state, .int .i64 t.on, .slice tA t.frames.length tc, .slice kA t.stack.length kc, .int .i64 t.code] 29)).alloc (.cells #[.int .i64 0, .int .i64 0, .slice none 0 0, .slice none 0 0, .int .i64 0] 29) := ⟨_, rfl⟩
  have hz : W2.heap.size = w.heap.size + 1 + 1 + 1 := by rw [hW2]; simp
  have hpb2 : Blk W2 w.heap.size 26 #[.slice fA p.funcs.length fc, .int .i64 p.mutexes, .slice cA p.conds.length cc, .slice sA p.semas.length sc, .slice hA p.chans.length hc, .slice xA p.choices.length xc, .int .i64 p.threads] := by rw [hW2]; exact ((Blk.new w _ _).alloc _).alloc _
  have hbx2 : Blk W2 (w.heap.size + 1) 29 #[.int .i64 t.state, .int .i64 t.on, .slice tA t.frames.length tc, .slice kA t.stack.length kc, .int .i64 t.code] := by rw [hW2]; refine Blk.alloc ?_ _; simpa using Blk.new (w.alloc (.cells #[.slice fA p.funcs.length fc, .int .i64 p.mutexes, .slice cA p.conds.length cc, .slice sA p.semas.length sc, .slice hA p.chans.length hc, .slice xA p.choices.length xc, .int .i64 p.threads] 26)) 29 #[.int .i64 t.state, .int .i64 t.on, .slice tA t.frames.length tc, .slice kA t.stack.length kc, .int .i64 t.code]
  have hrb2 : Blk W2 (w.heap.size + 1 + 1) 29 #[.int .i64 0, .int .i64 0, .slice none 0 0, .slice none 0 0, .int .i64 0] := by rw [hW2]; simpa using Blk.new ((w.alloc (.cells #[.slice fA p.funcs.length fc, .int .i64 p.mutexes, .slice cA p.conds.length cc, .slice sA p.semas.length sc, .slice hA p.chans.length hc, .slice xA p.choices.length xc, .int .i64 p.threads] 26)).alloc (.cells #[.int .i64 t.state, .int .i64 t.on, .slice tA t.frames.length tc, .slice kA t.stack.length kc, .int .i64 t.code] 29)) 29 #[.int .i64 0, .int .i64 0, .slice none 0 0, .slice none 0 0, .int .i64 0]
  have hbel2 : Below w.heap.size w W2 := by rw [hW2]; exact (((Below.refl w.heap.size w).alloc (Nat.le_refl _) _).alloc (by simp) _).alloc (by simp; omega) _
  rw [← hW2] at hown hb heach
  have hri2 : RT W2 (fun i => D i ∧ i < w.heap.size) ⟨tA, tc, kA, kc⟩ t := HR2.out.below hbel2
  clear hW2
  rw [hz] at hown hb
  have hsz := hb.size
  rw [hz] at hsz
  have hpb1 := hpb2.below hb (by omega)
  have hbx1 := hbx2.below hb (by omega)
  have hrb1 := hrb2.below hb (by omega)
  have hbel1 : Below w.heap.size w w1 := hbel2.trans (hb.mono (by omega))
  have hst1 : RID w1 (fun i => D i ∧ i < w.heap.size) kA t.stack.length kc t.stack := (hri2.stack).keep fun p hd _ => hb.cell (by omega)
  have hea1 : ∀ x ∈ ts, x.c = x.f.locals.length ∧ RID w1 (fun i => D i ∧ i < w.heap.size) x.A x.f.locals.length x.f.locals.length x.f.locals := fun x hx => ⟨(heach x hx).1, (heach x hx).2.keep fun p hd _ => hb.cell (by omega)⟩
  have hsd := shd_of (w := w) hbx1 hrb1 (by omega) ⟨by omega, by omega⟩ ⟨by omega, by omega⟩ hown hfs hea1 hst1 hbel1 (fun i hi => hi.2)
  have p0 := (hpb1.cell 0).trans rfl
  have p1 := (hpb1.cell 1).trans rfl
  have p2 := (hpb1.cell 2).trans rfl
  have p3 := (hpb1.cell 3).trans rfl
  have p4 := (hpb1.cell 4).trans rfl
  have p5 := (hpb1.cell 5).trans rfl
  have p6 := (hpb1.cell 6).trans rfl
  have x0 := (hbx1.cell 0).trans rfl
  have x1 := (hbx1.cell 1).trans rfl
  have x2 := (hbx1.cell 2).trans rfl
  have x3 := (hbx1.cell 3).trans rfl
  have x4 := (hbx1.cell 4).trans rfl
  have y0 := hbx1.frozen 0
  have y1 := hbx1.frozen 1
  have y2 := hbx1.frozen 2
  have y3 := hbx1.frozen 3
  have y4 := hbx1.frozen 4
  have hlt : w.heap.size + 1 + 1 < w1.heap.size := by omega
  have hlt1 : w.heap.size + 1 < w1.heap.size := by omega
  have hlt0 : w.heap.size < w1.heap.size := by omega
  have hpb3 : Blk (((((w1.setCell ⟨w.heap.size + 1, 0, none⟩ (.int .i64 t.state)).setCell ⟨w.heap.size + 1, 1, none⟩ (.int .i64 t.on)).setCell ⟨w.heap.size + 1, 2, none⟩ (.slice A' t.frames.length c')).setCell ⟨w.heap.size + 1, 3, none⟩ (.slice kA t.stack.length t.stack.length)).setCell ⟨w.heap.size + 1, 4, none⟩ (.int .i64 t.code)) w.heap.size 26 #[.slice fA p.funcs.length fc, .int .i64 p.mutexes, .slice cA p.conds.length cc, .slice sA p.semas.length sc, .slice hA p.chans.length hc, .slice xA p.choices.length xc, .int .i64 p.threads] := ((((hpb1.far (by simp) _).far (by simp) _).far (by simp) _).far (by simp) _).far (by simp) _
  have G := Lib.hid hsd; have HPB := Lib.hid hpb3
  clear hpb2 hbx2 hrb2 hbel2 hri2 hown hb heach hbx1 hrb1 hbel1 hst1 hea1 hfs hsz hz hsd hpb1 hpb3
  go_wp2_with fail
  have hrp3 : RP (((((w1.setCell ⟨w.heap.size + 1, 0, none⟩ (.int .i64 t.state)).setCell ⟨w.heap.size + 1, 1, none⟩ (.int .i64 t.on)).setCell ⟨w.heap.size + 1, 2, none⟩ (.slice A' t.frames.length c')).setCell ⟨w.heap.size + 1, 3, none⟩ (.slice kA t.stack.length t.stack.length)).setCell ⟨w.heap.size + 1, 4, none⟩ (.int .i64 t.code)) B ⟨fA, fc, cA, cc, sA, sc, hA, hc, xA, xc⟩ p := HR.out.below (G.out.bel.mono hB)
  have hB3 : B ≤ (((((w1.setCell ⟨w.heap.size + 1, 0, none⟩ (.int .i64 t.state)).setCell ⟨w.heap.size + 1, 1, none⟩ (.int .i64 t.on)).setCell ⟨w.heap.size + 1, 2, none⟩ (.slice A' t.frames.length c')).setCell ⟨w.heap.size + 1, 3, none⟩ (.slice kA t.stack.length t.stack.length)).setCell ⟨w.heap.size + 1, 4, none⟩ (.int .i64 t.code)).heap.size := Nat.le_trans hB G.out.bel.size
  refine (HBEG.out _ hrp3 hB3).mono ?_
  rintro e w4 ⟨A, c, rfl, hown4, hb4⟩
  obtain ⟨W3, hW3⟩ : ∃ W, W = (((((w1.setCell ⟨w.heap.size + 1, 0, none⟩ (.int .i64 t.state)).setCell ⟨w.heap.size + 1, 1, none⟩ (.int .i64 t.on)).setCell ⟨w.heap.size + 1, 2, none⟩ (.slice A' t.frames.length c')).setCell ⟨w.heap.size + 1, 3, none⟩ (.slice kA t.stack.length t.stack.length)).setCell ⟨w.heap.size + 1, 4, none⟩ (.int .i64 t.code)) := ⟨_, rfl⟩
  rw [← hW3] at G HPB hown4 hb4
  have hz3 := G.out.bel.size
  have hz4 := hb4.size
  have g4 := G.out.below hb4
  have pb4 := HPB.out.below hb4 HPB.out.lt
  have G4 := Lib.hid g4; have HO4 := Lib.hid hown4; have HB4 := Lib.hid hb4
  have hzr : w.heap.size + 1 + 1 < W3.heap.size := G.out.rb.lt
  have hm : (newFr p f).locals.length = (funcAt p f).locals.toNat := by simp [newFr]
  have HM := Lib.hid hm
  clear hW3 hrp3 hB3 x0 x1 x2 x3 x4 y0 y1 y2 y3 y4 p0 p1 p2 p3 p4 p5 p6 hlt hlt1 hlt0 hown4 hb4 hm
  generalize (funcAt p f).locals.toNat = m at *
  have x0 := (g4.bx.cell 0).trans rfl
  have x1 := (g4.bx.cell 1).trans rfl
  have x2 := (g4.bx.cell 2).trans rfl
  have x3 := (g4.bx.cell 3).trans rfl
  have x4 := (g4.bx.cell 4).trans rfl
  have y2 := g4.bx.frozen 2
  have hlt : w.heap.size + 1 + 1 < w4.heap.size := g4.rb.lt
  have hlt1 : w.heap.size + 1 < w4.heap.size := by omega
  have hlt0 : w.heap.size < w4.heap.size := by omega
  have r0 := (g4.rb.cell 0).trans rfl
  have r1 := (g4.rb.cell 1).trans rfl
  have r2 := (g4.rb.cell 2).trans rfl
  have r3 := (g4.rb.cell 3).trans rfl
  have r4 := (g4.rb.cell 4).trans rfl
  have u0 := g4.rb.frozen 0
  have u1 := g4.rb.frozen 1
  have u2 := g4.rb.frozen 2
  have u3 := g4.rb.frozen 3
  have u4 := g4.rb.frozen 4
  clear g4 pb4 G HPB
  go_wp2_with fail
  refine bodyPost_ret (v := .tuple #[.agg #[.int .i64 t.state, .int .i64 t.on, .slice A' t.frames.length c', .slice kA t.stack.length t.stack.length, .int .i64 t.code], .bool false]) (results_cell_slot rfl _ _ (w.heap.size + 1 + 1) 29 _ (0, 0) _ _ rfl rfl ((Blk.set5 G4.out.rb _ _ _ _ _).alloc _) Try.underlying29 rfl (by kernel_rfl)) rfl ?_
  have hf := ((Fr.refl (fun i => i = w.heap.size + 1 ∨ i = w.heap.size + 1 + 1) w4).set5 (g := w.heap.size + 1 + 1) (.inl (.inr rfl)) (.int .i64 t.state) (.int .i64 t.on) (.slice A' t.frames.length c') (.slice kA t.stack.length t.stack.length) (.int .i64 t.code)).alloc (.cells #[.int .i64 (f : Int), .int .i64 0, .slice A m c] 67)
  have hrt := G4.out.rt hf (st := t.stack) (G4.out.stk hf)
  exact ⟨⟨A', c', kA, t.stack.length⟩, rfl, hrt.1.wide, hrt.2⟩
set_option maxHeartbeats 4000000 in
set_option maxRecDepth 100000 in
theorem enter_yes (h : PH) (p : PV) (ht : TH) (t : TV) (w : World) (B : Nat) (D : Nat → Prop) (hr : RP w B h p) (hr2 : RT w D ht t) (hB : B ≤ w.heap.size) (hfl : FewLoc p) (hplen : p.funcs.length ≤ 9223372036854775807) (hl : LensT t) (f : Nat) (hf : f < p.funcs.length) (hroom : t.frames.length < 8) :
    Calls Try.prog 95 #[.agg #[.slice h.fA p.funcs.length h.fc, .int .i64 p.mutexes, .slice h.cA p.conds.length h.cc, .slice h.sA p.semas.length h.sc, .slice h.hA p.chans.length h.hc, .slice h.xA p.choices.length h.xc, .int .i64 p.threads], .agg #[.int .i64 t.state, .int .i64 t.on, .slice ht.fA t.frames.length ht.fc, .slice ht.sA t.stack.length ht.sc, .int .i64 t.code], .int .i64 (f : Int)] w
      fun e w' => ∃ h' : TH, e = .returned (.tuple #[.agg #[.int .i64 (enterT p t f).state, .int .i64 (enterT p t f).on, .slice h'.fA (enterT p t f).frames.length h'.fc, .slice h'.sA (enterT p t f).stack.length h'.sc, .int .i64 (enterT p t f).code], .bool true]) ∧ RT w' (fun i => D i ∨ w.heap.size ≤ i) h' (enterT p t f) ∧ Below w.heap.size w w' := by
  obtain ⟨i0, hi0, hz0, hz1, hz2⟩ := info_parts info_frame
  have hshare := fun (W : World) (hW : RT W (fun i => D i ∧ i < w.heap.size) ht t) => share_any ht t W _ hW hl
  have hbeg := fun (W : World) (hW : RP W B h p) (hBW : B ≤ W.heap.size) => begin_any h p W B hW hBW hfl hplen f hf
  have HS := Lib.hid hshare
  have HBEG := Lib.hid hbeg
  obtain ⟨tA, tc, kA, kc⟩ := ht
  obtain ⟨fA, fc, cA, cc, sA, sc, hA, hc, xA, xc⟩ := h
  have HR := Lib.hid hr
  have HR2 := Lib.hid hr2.cut
  clear hr hr2 hshare hbeg hl hfl
  go_enter Try.func95, Try.ntmps95
  go_wp2_with fail
  refine (HS.out _ (((HR2.out.alloc _).alloc _).alloc _)).mono ?_
  rintro e w1 ⟨A', c', ts, rfl, hown, hfs, heach, hb⟩
  obtain ⟨W2, hW2⟩ : ∃ W, W = ((w.alloc (.cells #[.slice fA p.funcs.length fc, .int .i64 p.mutexes, .slice cA p.conds.length cc, .slice sA p.semas.length sc, .slice hA p.chans.length hc, .slice xA p.choices.length xc, .int .i64 p.threads] 26)).alloc (.cells #[.int .i64 t.state, .int .i64 t.on, .slice tA t.frames.length tc, .slice kA t.stack.length kc, .int .i64 t.code] 29)).alloc (.cells #[.int .i64 0, .int .i64 0, .slice none 0 0, .slice none 0 0, .int .i64 0] 29) := ⟨_, rfl⟩
  have hz : W2.heap.size = w.heap.size + 1 + 1 + 1 := by rw [hW2]; simp
  have hpb2 : Blk W2 w.heap.size 26 #[.slice fA p.funcs.length fc, .int .i64 p.mutexes, .slice cA p.conds.length cc, .slice sA p.semas.length sc, .slice hA p.chans.length hc, .slice xA p.choices.length xc, .int .i64 p.threads] := by rw [hW2]; exact ((Blk.new w _ _).alloc _).alloc _
  have hbx2 : Blk W2 (w.heap.size + 1) 29 #[.int .i64 t.state, .int .i64 t.on, .slice tA t.frames.length tc, .slice kA t.stack.length kc, .int .i64 t.code] := by rw [hW2]; refine Blk.alloc ?_ _; simpa using Blk.new (w.alloc (.cells #[.slice fA p.funcs.length fc, .int .i64 p.mutexes, .slice cA p.conds.length cc, .slice sA p.semas.length sc, .slice hA p.chans.length hc, .slice xA p.choices.length xc, .int .i64 p.threads] 26)) 29 #[.int .i64 t.state, .int .i64 t.on, .slice tA t.frames.length tc, .slice kA t.stack.length kc, .int .i64 t.code]
  have hrb2 : Blk W2 (w.heap.size + 1 + 1) 29 #[.int .i64 0, .int .i64 0, .slice none 0 0, .slice none 0 0, .int .i64 0] := by rw [hW2]; simpa using Blk.new ((w.alloc (.cells #[.slice fA p.funcs.length fc, .int .i64 p.mutexes, .slice cA p.conds.length cc, .slice sA p.semas.length sc, .slice hA p.chans.length hc, .slice xA p.choices.length xc, .int .i64 p.threads] 26)).alloc (.cells #[.int .i64 t.state, .int .i64 t.on, .slice tA t.frames.length tc, .slice kA t.stack.length kc, .int .i64 t.code] 29)) 29 #[.int .i64 0, .int .i64 0, .slice none 0 0, .slice none 0 0, .int .i64 0]
  have hbel2 : Below w.heap.size w W2 := by rw [hW2]; exact (((Below.refl w.heap.size w).alloc (Nat.le_refl _) _).alloc (by simp) _).alloc (by simp; omega) _
  rw [← hW2] at hown hb heach
  have hri2 : RT W2 (fun i => D i ∧ i < w.heap.size) ⟨tA, tc, kA, kc⟩ t := HR2.out.below hbel2
  clear hW2
  rw [hz] at hown hb
  have hsz := hb.size
  rw [hz] at hsz
  have hpb1 := hpb2.below hb (by omega)
  have hbx1 := hbx2.below hb (by omega)
  have hrb1 := hrb2.below hb (by omega)
  have hbel1 : Below w.heap.size w w1 := hbel2.trans (hb.mono (by omega))
  have hst1 : RID w1 (fun i => D i ∧ i < w.heap.size) kA t.stack.length kc t.stack := (hri2.stack).keep fun p hd _ => hb.cell (by omega)
  have hea1 : ∀ x ∈ ts, x.c = x.f.locals.length ∧ RID w1 (fun i => D i ∧ i < w.heap.size) x.A x.f.locals.length x.f.locals.length x.f.locals := fun x hx => ⟨(heach x hx).1, (heach x hx).2.keep fun p hd _ => hb.cell (by omega)⟩
  have hsd := shd_of (w := w) hbx1 hrb1 (by omega) ⟨by omega, by omega⟩ ⟨by omega, by omega⟩ hown hfs hea1 hst1 hbel1 (fun i hi => hi.2)
  have p0 := (hpb1.cell 0).trans rfl
  have p1 := (hpb1.cell 1).trans rfl
  have p2 := (hpb1.cell 2).trans rfl
  have p3 := (hpb1.cell 3).trans rfl
  have p4 := (hpb1.cell 4).trans rfl
  have p5 := (hpb1.cell 5).trans rfl
  have p6 := (hpb1.cell 6).trans rfl
  have x0 := (hbx1.cell 0).trans rfl
  have x1 := (hbx1.cell 1).trans rfl
  have x2 := (hbx1.cell 2).trans rfl
  have x3 := (hbx1.cell 3).trans rfl
  have x4 := (hbx1.cell 4).trans rfl
  have y0 := hbx1.frozen 0
  have y1 := hbx1.frozen 1
  have y2 := hbx1.frozen 2
  have y3 := hbx1.frozen 3
  have y4 := hbx1.frozen 4
  have hlt : w.heap.size + 1 + 1 < w1.heap.size := by omega
  have hlt1 : w.heap.size + 1 < w1.heap.size := by omega
  have hlt0 : w.heap.size < w1.heap.size := by omega
  have hpb3 : Blk (((((w1.setCell ⟨w.heap.size + 1, 0, none⟩ (.int .i64 t.state)).setCell ⟨w.heap.size + 1, 1, none⟩ (.int .i64 t.on)).setCell ⟨w.heap.size + 1, 2, none⟩ (.slice A' t.frames.length c')).setCell ⟨w.heap.size + 1, 3, none⟩ (.slice kA t.stack.length t.stack.length)).setCell ⟨w.heap.size + 1, 4, none⟩ (.int .i64 t.code)) w.heap.size 26 #[.slice fA p.funcs.length fc, .int .i64 p.mutexes, .slice cA p.conds.length cc, .slice sA p.semas.length sc, .slice hA p.chans.length hc, .slice xA p.choices.length xc, .int .i64 p.threads] := ((((hpb1.far (by simp) _).far (by simp) _).far (by simp) _).far (by simp) _).far (by simp) _
  have G := Lib.hid hsd; have HPB := Lib.hid hpb3
  clear hpb2 hbx2 hrb2 hbel2 hri2 hown hb heach hbx1 hrb1 hbel1 hst1 hea1 hfs hsz hz hsd hpb1 hpb3
  go_wp2_with fail
  have hrp3 : RP (((((w1.setCell ⟨w.heap.size + 1, 0, none⟩ (.int .i64 t.state)).setCell ⟨w.heap.size + 1, 1, none⟩ (.int .i64 t.on)).setCell ⟨w.heap.size + 1, 2, none⟩ (.slice A' t.frames.length c')).setCell ⟨w.heap.size + 1, 3, none⟩ (.slice kA t.stack.length t.stack.length)).setCell ⟨w.heap.size + 1, 4, none⟩ (.int .i64 t.code)) B ⟨fA, fc, cA, cc, sA, sc, hA, hc, xA, xc⟩ p := HR.out.below (G.out.bel.mono hB)
  have hB3 : B ≤ (((((w1.setCell ⟨w.heap.size + 1, 0, none⟩ (.int .i64 t.state)).setCell ⟨w.heap.size + 1, 1, none⟩ (.int .i64 t.on)).setCell ⟨w.heap.size + 1, 2, none⟩ (.slice A' t.frames.length c')).setCell ⟨w.heap.size + 1, 3, none⟩ (.slice kA t.stack.length t.stack.length)).setCell ⟨w.heap.size + 1, 4, none⟩ (.int .i64 t.code)).heap.size := Nat.le_trans hB G.out.bel.size
  refine (HBEG.out _ hrp3 hB3).mono ?_
  rintro e w4 ⟨A, c, rfl, hown4, hb4⟩
  obtain ⟨W3, hW3⟩ : ∃ W, W = (((((w1.setCell ⟨w.heap.size + 1, 0, none⟩ (.int .i64 t.state)).setCell ⟨w.heap.size + 1, 1, none⟩ (.int .i64 t.on)).setCell ⟨w.heap.size + 1, 2, none⟩ (.slice A' t.frames.length c')).setCell ⟨w.heap.size + 1, 3, none⟩ (.slice kA t.stack.length t.stack.length)).setCell ⟨w.heap.size + 1, 4, none⟩ (.int .i64 t.code)) := ⟨_, rfl⟩
  rw [← hW3] at G HPB hown4 hb4
  have hz3 := G.out.bel.size
  have hz4 := hb4.size
  have g4 := G.out.below hb4
  have pb4 := HPB.out.below hb4 HPB.out.lt
  have G4 := Lib.hid g4; have HO4 := Lib.hid hown4; have HB4 := Lib.hid hb4
  have hzr : w.heap.size + 1 + 1 < W3.heap.size := G.out.rb.lt
  have hm : (newFr p f).locals.length = (funcAt p f).locals.toNat := by simp [newFr]
  have HM := Lib.hid hm
  clear hW3 hrp3 hB3 x0 x1 x2 x3 x4 y0 y1 y2 y3 y4 p0 p1 p2 p3 p4 p5 p6 hlt hlt1 hlt0 hown4 hb4 hm
  generalize (funcAt p f).locals.toNat = m at *
  have x0 := (g4.bx.cell 0).trans rfl
  have x1 := (g4.bx.cell 1).trans rfl
  have x2 := (g4.bx.cell 2).trans rfl
  have x3 := (g4.bx.cell 3).trans rfl
  have x4 := (g4.bx.cell 4).trans rfl
  have y2 := g4.bx.frozen 2
  have hlt : w.heap.size + 1 + 1 < w4.heap.size := g4.rb.lt
  have hlt1 : w.heap.size + 1 < w4.heap.size := by omega
  have hlt0 : w.heap.size < w4.heap.size := by omega
  have r0 := (g4.rb.cell 0).trans rfl
  have r1 := (g4.rb.cell 1).trans rfl
  have r2 := (g4.rb.cell 2).trans rfl
  have r3 := (g4.rb.cell 3).trans rfl
  have r4 := (g4.rb.cell 4).trans rfl
  have u0 := g4.rb.frozen 0
  have u1 := g4.rb.frozen 1
  have u2 := g4.rb.frozen 2
  have u3 := g4.rb.frozen 3
  have u4 := g4.rb.frozen 4
  clear g4 pb4 G HPB
  have hrow6 : ((w4.alloc (.cells #[.int .i64 (f : Int), .int .i64 0, .slice A m c] 67)).alloc (.cells #[.int .i64 (f : Int), .int .i64 0, .slice A m c] 67)).ownsRow (w.heap.size + 1 + 1 + 1) 67 3 (.slice A' t.frames.length c') t.frames.length (FrS ts) := (G4.out.row.alloc _).alloc _
  have hnew6 := Reads.of_own (own_frame (w4.alloc (.cells #[.int .i64 (f : Int), .int .i64 0, .slice A m c] 67)) (newFr p f) A c m HM.out)
  have hsz6 : (w4.alloc (.cells #[.int .i64 (f : Int), .int .i64 0, .slice A m c] 67)).heap.size = w4.heap.size + 1 := by simp
  rw [hsz6] at hnew6
  have HROW := Lib.hid hrow6; have HNEW := Lib.hid hnew6
  clear hrow6 hnew6 hsz6
  go_wp2_with (at_builtin; go_must (refine wpList_append_any _ rfl (.tmp 28) (.tmp 30) _ rfl (w.heap.size + 1 + 1 + 1) 67 i0 _ 3 40 Try.underlying27 hi0 hz0 hz1 hz2 rfl (by decide) (.slice A' t.frames.length c') t.frames.length (FrS ts) rfl HROW.out _ (some ⟨w4.heap.size + 1, 0, none⟩) 1 1 (FrS [⟨newFr p f, A, c⟩]) rfl HNEW.out (FrS_one _) ?c1 ?c2 (by simp; omega) ?k))
  case c1 => unfold maxLen; omega
  case c2 => omega
  case k =>
  intro v' w7 hown7 hg7 hat7
  obtain ⟨An, cn, rfl, _, _⟩ := own_slice hown7
  rw [FrS_append] at hown7
  have hF : Fr (fun i => (Value.slice A' t.frames.length c').ownBlock = some i) w4 w7 := (((Fr.refl _ w4).alloc _).alloc _).trans (Fr.of_grown hg7) (fun i _ h => h)
  have hb7 := hF.blk G4.out.bx (own_blk_ne G4.out.row G4.out.bx (by decide))
  have hr7 := hF.blk G4.out.rb (own_blk_ne G4.out.row G4.out.rb (by decide))
  have hl7 := hF.own HO4.out (own_ne HO4.out G4.out.row (by decide))
  have hs7 : RID w7 (fun i => D i ∧ i < w.heap.size) kA t.stack.length t.stack.length t.stack := G4.out.stack.keep fun p hd hp => hF.cell hp (fun e => by have := (G4.out.row.lt _ e).1; omega)
  have he7 : ∀ x ∈ ts, RID w7 (fun i => D i ∧ i < w.heap.size) x.A x.f.locals.length x.c x.f.locals := fun x hx => by
    obtain ⟨e, hri⟩ := G4.out.each x hx
    rw [e]
    exact hri.keep fun p hd hp => hF.cell hp (fun e => by have := (G4.out.row.lt _ e).1; omega)
  have hbel7 : Below w.heap.size w w7 := G4.out.bel.trans (hF.below G4.out.bel.size (fun i e => by have := (G4.out.row.lt _ e).1; omega))
  have hz7 := hbel7.size
  clear x0 x1 x2 x3 x4 y2 hlt hlt1 hlt0 r0 r1 r2 r3 r4 u0 u1 u2 u3 u4
  have x0 := (hb7.cell 0).trans rfl
  have x1 := (hb7.cell 1).trans rfl
  have x2 := (hb7.cell 2).trans rfl
  have x3 := (hb7.cell 3).trans rfl
  have x4 := (hb7.cell 4).trans rfl
  have y2 := hb7.frozen 2
  have hlt : w.heap.size + 1 + 1 < w7.heap.size := hr7.lt
  have hlt1 : w.heap.size + 1 < w7.heap.size := by omega
  have r0 := (hr7.cell 0).trans rfl
  have r1 := (hr7.cell 1).trans rfl
  have r2 := (hr7.cell 2).trans rfl
  have r3 := (hr7.cell 3).trans rfl
  have r4 := (hr7.cell 4).trans rfl
  have u0 := hr7.frozen 0
  have u1 := hr7.frozen 1
  have u2 := hr7.frozen 2
  have u3 := hr7.frozen 3
  have u4 := hr7.frozen 4
  have K1 := Lib.hid hown7; have K2 := Lib.hid hr7; have K3 := Lib.hid hl7; have K4 := Lib.hid hs7; have K5 := Lib.hid he7; have K6 := Lib.hid hbel7
  have hfs : (ts ++ [(⟨newFr p f, A, c⟩ : TFr)]).map TFr.f = (enterT p t f).frames := by rw [List.map_append, G4.out.fs]; rfl
  have K7 := Lib.hid hfs
  clear hF hb7 hr7 hl7 hs7 he7 hbel7 hown7 hg7 hat7 HROW HNEW hfs
  go_wp2_with fail
  have hf := ((Fr.refl (fun i => i = w.heap.size + 1 ∨ i = w.heap.size + 1 + 1) w7).setCell (p := ⟨w.heap.size + 1, 2, none⟩) (.inl (.inl rfl)) (.slice An (t.frames.length + 1) cn)).set5 (g := w.heap.size + 1 + 1) (.inl (.inr rfl)) (.int .i64 t.state) (.int .i64 t.on) (.slice An (t.frames.length + 1) cn) (.slice kA t.stack.length t.stack.length) (.int .i64 t.code)
  refine bodyPost_ret (v := .tuple #[.agg #[.int .i64 t.state, .int .i64 t.on, .slice An (t.frames.length + 1) cn, .slice kA t.stack.length t.stack.length, .int .i64 t.code], .bool true]) (results_cell_slot rfl _ _ (w.heap.size + 1 + 1) 29 _ (0, 0) _ _ rfl rfl (Blk.set5 (K2.out.far (by simp) _) _ _ _ _ _) Try.underlying29 rfl (by kernel_rfl)) rfl ?_
  have hs := hf.size
  have ho8 := hf.own K1.out (fun i hi e => by have := (K1.out.lt i hi).1; rcases e with e | e <;> omega)
  have hl8 := hf.own K3.out (fun i hi e => by have := (K3.out.lt i hi).1; rcases e with e | e <;> omega)
  refine ⟨⟨An, cn, kA, t.stack.length⟩, by simp [enterT], ⟨?_, ?_⟩, K6.out.trans (hf.below hz7 (fun i hi => by rcases hi with e | e <;> omega))⟩
  · rw [show (enterT p t f).frames.length = t.frames.length + 1 by simp [enterT]]
    refine rgd_of_own ho8 K7.out (fun i hi => .inr (by omega)) (fun x hx => ?_)
    rcases List.mem_append.1 hx with hx | hx
    · exact ((K5.out x hx).keep fun p hd hp => hf.cell hp (fun e => by rcases e with e | e <;> omega)).mono (fun i hi _ => .inl hi.1)
    · simp at hx
      subst hx
      show RID _ _ A (newFr p f).locals.length c (newFr p f).locals
      rw [HM.out]
      exact (rid_of_own hl8 HM.out).mono (fun i hi _ => .inr (by omega))
  · exact (K4.out.keep fun p hd hp => hf.cell hp (fun e => by rcases e with e | e <;> omega)).mono (fun i hi _ => .inl hi.1)
end Go.Proofs.Ytkciedcfphhenaa
