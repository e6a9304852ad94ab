
/-
  Layer 5 in one text: what VmI .. VmU hold.
-/
import Derived.Test.YtkciedcfphhenaaVmPre
import Derived.Deep.RegionLaw
import Derived.Deep.RegionHeld
import Derived.Deep.DeepCutAuto
import Derived.Deep.CutBlock
import Derived.Test.YtkciedcfphhenaaGood4R
import Derived.Test.YtkciedcfphhenaaCAt
import Derived.Deep.RegionHeld3
import Derived.Test.YtkciedcfphhenaaThrN
import Derived.Test.YtkciedcfphhenaaDoesA
import Derived.Test.YtkciedcfphhenaaThrJ
import Derived.Test.YtkciedcfphhenaaThrC
import Derived.Test.YtkciedcfphhenaaSBox
/-
  vm: a turn's pass.
-/
set_option linter.unusedVariables false
set_option linter.unusedSimpArgs false
namespace Go.Proofs.Ytkciedcfphhenaa
open Go.RowKit Plain

set_option maxHeartbeats 4000000 in
set_option maxRecDepth 100000 in
theorem upass_any (h : PH) (p : PV) (ht : TH) (t : TV) (a : Int) (q : QV) (W : World) (ub B : Nat) (hu : US W ub B h p ht t a q) (hl : LensT t) (hm : 1 ≤ t.frames.length ∧ t.frames.length ≤ 1000000) (hpc : 0 ≤ (lastFr t).pc ∧ (lastFr t).pc ≤ 1000000) :
    Calls Try.prog 54 #[.pointer (some ⟨ub, 0, none⟩)] W fun e W' => e = .returned (.tuple #[]) ∧ (∃ ht' : TH, US W' ub B h p ht' (jumpT t ((lastFr t).pc + 1)) a q) ∧ Fr (fun i => i = ub) W W' := by
  obtain ⟨fA, fc, cA, cc, sA, sc, hA, hc, xA, xc⟩ := h
  obtain ⟨a1, c1, s1, d1⟩ := ht
  have HU := Lib.hid hu
  have hul := hu.bx.lt
  obtain ⟨k, hk, hkl⟩ := lastFr_ex hm.1
  have hrg := hu.rt.frames.rg
  obtain ⟨ad, y, hEA, hab, hy, y0', y1', y2', hyr⟩ := hrg.at_ (k := k) (by omega)
  have hsp : ad.spot = none := by obtain ⟨ts, _, _, _, h4, _⟩ := hrg; rw [hEA] at h4; exact h4.spot (by omega) (by omega)
  have hyl : y.f = lastFr t := by rw [hy] at hkl; injection hkl
  obtain ⟨bA, oA, pA⟩ := ad
  simp only at hEA hsp hab
  subst hsp
  have had : ((⟨bA, oA, none⟩ : Addr).add (k * 3)) = ⟨bA, oA + k * 3, none⟩ := by unfold Addr.add; by_cases h0 : k * 3 = 0 <;> simp [h0]
  rw [had] at y0' y1' y2'
  simp only at y1' y2'
  have hk6 : k < 1000000 := by omega
  have x0 : W.cell? ⟨ub, 0, none⟩ = some (.slice fA p.funcs.length fc) := (hu.bx.cell 0).trans rfl
  have y0 : W.frozen? ⟨ub, 0, none⟩ = false := hu.bx.frozen 0
  have x1 : W.cell? ⟨ub, 1, none⟩ = some (.int .i64 p.mutexes) := (hu.bx.cell 1).trans rfl
  have y1 : W.frozen? ⟨ub, 1, none⟩ = false := hu.bx.frozen 1
  have x2 : W.cell? ⟨ub, 2, none⟩ = some (.slice cA p.conds.length cc) := (hu.bx.cell 2).trans rfl
  have y2 : W.frozen? ⟨ub, 2, none⟩ = false := hu.bx.frozen 2
  have x3 : W.cell? ⟨ub, 3, none⟩ = some (.slice sA p.semas.length sc) := (hu.bx.cell 3).trans rfl
  have y3 : W.frozen? ⟨ub, 3, none⟩ = false := hu.bx.frozen 3
  have x4 : W.cell? ⟨ub, 4, none⟩ = some (.slice hA p.chans.length hc) := (hu.bx.cell 4).trans rfl
  have y4 : W.frozen? ⟨ub, 4, none⟩ = false := hu.bx.frozen 4
  have x5 : W.cell? ⟨ub, 5, none⟩ = some (.slice xA p.choices.length xc) := (hu.bx.cell 5).trans rfl
  have y5 : W.frozen? ⟨ub, 5, none⟩ = false := hu.bx.frozen 5
  have x6 : W.cell? ⟨ub, 6, none⟩ = some (.int .i64 p.threads) := (hu.bx.cell 6).trans rfl
  have y6 : W.frozen? ⟨ub, 6, none⟩ = false := hu.bx.frozen 6
  have x7 : W.cell? ⟨ub, 7, none⟩ = some (.int .i64 t.state) := (hu.bx.cell 7).trans rfl
  have y7 : W.frozen? ⟨ub, 7, none⟩ = false := hu.bx.frozen 7
  have x8 : W.cell? ⟨ub, 8, none⟩ = some (.int .i64 t.on) := (hu.bx.cell 8).trans rfl
  have y8 : W.frozen? ⟨ub, 8, none⟩ = false := hu.bx.frozen 8
  have x9 : W.cell? ⟨ub, 9, none⟩ = some (.slice (some ⟨bA, oA, none⟩) (k + 1) c1) := (hu.bx.cell 9).trans (show some (Value.slice a1 t.frames.length c1) = _ by rw [hEA, hk])
  have y9 : W.frozen? ⟨ub, 9, none⟩ = false := hu.bx.frozen 9
  have x10 : W.cell? ⟨ub, 10, none⟩ = some (.slice s1 t.stack.length d1) := (hu.bx.cell 10).trans rfl
  have y10 : W.frozen? ⟨ub, 10, none⟩ = false := hu.bx.frozen 10
  have x11 : W.cell? ⟨ub, 11, none⟩ = some (.int .i64 t.code) := (hu.bx.cell 11).trans rfl
  have y11 : W.frozen? ⟨ub, 11, none⟩ = false := hu.bx.frozen 11
  have x12 : W.cell? ⟨ub, 12, none⟩ = some (.int .i64 a) := (hu.bx.cell 12).trans rfl
  have y12 : W.frozen? ⟨ub, 12, none⟩ = false := hu.bx.frozen 12
  have hj := fun X (hX : Below W.heap.size W X) => jump_all ⟨a1, c1, s1, d1⟩ t ((lastFr t).pc + 1) X _ (hu.rt.below hX) hl hm.1 hm.2 _ rfl
  rw [← hyl] at hj hpc ⊢
  have HJ := Lib.hid hj
  have iw : IntKind.i64.wrap (k : Int) = (k : Int) := IntWalk.i64_in _ (by omega)
  have ik : (k : Int) < (k : Int) + 1 := by omega
  clear hu hl hm hk hkl hrg hEA hy hyr hyl had hj
  generalize jumpT t (y.f.pc + 1) = t2 at *
  go_enter Try.func54, Try.ntmps54
  go_upto_region 0 with fail
  go_cut [2] (fun s2 wx => s2 = .pointer (some ⟨W.heap.size, 0, none⟩) ∧ wx = (W.alloc (.cells #[.int .i64 y.f.func, .int .i64 y.f.pc, .slice y.A y.f.locals.length y.c] 67)).drew)
  case first =>
    go_region
    all_goals
      go_wp2_with fail
      go_meet
      exact ⟨rfl, rfl⟩
  case rest =>
  obtain ⟨rfl, rfl⟩ := hcut
  have hal : Below W.heap.size W ((W.alloc (.cells #[.int .i64 y.f.func, .int .i64 y.f.pc, .slice y.A y.f.locals.length y.c] 67)).drew) := ((Below.refl _ _).alloc (Nat.le_refl _) _).drew
  have hbo : Blk ((W.alloc (.cells #[.int .i64 y.f.func, .int .i64 y.f.pc, .slice y.A y.f.locals.length y.c] 67)).drew) W.heap.size 67 #[.int .i64 y.f.func, .int .i64 y.f.pc, .slice y.A y.f.locals.length y.c] := (Blk.new _ _ _).drew
  have hu1 := HU.out.below hal
  obtain ⟨fb, hfb⟩ : ∃ b, b = W.heap.size := ⟨_, rfl⟩
  obtain ⟨W1, hW1⟩ : ∃ W', W' = (W.alloc (.cells #[.int .i64 y.f.func, .int .i64 y.f.pc, .slice y.A y.f.locals.length y.c] 67)).drew := ⟨_, rfl⟩
  rw [← hW1] at hal hbo hu1 ⊢
  rw [← hfb] at hbo ⊢
  have HJ1 := Lib.hid (HJ.out W1.drew hal.drew)
  have HU1 := Lib.hid hu1; have HAL := Lib.hid hal
  have hnb : ¬ fb = ub := by omega
  clear hW1 hfb HJ HU y0' y1' y2' iw ik hab x0 x1 x2 x3 x4 x5 x6 x7 x8 x9 x10 x11 x12 y0 y1 y2 y3 y4 y5 y6 y7 y8 y9 y10 y11 y12
  have hfl := hbo.lt
  have o1 : W1.cell? ⟨fb, 1, none⟩ = some (.int .i64 y.f.pc) := (hbo.cell 1).trans rfl
  have x0 : W1.cell? ⟨ub, 0, none⟩ = some (.slice fA p.funcs.length fc) := (hu1.bx.cell 0).trans rfl
  have y0 : W1.frozen? ⟨ub, 0, none⟩ = false := hu1.bx.frozen 0
  have x1 : W1.cell? ⟨ub, 1, none⟩ = some (.int .i64 p.mutexes) := (hu1.bx.cell 1).trans rfl
  have y1 : W1.frozen? ⟨ub, 1, none⟩ = false := hu1.bx.frozen 1
  have x2 : W1.cell? ⟨ub, 2, none⟩ = some (.slice cA p.conds.length cc) := (hu1.bx.cell 2).trans rfl
  have y2 : W1.frozen? ⟨ub, 2, none⟩ = false := hu1.bx.frozen 2
  have x3 : W1.cell? ⟨ub, 3, none⟩ = some (.slice sA p.semas.length sc) := (hu1.bx.cell 3).trans rfl
  have y3 : W1.frozen? ⟨ub, 3, none⟩ = false := hu1.bx.frozen 3
  have x4 : W1.cell? ⟨ub, 4, none⟩ = some (.slice hA p.chans.length hc) := (hu1.bx.cell 4).trans rfl
  have y4 : W1.frozen? ⟨ub, 4, none⟩ = false := hu1.bx.frozen 4
  have x5 : W1.cell? ⟨ub, 5, none⟩ = some (.slice xA p.choices.length xc) := (hu1.bx.cell 5).trans rfl
  have y5 : W1.frozen? ⟨ub, 5, none⟩ = false := hu1.bx.frozen 5
  have x6 : W1.cell? ⟨ub, 6, none⟩ = some (.int .i64 p.threads) := (hu1.bx.cell 6).trans rfl
  have y6 : W1.frozen? ⟨ub, 6, none⟩ = false := hu1.bx.frozen 6
  have x7 : W1.cell? ⟨ub, 7, none⟩ = some (.int .i64 t.state) := (hu1.bx.cell 7).trans rfl
  have y7 : W1.frozen? ⟨ub, 7, none⟩ = false := hu1.bx.frozen 7
  have x8 : W1.cell? ⟨ub, 8, none⟩ = some (.int .i64 t.on) := (hu1.bx.cell 8).trans rfl
  have y8 : W1.frozen? ⟨ub, 8, none⟩ = false := hu1.bx.frozen 8
  have x9 : W1.cell? ⟨ub, 9, none⟩ = some (.slice a1 t.frames.length c1) := (hu1.bx.cell 9).trans rfl
  have y9 : W1.frozen? ⟨ub, 9, none⟩ = false := hu1.bx.frozen 9
  have x10 : W1.cell? ⟨ub, 10, none⟩ = some (.slice s1 t.stack.length d1) := (hu1.bx.cell 10).trans rfl
  have y10 : W1.frozen? ⟨ub, 10, none⟩ = false := hu1.bx.frozen 10
  have x11 : W1.cell? ⟨ub, 11, none⟩ = some (.int .i64 t.code) := (hu1.bx.cell 11).trans rfl
  have y11 : W1.frozen? ⟨ub, 11, none⟩ = false := hu1.bx.frozen 11
  have x12 : W1.cell? ⟨ub, 12, none⟩ = some (.int .i64 a) := (hu1.bx.cell 12).trans rfl
  have y12 : W1.frozen? ⟨ub, 12, none⟩ = false := hu1.bx.frozen 12
  have hul1 := hu1.bx.lt
  clear hbo hu1 hal
  have iv : IntKind.i64.wrap (y.f.pc + 1) = y.f.pc + 1 := IntWalk.i64_in _ (by omega)
  go_upto_region 1 with fail
  go_region_law (go_simp; with_reducible refine HJ1.out.mono ?_
                 rintro e W2 ⟨⟨a2, c2, s2, d2⟩, rfl, hrt, hb1⟩
                 have hbw : Below W1.heap.size W1 W2 := ((Below.refl _ _).drew).trans hb1
                 have hr2 := hrt.mono (E := fun i => B ≤ i ∧ i ≠ ub) (fun i hi _ => by rcases hi with hi | hi; exact hi; have := hi; simp at this; (first | omega | (have hBu := HU.out.hB; omega) | (have hBu := HU1.out.hB; omega) | (have hBu := HUS.out.hB; omega)))
                 have HB := Lib.hid hbw; have HR2 := Lib.hid hr2
                 have hu2 := HU1.out.below hbw
                 have hs := hbw.size
                 clear hb1 hbw hrt hr2
                 have x7 : W2.cell? ⟨ub, 7, none⟩ = some (.int .i64 t.state) := (hu2.bx.cell 7).trans rfl
                 have y7 : W2.frozen? ⟨ub, 7, none⟩ = false := hu2.bx.frozen 7
                 have x8 : W2.cell? ⟨ub, 8, none⟩ = some (.int .i64 t.on) := (hu2.bx.cell 8).trans rfl
                 have y8 : W2.frozen? ⟨ub, 8, none⟩ = false := hu2.bx.frozen 8
                 have x9 : W2.cell? ⟨ub, 9, none⟩ = some (.slice a1 t.frames.length c1) := (hu2.bx.cell 9).trans rfl
                 have y9 : W2.frozen? ⟨ub, 9, none⟩ = false := hu2.bx.frozen 9
                 have x10 : W2.cell? ⟨ub, 10, none⟩ = some (.slice s1 t.stack.length d1) := (hu2.bx.cell 10).trans rfl
                 have y10 : W2.frozen? ⟨ub, 10, none⟩ = false := hu2.bx.frozen 10
                 have x11 : W2.cell? ⟨ub, 11, none⟩ = some (.int .i64 t.code) := (hu2.bx.cell 11).trans rfl
                 have y11 : W2.frozen? ⟨ub, 11, none⟩ = false := hu2.bx.frozen 11
                 have hul2 := hu2.bx.lt
                 clear hu2)
  all_goals
    go_wp2_with fail
    go_end0
    have hs := HU1.out.setT HB.out HR2.out
    exact ⟨rfl, ⟨_, hs.1⟩, ((Fr.of_below HAL.out).mono (S := fun i => i = ub) (fun i hi hT => by omega)).trans hs.2 (fun i _ h => h)⟩
end Go.Proofs.Ytkciedcfphhenaa

/-
  vm: two numbers that are popped; add, sub.
-/
set_option linter.unusedVariables false
set_option linter.unusedSimpArgs false
namespace Go.Proofs.Ytkciedcfphhenaa
open Go.RowKit Plain

theorem en_p205 : ∀ (args : Array Value) (W : World), (callFunc 91 args).run Try.prog W = .ok (.enter 91 args) W := by
  intro args W
  go_simp
theorem en_p206 : ∀ (args : Array Value) (W : World), (callFunc 92 args).run Try.prog W = .ok (.enter 92 args) W := by
  intro args W
  go_simp
theorem World.heap_size_alloc9 (W : World) (o : Obj) : (W.alloc o).heap.size = W.heap.size + 1 := by simp
set_option maxHeartbeats 4000000 in
set_option maxRecDepth 100000 in
theorem p206 (x y : Int) (tb yb : Nat) (G : FuncId) (caps : Array Value) (hent : ∀ (args : Array Value) (W : World), (callFunc G args).run Try.prog W = .ok (.enter G args) W) (W : World) (PP : World → Prop) (ht : W.cell? ⟨tb, 0, none⟩ = some (.func (.func G) #[] caps)) (hy : W.cell? ⟨yb, 0, none⟩ = some (.int .i64 y))
    (hcl : Calls Try.prog G (#[.int .i64 x, .int .i64 y] ++ caps) W fun e W' => e = .returned (.tuple #[]) ∧ PP W') :
    Calls Try.prog 92 #[.int .i64 x, .pointer (some ⟨tb, 0, none⟩), .pointer (some ⟨yb, 0, none⟩)] W fun e W' => e = .returned (.tuple #[]) ∧ PP W' := by
  have HCL := Lib.hid hcl
  clear hcl
  go_enter Try.func92, Try.ntmps92
  go_wp2_with fail
  refine HCL.out.mono ?_
  rintro e W1 ⟨rfl, hp⟩
  go_wp2_with fail
  go_end0
  exact ⟨rfl, hp⟩

set_option maxHeartbeats 4000000 in
set_option maxRecDepth 100000 in
theorem p205 (h : PH) (p : PV) (ht : TH) (t : TV) (a : Int) (q : QV) (y : Int) (xb tb : Nat) (G : FuncId) (caps : Array Value) (hent : ∀ (args : Array Value) (W : World), (callFunc G args).run Try.prog W = .ok (.enter G args) W) (t' : TV) (q' : QV) (W : World) (ub B : Nat) (hu : US W ub B h p ht t a q) (hl : LensT t) (h16 : t.stack.length ≤ 1000000) (h0 : 0 < t.stack.length)
    (hx : W.cell? ⟨xb, 0, none⟩ = some (.pointer (some ⟨ub, 0, none⟩))) (htb : W.cell? ⟨tb, 0, none⟩ = some (.func (.func G) #[] caps)) (hxl : xb < W.heap.size) (htl : tb < W.heap.size) (hxn : xb ≠ ub) (htn : tb ≠ ub)
    (hcl : ∀ (W1 : World) (ht1 : TH), US W1 ub B h p ht1 (popT t) a q → Fr (fun i => i = ub) W W1 → Calls Try.prog G (#[.int .i64 (topT t), .int .i64 y] ++ caps) W1 fun e W' => e = .returned (.tuple #[]) ∧ (∃ ht' : TH, US W' ub B h p ht' t' a q') ∧ Fr (fun i => i = ub) W1 W') :
    Calls Try.prog 91 #[.int .i64 y, .pointer (some ⟨xb, 0, none⟩), .pointer (some ⟨tb, 0, none⟩)] W fun e W' => e = .returned (.tuple #[]) ∧ (∃ ht' : TH, US W' ub B h p ht' t' a q') ∧ Fr (fun i => i = ub) W W' := by
  have HU := Lib.hid hu; have HL := Lib.hid hl; have HCL := Lib.hid hcl; have HT := Lib.hid htb
  have hul := hu.bx.lt
  have HX := Lib.hid hx
  clear hu hl hcl htb
  go_enter Try.func91, Try.ntmps91
  go_wp2_with fail
  refine (upop_yes h p ht t a q 92 #[.pointer (some ⟨tb, 0, none⟩), .pointer (some ⟨W.heap.size, 0, none⟩)] en_p206 t' q' _ ub B (HU.out.below ((Below.refl _ _).alloc (Nat.le_refl _) _)) HL.out h16 h0
    (fun W1 ht1 hu1 hf1 => p206 (topT t) y tb W.heap.size G caps hent W1 (fun W' => (∃ ht' : TH, US W' ub B h p ht' t' a q') ∧ Fr (fun i => i = ub) W1 W') (((hf1.cell (p := ⟨tb, 0, none⟩) (by simp; omega) (by simpa using htn)).trans (World.cell?_alloc_lt _ _ _ htl)).trans HT.out) ((hf1.cell (p := ⟨W.heap.size, 0, none⟩) (by simp) (by simp; omega)).trans ((Blk.new W 3 #[.int .i64 y]).cell 0)) (HCL.out W1 ht1 hu1 (((Fr.refl (fun i => i = ub) W).alloc _).trans hf1 (fun i _ h => h))))).mono ?_
  rintro e W1 ⟨rfl, hq, hf⟩
  go_wp2_with fail
  go_end0
  exact ⟨rfl, hq, (((Fr.refl (fun i => i = ub) W).alloc _).trans hf (fun i _ h => h))⟩
set_option maxHeartbeats 4000000 in
set_option maxRecDepth 100000 in
theorem p205_no (h : PH) (p : PV) (ht : TH) (t : TV) (a : Int) (q : QV) (y : Int) (xb tb : Nat) (W : World) (ub B : Nat) (hu : US W ub B h p ht t a q) (hl : LensT t) (h0 : t.stack.length = 0)
    (hx : W.cell? ⟨xb, 0, none⟩ = some (.pointer (some ⟨ub, 0, none⟩))) (hxl : xb < W.heap.size) :
    Calls Try.prog 91 #[.int .i64 y, .pointer (some ⟨xb, 0, none⟩), .pointer (some ⟨tb, 0, none⟩)] W fun e W' => e = .returned (.tuple #[]) ∧ (∃ ht' : TH, US W' ub B h p ht' (deadT 1) a ⟨1, 0, 1⟩) ∧ Fr (fun i => i = ub) W W' := by
  have HU := Lib.hid hu; have HL := Lib.hid hl; have H0 := Lib.hid h0
  have hul := hu.bx.lt
  clear hu hl h0
  go_enter Try.func91, Try.ntmps91
  go_wp2_with fail
  refine (upop_no h p ht t a q 92 #[.pointer (some ⟨tb, 0, none⟩), .pointer (some ⟨W.heap.size, 0, none⟩)] _ ub B (HU.out.below ((Below.refl _ _).alloc (Nat.le_refl _) _)) HL.out (by have := H0.out; omega) H0.out).mono ?_
  rintro e W1 ⟨rfl, hq, hf⟩
  go_wp2_with fail
  go_end0
  exact ⟨rfl, hq, (((Fr.refl (fun i => i = ub) W).alloc _).trans hf (fun i _ h => h))⟩
set_option maxHeartbeats 4000000 in
set_option maxRecDepth 100000 in
theorem upopTwo_no (h : PH) (p : PV) (ht : TH) (t : TV) (a : Int) (q : QV) (G : FuncId) (caps : Array Value) (hent : ∀ (args : Array Value) (W : World), (callFunc G args).run Try.prog W = .ok (.enter G args) W) (W : World) (ub B : Nat) (hu : US W ub B h p ht t a q) (hl : LensT t) (h16 : t.stack.length ≤ 1000000) (h0 : t.stack.length = 0) :
    Calls Try.prog 63 #[.pointer (some ⟨ub, 0, none⟩), .func (.func G) #[] caps] W fun e W' => e = .returned (.tuple #[]) ∧ (∃ ht' : TH, US W' ub B h p ht' (deadT 1) a ⟨1, 0, 1⟩) ∧ Fr (fun i => i = ub) W W' := by
  have HU := Lib.hid hu; have HL := Lib.hid hl
  have hul := hu.bx.lt
  clear hu hl
  have H0 := Lib.hid h0
  clear h0
  go_enter Try.func63, Try.ntmps63
  go_wp2_with fail
  refine (upop_no h p ht t a q 91 #[.pointer (some ⟨W.heap.size, 0, none⟩), .pointer (some ⟨W.heap.size + 1, 0, none⟩)] _ ub B (HU.out.below (((Below.refl _ _).alloc (Nat.le_refl _) _).alloc (by simp) _)) HL.out h16 H0.out).mono ?_
  rintro e W1 ⟨rfl, hq, hf⟩
  go_wp2_with fail
  go_end0
  exact ⟨rfl, hq, ((((Fr.refl (fun i => i = ub) W).alloc _).alloc _).trans hf (fun i _ h => h))⟩
set_option maxHeartbeats 4000000 in
set_option maxRecDepth 100000 in
theorem upopTwo_one (h : PH) (p : PV) (ht : TH) (t : TV) (a : Int) (q : QV) (G : FuncId) (caps : Array Value) (hent : ∀ (args : Array Value) (W : World), (callFunc G args).run Try.prog W = .ok (.enter G args) W) (W : World) (ub B : Nat) (hu : US W ub B h p ht t a q) (hl : LensT t) (h16 : t.stack.length ≤ 1000000) (h0 : t.stack.length = 1) :
    Calls Try.prog 63 #[.pointer (some ⟨ub, 0, none⟩), .func (.func G) #[] caps] W fun e W' => e = .returned (.tuple #[]) ∧ (∃ ht' : TH, US W' ub B h p ht' (deadT 1) a ⟨1, 0, 1⟩) ∧ Fr (fun i => i = ub) W W' := by
  have HU := Lib.hid hu; have HL := Lib.hid hl
  have hul := hu.bx.lt
  clear hu hl
  have H0 := Lib.hid h0
  clear h0
  go_enter Try.func63, Try.ntmps63
  go_wp2_with fail
  refine (upop_yes h p ht t a q 91 #[.pointer (some ⟨W.heap.size, 0, none⟩), .pointer (some ⟨W.heap.size + 1, 0, none⟩)] en_p205 (deadT 1) ⟨1, 0, 1⟩ _ ub B (HU.out.below (((Below.refl _ _).alloc (Nat.le_refl _) _).alloc (by simp) _)) HL.out h16 (by have := H0.out; omega)
    (fun W1 ht1 hu1 hf1 => p205_no h p ht1 (popT t) a q (topT t) W.heap.size (W.heap.size + 1) W1 ub B hu1 (lens_pop HL.out) (by have := H0.out; simp [popT]; omega) ((hf1.cell (p := ⟨W.heap.size, 0, none⟩) (by simp; omega) (by simp; omega)).trans ((World.cell?_alloc_lt _ _ _ (by simp)).trans ((Blk.new W 69 #[.pointer (some ⟨ub, 0, none⟩)]).cell 0))) (by have := hf1.size; simp at this; omega))).mono ?_
  rintro e W1 ⟨rfl, hq, hf⟩
  go_wp2_with fail
  go_end0
  exact ⟨rfl, hq, ((((Fr.refl (fun i => i = ub) W).alloc _).alloc _).trans hf (fun i _ h => h))⟩
set_option maxHeartbeats 4000000 in
set_option maxRecDepth 100000 in
theorem upopTwo_yes (h : PH) (p : PV) (ht : TH) (t : TV) (a : Int) (q : QV) (G : FuncId) (caps : Array Value) (hent : ∀ (args : Array Value) (W : World), (callFunc G args).run Try.prog W = .ok (.enter G args) W) (t' : TV) (q' : QV) (W : World) (ub B : Nat) (hu : US W ub B h p ht t a q) (hl : LensT t) (h16 : t.stack.length ≤ 1000000) (h0 : 2 ≤ t.stack.length)
    (hcl : ∀ (W1 : World) (ht1 : TH), US W1 ub B h p ht1 (popT (popT t)) a q → Fr (fun i => i = ub) W W1 → Calls Try.prog G (#[.int .i64 (topT (popT t)), .int .i64 (topT t)] ++ caps) W1 fun e W' => e = .returned (.tuple #[]) ∧ (∃ ht' : TH, US W' ub B h p ht' t' a q') ∧ Fr (fun i => i = ub) W1 W') :
    Calls Try.prog 63 #[.pointer (some ⟨ub, 0, none⟩), .func (.func G) #[] caps] W fun e W' => e = .returned (.tuple #[]) ∧ (∃ ht' : TH, US W' ub B h p ht' t' a q') ∧ Fr (fun i => i = ub) W W' := by
  have HU := Lib.hid hu; have HL := Lib.hid hl
  have hul := hu.bx.lt
  clear hu hl
  have H0 := Lib.hid h0; have HCL := Lib.hid hcl
  clear h0 hcl
  go_enter Try.func63, Try.ntmps63
  go_wp2_with fail
  refine (upop_yes h p ht t a q 91 #[.pointer (some ⟨W.heap.size, 0, none⟩), .pointer (some ⟨W.heap.size + 1, 0, none⟩)] en_p205 t' q' _ ub B (HU.out.below (((Below.refl _ _).alloc (Nat.le_refl _) _).alloc (by simp) _)) HL.out h16 (by have := H0.out; omega)
    (fun W1 ht1 hu1 hf1 => p205 h p ht1 (popT t) a q (topT t) W.heap.size (W.heap.size + 1) G caps hent t' q' W1 ub B hu1 (lens_pop HL.out) (by have := H0.out; simp [popT]; omega) (by have := H0.out; simp [popT]; omega) ((hf1.cell (p := ⟨W.heap.size, 0, none⟩) (by simp; omega) (by simp; omega)).trans ((World.cell?_alloc_lt _ _ _ (by simp)).trans ((Blk.new W 69 #[.pointer (some ⟨ub, 0, none⟩)]).cell 0))) ((hf1.cell (p := ⟨W.heap.size + 1, 0, none⟩) (by simp) (by simp; omega)).trans (by have h9 := (Blk.new (W.alloc (.cells #[.pointer (some ⟨ub, 0, none⟩)] 69)) 99 #[.func (.func G) #[] caps]).cell 0; rw [World.heap_size_alloc9] at h9; exact h9)) (by have := hf1.size; simp at this; omega) (by have := hf1.size; simp at this; omega) (by omega) (by omega)
      (fun W2 ht2 hu2 hf2 => HCL.out W2 ht2 hu2 (((((Fr.refl (fun i => i = ub) W).alloc _).alloc _).trans hf1 (fun i _ h => h)).trans hf2 (fun i _ h => h))))).mono ?_
  rintro e W1 ⟨rfl, hq, hf⟩
  go_wp2_with fail
  go_end0
  exact ⟨rfl, hq, ((((Fr.refl (fun i => i = ub) W).alloc _).alloc _).trans hf (fun i _ h => h))⟩
theorem en_ia3 : ∀ (args : Array Value) (W : World), (callFunc 64 args).run Try.prog W = .ok (.enter 64 args) W := by
  intro args W
  go_simp
set_option maxHeartbeats 4000000 in
set_option maxRecDepth 100000 in
theorem ia3 (h : PH) (p : PV) (ht : TH) (t : TV) (a x y : Int) (bx : Nat) (W : World) (ub B : Nat) (hu : US W ub B h p ht t a q0) (hb : W.cell? ⟨bx, 0, none⟩ = some (.pointer (some ⟨ub, 0, none⟩))) (hbl : bx < W.heap.size) (hne : bx ≠ ub) (hl : LensT t) (hx : -1073741824 ≤ x ∧ x ≤ 1073741824) (hy : -1073741824 ≤ y ∧ y ≤ 1073741824) :
    Calls Try.prog 64 #[.int .i64 x, .int .i64 y, .pointer (some ⟨bx, 0, none⟩)] W fun e W' => e = .returned (.tuple #[]) ∧ (∃ ht' : TH, US W' ub B h p ht' (pushV t (x + y)).1 a (pushV t (x + y)).2) ∧ Fr (fun i => i = ub) W W' := by
  have HU := Lib.hid hu; have HL := Lib.hid hl
  have hul := hu.bx.lt
  rw [pushV_eq]
  clear hu hl
  go_enter Try.func64, Try.ntmps64
  go_wp2_with fail
  refine (upush_any h p ht t a q0 [x + y] (some ⟨W.heap.size, 0, none⟩) 1 1 _ ub B (HU.out.below ((Below.refl _ _).alloc (Nat.le_refl _) _)) HL.out (ri_new W [x + y]) (by omega)).mono ?_
  rintro e W1 ⟨rfl, hq, hf⟩
  go_wp2_with fail
  go_end0
  exact ⟨rfl, hq, (((Fr.refl (fun i => i = ub) W).alloc _).trans hf (fun i _ h => h))⟩
set_option maxHeartbeats 4000000 in
set_option maxRecDepth 100000 in
theorem deed3 (h : PH) (p : PV) (ht : TH) (t : TV) (a : Int) (W : World) (ub B : Nat) (hu : US W ub B h p ht t a q0) (hl : LensT t) (hm : 1 ≤ t.frames.length ∧ t.frames.length ≤ 1000000 ∧ t.stack.length ≤ 16) (hx : -1073741824 ≤ topT (popT t) ∧ topT (popT t) ≤ 1073741824) (hy : -1073741824 ≤ topT t ∧ topT t ≤ 1073741824) :
    Calls Try.prog 62 #[.pointer (some ⟨ub, 0, none⟩)] W fun e W' => e = .returned (.tuple #[]) ∧ (∃ ht' : TH, US W' ub B h p ht' (deedV p t ⟨3, a⟩).1 a (deedV p t ⟨3, a⟩).2) ∧ Fr (fun i => i = ub) W W' := by
  have HU := Lib.hid hu; have HL := Lib.hid hl; have HM := Lib.hid hm; have HX := Lib.hid hx; have HY := Lib.hid hy
  have hul := hu.bx.lt
  clear hu hl hm hx hy
  by_cases h0 : t.stack.length = 0
  · have hd : deedV p t ⟨3, a⟩ = (deadT 1, ⟨1, 0, 1⟩) := by simp [deedV, popV, List.eq_nil_of_length_eq_zero h0, endV, deadT]
    rw [hd]
    have H0 := Lib.hid h0
    clear hd h0
    go_enter Try.func62, Try.ntmps62
    go_wp2_with fail
    refine (upopTwo_no h p ht t a q0 64 #[.pointer (some ⟨W.heap.size, 0, none⟩)] en_ia3 _ ub B (HU.out.below ((Below.refl _ _).alloc (Nat.le_refl _) _)) HL.out (by have := HM.out; omega) H0.out).mono ?_
    rintro e W2 ⟨rfl, hq, hf⟩
    go_wp2_with fail
    go_end0
    exact ⟨rfl, hq, (((Fr.refl (fun i => i = ub) W).alloc _).trans hf (fun i _ h => h))⟩
  by_cases h1 : t.stack.length = 1
  · have hne : ¬ t.stack = [] := fun e => h0 (by rw [e]; rfl)
    have hpe : (popT t).stack = [] := List.eq_nil_of_length_eq_zero (by simp [popT]; omega)
    have hd : deedV p t ⟨3, a⟩ = (deadT 1, ⟨1, 0, 1⟩) := by simp [deedV, popV, hne, hpe, endV, deadT]
    rw [hd]
    have H1 := Lib.hid h1
    clear hd h0 h1 hne hpe
    go_enter Try.func62, Try.ntmps62
    go_wp2_with fail
    refine (upopTwo_one h p ht t a q0 64 #[.pointer (some ⟨W.heap.size, 0, none⟩)] en_ia3 _ ub B (HU.out.below ((Below.refl _ _).alloc (Nat.le_refl _) _)) HL.out (by have := HM.out; omega) H1.out).mono ?_
    rintro e W2 ⟨rfl, hq, hf⟩
    go_wp2_with fail
    go_end0
    exact ⟨rfl, hq, (((Fr.refl (fun i => i = ub) W).alloc _).trans hf (fun i _ h => h))⟩
  · have hne : ¬ t.stack = [] := fun e => h0 (by rw [e]; rfl)
    have hpe : ¬ (popT t).stack = [] := fun e => by have h2 := congrArg List.length e; simp [popT] at h2; omega
    have hd : deedV p t ⟨3, a⟩ = pushV (popT (popT t)) (topT (popT t) + topT t) := by simp [deedV, popV, hne, hpe]
    rw [hd]
    have H2 := Lib.hid (show 2 ≤ t.stack.length by omega)
    clear hd h0 h1 hne hpe
    go_enter Try.func62, Try.ntmps62
    go_wp2_with fail
    refine (upopTwo_yes h p ht t a q0 64 #[.pointer (some ⟨W.heap.size, 0, none⟩)] en_ia3 (pushV (popT (popT t)) (topT (popT t) + topT t)).1 (pushV (popT (popT t)) (topT (popT t) + topT t)).2 _ ub B (HU.out.below ((Below.refl _ _).alloc (Nat.le_refl _) _)) HL.out (by have := HM.out; omega) H2.out (fun W1 ht1 hu1 hf1 => ia3 h p ht1 (popT (popT t)) a (topT (popT t)) (topT t) W.heap.size W1 ub B hu1 ((hf1.cell (p := ⟨W.heap.size, 0, none⟩) (by simp) (by simp; omega)).trans ((Blk.new W 69 #[.pointer (some ⟨ub, 0, none⟩)]).cell 0)) (by have := hf1.size; simp at this; omega) (by omega) (lens_pop (lens_pop HL.out)) HX.out HY.out)).mono ?_
    rintro e W2 ⟨rfl, hq, hf⟩
    go_wp2_with fail
    go_end0
    exact ⟨rfl, hq, (((Fr.refl (fun i => i = ub) W).alloc _).trans hf (fun i _ h => h))⟩
theorem en_ia4 : ∀ (args : Array Value) (W : World), (callFunc 66 args).run Try.prog W = .ok (.enter 66 args) W := by
  intro args W
  go_simp
set_option maxHeartbeats 4000000 in
set_option maxRecDepth 100000 in
theorem ia4 (h : PH) (p : PV) (ht : TH) (t : TV) (a x y : Int) (bx : Nat) (W : World) (ub B : Nat) (hu : US W ub B h p ht t a q0) (hb : W.cell? ⟨bx, 0, none⟩ = some (.pointer (some ⟨ub, 0, none⟩))) (hbl : bx < W.heap.size) (hne : bx ≠ ub) (hl : LensT t) (hx : -1073741824 ≤ x ∧ x ≤ 1073741824) (hy : -1073741824 ≤ y ∧ y ≤ 1073741824) :
    Calls Try.prog 66 #[.int .i64 x, .int .i64 y, .pointer (some ⟨bx, 0, none⟩)] W fun e W' => e = .returned (.tuple #[]) ∧ (∃ ht' : TH, US W' ub B h p ht' (pushV t (x - y)).1 a (pushV t (x - y)).2) ∧ Fr (fun i => i = ub) W W' := by
  have HU := Lib.hid hu; have HL := Lib.hid hl
  have hul := hu.bx.lt
  rw [pushV_eq]
  clear hu hl
  go_enter Try.func66, Try.ntmps66
  go_wp2_with fail
  refine (upush_any h p ht t a q0 [x - y] (some ⟨W.heap.size, 0, none⟩) 1 1 _ ub B (HU.out.below ((Below.refl _ _).alloc (Nat.le_refl _) _)) HL.out (ri_new W [x - y]) (by omega)).mono ?_
  rintro e W1 ⟨rfl, hq, hf⟩
  go_wp2_with fail
  go_end0
  exact ⟨rfl, hq, (((Fr.refl (fun i => i = ub) W).alloc _).trans hf (fun i _ h => h))⟩
set_option maxHeartbeats 4000000 in
set_option maxRecDepth 100000 in
theorem deed4 (h : PH) (p : PV) (ht : TH) (t : TV) (a : Int) (W : World) (ub B : Nat) (hu : US W ub B h p ht t a q0) (hl : LensT t) (hm : 1 ≤ t.frames.length ∧ t.frames.length ≤ 1000000 ∧ t.stack.length ≤ 16) (hx : -1073741824 ≤ topT (popT t) ∧ topT (popT t) ≤ 1073741824) (hy : -1073741824 ≤ topT t ∧ topT t ≤ 1073741824) :
    Calls Try.prog 65 #[.pointer (some ⟨ub, 0, none⟩)] W fun e W' => e = .returned (.tuple #[]) ∧ (∃ ht' : TH, US W' ub B h p ht' (deedV p t ⟨4, a⟩).1 a (deedV p t ⟨4, a⟩).2) ∧ Fr (fun i => i = ub) W W' := by
  have HU := Lib.hid hu; have HL := Lib.hid hl; have HM := Lib.hid hm; have HX := Lib.hid hx; have HY := Lib.hid hy
  have hul := hu.bx.lt
  clear hu hl hm hx hy
  by_cases h0 : t.stack.length = 0
  · have hd : deedV p t ⟨4, a⟩ = (deadT 1, ⟨1, 0, 1⟩) := by simp [deedV, popV, List.eq_nil_of_length_eq_zero h0, endV, deadT]
    rw [hd]
    have H0 := Lib.hid h0
    clear hd h0
    go_enter Try.func65, Try.ntmps65
    go_wp2_with fail
    refine (upopTwo_no h p ht t a q0 66 #[.pointer (some ⟨W.heap.size, 0, none⟩)] en_ia4 _ ub B (HU.out.below ((Below.refl _ _).alloc (Nat.le_refl _) _)) HL.out (by have := HM.out; omega) H0.out).mono ?_
    rintro e W2 ⟨rfl, hq, hf⟩
    go_wp2_with fail
    go_end0
    exact ⟨rfl, hq, (((Fr.refl (fun i => i = ub) W).alloc _).trans hf (fun i _ h => h))⟩
  by_cases h1 : t.stack.length = 1
  · have hne : ¬ t.stack = [] := fun e => h0 (by rw [e]; rfl)
    have hpe : (popT t).stack = [] := List.eq_nil_of_length_eq_zero (by simp [popT]; omega)
    have hd : deedV p t ⟨4, a⟩ = (deadT 1, ⟨1, 0, 1⟩) := by simp [deedV, popV, hne, hpe, endV, deadT]
    rw [hd]
    have H1 := Lib.hid h1
    clear hd h0 h1 hne hpe
    go_enter Try.func65, Try.ntmps65
    go_wp2_with fail
    refine (upopTwo_one h p ht t a q0 66 #[.pointer (some ⟨W.heap.size, 0, none⟩)] en_ia4 _ ub B (HU.out.below ((Below.refl _ _).alloc (Nat.le_refl _) _)) HL.out (by have := HM.out; omega) H1.out).mono ?_
    rintro e W2 ⟨rfl, hq, hf⟩
    go_wp2_with fail
    go_end0
    exact ⟨rfl, hq, (((Fr.refl (fun i => i = ub) W).alloc _).trans hf (fun i _ h => h))⟩
  · have hne : ¬ t.stack = [] := fun e => h0 (by rw [e]; rfl)
    have hpe : ¬ (popT t).stack = [] := fun e => by have h2 := congrArg List.length e; simp [popT] at h2; omega
    have hd : deedV p t ⟨4, a⟩ = pushV (popT (popT t)) (topT (popT t) - topT t) := by simp [deedV, popV, hne, hpe]
    rw [hd]
    have H2 := Lib.hid (show 2 ≤ t.stack.length by omega)
    clear hd h0 h1 hne hpe
    go_enter Try.func65, Try.ntmps65
    go_wp2_with fail
    refine (upopTwo_yes h p ht t a q0 66 #[.pointer (some ⟨W.heap.size, 0, none⟩)] en_ia4 (pushV (popT (popT t)) (topT (popT t) - topT t)).1 (pushV (popT (popT t)) (topT (popT t) - topT t)).2 _ ub B (HU.out.below ((Below.refl _ _).alloc (Nat.le_refl _) _)) HL.out (by have := HM.out; omega) H2.out (fun W1 ht1 hu1 hf1 => ia4 h p ht1 (popT (popT t)) a (topT (popT t)) (topT t) W.heap.size W1 ub B hu1 ((hf1.cell (p := ⟨W.heap.size, 0, none⟩) (by simp) (by simp; omega)).trans ((Blk.new W 69 #[.pointer (some ⟨ub, 0, none⟩)]).cell 0)) (by have := hf1.size; simp at this; omega) (by omega) (lens_pop (lens_pop HL.out)) HX.out HY.out)).mono ?_
    rintro e W2 ⟨rfl, hq, hf⟩
    go_wp2_with fail
    go_end0
    exact ⟨rfl, hq, (((Fr.refl (fun i => i = ub) W).alloc _).trans hf (fun i _ h => h))⟩
end Go.Proofs.Ytkciedcfphhenaa

/-
  vm: the deeds that pop a number.
-/
set_option linter.unusedVariables false
set_option linter.unusedSimpArgs false
namespace Go.Proofs.Ytkciedcfphhenaa
open Go.RowKit Plain

theorem en_i1 : ∀ (args : Array Value) (W : World), (callFunc 59 args).run Try.prog W = .ok (.enter 59 args) W := by
  intro args W
  go_simp
theorem i1 (h : PH) (p : PV) (ht : TH) (t : TV) (a z : Int) (W : World) (ub B : Nat) (hu : US W ub B h p ht t a q0) :
    Calls Try.prog 59 #[.int .i64 z] W fun e W' => e = .returned (.tuple #[]) ∧ (∃ ht' : TH, US W' ub B h p ht' t a q0) ∧ Fr (fun i => i = ub) W W' := by
  have HU := Lib.hid hu
  clear hu
  go_enter Try.func59, Try.ntmps59
  go_wp2_with fail
  go_end0
  exact ⟨rfl, ⟨ht, HU.out⟩, Fr.refl _ _⟩
set_option maxHeartbeats 4000000 in
set_option maxRecDepth 100000 in
theorem deed1 (h : PH) (p : PV) (ht : TH) (t : TV) (a : Int) (W : World) (ub B : Nat) (hu : US W ub B h p ht t a q0) (hl : LensT t) (hm : 1 ≤ t.frames.length ∧ t.frames.length ≤ 1000000 ∧ t.stack.length ≤ 16) :
    Calls Try.prog 57 #[.pointer (some ⟨ub, 0, none⟩)] W fun e W' => e = .returned (.tuple #[]) ∧ (∃ ht' : TH, US W' ub B h p ht' (deedV p t ⟨1, a⟩).1 a (deedV p t ⟨1, a⟩).2) ∧ Fr (fun i => i = ub) W W' := by
  obtain ⟨fA, fc, cA, cc, sA, sc, hA, hc, xA, xc⟩ := h
  obtain ⟨a1, c1, s1, d1⟩ := ht
  have HU := Lib.hid hu
  have hul := hu.bx.lt
  have HL := Lib.hid hl; have HM := Lib.hid hm
  clear hu hl hm
  by_cases h0 : t.stack.length = 0
  · have hd : deedV p t ⟨1, a⟩ = (deadT 1, ⟨1, 0, 1⟩) := by simp [deedV, popV, List.eq_nil_of_length_eq_zero h0, endV, deadT]
    rw [hd]
    have H0 := Lib.hid h0
    clear hd h0
    go_enter Try.func57, Try.ntmps57
    go_wp2_with fail
    refine (upop_no ⟨fA, fc, cA, cc, sA, sc, hA, hc, xA, xc⟩ p ⟨a1, c1, s1, d1⟩ t a q0 59 #[] _ ub B HU.out HL.out (by have := HM.out; omega) H0.out).mono ?_
    rintro e W2 ⟨rfl, hq, hf⟩
    go_wp2_with fail
    go_end0
    exact ⟨rfl, hq, hf⟩
  · have hne : ¬ t.stack = [] := fun e => h0 (by rw [e]; rfl)
    have hd : deedV p t ⟨1, a⟩ = (popT t, q0) := by simp [deedV, popV, hne, kindV]
    rw [hd]
    have H0 := Lib.hid h0
    clear hd h0 hne
    go_enter Try.func57, Try.ntmps57
    go_wp2_with fail
    refine (upop_yes ⟨fA, fc, cA, cc, sA, sc, hA, hc, xA, xc⟩ p ⟨a1, c1, s1, d1⟩ t a q0 59 #[] en_i1 ((popT t, q0)).1 ((popT t, q0)).2 _ ub B HU.out HL.out (by have := HM.out; omega) (by have := H0.out; omega) (fun W1 ht1 hu1 hf1 => i1 ⟨fA, fc, cA, cc, sA, sc, hA, hc, xA, xc⟩ p ht1 (popT t) a (topT t) W1 ub B hu1)).mono ?_
    rintro e W2 ⟨rfl, hq, hf⟩
    go_wp2_with fail
    go_end0
    exact ⟨rfl, hq, hf⟩
theorem en_i3 : ∀ (args : Array Value) (W : World), (callFunc 61 args).run Try.prog W = .ok (.enter 61 args) W := by
  intro args W
  go_simp
set_option maxHeartbeats 4000000 in
set_option maxRecDepth 100000 in
theorem i3 (h : PH) (p : PV) (ht : TH) (t : TV) (a z : Int) (bx : Nat) (W : World) (ub B : Nat) (hu : US W ub B h p ht t a q0) (hb : W.cell? ⟨bx, 0, none⟩ = some (.pointer (some ⟨ub, 0, none⟩))) (hbl : bx < W.heap.size) (hne : bx ≠ ub) (hl : LensT t) (hs : t.stack.length < 16) :
    Calls Try.prog 61 #[.int .i64 z, .pointer (some ⟨bx, 0, none⟩)] W fun e W' => e = .returned (.tuple #[]) ∧ (∃ ht' : TH, US W' ub B h p ht' (pushV (pushT t z) z).1 a (pushV (pushT t z) z).2) ∧ Fr (fun i => i = ub) W W' := by
  obtain ⟨fA, fc, cA, cc, sA, sc, hA, hc, xA, xc⟩ := h
  obtain ⟨a1, c1, s1, d1⟩ := ht
  have HU := Lib.hid hu
  have hul := hu.bx.lt
  have HL := Lib.hid hl
  clear hu hl
  have hd : pushV (pushT t z) z = goV (pushAll t [z, z]).2 (pushAll t [z, z]).1 q0 2 := by rw [pushV_eq]; simp [pushAll, hs]
  rw [hd]
  clear hd hs
  go_enter Try.func61, Try.ntmps61
  go_wp2_with fail
  refine (upush_any ⟨fA, fc, cA, cc, sA, sc, hA, hc, xA, xc⟩ p ⟨a1, c1, s1, d1⟩ t a q0 [z, z] (some ⟨W.heap.size, 0, none⟩) 2 2 _ ub B (HU.out.below ((Below.refl _ _).alloc (Nat.le_refl _) _)) HL.out (ri_new W [z, z]) (by omega)).mono ?_
  rintro e W1 ⟨rfl, hq, hf⟩
  go_wp2_with fail
  go_end0
  exact ⟨rfl, hq, (((Fr.refl (fun i => i = ub) W).alloc _).trans hf (fun i _ h => h))⟩
set_option maxHeartbeats 4000000 in
set_option maxRecDepth 100000 in
theorem deed2 (h : PH) (p : PV) (ht : TH) (t : TV) (a : Int) (W : World) (ub B : Nat) (hu : US W ub B h p ht t a q0) (hl : LensT t) (hm : 1 ≤ t.frames.length ∧ t.frames.length ≤ 1000000 ∧ t.stack.length ≤ 16) :
    Calls Try.prog 60 #[.pointer (some ⟨ub, 0, none⟩)] W fun e W' => e = .returned (.tuple #[]) ∧ (∃ ht' : TH, US W' ub B h p ht' (deedV p t ⟨2, a⟩).1 a (deedV p t ⟨2, a⟩).2) ∧ Fr (fun i => i = ub) W W' := by
  obtain ⟨fA, fc, cA, cc, sA, sc, hA, hc, xA, xc⟩ := h
  obtain ⟨a1, c1, s1, d1⟩ := ht
  have HU := Lib.hid hu
  have hul := hu.bx.lt
  have HL := Lib.hid hl; have HM := Lib.hid hm
  clear hu hl hm
  by_cases h0 : t.stack.length = 0
  · have hd : deedV p t ⟨2, a⟩ = (deadT 1, ⟨1, 0, 1⟩) := by simp [deedV, popV, List.eq_nil_of_length_eq_zero h0, endV, deadT]
    rw [hd]
    have H0 := Lib.hid h0
    clear hd h0
    go_enter Try.func60, Try.ntmps60
    go_wp2_with fail
    refine (upop_no ⟨fA, fc, cA, cc, sA, sc, hA, hc, xA, xc⟩ p ⟨a1, c1, s1, d1⟩ t a q0 61 #[.pointer (some ⟨W.heap.size, 0, none⟩)] _ ub B (HU.out.below ((Below.refl _ _).alloc (Nat.le_refl _) _)) HL.out (by have := HM.out; omega) H0.out).mono ?_
    rintro e W2 ⟨rfl, hq, hf⟩
    go_wp2_with fail
    go_end0
    exact ⟨rfl, hq, (((Fr.refl (fun i => i = ub) W).alloc _).trans hf (fun i _ h => h))⟩
  · have hne : ¬ t.stack = [] := fun e => h0 (by rw [e]; rfl)
    have hd : deedV p t ⟨2, a⟩ = pushV (pushT (popT t) (topT t)) (topT t) := by simp [deedV, popV, hne, kindV]
    rw [hd]
    have H0 := Lib.hid h0
    clear hd h0 hne
    go_enter Try.func60, Try.ntmps60
    go_wp2_with fail
    refine (upop_yes ⟨fA, fc, cA, cc, sA, sc, hA, hc, xA, xc⟩ p ⟨a1, c1, s1, d1⟩ t a q0 61 #[.pointer (some ⟨W.heap.size, 0, none⟩)] en_i3 (pushV (pushT (popT t) (topT t)) (topT t)).1 (pushV (pushT (popT t) (topT t)) (topT t)).2 _ ub B (HU.out.below ((Below.refl _ _).alloc (Nat.le_refl _) _)) HL.out (by have := HM.out; omega) (by have := H0.out; omega) (fun W1 ht1 hu1 hf1 => i3 ⟨fA, fc, cA, cc, sA, sc, hA, hc, xA, xc⟩ p ht1 (popT t) a (topT t) W.heap.size W1 ub B hu1 ((hf1.cell (p := ⟨W.heap.size, 0, none⟩) (by simp) (by simp; omega)).trans ((Blk.new W 69 #[.pointer (some ⟨ub, 0, none⟩)]).cell 0)) (by have := hf1.size; simp at this; omega) (by omega) (lens_pop HL.out) (by have := H0.out; have := HM.out; simp [popT]; omega))).mono ?_
    rintro e W2 ⟨rfl, hq, hf⟩
    go_wp2_with fail
    go_end0
    exact ⟨rfl, hq, (((Fr.refl (fun i => i = ub) W).alloc _).trans hf (fun i _ h => h))⟩
theorem en_i7 : ∀ (args : Array Value) (W : World), (callFunc 70 args).run Try.prog W = .ok (.enter 70 args) W := by
  intro args W
  go_simp
set_option maxHeartbeats 4000000 in
set_option maxRecDepth 100000 in
theorem i7 (h : PH) (p : PV) (ht : TH) (t : TV) (a z : Int) (bx : Nat) (W : World) (ub B : Nat) (hu : US W ub B h p ht t a q0) (hb : W.cell? ⟨bx, 0, none⟩ = some (.pointer (some ⟨ub, 0, none⟩))) (hbl : bx < W.heap.size) (hne : bx ≠ ub) (hl : LensT t) (hi : 0 ≤ a ∧ a < (lastFr t).locals.length ∧ (lastFr t).locals.length ≤ 1000000 ∧ 1 ≤ t.frames.length ∧ t.frames.length ≤ 1000000) :
    Calls Try.prog 70 #[.int .i64 z, .pointer (some ⟨bx, 0, none⟩)] W fun e W' => e = .returned (.tuple #[]) ∧ (∃ ht' : TH, US W' ub B h p ht' (setT t a z) a q0) ∧ Fr (fun i => i = ub) W W' := by
  obtain ⟨fA, fc, cA, cc, sA, sc, hA, hc, xA, xc⟩ := h
  obtain ⟨a1, c1, s1, d1⟩ := ht
  have HU := Lib.hid hu
  have hul := hu.bx.lt
  have x0 : W.cell? ⟨ub, 0, none⟩ = some (.slice fA p.funcs.length fc) := (hu.bx.cell 0).trans rfl
  have y0 : W.frozen? ⟨ub, 0, none⟩ = false := hu.bx.frozen 0
  have x1 : W.cell? ⟨ub, 1, none⟩ = some (.int .i64 p.mutexes) := (hu.bx.cell 1).trans rfl
  have y1 : W.frozen? ⟨ub, 1, none⟩ = false := hu.bx.frozen 1
  have x2 : W.cell? ⟨ub, 2, none⟩ = some (.slice cA p.conds.length cc) := (hu.bx.cell 2).trans rfl
  have y2 : W.frozen? ⟨ub, 2, none⟩ = false := hu.bx.frozen 2
  have x3 : W.cell? ⟨ub, 3, none⟩ = some (.slice sA p.semas.length sc) := (hu.bx.cell 3).trans rfl
  have y3 : W.frozen? ⟨ub, 3, none⟩ = false := hu.bx.frozen 3
  have x4 : W.cell? ⟨ub, 4, none⟩ = some (.slice hA p.chans.length hc) := (hu.bx.cell 4).trans rfl
  have y4 : W.frozen? ⟨ub, 4, none⟩ = false := hu.bx.frozen 4
  have x5 : W.cell? ⟨ub, 5, none⟩ = some (.slice xA p.choices.length xc) := (hu.bx.cell 5).trans rfl
  have y5 : W.frozen? ⟨ub, 5, none⟩ = false := hu.bx.frozen 5
  have x6 : W.cell? ⟨ub, 6, none⟩ = some (.int .i64 p.threads) := (hu.bx.cell 6).trans rfl
  have y6 : W.frozen? ⟨ub, 6, none⟩ = false := hu.bx.frozen 6
  have x7 : W.cell? ⟨ub, 7, none⟩ = some (.int .i64 t.state) := (hu.bx.cell 7).trans rfl
  have y7 : W.frozen? ⟨ub, 7, none⟩ = false := hu.bx.frozen 7
  have x8 : W.cell? ⟨ub, 8, none⟩ = some (.int .i64 t.on) := (hu.bx.cell 8).trans rfl
  have y8 : W.frozen? ⟨ub, 8, none⟩ = false := hu.bx.frozen 8
  have x9 : W.cell? ⟨ub, 9, none⟩ = some (.slice a1 t.frames.length c1) := (hu.bx.cell 9).trans rfl
  have y9 : W.frozen? ⟨ub, 9, none⟩ = false := hu.bx.frozen 9
  have x10 : W.cell? ⟨ub, 10, none⟩ = some (.slice s1 t.stack.length d1) := (hu.bx.cell 10).trans rfl
  have y10 : W.frozen? ⟨ub, 10, none⟩ = false := hu.bx.frozen 10
  have x11 : W.cell? ⟨ub, 11, none⟩ = some (.int .i64 t.code) := (hu.bx.cell 11).trans rfl
  have y11 : W.frozen? ⟨ub, 11, none⟩ = false := hu.bx.frozen 11
  have x12 : W.cell? ⟨ub, 12, none⟩ = some (.int .i64 a) := (hu.bx.cell 12).trans rfl
  have y12 : W.frozen? ⟨ub, 12, none⟩ = false := hu.bx.frozen 12
  have x13 : W.cell? ⟨ub, 13, none⟩ = some (.int .i64 q0.kind) := (hu.bx.cell 13).trans rfl
  have y13 : W.frozen? ⟨ub, 13, none⟩ = false := hu.bx.frozen 13
  have x14 : W.cell? ⟨ub, 14, none⟩ = some (.int .i64 q0.a) := (hu.bx.cell 14).trans rfl
  have y14 : W.frozen? ⟨ub, 14, none⟩ = false := hu.bx.frozen 14
  have x15 : W.cell? ⟨ub, 15, none⟩ = some (.int .i64 q0.v) := (hu.bx.cell 15).trans rfl
  have y15 : W.frozen? ⟨ub, 15, none⟩ = false := hu.bx.frozen 15
  obtain ⟨hi0, hi1, hi8, hf1, hf8⟩ := hi
  obtain ⟨i, rfl⟩ := Int.eq_ofNat_of_zero_le hi0
  have hg := set_all ⟨a1, c1, s1, d1⟩ t i z W.drew _ (RT.drew hu.rt) hl hf1 hf8 (by omega) hi8 _ rfl
  have HG := Lib.hid hg
  clear hu hl hg hi1 hi8
  generalize setT t (i : Int) z = t2 at *
  go_enter Try.func70, Try.ntmps70
  go_region_law (go_simp; with_reducible refine HG.out.mono ?_
                 rintro e W1 ⟨⟨a2, c2, s2, d2⟩, rfl, hrt, hb1⟩
                 have hbw : Below W.heap.size W W1 := ((Below.refl _ _).drew).trans hb1
                 have hr2 := hrt.mono (E := fun i => B ≤ i ∧ i ≠ ub) (fun i hi _ => by rcases hi with hi | hi; exact hi; have := hi; simp at this; (first | omega | (have hBu := HU.out.hB; omega) | (have hBu := HU1.out.hB; omega) | (have hBu := HUS.out.hB; omega)))
                 have HB := Lib.hid hbw; have HR2 := Lib.hid hr2
                 have hu1 := HU.out.below hbw
                 have hs := hbw.size
                 have hb2 := (hbw.cell (p := ⟨bx, 0, none⟩) hbl).trans hb
                 clear hb1 hbw hrt hr2
                 have x7 : W1.cell? ⟨ub, 7, none⟩ = some (.int .i64 t.state) := (hu1.bx.cell 7).trans rfl
                 have y7 : W1.frozen? ⟨ub, 7, none⟩ = false := hu1.bx.frozen 7
                 have x8 : W1.cell? ⟨ub, 8, none⟩ = some (.int .i64 t.on) := (hu1.bx.cell 8).trans rfl
                 have y8 : W1.frozen? ⟨ub, 8, none⟩ = false := hu1.bx.frozen 8
                 have x9 : W1.cell? ⟨ub, 9, none⟩ = some (.slice a1 t.frames.length c1) := (hu1.bx.cell 9).trans rfl
                 have y9 : W1.frozen? ⟨ub, 9, none⟩ = false := hu1.bx.frozen 9
                 have x10 : W1.cell? ⟨ub, 10, none⟩ = some (.slice s1 t.stack.length d1) := (hu1.bx.cell 10).trans rfl
                 have y10 : W1.frozen? ⟨ub, 10, none⟩ = false := hu1.bx.frozen 10
                 have x11 : W1.cell? ⟨ub, 11, none⟩ = some (.int .i64 t.code) := (hu1.bx.cell 11).trans rfl
                 have y11 : W1.frozen? ⟨ub, 11, none⟩ = false := hu1.bx.frozen 11
                 have hul1 := hu1.bx.lt
                 clear hu1)
  all_goals
    go_wp2_with fail
    go_end0
    have hs := HU.out.setT HB.out HR2.out
    exact ⟨rfl, ⟨_, hs.1⟩, hs.2⟩
theorem en_i9 : ∀ (args : Array Value) (W : World), (callFunc 75 args).run Try.prog W = .ok (.enter 75 args) W := by
  intro args W
  go_simp
set_option maxHeartbeats 4000000 in
set_option maxRecDepth 100000 in
theorem i9 (h : PH) (p : PV) (ht : TH) (t : TV) (a z : Int) (bx : Nat) (W : World) (ub B : Nat) (hu : US W ub B h p ht t a q0) (hb : W.cell? ⟨bx, 0, none⟩ = some (.pointer (some ⟨ub, 0, none⟩))) (hbl : bx < W.heap.size) (hne : bx ≠ ub) (hl : LensT t) (hf1 : 1 ≤ t.frames.length) (hf8 : t.frames.length ≤ 1000000) :
    Calls Try.prog 75 #[.int .i64 z, .pointer (some ⟨bx, 0, none⟩)] W fun e W' => e = .returned (.tuple #[]) ∧ (∃ ht' : TH, US W' ub B h p ht' (if z = 0 then jumpT t a else t) a q0) ∧ Fr (fun i => i = ub) W W' := by
  obtain ⟨fA, fc, cA, cc, sA, sc, hA, hc, xA, xc⟩ := h
  obtain ⟨a1, c1, s1, d1⟩ := ht
  have HU := Lib.hid hu
  have hul := hu.bx.lt
  have x0 : W.cell? ⟨ub, 0, none⟩ = some (.slice fA p.funcs.length fc) := (hu.bx.cell 0).trans rfl
  have y0 : W.frozen? ⟨ub, 0, none⟩ = false := hu.bx.frozen 0
  have x1 : W.cell? ⟨ub, 1, none⟩ = some (.int .i64 p.mutexes) := (hu.bx.cell 1).trans rfl
  have y1 : W.frozen? ⟨ub, 1, none⟩ = false := hu.bx.frozen 1
  have x2 : W.cell? ⟨ub, 2, none⟩ = some (.slice cA p.conds.length cc) := (hu.bx.cell 2).trans rfl
  have y2 : W.frozen? ⟨ub, 2, none⟩ = false := hu.bx.frozen 2
  have x3 : W.cell? ⟨ub, 3, none⟩ = some (.slice sA p.semas.length sc) := (hu.bx.cell 3).trans rfl
  have y3 : W.frozen? ⟨ub, 3, none⟩ = false := hu.bx.frozen 3
  have x4 : W.cell? ⟨ub, 4, none⟩ = some (.slice hA p.chans.length hc) := (hu.bx.cell 4).trans rfl
  have y4 : W.frozen? ⟨ub, 4, none⟩ = false := hu.bx.frozen 4
  have x5 : W.cell? ⟨ub, 5, none⟩ = some (.slice xA p.choices.length xc) := (hu.bx.cell 5).trans rfl
  have y5 : W.frozen? ⟨ub, 5, none⟩ = false := hu.bx.frozen 5
  have x6 : W.cell? ⟨ub, 6, none⟩ = some (.int .i64 p.threads) := (hu.bx.cell 6).trans rfl
  have y6 : W.frozen? ⟨ub, 6, none⟩ = false := hu.bx.frozen 6
  have x7 : W.cell? ⟨ub, 7, none⟩ = some (.int .i64 t.state) := (hu.bx.cell 7).trans rfl
  have y7 : W.frozen? ⟨ub, 7, none⟩ = false := hu.bx.frozen 7
  have x8 : W.cell? ⟨ub, 8, none⟩ = some (.int .i64 t.on) := (hu.bx.cell 8).trans rfl
  have y8 : W.frozen? ⟨ub, 8, none⟩ = false := hu.bx.frozen 8
  have x9 : W.cell? ⟨ub, 9, none⟩ = some (.slice a1 t.frames.length c1) := (hu.bx.cell 9).trans rfl
  have y9 : W.frozen? ⟨ub, 9, none⟩ = false := hu.bx.frozen 9
  have x10 : W.cell? ⟨ub, 10, none⟩ = some (.slice s1 t.stack.length d1) := (hu.bx.cell 10).trans rfl
  have y10 : W.frozen? ⟨ub, 10, none⟩ = false := hu.bx.frozen 10
  have x11 : W.cell? ⟨ub, 11, none⟩ = some (.int .i64 t.code) := (hu.bx.cell 11).trans rfl
  have y11 : W.frozen? ⟨ub, 11, none⟩ = false := hu.bx.frozen 11
  have x12 : W.cell? ⟨ub, 12, none⟩ = some (.int .i64 a) := (hu.bx.cell 12).trans rfl
  have y12 : W.frozen? ⟨ub, 12, none⟩ = false := hu.bx.frozen 12
  have x13 : W.cell? ⟨ub, 13, none⟩ = some (.int .i64 q0.kind) := (hu.bx.cell 13).trans rfl
  have y13 : W.frozen? ⟨ub, 13, none⟩ = false := hu.bx.frozen 13
  have x14 : W.cell? ⟨ub, 14, none⟩ = some (.int .i64 q0.a) := (hu.bx.cell 14).trans rfl
  have y14 : W.frozen? ⟨ub, 14, none⟩ = false := hu.bx.frozen 14
  have x15 : W.cell? ⟨ub, 15, none⟩ = some (.int .i64 q0.v) := (hu.bx.cell 15).trans rfl
  have y15 : W.frozen? ⟨ub, 15, none⟩ = false := hu.bx.frozen 15
  by_cases hz : z = 0
  · subst hz
    rw [if_pos rfl]
    have hg := jump_all ⟨a1, c1, s1, d1⟩ t a W.drew _ (RT.drew hu.rt) hl hf1 hf8 _ rfl
    have HG := Lib.hid hg
    clear hu hl hg
    generalize jumpT t a = t2 at *
    go_enter Try.func75, Try.ntmps75
    go_upto_region 1 with fail
    go_region_law (go_simp; with_reducible refine HG.out.mono ?_
                   rintro e W1 ⟨⟨a2, c2, s2, d2⟩, rfl, hrt, hb1⟩
                   have hbw : Below W.heap.size W W1 := ((Below.refl _ _).drew).trans hb1
                   have hr2 := hrt.mono (E := fun i => B ≤ i ∧ i ≠ ub) (fun i hi _ => by rcases hi with hi | hi; exact hi; have := hi; simp at this; (first | omega | (have hBu := HU.out.hB; omega) | (have hBu := HU1.out.hB; omega) | (have hBu := HUS.out.hB; omega)))
                   have HB := Lib.hid hbw; have HR2 := Lib.hid hr2
                   have hu1 := HU.out.below hbw
                   have hs := hbw.size
                   have hb2 := (hbw.cell (p := ⟨bx, 0, none⟩) hbl).trans hb
                   clear hb1 hbw hrt hr2
                   have x7 : W1.cell? ⟨ub, 7, none⟩ = some (.int .i64 t.state) := (hu1.bx.cell 7).trans rfl
                   have y7 : W1.frozen? ⟨ub, 7, none⟩ = false := hu1.bx.frozen 7
                   have x8 : W1.cell? ⟨ub, 8, none⟩ = some (.int .i64 t.on) := (hu1.bx.cell 8).trans rfl
                   have y8 : W1.frozen? ⟨ub, 8, none⟩ = false := hu1.bx.frozen 8
                   have x9 : W1.cell? ⟨ub, 9, none⟩ = some (.slice a1 t.frames.length c1) := (hu1.bx.cell 9).trans rfl
                   have y9 : W1.frozen? ⟨ub, 9, none⟩ = false := hu1.bx.frozen 9
                   have x10 : W1.cell? ⟨ub, 10, none⟩ = some (.slice s1 t.stack.length d1) := (hu1.bx.cell 10).trans rfl
                   have y10 : W1.frozen? ⟨ub, 10, none⟩ = false := hu1.bx.frozen 10
                   have x11 : W1.cell? ⟨ub, 11, none⟩ = some (.int .i64 t.code) := (hu1.bx.cell 11).trans rfl
                   have y11 : W1.frozen? ⟨ub, 11, none⟩ = false := hu1.bx.frozen 11
                   have hul1 := hu1.bx.lt
                   clear hu1)
    all_goals
      go_wp2_with fail
      go_end0
      have hs := HU.out.setT HB.out HR2.out
      exact ⟨rfl, ⟨_, hs.1⟩, hs.2⟩
  · rw [if_neg hz]
    have hzb : (z == 0) = false := by rw [beq_eq_false_iff_ne]; exact hz
    clear hu hl hz
    go_enter Try.func75, Try.ntmps75
    go_wp2_with fail
    go_end0
    exact ⟨rfl, ⟨_, HU.out⟩, Fr.refl _ _⟩
set_option maxHeartbeats 4000000 in
set_option maxRecDepth 100000 in
theorem deed6 (h : PH) (p : PV) (ht : TH) (t : TV) (a : Int) (W : World) (ub B : Nat) (hu : US W ub B h p ht t a q0) (hl : LensT t) (hm : 1 ≤ t.frames.length ∧ t.frames.length ≤ 1000000 ∧ t.stack.length ≤ 16) (hi : 0 ≤ a ∧ a < (lastFr t).locals.length ∧ (lastFr t).locals.length ≤ 1000000) :
    Calls Try.prog 69 #[.pointer (some ⟨ub, 0, none⟩)] W fun e W' => e = .returned (.tuple #[]) ∧ (∃ ht' : TH, US W' ub B h p ht' (deedV p t ⟨6, a⟩).1 a (deedV p t ⟨6, a⟩).2) ∧ Fr (fun i => i = ub) W W' := by
  obtain ⟨fA, fc, cA, cc, sA, sc, hA, hc, xA, xc⟩ := h
  obtain ⟨a1, c1, s1, d1⟩ := ht
  have HU := Lib.hid hu
  have hul := hu.bx.lt
  have HL := Lib.hid hl; have HM := Lib.hid hm
  clear hu hl hm
  by_cases h0 : t.stack.length = 0
  · have hd : deedV p t ⟨6, a⟩ = (deadT 1, ⟨1, 0, 1⟩) := by simp [deedV, popV, List.eq_nil_of_length_eq_zero h0, endV, deadT]
    rw [hd]
    have H0 := Lib.hid h0
    clear hd h0
    go_enter Try.func69, Try.ntmps69
    go_wp2_with fail
    refine (upop_no ⟨fA, fc, cA, cc, sA, sc, hA, hc, xA, xc⟩ p ⟨a1, c1, s1, d1⟩ t a q0 70 #[.pointer (some ⟨W.heap.size, 0, none⟩)] _ ub B (HU.out.below ((Below.refl _ _).alloc (Nat.le_refl _) _)) HL.out (by have := HM.out; omega) H0.out).mono ?_
    rintro e W2 ⟨rfl, hq, hf⟩
    go_wp2_with fail
    go_end0
    exact ⟨rfl, hq, (((Fr.refl (fun i => i = ub) W).alloc _).trans hf (fun i _ h => h))⟩
  · have hne : ¬ t.stack = [] := fun e => h0 (by rw [e]; rfl)
    have hd : deedV p t ⟨6, a⟩ = (setT (popT t) a (topT t), q0) := by simp [deedV, popV, hne, kindV]
    rw [hd]
    have H0 := Lib.hid h0
    clear hd h0 hne
    go_enter Try.func69, Try.ntmps69
    go_wp2_with fail
    refine (upop_yes ⟨fA, fc, cA, cc, sA, sc, hA, hc, xA, xc⟩ p ⟨a1, c1, s1, d1⟩ t a q0 70 #[.pointer (some ⟨W.heap.size, 0, none⟩)] en_i7 ((setT (popT t) a (topT t), q0)).1 ((setT (popT t) a (topT t), q0)).2 _ ub B (HU.out.below ((Below.refl _ _).alloc (Nat.le_refl _) _)) HL.out (by have := HM.out; omega) (by have := H0.out; omega) (fun W1 ht1 hu1 hf1 => i7 ⟨fA, fc, cA, cc, sA, sc, hA, hc, xA, xc⟩ p ht1 (popT t) a (topT t) W.heap.size W1 ub B hu1 ((hf1.cell (p := ⟨W.heap.size, 0, none⟩) (by simp) (by simp; omega)).trans ((Blk.new W 69 #[.pointer (some ⟨ub, 0, none⟩)]).cell 0)) (by have := hf1.size; simp at this; omega) (by omega) (lens_pop HL.out) ⟨hi.1, hi.2.1, hi.2.2, HM.out.1, HM.out.2.1⟩)).mono ?_
    rintro e W2 ⟨rfl, hq, hf⟩
    go_wp2_with fail
    go_end0
    exact ⟨rfl, hq, (((Fr.refl (fun i => i = ub) W).alloc _).trans hf (fun i _ h => h))⟩
set_option maxHeartbeats 4000000 in
set_option maxRecDepth 100000 in
theorem deed8 (h : PH) (p : PV) (ht : TH) (t : TV) (a : Int) (W : World) (ub B : Nat) (hu : US W ub B h p ht t a q0) (hl : LensT t) (hm : 1 ≤ t.frames.length ∧ t.frames.length ≤ 1000000 ∧ t.stack.length ≤ 16) :
    Calls Try.prog 74 #[.pointer (some ⟨ub, 0, none⟩)] W fun e W' => e = .returned (.tuple #[]) ∧ (∃ ht' : TH, US W' ub B h p ht' (deedV p t ⟨8, a⟩).1 a (deedV p t ⟨8, a⟩).2) ∧ Fr (fun i => i = ub) W W' := by
  obtain ⟨fA, fc, cA, cc, sA, sc, hA, hc, xA, xc⟩ := h
  obtain ⟨a1, c1, s1, d1⟩ := ht
  have HU := Lib.hid hu
  have hul := hu.bx.lt
  have HL := Lib.hid hl; have HM := Lib.hid hm
  clear hu hl hm
  by_cases h0 : t.stack.length = 0
  · have hd : deedV p t ⟨8, a⟩ = (deadT 1, ⟨1, 0, 1⟩) := by simp [deedV, popV, List.eq_nil_of_length_eq_zero h0, endV, deadT]
    rw [hd]
    have H0 := Lib.hid h0
    clear hd h0
    go_enter Try.func74, Try.ntmps74
    go_wp2_with fail
    refine (upop_no ⟨fA, fc, cA, cc, sA, sc, hA, hc, xA, xc⟩ p ⟨a1, c1, s1, d1⟩ t a q0 75 #[.pointer (some ⟨W.heap.size, 0, none⟩)] _ ub B (HU.out.below ((Below.refl _ _).alloc (Nat.le_refl _) _)) HL.out (by have := HM.out; omega) H0.out).mono ?_
    rintro e W2 ⟨rfl, hq, hf⟩
    go_wp2_with fail
    go_end0
    exact ⟨rfl, hq, (((Fr.refl (fun i => i = ub) W).alloc _).trans hf (fun i _ h => h))⟩
  · have hne : ¬ t.stack = [] := fun e => h0 (by rw [e]; rfl)
    have hd : deedV p t ⟨8, a⟩ = ((if topT t = 0 then jumpT (popT t) a else popT t), q0) := by simp [deedV, popV, hne, kindV]
    rw [hd]
    have H0 := Lib.hid h0
    clear hd h0 hne
    simp only
    generalize hK : (if topT t = 0 then jumpT (popT t) a else popT t) = t9 at *
    have HK9 := Lib.hid hK
    clear hK
    go_enter Try.func74, Try.ntmps74
    go_wp2_with fail
    refine (upop_yes ⟨fA, fc, cA, cc, sA, sc, hA, hc, xA, xc⟩ p ⟨a1, c1, s1, d1⟩ t a q0 75 #[.pointer (some ⟨W.heap.size, 0, none⟩)] en_i9 ((t9, q0)).1 ((t9, q0)).2 _ ub B (HU.out.below ((Below.refl _ _).alloc (Nat.le_refl _) _)) HL.out (by have := HM.out; omega) (by have := H0.out; omega) (fun W1 ht1 hu1 hf1 => by rw [← HK9.out]; exact i9 ⟨fA, fc, cA, cc, sA, sc, hA, hc, xA, xc⟩ p ht1 (popT t) a (topT t) W.heap.size W1 ub B hu1 ((hf1.cell (p := ⟨W.heap.size, 0, none⟩) (by simp) (by simp; omega)).trans ((Blk.new W 69 #[.pointer (some ⟨ub, 0, none⟩)]).cell 0)) (by have := hf1.size; simp at this; omega) (by omega) (lens_pop HL.out) HM.out.1 HM.out.2.1)).mono ?_
    rintro e W2 ⟨rfl, hq, hf⟩
    go_wp2_with fail
    go_end0
    exact ⟨rfl, hq, (((Fr.refl (fun i => i = ub) W).alloc _).trans hf (fun i _ h => h))⟩
set_option maxHeartbeats 4000000 in
set_option maxRecDepth 100000 in
theorem ask1 (h : PH) (p : PV) (ht : TH) (t : TV) (a k : Int) (kb : Nat) (W : World) (ub B : Nat) (hu : US W ub B h p ht t a q0) (hkb : W.cell? ⟨kb, 0, none⟩ = some (.int .i64 k)) (hne : kb ≠ ub) (hbl : kb < W.heap.size) :
    Calls Try.prog 97 #[.pointer (some ⟨ub, 0, none⟩), .pointer (some ⟨kb, 0, none⟩)] W fun e W' => e = .returned (.tuple #[]) ∧ (∃ ht' : TH, US W' ub B h p ht' t a ⟨k, a, 0⟩) ∧ Fr (fun i => i = ub) W W' := by
  obtain ⟨fA, fc, cA, cc, sA, sc, hA, hc, xA, xc⟩ := h
  obtain ⟨a1, c1, s1, d1⟩ := ht
  have HU := Lib.hid hu
  have hul := hu.bx.lt
  have x0 : W.cell? ⟨ub, 0, none⟩ = some (.slice fA p.funcs.length fc) := (hu.bx.cell 0).trans rfl
  have y0 : W.frozen? ⟨ub, 0, none⟩ = false := hu.bx.frozen 0
  have x1 : W.cell? ⟨ub, 1, none⟩ = some (.int .i64 p.mutexes) := (hu.bx.cell 1).trans rfl
  have y1 : W.frozen? ⟨ub, 1, none⟩ = false := hu.bx.frozen 1
  have x2 : W.cell? ⟨ub, 2, none⟩ = some (.slice cA p.conds.length cc) := (hu.bx.cell 2).trans rfl
  have y2 : W.frozen? ⟨ub, 2, none⟩ = false := hu.bx.frozen 2
  have x3 : W.cell? ⟨ub, 3, none⟩ = some (.slice sA p.semas.length sc) := (hu.bx.cell 3).trans rfl
  have y3 : W.frozen? ⟨ub, 3, none⟩ = false := hu.bx.frozen 3
  have x4 : W.cell? ⟨ub, 4, none⟩ = some (.slice hA p.chans.length hc) := (hu.bx.cell 4).trans rfl
  have y4 : W.frozen? ⟨ub, 4, none⟩ = false := hu.bx.frozen 4
  have x5 : W.cell? ⟨ub, 5, none⟩ = some (.slice xA p.choices.length xc) := (hu.bx.cell 5).trans rfl
  have y5 : W.frozen? ⟨ub, 5, none⟩ = false := hu.bx.frozen 5
  have x6 : W.cell? ⟨ub, 6, none⟩ = some (.int .i64 p.threads) := (hu.bx.cell 6).trans rfl
  have y6 : W.frozen? ⟨ub, 6, none⟩ = false := hu.bx.frozen 6
  have x7 : W.cell? ⟨ub, 7, none⟩ = some (.int .i64 t.state) := (hu.bx.cell 7).trans rfl
  have y7 : W.frozen? ⟨ub, 7, none⟩ = false := hu.bx.frozen 7
  have x8 : W.cell? ⟨ub, 8, none⟩ = some (.int .i64 t.on) := (hu.bx.cell 8).trans rfl
  have y8 : W.frozen? ⟨ub, 8, none⟩ = false := hu.bx.frozen 8
  have x9 : W.cell? ⟨ub, 9, none⟩ = some (.slice a1 t.frames.length c1) := (hu.bx.cell 9).trans rfl
  have y9 : W.frozen? ⟨ub, 9, none⟩ = false := hu.bx.frozen 9
  have x10 : W.cell? ⟨ub, 10, none⟩ = some (.slice s1 t.stack.length d1) := (hu.bx.cell 10).trans rfl
  have y10 : W.frozen? ⟨ub, 10, none⟩ = false := hu.bx.frozen 10
  have x11 : W.cell? ⟨ub, 11, none⟩ = some (.int .i64 t.code) := (hu.bx.cell 11).trans rfl
  have y11 : W.frozen? ⟨ub, 11, none⟩ = false := hu.bx.frozen 11
  have x12 : W.cell? ⟨ub, 12, none⟩ = some (.int .i64 a) := (hu.bx.cell 12).trans rfl
  have y12 : W.frozen? ⟨ub, 12, none⟩ = false := hu.bx.frozen 12
  have x13 : W.cell? ⟨ub, 13, none⟩ = some (.int .i64 q0.kind) := (hu.bx.cell 13).trans rfl
  have y13 : W.frozen? ⟨ub, 13, none⟩ = false := hu.bx.frozen 13
  have x14 : W.cell? ⟨ub, 14, none⟩ = some (.int .i64 q0.a) := (hu.bx.cell 14).trans rfl
  have y14 : W.frozen? ⟨ub, 14, none⟩ = false := hu.bx.frozen 14
  have x15 : W.cell? ⟨ub, 15, none⟩ = some (.int .i64 q0.v) := (hu.bx.cell 15).trans rfl
  have y15 : W.frozen? ⟨ub, 15, none⟩ = false := hu.bx.frozen 15
  clear hu
  have hne2 : ¬ ub = kb := fun e => hne e.symm
  go_enter Try.func97, Try.ntmps97
  go_region
  go_wp2_with fail
  go_end0
  have hs := HU.out.setQ ⟨k, a, 0⟩
  exact ⟨rfl, ⟨_, hs.1.below ((Below.refl _ _).drew)⟩, hs.2.drew⟩
theorem en_iN : ∀ (args : Array Value) (W : World), (callFunc 99 args).run Try.prog W = .ok (.enter 99 args) W := by
  intro args W
  go_simp
set_option maxHeartbeats 4000000 in
set_option maxRecDepth 100000 in
theorem iN (h : PH) (p : PV) (ht : TH) (t : TV) (a z k : Int) (kb bx : Nat) (W : World) (ub B : Nat) (hu : US W ub B h p ht t a q0) (hkb : W.cell? ⟨kb, 0, none⟩ = some (.int .i64 k)) (hb : W.cell? ⟨bx, 0, none⟩ = some (.pointer (some ⟨ub, 0, none⟩))) (hkl : kb < W.heap.size) (hbl : bx < W.heap.size) (hnk : kb ≠ ub) (hne : bx ≠ ub) :
    Calls Try.prog 99 #[.int .i64 z, .pointer (some ⟨kb, 0, none⟩), .pointer (some ⟨bx, 0, none⟩)] W fun e W' => e = .returned (.tuple #[]) ∧ (∃ ht' : TH, US W' ub B h p ht' t a ⟨k, a, z⟩) ∧ Fr (fun i => i = ub) W W' := by
  obtain ⟨fA, fc, cA, cc, sA, sc, hA, hc, xA, xc⟩ := h
  obtain ⟨a1, c1, s1, d1⟩ := ht
  have HU := Lib.hid hu
  have hul := hu.bx.lt
  have x0 : W.cell? ⟨ub, 0, none⟩ = some (.slice fA p.funcs.length fc) := (hu.bx.cell 0).trans rfl
  have y0 : W.frozen? ⟨ub, 0, none⟩ = false := hu.bx.frozen 0
  have x1 : W.cell? ⟨ub, 1, none⟩ = some (.int .i64 p.mutexes) := (hu.bx.cell 1).trans rfl
  have y1 : W.frozen? ⟨ub, 1, none⟩ = false := hu.bx.frozen 1
  have x2 : W.cell? ⟨ub, 2, none⟩ = some (.slice cA p.conds.length cc) := (hu.bx.cell 2).trans rfl
  have y2 : W.frozen? ⟨ub, 2, none⟩ = false := hu.bx.frozen 2
  have x3 : W.cell? ⟨ub, 3, none⟩ = some (.slice sA p.semas.length sc) := (hu.bx.cell 3).trans rfl
  have y3 : W.frozen? ⟨ub, 3, none⟩ = false := hu.bx.frozen 3
  have x4 : W.cell? ⟨ub, 4, none⟩ = some (.slice hA p.chans.length hc) := (hu.bx.cell 4).trans rfl
  have y4 : W.frozen? ⟨ub, 4, none⟩ = false := hu.bx.frozen 4
  have x5 : W.cell? ⟨ub, 5, none⟩ = some (.slice xA p.choices.length xc) := (hu.bx.cell 5).trans rfl
  have y5 : W.frozen? ⟨ub, 5, none⟩ = false := hu.bx.frozen 5
  have x6 : W.cell? ⟨ub, 6, none⟩ = some (.int .i64 p.threads) := (hu.bx.cell 6).trans rfl
  have y6 : W.frozen? ⟨ub, 6, none⟩ = false := hu.bx.frozen 6
  have x7 : W.cell? ⟨ub, 7, none⟩ = some (.int .i64 t.state) := (hu.bx.cell 7).trans rfl
  have y7 : W.frozen? ⟨ub, 7, none⟩ = false := hu.bx.frozen 7
  have x8 : W.cell? ⟨ub, 8, none⟩ = some (.int .i64 t.on) := (hu.bx.cell 8).trans rfl
  have y8 : W.frozen? ⟨ub, 8, none⟩ = false := hu.bx.frozen 8
  have x9 : W.cell? ⟨ub, 9, none⟩ = some (.slice a1 t.frames.length c1) := (hu.bx.cell 9).trans rfl
  have y9 : W.frozen? ⟨ub, 9, none⟩ = false := hu.bx.frozen 9
  have x10 : W.cell? ⟨ub, 10, none⟩ = some (.slice s1 t.stack.length d1) := (hu.bx.cell 10).trans rfl
  have y10 : W.frozen? ⟨ub, 10, none⟩ = false := hu.bx.frozen 10
  have x11 : W.cell? ⟨ub, 11, none⟩ = some (.int .i64 t.code) := (hu.bx.cell 11).trans rfl
  have y11 : W.frozen? ⟨ub, 11, none⟩ = false := hu.bx.frozen 11
  have x12 : W.cell? ⟨ub, 12, none⟩ = some (.int .i64 a) := (hu.bx.cell 12).trans rfl
  have y12 : W.frozen? ⟨ub, 12, none⟩ = false := hu.bx.frozen 12
  have x13 : W.cell? ⟨ub, 13, none⟩ = some (.int .i64 q0.kind) := (hu.bx.cell 13).trans rfl
  have y13 : W.frozen? ⟨ub, 13, none⟩ = false := hu.bx.frozen 13
  have x14 : W.cell? ⟨ub, 14, none⟩ = some (.int .i64 q0.a) := (hu.bx.cell 14).trans rfl
  have y14 : W.frozen? ⟨ub, 14, none⟩ = false := hu.bx.frozen 14
  have x15 : W.cell? ⟨ub, 15, none⟩ = some (.int .i64 q0.v) := (hu.bx.cell 15).trans rfl
  have y15 : W.frozen? ⟨ub, 15, none⟩ = false := hu.bx.frozen 15
  clear hu
  have hnk2 : ¬ ub = kb := fun e => hnk e.symm
  have hne2 : ¬ ub = bx := fun e => hne e.symm
  go_enter Try.func99, Try.ntmps99
  go_region
  go_wp2_with fail
  go_end0
  have hs := HU.out.setQ ⟨k, a, z⟩
  exact ⟨rfl, ⟨_, hs.1.below ((Below.refl _ _).drew)⟩, hs.2.drew⟩
set_option maxHeartbeats 4000000 in
set_option maxRecDepth 100000 in
theorem askN1 (h : PH) (p : PV) (ht : TH) (t : TV) (a k : Int) (kb : Nat) (W : World) (ub B : Nat) (hu : US W ub B h p ht t a q0) (hl : LensT t) (hs : t.stack.length ≤ 1000000) (hkb : W.cell? ⟨kb, 0, none⟩ = some (.int .i64 k)) (hne : kb ≠ ub) (hbl : kb < W.heap.size) :
    Calls Try.prog 98 #[.pointer (some ⟨ub, 0, none⟩), .pointer (some ⟨kb, 0, none⟩)] W fun e W' => e = .returned (.tuple #[]) ∧ (∃ ht' : TH, US W' ub B h p ht' (popV t fun u v => (u, ⟨k, a, v⟩)).1 a (popV t fun u v => (u, ⟨k, a, v⟩)).2) ∧ Fr (fun i => i = ub) W W' := by
  obtain ⟨fA, fc, cA, cc, sA, sc, hA, hc, xA, xc⟩ := h
  obtain ⟨a1, c1, s1, d1⟩ := ht
  have HU := Lib.hid hu
  have hul := hu.bx.lt
  have HL := Lib.hid hl; have HK := Lib.hid hkb
  clear hu hl hkb
  by_cases h0 : t.stack.length = 0
  · have hd : (popV t fun u v => (u, (⟨k, a, v⟩ : QV))) = (deadT 1, ⟨1, 0, 1⟩) := by simp [popV, List.eq_nil_of_length_eq_zero h0, endV, deadT]
    rw [hd]
    have H0 := Lib.hid h0
    clear hd h0
    go_enter Try.func98, Try.ntmps98
    go_wp2_with fail
    refine (upop_no ⟨fA, fc, cA, cc, sA, sc, hA, hc, xA, xc⟩ p ⟨a1, c1, s1, d1⟩ t a q0 99 #[.pointer (some ⟨kb, 0, none⟩), .pointer (some ⟨W.heap.size, 0, none⟩)] _ ub B (HU.out.below ((Below.refl _ _).alloc (Nat.le_refl _) _)) HL.out hs H0.out).mono ?_
    rintro e W2 ⟨rfl, hq, hf⟩
    go_wp2_with fail
    go_end0
    exact ⟨rfl, hq, (((Fr.refl (fun i => i = ub) W).alloc _).trans hf (fun i _ h => h))⟩
  · have hnl : ¬ t.stack = [] := fun e => h0 (by rw [e]; rfl)
    have hd : (popV t fun u v => (u, (⟨k, a, v⟩ : QV))) = (popT t, ⟨k, a, topT t⟩) := by simp [popV, hnl]
    rw [hd]
    have H0 := Lib.hid h0
    clear hd h0 hnl
    go_enter Try.func98, Try.ntmps98
    go_wp2_with fail
    refine (upop_yes ⟨fA, fc, cA, cc, sA, sc, hA, hc, xA, xc⟩ p ⟨a1, c1, s1, d1⟩ t a q0 99 #[.pointer (some ⟨kb, 0, none⟩), .pointer (some ⟨W.heap.size, 0, none⟩)] en_iN (popT t) ⟨k, a, topT t⟩ _ ub B (HU.out.below ((Below.refl _ _).alloc (Nat.le_refl _) _)) HL.out hs (by have := H0.out; omega)
      (fun W1 ht1 hu1 hf1 => iN ⟨fA, fc, cA, cc, sA, sc, hA, hc, xA, xc⟩ p ht1 (popT t) a (topT t) k kb W.heap.size W1 ub B hu1 (((hf1.cell (p := ⟨kb, 0, none⟩) (by simp; omega) (by simpa using hne)).trans (World.cell?_alloc_lt _ _ _ hbl)).trans HK.out) ((hf1.cell (p := ⟨W.heap.size, 0, none⟩) (by simp) (by simp; omega)).trans ((Blk.new W 69 #[.pointer (some ⟨ub, 0, none⟩)]).cell 0)) (by have := hf1.size; simp at this; omega) (by have := hf1.size; simp at this; omega) hne (by omega))).mono ?_
    rintro e W2 ⟨rfl, hq, hf⟩
    go_wp2_with fail
    go_end0
    exact ⟨rfl, hq, (((Fr.refl (fun i => i = ub) W).alloc _).trans hf (fun i _ h => h))⟩
end Go.Proofs.Ytkciedcfphhenaa

/-
  The deed of each instruction: found among all, and done.
-/
set_option linter.unusedVariables false
set_option linter.unusedSimpArgs false
namespace Go.Proofs.Ytkciedcfphhenaa
open Go.RowKit Plain

/-- All deeds stand. -/
structure DM (W : World) (db : Nat) : Prop where
  mp : IsM W db (dl db)
  bx : ∀ i, i < 15 → ∃ k, kd[i]? = some k ∧ Blk W (db + 1 + i) 3 #[.int .i64 k]
theorem DI.dm {w W : World} (g : DI w W 27 15) : DM W w.heap.size := by
  have e : (dl w.heap.size).take 27 = dl w.heap.size := rfl
  have h := g.mp
  rw [e] at h
  exact ⟨h, g.bx⟩
theorem DM.fr {W W' : World} {db ub : Nat} (g : DM W db) (hf : Fr (fun i => i = ub) W W') (h : ub < db) : DM W' db :=
  ⟨g.mp.fr hf (fun e => by omega), fun i hi => by obtain ⟨k, h1, h2⟩ := g.bx i hi; exact ⟨k, h1, hf.blk h2 (fun e => by omega)⟩⟩
theorem DM.below {W W' : World} {db : Nat} (g : DM W db) (hb : Below W.heap.size W W') : DM W' db :=
  ⟨g.mp.fr (Fr.of_below hb) (fun e => by have := g.mp.lt; omega), fun i hi => by obtain ⟨k, h1, h2⟩ := g.bx i hi; exact ⟨k, h1, h2.below hb h2.lt⟩⟩
/-- What a deed asks of the thread. -/
structure DOk (p : PV) (t : TV) (i : IV) : Prop where
  len : LensT t
  fr : 1 ≤ t.frames.length ∧ t.frames.length ≤ 8
  st : t.stack.length ≤ 16
  y : -1073741824 ≤ topT t ∧ topT t ≤ 1073741824
  x : -1073741824 ≤ topT (popT t) ∧ topT (popT t) ≤ 1073741824
  loc : i.op = 5 ∨ i.op = 6 → 0 ≤ i.a ∧ i.a < (lastFr t).locals.length ∧ (lastFr t).locals.length ≤ 1000000
  call : i.op = 9 → 0 ≤ i.a ∧ i.a < p.funcs.length
  few : FewLoc p
  pl : p.funcs.length ≤ 9223372036854775807

theorem deedV_ask (p : PV) (t : TV) (k a : Int) (hk : k = 11 ∨ k = 12 ∨ (15 ≤ k ∧ k ≤ 21) ∨ k = 23 ∨ k = 24) : deedV p t ⟨k, a⟩ = (t, ⟨kindV k, a, 0⟩) := by
  unfold deedV
  simp only
  rw [if_neg (by omega), if_neg (by omega), if_neg (by omega), if_neg (by omega), if_neg (by omega), if_neg (by omega), if_neg (by omega), if_neg (by omega), if_neg (by omega), if_neg (by omega), if_neg (by omega), if_neg (by omega), if_neg (by omega)]
theorem deedV_askN (p : PV) (t : TV) (k a : Int) (hk : k = 13 ∨ k = 14 ∨ k = 22 ∨ k = 25) : deedV p t ⟨k, a⟩ = popV t fun u v => (u, ⟨kindV k, a, v⟩) := by
  unfold deedV
  simp only
  rw [if_neg (by omega), if_neg (by omega), if_neg (by omega), if_neg (by omega), if_neg (by omega), if_neg (by omega), if_neg (by omega), if_neg (by omega), if_neg (by omega), if_neg (by omega), if_neg (by omega), if_neg (by omega), if_pos hk]

theorem deed_any (p : PV) (i : IV) (db : Nat) (hop : 0 ≤ i.op ∧ i.op ≤ 26) : ∃ (F : FuncId) (caps : Array Value), ((dl db).find? fun q => q.1 == i.op) = some (i.op, .func (.func F) #[] caps) ∧ (∀ (args : Array Value) (W : World), (callFunc F args).run Try.prog W = .ok (.enter F args) W) ∧
    ∀ (h : PH) (ht : TH) (t : TV) (W : World) (ub B : Nat), US W ub B h p ht t i.a q0 → DM W db → ub < db → DOk p t i → Calls Try.prog F (#[.pointer (some ⟨ub, 0, none⟩)] ++ caps) W fun e W' => e = .returned (.tuple #[]) ∧ (∃ ht' : TH, US W' ub B h p ht' (deedV p t i).1 i.a (deedV p t i).2) ∧ Fr (fun i => i = ub) W W' := by
  obtain ⟨op, a⟩ := i
  simp only at hop ⊢
  have hc : op = 0 ∨ op = 1 ∨ op = 2 ∨ op = 3 ∨ op = 4 ∨ op = 5 ∨ op = 6 ∨ op = 7 ∨ op = 8 ∨ op = 9 ∨ op = 10 ∨ op = 11 ∨ op = 12 ∨ op = 13 ∨ op = 14 ∨ op = 15 ∨ op = 16 ∨ op = 17 ∨ op = 18 ∨ op = 19 ∨ op = 20 ∨ op = 21 ∨ op = 22 ∨ op = 23 ∨ op = 24 ∨ op = 25 ∨ op = 26 := by omega
  rcases hc with rfl | rfl | rfl | rfl | rfl | rfl | rfl | rfl | rfl | rfl | rfl | rfl | rfl | rfl | rfl | rfl | rfl | rfl | rfl | rfl | rfl | rfl | rfl | rfl | rfl | rfl | rfl
  · exact ⟨55, #[], rfl, fun args W => by go_simp, fun h ht t W ub B hu hd hlt o => deed0 h p ht t a W ub B hu o.len (by have := o.fr; have := o.st; omega)⟩
  · exact ⟨57, #[], rfl, fun args W => by go_simp, fun h ht t W ub B hu hd hlt o => deed1 h p ht t a W ub B hu o.len (by have := o.fr; have := o.st; omega)⟩
  · exact ⟨60, #[], rfl, fun args W => by go_simp, fun h ht t W ub B hu hd hlt o => deed2 h p ht t a W ub B hu o.len (by have := o.fr; have := o.st; omega)⟩
  · exact ⟨62, #[], rfl, fun args W => by go_simp, fun h ht t W ub B hu hd hlt o => deed3 h p ht t a W ub B hu o.len (by have := o.fr; have := o.st; omega) o.x o.y⟩
  · exact ⟨65, #[], rfl, fun args W => by go_simp, fun h ht t W ub B hu hd hlt o => deed4 h p ht t a W ub B hu o.len (by have := o.fr; have := o.st; omega) o.x o.y⟩
  · exact ⟨67, #[], rfl, fun args W => by go_simp, fun h ht t W ub B hu hd hlt o => deed5 h p ht t a W ub B hu o.len (by have := o.fr; have := o.st; omega) (o.loc (.inl rfl))⟩
  · exact ⟨69, #[], rfl, fun args W => by go_simp, fun h ht t W ub B hu hd hlt o => deed6 h p ht t a W ub B hu o.len (by have := o.fr; have := o.st; omega) (o.loc (.inr rfl))⟩
  · exact ⟨72, #[], rfl, fun args W => by go_simp, fun h ht t W ub B hu hd hlt o => deed7 h p ht t a W ub B hu o.len (by have := o.fr; have := o.st; omega)⟩
  · exact ⟨74, #[], rfl, fun args W => by go_simp, fun h ht t W ub B hu hd hlt o => deed8 h p ht t a W ub B hu o.len (by have := o.fr; have := o.st; omega)⟩
  · exact ⟨76, #[], rfl, fun args W => by go_simp, fun h ht t W ub B hu hd hlt o => deed9 h p ht t a W ub B hu o.len (by have := o.fr; have := o.st; omega) ⟨(o.call rfl).1, (o.call rfl).2, o.few, o.pl⟩⟩
  · exact ⟨78, #[], rfl, fun args W => by go_simp, fun h ht t W ub B hu hd hlt o => deed10 h p ht t a W ub B hu o.len (by have := o.fr; have := o.st; omega)⟩
  · refine ⟨97, #[.pointer (some ⟨db + 1 + 1, 0, none⟩)], rfl, fun args W => by go_simp, fun h ht t W ub B hu hd hlt o => ?_⟩
    obtain ⟨k, hk, hb⟩ := hd.bx 1 (by decide)
    have hk' : k = 3 := by injection hk with e; exact e.symm
    subst hk'
    rw [deedV_ask p t 11 a (by decide)]
    exact ask1 h p ht t a 3 _ W ub B hu ((hb.cell 0).trans rfl) (by omega) hb.lt
  · refine ⟨97, #[.pointer (some ⟨db + 1 + 0, 0, none⟩)], rfl, fun args W => by go_simp, fun h ht t W ub B hu hd hlt o => ?_⟩
    obtain ⟨k, hk, hb⟩ := hd.bx 0 (by decide)
    have hk' : k = 2 := by injection hk with e; exact e.symm
    subst hk'
    rw [deedV_ask p t 12 a (by decide)]
    exact ask1 h p ht t a 2 _ W ub B hu ((hb.cell 0).trans rfl) (by omega) hb.lt
  · refine ⟨98, #[.pointer (some ⟨db + 1 + 11, 0, none⟩)], rfl, fun args W => by go_simp, fun h ht t W ub B hu hd hlt o => ?_⟩
    obtain ⟨k, hk, hb⟩ := hd.bx 11 (by decide)
    have hk' : k = 4 := by injection hk with e; exact e.symm
    subst hk'
    rw [deedV_askN p t 13 a (by decide)]
    exact askN1 h p ht t a 4 _ W ub B hu o.len (by have := o.st; omega) ((hb.cell 0).trans rfl) (by omega) hb.lt
  · refine ⟨98, #[.pointer (some ⟨db + 1 + 12, 0, none⟩)], rfl, fun args W => by go_simp, fun h ht t W ub B hu hd hlt o => ?_⟩
    obtain ⟨k, hk, hb⟩ := hd.bx 12 (by decide)
    have hk' : k = 5 := by injection hk with e; exact e.symm
    subst hk'
    rw [deedV_askN p t 14 a (by decide)]
    exact askN1 h p ht t a 5 _ W ub B hu o.len (by have := o.st; omega) ((hb.cell 0).trans rfl) (by omega) hb.lt
  · refine ⟨97, #[.pointer (some ⟨db + 1 + 2, 0, none⟩)], rfl, fun args W => by go_simp, fun h ht t W ub B hu hd hlt o => ?_⟩
    obtain ⟨k, hk, hb⟩ := hd.bx 2 (by decide)
    have hk' : k = 6 := by injection hk with e; exact e.symm
    subst hk'
    rw [deedV_ask p t 15 a (by decide)]
    exact ask1 h p ht t a 6 _ W ub B hu ((hb.cell 0).trans rfl) (by omega) hb.lt
  · refine ⟨97, #[.pointer (some ⟨db + 1 + 3, 0, none⟩)], rfl, fun args W => by go_simp, fun h ht t W ub B hu hd hlt o => ?_⟩
    obtain ⟨k, hk, hb⟩ := hd.bx 3 (by decide)
    have hk' : k = 7 := by injection hk with e; exact e.symm
    subst hk'
    rw [deedV_ask p t 16 a (by decide)]
    exact ask1 h p ht t a 7 _ W ub B hu ((hb.cell 0).trans rfl) (by omega) hb.lt
  · refine ⟨97, #[.pointer (some ⟨db + 1 + 4, 0, none⟩)], rfl, fun args W => by go_simp, fun h ht t W ub B hu hd hlt o => ?_⟩
    obtain ⟨k, hk, hb⟩ := hd.bx 4 (by decide)
    have hk' : k = 8 := by injection hk with e; exact e.symm
    subst hk'
    rw [deedV_ask p t 17 a (by decide)]
    exact ask1 h p ht t a 8 _ W ub B hu ((hb.cell 0).trans rfl) (by omega) hb.lt
  · refine ⟨97, #[.pointer (some ⟨db + 1 + 5, 0, none⟩)], rfl, fun args W => by go_simp, fun h ht t W ub B hu hd hlt o => ?_⟩
    obtain ⟨k, hk, hb⟩ := hd.bx 5 (by decide)
    have hk' : k = 9 := by injection hk with e; exact e.symm
    subst hk'
    rw [deedV_ask p t 18 a (by decide)]
    exact ask1 h p ht t a 9 _ W ub B hu ((hb.cell 0).trans rfl) (by omega) hb.lt
  · refine ⟨97, #[.pointer (some ⟨db + 1 + 6, 0, none⟩)], rfl, fun args W => by go_simp, fun h ht t W ub B hu hd hlt o => ?_⟩
    obtain ⟨k, hk, hb⟩ := hd.bx 6 (by decide)
    have hk' : k = 10 := by injection hk with e; exact e.symm
    subst hk'
    rw [deedV_ask p t 19 a (by decide)]
    exact ask1 h p ht t a 10 _ W ub B hu ((hb.cell 0).trans rfl) (by omega) hb.lt
  · refine ⟨97, #[.pointer (some ⟨db + 1 + 7, 0, none⟩)], rfl, fun args W => by go_simp, fun h ht t W ub B hu hd hlt o => ?_⟩
    obtain ⟨k, hk, hb⟩ := hd.bx 7 (by decide)
    have hk' : k = 11 := by injection hk with e; exact e.symm
    subst hk'
    rw [deedV_ask p t 20 a (by decide)]
    exact ask1 h p ht t a 11 _ W ub B hu ((hb.cell 0).trans rfl) (by omega) hb.lt
  · refine ⟨97, #[.pointer (some ⟨db + 1 + 8, 0, none⟩)], rfl, fun args W => by go_simp, fun h ht t W ub B hu hd hlt o => ?_⟩
    obtain ⟨k, hk, hb⟩ := hd.bx 8 (by decide)
    have hk' : k = 12 := by injection hk with e; exact e.symm
    subst hk'
    rw [deedV_ask p t 21 a (by decide)]
    exact ask1 h p ht t a 12 _ W ub B hu ((hb.cell 0).trans rfl) (by omega) hb.lt
  · refine ⟨98, #[.pointer (some ⟨db + 1 + 14, 0, none⟩)], rfl, fun args W => by go_simp, fun h ht t W ub B hu hd hlt o => ?_⟩
    obtain ⟨k, hk, hb⟩ := hd.bx 14 (by decide)
    have hk' : k = 13 := by injection hk with e; exact e.symm
    subst hk'
    rw [deedV_askN p t 22 a (by decide)]
    exact askN1 h p ht t a 13 _ W ub B hu o.len (by have := o.st; omega) ((hb.cell 0).trans rfl) (by omega) hb.lt
  · refine ⟨97, #[.pointer (some ⟨db + 1 + 9, 0, none⟩)], rfl, fun args W => by go_simp, fun h ht t W ub B hu hd hlt o => ?_⟩
    obtain ⟨k, hk, hb⟩ := hd.bx 9 (by decide)
    have hk' : k = 14 := by injection hk with e; exact e.symm
    subst hk'
    rw [deedV_ask p t 23 a (by decide)]
    exact ask1 h p ht t a 14 _ W ub B hu ((hb.cell 0).trans rfl) (by omega) hb.lt
  · refine ⟨97, #[.pointer (some ⟨db + 1 + 10, 0, none⟩)], rfl, fun args W => by go_simp, fun h ht t W ub B hu hd hlt o => ?_⟩
    obtain ⟨k, hk, hb⟩ := hd.bx 10 (by decide)
    have hk' : k = 15 := by injection hk with e; exact e.symm
    subst hk'
    rw [deedV_ask p t 24 a (by decide)]
    exact ask1 h p ht t a 15 _ W ub B hu ((hb.cell 0).trans rfl) (by omega) hb.lt
  · refine ⟨98, #[.pointer (some ⟨db + 1 + 13, 0, none⟩)], rfl, fun args W => by go_simp, fun h ht t W ub B hu hd hlt o => ?_⟩
    obtain ⟨k, hk, hb⟩ := hd.bx 13 (by decide)
    have hk' : k = 16 := by injection hk with e; exact e.symm
    subst hk'
    rw [deedV_askN p t 25 a (by decide)]
    exact askN1 h p ht t a 16 _ W ub B hu o.len (by have := o.st; omega) ((hb.cell 0).trans rfl) (by omega) hb.lt
  · exact ⟨80, #[], rfl, fun args W => by go_simp, fun h ht t W ub B hu hd hlt o => deed26 h p ht t a W ub B hu o.len (by have := o.fr; have := o.st; omega)⟩
end Go.Proofs.Ytkciedcfphhenaa

/-
  A step, told plainly: what it comes to may be.
-/
set_option linter.unusedVariables false
set_option linter.unusedSimpArgs false
namespace Go.Proofs.Ytkciedcfphhenaa
open Go.RowKit Plain
namespace Plain

/-- What a step leaves: an end with its code, or a thread that may be. -/
def After (p : PV) (t : TV) (r : TV × QV) : Prop :=
  (∃ c, (c = 0 ∨ c = 1 ∨ c = 2 ∨ c = 3 ∨ c = 6) ∧ r = endV c) ∨ (r.2.kind ≠ 1 ∧ mayT p r.1 = true ∧ r.1.state = t.state ∧ (r.2.kind = 0 → r.2 = q0))
theorem After.of {p : PV} {t : TV} {u : TV} (h : mayT p u = true) (hs : u.state = t.state) : After p t (u, q0) := .inr ⟨(by decide : (0 : Int) ≠ 1), h, hs, fun _ => rfl⟩
theorem After.ends {p : PV} {t : TV} (c : Int) (h : c = 0 ∨ c = 1 ∨ c = 2 ∨ c = 3 ∨ c = 6) : After p t (endV c) := .inl ⟨c, h, rfl⟩
theorem pushV_after {p : PV} {t u : TV} (v : Int) (h : mayT p u = true) (hs : u.state = t.state) (h9 : t.state ≠ 9) : After p t (pushV u v) := by
  unfold pushV
  split
  · rename_i h16; exact .of (mayT_push h (by rw [hs]; exact h9) h16) hs
  · exact .ends 2 (by decide)
theorem popV_after {p : PV} {t u : TV} {k : TV → Int → TV × QV} (h : mayT p u = true) (hs : u.state = t.state) (h9 : t.state ≠ 9) (hk : mayT p (popT u) = true → After p t (k (popT u) (topT u))) : After p t (popV u k) := by
  unfold popV
  split
  · exact .ends 1 (by decide)
  · exact hk (mayT_pop h (by rw [hs]; exact h9))
theorem instr_ok {p : PV} {f : FV} {i : IV} (h : instrB p f i = true) : (0 ≤ i.op ∧ i.op ≤ 26) ∧ (i.op = 5 ∨ i.op = 6 → 0 ≤ i.a ∧ i.a < f.locals) ∧ (i.op = 7 ∨ i.op = 8 → 0 ≤ i.a ∧ i.a ≤ f.code.length) ∧ (i.op = 9 → 0 ≤ i.a ∧ i.a < p.funcs.length) := by
  unfold instrB at h
  simp only [Bool.and_eq_true, decide_eq_true_eq] at h
  obtain ⟨⟨h0, h1⟩, h2⟩ := h
  refine ⟨⟨h0, h1⟩, fun e => ?_, fun e => ?_, fun e => ?_⟩
  · have ha : asks i.op = true := by rcases e with e | e <;> rw [e] <;> rfl
    rw [if_pos ha, if_neg (by omega)] at h2
    simp only [Bool.and_eq_true, decide_eq_true_eq] at h2
    have hm : most p f i.op = f.locals := by rcases e with e | e <;> rw [e] <;> rfl
    rw [hm] at h2
    exact h2
  · have ha : asks i.op = true := by rcases e with e | e <;> rw [e] <;> rfl
    rw [if_pos ha, if_neg (by omega)] at h2
    simp only [Bool.and_eq_true, decide_eq_true_eq] at h2
    have hm : most p f i.op = f.code.length + 1 := by rcases e with e | e <;> rw [e] <;> rfl
    rw [hm] at h2
    omega
  · have ha : asks i.op = true := by rw [e]; rfl
    rw [if_pos ha, if_neg (by omega)] at h2
    simp only [Bool.and_eq_true, decide_eq_true_eq] at h2
    have hm : most p f i.op = p.funcs.length := by rw [e]; rfl
    rw [hm] at h2
    exact h2
theorem mayB_instr {p : PV} (hp : mayB p = true) {f : FV} (hf : f ∈ p.funcs) {i : IV} (hi : i ∈ f.code) : instrB p f i = true := by
  unfold mayB at hp
  simp only [Bool.and_eq_true] at hp
  have := List.all_eq_true.1 hp.2 f hf
  unfold funcB at this
  simp only [Bool.and_eq_true] at this
  exact List.all_eq_true.1 this.2 i hi
theorem mayB_few {p : PV} (hp : mayB p = true) : (∀ f ∈ p.funcs, 0 ≤ f.locals ∧ f.locals ≤ 8) ∧ (1 ≤ p.funcs.length ∧ p.funcs.length ≤ 16) ∧ (∀ f ∈ p.funcs, f.code.length ≤ 64) := by
  unfold mayB at hp
  simp only [Bool.and_eq_true] at hp
  have hb : ∀ f ∈ p.funcs, (0 ≤ f.locals ∧ f.locals ≤ 8) ∧ f.code.length ≤ 64 := fun f hf => by
    have := List.all_eq_true.1 hp.2 f hf
    unfold funcB at this
    simp only [Bool.and_eq_true, decide_eq_true_eq] at this
    exact ⟨this.1.1, this.1.2⟩
  have hh := hp.1.1.1
  unfold headB at hh
  simp only [Bool.and_eq_true, decide_eq_true_eq] at hh
  obtain ⟨⟨⟨⟨⟨⟨⟨⟨⟨a, b⟩, _⟩, _⟩, _⟩, _⟩, _⟩, _⟩, _⟩, _⟩ := hh
  exact ⟨fun f hf => (hb f hf).1, ⟨a, b⟩, fun f hf => (hb f hf).2⟩
/-- What is fetched of a program that may be, by a thread that may be. -/
theorem fetch_ok {p : PV} {t : TV} {i : IV} (hp : mayB p = true) (ht : mayT p t = true) (hs : t.state ≠ 9) (hf : fetchT p t = some i) :
    (0 ≤ i.op ∧ i.op ≤ 26) ∧ (i.op = 5 ∨ i.op = 6 → 0 ≤ i.a ∧ i.a < (lastFr t).locals.length) ∧ (i.op = 7 ∨ i.op = 8 → 0 ≤ i.a ∧ i.a ≤ (funcAt p (lastFr t).func).code.length) ∧ (i.op = 9 → 0 ≤ i.a ∧ i.a < p.funcs.length) ∧ (0 ≤ (lastFr t).pc ∧ (lastFr t).pc + 1 ≤ (funcAt p (lastFr t).func).code.length) := by
  obtain ⟨f0, f1, f2, f3, f4, _⟩ := (frB_iff _ _).1 (lastFr_ok ht hs)
  unfold fetchT at hf
  have hm := funcAt_mem f0 f1
  have hi := instr_ok (mayB_instr hp hm (List.mem_of_getElem? hf))
  have hl := (List.getElem?_eq_some_iff.1 hf).1
  exact ⟨hi.1, fun e => by have := hi.2.1 e; omega, hi.2.2.1, hi.2.2.2, f2, by omega⟩
theorem lastFr_jump {t : TV} {pc : Int} (h : 0 < t.frames.length) : lastFr (jumpT t pc) = { lastFr t with pc := pc } := by
  unfold jumpT setLast
  generalize lastFr t = f
  unfold lastFr
  rw [List.getLastD_eq_getLast?, List.getLast?_eq_getElem?, List.length_set, List.getElem?_set_self (by omega)]
  rfl
theorem jump_may {p : PV} {t : TV} {i : IV} (hp : mayB p = true) (ht : mayT p t = true) (hs : t.state ≠ 9) (hf : fetchT p t = some i) : mayT p (jumpT t ((lastFr t).pc + 1)) = true := by
  obtain ⟨_, _, _, _, h0, h1⟩ := fetch_ok hp ht hs hf
  exact mayT_jump ht hs (by omega) h1
theorem deed_after {p : PV} {t u : TV} {i : IV} (hp : mayB p = true) (hu : mayT p u = true) (hs : u.state = t.state) (h9 : t.state ≠ 9) (hop : 0 ≤ i.op ∧ i.op ≤ 26) (h78 : i.op = 7 ∨ i.op = 8 → 0 ≤ i.a ∧ i.a ≤ (funcAt p (lastFr u).func).code.length) (hc : i.op = 9 → 0 ≤ i.a ∧ i.a < p.funcs.length) : After p t (deedV p u i) := by
  have hus : u.state ≠ 9 := by rw [hs]; exact h9
  have hpl := frames_pos hu hus
  unfold deedV
  by_cases e : i.op = 0
  · rw [if_pos e]
    exact pushV_after _ hu hs h9
  rw [if_neg e]
  have e0 := e
  clear e
  by_cases e : i.op = 1
  · rw [if_pos e]
    exact popV_after hu hs h9 fun h => .of h hs
  rw [if_neg e]
  have e1 := e
  clear e
  by_cases e : i.op = 2
  · rw [if_pos e]
    refine popV_after hu hs h9 fun h => pushV_after _ ?_ hs h9
    refine mayT_push h hus ?_
    have := (lenT_may hu).2
    rcases Nat.eq_zero_or_pos u.stack.length with h0 | h0
    · simp [popT, h0]
    · simp [popT]; omega
  rw [if_neg e]
  have e2 := e
  clear e
  by_cases e : i.op = 3
  · rw [if_pos e]
    exact popV_after hu hs h9 fun h => popV_after h hs h9 fun h2 => pushV_after _ h2 hs h9
  rw [if_neg e]
  have e3 := e
  clear e
  by_cases e : i.op = 4
  · rw [if_pos e]
    exact popV_after hu hs h9 fun h => popV_after h hs h9 fun h2 => pushV_after _ h2 hs h9
  rw [if_neg e]
  have e4 := e
  clear e
  by_cases e : i.op = 5
  · rw [if_pos e]
    exact pushV_after _ hu hs h9
  rw [if_neg e]
  have e5 := e
  clear e
  by_cases e : i.op = 6
  · rw [if_pos e]
    exact popV_after hu hs h9 fun h => .of (mayT_set h hus) hs
  rw [if_neg e]
  have e6 := e
  clear e
  by_cases e : i.op = 7
  · rw [if_pos e]
    exact .of (mayT_jump hu hus (h78 (.inl e)).1 (h78 (.inl e)).2) hs
  rw [if_neg e]
  have e7 := e
  clear e
  by_cases e : i.op = 8
  · rw [if_pos e]
    refine popV_after hu hs h9 fun h => ?_
    by_cases hz : topT u = 0
    · rw [if_pos hz]
      exact .of (mayT_jump (t := popT u) h hus (h78 (.inr e)).1 (h78 (.inr e)).2) hs
    · rw [if_neg hz]
      exact .of h hs
  rw [if_neg e]
  have e8 := e
  clear e
  by_cases e : i.op = 9
  · rw [if_pos e]
    by_cases h8 : u.frames.length < 8
    · rw [if_pos h8]; exact .of (mayT_enter (mayB_few hp).1 (hc e).1 (hc e).2 hu hus h8) hs
    · rw [if_neg h8]; exact .ends 3 (by decide)
  rw [if_neg e]
  have e9 := e
  clear e
  by_cases e : i.op = 10
  · rw [if_pos e]
    by_cases h1 : 1 < u.frames.length
    · rw [if_pos h1]; exact .of (mayT_leave hu hus h1) hs
    · rw [if_neg h1]; exact .ends 0 (by decide)
  rw [if_neg e]
  have e10 := e
  clear e
  by_cases e : i.op = 26
  · rw [if_pos e]
    exact .ends 0 (by decide)
  rw [if_neg e]
  have e26 := e
  clear e
  have hkv : 2 ≤ kindV i.op := by
    have hc : i.op = 11 ∨ i.op = 12 ∨ i.op = 13 ∨ i.op = 14 ∨ i.op = 15 ∨ i.op = 16 ∨ i.op = 17 ∨ i.op = 18 ∨ i.op = 19 ∨ i.op = 20 ∨ i.op = 21 ∨ i.op = 22 ∨ i.op = 23 ∨ i.op = 24 ∨ i.op = 25 := by omega
    rcases hc with e | e | e | e | e | e | e | e | e | e | e | e | e | e | e <;> rw [e] <;> decide
  by_cases e : i.op = 13 ∨ i.op = 14 ∨ i.op = 22 ∨ i.op = 25
  · rw [if_pos e]
    exact popV_after hu hs h9 fun h => .inr ⟨show kindV i.op ≠ 1 by omega, h, hs, fun e => absurd (show kindV i.op = 0 from e) (by omega)⟩
  · rw [if_neg e]
    exact .inr ⟨show kindV i.op ≠ 1 by omega, hu, hs, fun e => absurd (show kindV i.op = 0 from e) (by omega)⟩
theorem step_after {p : PV} {t : TV} (hp : mayB p = true) (ht : mayT p t = true) (hs : t.state ≠ 9) : After p t (stepV p t) := by
  unfold stepV
  split
  · exact .ends 6 (by decide)
  · rename_i i hf
    obtain ⟨h1, h2, h3, h4, h5⟩ := fetch_ok hp ht hs hf
    refine deed_after hp (jump_may hp ht hs hf) rfl hs h1 (fun e => ?_) h4
    rw [lastFr_jump (frames_pos ht hs)]
    exact h3 e
theorem step_dok {p : PV} {t : TV} {i : IV} (hp : mayB p = true) (ht : mayT p t = true) (hs : t.state ≠ 9) (hf : fetchT p t = some i) : DOk p (jumpT t ((lastFr t).pc + 1)) i := by
  have hj := jump_may hp ht hs hf
  obtain ⟨h1, h2, h3, h4, h5⟩ := fetch_ok hp ht hs hf
  have hlen := lenT_may hj
  have hpos := frames_pos hj hs
  have hk : keptB (jumpT t ((lastFr t).pc + 1)).stack = true := ((mayT_iff p (jumpT t ((lastFr t).pc + 1)) hs).1 hj).2.2.2.2.2.2.1
  have hb : ∀ (l : List Int), keptB l = true → ∀ n, -1073741824 ≤ l.getD n 0 ∧ l.getD n 0 ≤ 1073741824 := fun l hl n => by
    rw [List.getD_eq_getElem?_getD]
    cases hn : l[n]? with
    | none => simp
    | some x =>
      have := List.all_eq_true.1 hl x (List.mem_of_getElem? hn)
      unfold isKept at this
      simpa using this
  refine ⟨lensT_may (mayB_few hp).1 hj, by omega, hlen.2, hb _ hk _, hb _ (keptB_takeN _ hk) _, fun e => ?_, h4, (mayB_few hp).1, by have := (mayB_few hp).2.1; omega⟩
  rw [lastFr_jump (frames_pos ht hs)]
  have := h2 e
  refine ⟨this.1, this.2, ?_⟩
  obtain ⟨f0, f1, f2, f3, f4, _⟩ := (frB_iff _ _).1 (lastFr_ok ht hs)
  have h8 := (mayB_few hp).1 _ (funcAt_mem f0 f1)
  show (lastFr t).locals.length ≤ 1000000
  omega
end Plain
end Go.Proofs.Ytkciedcfphhenaa

/-
  Fetch of the program.
-/
set_option linter.unusedVariables false
set_option linter.unusedSimpArgs false
namespace Go.Proofs.Ytkciedcfphhenaa
open Go.RowKit Plain

set_option maxHeartbeats 4000000 in
set_option maxRecDepth 100000 in
theorem fetch_any (h : PH) (p : PV) (ht : TH) (t : TV) (w : World) (B : Nat) (D : Nat → Prop) (hrp : RP w B h p) (hB : B ≤ w.heap.size) (hln : Lens p) (hr : RT w D ht t) (hm : 1 ≤ t.frames.length ∧ t.frames.length ≤ 1000000) (hfit : (-9223372036854775808 ≤ (lastFr t).func ∧ (lastFr t).func ≤ 9223372036854775807) ∧ (-9223372036854775808 ≤ (lastFr t).pc ∧ (lastFr t).pc ≤ 9223372036854775807)) :
    Calls Try.prog 52 #[.agg #[.slice h.fA p.funcs.length h.fc, .int .i64 p.mutexes, .slice h.cA p.conds.length h.cc, .slice h.sA p.semas.length h.sc, .slice h.hA p.chans.length h.hc, .slice h.xA p.choices.length h.xc, .int .i64 p.threads], .agg #[.int .i64 t.state, .int .i64 t.on, .slice ht.fA t.frames.length ht.fc, .slice ht.sA t.stack.length ht.sc, .int .i64 t.code]] w fun e w' => e = .returned (atV (atP p (lastFr t).func (lastFr t).pc)) ∧ Below w.heap.size w w' := by
  obtain ⟨k, hk, hkl⟩ := lastFr_ex hm.1
  have hrg := hr.frames.rg
  obtain ⟨ad, y, hEA, hab, hy, y0, y1, _, _⟩ := hrg.at_ (k := k) (by omega)
  have hsp : ad.spot = none := by obtain ⟨ts, _, _, _, h4, _⟩ := hrg; rw [hEA] at h4; exact h4.spot (by omega) (by omega)
  have hyl : y.f = lastFr t := by rw [hy] at hkl; injection hkl
  obtain ⟨bA, oA, pA⟩ := ad
  simp only at hEA hsp hab
  subst hsp
  have had : ((⟨bA, oA, none⟩ : Addr).add (k * 3)) = ⟨bA, oA + k * 3, none⟩ := by unfold Addr.add; by_cases h0 : k * 3 = 0 <;> simp [h0]
  rw [had] at y0 y1
  simp only at y1
  have hk6 : k < 1000000 := by omega
  obtain ⟨a1, c1, s1, d1⟩ := ht
  simp only at hEA
  subst hEA
  rw [← hyl] at hfit ⊢
  have hat := fun X (hX : Below w.heap.size w X) => at_any h p X B (hrp.below (hX.mono hB)) (Nat.le_trans hB hX.size) hln y.f.func y.f.pc hfit.1 hfit.2
  obtain ⟨fA, fc, cA, cc, sA, sc, hA, hc, xA, xc⟩ := h
  simp only [hk]
  have hb0 : Blk (((w.alloc (.cells #[.slice fA p.funcs.length fc, .int .i64 p.mutexes, .slice cA p.conds.length cc, .slice sA p.semas.length sc, .slice hA p.chans.length hc, .slice xA p.choices.length xc, .int .i64 p.threads] 26)).alloc (.cells #[.int .i64 t.state, .int .i64 t.on, .slice (some ⟨bA, oA, none⟩) (k + 1) c1, .slice s1 t.stack.length d1, .int .i64 t.code] 29)).alloc (.cells #[.int .i64 0, .int .i64 0] 57)) w.heap.size 26 #[.slice fA p.funcs.length fc, .int .i64 p.mutexes, .slice cA p.conds.length cc, .slice sA p.semas.length sc, .slice hA p.chans.length hc, .slice xA p.choices.length xc, .int .i64 p.threads] ∧ Blk (((w.alloc (.cells #[.slice fA p.funcs.length fc, .int .i64 p.mutexes, .slice cA p.conds.length cc, .slice sA p.semas.length sc, .slice hA p.chans.length hc, .slice xA p.choices.length xc, .int .i64 p.threads] 26)).alloc (.cells #[.int .i64 t.state, .int .i64 t.on, .slice (some ⟨bA, oA, none⟩) (k + 1) c1, .slice s1 t.stack.length d1, .int .i64 t.code] 29)).alloc (.cells #[.int .i64 0, .int .i64 0] 57)) (w.heap.size + 1 + 1) 57 #[.int .i64 0, .int .i64 0] ∧ Below w.heap.size w (((w.alloc (.cells #[.slice fA p.funcs.length fc, .int .i64 p.mutexes, .slice cA p.conds.length cc, .slice sA p.semas.length sc, .slice hA p.chans.length hc, .slice xA p.choices.length xc, .int .i64 p.threads] 26)).alloc (.cells #[.int .i64 t.state, .int .i64 t.on, .slice (some ⟨bA, oA, none⟩) (k + 1) c1, .slice s1 t.stack.length d1, .int .i64 t.code] 29)).alloc (.cells #[.int .i64 0, .int .i64 0] 57)) :=
    ⟨((Blk.new w _ _).alloc _).alloc _, by have h9 := Blk.new ((w.alloc (.cells #[.slice fA p.funcs.length fc, .int .i64 p.mutexes, .slice cA p.conds.length cc, .slice sA p.semas.length sc, .slice hA p.chans.length hc, .slice xA p.choices.length xc, .int .i64 p.threads] 26)).alloc (.cells #[.int .i64 t.state, .int .i64 t.on, .slice (some ⟨bA, oA, none⟩) (k + 1) c1, .slice s1 t.stack.length d1, .int .i64 t.code] 29)) 57 #[.int .i64 0, .int .i64 0]; simpa using h9, (((Below.refl _ _).alloc (Nat.le_refl _) _).alloc (by simp) _).alloc (by simp; omega) _⟩
  have HB0 := Lib.hid hb0; have HY := Lib.hid (And.intro y0 y1)
  clear hrp hln hr hm hk hkl hrg hy hyl had hb0 y0 y1 hfit
  generalize atP p y.f.func y.f.pc = x at *
  cases x with
  | none =>
    have HAT := Lib.hid hat
    clear hat
    simp only [atV] at HAT ⊢
    go_enter Try.func52, Try.ntmps52
    go_wp2_with fail
    refine (last_any ⟨bA, oA, none⟩ rfl t.state t.on t.code k c1 hk6 s1 t.stack.length d1 _).mono ?_
    rintro e w1 ⟨rfl, hb⟩
    have hbp := HB0.out.1.below hb HB0.out.1.lt
    have hbr := HB0.out.2.1.below hb HB0.out.2.1.lt
    have hbel := HB0.out.2.2.trans (hb.mono HB0.out.2.2.size)
    have f0 := (hbel.cell (p := ⟨bA, oA + k * 3, none⟩) hab).trans HY.out.1
    have f1 := (hbel.cell (p := ⟨bA, oA + k * 3 + 1, none⟩) hab).trans HY.out.2
    have HAT1 := Lib.hid (HAT.out w1.drew hbel.drew)
    have HBP := Lib.hid hbp; have HBR := Lib.hid hbr; have HBL := Lib.hid hbel
    have p0 : w1.cell? ⟨w.heap.size, 0, none⟩ = some (.slice fA p.funcs.length fc) := (hbp.cell 0).trans rfl
    have p1 : w1.cell? ⟨w.heap.size, 1, none⟩ = some (.int .i64 p.mutexes) := (hbp.cell 1).trans rfl
    have p2 : w1.cell? ⟨w.heap.size, 2, none⟩ = some (.slice cA p.conds.length cc) := (hbp.cell 2).trans rfl
    have p3 : w1.cell? ⟨w.heap.size, 3, none⟩ = some (.slice sA p.semas.length sc) := (hbp.cell 3).trans rfl
    have p4 : w1.cell? ⟨w.heap.size, 4, none⟩ = some (.slice hA p.chans.length hc) := (hbp.cell 4).trans rfl
    have p5 : w1.cell? ⟨w.heap.size, 5, none⟩ = some (.slice xA p.choices.length xc) := (hbp.cell 5).trans rfl
    have p6 : w1.cell? ⟨w.heap.size, 6, none⟩ = some (.int .i64 p.threads) := (hbp.cell 6).trans rfl
    have r0 : w1.cell? ⟨w.heap.size + 1 + 1, 0, none⟩ = some (.int .i64 0) := (hbr.cell 0).trans rfl
    have z0 : w1.frozen? ⟨w.heap.size + 1 + 1, 0, none⟩ = false := hbr.frozen 0
    have r1 : w1.cell? ⟨w.heap.size + 1 + 1, 1, none⟩ = some (.int .i64 0) := (hbr.cell 1).trans rfl
    have z1 : w1.frozen? ⟨w.heap.size + 1 + 1, 1, none⟩ = false := hbr.frozen 1
    have hlp := hbp.lt
    have hlr := hbr.lt
    clear hb hbp hbr hbel HAT HB0 HY
    go_upto_region 4 with fail
    go_region_law (go_simp; with_reducible refine HAT1.out.mono ?_
                   rintro e w2 ⟨rfl, hb⟩
                   have hbw : Below w1.heap.size w1 w2 := ((Below.refl _ _).drew).trans hb
                   have hr2 := HBR.out.below hbw HBR.out.lt
                   have HB := Lib.hid hbw; have HR2 := Lib.hid hr2
                   clear hb hbw
                   have r0 : w2.cell? ⟨w.heap.size + 1 + 1, 0, none⟩ = some (.int .i64 0) := (hr2.cell 0).trans rfl
                   have z0 : w2.frozen? ⟨w.heap.size + 1 + 1, 0, none⟩ = false := hr2.frozen 0
                   have r1 : w2.cell? ⟨w.heap.size + 1 + 1, 1, none⟩ = some (.int .i64 0) := (hr2.cell 1).trans rfl
                   have z1 : w2.frozen? ⟨w.heap.size + 1 + 1, 1, none⟩ = false := hr2.frozen 1
                   have hlr2 := hr2.lt
                   clear hr2)
    all_goals
      go_wp2_with fail
      have hf := ((Fr.refl (fun i => i = w.heap.size + 1 + 1) w2).setCell (p := ⟨w.heap.size + 1 + 1, 0, none⟩) (.inl rfl) (.int .i64 0)).setCell (p := ⟨w.heap.size + 1 + 1, 1, none⟩) (.inl rfl) (.int .i64 0)
      refine bodyPost_ret (v := .tuple #[.agg #[.int .i64 0, .int .i64 0], .bool false]) (results_cell_slot rfl _ _ (w.heap.size + 1 + 1) 57 _ (0, 0) _ _ rfl rfl ((HR2.out.set_ 0 (.int .i64 0)).set_ 1 (.int .i64 0)) Try.underlying57 rfl (by kernel_rfl)) rfl ?_
      have hbz := HBL.out.trans (HB.out.mono HBL.out.size)
      exact ⟨rfl, hbz.trans (hf.below hbz.size (fun i hi => by omega))⟩
  | some i =>
    have HAT := Lib.hid hat
    clear hat
    simp only [atV] at HAT ⊢
    go_enter Try.func52, Try.ntmps52
    go_wp2_with fail
    refine (last_any ⟨bA, oA, none⟩ rfl t.state t.on t.code k c1 hk6 s1 t.stack.length d1 _).mono ?_
    rintro e w1 ⟨rfl, hb⟩
    have hbp := HB0.out.1.below hb HB0.out.1.lt
    have hbr := HB0.out.2.1.below hb HB0.out.2.1.lt
    have hbel := HB0.out.2.2.trans (hb.mono HB0.out.2.2.size)
    have f0 := (hbel.cell (p := ⟨bA, oA + k * 3, none⟩) hab).trans HY.out.1
    have f1 := (hbel.cell (p := ⟨bA, oA + k * 3 + 1, none⟩) hab).trans HY.out.2
    have HAT1 := Lib.hid (HAT.out w1.drew hbel.drew)
    have HBP := Lib.hid hbp; have HBR := Lib.hid hbr; have HBL := Lib.hid hbel
    have p0 : w1.cell? ⟨w.heap.size, 0, none⟩ = some (.slice fA p.funcs.length fc) := (hbp.cell 0).trans rfl
    have p1 : w1.cell? ⟨w.heap.size, 1, none⟩ = some (.int .i64 p.mutexes) := (hbp.cell 1).trans rfl
    have p2 : w1.cell? ⟨w.heap.size, 2, none⟩ = some (.slice cA p.conds.length cc) := (hbp.cell 2).trans rfl
    have p3 : w1.cell? ⟨w.heap.size, 3, none⟩ = some (.slice sA p.semas.length sc) := (hbp.cell 3).trans rfl
    have p4 : w1.cell? ⟨w.heap.size, 4, none⟩ = some (.slice hA p.chans.length hc) := (hbp.cell 4).trans rfl
    have p5 : w1.cell? ⟨w.heap.size, 5, none⟩ = some (.slice xA p.choices.length xc) := (hbp.cell 5).trans rfl
    have p6 : w1.cell? ⟨w.heap.size, 6, none⟩ = some (.int .i64 p.threads) := (hbp.cell 6).trans rfl
    have r0 : w1.cell? ⟨w.heap.size + 1 + 1, 0, none⟩ = some (.int .i64 0) := (hbr.cell 0).trans rfl
    have z0 : w1.frozen? ⟨w.heap.size + 1 + 1, 0, none⟩ = false := hbr.frozen 0
    have r1 : w1.cell? ⟨w.heap.size + 1 + 1, 1, none⟩ = some (.int .i64 0) := (hbr.cell 1).trans rfl
    have z1 : w1.frozen? ⟨w.heap.size + 1 + 1, 1, none⟩ = false := hbr.frozen 1
    have hlp := hbp.lt
    have hlr := hbr.lt
    clear hb hbp hbr hbel HAT HB0 HY
    go_upto_region 4 with fail
    go_region_law (go_simp; with_reducible refine HAT1.out.mono ?_
                   rintro e w2 ⟨rfl, hb⟩
                   have hbw : Below w1.heap.size w1 w2 := ((Below.refl _ _).drew).trans hb
                   have hr2 := HBR.out.below hbw HBR.out.lt
                   have HB := Lib.hid hbw; have HR2 := Lib.hid hr2
                   clear hb hbw
                   have r0 : w2.cell? ⟨w.heap.size + 1 + 1, 0, none⟩ = some (.int .i64 0) := (hr2.cell 0).trans rfl
                   have z0 : w2.frozen? ⟨w.heap.size + 1 + 1, 0, none⟩ = false := hr2.frozen 0
                   have r1 : w2.cell? ⟨w.heap.size + 1 + 1, 1, none⟩ = some (.int .i64 0) := (hr2.cell 1).trans rfl
                   have z1 : w2.frozen? ⟨w.heap.size + 1 + 1, 1, none⟩ = false := hr2.frozen 1
                   have hlr2 := hr2.lt
                   clear hr2)
    all_goals
      go_wp2_with fail
      have hf := ((Fr.refl (fun i => i = w.heap.size + 1 + 1) w2).setCell (p := ⟨w.heap.size + 1 + 1, 0, none⟩) (.inl rfl) (.int .i64 i.op)).setCell (p := ⟨w.heap.size + 1 + 1, 1, none⟩) (.inl rfl) (.int .i64 i.a)
      refine bodyPost_ret (v := .tuple #[.agg #[.int .i64 i.op, .int .i64 i.a], .bool true]) (results_cell_slot rfl _ _ (w.heap.size + 1 + 1) 57 _ (0, 0) _ _ rfl rfl ((HR2.out.set_ 0 (.int .i64 i.op)).set_ 1 (.int .i64 i.a)) Try.underlying57 rfl (by kernel_rfl)) rfl ?_
      have hbz := HBL.out.trans (HB.out.mono HBL.out.size)
      exact ⟨rfl, hbz.trans (hf.below hbz.size (fun i hi => by omega))⟩
end Go.Proofs.Ytkciedcfphhenaa

/-
  The step of the program.
-/
set_option linter.unusedVariables false
set_option linter.unusedSimpArgs false
namespace Go.Proofs.Ytkciedcfphhenaa
open Go.RowKit Plain

theorem atP_fetch {p : PV} {t : TV} (h0 : 0 ≤ (lastFr t).func ∧ (lastFr t).func < p.funcs.length) (h1 : 0 ≤ (lastFr t).pc) : atP p (lastFr t).func (lastFr t).pc = fetchT p t := by
  unfold atP fetchT
  rw [if_neg (by omega)]
  have hk : (lastFr t).func.toNat < p.funcs.length := by omega
  rw [List.getElem?_eq_getElem hk]
  unfold funcAt
  rw [List.getD_eq_getElem?_getD, List.getElem?_eq_getElem hk]
  rfl
theorem stepV_none {p : PV} {t : TV} (h : fetchT p t = none) : stepV p t = endV 6 := by unfold stepV; rw [h]
theorem stepV_some {p : PV} {t : TV} {i : IV} (h : fetchT p t = some i) : stepV p t = deedV p (jumpT t ((lastFr t).pc + 1)) i := by unfold stepV; rw [h]

def FCut (W : World) (op a : Int) (b : Bool) (s4 s5 : Value) (wx : World) : Prop :=
  ∃ bb, s4 = .pointer (some ⟨bb, 0, none⟩) ∧ s5 = .bool b ∧ W.heap.size ≤ bb ∧ Blk wx bb 57 #[.int .i64 op, .int .i64 a] ∧ Below W.heap.size W wx

set_option maxHeartbeats 8000000 in
set_option maxRecDepth 100000 in
theorem step_any (h : PH) (p : PV) (ht : TH) (t : TV) (a0 : Int) (W : World) (ub B db : Nat) (hu : US W ub B h p ht t a0 q0) (hd : DM W db) (hlt : ub < db) (hp : mayB p = true) (hln : Lens p) (hm : mayT p t = true) (hs : t.state ≠ 9) :
    Calls Try.prog 31 #[.pointer (some ⟨ub, 0, none⟩), .map (some db)] W fun e W' => e = .returned (.tuple #[]) ∧ (∃ (ht' : TH) (a' : Int), US W' ub B h p ht' (stepV p t).1 a' (stepV p t).2) ∧ Fr (fun i => i = ub) W W' := by
  have hpos := frames_pos hm hs
  have hlen := lenT_may hm
  obtain ⟨f0, f1, f2, f3, f4, _⟩ := (frB_iff _ _).1 (lastFr_ok hm hs)
  have hfew := mayB_few hp
  have hfc := hfew.2.2 _ (funcAt_mem f0 f1)
  have hub := hu.bx.lt
  have hdb := hd.mp.lt
  have hlt5 := lensT_may hfew.1 hm
  have hat : atP p (lastFr t).func (lastFr t).pc = fetchT p t := atP_fetch ⟨f0, f1⟩ f2
  have hcon : ∀ X, Below W.heap.size W X → Calls Try.prog 52 #[.agg #[.slice h.fA p.funcs.length h.fc, .int .i64 p.mutexes, .slice h.cA p.conds.length h.cc, .slice h.sA p.semas.length h.sc, .slice h.hA p.chans.length h.hc, .slice h.xA p.choices.length h.xc, .int .i64 p.threads], .agg #[.int .i64 t.state, .int .i64 t.on, .slice ht.fA t.frames.length ht.fc, .slice ht.sA t.stack.length ht.sc, .int .i64 t.code]] X fun e w' => e = .returned (atV (fetchT p t)) ∧ Below X.heap.size X w' := fun X hX =>
    (fetch_any h p ht t X B _ ((hu.below hX).rp) (by have := hu.hB; have := hX.size; omega) hln (hu.below hX).rt (by omega) ⟨by omega, by omega⟩).mono fun e w' hh => ⟨by rw [hh.1, hat], hh.2⟩
  have hS : ∀ X, Below W.heap.size W X → X.cell? ⟨ub, 0, none⟩ = some (.slice h.fA p.funcs.length h.fc) ∧ X.cell? ⟨ub, 1, none⟩ = some (.int .i64 p.mutexes) ∧ X.cell? ⟨ub, 2, none⟩ = some (.slice h.cA p.conds.length h.cc) ∧ X.cell? ⟨ub, 3, none⟩ = some (.slice h.sA p.semas.length h.sc) ∧ X.cell? ⟨ub, 4, none⟩ = some (.slice h.hA p.chans.length h.hc) ∧ X.cell? ⟨ub, 5, none⟩ = some (.slice h.xA p.choices.length h.xc) ∧ X.cell? ⟨ub, 6, none⟩ = some (.int .i64 p.threads) ∧ X.cell? ⟨ub, 7, none⟩ = some (.int .i64 t.state) ∧ X.cell? ⟨ub, 8, none⟩ = some (.int .i64 t.on) ∧ X.cell? ⟨ub, 9, none⟩ = some (.slice ht.fA t.frames.length ht.fc) ∧ X.cell? ⟨ub, 10, none⟩ = some (.slice ht.sA t.stack.length ht.sc) ∧ X.cell? ⟨ub, 11, none⟩ = some (.int .i64 t.code) := fun X hX => by
    have k := (hu.below hX).bx
    exact ⟨(k.cell 0).trans rfl, (k.cell 1).trans rfl, (k.cell 2).trans rfl, (k.cell 3).trans rfl, (k.cell 4).trans rfl, (k.cell 5).trans rfl, (k.cell 6).trans rfl, (k.cell 7).trans rfl, (k.cell 8).trans rfl, (k.cell 9).trans rfl, (k.cell 10).trans rfl, (k.cell 11).trans rfl⟩
  have hSA : ∀ X o, Below W.heap.size W X → (X.alloc o).cell? ⟨ub, 0, none⟩ = some (.slice h.fA p.funcs.length h.fc) ∧ (X.alloc o).cell? ⟨ub, 1, none⟩ = some (.int .i64 p.mutexes) ∧ (X.alloc o).cell? ⟨ub, 2, none⟩ = some (.slice h.cA p.conds.length h.cc) ∧ (X.alloc o).cell? ⟨ub, 3, none⟩ = some (.slice h.sA p.semas.length h.sc) ∧ (X.alloc o).cell? ⟨ub, 4, none⟩ = some (.slice h.hA p.chans.length h.hc) ∧ (X.alloc o).cell? ⟨ub, 5, none⟩ = some (.slice h.xA p.choices.length h.xc) ∧ (X.alloc o).cell? ⟨ub, 6, none⟩ = some (.int .i64 p.threads) ∧ (X.alloc o).cell? ⟨ub, 7, none⟩ = some (.int .i64 t.state) ∧ (X.alloc o).cell? ⟨ub, 8, none⟩ = some (.int .i64 t.on) ∧ (X.alloc o).cell? ⟨ub, 9, none⟩ = some (.slice ht.fA t.frames.length ht.fc) ∧ (X.alloc o).cell? ⟨ub, 10, none⟩ = some (.slice ht.sA t.stack.length ht.sc) ∧ (X.alloc o).cell? ⟨ub, 11, none⟩ = some (.int .i64 t.code) := fun X o hX => hS _ (hX.alloc hX.size o)
  have hba : ∀ o, Below W.heap.size W (W.alloc o) := fun o => (Below.refl _ _).alloc (Nat.le_refl _) o
  have HSA := Lib.hid hSA; have HBA := Lib.hid hba
  clear hSA hba
  have HS := Lib.hid hS; have HU := Lib.hid hu; have HD := Lib.hid hd; have HM := Lib.hid hm; have HL5 := Lib.hid hlt5; have HPO := Lib.hid (And.intro hpos hlen); have HPC := Lib.hid (And.intro f2 f3); have HFC := Lib.hid hfc
  cases hf : fetchT p t with
  | none =>
    rw [hf] at hcon
    have hcon : ∀ X, Below W.heap.size W X → Calls Try.prog 52 #[.agg #[.slice h.fA p.funcs.length h.fc, .int .i64 p.mutexes, .slice h.cA p.conds.length h.cc, .slice h.sA p.semas.length h.sc, .slice h.hA p.chans.length h.hc, .slice h.xA p.choices.length h.xc, .int .i64 p.threads], .agg #[.int .i64 t.state, .int .i64 t.on, .slice ht.fA t.frames.length ht.fc, .slice ht.sA t.stack.length ht.sc, .int .i64 t.code]] X fun e w' => e = .returned (.tuple #[.agg #[.int .i64 0, .int .i64 0], .bool false]) ∧ Below X.heap.size X w' := hcon
    have hv := stepV_none hf
    rw [hv]
    have HCON := Lib.hid hcon
    obtain ⟨s0, s1, s2, s3, s4, s5, s6, s7, s8, s9, s10, s11⟩ := hS W (Below.refl _ _)
    have hbq := Below.refl W.heap.size W
    clear hu hd hln hm hs hpos hlen f0 f1 f2 f3 f4 hfew hfc hlt5 hat hcon hS hf hv
    go_enter Try.func31, Try.ntmps31
    go_upto_region 0 with fail
    go_cut [4, 5] (fun s4 s5 wx => FCut W (0) (0) false s4 s5 wx)
    case first =>
      go_region_held3 (fun w' => w'.cell? ⟨ub, 0, none⟩ = some (.slice h.fA p.funcs.length h.fc) ∧ w'.cell? ⟨ub, 1, none⟩ = some (.int .i64 p.mutexes) ∧ w'.cell? ⟨ub, 2, none⟩ = some (.slice h.cA p.conds.length h.cc) ∧ w'.cell? ⟨ub, 3, none⟩ = some (.slice h.sA p.semas.length h.sc) ∧ w'.cell? ⟨ub, 4, none⟩ = some (.slice h.hA p.chans.length h.hc) ∧ w'.cell? ⟨ub, 5, none⟩ = some (.slice h.xA p.choices.length h.xc) ∧ w'.cell? ⟨ub, 6, none⟩ = some (.int .i64 p.threads) ∧ w'.cell? ⟨ub, 7, none⟩ = some (.int .i64 t.state) ∧ w'.cell? ⟨ub, 8, none⟩ = some (.int .i64 t.on) ∧ w'.cell? ⟨ub, 9, none⟩ = some (.slice ht.fA t.frames.length ht.fc) ∧ w'.cell? ⟨ub, 10, none⟩ = some (.slice ht.sA t.stack.length ht.sc) ∧ w'.cell? ⟨ub, 11, none⟩ = some (.int .i64 t.code))
        (first | (exact HS.out _ (by repeat (first | assumption | exact Below.refl _ _ | refine Below.drew ?_ | refine Below.setCell ?_ (by simp <;> omega) _ | refine Below.alloc ?_ (by have := hbq.size; simp <;> omega) _ | refine Below.alloc ?_ (by simp <;> omega) _))))
        (first
          | (go_simp; go_at_call 52; refine (HCON.out _ (by repeat (first | assumption | exact Below.refl _ _ | refine Below.drew ?_ | refine Below.setCell ?_ (by simp <;> omega) _ | refine Below.alloc ?_ (by have := hbq.size; simp <;> omega) _ | refine Below.alloc ?_ (by simp <;> omega) _))).mono ?_; rintro e w6 ⟨rfl, hb6⟩
             have hbq : Below W.heap.size W w6 := Below.trans (by repeat (first | exact Below.refl _ _ | refine Below.drew ?_ | refine Below.setCell ?_ (by simp <;> omega) _ | refine Below.alloc ?_ (by simp <;> omega) _)) (hb6.mono (by simp <;> omega))
             obtain ⟨hcc, hff⟩ := bcells hb6
             have hzz := hb6.size
             simp at hzz))
      all_goals
        go_wp2_with fail
        go_meet
        refine ⟨_, rfl, rfl, ?_, ?_, ?_⟩
        · first | exact Nat.le_refl _ | exact hbq.size | (simp; omega)
        · first
            | exact Blk.new _ _ _
            | exact Blk.put _ _ _ _ (Blk.put _ _ _ _ (Blk.below (g := W.heap.size) (t := 57) (cs := #[.int .i64 0, .int .i64 0]) (by first | exact Blk.new _ _ _ | exact (Blk.new _ _ _).drew) hb6 (by simp)) 0 (.int .i64 (0)) _ rfl) 1 (.int .i64 (0)) _ rfl
        · exact (by repeat (first | assumption | exact Below.refl _ _ | refine Below.drew ?_ | refine Below.setCell ?_ (by simp <;> omega) _ | refine Below.alloc ?_ (by have := hbq.size; simp <;> omega) _ | refine Below.alloc ?_ (by simp <;> omega) _))
    case rest =>
    obtain ⟨bb, rfl, rfl, hbl, hbk, hbw⟩ := hcut
    have HU7 := Lib.hid (HU.out.below hbw); have HBW := Lib.hid hbw
    clear s0 s1 s2 s3 s4 s5 s6 s7 s8 s9 s10 s11 hbw HU HS HSA HBA HCON hbk
    go_wp2_with fail
    refine (uend_any h p ht t a0 q0 6 _ ub B HU7.out).mono ?_
    rintro e w8 ⟨rfl, ⟨ht', hu8⟩, hf8⟩
    have H8 := Lib.hid hu8; have F8 := Lib.hid hf8
    clear hu8 hf8
    go_wp2_with fail
    refine bodyPost_ret (results_none rfl _ _ _) rfl ?_
    exact ⟨rfl, ⟨ht', a0, H8.out⟩, ((Fr.of_below HBW.out).mono (fun i hi e => by omega)).trans F8.out (fun i _ e => e)⟩
  | some i =>
    rw [hf] at hcon
    have hcon : ∀ X, Below W.heap.size W X → Calls Try.prog 52 #[.agg #[.slice h.fA p.funcs.length h.fc, .int .i64 p.mutexes, .slice h.cA p.conds.length h.cc, .slice h.sA p.semas.length h.sc, .slice h.hA p.chans.length h.hc, .slice h.xA p.choices.length h.xc, .int .i64 p.threads], .agg #[.int .i64 t.state, .int .i64 t.on, .slice ht.fA t.frames.length ht.fc, .slice ht.sA t.stack.length ht.sc, .int .i64 t.code]] X fun e w' => e = .returned (.tuple #[.agg #[.int .i64 i.op, .int .i64 i.a], .bool true]) ∧ Below X.heap.size X w' := hcon
    have hv := stepV_some hf
    rw [hv]
    have hdok := step_dok hp hm hs hf
    obtain ⟨i1, i2, i3, i4, i5⟩ := fetch_ok hp hm hs hf
    have hgo := deed_any p i db i1
    have HCON := Lib.hid hcon; have HDOK := Lib.hid hdok; have HGO := Lib.hid hgo
    obtain ⟨s0, s1, s2, s3, s4, s5, s6, s7, s8, s9, s10, s11⟩ := hS W (Below.refl _ _)
    have hbq := Below.refl W.heap.size W
    clear hu hd hln hm hs hpos hlen f0 f1 f2 f3 f4 hfew hfc hlt5 hat hcon hS hf hv hdok i2 i3 i4 i5 hgo
    obtain ⟨op, a⟩ := i
    simp only at HCON HGO HDOK
    go_enter Try.func31, Try.ntmps31
    go_upto_region 0 with fail
    go_cut [4, 5] (fun s4 s5 wx => FCut W (op) (a) true s4 s5 wx)
    case first =>
      go_region_held3 (fun w' => w'.cell? ⟨ub, 0, none⟩ = some (.slice h.fA p.funcs.length h.fc) ∧ w'.cell? ⟨ub, 1, none⟩ = some (.int .i64 p.mutexes) ∧ w'.cell? ⟨ub, 2, none⟩ = some (.slice h.cA p.conds.length h.cc) ∧ w'.cell? ⟨ub, 3, none⟩ = some (.slice h.sA p.semas.length h.sc) ∧ w'.cell? ⟨ub, 4, none⟩ = some (.slice h.hA p.chans.length h.hc) ∧ w'.cell? ⟨ub, 5, none⟩ = some (.slice h.xA p.choices.length h.xc) ∧ w'.cell? ⟨ub, 6, none⟩ = some (.int .i64 p.threads) ∧ w'.cell? ⟨ub, 7, none⟩ = some (.int .i64 t.state) ∧ w'.cell? ⟨ub, 8, none⟩ = some (.int .i64 t.on) ∧ w'.cell? ⟨ub, 9, none⟩ = some (.slice ht.fA t.frames.length ht.fc) ∧ w'.cell? ⟨ub, 10, none⟩ = some (.slice ht.sA t.stack.length ht.sc) ∧ w'.cell? ⟨ub, 11, none⟩ = some (.int .i64 t.code))
        (first | (exact HS.out _ (by repeat (first | assumption | exact Below.refl _ _ | refine Below.drew ?_ | refine Below.setCell ?_ (by simp <;> omega) _ | refine Below.alloc ?_ (by have := hbq.size; simp <;> omega) _ | refine Below.alloc ?_ (by simp <;> omega) _))))
        (first
          | (go_simp; go_at_call 52; refine (HCON.out _ (by repeat (first | assumption | exact Below.refl _ _ | refine Below.drew ?_ | refine Below.setCell ?_ (by simp <;> omega) _ | refine Below.alloc ?_ (by have := hbq.size; simp <;> omega) _ | refine Below.alloc ?_ (by simp <;> omega) _))).mono ?_; rintro e w6 ⟨rfl, hb6⟩
             have hbq : Below W.heap.size W w6 := Below.trans (by repeat (first | exact Below.refl _ _ | refine Below.drew ?_ | refine Below.setCell ?_ (by simp <;> omega) _ | refine Below.alloc ?_ (by simp <;> omega) _)) (hb6.mono (by simp <;> omega))
             obtain ⟨hcc, hff⟩ := bcells hb6
             have hzz := hb6.size
             simp at hzz))
      all_goals
        go_wp2_with fail
        go_meet
        refine ⟨_, rfl, rfl, ?_, ?_, ?_⟩
        · first | exact Nat.le_refl _ | exact hbq.size | (simp; omega)
        · first
            | exact Blk.new _ _ _
            | exact Blk.put _ _ _ _ (Blk.put _ _ _ _ (Blk.below (g := W.heap.size) (t := 57) (cs := #[.int .i64 0, .int .i64 0]) (by first | exact Blk.new _ _ _ | exact (Blk.new _ _ _).drew) hb6 (by simp)) 0 (.int .i64 (op)) _ rfl) 1 (.int .i64 (a)) _ rfl
        · exact (by repeat (first | assumption | exact Below.refl _ _ | refine Below.drew ?_ | refine Below.setCell ?_ (by simp <;> omega) _ | refine Below.alloc ?_ (by have := hbq.size; simp <;> omega) _ | refine Below.alloc ?_ (by simp <;> omega) _))
    case rest =>
    obtain ⟨bb, rfl, rfl, hbl, hbk, hbw⟩ := hcut
    have hu7 := HU.out.below hbw
    have hd7 := HD.out.below hbw
    have hne : bb ≠ ub := by omega
    have b0 := (hbk.cell 0).trans rfl
    have b1 := (hbk.cell 1).trans rfl
    have u12 := (hu7.bx.cell 12).trans rfl
    have z12 := hu7.bx.frozen 12
    obtain ⟨hsa, hfa⟩ := hu7.setA a
    have hda := hd7.fr hfa hlt
    have hba := hfa.blk hbk hne
    have HUA := Lib.hid hsa; have HFA := Lib.hid hfa; have HDA := Lib.hid hda; have HBB := Lib.hid hba; have HBW := Lib.hid hbw
    clear s0 s1 s2 s3 s4 s5 s6 s7 s8 s9 s10 s11 hbw HU HS HSA HBA HCON hbk hu7 hd7 hsa hfa hda hba HD
    go_upto_region 4 with fail
    obtain ⟨W4, hW4⟩ : ∃ W, W = wc.setCell ⟨ub, 12, none⟩ (.int .i64 a) := ⟨_, rfl⟩
    rw [← hW4] at HUA HFA HDA HBB ⊢
    clear hW4 b0 b1 u12 z12
    go_wp2_with fail
    refine (upass_any h p ht t a q0 W4 ub B HUA.out HL5.out (by have := HPO.out; omega) (by have := HPC.out; have := HFC.out; omega)).mono ?_
    rintro e w5 ⟨rfl, ⟨ht5, hu5⟩, hf5⟩
    have hd5 := HDA.out.fr hf5 hlt
    have hb5 := hf5.blk HBB.out hne
    have b0 := (hb5.cell 0).trans rfl
    obtain ⟨F, caps, hfd, hent, hdeed⟩ := HGO.out
    have hlook := hd5.mp.look (P := Try.prog) Try.underlying72 Try.underlying3 op _ hfd
    have hcall := hdeed h ht5 _ w5 ub B hu5 hd5 hlt HDOK.out
    have HC := Lib.hid hcall; have F5 := Lib.hid hf5
    clear hfd hdeed hcall hu5 hd5 hb5 hf5 HGO HDOK HUA HDA HBB
    go_wp2_with fail
    refine HC.out.mono ?_
    rintro e w8 ⟨rfl, ⟨ht8, hu8⟩, hf8⟩
    have H8 := Lib.hid hu8; have F8 := Lib.hid hf8
    clear hu8 hf8
    go_wp2_with fail
    go_end0
    exact ⟨rfl, ⟨ht8, _, H8.out⟩, ((((Fr.of_below HBW.out).mono (fun i hi e => by omega)).trans HFA.out (fun i _ e => e)).trans F5.out (fun i _ e => e)).trans F8.out (fun i _ e => e)⟩
end Go.Proofs.Ytkciedcfphhenaa

/-
  begin, Step, Tell and Run of the program.
-/
set_option linter.unusedVariables false
set_option linter.unusedSimpArgs false
namespace Go.Proofs.Ytkciedcfphhenaa
open Go.RowKit Plain

section
variable {P : Program}
theorem results_cells2 {fn : Func} {p q : Tmp} {ty ty2 : TypeId} (h : fn.results = #[.cell p ty, .cell q ty2]) (tmps : Array Value) (w : World) (g g2 : Nat) (t t2 : TypeId) (cs cs2 : Array Value) (fr fr2 : Nat × Nat) (d d2 : TypeDesc)
    (hp : tmps.getD p undef = .pointer (some ⟨g, 0, none⟩)) (hq : tmps.getD q undef = .pointer (some ⟨g2, 0, none⟩)) (hg : w.heap[g]? = some (.cells cs t fr)) (hg2 : w.heap[g2]? = some (.cells cs2 t2 fr2))
    (hu : P.underlying ty = some d) (hd : (match d with | .struct _ | .array _ _ => true | _ => false) = true) (hi : (P.info? ty).map (·.size) = some cs.size)
    (hu2 : P.underlying ty2 = some d2) (hd2 : (match d2 with | .struct _ | .array _ _ => true | _ => false) = true) (hi2 : (P.info? ty2).map (·.size) = some cs2.size) :
    (results fn tmps).run P w = .ok (.tuple #[.agg cs, .agg cs2]) w := by
  have hp' : tmps[p]?.getD undef = .pointer (some ⟨g, 0, none⟩) := by simpa using hp
  have hq' : tmps[q]?.getD undef = .pointer (some ⟨g2, 0, none⟩) := by simpa using hq
  simp [results, h, hp', hq', asAddr, run_loadVar_row w g t ty cs fr d hg hu hd hi, run_loadVar_row w g2 t2 ty2 cs2 fr2 d2 hg2 hu2 hd2 hi2]
theorem results_cells2s {fn : Func} {p q r : Tmp} {ty ty2 : TypeId} (h : fn.results = #[.cell p ty, .cell q ty2, .tmp r]) (tmps : Array Value) (w : World) (g g2 : Nat) (t t2 : TypeId) (cs cs2 : Array Value) (fr fr2 : Nat × Nat) (d d2 : TypeDesc) (u : Value)
    (hp : tmps.getD p undef = .pointer (some ⟨g, 0, none⟩)) (hq : tmps.getD q undef = .pointer (some ⟨g2, 0, none⟩)) (hr : tmps.getD r undef = u) (hg : w.heap[g]? = some (.cells cs t fr)) (hg2 : w.heap[g2]? = some (.cells cs2 t2 fr2))
    (hu : P.underlying ty = some d) (hd : (match d with | .struct _ | .array _ _ => true | _ => false) = true) (hi : (P.info? ty).map (·.size) = some cs.size)
    (hu2 : P.underlying ty2 = some d2) (hd2 : (match d2 with | .struct _ | .array _ _ => true | _ => false) = true) (hi2 : (P.info? ty2).map (·.size) = some cs2.size) :
    (results fn tmps).run P w = .ok (.tuple #[.agg cs, .agg cs2, u]) w := by
  have hp' : tmps[p]?.getD undef = .pointer (some ⟨g, 0, none⟩) := by simpa using hp
  have hq' : tmps[q]?.getD undef = .pointer (some ⟨g2, 0, none⟩) := by simpa using hq
  have hr' : tmps[r]?.getD undef = u := by simpa using hr
  simp [results, h, hp', hq', hr', asAddr, run_loadVar_row w g t ty cs fr d hg hu hd hi, run_loadVar_row w g2 t2 ty2 cs2 fr2 d2 hg2 hu2 hd2 hi2]
end

set_option maxHeartbeats 8000000 in
set_option maxRecDepth 100000 in
theorem vbegin_any (h : PH) (p : PV) (ht : TH) (t : TV) (w : World) (B : Nat) (D : Nat → Prop) (hrp : RP w B h p) (hB : B ≤ w.heap.size) (hr : RT w D ht t) (hl : LensT t) :
    Calls Try.prog 30 #[.agg #[.slice h.fA p.funcs.length h.fc, .int .i64 p.mutexes, .slice h.cA p.conds.length h.cc, .slice h.sA p.semas.length h.sc, .slice h.hA p.chans.length h.hc, .slice h.xA p.choices.length h.xc, .int .i64 p.threads], .agg #[.int .i64 t.state, .int .i64 t.on, .slice ht.fA t.frames.length ht.fc, .slice ht.sA t.stack.length ht.sc, .int .i64 t.code]] w fun e w' => ∃ (ub : Nat) (h' : TH), e = .returned (.pointer (some ⟨ub, 0, none⟩)) ∧ US w' ub B h p h' t 0 q0 ∧ w.heap.size ≤ ub ∧ Below w.heap.size w w' := by
  have hb2 : Below w.heap.size w ((w.alloc (.cells #[.slice h.fA p.funcs.length h.fc, .int .i64 p.mutexes, .slice h.cA p.conds.length h.cc, .slice h.sA p.semas.length h.sc, .slice h.hA p.chans.length h.hc, .slice h.xA p.choices.length h.xc, .int .i64 p.threads] 26)).alloc (.cells #[.int .i64 t.state, .int .i64 t.on, .slice ht.fA t.frames.length ht.fc, .slice ht.sA t.stack.length ht.sc, .int .i64 t.code] 29)) := ((Below.refl _ _).alloc (Nat.le_refl _) _).alloc (by simp) _
  have hbp : Blk ((w.alloc (.cells #[.slice h.fA p.funcs.length h.fc, .int .i64 p.mutexes, .slice h.cA p.conds.length h.cc, .slice h.sA p.semas.length h.sc, .slice h.hA p.chans.length h.hc, .slice h.xA p.choices.length h.xc, .int .i64 p.threads] 26)).alloc (.cells #[.int .i64 t.state, .int .i64 t.on, .slice ht.fA t.frames.length ht.fc, .slice ht.sA t.stack.length ht.sc, .int .i64 t.code] 29)) w.heap.size 26 #[.slice h.fA p.funcs.length h.fc, .int .i64 p.mutexes, .slice h.cA p.conds.length h.cc, .slice h.sA p.semas.length h.sc, .slice h.hA p.chans.length h.hc, .slice h.xA p.choices.length h.xc, .int .i64 p.threads] := (Blk.new w _ _).alloc _
  have hbt : Blk ((w.alloc (.cells #[.slice h.fA p.funcs.length h.fc, .int .i64 p.mutexes, .slice h.cA p.conds.length h.cc, .slice h.sA p.semas.length h.sc, .slice h.hA p.chans.length h.hc, .slice h.xA p.choices.length h.xc, .int .i64 p.threads] 26)).alloc (.cells #[.int .i64 t.state, .int .i64 t.on, .slice ht.fA t.frames.length ht.fc, .slice ht.sA t.stack.length ht.sc, .int .i64 t.code] 29)) (w.heap.size + 1) 29 #[.int .i64 t.state, .int .i64 t.on, .slice ht.fA t.frames.length ht.fc, .slice ht.sA t.stack.length ht.sc, .int .i64 t.code] := by simpa using Blk.new (w.alloc (.cells #[.slice h.fA p.funcs.length h.fc, .int .i64 p.mutexes, .slice h.cA p.conds.length h.cc, .slice h.sA p.semas.length h.sc, .slice h.hA p.chans.length h.hc, .slice h.xA p.choices.length h.xc, .int .i64 p.threads] 26)) 29 #[.int .i64 t.state, .int .i64 t.on, .slice ht.fA t.frames.length ht.fc, .slice ht.sA t.stack.length ht.sc, .int .i64 t.code]
  have hz2 : ((w.alloc (.cells #[.slice h.fA p.funcs.length h.fc, .int .i64 p.mutexes, .slice h.cA p.conds.length h.cc, .slice h.sA p.semas.length h.sc, .slice h.hA p.chans.length h.hc, .slice h.xA p.choices.length h.xc, .int .i64 p.threads] 26)).alloc (.cells #[.int .i64 t.state, .int .i64 t.on, .slice ht.fA t.frames.length ht.fc, .slice ht.sA t.stack.length ht.sc, .int .i64 t.code] 29)).heap.size = w.heap.size + 1 + 1 := by simp
  obtain ⟨W2, hW2⟩ : ∃ W, W = ((w.alloc (.cells #[.slice h.fA p.funcs.length h.fc, .int .i64 p.mutexes, .slice h.cA p.conds.length h.cc, .slice h.sA p.semas.length h.sc, .slice h.hA p.chans.length h.hc, .slice h.xA p.choices.length h.xc, .int .i64 p.threads] 26)).alloc (.cells #[.int .i64 t.state, .int .i64 t.on, .slice ht.fA t.frames.length ht.fc, .slice ht.sA t.stack.length ht.sc, .int .i64 t.code] 29)) := ⟨_, rfl⟩
  rw [← hW2] at hb2 hbp hbt hz2
  have hcl : ∀ X, Below W2.heap.size W2 X → Calls Try.prog 49 #[.agg #[.int .i64 t.state, .int .i64 t.on, .slice ht.fA t.frames.length ht.fc, .slice ht.sA t.stack.length ht.sc, .int .i64 t.code]] X fun e w' => ∃ h' : TH, e = .returned (.agg #[.int .i64 t.state, .int .i64 t.on, .slice h'.fA t.frames.length h'.fc, .slice h'.sA t.stack.length h'.sc, .int .i64 t.code]) ∧ RT w' (fun i => W2.heap.size ≤ i) h' t ∧ Below W2.heap.size W2 w' := fun X hX =>
    (clone_any ht t X _ ((hr.below hb2).below (by exact hX.mono (Nat.le_refl _))) hl).mono fun e w' ⟨h', h1, h2, h3⟩ => ⟨h', h1, h2.mono (fun i hi _ => by have := hX.size; omega), hX.trans (h3.mono hX.size)⟩
  have hS : ∀ X, Below W2.heap.size W2 X → X.cell? ⟨w.heap.size, 0, none⟩ = some (.slice h.fA p.funcs.length h.fc) ∧ X.cell? ⟨w.heap.size, 1, none⟩ = some (.int .i64 p.mutexes) ∧ X.cell? ⟨w.heap.size, 2, none⟩ = some (.slice h.cA p.conds.length h.cc) ∧ X.cell? ⟨w.heap.size, 3, none⟩ = some (.slice h.sA p.semas.length h.sc) ∧ X.cell? ⟨w.heap.size, 4, none⟩ = some (.slice h.hA p.chans.length h.hc) ∧ X.cell? ⟨w.heap.size, 5, none⟩ = some (.slice h.xA p.choices.length h.xc) ∧ X.cell? ⟨w.heap.size, 6, none⟩ = some (.int .i64 p.threads) ∧ X.cell? ⟨w.heap.size + 1, 0, none⟩ = some (.int .i64 t.state) ∧ X.cell? ⟨w.heap.size + 1, 1, none⟩ = some (.int .i64 t.on) ∧ X.cell? ⟨w.heap.size + 1, 2, none⟩ = some (.slice ht.fA t.frames.length ht.fc) ∧ X.cell? ⟨w.heap.size + 1, 3, none⟩ = some (.slice ht.sA t.stack.length ht.sc) ∧ X.cell? ⟨w.heap.size + 1, 4, none⟩ = some (.int .i64 t.code) := fun X hX => by
    have k0 := hbp.below hX hbp.lt
    have k1 := hbt.below hX hbt.lt
    exact ⟨(k0.cell 0).trans rfl, (k0.cell 1).trans rfl, (k0.cell 2).trans rfl, (k0.cell 3).trans rfl, (k0.cell 4).trans rfl, (k0.cell 5).trans rfl, (k0.cell 6).trans rfl, (k1.cell 0).trans rfl, (k1.cell 1).trans rfl, (k1.cell 2).trans rfl, (k1.cell 3).trans rfl, (k1.cell 4).trans rfl⟩
  have hrp2 : ∀ X, Below W2.heap.size W2 X → RP X B h p := fun X hX => hrp.below ((hb2.trans (hX.mono (by omega))).mono hB)
  have HS := Lib.hid hS; have HCL := Lib.hid hcl; have HRP := Lib.hid hrp2; have HB2 := Lib.hid hb2; have HW2 := Lib.hid hW2; have HZ2 := Lib.hid hz2
  obtain ⟨s00, s01, s02, s03, s04, s05, s06, s10, s11, s12, s13, s14⟩ := hS W2 (Below.refl _ _)
  have hbq := Below.refl W2.heap.size W2
  clear hrp hr hl hb2 hbp hbt hcl hS hrp2 hW2
  go_enter Try.func30, Try.ntmps30
  go_upto_region 1 with fail
  rw [← HW2.out]
  clear HW2 hz2
  go_region_held3 (fun w' => w'.cell? ⟨w.heap.size, 0, none⟩ = some (.slice h.fA p.funcs.length h.fc) ∧ w'.cell? ⟨w.heap.size, 1, none⟩ = some (.int .i64 p.mutexes) ∧ w'.cell? ⟨w.heap.size, 2, none⟩ = some (.slice h.cA p.conds.length h.cc) ∧ w'.cell? ⟨w.heap.size, 3, none⟩ = some (.slice h.sA p.semas.length h.sc) ∧ w'.cell? ⟨w.heap.size, 4, none⟩ = some (.slice h.hA p.chans.length h.hc) ∧ w'.cell? ⟨w.heap.size, 5, none⟩ = some (.slice h.xA p.choices.length h.xc) ∧ w'.cell? ⟨w.heap.size, 6, none⟩ = some (.int .i64 p.threads) ∧ w'.cell? ⟨w.heap.size + 1, 0, none⟩ = some (.int .i64 t.state) ∧ w'.cell? ⟨w.heap.size + 1, 1, none⟩ = some (.int .i64 t.on) ∧ w'.cell? ⟨w.heap.size + 1, 2, none⟩ = some (.slice ht.fA t.frames.length ht.fc) ∧ w'.cell? ⟨w.heap.size + 1, 3, none⟩ = some (.slice ht.sA t.stack.length ht.sc) ∧ w'.cell? ⟨w.heap.size + 1, 4, none⟩ = some (.int .i64 t.code))
    (first | (exact HS.out _ (by repeat (first | assumption | exact Below.refl _ _ | refine Below.drew ?_ | refine Below.setCell ?_ (by simp <;> omega) _ | refine Below.alloc ?_ (by have := hbq.size; simp <;> omega) _ | refine Below.alloc ?_ (by simp <;> omega) _))))
    (first | (go_simp; go_at_call 49; refine (HCL.out _ (by repeat (first | assumption | exact Below.refl _ _ | refine Below.drew ?_ | refine Below.setCell ?_ (by simp <;> omega) _ | refine Below.alloc ?_ (by have := hbq.size; simp <;> omega) _ | refine Below.alloc ?_ (by simp <;> omega) _))).mono ?_; rintro e w6 ⟨hk, rfl, hrk, hbq⟩))
  all_goals
    have hbx := Blk.new w6 75 #[.slice h.fA p.funcs.length h.fc, .int .i64 p.mutexes, .slice h.cA p.conds.length h.cc, .slice h.sA p.semas.length h.sc, .slice h.hA p.chans.length h.hc, .slice h.xA p.choices.length h.xc, .int .i64 p.threads, .int .i64 t.state, .int .i64 t.on, .slice hk.fA t.frames.length hk.fc, .slice hk.sA t.stack.length hk.sc, .int .i64 t.code, .int .i64 0, .int .i64 0, .int .i64 0, .int .i64 0]
    have hal : Below w6.heap.size w6 (w6.alloc (.cells #[.slice h.fA p.funcs.length h.fc, .int .i64 p.mutexes, .slice h.cA p.conds.length h.cc, .slice h.sA p.semas.length h.sc, .slice h.hA p.chans.length h.hc, .slice h.xA p.choices.length h.xc, .int .i64 p.threads, .int .i64 t.state, .int .i64 t.on, .slice hk.fA t.frames.length hk.fc, .slice hk.sA t.stack.length hk.sc, .int .i64 t.code, .int .i64 0, .int .i64 0, .int .i64 0, .int .i64 0] 75)) := (Below.refl _ _).alloc (Nat.le_refl _) _
    have hus : US (w6.alloc (.cells #[.slice h.fA p.funcs.length h.fc, .int .i64 p.mutexes, .slice h.cA p.conds.length h.cc, .slice h.sA p.semas.length h.sc, .slice h.hA p.chans.length h.hc, .slice h.xA p.choices.length h.xc, .int .i64 p.threads, .int .i64 t.state, .int .i64 t.on, .slice hk.fA t.frames.length hk.fc, .slice hk.sA t.stack.length hk.sc, .int .i64 t.code, .int .i64 0, .int .i64 0, .int .i64 0, .int .i64 0] 75)) w6.heap.size B h p hk t 0 q0 :=
      ⟨hbx, (HRP.out _ hbq).alloc (by have := hbq.size; have := HZ2.out; omega) _, by have := hbq.size; have := HZ2.out; omega, (hrk.mono (E := fun i => B ≤ i ∧ i ≠ w6.heap.size) (fun i hi _ => by have := HZ2.out; omega)).below hal⟩
    have HUS := Lib.hid hus
    have hbl := HB2.out.trans ((hbq.trans (hal.mono hbq.size)).mono HB2.out.size)
    have HBL := Lib.hid hbl
    have hz6 : w.heap.size ≤ w6.heap.size := by have := hbq.size; have := HZ2.out; omega
    clear hbx hal hus hbl s00 s01 s02 s03 s04 s05 s06 s10 s11 s12 s13 s14
    go_wp2_with fail
    go_ret
    exact ⟨_, hk, rfl, HUS.out, hz6, HBL.out⟩

/-- The boxes of a call that steps: the program, the thread, what is told. -/
structure VSt (w wr : World) (h : PH) (p : PV) (ht : TH) (t : TV) (rb : Nat) : Prop where
  pb : Blk wr w.heap.size 26 #[.slice h.fA p.funcs.length h.fc, .int .i64 p.mutexes, .slice h.cA p.conds.length h.cc, .slice h.sA p.semas.length h.sc, .slice h.hA p.chans.length h.hc, .slice h.xA p.choices.length h.xc, .int .i64 p.threads]
  tb : Blk wr (w.heap.size + 1) 29 #[.int .i64 t.state, .int .i64 t.on, .slice ht.fA t.frames.length ht.fc, .slice ht.sA t.stack.length ht.sc, .int .i64 t.code]
  r0 : Blk wr rb 29 #[.int .i64 0, .int .i64 0, .slice none 0 0, .slice none 0 0, .int .i64 0]
  r1 : Blk wr (rb + 1) 34 #[.int .i64 0, .int .i64 0, .int .i64 0]
  bel : Below w.heap.size w wr
theorem VSt.below {w wr X : World} {h : PH} {p : PV} {ht : TH} {t : TV} {rb : Nat} (g : VSt w wr h p ht t rb) (hb : Below wr.heap.size wr X) : VSt w X h p ht t rb :=
  ⟨g.pb.below hb g.pb.lt, g.tb.below hb g.tb.lt, g.r0.below hb g.r0.lt, g.r1.below hb g.r1.lt, g.bel.trans (hb.mono g.bel.size)⟩
theorem VSt.fr {w wr X : World} {h : PH} {p : PV} {ht : TH} {t : TV} {rb ub : Nat} (g : VSt w wr h p ht t rb) (hf : Fr (fun i => i = ub) wr X) (hu : rb + 1 < ub) (hk : w.heap.size + 1 < rb) : VSt w X h p ht t rb :=
  ⟨hf.blk g.pb (by omega), hf.blk g.tb (by omega), hf.blk g.r0 (by omega), hf.blk g.r1 (by omega), g.bel.trans (hf.below g.bel.size (fun i e => by omega))⟩
/-- The results are laid. -/
theorem VSt.fin {w wr : World} {h : PH} {p : PV} {ht : TH} {t : TV} {rb : Nat} (g : VSt w wr h p ht t rb) (hk : w.heap.size + 1 < rb) {ub B : Nat} (hB : rb + 1 < B) (hu : rb + 1 < ub) {hh : PH} {pp : PV} {hx : TH} {x : TV} {a : Int} {q : QV} (us : US wr ub B hh pp hx x a q) {X : World}
    (hX : X = ((((((((wr.setCell ⟨rb, 0, none⟩ (.int .i64 x.state)).setCell ⟨rb, 1, none⟩ (.int .i64 x.on)).setCell ⟨rb, 2, none⟩ (.slice hx.fA x.frames.length hx.fc)).setCell ⟨rb, 3, none⟩ (.slice hx.sA x.stack.length hx.sc)).setCell ⟨rb, 4, none⟩ (.int .i64 x.code)).setCell ⟨rb + 1, 0, none⟩ (.int .i64 q.kind)).setCell ⟨rb + 1, 1, none⟩ (.int .i64 q.a)).setCell ⟨rb + 1, 2, none⟩ (.int .i64 q.v)) ∨
      X = ((((((((wr.setCell ⟨rb + 1, 0, none⟩ (.int .i64 q.kind)).setCell ⟨rb + 1, 1, none⟩ (.int .i64 q.a)).setCell ⟨rb + 1, 2, none⟩ (.int .i64 q.v)).setCell ⟨rb, 0, none⟩ (.int .i64 x.state)).setCell ⟨rb, 1, none⟩ (.int .i64 x.on)).setCell ⟨rb, 2, none⟩ (.slice hx.fA x.frames.length hx.fc)).setCell ⟨rb, 3, none⟩ (.slice hx.sA x.stack.length hx.sc)).setCell ⟨rb, 4, none⟩ (.int .i64 x.code))) :
    Blk X (rb) 29 #[.int .i64 x.state, .int .i64 x.on, .slice hx.fA x.frames.length hx.fc, .slice hx.sA x.stack.length hx.sc, .int .i64 x.code] ∧ Blk X (rb + 1) 34 #[.int .i64 q.kind, .int .i64 q.a, .int .i64 q.v] ∧ RT X (fun i => w.heap.size ≤ i) hx x ∧ Below w.heap.size w X := by
  have e1 : ∀ i, i = rb → ¬ i = rb + 1 := fun i h h' => by omega
  have hfr : Fr (fun i => i = rb ∨ i = rb + 1) wr X := by
    rcases hX with rfl | rfl
    · exact ((((Fr.refl _ wr).set5 (.inl (.inl rfl)) _ _ _ _ _).setCell (.inl (.inr rfl)) _).setCell (.inl (.inr rfl)) _).setCell (.inl (.inr rfl)) _
    · exact ((((Fr.refl _ wr).setCell (.inl (.inr rfl)) _).setCell (.inl (.inr rfl)) _).setCell (.inl (.inr rfl)) _).set5 (.inl (.inl rfl)) _ _ _ _ _
  refine ⟨?_, ?_, (us.rt.keep (fun q hq hl => hfr.cell hl (fun e => by omega))).mono (fun i hi _ => by omega), g.bel.trans (hfr.below g.bel.size (fun i e => by omega))⟩
  · rcases hX with rfl | rfl
    · exact (((Blk.set5 g.r0 _ _ _ _ _).far (by simp) _).far (by simp) _).far (by simp) _
    · exact Blk.set5 (((g.r0.far (by simp) _).far (by simp) _).far (by simp) _) _ _ _ _ _
  · rcases hX with rfl | rfl
    · exact Blk.set3 (Blk.far5 (g := rb + 1) (g' := rb) g.r1 (by omega) _ _ _ _ _) _ _ _
    · exact Blk.far5 (g := rb + 1) (g' := rb) (Blk.set3 g.r1 _ _ _) (by omega) _ _ _ _ _

set_option maxHeartbeats 8000000 in
set_option maxRecDepth 100000 in
theorem vstep_any (h : PH) (p : PV) (ht : TH) (t : TV) (w : World) (B : Nat) (D : Nat → Prop) (hrp : RP w B h p) (hB : B ≤ w.heap.size) (hr : RT w D ht t) (hp : mayB p = true) (hln : Lens p) (hm : mayT p t = true) (hs : t.state ≠ 9) :
    Calls Try.prog 12 #[.agg #[.slice h.fA p.funcs.length h.fc, .int .i64 p.mutexes, .slice h.cA p.conds.length h.cc, .slice h.sA p.semas.length h.sc, .slice h.hA p.chans.length h.hc, .slice h.xA p.choices.length h.xc, .int .i64 p.threads], .agg #[.int .i64 t.state, .int .i64 t.on, .slice ht.fA t.frames.length ht.fc, .slice ht.sA t.stack.length ht.sc, .int .i64 t.code]] w fun e w' => ∃ hx : TH, e = .returned (.tuple #[.agg #[.int .i64 (stepV p t).1.state, .int .i64 (stepV p t).1.on, .slice hx.fA (stepV p t).1.frames.length hx.fc, .slice hx.sA (stepV p t).1.stack.length hx.sc, .int .i64 (stepV p t).1.code], .agg #[.int .i64 (stepV p t).2.kind, .int .i64 (stepV p t).2.a, .int .i64 (stepV p t).2.v]]) ∧ RT w' (fun i => w.heap.size ≤ i) hx (stepV p t).1 ∧ Below w.heap.size w w' := by
  have hl := lensT_may (mayB_few hp).1 hm
  obtain ⟨x, q, hxq⟩ : ∃ x q, stepV p t = (x, q) := ⟨_, _, rfl⟩
  rw [hxq]
  simp only
  have HXQ := Lib.hid hxq
  clear hxq
  obtain ⟨W4, hW4⟩ : ∃ W, W = ((((w.alloc (.cells #[.slice h.fA p.funcs.length h.fc, .int .i64 p.mutexes, .slice h.cA p.conds.length h.cc, .slice h.sA p.semas.length h.sc, .slice h.hA p.chans.length h.hc, .slice h.xA p.choices.length h.xc, .int .i64 p.threads] 26)).alloc (.cells #[.int .i64 t.state, .int .i64 t.on, .slice ht.fA t.frames.length ht.fc, .slice ht.sA t.stack.length ht.sc, .int .i64 t.code] 29)).alloc (.cells #[.int .i64 0, .int .i64 0, .slice none 0 0, .slice none 0 0, .int .i64 0] 29)).alloc (.cells #[.int .i64 0, .int .i64 0, .int .i64 0] 34)) := ⟨_, rfl⟩
  have hsb : VSt w W4 h p ht t (w.heap.size + 1 + 1) := by
    rw [hW4]
    refine ⟨(((Blk.new w _ _).alloc _).alloc _).alloc _, ?_, ?_, ?_, (((((Below.refl _ _).alloc (Nat.le_refl _) _).alloc (by simp) _).alloc (by simp; omega) _).alloc (by simp; omega) _)⟩
    · refine (Blk.alloc ?_ _).alloc _
      simpa using Blk.new (w.alloc (.cells #[.slice h.fA p.funcs.length h.fc, .int .i64 p.mutexes, .slice h.cA p.conds.length h.cc, .slice h.sA p.semas.length h.sc, .slice h.hA p.chans.length h.hc, .slice h.xA p.choices.length h.xc, .int .i64 p.threads] 26)) 29 #[.int .i64 t.state, .int .i64 t.on, .slice ht.fA t.frames.length ht.fc, .slice ht.sA t.stack.length ht.sc, .int .i64 t.code]
    · refine Blk.alloc ?_ _
      simpa using Blk.new ((w.alloc (.cells #[.slice h.fA p.funcs.length h.fc, .int .i64 p.mutexes, .slice h.cA p.conds.length h.cc, .slice h.sA p.semas.length h.sc, .slice h.hA p.chans.length h.hc, .slice h.xA p.choices.length h.xc, .int .i64 p.threads] 26)).alloc (.cells #[.int .i64 t.state, .int .i64 t.on, .slice ht.fA t.frames.length ht.fc, .slice ht.sA t.stack.length ht.sc, .int .i64 t.code] 29)) 29 #[.int .i64 0, .int .i64 0, .slice none 0 0, .slice none 0 0, .int .i64 0]
    · simpa using Blk.new (((w.alloc (.cells #[.slice h.fA p.funcs.length h.fc, .int .i64 p.mutexes, .slice h.cA p.conds.length h.cc, .slice h.sA p.semas.length h.sc, .slice h.hA p.chans.length h.hc, .slice h.xA p.choices.length h.xc, .int .i64 p.threads] 26)).alloc (.cells #[.int .i64 t.state, .int .i64 t.on, .slice ht.fA t.frames.length ht.fc, .slice ht.sA t.stack.length ht.sc, .int .i64 t.code] 29)).alloc (.cells #[.int .i64 0, .int .i64 0, .slice none 0 0, .slice none 0 0, .int .i64 0] 29)) 34 #[.int .i64 0, .int .i64 0, .int .i64 0]
  have hz4 : W4.heap.size = w.heap.size + 1 + 1 + 1 + 1 := by rw [hW4]; simp
  have hbg := vbegin_any h p ht t W4 W4.heap.size D ((hrp.below (hsb.bel.mono hB)).more (by omega)) (Nat.le_refl _) (hr.below hsb.bel) hl
  have p0 := (hsb.pb.cell 0).trans rfl
  have p1 := (hsb.pb.cell 1).trans rfl
  have p2 := (hsb.pb.cell 2).trans rfl
  have p3 := (hsb.pb.cell 3).trans rfl
  have p4 := (hsb.pb.cell 4).trans rfl
  have p5 := (hsb.pb.cell 5).trans rfl
  have p6 := (hsb.pb.cell 6).trans rfl
  have t0 := (hsb.tb.cell 0).trans rfl
  have t1 := (hsb.tb.cell 1).trans rfl
  have t2 := (hsb.tb.cell 2).trans rfl
  have t3 := (hsb.tb.cell 3).trans rfl
  have t4 := (hsb.tb.cell 4).trans rfl
  have HSB := Lib.hid hsb; have HBG := Lib.hid hbg; have HZ := Lib.hid hz4; have HW := Lib.hid hW4; have HM := Lib.hid hm; have HP := Lib.hid hp; have HS9 := Lib.hid hs; have HLN := Lib.hid hln
  clear hrp hr hp hln hm hs hl hsb hz4 hbg hW4
  go_enter Try.func12, Try.ntmps12
  go_upto_region 1 with fail
  rw [← HW.out]
  clear HW
  go_wp2_with fail
  refine HBG.out.mono ?_
  rintro e w1 ⟨ub, h1, rfl, hus, hub, hb1⟩
  have hsb1 := HSB.out.below hb1
  have hubl := hus.bx.lt
  have HUS := Lib.hid hus; have HS1 := Lib.hid hsb1
  clear hus hb1 hsb1 HSB HBG p0 p1 p2 p3 p4 p5 p6 t0 t1 t2 t3 t4
  go_wp2_with fail
  refine (deeds_any w1).mono ?_
  rintro e w2 ⟨rfl, hdi⟩
  have hus2 := HUS.out.below hdi.bel
  have hdm := hdi.dm
  have hsb2 := HS1.out.below hdi.bel
  have HU2 := Lib.hid hus2; have HDM := Lib.hid hdm; have HS2 := Lib.hid hsb2
  clear hus2 hdm hsb2 hdi HUS HS1
  go_wp2_with fail
  refine (step_any h p h1 t 0 w2 ub W4.heap.size w1.heap.size HU2.out HDM.out hubl HP.out HLN.out HM.out HS9.out).mono ?_
  rintro e w3 ⟨rfl, ⟨hx, a', hus3⟩, hf3⟩
  have hsb3 := HS2.out.fr hf3 (by have := HZ.out; omega) (by omega)
  rw [HXQ.out] at hus3
  simp only at hus3
  have HU3 := Lib.hid hus3; have HS3 := Lib.hid hsb3
  have u7 := (hus3.bx.cell 7).trans rfl
  have u8 := (hus3.bx.cell 8).trans rfl
  have u9 := (hus3.bx.cell 9).trans rfl
  have u10 := (hus3.bx.cell 10).trans rfl
  have u11 := (hus3.bx.cell 11).trans rfl
  have u13 := (hus3.bx.cell 13).trans rfl
  have u14 := (hus3.bx.cell 14).trans rfl
  have u15 := (hus3.bx.cell 15).trans rfl
  have r0 := (hsb3.r0.cell 0).trans rfl
  have y0 := hsb3.r0.frozen 0
  have r1 := (hsb3.r0.cell 1).trans rfl
  have y1 := hsb3.r0.frozen 1
  have r2 := (hsb3.r0.cell 2).trans rfl
  have y2 := hsb3.r0.frozen 2
  have r3 := (hsb3.r0.cell 3).trans rfl
  have y3 := hsb3.r0.frozen 3
  have r4 := (hsb3.r0.cell 4).trans rfl
  have y4 := hsb3.r0.frozen 4
  have v0 := (hsb3.r1.cell 0).trans rfl
  have z0 := hsb3.r1.frozen 0
  have v1 := (hsb3.r1.cell 1).trans rfl
  have z1 := hsb3.r1.frozen 1
  have v2 := (hsb3.r1.cell 2).trans rfl
  have z2 := hsb3.r1.frozen 2
  have n0 : ub ≠ w.heap.size + 1 + 1 := by have := HZ.out; omega
  have n1 : ub ≠ w.heap.size + 1 + 1 + 1 := by have := HZ.out; omega
  have n2 := Ne.symm n0
  have n3 := Ne.symm n1
  have n4 : w.heap.size + 1 + 1 ≠ w.heap.size + 1 + 1 + 1 := by omega
  have n5 := Ne.symm n4
  clear hus3 hf3 hsb3 HU2 HDM HS2
  go_upto_region 3 with fail
  go_region
  all_goals
    go_wp2_with fail
    obtain ⟨k0, k1, k2, k3⟩ := HS3.out.fin (by omega) (by have := HZ.out; omega) (by have := HZ.out; omega) HU3.out (.inl rfl)
    refine bodyPost_ret (v := .tuple #[.agg #[.int .i64 x.state, .int .i64 x.on, .slice hx.fA x.frames.length hx.fc, .slice hx.sA x.stack.length hx.sc, .int .i64 x.code], .agg #[.int .i64 q.kind, .int .i64 q.a, .int .i64 q.v]]) (results_cells2 rfl _ _ (w.heap.size + 1 + 1) (w.heap.size + 1 + 1 + 1) 29 34 _ _ (0, 0) (0, 0) _ _ rfl rfl k0.drew k1.drew Try.underlying29 rfl (by kernel_rfl) Try.underlying34 rfl (by kernel_rfl)) rfl ?_
    exact ⟨hx, rfl, k2.below (Below.refl _ _).drew, k3.drew⟩

set_option maxHeartbeats 8000000 in
set_option maxRecDepth 100000 in
theorem vtell_any (ht : TH) (t : TV) (w : World) (D : Nat → Prop) (hr : RT w D ht t) (hl : LensT t) (l : List Int) (A : Option Addr) (n c : Nat) (hri : RI w w.heap.size A n c l) (hn : n ≤ 1000000) :
    Calls Try.prog 18 #[.agg #[.int .i64 t.state, .int .i64 t.on, .slice ht.fA t.frames.length ht.fc, .slice ht.sA t.stack.length ht.sc, .int .i64 t.code], .slice A n c] w fun e w' => ∃ hx : TH, e = .returned (.tuple #[.agg #[.int .i64 (pushAll t l).1.state, .int .i64 (pushAll t l).1.on, .slice hx.fA (pushAll t l).1.frames.length hx.fc, .slice hx.sA (pushAll t l).1.stack.length hx.sc, .int .i64 (pushAll t l).1.code], .bool (pushAll t l).2]) ∧ RT w' (fun i => w.heap.size ≤ i) hx (pushAll t l).1 ∧ Below w.heap.size w w' := by
  obtain ⟨x, b, hxb⟩ : ∃ x b, pushAll t l = (x, b) := ⟨_, _, rfl⟩
  rw [hxb]
  simp only
  obtain ⟨W2, hW2⟩ : ∃ W, W = (w.alloc (.cells #[.int .i64 t.state, .int .i64 t.on, .slice ht.fA t.frames.length ht.fc, .slice ht.sA t.stack.length ht.sc, .int .i64 t.code] 29)).alloc (.cells #[.int .i64 0, .int .i64 0, .slice none 0 0, .slice none 0 0, .int .i64 0] 29) := ⟨_, rfl⟩
  have hb2 : Below w.heap.size w W2 := by rw [hW2]; exact ((Below.refl _ _).alloc (Nat.le_refl _) _).alloc (by simp) _
  have hbt : Blk W2 w.heap.size 29 #[.int .i64 t.state, .int .i64 t.on, .slice ht.fA t.frames.length ht.fc, .slice ht.sA t.stack.length ht.sc, .int .i64 t.code] := by rw [hW2]; exact (Blk.new w _ _).alloc _
  have hbz : Blk W2 (w.heap.size + 1) 29 #[.int .i64 0, .int .i64 0, .slice none 0 0, .slice none 0 0, .int .i64 0] := by rw [hW2]; simpa using Blk.new (w.alloc (.cells #[.int .i64 t.state, .int .i64 t.on, .slice ht.fA t.frames.length ht.fc, .slice ht.sA t.stack.length ht.sc, .int .i64 t.code] 29)) 29 #[.int .i64 0, .int .i64 0, .slice none 0 0, .slice none 0 0, .int .i64 0]
  have hz2 : W2.heap.size = w.heap.size + 1 + 1 := by rw [hW2]; simp
  have hcl := clone_any ht t W2 D (hr.below hb2) hl
  have hri2 : ∀ X, Below W2.heap.size W2 X → RI X X.heap.size A n c l := fun X hX => (hri.keep fun q hq => (hb2.trans (hX.mono (by omega))).cell hq).more (by have := hX.size; omega)
  have t0 := (hbt.cell 0).trans rfl
  have t1 := (hbt.cell 1).trans rfl
  have t2 := (hbt.cell 2).trans rfl
  have t3 := (hbt.cell 3).trans rfl
  have t4 := (hbt.cell 4).trans rfl
  have HCL := Lib.hid hcl; have HRI := Lib.hid hri2; have HB2 := Lib.hid hb2; have HBZ := Lib.hid hbz; have HZ2 := Lib.hid hz2; have HW := Lib.hid hW2; have HXB := Lib.hid hxb
  clear hr hri hb2 hbt hbz hz2 hcl hri2 hW2 hxb
  go_enter Try.func18, Try.ntmps18
  go_upto_region 1 with fail
  rw [← HW.out]
  clear HW
  go_wp2_with fail
  refine HCL.out.mono ?_
  rintro e w1 ⟨h1, rfl, hr1, hb1⟩
  have hp := vpush_any h1 t l A n c w1 _ hr1 hl (HRI.out _ hb1) hn
  rw [HXB.out] at hp
  simp only at hp
  have HP := Lib.hid hp; have HB1 := Lib.hid hb1
  clear hp hr1 hb1 t0 t1 t2 t3 t4
  go_wp2_with fail
  refine HP.out.mono ?_
  rintro e w2 ⟨hx, rfl, hr2, hb2⟩
  have hbz := (HBZ.out.below HB1.out HBZ.out.lt).below hb2 (HBZ.out.below HB1.out HBZ.out.lt).lt
  have hbl := HB2.out.trans ((HB1.out.trans (hb2.mono HB1.out.size)).mono HB2.out.size)
  have r0 := (hbz.cell 0).trans rfl
  have r1 := (hbz.cell 1).trans rfl
  have r2 := (hbz.cell 2).trans rfl
  have r3 := (hbz.cell 3).trans rfl
  have r4 := (hbz.cell 4).trans rfl
  have y0 := hbz.frozen 0
  have y1 := hbz.frozen 1
  have y2 := hbz.frozen 2
  have y3 := hbz.frozen 3
  have y4 := hbz.frozen 4
  have hr3 : RT w2 (fun i => w.heap.size + 1 + 1 ≤ i) hx x := hr2.mono (fun i hi _ => by have := HZ2.out; have := HB1.out.size; rcases hi with hi | hi <;> omega)
  have HR3 := Lib.hid hr3; have HBL := Lib.hid hbl; have HBZ2 := Lib.hid hbz
  have hlt := hbz.lt
  clear hr2 hb2 hbz hbl hr3
  go_wp2_with fail
  have hfr := (Fr.refl (fun i => i = w.heap.size + 1) w2).set5 (g := w.heap.size + 1) (.inl rfl) (.int .i64 x.state) (.int .i64 x.on) (.slice hx.fA x.frames.length hx.fc) (.slice hx.sA x.stack.length hx.sc) (.int .i64 x.code)
  refine bodyPost_ret (v := .tuple #[.agg #[.int .i64 x.state, .int .i64 x.on, .slice hx.fA x.frames.length hx.fc, .slice hx.sA x.stack.length hx.sc, .int .i64 x.code], .bool b]) (results_cell_slot rfl _ _ (w.heap.size + 1) 29 _ (0, 0) _ _ rfl rfl (Blk.set5 HBZ2.out _ _ _ _ _) Try.underlying29 rfl (by kernel_rfl)) rfl ?_
  exact ⟨hx, rfl, (HR3.out.keep fun q hq hl => hfr.cell hl (fun e => by omega)).mono (fun i hi _ => by omega), HBL.out.trans (hfr.below HBL.out.size (fun i e => by omega))⟩

namespace Plain
def addN (k : Nat) (r : TV × QV × Nat) : TV × QV × Nat := (r.1, r.2.1, k + r.2.2)
def runV (p : PV) : Nat → TV → TV × QV × Nat
  | 0, t => (t, q0, 0)
  | m + 1, t => if (stepV p t).2.kind = 0 then addN 1 (runV p m (stepV p t).1) else ((stepV p t).1, (stepV p t).2, 1)
theorem runV_succ (p : PV) (m : Nat) (t : TV) : runV p (m + 1) t = if (stepV p t).2.kind = 0 then addN 1 (runV p m (stepV p t).1) else ((stepV p t).1, (stepV p t).2, 1) := rfl
/-- Where many steps stand. -/
def RunAt (p : PV) (m : Nat) (t : TV) (k : Nat) (tk : TV) (q : QV) : Prop :=
  (q.kind = 0 → q = q0 ∧ mayT p tk = true ∧ tk.state ≠ 9 ∧ runV p m t = addN k (runV p (m - k) tk)) ∧ (q.kind ≠ 0 → runV p m t = (tk, q, k))
theorem RunAt.start {p : PV} {m : Nat} {t : TV} (h : mayT p t = true) (hs : t.state ≠ 9) : RunAt p m t 0 t q0 := ⟨fun _ => ⟨rfl, h, hs, by simp [addN]⟩, fun h => absurd rfl h⟩
theorem RunAt.step {p : PV} {m : Nat} {t : TV} {k : Nat} {tk : TV} {q : QV} (hp : mayB p = true) (g : RunAt p m t k tk q) (hq : q.kind = 0) (hk : k < m) : RunAt p m t (k + 1) (stepV p tk).1 (stepV p tk).2 := by
  obtain ⟨_, hm, hs, hr⟩ := g.1 hq
  obtain ⟨j, hj⟩ : ∃ j, m - k = j + 1 := ⟨m - k - 1, by omega⟩
  have hj' : m - (k + 1) = j := by omega
  rw [hj] at hr
  rw [runV_succ] at hr
  have ha := step_after hp hm hs
  refine ⟨fun h0 => ?_, fun h1 => ?_⟩
  · rw [if_pos h0] at hr
    rcases ha with ⟨c, _, e⟩ | ⟨_, h2, h3, h4⟩
    · rw [e] at h0; exact absurd (show (1 : Int) = 0 from h0) (by decide)
    · refine ⟨h4 h0, h2, by rw [h3]; exact hs, ?_⟩
      rw [hr, hj']
      simp [addN, Nat.add_assoc]
  · rw [if_neg h1] at hr
    rw [hr]
    rfl
theorem RunAt.stop {p : PV} {m : Nat} {t : TV} {k : Nat} {tk : TV} {q : QV} (g : RunAt p m t k tk q) (h : ¬ k < m ∨ q.kind ≠ 0) (hk : k ≤ m) : runV p m t = (tk, q, k) := by
  by_cases hq : q.kind = 0
  · obtain ⟨h0, _, _, hr⟩ := g.1 hq
    have : m - k = 0 := by rcases h with h | h; omega; exact absurd hq h
    rw [hr, this, h0]
    simp [runV, addN]
  · exact g.2 hq
end Plain

set_option maxHeartbeats 8000000 in
set_option maxRecDepth 100000 in
theorem vrun_any (h : PH) (p : PV) (ht : TH) (t : TV) (most : Int) (w : World) (B : Nat) (D : Nat → Prop) (hrp : RP w B h p) (hB : B ≤ w.heap.size) (hr : RT w D ht t) (hp : mayB p = true) (hln : Lens p) (hm : mayT p t = true) (hs : t.state ≠ 9) (hmo : most ≤ 1000000) :
    Calls Try.prog 20 #[.agg #[.slice h.fA p.funcs.length h.fc, .int .i64 p.mutexes, .slice h.cA p.conds.length h.cc, .slice h.sA p.semas.length h.sc, .slice h.hA p.chans.length h.hc, .slice h.xA p.choices.length h.xc, .int .i64 p.threads], .agg #[.int .i64 t.state, .int .i64 t.on, .slice ht.fA t.frames.length ht.fc, .slice ht.sA t.stack.length ht.sc, .int .i64 t.code], .int .i64 most] w fun e w' => ∃ hx : TH, e = .returned (.tuple #[.agg #[.int .i64 (runV p most.toNat t).1.state, .int .i64 (runV p most.toNat t).1.on, .slice hx.fA (runV p most.toNat t).1.frames.length hx.fc, .slice hx.sA (runV p most.toNat t).1.stack.length hx.sc, .int .i64 (runV p most.toNat t).1.code], .agg #[.int .i64 (runV p most.toNat t).2.1.kind, .int .i64 (runV p most.toNat t).2.1.a, .int .i64 (runV p most.toNat t).2.1.v], .int .i64 ((runV p most.toNat t).2.2 : Int)]) ∧ RT w' (fun i => w.heap.size ≤ i) hx (runV p most.toNat t).1 ∧ Below w.heap.size w w' := by
  have hl := lensT_may (mayB_few hp).1 hm
  obtain ⟨m, hmm⟩ : ∃ m, most.toNat = m := ⟨_, rfl⟩
  rw [hmm]
  have hmk : ∀ k : Nat, k < m ↔ (k : Int) < most := fun k => by omega
  have hm6 : m ≤ 1000000 := by omega
  have HMK := Lib.hid hmk
  clear hmm hmk
  obtain ⟨x, q, n, hxq⟩ : ∃ x q n, runV p m t = (x, q, n) := ⟨_, _, _, rfl⟩
  rw [hxq]
  simp only
  have HXQ := Lib.hid hxq
  clear hxq
  obtain ⟨W4, hW4⟩ : ∃ W, W = ((((w.alloc (.cells #[.slice h.fA p.funcs.length h.fc, .int .i64 p.mutexes, .slice h.cA p.conds.length h.cc, .slice h.sA p.semas.length h.sc, .slice h.hA p.chans.length h.hc, .slice h.xA p.choices.length h.xc, .int .i64 p.threads] 26)).alloc (.cells #[.int .i64 t.state, .int .i64 t.on, .slice ht.fA t.frames.length ht.fc, .slice ht.sA t.stack.length ht.sc, .int .i64 t.code] 29)).alloc (.cells #[.int .i64 0, .int .i64 0, .slice none 0 0, .slice none 0 0, .int .i64 0] 29)).alloc (.cells #[.int .i64 0, .int .i64 0, .int .i64 0] 34)) := ⟨_, rfl⟩
  have hsb : VSt w W4 h p ht t (w.heap.size + 1 + 1) := by
    rw [hW4]
    refine ⟨(((Blk.new w _ _).alloc _).alloc _).alloc _, ?_, ?_, ?_, (((((Below.refl _ _).alloc (Nat.le_refl _) _).alloc (by simp) _).alloc (by simp; omega) _).alloc (by simp; omega) _)⟩
    · refine (Blk.alloc ?_ _).alloc _
      simpa using Blk.new (w.alloc (.cells #[.slice h.fA p.funcs.length h.fc, .int .i64 p.mutexes, .slice h.cA p.conds.length h.cc, .slice h.sA p.semas.length h.sc, .slice h.hA p.chans.length h.hc, .slice h.xA p.choices.length h.xc, .int .i64 p.threads] 26)) 29 #[.int .i64 t.state, .int .i64 t.on, .slice ht.fA t.frames.length ht.fc, .slice ht.sA t.stack.length ht.sc, .int .i64 t.code]
    · refine Blk.alloc ?_ _
      simpa using Blk.new ((w.alloc (.cells #[.slice h.fA p.funcs.length h.fc, .int .i64 p.mutexes, .slice h.cA p.conds.length h.cc, .slice h.sA p.semas.length h.sc, .slice h.hA p.chans.length h.hc, .slice h.xA p.choices.length h.xc, .int .i64 p.threads] 26)).alloc (.cells #[.int .i64 t.state, .int .i64 t.on, .slice ht.fA t.frames.length ht.fc, .slice ht.sA t.stack.length ht.sc, .int .i64 t.code] 29)) 29 #[.int .i64 0, .int .i64 0, .slice none 0 0, .slice none 0 0, .int .i64 0]
    · simpa using Blk.new (((w.alloc (.cells #[.slice h.fA p.funcs.length h.fc, .int .i64 p.mutexes, .slice h.cA p.conds.length h.cc, .slice h.sA p.semas.length h.sc, .slice h.hA p.chans.length h.hc, .slice h.xA p.choices.length h.xc, .int .i64 p.threads] 26)).alloc (.cells #[.int .i64 t.state, .int .i64 t.on, .slice ht.fA t.frames.length ht.fc, .slice ht.sA t.stack.length ht.sc, .int .i64 t.code] 29)).alloc (.cells #[.int .i64 0, .int .i64 0, .slice none 0 0, .slice none 0 0, .int .i64 0] 29)) 34 #[.int .i64 0, .int .i64 0, .int .i64 0]
  have hz4 : W4.heap.size = w.heap.size + 1 + 1 + 1 + 1 := by rw [hW4]; simp
  have hbg := vbegin_any h p ht t W4 W4.heap.size D ((hrp.below (hsb.bel.mono hB)).more (by omega)) (Nat.le_refl _) (hr.below hsb.bel) hl
  have hst := RunAt.start (m := m) hm hs
  have p0 := (hsb.pb.cell 0).trans rfl
  have p1 := (hsb.pb.cell 1).trans rfl
  have p2 := (hsb.pb.cell 2).trans rfl
  have p3 := (hsb.pb.cell 3).trans rfl
  have p4 := (hsb.pb.cell 4).trans rfl
  have p5 := (hsb.pb.cell 5).trans rfl
  have p6 := (hsb.pb.cell 6).trans rfl
  have t0 := (hsb.tb.cell 0).trans rfl
  have t1 := (hsb.tb.cell 1).trans rfl
  have t2 := (hsb.tb.cell 2).trans rfl
  have t3 := (hsb.tb.cell 3).trans rfl
  have t4 := (hsb.tb.cell 4).trans rfl
  have HSB := Lib.hid hsb; have HBG := Lib.hid hbg; have HZ := Lib.hid hz4; have HW := Lib.hid hW4; have HP := Lib.hid hp; have HLN := Lib.hid hln; have HST := Lib.hid hst
  clear hrp hr hp hln hm hs hl hsb hz4 hbg hW4 hst
  go_enter Try.func20, Try.ntmps20
  go_upto_region 1 with fail
  rw [← HW.out]
  clear HW
  go_wp2_with fail
  refine HBG.out.mono ?_
  rintro e w1 ⟨ub, h1, rfl, hus, hub, hb1⟩
  have hsb1 := HSB.out.below hb1
  have hubl := hus.bx.lt
  have HUS := Lib.hid hus; have HS1 := Lib.hid hsb1
  clear hus hb1 hsb1 HSB HBG p0 p1 p2 p3 p4 p5 p6 t0 t1 t2 t3 t4
  go_wp2_with fail
  refine (deeds_any w1).mono ?_
  rintro e w2 ⟨rfl, hdi⟩
  have hus2 := HUS.out.below hdi.bel
  have hdm := hdi.dm
  have hsb2 := HS1.out.below hdi.bel
  obtain ⟨db, hdb⟩ : ∃ b, b = w1.heap.size := ⟨_, rfl⟩
  rw [← hdb] at hdm hubl ⊢
  have HU2 := Lib.hid hus2; have HDM := Lib.hid hdm; have HS2 := Lib.hid hsb2
  clear hus2 hdm hsb2 hdi HUS HS1 hdb
  go_wp2_with fail
  go_loopw [11] (fun s wr => ∃ (k : Nat) (hk : TH) (tk : TV) (a : Int) (qk : QV), k ≤ m ∧ s = .int .i64 (k : Int) ∧ VSt w wr h p ht t (w.heap.size + 1 + 1) ∧ US wr ub W4.heap.size h p hk tk a qk ∧ DM wr db ∧ Hid (RunAt p m t k tk qk)) (fun s _ => m - (intOf s).toNat)
  case atStart => exact ⟨0, h1, t, 0, q0, by omega, rfl, HS2.out, HU2.out, HDM.out, HST.out⟩
  case round =>
    obtain ⟨k, hk, tk, a, qk, hkm, rfl, hsb, hus, hdm, hra⟩ := hrel
    have u13 := (hus.bx.cell 13).trans rfl
    have HSB := Lib.hid hsb; have HUS := Lib.hid hus; have HDK := Lib.hid hdm
    by_cases hlt : k < m
    · have hlti := (HMK.out k).1 hlt
      by_cases hq : qk.kind = 0
      · obtain ⟨hq0, hmk, hsk, _⟩ := hra.out.1 hq
        have hnx := hra.out.step HP.out hq hlt
        have HUS0 : Hid (US wr ub W4.heap.size h p hk tk a q0) := by rw [← hq0]; exact HUS.out
        have HNX := Lib.hid hnx; have HMK2 := Lib.hid hmk; have HSK := Lib.hid hsk
        have hqb : (qk.kind == 0) = true := by simpa using hq
        have HQ := Lib.hid hq
        clear hsb hus hdm hnx hmk hsk hq0 hq
        go_wp2_with fail
        refine (step_any h p hk tk a wr ub W4.heap.size db HUS0.out HDK.out hubl HP.out HLN.out HMK2.out HSK.out).mono ?_
        rintro e w3 ⟨rfl, ⟨hx, a', hus3⟩, hf3⟩
        have hsb3 := HSB.out.fr hf3 (by have := HZ.out; omega) (by omega)
        have hdm3 := HDK.out.fr hf3 hubl
        have H1 := Lib.hid hsb3; have H2 := Lib.hid hus3; have H3 := Lib.hid hdm3
        clear hsb3 hus3 hdm3 hf3 u13
        go_wp2_with fail
        exact ⟨⟨k + 1, hx, _, a', _, by omega, by go_num, H1.out, H2.out, H3.out, HNX.out⟩, by simp [intOf]; omega⟩
      · have hfin := hra.out.stop (.inr hq) hkm
        rw [HXQ.out] at hfin
        injection hfin with e1 e2
        injection e2 with e2 e3
        subst e1 e2 e3
        have hqb : (q.kind == 0) = false := by simpa using hq
        clear hq hra
        have hsb3 := hsb
        have hus3 := hus
        have u7 := (hus3.bx.cell 7).trans rfl
        have u8 := (hus3.bx.cell 8).trans rfl
        have u9 := (hus3.bx.cell 9).trans rfl
        have u10 := (hus3.bx.cell 10).trans rfl
        have u11 := (hus3.bx.cell 11).trans rfl
        have u13 := (hus3.bx.cell 13).trans rfl
        have u14 := (hus3.bx.cell 14).trans rfl
        have u15 := (hus3.bx.cell 15).trans rfl
        have r0 := (hsb3.r0.cell 0).trans rfl
        have y0 := hsb3.r0.frozen 0
        have r1 := (hsb3.r0.cell 1).trans rfl
        have y1 := hsb3.r0.frozen 1
        have r2 := (hsb3.r0.cell 2).trans rfl
        have y2 := hsb3.r0.frozen 2
        have r3 := (hsb3.r0.cell 3).trans rfl
        have y3 := hsb3.r0.frozen 3
        have r4 := (hsb3.r0.cell 4).trans rfl
        have y4 := hsb3.r0.frozen 4
        have v0 := (hsb3.r1.cell 0).trans rfl
        have z0 := hsb3.r1.frozen 0
        have v1 := (hsb3.r1.cell 1).trans rfl
        have z1 := hsb3.r1.frozen 1
        have v2 := (hsb3.r1.cell 2).trans rfl
        have z2 := hsb3.r1.frozen 2
        have n0 : ub ≠ w.heap.size + 1 + 1 := by have := HZ.out; omega
        have n1 : ub ≠ w.heap.size + 1 + 1 + 1 := by have := HZ.out; omega
        have n2 := Ne.symm n0
        have n3 := Ne.symm n1
        have n4 : w.heap.size + 1 + 1 ≠ w.heap.size + 1 + 1 + 1 := by omega
        have n5 := Ne.symm n4
        clear hus3 hsb3 hsb hus hdm u13
        go_upto_region 7 with fail
        go_region
        all_goals
          go_wp2_with fail
          obtain ⟨k0, k1, k2, k3⟩ := HSB.out.fin (by omega) (by have := HZ.out; omega) (by have := HZ.out; omega) HUS.out (.inl rfl)
          refine bodyPost_ret (v := .tuple #[.agg #[.int .i64 x.state, .int .i64 x.on, .slice hk.fA x.frames.length hk.fc, .slice hk.sA x.stack.length hk.sc, .int .i64 x.code], .agg #[.int .i64 q.kind, .int .i64 q.a, .int .i64 q.v], .int .i64 (n : Int)]) (results_cells2s rfl _ _ (w.heap.size + 1 + 1) (w.heap.size + 1 + 1 + 1) 29 34 _ _ (0, 0) (0, 0) _ _ _ rfl rfl rfl k0.drew k1.drew Try.underlying29 rfl (by kernel_rfl) Try.underlying34 rfl (by kernel_rfl)) rfl ?_
          exact ⟨hk, rfl, k2.below (Below.refl _ _).drew, k3.drew⟩
    · have hlti : decide ((k : Int) < most) = false := decide_eq_false (fun h => hlt ((HMK.out k).2 h))
      have hfin := hra.out.stop (.inl hlt) hkm
      rw [HXQ.out] at hfin
      injection hfin with e1 e2
      injection e2 with e2 e3
      subst e1 e2 e3
      clear hra
      have hsb3 := hsb
      have hus3 := hus
      have u7 := (hus3.bx.cell 7).trans rfl
      have u8 := (hus3.bx.cell 8).trans rfl
      have u9 := (hus3.bx.cell 9).trans rfl
      have u10 := (hus3.bx.cell 10).trans rfl
      have u11 := (hus3.bx.cell 11).trans rfl
      have u13 := (hus3.bx.cell 13).trans rfl
      have u14 := (hus3.bx.cell 14).trans rfl
      have u15 := (hus3.bx.cell 15).trans rfl
      have r0 := (hsb3.r0.cell 0).trans rfl
      have y0 := hsb3.r0.frozen 0
      have r1 := (hsb3.r0.cell 1).trans rfl
      have y1 := hsb3.r0.frozen 1
      have r2 := (hsb3.r0.cell 2).trans rfl
      have y2 := hsb3.r0.frozen 2
      have r3 := (hsb3.r0.cell 3).trans rfl
      have y3 := hsb3.r0.frozen 3
      have r4 := (hsb3.r0.cell 4).trans rfl
      have y4 := hsb3.r0.frozen 4
      have v0 := (hsb3.r1.cell 0).trans rfl
      have z0 := hsb3.r1.frozen 0
      have v1 := (hsb3.r1.cell 1).trans rfl
      have z1 := hsb3.r1.frozen 1
      have v2 := (hsb3.r1.cell 2).trans rfl
      have z2 := hsb3.r1.frozen 2
      have n0 : ub ≠ w.heap.size + 1 + 1 := by have := HZ.out; omega
      have n1 : ub ≠ w.heap.size + 1 + 1 + 1 := by have := HZ.out; omega
      have n2 := Ne.symm n0
      have n3 := Ne.symm n1
      have n4 : w.heap.size + 1 + 1 ≠ w.heap.size + 1 + 1 + 1 := by omega
      have n5 := Ne.symm n4
      clear hus3 hsb3 hsb hus hdm u13
      go_upto_region 7 with fail
      go_region
      all_goals
        go_wp2_with fail
        obtain ⟨k0, k1, k2, k3⟩ := HSB.out.fin (by omega) (by have := HZ.out; omega) (by have := HZ.out; omega) HUS.out (.inl rfl)
        refine bodyPost_ret (v := .tuple #[.agg #[.int .i64 x.state, .int .i64 x.on, .slice hk.fA x.frames.length hk.fc, .slice hk.sA x.stack.length hk.sc, .int .i64 x.code], .agg #[.int .i64 q.kind, .int .i64 q.a, .int .i64 q.v], .int .i64 (n : Int)]) (results_cells2s rfl _ _ (w.heap.size + 1 + 1) (w.heap.size + 1 + 1 + 1) 29 34 _ _ (0, 0) (0, 0) _ _ _ rfl rfl rfl k0.drew k1.drew Try.underlying29 rfl (by kernel_rfl) Try.underlying34 rfl (by kernel_rfl)) rfl ?_
        exact ⟨hk, rfl, k2.below (Below.refl _ _).drew, k3.drew⟩
end Go.Proofs.Ytkciedcfphhenaa

/-
  The document's example of layer 5, and what stands on programs of four instructions.
-/
set_option linter.unusedVariables false
set_option linter.unusedSimpArgs false
namespace Go.Proofs.Ytkciedcfphhenaa
open Go.RowKit Plain
set_option maxHeartbeats 4000000 in
set_option maxRecDepth 100000 in
theorem refNew4_any (h : PH) (p : PV) (w : World) (B : Nat) (hr : RP w B h p) (hB : B ≤ w.heap.size) (hl : FewLoc p) (hlen : p.funcs.length ≤ 9223372036854775807) (f : Nat) (hf : f < p.funcs.length) :
    Calls Try.prog 25 #[.agg #[.slice h.fA p.funcs.length h.fc, .int .i64 p.mutexes, .slice h.cA p.conds.length h.cc, .slice h.sA p.semas.length h.sc, .slice h.hA p.chans.length h.hc, .slice h.xA p.choices.length h.xc, .int .i64 p.threads], .int .i64 (f : Int)] w
      fun e w' => ∃ h' : TH, e = .returned (.agg #[.int .i64 0, .int .i64 0, .slice h'.fA 1 h'.fc, .slice h'.sA 0 h'.sc, .int .i64 0]) ∧ RT w' (fun i => w.heap.size ≤ i) h' (newT p f) ∧ Below w.heap.size w w' := by
  have hbeg := fun (W : World) (hW : RP W B h p) (hBW : B ≤ W.heap.size) => refFrame_any h p W B hW hBW hl f hf hlen
  have HBEG := Lib.hid hbeg
  obtain ⟨fA, fc, cA, cc, sA, sc, hA, hc, xA, xc⟩ := h
  have HR := Lib.hid hr
  clear hr hbeg
  go_enter Try.func25, Try.ntmps25
  go_wp2_with fail
  refine (HBEG.out _ ((HR.out.alloc hB _).alloc (by simp; omega) _) (by simp; omega)).mono ?_
  rintro e w1 ⟨A, c, rfl, hown, hb⟩
  obtain ⟨W2, hW2⟩ : ∃ W, W = (w.alloc (.cells #[.slice fA p.funcs.length fc, .int .i64 p.mutexes, .slice cA p.conds.length cc, .slice sA p.semas.length sc, .slice hA p.chans.length hc, .slice xA p.choices.length xc, .int .i64 p.threads] 26)).alloc (.cells #[.int .i64 0, .int .i64 0, .slice none 0 0, .slice none 0 0, .int .i64 0] 29) := ⟨_, rfl⟩
  rw [← hW2] at hown hb
  have hz : W2.heap.size = w.heap.size + 1 + 1 := by rw [hW2]; simp
  have hblk : Blk W2 (w.heap.size + 1) 29 #[.int .i64 0, .int .i64 0, .slice none 0 0, .slice none 0 0, .int .i64 0] := by
    rw [hW2]; simpa using Blk.new (w.alloc (.cells #[.slice fA p.funcs.length fc, .int .i64 p.mutexes, .slice cA p.conds.length cc, .slice sA p.semas.length sc, .slice hA p.chans.length hc, .slice xA p.choices.length xc, .int .i64 p.threads] 26)) 29 #[.int .i64 0, .int .i64 0, .slice none 0 0, .slice none 0 0, .int .i64 0]
  have hbel : Below w.heap.size w W2 := by rw [hW2]; exact ((Below.refl w.heap.size w).alloc (Nat.le_refl _) _).alloc (by simp) _
  clear hW2
  rw [hz] at hown hb
  have hsz := hb.size
  rw [hz] at hsz
  have hblk1 := hblk.below hb (by omega)
  have hbel1 : Below w.heap.size w w1 := hbel.trans (hb.mono (by omega))
  have r0 := (hblk1.cell 0).trans rfl
  have r1 := (hblk1.cell 1).trans rfl
  have r2 := (hblk1.cell 2).trans rfl
  have r3 := (hblk1.cell 3).trans rfl
  have r4 := (hblk1.cell 4).trans rfl
  have y0 := hblk1.frozen 0
  have y1 := hblk1.frozen 1
  have y2 := hblk1.frozen 2
  have y3 := hblk1.frozen 3
  have y4 := hblk1.frozen 4
  have HO := Lib.hid hown; have HB1 := Lib.hid hblk1; have HBEL := Lib.hid hbel1
  clear hown hb hblk hbel hz hblk1 hbel1
  have hm : (newFr p f).locals.length = (funcAt p f).locals.toNat := by simp [newFr]
  have HM := Lib.hid hm
  clear hm
  generalize (funcAt p f).locals.toNat = m at *
  have hlt : w.heap.size + 1 < w1.heap.size := by omega
  go_wp2_with fail
  have hof := own_frame (w1.alloc (.cells #[.int .i64 (f : Int), .int .i64 0, .slice A m c] 67)) (newFr p f) A c m HM.out
  have hfr := (((Fr.refl (fun i => i = w.heap.size + 1) w1).alloc (.cells #[.int .i64 (f : Int), .int .i64 0, .slice A m c] 67)).alloc (.cells #[.int .i64 (f : Int), .int .i64 0, .slice A m c] 67)).set5 (g := w.heap.size + 1) (.inl rfl) (.int .i64 0) (.int .i64 0) (.slice (some ⟨w1.heap.size + 1, 0, none⟩) 1 1) (.slice none 0 0) (.int .i64 0)
  have hfr2 := (Fr.refl (fun i => i = w.heap.size + 1) ((w1.alloc (.cells #[.int .i64 (f : Int), .int .i64 0, .slice A m c] 67)).alloc (.cells #[.int .i64 (f : Int), .int .i64 0, .slice A m c] 67))).set5 (g := w.heap.size + 1) (.inl rfl) (.int .i64 0) (.int .i64 0) (.slice (some ⟨w1.heap.size + 1, 0, none⟩) 1 1) (.slice none 0 0) (.int .i64 0)
  have hsz1 : (w1.alloc (.cells #[.int .i64 (f : Int), .int .i64 0, .slice A m c] 67)).heap.size = w1.heap.size + 1 := by simp
  rw [hsz1] at hof
  have hrow := hfr2.own hof (fun i hi e => by have := (hof.lt i hi).1; omega)
  have hloc := hfr.own HO.out (fun i hi e => by have := (HO.out.lt i hi).1; omega)
  obtain ⟨X, hX⟩ : ∃ X, X = (((((w1.setCell ⟨w.heap.size + 1, 0, none⟩ (.int .i64 0)).setCell ⟨w.heap.size + 1, 1, none⟩ (.int .i64 0)).setCell ⟨w.heap.size + 1, 2, none⟩ (.slice (some ⟨w1.heap.size, 0, none⟩) 1 1)).setCell ⟨w.heap.size + 1, 3, none⟩ (.slice none 0 0)).setCell ⟨w.heap.size + 1, 4, none⟩ (.int .i64 0)) := ⟨_, rfl⟩
  have hXs : X.heap.size = w1.heap.size := by rw [hX]; simp
  have hbX : Blk X (w.heap.size + 1) 29 #[.int .i64 0, .int .i64 0, .slice (some ⟨w1.heap.size, 0, none⟩) 1 1, .slice none 0 0, .int .i64 0] := by rw [hX]; exact Blk.set5 HB1.out _ _ _ _ _
  have hfr : Fr (fun i => i = w.heap.size + 1) w1 X := by rw [hX]; exact (Fr.refl (fun i => i = w.heap.size + 1) w1).set5 (g := w.heap.size + 1) (.inl rfl) (.int .i64 0) (.int .i64 0) (.slice (some ⟨w1.heap.size, 0, none⟩) 1 1) (.slice none 0 0) (.int .i64 0)
  have hof := own_frame X (newFr p f) A c m HM.out
  rw [hXs] at hof
  have hfa := hfr.alloc (.cells #[.int .i64 (f : Int), .int .i64 0, .slice A m c] 67)
  have hloc := hfa.own HO.out (fun i hi e => by have := (HO.out.lt i hi).1; omega)
  have hbY := hbX.alloc (.cells #[.int .i64 (f : Int), .int .i64 0, .slice A m c] 67)
  rw [← hX]
  clear hX
  refine bodyPost_ret (v := .agg #[.int .i64 0, .int .i64 0, .slice (some ⟨w1.heap.size, 0, none⟩) 1 1, .slice none 0 0, .int .i64 0]) (results_cell_row rfl _ _ (w.heap.size + 1) 29 _ (0, 0) _ rfl hbY Try.underlying29 rfl (by kernel_rfl)) rfl ?_
  refine ⟨⟨some ⟨w1.heap.size, 0, none⟩, 1, none, 0⟩, rfl, ⟨rgd_of_own hof rfl (fun i hi => by omega) (fun x hx => ?_), ⟨rfl, Nat.le_refl _, ⟨rfl, fun h => absurd h (by simp [newT])⟩⟩⟩, HBEL.out.trans (hfa.below (by omega) (fun i hi => by omega))⟩
  simp at hx
  subst hx
  show RID _ _ A (newFr p f).locals.length c (newFr p f).locals
  rw [HM.out]
  exact (rid_of_own hloc HM.out).mono (fun i hi _ => by omega)
end Go.Proofs.Ytkciedcfphhenaa

/-
  Programs of one function of four instructions, in memory; where a thread and a request come to lie in boxes of their own.
-/
set_option linter.unusedVariables false
set_option linter.unusedSimpArgs false
namespace Go.Proofs.Ytkciedcfphhenaa
open Go.RowKit Plain

def Plain.p4 (i0 i1 i2 i3 : IV) : PV := ⟨[⟨0, [i0, i1, i2, i3]⟩], 0, [], [], [], [], 1⟩
def h4 (f : Nat) : PH := ⟨some ⟨f, 0, none⟩, 1, none, 0, none, 0, none, 0, none, 0⟩
theorem p4_few (i0 i1 i2 i3 : IV) : FewLoc (p4 i0 i1 i2 i3) := by unfold FewLoc p4; simp
theorem p4_lens (i0 i1 i2 i3 : IV) : Lens (p4 i0 i1 i2 i3) := ⟨by simp [p4], by simp [p4], by simp [p4], by simp [p4], by simp [p4], by simp [p4], by simp [p4]⟩
theorem p4_newmay (i0 i1 i2 i3 : IV) : mayT (p4 i0 i1 i2 i3) (newT (p4 i0 i1 i2 i3) 0) = true := by
  simp [mayT, p4, newT, newFr, frB, funcAt, keptB, isKept]
theorem p4_rp (w : World) (i0 i1 i2 i3 : IV) : RP ((w.alloc (.cells #[.int .i64 i0.op, .int .i64 i0.a, .int .i64 i1.op, .int .i64 i1.a, .int .i64 i2.op, .int .i64 i2.a, .int .i64 i3.op, .int .i64 i3.a] 57)).alloc (.cells #[.int .i64 0, .slice (some ⟨w.heap.size, 0, none⟩) 4 4] 60)) (w.heap.size + 2) (h4 (w.heap.size + 1)) (p4 i0 i1 i2 i3) := by
  have b1 := Blk.new (w.alloc (.cells #[.int .i64 i0.op, .int .i64 i0.a, .int .i64 i1.op, .int .i64 i1.a, .int .i64 i2.op, .int .i64 i2.a, .int .i64 i3.op, .int .i64 i3.a] 57)) 60 #[.int .i64 0, .slice (some ⟨w.heap.size, 0, none⟩) 4 4]
  have b0 := (Blk.new w 57 #[.int .i64 i0.op, .int .i64 i0.a, .int .i64 i1.op, .int .i64 i1.a, .int .i64 i2.op, .int .i64 i2.a, .int .i64 i3.op, .int .i64 i3.a]).alloc (.cells #[.int .i64 0, .slice (some ⟨w.heap.size, 0, none⟩) 4 4] 60)
  rw [World.size_alloc] at b1
  refine ⟨⟨[⟨⟨0, [i0, i1, i2, i3]⟩, some ⟨w.heap.size, 0, none⟩, 4⟩], rfl, rfl, Nat.le_refl _, ?_, ?_⟩, ⟨rfl, Nat.le_refl _, Reads.none_⟩, ⟨rfl, Nat.le_refl _, Reads.none_⟩, ⟨rfl, Nat.le_refl _, Reads.none_⟩, ⟨[], rfl, rfl, Nat.le_refl _, Reads.none_, by simp⟩⟩
  · refine ⟨rfl, fun _ => ⟨_, rfl, by simp, fun j x hj => ?_⟩⟩
    rw [Addr.add_lit, b1.cell, Nat.zero_add]
    simpa [FS, flat2, TF.cells] using hj
  · intro t ht
    simp at ht
    subst ht
    refine ⟨rfl, Nat.le_refl _, rfl, fun _ => ⟨_, rfl, by simp, fun j x hj => ?_⟩⟩
    rw [Addr.add_lit, b0.cell, Nat.zero_add]
    simpa [CS, flat2] using hj
/-- Where a thread and a request lie behind many steps. -/
def RunBox (w wx : World) (tb qb : Nat) (hx : TH) (x : TV) (q : QV) : Prop :=
  TB wx tb hx x ∧ Blk wx qb 34 #[.int .i64 q.kind, .int .i64 q.a, .int .i64 q.v] ∧ Below w.heap.size w wx
theorem lives_run : runV (p4 ⟨0, 2⟩ ⟨0, 3⟩ ⟨4, 0⟩ ⟨12, 0⟩) 10 (newT (p4 ⟨0, 2⟩ ⟨0, 3⟩ ⟨4, 0⟩ ⟨12, 0⟩) 0) = (⟨0, 0, [⟨0, 4, []⟩], [-1], 0⟩, ⟨2, 0, 0⟩, 4) := by decide
theorem sum_s1 (a b : Int) : stepV (p4 ⟨0, a⟩ ⟨0, b⟩ ⟨3, 0⟩ ⟨25, 0⟩) ⟨0, 0, [⟨0, 0, []⟩], [], 0⟩ = (⟨0, 0, [⟨0, 1, []⟩], [keep a], 0⟩, q0) := by rfl
theorem sum_s2 (a b x : Int) : stepV (p4 ⟨0, a⟩ ⟨0, b⟩ ⟨3, 0⟩ ⟨25, 0⟩) ⟨0, 0, [⟨0, 1, []⟩], [x], 0⟩ = (⟨0, 0, [⟨0, 2, []⟩], [x, keep b], 0⟩, q0) := by rfl
theorem sum_s3 (a b x y : Int) : stepV (p4 ⟨0, a⟩ ⟨0, b⟩ ⟨3, 0⟩ ⟨25, 0⟩) ⟨0, 0, [⟨0, 2, []⟩], [x, y], 0⟩ = (⟨0, 0, [⟨0, 3, []⟩], [keep (x + y)], 0⟩, q0) := by rfl
theorem sum_s4 (a b x : Int) : stepV (p4 ⟨0, a⟩ ⟨0, b⟩ ⟨3, 0⟩ ⟨25, 0⟩) ⟨0, 0, [⟨0, 3, []⟩], [x], 0⟩ = (⟨0, 0, [⟨0, 4, []⟩], [], 0⟩, ⟨16, 0, x⟩) := by rfl
theorem sum_run (a b : Int) (ha : keep a = a) (hb : keep b = b) : (runV (p4 ⟨0, a⟩ ⟨0, b⟩ ⟨3, 0⟩ ⟨25, 0⟩) 9 (newT (p4 ⟨0, a⟩ ⟨0, b⟩ ⟨3, 0⟩ ⟨25, 0⟩) 0)).2 = (⟨16, 0, keep (a + b)⟩, 4) := by
  have h0 : newT (p4 ⟨0, a⟩ ⟨0, b⟩ ⟨3, 0⟩ ⟨25, 0⟩) 0 = ⟨0, 0, [⟨0, 0, []⟩], [], 0⟩ := rfl
  have hq : q0.kind = 0 := rfl
  rw [h0, runV_succ, sum_s1, if_pos hq, runV_succ, sum_s2, if_pos hq, runV_succ, sum_s3, if_pos hq, runV_succ, sum_s4, if_neg (show ¬ (16 : Int) = 0 by decide), ha, hb]
  rfl
theorem dif_s1 (a b : Int) : stepV (p4 ⟨0, a⟩ ⟨0, b⟩ ⟨4, 0⟩ ⟨25, 0⟩) ⟨0, 0, [⟨0, 0, []⟩], [], 0⟩ = (⟨0, 0, [⟨0, 1, []⟩], [keep a], 0⟩, q0) := by rfl
theorem dif_s2 (a b x : Int) : stepV (p4 ⟨0, a⟩ ⟨0, b⟩ ⟨4, 0⟩ ⟨25, 0⟩) ⟨0, 0, [⟨0, 1, []⟩], [x], 0⟩ = (⟨0, 0, [⟨0, 2, []⟩], [x, keep b], 0⟩, q0) := by rfl
theorem dif_s3 (a b x y : Int) : stepV (p4 ⟨0, a⟩ ⟨0, b⟩ ⟨4, 0⟩ ⟨25, 0⟩) ⟨0, 0, [⟨0, 2, []⟩], [x, y], 0⟩ = (⟨0, 0, [⟨0, 3, []⟩], [keep (x - y)], 0⟩, q0) := by rfl
theorem dif_s4 (a b x : Int) : stepV (p4 ⟨0, a⟩ ⟨0, b⟩ ⟨4, 0⟩ ⟨25, 0⟩) ⟨0, 0, [⟨0, 3, []⟩], [x], 0⟩ = (⟨0, 0, [⟨0, 4, []⟩], [], 0⟩, ⟨16, 0, x⟩) := by rfl
theorem dif_run (a b : Int) (ha : keep a = a) (hb : keep b = b) : (runV (p4 ⟨0, a⟩ ⟨0, b⟩ ⟨4, 0⟩ ⟨25, 0⟩) 9 (newT (p4 ⟨0, a⟩ ⟨0, b⟩ ⟨4, 0⟩ ⟨25, 0⟩) 0)).2 = (⟨16, 0, keep (a - b)⟩, 4) := by
  have h0 : newT (p4 ⟨0, a⟩ ⟨0, b⟩ ⟨4, 0⟩ ⟨25, 0⟩) 0 = ⟨0, 0, [⟨0, 0, []⟩], [], 0⟩ := rfl
  have hq : q0.kind = 0 := rfl
  rw [h0, runV_succ, dif_s1, if_pos hq, runV_succ, dif_s2, if_pos hq, runV_succ, dif_s3, if_pos hq, runV_succ, dif_s4, if_neg (show ¬ (16 : Int) = 0 by decide), ha, hb]
  rfl
theorem zero_s1 (a : Int) : stepV (p4 ⟨0, a⟩ ⟨8, 3⟩ ⟨12, 0⟩ ⟨26, 0⟩) ⟨0, 0, [⟨0, 0, []⟩], [], 0⟩ = (⟨0, 0, [⟨0, 1, []⟩], [keep a], 0⟩, q0) := by rfl
theorem zero_s2 (a : Int) : stepV (p4 ⟨0, a⟩ ⟨8, 3⟩ ⟨12, 0⟩ ⟨26, 0⟩) ⟨0, 0, [⟨0, 1, []⟩], [0], 0⟩ = (⟨0, 0, [⟨0, 3, []⟩], [], 0⟩, q0) := by rfl
theorem zero_s2n (a x : Int) (h : x ≠ 0) : stepV (p4 ⟨0, a⟩ ⟨8, 3⟩ ⟨12, 0⟩ ⟨26, 0⟩) ⟨0, 0, [⟨0, 1, []⟩], [x], 0⟩ = (⟨0, 0, [⟨0, 2, []⟩], [], 0⟩, q0) := by
  simp [stepV, fetchT, lastFr, funcAt, p4, deedV, popV, popT, topT, jumpT, setLast, h]
theorem zero_s3 (a : Int) : stepV (p4 ⟨0, a⟩ ⟨8, 3⟩ ⟨12, 0⟩ ⟨26, 0⟩) ⟨0, 0, [⟨0, 3, []⟩], [], 0⟩ = (⟨9, 0, [], [], 0⟩, ⟨1, 0, 0⟩) := by rfl
theorem zero_s3n (a : Int) : stepV (p4 ⟨0, a⟩ ⟨8, 3⟩ ⟨12, 0⟩ ⟨26, 0⟩) ⟨0, 0, [⟨0, 2, []⟩], [], 0⟩ = (⟨0, 0, [⟨0, 3, []⟩], [], 0⟩, ⟨2, 0, 0⟩) := by rfl
theorem zero_run (a : Int) (ha : keep a = a) : (runV (p4 ⟨0, a⟩ ⟨8, 3⟩ ⟨12, 0⟩ ⟨26, 0⟩) 9 (newT (p4 ⟨0, a⟩ ⟨8, 3⟩ ⟨12, 0⟩ ⟨26, 0⟩) 0)).2 = (if a = 0 then ⟨1, 0, 0⟩ else ⟨2, 0, 0⟩, 3) := by
  have h0 : newT (p4 ⟨0, a⟩ ⟨8, 3⟩ ⟨12, 0⟩ ⟨26, 0⟩) 0 = ⟨0, 0, [⟨0, 0, []⟩], [], 0⟩ := rfl
  have hq : q0.kind = 0 := rfl
  rw [h0, runV_succ, zero_s1, if_pos hq, ha, runV_succ]
  by_cases hz : a = 0
  · rw [if_pos hz]
    subst hz
    rw [zero_s2, if_pos hq, runV_succ, zero_s3, if_neg (show ¬ (1 : Int) = 0 by decide)]
    rfl
  · rw [if_neg hz, zero_s2n _ _ hz, if_pos hq, runV_succ, zero_s3n, if_neg (show ¬ (2 : Int) = 0 by decide)]
    rfl
theorem instr_push (p : PV) (f : FV) (a : Int) (h : keep a = a) : instrB p f ⟨0, a⟩ = true := by
  have hb := keep_bd a
  rw [h] at hb
  have h1 : asks 0 = true := by decide
  have h2 : most p f 0 = 1073741825 := by rfl
  unfold instrB
  simp only [h1, h2, if_true, true_and]
  by_cases ha : a < 0
  · rw [if_pos ha]
    simp
    omega
  · rw [if_neg ha]
    simp
    omega
end Go.Proofs.Ytkciedcfphhenaa

/-
  The document's example of layer 5.
-/
set_option linter.unusedVariables false
set_option linter.unusedSimpArgs false
namespace Go.Proofs.Ytkciedcfphhenaa
open Go.RowKit Plain

theorem bcellU {W w1 : World} (hb : Below W.heap.size W w1) : (∀ b o, b < W.heap.size → w1.cell? ⟨b, o, none⟩ = W.cell? ⟨b, o, none⟩) ∧ (∀ b o, b < W.heap.size → w1.frozen? ⟨b, o, none⟩ = W.frozen? ⟨b, o, none⟩) :=
  ⟨fun b o h => hb.cell (p := ⟨b, o, none⟩) h, fun b o h => hb.frozen (p := ⟨b, o, none⟩) h⟩
theorem blk_at {w : World} {i : Nat} {t : TypeId} {cs : Array Value} (h : i = w.heap.size) : Blk (w.alloc (.cells cs t)) i t cs := by subst h; exact Blk.new _ _ _
/-- Where the thread and the request of many steps came to lie. -/
def LiC (W : World) (x : TV) (q : QV) (n : Nat) (s2 s3 s4 : Value) (wx : World) : Prop :=
  ∃ (tb qb : Nat) (hx : TH), s2 = .pointer (some ⟨tb, 0, none⟩) ∧ s3 = .pointer (some ⟨qb, 0, none⟩) ∧ s4 = .int .i64 (n : Int) ∧ TB wx tb hx x ∧ Blk wx qb 34 #[.int .i64 q.kind, .int .i64 q.a, .int .i64 q.v] ∧ Below W.heap.size W wx
set_option maxHeartbeats 4000000 in
set_option maxRecDepth 100000 in
theorem vlives_any (w : World) : Calls Try.prog 17 #[] w fun e w' => e = .returned (.bool true) ∧ Below w.heap.size w w' := by
  obtain ⟨p, hp⟩ : ∃ p, p = p4 ⟨0, 2⟩ ⟨0, 3⟩ ⟨4, 0⟩ ⟨12, 0⟩ := ⟨_, rfl⟩
  obtain ⟨W3, hW3⟩ : ∃ W, W = (((w.alloc (.cells #[.int .i64 0, .int .i64 2, .int .i64 0, .int .i64 3, .int .i64 4, .int .i64 0, .int .i64 12, .int .i64 0] 57)).alloc (.cells #[.int .i64 0, .slice (some ⟨w.heap.size, 0, none⟩) 4 4] 60)).alloc (.cells #[.slice (some ⟨w.heap.size + 1, 0, none⟩) 1 1, .int .i64 0, .slice none 0 0, .slice none 0 0, .slice none 0 0, .slice none 0 0, .int .i64 1] 26)) := ⟨_, rfl⟩
  have hz3 : W3.heap.size = w.heap.size + 1 + 1 + 1 := by rw [hW3]; simp
  have hb3 : Below w.heap.size w W3 := by rw [hW3]; exact (((Below.refl _ _).alloc (Nat.le_refl _) _).alloc (by simp) _).alloc (by simp; omega) _
  have hrp : RP W3 W3.heap.size (h4 (w.heap.size + 1)) p := by
    rw [hW3, hp]
    exact ((p4_rp w ⟨0, 2⟩ ⟨0, 3⟩ ⟨4, 0⟩ ⟨12, 0⟩).below ((Below.refl _ _).alloc (by simp) _)).more (by simp)
  have hpb : Blk W3 (w.heap.size + 1 + 1) 26 #[.slice (some ⟨w.heap.size + 1, 0, none⟩) 1 1, .int .i64 0, .slice none 0 0, .slice none 0 0, .slice none 0 0, .slice none 0 0, .int .i64 1] := by
    rw [hW3]
    simpa using Blk.new ((w.alloc (.cells #[.int .i64 0, .int .i64 2, .int .i64 0, .int .i64 3, .int .i64 4, .int .i64 0, .int .i64 12, .int .i64 0] 57)).alloc (.cells #[.int .i64 0, .slice (some ⟨w.heap.size, 0, none⟩) 4 4] 60)) 26 #[.slice (some ⟨w.heap.size + 1, 0, none⟩) 1 1, .int .i64 0, .slice none 0 0, .slice none 0 0, .slice none 0 0, .slice none 0 0, .int .i64 1]
  have hmay : mayB p = true := by rw [hp]; decide
  have hln : Lens p := by rw [hp]; exact p4_lens _ _ _ _
  have hfl : FewLoc p := by rw [hp]; exact p4_few _ _ _ _
  have hnm : mayT p (newT p 0) = true := by rw [hp]; exact p4_newmay _ _ _ _
  have hnew := fun (X : World) (hX : Below W3.heap.size W3 X) => refNew4_any (h4 (w.heap.size + 1)) p X W3.heap.size (hrp.below hX) hX.size hfl (by rw [hp]; decide) 0 (by rw [hp]; decide)
  have hrun := fun (X : World) (hX : Below W3.heap.size W3 X) (D : Nat → Prop) (hn : TH) (hr : RT X D hn (newT p 0)) => vrun_any (h4 (w.heap.size + 1)) p hn (newT p 0) 10 X W3.heap.size D (hrp.below hX) hX.size hr hmay hln hnm (by simp [newT]) (by omega)
  have hrv : runV p (10 : Int).toNat (newT p 0) = (⟨0, 0, [⟨0, 4, []⟩], [-1], 0⟩, ⟨2, 0, 0⟩, 4) := by rw [hp]; exact lives_run
  rw [hrv] at hrun
  simp only at hrun
  have KS : ∀ X, Below W3.heap.size W3 X → X.cell? ⟨w.heap.size + 1 + 1, 0, none⟩ = some (.slice (some ⟨w.heap.size + 1, 0, none⟩) 1 1) ∧ X.cell? ⟨w.heap.size + 1 + 1, 1, none⟩ = some (.int .i64 0) ∧ X.cell? ⟨w.heap.size + 1 + 1, 2, none⟩ = some (.slice none 0 0) ∧ X.cell? ⟨w.heap.size + 1 + 1, 3, none⟩ = some (.slice none 0 0) ∧ X.cell? ⟨w.heap.size + 1 + 1, 4, none⟩ = some (.slice none 0 0) ∧ X.cell? ⟨w.heap.size + 1 + 1, 5, none⟩ = some (.slice none 0 0) ∧ X.cell? ⟨w.heap.size + 1 + 1, 6, none⟩ = some (.int .i64 1) := fun X hX =>
    have h := hpb.below hX hpb.lt
    ⟨(h.cell 0).trans rfl, (h.cell 1).trans rfl, (h.cell 2).trans rfl, (h.cell 3).trans rfl, (h.cell 4).trans rfl, (h.cell 5).trans rfl, (h.cell 6).trans rfl⟩
  have hlen : p.funcs.length = 1 ∧ p.mutexes = 0 ∧ p.conds.length = 0 ∧ p.semas.length = 0 ∧ p.chans.length = 0 ∧ p.choices.length = 0 ∧ p.threads = 1 := by rw [hp]; exact ⟨rfl, rfl, rfl, rfl, rfl, rfl, rfl⟩
  obtain ⟨l1, l2, l3, l4, l5, l6, l7⟩ := hlen
  rw [l1, l2, l3, l4, l5, l6, l7] at hnew hrun
  have l8 : (newT p 0).frames.length = 1 := rfl
  have l9 : (newT p 0).stack.length = 0 := rfl
  rw [l8, l9] at hrun
  simp only [h4, newT] at hnew hrun
  have HKS := Lib.hid KS; have HNEW := Lib.hid hnew; have HRUN := Lib.hid hrun; have HB3 := Lib.hid hb3; have HW := Lib.hid hW3; have HZ := Lib.hid hz3
  obtain ⟨m0, m1, m2, m3, m4, m5, m6⟩ := KS W3 (Below.refl _ _)
  clear hrp hpb hmay hln hfl hnm hrv l1 l2 l3 l4 l5 l6 l7 l8 l9 KS hnew hrun hb3 hp
  have hzl : w.heap.size + 1 + 1 < W3.heap.size := by omega
  clear hz3 hW3
  go_enter Try.func17, Try.ntmps17
  go_upto_region 2 with fail
  rw [← HW.out]
  clear HW
  go_cut [2, 3, 4] (fun s2 s3 s4 wx => LiC W3 ⟨0, 0, [⟨0, 4, []⟩], [-1], 0⟩ ⟨2, 0, 0⟩ 4 s2 s3 s4 wx)
  case first =>
    go_region_held3 (fun X => X.cell? ⟨w.heap.size + 1 + 1, 0, none⟩ = some (.slice (some ⟨w.heap.size + 1, 0, none⟩) 1 1) ∧ X.cell? ⟨w.heap.size + 1 + 1, 1, none⟩ = some (.int .i64 0) ∧ X.cell? ⟨w.heap.size + 1 + 1, 2, none⟩ = some (.slice none 0 0) ∧ X.cell? ⟨w.heap.size + 1 + 1, 3, none⟩ = some (.slice none 0 0) ∧ X.cell? ⟨w.heap.size + 1 + 1, 4, none⟩ = some (.slice none 0 0) ∧ X.cell? ⟨w.heap.size + 1 + 1, 5, none⟩ = some (.slice none 0 0) ∧ X.cell? ⟨w.heap.size + 1 + 1, 6, none⟩ = some (.int .i64 1))
      (first | (exact HKS.out _ (by repeat (first | (with_reducible exact hbr) | (with_reducible exact hbn) | (with_reducible exact Below.refl _ _) | (with_reducible refine Below.drew ?_) | (with_reducible refine Below.setCell ?_ ?hs _; case hs => first | omega | (simp <;> omega) | (have := hbn.size; first | omega | (simp <;> omega)) | (have := hbn.size; have := hbr.size; first | omega | (simp <;> omega))) | (with_reducible refine Below.alloc ?_ ?hs _; case hs => first | omega | (simp <;> omega) | (have := hbn.size; first | omega | (simp <;> omega)) | (have := hbn.size; have := hbr.size; first | omega | (simp <;> omega)))))))
      (first
        | (go_simp; go_at_call 25; refine (HNEW.out _ (by repeat (first | (with_reducible exact hbr) | (with_reducible exact hbn) | (with_reducible exact Below.refl _ _) | (with_reducible refine Below.drew ?_) | (with_reducible refine Below.setCell ?_ ?hs _; case hs => first | omega | (simp <;> omega) | (have := hbn.size; first | omega | (simp <;> omega)) | (have := hbn.size; have := hbr.size; first | omega | (simp <;> omega))) | (with_reducible refine Below.alloc ?_ ?hs _; case hs => first | omega | (simp <;> omega) | (have := hbn.size; first | omega | (simp <;> omega)) | (have := hbn.size; have := hbr.size; first | omega | (simp <;> omega)))))).mono ?_; rintro en wn ⟨⟨nA, nc, nB, nd⟩, rfl, hrn, hn4⟩
           have hbn : Below W3.heap.size W3 wn := Below.trans (by repeat (first | exact Below.refl _ _ | refine Below.drew ?_ | refine Below.alloc ?_ (by first | omega | (simp <;> omega)) _)) (hn4.mono (by first | omega | (simp <;> omega)))
           obtain ⟨hcc, hff⟩ := bcellU hn4
           have hzn := hn4.size
           try simp at hzn
           try (have hn1 : W3.heap.size < wn.heap.size := by omega)
           try (have hn2 : W3.heap.size + 1 < wn.heap.size := by omega))
        | (go_simp; go_at_call 20; refine (HRUN.out _ (by repeat (first | (with_reducible exact hbr) | (with_reducible exact hbn) | (with_reducible exact Below.refl _ _) | (with_reducible refine Below.drew ?_) | (with_reducible refine Below.setCell ?_ ?hs _; case hs => first | omega | (simp <;> omega) | (have := hbn.size; first | omega | (simp <;> omega)) | (have := hbn.size; have := hbr.size; first | omega | (simp <;> omega))) | (with_reducible refine Below.alloc ?_ ?hs _; case hs => first | omega | (simp <;> omega) | (have := hbn.size; first | omega | (simp <;> omega)) | (have := hbn.size; have := hbr.size; first | omega | (simp <;> omega))))) _ _ (RT.below hrn (by repeat (first | exact Below.refl _ _ | refine Below.drew ?_ | refine Below.alloc ?_ (by first | omega | (simp <;> omega)) _)))).mono ?_; rintro er wr ⟨⟨rA, rc, rB, rd⟩, rfl, hrr, hr4⟩
           have hbr : Below W3.heap.size W3 wr := Below.trans (by repeat (first | (with_reducible exact hbr) | (with_reducible exact hbn) | (with_reducible exact Below.refl _ _) | (with_reducible refine Below.drew ?_) | (with_reducible refine Below.setCell ?_ ?hs _; case hs => first | omega | (simp <;> omega) | (have := hbn.size; first | omega | (simp <;> omega)) | (have := hbn.size; have := hbr.size; first | omega | (simp <;> omega))) | (with_reducible refine Below.alloc ?_ ?hs _; case hs => first | omega | (simp <;> omega) | (have := hbn.size; first | omega | (simp <;> omega)) | (have := hbn.size; have := hbr.size; first | omega | (simp <;> omega))))) (hr4.mono (by have := hbn.size; first | omega | (simp; omega) | simp))
           obtain ⟨hcr, hfr⟩ := bcellU hr4
           have hnr : Below wn.heap.size wn wr := Below.trans (by repeat (first | exact Below.refl _ _ | refine Below.drew ?_ | refine Below.alloc ?_ (by first | omega | (simp <;> omega)) _)) (hr4.mono (by first | omega | (simp <;> omega)))
           have hb2 := hn4.trans (hnr.mono hn4.size)
           obtain ⟨hc2, hf2⟩ := bcellU hb2
           have hzr := hr4.size
           try simp at hzr
           try (have hr1 : W3.heap.size < wr.heap.size := by omega)
           try (have hr2 : W3.heap.size + 1 < wr.heap.size := by omega)
           try (have hr3 : wn.heap.size < wr.heap.size := by omega)
           try (have hr5 : wn.heap.size + 1 < wr.heap.size := by omega)))
    all_goals
      go_wp2_with fail
      go_meet
      refine ⟨_, _, ⟨rA, rc, rB, rd⟩, rfl, rfl, rfl, ⟨?b1, ?rt⟩, ?b2, (by repeat (first | (with_reducible exact hbr) | (with_reducible exact hbn) | (with_reducible exact Below.refl _ _) | (with_reducible refine Below.drew ?_) | (with_reducible refine Below.setCell ?_ ?hs _; case hs => first | omega | (simp <;> omega) | (have := hbn.size; first | omega | (simp <;> omega)) | (have := hbn.size; have := hbr.size; first | omega | (simp <;> omega))) | (with_reducible refine Below.alloc ?_ ?hs _; case hs => first | omega | (simp <;> omega) | (have := hbn.size; first | omega | (simp <;> omega)) | (have := hbn.size; have := hbr.size; first | omega | (simp <;> omega)))))⟩
      case b1 => (show Blk _ _ _ #[.int .i64 0, .int .i64 0, .slice rA 1 rc, .slice rB 1 rd, .int .i64 0]; (repeat (first | (with_reducible refine blk_at ?hs; case hs => (first | rfl | (simp; done))) | (with_reducible refine Blk.set5 (v0 := .int .i64 0) (v1 := .int .i64 0) (v2 := .slice none 0 0) (v3 := .slice none 0 0) (v4 := .int .i64 0) ?_ _ _ _ _ _) | (with_reducible refine Blk.set3 (v0 := .int .i64 0) (v1 := .int .i64 0) (v2 := .int .i64 0) ?_ _ _ _) | (with_reducible refine Blk.far ?_ ?hs _; case hs => (show (_ : Nat) ≠ _; first | omega | (simp <;> omega) | (have := hbn.size; first | omega | (simp <;> omega)) | (have := hbn.size; have := hbr.size; first | omega | (simp <;> omega)))) | (with_reducible refine Blk.alloc ?_ _) | (with_reducible refine Blk.below ?_ hr4 ?hs; (case hs => (first | omega | (simp <;> omega) | (have := hbn.size; first | omega | (simp <;> omega)) | (have := hbn.size; have := hbr.size; first | omega | (simp <;> omega)))); (repeat (first | (with_reducible refine blk_at ?hs; case hs => (first | rfl | (simp; done))) | (with_reducible refine Blk.drew ?_) | (with_reducible refine Blk.alloc ?_ _))); done) | (with_reducible refine Blk.below ?_ hb2 ?hs; (case hs => (first | omega | (simp <;> omega) | (have := hbn.size; first | omega | (simp <;> omega)) | (have := hbn.size; have := hbr.size; first | omega | (simp <;> omega)))); (repeat (first | (with_reducible refine blk_at ?hs; case hs => (first | rfl | (simp; done))) | (with_reducible refine Blk.drew ?_) | (with_reducible refine Blk.alloc ?_ _))); done))))
      case b2 => (repeat (first | (with_reducible refine blk_at ?hs; case hs => (first | rfl | (simp; done))) | (with_reducible refine Blk.set5 (v0 := .int .i64 0) (v1 := .int .i64 0) (v2 := .slice none 0 0) (v3 := .slice none 0 0) (v4 := .int .i64 0) ?_ _ _ _ _ _) | (with_reducible refine Blk.set3 (v0 := .int .i64 0) (v1 := .int .i64 0) (v2 := .int .i64 0) ?_ _ _ _) | (with_reducible refine Blk.far ?_ ?hs _; case hs => (show (_ : Nat) ≠ _; first | omega | (simp <;> omega) | (have := hbn.size; first | omega | (simp <;> omega)) | (have := hbn.size; have := hbr.size; first | omega | (simp <;> omega)))) | (with_reducible refine Blk.alloc ?_ _) | (with_reducible refine Blk.below ?_ hr4 ?hs; (case hs => (first | omega | (simp <;> omega) | (have := hbn.size; first | omega | (simp <;> omega)) | (have := hbn.size; have := hbr.size; first | omega | (simp <;> omega)))); (repeat (first | (with_reducible refine blk_at ?hs; case hs => (first | rfl | (simp; done))) | (with_reducible refine Blk.drew ?_) | (with_reducible refine Blk.alloc ?_ _))); done) | (with_reducible refine Blk.below ?_ hb2 ?hs; (case hs => (first | omega | (simp <;> omega) | (have := hbn.size; first | omega | (simp <;> omega)) | (have := hbn.size; have := hbr.size; first | omega | (simp <;> omega)))); (repeat (first | (with_reducible refine blk_at ?hs; case hs => (first | rfl | (simp; done))) | (with_reducible refine Blk.drew ?_) | (with_reducible refine Blk.alloc ?_ _))); done)))
      case rt =>
        refine (hrr.keep fun q hq hl => ?_).mono fun _ _ _ => trivial
        have hq' : _ ≤ q.block := hq
        try simp at hq'
        refine Fr.cell (S := fun i => i ≠ q.block) ?_ hl (fun h => h rfl)
        (repeat (first | (with_reducible exact Fr.refl _ _) | (with_reducible refine Fr.alloc ?_ _) | (with_reducible refine Fr.setCell ?_ (.inl ?hs) _; case hs => (show (_ : Nat) ≠ q.block; first | omega | (simp <;> omega) | (have := hbn.size; first | omega | (simp <;> omega)) | (have := hbn.size; have := hbr.size; first | omega | (simp <;> omega))))))
  case rest =>
    obtain ⟨tb, qb, ⟨rA, rc, rB, rd⟩, rfl, rfl, rfl, htb, hqb, hbw⟩ := hcut
    obtain ⟨ad, hA, hri⟩ : ∃ ad : Addr, rB = some ad ∧ wc.cell? ad = some (.int .i64 (-1)) := by
      obtain ⟨_, _, _, h2⟩ := htb.rt.2
      obtain ⟨ad, e, _, h3⟩ := h2 (by decide)
      exact ⟨ad, e, by have h4 := h3 0 (.int .i64 (-1)) rfl; rwa [show ad.add 0 = ad from by cases ad; rfl] at h4⟩
    subst hA
    have t0 : wc.cell? ⟨tb, 3, none⟩ = some (.slice (some ad) 1 rd) := (htb.tb.cell 3).trans rfl
    have q0 : wc.cell? ⟨qb, 0, none⟩ = some (.int .i64 2) := (hqb.cell 0).trans rfl
    have q1 : wc.cell? ⟨qb, 1, none⟩ = some (.int .i64 0) := (hqb.cell 1).trans rfl
    have q2 : wc.cell? ⟨qb, 2, none⟩ = some (.int .i64 0) := (hqb.cell 2).trans rfl
    have HBW := Lib.hid hbw
    clear htb hqb hbw m0 m1 m2 m3 m4 m5 m6
    go_wp2_with fail
    go_ret
    exact ⟨rfl, HB3.out.trans (HBW.out.mono HB3.out.size)⟩
end Go.Proofs.Ytkciedcfphhenaa
