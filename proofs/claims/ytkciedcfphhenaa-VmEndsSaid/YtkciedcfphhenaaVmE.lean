
/-
  vm: the deeds, one by one.
-/
import Derived.Test.YtkciedcfphhenaaVmD
import Derived.Deep.RegionLaw
import Derived.Deep.RegionHeld
import Derived.Deep.DeepCutAuto
import Derived.Deep.CutBlock
set_option linter.unusedVariables false
set_option linter.unusedSimpArgs false
namespace Go.Proofs.Ytkciedcfphhenaa
open Go.RowKit Plain

theorem ri_new (w : World) (l : List Int) : RI (w.alloc (.cells (IS l).toArray 3)) (w.alloc (.cells (IS l).toArray 3)).heap.size (some ⟨w.heap.size, 0, none⟩) l.length l.length l := by
  refine ⟨rfl, Nat.le_refl _, by rw [IS_length]; simp, fun _ => ⟨_, rfl, by simp, fun j u hj => ?_⟩⟩
  have hadd : (⟨w.heap.size, 0, none⟩ : Addr).add j = ⟨w.heap.size, j, none⟩ := by unfold Addr.add; split <;> simp_all
  rw [hadd, (Blk.new w 3 (IS l).toArray).cell j]
  simpa using hj
theorem pushV_eq (t : TV) (v : Int) : pushV t v = goV (pushAll t [v]).2 (pushAll t [v]).1 q0 2 := by
  by_cases h : t.stack.length < 16
  · simp [pushV, pushAll, goV, h]
  · simp [pushV, pushAll, goV, h, endV]
theorem lens_pop {t : TV} (h : LensT t) : LensT (popT t) := ⟨h.frames, by have := h.stack; simp [popT]; omega, h.locals⟩
set_option maxHeartbeats 4000000 in
set_option maxRecDepth 100000 in
theorem deed0 (h : PH) (p : PV) (ht : TH) (t : TV) (a : Int) (W : World) (ub B : Nat) (hu : US W ub B h p ht t a q0) (hl : LensT t) (hm : 1 ≤ t.frames.length ∧ t.frames.length ≤ 1000000 ∧ t.stack.length ≤ 1000000) :
    Calls Try.prog 55 #[.pointer (some ⟨ub, 0, none⟩)] W fun e W' => e = .returned (.tuple #[]) ∧ (∃ ht' : TH, US W' ub B h p ht' (deedV p t ⟨0, a⟩).1 a (deedV p t ⟨0, a⟩).2) ∧ Fr (fun i => i = ub) W W' := by
  obtain ⟨fA, fc, cA, cc, sA, sc, hA, hc, xA, xc⟩ := h
  obtain ⟨a1, c1, s1, d1⟩ := ht
  have HU := Lib.hid hu
  have hul := hu.bx.lt
  have x0 : W.cell? ⟨ub, 0, none⟩ = some (.slice fA p.funcs.length fc) := (hu.bx.cell 0).trans rfl
  have y0 : W.frozen? ⟨ub, 0, none⟩ = false := hu.bx.frozen 0
  have x1 : W.cell? ⟨ub, 1, none⟩ = some (.int .i64 p.mutexes) := (hu.bx.cell 1).trans rfl
  have y1 : W.frozen? ⟨ub, 1, none⟩ = false := hu.bx.frozen 1
  have x2 : W.cell? ⟨ub, 2, none⟩ = some (.slice cA p.conds.length cc) := (hu.bx.cell 2).trans rfl
  have y2 : W.frozen? ⟨ub, 2, none⟩ = false := hu.bx.frozen 2
  have x3 : W.cell? ⟨ub, 3, none⟩ = some (.slice sA p.semas.length sc) := (hu.bx.cell 3).trans rfl
  have y3 : W.frozen? ⟨ub, 3, none⟩ = false := hu.bx.frozen 3
  have x4 : W.cell? ⟨ub, 4, none⟩ = some (.slice hA p.chans.length hc) := (hu.bx.cell 4).trans rfl
  have y4 : W.frozen? ⟨ub, 4, none⟩ = false := hu.bx.frozen 4
  have x5 : W.cell? ⟨ub, 5, none⟩ = some (.slice xA p.choices.length xc) := (hu.bx.cell 5).trans rfl
  have y5 : W.frozen? ⟨ub, 5, none⟩ = false := hu.bx.frozen 5
  have x6 : W.cell? ⟨ub, 6, none⟩ = some (.int .i64 p.threads) := (hu.bx.cell 6).trans rfl
  have y6 : W.frozen? ⟨ub, 6, none⟩ = false := hu.bx.frozen 6
  have x7 : W.cell? ⟨ub, 7, none⟩ = some (.int .i64 t.state) := (hu.bx.cell 7).trans rfl
  have y7 : W.frozen? ⟨ub, 7, none⟩ = false := hu.bx.frozen 7
  have x8 : W.cell? ⟨ub, 8, none⟩ = some (.int .i64 t.on) := (hu.bx.cell 8).trans rfl
  have y8 : W.frozen? ⟨ub, 8, none⟩ = false := hu.bx.frozen 8
  have x9 : W.cell? ⟨ub, 9, none⟩ = some (.slice a1 t.frames.length c1) := (hu.bx.cell 9).trans rfl
  have y9 : W.frozen? ⟨ub, 9, none⟩ = false := hu.bx.frozen 9
  have x10 : W.cell? ⟨ub, 10, none⟩ = some (.slice s1 t.stack.length d1) := (hu.bx.cell 10).trans rfl
  have y10 : W.frozen? ⟨ub, 10, none⟩ = false := hu.bx.frozen 10
  have x11 : W.cell? ⟨ub, 11, none⟩ = some (.int .i64 t.code) := (hu.bx.cell 11).trans rfl
  have y11 : W.frozen? ⟨ub, 11, none⟩ = false := hu.bx.frozen 11
  have x12 : W.cell? ⟨ub, 12, none⟩ = some (.int .i64 a) := (hu.bx.cell 12).trans rfl
  have y12 : W.frozen? ⟨ub, 12, none⟩ = false := hu.bx.frozen 12
  have x13 : W.cell? ⟨ub, 13, none⟩ = some (.int .i64 q0.kind) := (hu.bx.cell 13).trans rfl
  have y13 : W.frozen? ⟨ub, 13, none⟩ = false := hu.bx.frozen 13
  have x14 : W.cell? ⟨ub, 14, none⟩ = some (.int .i64 q0.a) := (hu.bx.cell 14).trans rfl
  have y14 : W.frozen? ⟨ub, 14, none⟩ = false := hu.bx.frozen 14
  have x15 : W.cell? ⟨ub, 15, none⟩ = some (.int .i64 q0.v) := (hu.bx.cell 15).trans rfl
  have y15 : W.frozen? ⟨ub, 15, none⟩ = false := hu.bx.frozen 15
  have HL := Lib.hid hl
  clear hu hl
  have hd : deedV p t ⟨0, a⟩ = goV (pushAll t [a]).2 (pushAll t [a]).1 q0 2 := pushV_eq t a
  rw [hd]
  clear hd
  go_enter Try.func55, Try.ntmps55
  go_wp2_with fail
  refine (upush_any ⟨fA, fc, cA, cc, sA, sc, hA, hc, xA, xc⟩ p ⟨a1, c1, s1, d1⟩ t a q0 [a] (some ⟨W.heap.size, 0, none⟩) 1 1 _ ub B (HU.out.below ((Below.refl _ _).alloc (Nat.le_refl _) _)) HL.out (ri_new W [a]) (by omega)).mono ?_
  rintro e W1 ⟨rfl, hq, hf⟩
  go_wp2_with fail
  go_end0
  exact ⟨rfl, hq, (((Fr.refl (fun i => i = ub) W).alloc _).trans hf (fun i _ h => h))⟩
set_option maxHeartbeats 4000000 in
set_option maxRecDepth 100000 in
theorem deed5 (h : PH) (p : PV) (ht : TH) (t : TV) (a : Int) (W : World) (ub B : Nat) (hu : US W ub B h p ht t a q0) (hl : LensT t) (hm : 1 ≤ t.frames.length ∧ t.frames.length ≤ 1000000 ∧ t.stack.length ≤ 1000000) (hi : 0 ≤ a ∧ a < (lastFr t).locals.length ∧ (lastFr t).locals.length ≤ 1000000) :
    Calls Try.prog 67 #[.pointer (some ⟨ub, 0, none⟩)] W fun e W' => e = .returned (.tuple #[]) ∧ (∃ ht' : TH, US W' ub B h p ht' (deedV p t ⟨5, a⟩).1 a (deedV p t ⟨5, a⟩).2) ∧ Fr (fun i => i = ub) W W' := by
  obtain ⟨fA, fc, cA, cc, sA, sc, hA, hc, xA, xc⟩ := h
  obtain ⟨a1, c1, s1, d1⟩ := ht
  have HU := Lib.hid hu
  have hul := hu.bx.lt
  have x0 : W.cell? ⟨ub, 0, none⟩ = some (.slice fA p.funcs.length fc) := (hu.bx.cell 0).trans rfl
  have y0 : W.frozen? ⟨ub, 0, none⟩ = false := hu.bx.frozen 0
  have x1 : W.cell? ⟨ub, 1, none⟩ = some (.int .i64 p.mutexes) := (hu.bx.cell 1).trans rfl
  have y1 : W.frozen? ⟨ub, 1, none⟩ = false := hu.bx.frozen 1
  have x2 : W.cell? ⟨ub, 2, none⟩ = some (.slice cA p.conds.length cc) := (hu.bx.cell 2).trans rfl
  have y2 : W.frozen? ⟨ub, 2, none⟩ = false := hu.bx.frozen 2
  have x3 : W.cell? ⟨ub, 3, none⟩ = some (.slice sA p.semas.length sc) := (hu.bx.cell 3).trans rfl
  have y3 : W.frozen? ⟨ub, 3, none⟩ = false := hu.bx.frozen 3
  have x4 : W.cell? ⟨ub, 4, none⟩ = some (.slice hA p.chans.length hc) := (hu.bx.cell 4).trans rfl
  have y4 : W.frozen? ⟨ub, 4, none⟩ = false := hu.bx.frozen 4
  have x5 : W.cell? ⟨ub, 5, none⟩ = some (.slice xA p.choices.length xc) := (hu.bx.cell 5).trans rfl
  have y5 : W.frozen? ⟨ub, 5, none⟩ = false := hu.bx.frozen 5
  have x6 : W.cell? ⟨ub, 6, none⟩ = some (.int .i64 p.threads) := (hu.bx.cell 6).trans rfl
  have y6 : W.frozen? ⟨ub, 6, none⟩ = false := hu.bx.frozen 6
  have x7 : W.cell? ⟨ub, 7, none⟩ = some (.int .i64 t.state) := (hu.bx.cell 7).trans rfl
  have y7 : W.frozen? ⟨ub, 7, none⟩ = false := hu.bx.frozen 7
  have x8 : W.cell? ⟨ub, 8, none⟩ = some (.int .i64 t.on) := (hu.bx.cell 8).trans rfl
  have y8 : W.frozen? ⟨ub, 8, none⟩ = false := hu.bx.frozen 8
  have x9 : W.cell? ⟨ub, 9, none⟩ = some (.slice a1 t.frames.length c1) := (hu.bx.cell 9).trans rfl
  have y9 : W.frozen? ⟨ub, 9, none⟩ = false := hu.bx.frozen 9
  have x10 : W.cell? ⟨ub, 10, none⟩ = some (.slice s1 t.stack.length d1) := (hu.bx.cell 10).trans rfl
  have y10 : W.frozen? ⟨ub, 10, none⟩ = false := hu.bx.frozen 10
  have x11 : W.cell? ⟨ub, 11, none⟩ = some (.int .i64 t.code) := (hu.bx.cell 11).trans rfl
  have y11 : W.frozen? ⟨ub, 11, none⟩ = false := hu.bx.frozen 11
  have x12 : W.cell? ⟨ub, 12, none⟩ = some (.int .i64 a) := (hu.bx.cell 12).trans rfl
  have y12 : W.frozen? ⟨ub, 12, none⟩ = false := hu.bx.frozen 12
  have x13 : W.cell? ⟨ub, 13, none⟩ = some (.int .i64 q0.kind) := (hu.bx.cell 13).trans rfl
  have y13 : W.frozen? ⟨ub, 13, none⟩ = false := hu.bx.frozen 13
  have x14 : W.cell? ⟨ub, 14, none⟩ = some (.int .i64 q0.a) := (hu.bx.cell 14).trans rfl
  have y14 : W.frozen? ⟨ub, 14, none⟩ = false := hu.bx.frozen 14
  have x15 : W.cell? ⟨ub, 15, none⟩ = some (.int .i64 q0.v) := (hu.bx.cell 15).trans rfl
  have y15 : W.frozen? ⟨ub, 15, none⟩ = false := hu.bx.frozen 15
  obtain ⟨hi0, hi1, hi8⟩ := hi
  obtain ⟨i, rfl⟩ := Int.eq_ofNat_of_zero_le hi0
  have hg := get_all ⟨a1, c1, s1, d1⟩ t i W.drew _ (RT.drew hu.rt) hm.1 hm.2.1 (by omega) hi8
  have HL := Lib.hid hl; have HG := Lib.hid hg
  clear hu hl hg
  have hd : deedV p t ⟨5, (i : Int)⟩ = goV (pushAll t [getT t i]).2 (pushAll t [getT t i]).1 q0 2 := pushV_eq t _
  rw [hd]
  clear hd
  generalize getT t i = z at *
  go_enter Try.func67, Try.ntmps67
  go_upto_region 0 with fail
  go_region_law (first
    | (go_simp; with_reducible refine HG.out.mono ?_
       rintro e W1 ⟨rfl, hb⟩
       have hbw : Below W.heap.size W W1 := ((Below.refl _ _).drew).trans hb
       have HB := Lib.hid hbw
       have hs := hbw.size
       clear hb hbw)
    | (go_simp; with_reducible refine (upush_any ⟨fA, fc, cA, cc, sA, sc, hA, hc, xA, xc⟩ p ⟨a1, c1, s1, d1⟩ t (i : Int) q0 [z] (some ⟨W1.heap.size, 0, none⟩) 1 1 _ ub B ((HU.out.below HB.out).below ((Below.refl _ _).alloc (Nat.le_refl _) _)) HL.out (ri_new W1 [z]) (by omega)).mono ?_
       rintro e W2 ⟨rfl, hq, hf⟩))
  all_goals
    go_wp2_with fail
    go_end0
    exact ⟨rfl, hq, ((((Fr.of_below HB.out).mono (S := fun i => i = ub) (fun j hj hT => by omega)).alloc _).trans hf (fun i _ h => h))⟩
set_option maxHeartbeats 4000000 in
set_option maxRecDepth 100000 in
theorem deed7 (h : PH) (p : PV) (ht : TH) (t : TV) (a : Int) (W : World) (ub B : Nat) (hu : US W ub B h p ht t a q0) (hl : LensT t) (hm : 1 ≤ t.frames.length ∧ t.frames.length ≤ 1000000 ∧ t.stack.length ≤ 1000000) :
    Calls Try.prog 72 #[.pointer (some ⟨ub, 0, none⟩)] W fun e W' => e = .returned (.tuple #[]) ∧ (∃ ht' : TH, US W' ub B h p ht' (deedV p t ⟨7, a⟩).1 a (deedV p t ⟨7, a⟩).2) ∧ Fr (fun i => i = ub) W W' := by
  obtain ⟨fA, fc, cA, cc, sA, sc, hA, hc, xA, xc⟩ := h
  obtain ⟨a1, c1, s1, d1⟩ := ht
  have HU := Lib.hid hu
  have hul := hu.bx.lt
  have x0 : W.cell? ⟨ub, 0, none⟩ = some (.slice fA p.funcs.length fc) := (hu.bx.cell 0).trans rfl
  have y0 : W.frozen? ⟨ub, 0, none⟩ = false := hu.bx.frozen 0
  have x1 : W.cell? ⟨ub, 1, none⟩ = some (.int .i64 p.mutexes) := (hu.bx.cell 1).trans rfl
  have y1 : W.frozen? ⟨ub, 1, none⟩ = false := hu.bx.frozen 1
  have x2 : W.cell? ⟨ub, 2, none⟩ = some (.slice cA p.conds.length cc) := (hu.bx.cell 2).trans rfl
  have y2 : W.frozen? ⟨ub, 2, none⟩ = false := hu.bx.frozen 2
  have x3 : W.cell? ⟨ub, 3, none⟩ = some (.slice sA p.semas.length sc) := (hu.bx.cell 3).trans rfl
  have y3 : W.frozen? ⟨ub, 3, none⟩ = false := hu.bx.frozen 3
  have x4 : W.cell? ⟨ub, 4, none⟩ = some (.slice hA p.chans.length hc) := (hu.bx.cell 4).trans rfl
  have y4 : W.frozen? ⟨ub, 4, none⟩ = false := hu.bx.frozen 4
  have x5 : W.cell? ⟨ub, 5, none⟩ = some (.slice xA p.choices.length xc) := (hu.bx.cell 5).trans rfl
  have y5 : W.frozen? ⟨ub, 5, none⟩ = false := hu.bx.frozen 5
  have x6 : W.cell? ⟨ub, 6, none⟩ = some (.int .i64 p.threads) := (hu.bx.cell 6).trans rfl
  have y6 : W.frozen? ⟨ub, 6, none⟩ = false := hu.bx.frozen 6
  have x7 : W.cell? ⟨ub, 7, none⟩ = some (.int .i64 t.state) := (hu.bx.cell 7).trans rfl
  have y7 : W.frozen? ⟨ub, 7, none⟩ = false := hu.bx.frozen 7
  have x8 : W.cell? ⟨ub, 8, none⟩ = some (.int .i64 t.on) := (hu.bx.cell 8).trans rfl
  have y8 : W.frozen? ⟨ub, 8, none⟩ = false := hu.bx.frozen 8
  have x9 : W.cell? ⟨ub, 9, none⟩ = some (.slice a1 t.frames.length c1) := (hu.bx.cell 9).trans rfl
  have y9 : W.frozen? ⟨ub, 9, none⟩ = false := hu.bx.frozen 9
  have x10 : W.cell? ⟨ub, 10, none⟩ = some (.slice s1 t.stack.length d1) := (hu.bx.cell 10).trans rfl
  have y10 : W.frozen? ⟨ub, 10, none⟩ = false := hu.bx.frozen 10
  have x11 : W.cell? ⟨ub, 11, none⟩ = some (.int .i64 t.code) := (hu.bx.cell 11).trans rfl
  have y11 : W.frozen? ⟨ub, 11, none⟩ = false := hu.bx.frozen 11
  have x12 : W.cell? ⟨ub, 12, none⟩ = some (.int .i64 a) := (hu.bx.cell 12).trans rfl
  have y12 : W.frozen? ⟨ub, 12, none⟩ = false := hu.bx.frozen 12
  have x13 : W.cell? ⟨ub, 13, none⟩ = some (.int .i64 q0.kind) := (hu.bx.cell 13).trans rfl
  have y13 : W.frozen? ⟨ub, 13, none⟩ = false := hu.bx.frozen 13
  have x14 : W.cell? ⟨ub, 14, none⟩ = some (.int .i64 q0.a) := (hu.bx.cell 14).trans rfl
  have y14 : W.frozen? ⟨ub, 14, none⟩ = false := hu.bx.frozen 14
  have x15 : W.cell? ⟨ub, 15, none⟩ = some (.int .i64 q0.v) := (hu.bx.cell 15).trans rfl
  have y15 : W.frozen? ⟨ub, 15, none⟩ = false := hu.bx.frozen 15
  have hg := jump_all ⟨a1, c1, s1, d1⟩ t a W.drew _ (RT.drew hu.rt) hl hm.1 hm.2.1 _ rfl
  have HG := Lib.hid hg
  clear hu hl hg
  have hd : deedV p t ⟨7, a⟩ = (jumpT t a, q0) := rfl
  rw [hd]
  clear hd
  simp only
  generalize jumpT t a = t2 at *
  go_enter Try.func72, Try.ntmps72
  go_upto_region 0 with fail
  go_region_law (go_simp; with_reducible refine HG.out.mono ?_
                 rintro e W1 ⟨⟨a2, c2, s2, d2⟩, rfl, hrt, hb⟩
                 have hbw : Below W.heap.size W W1 := ((Below.refl _ _).drew).trans hb
                 have hr2 := hrt.mono (E := fun i => B ≤ i ∧ i ≠ ub) (fun i hi _ => by rcases hi with hi | hi; exact hi; have := hi; simp at this; (first | omega | (have hBu := HU.out.hB; omega) | (have hBu := HU1.out.hB; omega) | (have hBu := HUS.out.hB; omega)))
                 have HB := Lib.hid hbw; have HR2 := Lib.hid hr2
                 have hu1 := HU.out.below hbw
                 have hs := hbw.size
                 clear hb hbw hrt hr2
                 have x7 : W1.cell? ⟨ub, 7, none⟩ = some (.int .i64 t.state) := (hu1.bx.cell 7).trans rfl
                 have y7 : W1.frozen? ⟨ub, 7, none⟩ = false := hu1.bx.frozen 7
                 have x8 : W1.cell? ⟨ub, 8, none⟩ = some (.int .i64 t.on) := (hu1.bx.cell 8).trans rfl
                 have y8 : W1.frozen? ⟨ub, 8, none⟩ = false := hu1.bx.frozen 8
                 have x9 : W1.cell? ⟨ub, 9, none⟩ = some (.slice a1 t.frames.length c1) := (hu1.bx.cell 9).trans rfl
                 have y9 : W1.frozen? ⟨ub, 9, none⟩ = false := hu1.bx.frozen 9
                 have x10 : W1.cell? ⟨ub, 10, none⟩ = some (.slice s1 t.stack.length d1) := (hu1.bx.cell 10).trans rfl
                 have y10 : W1.frozen? ⟨ub, 10, none⟩ = false := hu1.bx.frozen 10
                 have x11 : W1.cell? ⟨ub, 11, none⟩ = some (.int .i64 t.code) := (hu1.bx.cell 11).trans rfl
                 have y11 : W1.frozen? ⟨ub, 11, none⟩ = false := hu1.bx.frozen 11
                 have hul1 := hu1.bx.lt
                 clear hu1)
  all_goals
    go_wp2_with fail
    go_end0
    have hs := HU.out.setT HB.out HR2.out
    exact ⟨rfl, ⟨_, hs.1⟩, hs.2⟩
set_option maxHeartbeats 4000000 in
set_option maxRecDepth 100000 in
theorem deed10 (h : PH) (p : PV) (ht : TH) (t : TV) (a : Int) (W : World) (ub B : Nat) (hu : US W ub B h p ht t a q0) (hl : LensT t) (hm : 1 ≤ t.frames.length ∧ t.frames.length ≤ 1000000 ∧ t.stack.length ≤ 1000000) :
    Calls Try.prog 78 #[.pointer (some ⟨ub, 0, none⟩)] W fun e W' => e = .returned (.tuple #[]) ∧ (∃ ht' : TH, US W' ub B h p ht' (deedV p t ⟨10, a⟩).1 a (deedV p t ⟨10, a⟩).2) ∧ Fr (fun i => i = ub) W W' := by
  obtain ⟨fA, fc, cA, cc, sA, sc, hA, hc, xA, xc⟩ := h
  obtain ⟨a1, c1, s1, d1⟩ := ht
  have HU := Lib.hid hu
  have hul := hu.bx.lt
  have HL := Lib.hid hl
  clear hu hl
  have hd : deedV p t ⟨10, a⟩ = goV (decide (1 < t.frames.length)) (leaveT t) q0 0 := by
    by_cases hc : 1 < t.frames.length
    · simp [deedV, goV, hc]
    · simp [deedV, goV, hc, endV]
  rw [hd]
  clear hd
  go_enter Try.func78, Try.ntmps78
  go_wp2_with fail
  refine (uleave_any ⟨fA, fc, cA, cc, sA, sc, hA, hc, xA, xc⟩ p ⟨a1, c1, s1, d1⟩ t a q0 W ub B HU.out HL.out hm.1 hm.2.1).mono ?_
  rintro e W1 ⟨rfl, hq, hf⟩
  go_wp2_with fail
  go_end0
  exact ⟨rfl, hq, hf⟩
set_option maxHeartbeats 4000000 in
set_option maxRecDepth 100000 in
theorem deed26 (h : PH) (p : PV) (ht : TH) (t : TV) (a : Int) (W : World) (ub B : Nat) (hu : US W ub B h p ht t a q0) (hl : LensT t) (hm : 1 ≤ t.frames.length ∧ t.frames.length ≤ 1000000 ∧ t.stack.length ≤ 1000000) :
    Calls Try.prog 80 #[.pointer (some ⟨ub, 0, none⟩)] W fun e W' => e = .returned (.tuple #[]) ∧ (∃ ht' : TH, US W' ub B h p ht' (deedV p t ⟨26, a⟩).1 a (deedV p t ⟨26, a⟩).2) ∧ Fr (fun i => i = ub) W W' := by
  obtain ⟨fA, fc, cA, cc, sA, sc, hA, hc, xA, xc⟩ := h
  obtain ⟨a1, c1, s1, d1⟩ := ht
  have HU := Lib.hid hu
  have hul := hu.bx.lt
  clear hu hl
  go_enter Try.func80, Try.ntmps80
  go_wp2_with fail
  refine (uend_any ⟨fA, fc, cA, cc, sA, sc, hA, hc, xA, xc⟩ p ⟨a1, c1, s1, d1⟩ t a q0 0 W ub B HU.out).mono ?_
  rintro e W1 ⟨rfl, hq, hf⟩
  go_wp2_with fail
  go_end0
  exact ⟨rfl, hq, hf⟩
end Go.Proofs.Ytkciedcfphhenaa
