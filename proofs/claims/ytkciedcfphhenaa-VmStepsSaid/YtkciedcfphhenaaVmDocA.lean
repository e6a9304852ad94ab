
/-
  VmK, VmQ, VmR, VmRa, VmRb in one text.
-/
import Derived.Test.YtkciedcfphhenaaVmRun
import Derived.Deep.RegionHeld3
import Derived.Deep.DeepCutAuto
import Derived.Deep.CutBlock
import Derived.Deep.QuietTactic
import Derived.BigQuiet
import Derived.IntWalk
set_option linter.unusedVariables false
set_option linter.unusedSimpArgs false
namespace Go.Proofs.Ytkciedcfphhenaa
section
open Go.RowKit Plain

theorem Blk.set2 {w : World} {g : Nat} {t : TypeId} {v0 v1 : Value} (h : Blk w g t #[v0, v1]) (u0 u1 : Value) : Blk ((w.setCell ⟨g, 0, none⟩ u0).setCell ⟨g, 1, none⟩ u1) g t #[u0, u1] := by
  simpa using (h.set_ 0 u0).set_ 1 u1
set_option maxHeartbeats 4000000 in
set_option maxRecDepth 100000 in
theorem refFetch_any (h : PH) (p : PV) (ht : TH) (t : TV) (w : World) (D : Nat → Prop) (hrp : RP w w.heap.size h p) (hr : RT w D ht t) (hm : 1 ≤ t.frames.length ∧ t.frames.length ≤ 1000000) (n c : Nat) (hn : (lastFr t).func = (n : Int)) (hnl : n < p.funcs.length) (hc : (lastFr t).pc = (c : Int)) (hcl : (funcAt p (n : Int)).code.length ≤ 1000000) (hc6 : c ≤ 1000000) (hpl : p.funcs.length ≤ 1000000) :
    Calls Try.prog 33 #[.agg #[.slice h.fA p.funcs.length h.fc, .int .i64 p.mutexes, .slice h.cA p.conds.length h.cc, .slice h.sA p.semas.length h.sc, .slice h.hA p.chans.length h.hc, .slice h.xA p.choices.length h.xc, .int .i64 p.threads], .agg #[.int .i64 t.state, .int .i64 t.on, .slice ht.fA t.frames.length ht.fc, .slice ht.sA t.stack.length ht.sc, .int .i64 t.code]] w fun e w' => e = .returned (atV ((funcAt p (n : Int)).code[c]?)) ∧ Below w.heap.size w w' := by
  obtain ⟨k, hk, hkl⟩ := lastFr_ex hm.1
  have hrg := hr.frames.rg
  obtain ⟨ad, y, hEA, hab, hy, y0, y1, y2, _⟩ := hrg.at_ (k := k) (by omega)
  have hsp : ad.spot = none := by obtain ⟨ts, _, _, _, h4, _⟩ := hrg; rw [hEA] at h4; exact h4.spot (by omega) (by omega)
  have hyl : y.f = lastFr t := by rw [hy] at hkl; injection hkl
  have hrf := hrp.funcs
  obtain ⟨ap, z, hP, hpb, hz, z0, z1, hzc⟩ := hrf.at_ hnl
  have hsq : ap.spot = none := by obtain ⟨ts, _, _, _, h4, _⟩ := hrf; rw [hP] at h4; exact h4.spot (by omega) (by omega)
  have hzl : funcAt p (n : Int) = z.f := by unfold funcAt; rw [show ((n : Int)).toNat = n by omega, List.getD_eq_getElem?_getD, hz]; rfl
  rw [hzl] at hcl ⊢
  rw [hyl, hn] at y0
  rw [hyl, hc] at y1
  obtain ⟨bA, oA, pA⟩ := ad
  obtain ⟨bP, oP, pP⟩ := ap
  obtain ⟨a1, c1, s1, d1⟩ := ht
  obtain ⟨fA, fc, cA, cc, sA, sc, hA, hc', xA, xc⟩ := h
  simp only at hEA hP hsp hsq hab hpb
  subst hsp hsq hEA hP
  have ha1 : ((⟨bA, oA, none⟩ : Addr).add (k * 3)) = ⟨bA, oA + k * 3, none⟩ := by unfold Addr.add; by_cases h0 : k * 3 = 0 <;> simp [h0]
  have ha2 : ((⟨bP, oP, none⟩ : Addr).add (n * 2)) = ⟨bP, oP + n * 2, none⟩ := by unfold Addr.add; by_cases h0 : n * 2 = 0 <;> simp [h0]
  rw [ha1] at y0 y1 y2
  rw [ha2] at z1
  simp only at y1 y2 z1
  simp only [hk]
  have hk6 : k < 1000000 := by omega
  have hnn : (n : Int) < (p.funcs.length : Int) := by omega
  have ik : (k : Int) < (k : Int) + 1 := by omega
  by_cases hcc : c < z.f.code.length
  · have hci : (c : Int) < (z.f.code.length : Int) := by omega
    have hce : decide ((z.f.code.length : Int) ≤ (c : Int)) = false := decide_eq_false (by omega)
    obtain ⟨ac, i, hCA, hcb, hic, i0, i1⟩ := hzc.at_ hcc
    have hss : ac.spot = none := by obtain ⟨_, _, h4⟩ := hzc; rw [hCA] at h4; exact h4.spot (by omega) (by omega)
    rw [hCA] at z1
    obtain ⟨bC, oC, pC⟩ := ac
    simp only at hss hcb
    subst hss
    have ha3 : ((⟨bC, oC, none⟩ : Addr).add (c * 2)) = ⟨bC, oC + c * 2, none⟩ := by unfold Addr.add; by_cases h0 : c * 2 = 0 <;> simp [h0]
    rw [ha3] at i0 i1
    simp only at i1
    rw [hic]
    clear hrp hr hm hn hc hrg hrf hy hz hzc hzl hyl hkl hk ha1 ha2 ha3 z0 hcl hCA hic
    go_enter Try.func33, Try.ntmps33
    go_upto_region 1 with fail
    obtain ⟨W3, hW3⟩ : ∃ W, W = ((w.alloc (.cells #[.slice (some ⟨bP, oP, none⟩) p.funcs.length fc, .int .i64 p.mutexes, .slice cA p.conds.length cc, .slice sA p.semas.length sc, .slice hA p.chans.length hc', .slice xA p.choices.length xc, .int .i64 p.threads] 26)).alloc (.cells #[.int .i64 t.state, .int .i64 t.on, .slice (some ⟨bA, oA, none⟩) (k + 1) c1, .slice s1 t.stack.length d1, .int .i64 t.code] 29)).alloc (.cells #[.int .i64 0, .int .i64 0] 57) := ⟨_, rfl⟩
    have hb3 : Below w.heap.size w W3 := by rw [hW3]; exact (((Below.refl w.heap.size w).alloc (Nat.le_refl _) _).alloc (by simp) _).alloc (by simp; omega) _
    have hz3 : W3.heap.size = w.heap.size + 1 + 1 + 1 := by rw [hW3]; simp
    have q0 : W3.cell? ⟨w.heap.size + 1, 2, none⟩ = some (.slice (some ⟨bA, oA, none⟩) (k + 1) c1) := by rw [hW3]; exact (((Blk.alloc (by simpa using Blk.new (w.alloc (.cells #[.slice (some ⟨bP, oP, none⟩) p.funcs.length fc, .int .i64 p.mutexes, .slice cA p.conds.length cc, .slice sA p.semas.length sc, .slice hA p.chans.length hc', .slice xA p.choices.length xc, .int .i64 p.threads] 26)) 29 #[.int .i64 t.state, .int .i64 t.on, .slice (some ⟨bA, oA, none⟩) (k + 1) c1, .slice s1 t.stack.length d1, .int .i64 t.code]) _ : Blk _ _ 29 #[.int .i64 t.state, .int .i64 t.on, .slice (some ⟨bA, oA, none⟩) (k + 1) c1, .slice s1 t.stack.length d1, .int .i64 t.code])).cell 2).trans rfl
    have q1 : W3.cell? ⟨w.heap.size, 0, none⟩ = some (.slice (some ⟨bP, oP, none⟩) p.funcs.length fc) := by rw [hW3]; exact ((((Blk.new w _ _).alloc _).alloc _).cell 0).trans rfl
    rw [← hW3]
    have c0 := (hb3.cell (p := ⟨bA, oA + k * 3, none⟩) hab).trans y0
    have c1' := (hb3.cell (p := ⟨bA, oA + k * 3 + 1, none⟩) hab).trans y1
    have c2 := (hb3.cell (p := ⟨bA, oA + k * 3 + 2, none⟩) hab).trans y2
    have HB3 := Lib.hid hb3
    have hrz : Blk W3 (w.heap.size + 1 + 1) 57 #[.int .i64 0, .int .i64 0] := by rw [hW3]; simpa using Blk.new ((w.alloc (.cells #[.slice (some ⟨bP, oP, none⟩) p.funcs.length fc, .int .i64 p.mutexes, .slice cA p.conds.length cc, .slice sA p.semas.length sc, .slice hA p.chans.length hc', .slice xA p.choices.length xc, .int .i64 p.threads] 26)).alloc (.cells #[.int .i64 t.state, .int .i64 t.on, .slice (some ⟨bA, oA, none⟩) (k + 1) c1, .slice s1 t.stack.length d1, .int .i64 t.code] 29)) 57 #[.int .i64 0, .int .i64 0]
    have HRZ := Lib.hid hrz
    clear hW3 hb3 y0 y1 y2 hrz
    go_upto_region 2 with fail
    obtain ⟨W4, hW4⟩ : ∃ W, W = W3.alloc (.cells #[.int .i64 (n : Int), .int .i64 (c : Int), .slice y.A y.f.locals.length y.c] 67) := ⟨_, rfl⟩
    have hb4 : Below w.heap.size w W4 := by rw [hW4]; exact HB3.out.alloc (by omega) _
    have hf4 : Blk W4 (w.heap.size + 1 + 1 + 1) 67 #[.int .i64 (n : Int), .int .i64 (c : Int), .slice y.A y.f.locals.length y.c] := by rw [hW4, ← hz3]; exact Blk.new _ _ _
    have hr4 : Blk W4 (w.heap.size + 1 + 1) 57 #[.int .i64 0, .int .i64 0] := by rw [hW4]; exact HRZ.out.alloc _
    have e1 : W4.cell? ⟨w.heap.size, 0, none⟩ = some (.slice (some ⟨bP, oP, none⟩) p.funcs.length fc) := by rw [hW4]; exact (World.cell?_alloc_lt _ _ _ (show w.heap.size < _ by omega)).trans q1
    rw [← hW4]
    have g0 := (hf4.cell 0).trans rfl
    have g1 := (hf4.cell 1).trans rfl
    have v1 := (hb4.cell (p := ⟨bP, oP + n * 2 + 1, none⟩) hpb).trans z1
    have j0 := (hb4.cell (p := ⟨bC, oC + c * 2, none⟩) hcb).trans i0
    have j1 := (hb4.cell (p := ⟨bC, oC + c * 2 + 1, none⟩) hcb).trans i1
    have r0 := (hr4.cell 0).trans rfl
    have r1 := (hr4.cell 1).trans rfl
    have y0 := hr4.frozen 0
    have y1 := hr4.frozen 1
    have HB4 := Lib.hid hb4; have HR4 := Lib.hid hr4
    have hlt4 := hr4.lt
    clear hW4 hb4 hf4 q0 q1 c0 c1' c2 z1 hr4 HB3 HRZ hz3
    go_wp2_with fail
    refine bodyPost_ret (v := .tuple #[.agg #[.int .i64 i.op, .int .i64 i.a], .bool true]) (results_cell_slot rfl _ _ (w.heap.size + 1 + 1) 57 _ (0, 0) _ _ rfl rfl (Blk.set2 HR4.out _ _) Try.underlying57 rfl (by kernel_rfl)) rfl ?_
    exact ⟨rfl, (HB4.out.setCell (by simp; omega) _).setCell (by simp; omega) _⟩
  · have hci : ¬ (c : Int) < (z.f.code.length : Int) := by omega
    have hce : (z.f.code.length : Int) ≤ (c : Int) := by omega
    rw [List.getElem?_eq_none (by omega)]
    clear hrp hr hm hn hc hrg hrf hy hz hzc hzl hyl hkl hk ha1 ha2 z0 hcl
    go_enter Try.func33, Try.ntmps33
    go_upto_region 1 with fail
    obtain ⟨W3, hW3⟩ : ∃ W, W = ((w.alloc (.cells #[.slice (some ⟨bP, oP, none⟩) p.funcs.length fc, .int .i64 p.mutexes, .slice cA p.conds.length cc, .slice sA p.semas.length sc, .slice hA p.chans.length hc', .slice xA p.choices.length xc, .int .i64 p.threads] 26)).alloc (.cells #[.int .i64 t.state, .int .i64 t.on, .slice (some ⟨bA, oA, none⟩) (k + 1) c1, .slice s1 t.stack.length d1, .int .i64 t.code] 29)).alloc (.cells #[.int .i64 0, .int .i64 0] 57) := ⟨_, rfl⟩
    have hb3 : Below w.heap.size w W3 := by rw [hW3]; exact (((Below.refl w.heap.size w).alloc (Nat.le_refl _) _).alloc (by simp) _).alloc (by simp; omega) _
    have hz3 : W3.heap.size = w.heap.size + 1 + 1 + 1 := by rw [hW3]; simp
    have q0 : W3.cell? ⟨w.heap.size + 1, 2, none⟩ = some (.slice (some ⟨bA, oA, none⟩) (k + 1) c1) := by rw [hW3]; exact (((Blk.alloc (by simpa using Blk.new (w.alloc (.cells #[.slice (some ⟨bP, oP, none⟩) p.funcs.length fc, .int .i64 p.mutexes, .slice cA p.conds.length cc, .slice sA p.semas.length sc, .slice hA p.chans.length hc', .slice xA p.choices.length xc, .int .i64 p.threads] 26)) 29 #[.int .i64 t.state, .int .i64 t.on, .slice (some ⟨bA, oA, none⟩) (k + 1) c1, .slice s1 t.stack.length d1, .int .i64 t.code]) _ : Blk _ _ 29 #[.int .i64 t.state, .int .i64 t.on, .slice (some ⟨bA, oA, none⟩) (k + 1) c1, .slice s1 t.stack.length d1, .int .i64 t.code])).cell 2).trans rfl
    have q1 : W3.cell? ⟨w.heap.size, 0, none⟩ = some (.slice (some ⟨bP, oP, none⟩) p.funcs.length fc) := by rw [hW3]; exact ((((Blk.new w _ _).alloc _).alloc _).cell 0).trans rfl
    rw [← hW3]
    have c0 := (hb3.cell (p := ⟨bA, oA + k * 3, none⟩) hab).trans y0
    have c1' := (hb3.cell (p := ⟨bA, oA + k * 3 + 1, none⟩) hab).trans y1
    have c2 := (hb3.cell (p := ⟨bA, oA + k * 3 + 2, none⟩) hab).trans y2
    have HB3 := Lib.hid hb3
    have hrz : Blk W3 (w.heap.size + 1 + 1) 57 #[.int .i64 0, .int .i64 0] := by rw [hW3]; simpa using Blk.new ((w.alloc (.cells #[.slice (some ⟨bP, oP, none⟩) p.funcs.length fc, .int .i64 p.mutexes, .slice cA p.conds.length cc, .slice sA p.semas.length sc, .slice hA p.chans.length hc', .slice xA p.choices.length xc, .int .i64 p.threads] 26)).alloc (.cells #[.int .i64 t.state, .int .i64 t.on, .slice (some ⟨bA, oA, none⟩) (k + 1) c1, .slice s1 t.stack.length d1, .int .i64 t.code] 29)) 57 #[.int .i64 0, .int .i64 0]
    have HRZ := Lib.hid hrz
    clear hW3 hb3 y0 y1 y2 hrz
    go_upto_region 2 with fail
    obtain ⟨W4, hW4⟩ : ∃ W, W = W3.alloc (.cells #[.int .i64 (n : Int), .int .i64 (c : Int), .slice y.A y.f.locals.length y.c] 67) := ⟨_, rfl⟩
    have hb4 : Below w.heap.size w W4 := by rw [hW4]; exact HB3.out.alloc (by omega) _
    have hf4 : Blk W4 (w.heap.size + 1 + 1 + 1) 67 #[.int .i64 (n : Int), .int .i64 (c : Int), .slice y.A y.f.locals.length y.c] := by rw [hW4, ← hz3]; exact Blk.new _ _ _
    have hr4 : Blk W4 (w.heap.size + 1 + 1) 57 #[.int .i64 0, .int .i64 0] := by rw [hW4]; exact HRZ.out.alloc _
    have e1 : W4.cell? ⟨w.heap.size, 0, none⟩ = some (.slice (some ⟨bP, oP, none⟩) p.funcs.length fc) := by rw [hW4]; exact (World.cell?_alloc_lt _ _ _ (show w.heap.size < _ by omega)).trans q1
    rw [← hW4]
    have g0 := (hf4.cell 0).trans rfl
    have g1 := (hf4.cell 1).trans rfl
    have v1 := (hb4.cell (p := ⟨bP, oP + n * 2 + 1, none⟩) hpb).trans z1
    have r0 := (hr4.cell 0).trans rfl
    have r1 := (hr4.cell 1).trans rfl
    have y0 := hr4.frozen 0
    have y1 := hr4.frozen 1
    have HB4 := Lib.hid hb4; have HR4 := Lib.hid hr4
    have hlt4 := hr4.lt
    clear hW4 hb4 hf4 q0 q1 c0 c1' c2 z1 hr4 HB3 HRZ hz3
    go_wp2_with fail
    refine bodyPost_ret (v := .tuple #[.agg #[.int .i64 0, .int .i64 0], .bool false]) (results_cell_slot rfl _ _ (w.heap.size + 1 + 1) 57 _ (0, 0) _ _ rfl rfl (Blk.set2 HR4.out _ _) Try.underlying57 rfl (by kernel_rfl)) rfl ?_
    exact ⟨rfl, (HB4.out.setCell (by simp; omega) _).setCell (by simp; omega) _⟩
end

section
open Go.RowKit Plain
def Plain.needsV (op : Int) : Int := if op = 1 ∨ op = 2 ∨ op = 6 ∨ op = 8 ∨ op = 13 ∨ op = 14 ∨ op = 22 ∨ op = 25 then 1 else if op = 3 ∨ op = 4 then 2 else 0

set_option maxHeartbeats 8000000 in
theorem refNeeds_any (op : Int) (w : World) (hop : 0 ≤ op ∧ op ≤ 26) : Calls Try.prog 36 #[.int .i64 op] w fun e w' => e = .returned (.int .i64 (needsV op)) ∧ w' = w := by
  have hc : op = 0 ∨ op = 1 ∨ op = 2 ∨ op = 3 ∨ op = 4 ∨ op = 5 ∨ op = 6 ∨ op = 7 ∨ op = 8 ∨ op = 9 ∨ op = 10 ∨ op = 11 ∨ op = 12 ∨ op = 13 ∨ op = 14 ∨ op = 15 ∨ op = 16 ∨ op = 17 ∨ op = 18 ∨ op = 19 ∨ op = 20 ∨ op = 21 ∨ op = 22 ∨ op = 23 ∨ op = 24 ∨ op = 25 ∨ op = 26 := by omega
  rcases hc with rfl | rfl | rfl | rfl | rfl | rfl | rfl | rfl | rfl | rfl | rfl | rfl | rfl | rfl | rfl | rfl | rfl | rfl | rfl | rfl | rfl | rfl | rfl | rfl | rfl | rfl | rfl
  all_goals
    go_enter Try.func36, Try.ntmps36
    go_wp2_with fail
    go_ret
    exact ⟨rfl, rfl⟩
set_option maxHeartbeats 8000000 in
theorem refKind_any (op : Int) (w : World) (hop : 0 ≤ op ∧ op ≤ 26) : Calls Try.prog 38 #[.int .i64 op] w fun e w' => e = .returned (.int .i64 (kindV op)) ∧ w' = w := by
  have hc : op = 0 ∨ op = 1 ∨ op = 2 ∨ op = 3 ∨ op = 4 ∨ op = 5 ∨ op = 6 ∨ op = 7 ∨ op = 8 ∨ op = 9 ∨ op = 10 ∨ op = 11 ∨ op = 12 ∨ op = 13 ∨ op = 14 ∨ op = 15 ∨ op = 16 ∨ op = 17 ∨ op = 18 ∨ op = 19 ∨ op = 20 ∨ op = 21 ∨ op = 22 ∨ op = 23 ∨ op = 24 ∨ op = 25 ∨ op = 26 := by omega
  rcases hc with rfl | rfl | rfl | rfl | rfl | rfl | rfl | rfl | rfl | rfl | rfl | rfl | rfl | rfl | rfl | rfl | rfl | rfl | rfl | rfl | rfl | rfl | rfl | rfl | rfl | rfl | rfl
  all_goals
    go_enter Try.func38, Try.ntmps38
    go_wp2_with fail
    go_ret
    exact ⟨rfl, rfl⟩

theorem two_boxes {w wr : World} {b : Nat} {v0 v1 v2 v3 v4 q0 q1 q2 : Value} (h0 : Blk wr b 29 #[.int .i64 0, .int .i64 0, .slice none 0 0, .slice none 0 0, .int .i64 0]) (h1 : Blk wr (b + 1) 37 #[.int .i64 0, .int .i64 0, .int .i64 0]) (hb : Below w.heap.size w wr) (hlt : w.heap.size ≤ b) :
    Blk (((((((((wr.setCell ⟨b, 0, none⟩ v0).setCell ⟨b, 1, none⟩ v1).setCell ⟨b, 2, none⟩ v2).setCell ⟨b, 3, none⟩ v3).setCell ⟨b, 4, none⟩ v4).setCell ⟨b + 1, 0, none⟩ q0).setCell ⟨b + 1, 1, none⟩ q1).setCell ⟨b + 1, 2, none⟩ q2)) b 29 #[v0, v1, v2, v3, v4] ∧
    Blk (((((((((wr.setCell ⟨b, 0, none⟩ v0).setCell ⟨b, 1, none⟩ v1).setCell ⟨b, 2, none⟩ v2).setCell ⟨b, 3, none⟩ v3).setCell ⟨b, 4, none⟩ v4).setCell ⟨b + 1, 0, none⟩ q0).setCell ⟨b + 1, 1, none⟩ q1).setCell ⟨b + 1, 2, none⟩ q2)) (b + 1) 37 #[q0, q1, q2] ∧
    Fr (fun i => i = b ∨ i = b + 1) wr (((((((((wr.setCell ⟨b, 0, none⟩ v0).setCell ⟨b, 1, none⟩ v1).setCell ⟨b, 2, none⟩ v2).setCell ⟨b, 3, none⟩ v3).setCell ⟨b, 4, none⟩ v4).setCell ⟨b + 1, 0, none⟩ q0).setCell ⟨b + 1, 1, none⟩ q1).setCell ⟨b + 1, 2, none⟩ q2)) := by
  refine ⟨(((Blk.set5 h0 _ _ _ _ _).far (by simp) _).far (by simp) _).far (by simp) _, Blk.set3 (Blk.far5 h1 (by omega) _ _ _ _ _) _ _ _, ?_⟩
  exact ((((Fr.refl _ wr).set5 (.inl (.inl rfl)) _ _ _ _ _).setCell (.inl (.inr rfl)) _).setCell (.inl (.inr rfl)) _).setCell (.inl (.inr rfl)) _

set_option maxHeartbeats 4000000 in
set_option maxRecDepth 100000 in
theorem refEnds_any (c : Int) (w : World) : Calls Try.prog 34 #[.int .i64 c] w fun e w' => e = .returned (.tuple #[.agg #[.int .i64 9, .int .i64 0, .slice none 0 0, .slice none 0 0, .int .i64 c], .agg #[.int .i64 1, .int .i64 0, .int .i64 c]]) ∧ Below w.heap.size w w' := by
  obtain ⟨W2, hW2⟩ : ∃ W, W = (w.alloc (.cells #[.int .i64 0, .int .i64 0, .slice none 0 0, .slice none 0 0, .int .i64 0] 29)).alloc (.cells #[.int .i64 0, .int .i64 0, .int .i64 0] 37) := ⟨_, rfl⟩
  have hb2 : Below w.heap.size w W2 := by rw [hW2]; exact ((Below.refl _ _).alloc (Nat.le_refl _) _).alloc (by simp) _
  have h0 : Blk W2 w.heap.size 29 #[.int .i64 0, .int .i64 0, .slice none 0 0, .slice none 0 0, .int .i64 0] := by rw [hW2]; exact (Blk.new _ _ _).alloc _
  have h1 : Blk W2 (w.heap.size + 1) 37 #[.int .i64 0, .int .i64 0, .int .i64 0] := by rw [hW2]; simpa using Blk.new (w.alloc (.cells #[.int .i64 0, .int .i64 0, .slice none 0 0, .slice none 0 0, .int .i64 0] 29)) 37 #[.int .i64 0, .int .i64 0, .int .i64 0]
  have HW := Lib.hid hW2; have HB := Lib.hid hb2; have H0 := Lib.hid h0; have H1 := Lib.hid h1
  clear hW2 hb2 h0 h1
  go_enter Try.func34, Try.ntmps34
  go_upto_region 1 with fail
  rw [← HW.out]
  clear HW
  go_wp2_with fail
  refine (refEnd_any c _).mono ?_
  rintro e w1 ⟨rfl, hb1⟩
  have h0 := H0.out.below hb1 H0.out.lt
  have h1 := H1.out.below hb1 H1.out.lt
  have hb := HB.out.trans (hb1.mono HB.out.size)
  have r0 := (h0.cell 0).trans rfl
  have y0 := h0.frozen 0
  have r1 := (h0.cell 1).trans rfl
  have y1 := h0.frozen 1
  have r2 := (h0.cell 2).trans rfl
  have y2 := h0.frozen 2
  have r3 := (h0.cell 3).trans rfl
  have y3 := h0.frozen 3
  have r4 := (h0.cell 4).trans rfl
  have y4 := h0.frozen 4
  have s0 := (h1.cell 0).trans rfl
  have z0 := h1.frozen 0
  have s1 := (h1.cell 1).trans rfl
  have z1 := h1.frozen 1
  have s2 := (h1.cell 2).trans rfl
  have z2 := h1.frozen 2
  have HB2 := Lib.hid hb; have K0 := Lib.hid h0; have K1 := Lib.hid h1
  clear hb1 h0 h1 hb
  go_wp2_with fail
  obtain ⟨k0, k1, k2⟩ := two_boxes (v0 := .int .i64 9) (v1 := .int .i64 0) (v2 := .slice none 0 0) (v3 := .slice none 0 0) (v4 := .int .i64 c) (q0 := .int .i64 1) (q1 := .int .i64 0) (q2 := .int .i64 c) K0.out K1.out HB2.out (Nat.le_refl _)
  refine bodyPost_ret (v := .tuple #[.agg #[.int .i64 9, .int .i64 0, .slice none 0 0, .slice none 0 0, .int .i64 c], .agg #[.int .i64 1, .int .i64 0, .int .i64 c]]) (results_cells2 rfl _ _ w.heap.size (w.heap.size + 1) 29 37 _ _ (0, 0) (0, 0) _ _ rfl rfl k0 k1 Try.underlying29 rfl (by kernel_rfl) Try.underlying37 rfl (by kernel_rfl)) rfl ?_
  exact ⟨rfl, HB2.out.trans (k2.below HB2.out.size (fun i e => by omega))⟩

set_option maxHeartbeats 4000000 in
set_option maxRecDepth 100000 in
theorem refPushed_any (ht : TH) (t : TV) (v : Int) (w : World) (D : Nat → Prop) (hr : RT w D ht t) (hl : LensT t) : Calls Try.prog 39 #[.agg #[.int .i64 t.state, .int .i64 t.on, .slice ht.fA t.frames.length ht.fc, .slice ht.sA t.stack.length ht.sc, .int .i64 t.code], .int .i64 v] w fun e w' => ∃ hx : TH, e = .returned (.tuple #[.agg #[.int .i64 (pushV t v).1.state, .int .i64 (pushV t v).1.on, .slice hx.fA (pushV t v).1.frames.length hx.fc, .slice hx.sA (pushV t v).1.stack.length hx.sc, .int .i64 (pushV t v).1.code], .agg #[.int .i64 (pushV t v).2.kind, .int .i64 (pushV t v).2.a, .int .i64 (pushV t v).2.v]]) ∧ RT w' (fun i => (D i ∧ i < w.heap.size) ∨ w.heap.size + 1 + 1 + 1 ≤ i) hx (pushV t v).1 ∧ Below w.heap.size w w' := by
  obtain ⟨W3, hW3⟩ : ∃ W, W = ((w.alloc (.cells #[.int .i64 t.state, .int .i64 t.on, .slice ht.fA t.frames.length ht.fc, .slice ht.sA t.stack.length ht.sc, .int .i64 t.code] 29)).alloc (.cells #[.int .i64 0, .int .i64 0, .slice none 0 0, .slice none 0 0, .int .i64 0] 29)).alloc (.cells #[.int .i64 0, .int .i64 0, .int .i64 0] 37) := ⟨_, rfl⟩
  have hb3 : Below w.heap.size w W3 := by rw [hW3]; exact (((Below.refl _ _).alloc (Nat.le_refl _) _).alloc (by simp) _).alloc (by simp; omega) _
  have hbt : Blk W3 w.heap.size 29 #[.int .i64 t.state, .int .i64 t.on, .slice ht.fA t.frames.length ht.fc, .slice ht.sA t.stack.length ht.sc, .int .i64 t.code] := by rw [hW3]; exact ((Blk.new _ _ _).alloc _).alloc _
  have h0 : Blk W3 (w.heap.size + 1) 29 #[.int .i64 0, .int .i64 0, .slice none 0 0, .slice none 0 0, .int .i64 0] := by rw [hW3]; refine Blk.alloc ?_ _; simpa using Blk.new (w.alloc (.cells #[.int .i64 t.state, .int .i64 t.on, .slice ht.fA t.frames.length ht.fc, .slice ht.sA t.stack.length ht.sc, .int .i64 t.code] 29)) 29 #[.int .i64 0, .int .i64 0, .slice none 0 0, .slice none 0 0, .int .i64 0]
  have h1 : Blk W3 (w.heap.size + 1 + 1) 37 #[.int .i64 0, .int .i64 0, .int .i64 0] := by rw [hW3]; simpa using Blk.new ((w.alloc (.cells #[.int .i64 t.state, .int .i64 t.on, .slice ht.fA t.frames.length ht.fc, .slice ht.sA t.stack.length ht.sc, .int .i64 t.code] 29)).alloc (.cells #[.int .i64 0, .int .i64 0, .slice none 0 0, .slice none 0 0, .int .i64 0] 29)) 37 #[.int .i64 0, .int .i64 0, .int .i64 0]
  have hz3 : W3.heap.size = w.heap.size + 1 + 1 + 1 := by rw [hW3]; simp
  obtain ⟨x, hx⟩ : ∃ x, x = if t.stack.length < 16 then pushT t v else t := ⟨_, rfl⟩
  have hp := refPush_all ht t v W3 (fun i => D i ∧ i < w.heap.size) ((hr.mono (fun i h hl => ⟨h, hl⟩)).below hb3) hl x hx
  have t0 := (hbt.cell 0).trans rfl
  have t1 := (hbt.cell 1).trans rfl
  have t2 := (hbt.cell 2).trans rfl
  have t3 := (hbt.cell 3).trans rfl
  have t4 := (hbt.cell 4).trans rfl
  have HW := Lib.hid hW3; have HB := Lib.hid hb3; have H0 := Lib.hid h0; have H1 := Lib.hid h1; have HZ := Lib.hid hz3
  clear hW3 hb3 h0 h1 hr hl hbt hz3
  by_cases h16 : t.stack.length < 16
  · rw [if_pos h16] at hx
    have hv : pushV t v = (x, q0) := by unfold pushV; rw [if_pos h16, hx]
    rw [hv, decide_eq_true h16] at *
    have HP := Lib.hid hp
    clear hp hx hv h16
    simp only
    go_enter Try.func39, Try.ntmps39
    go_upto_region 1 with fail
    rw [← HW.out]
    clear HW
    go_wp2_with fail
    refine HP.out.mono ?_
    rintro e w1 ⟨hk, rfl, hr1, hb1⟩
    have h0 := H0.out.below hb1 H0.out.lt
    have h1 := H1.out.below hb1 H1.out.lt
    have hb := HB.out.trans (hb1.mono HB.out.size)
    have hbk := Blk.new w1 29 #[.int .i64 x.state, .int .i64 x.on, .slice hk.fA x.frames.length hk.fc, .slice hk.sA x.stack.length hk.sc, .int .i64 x.code]
    have hal : Below w1.heap.size w1 (w1.alloc (.cells #[.int .i64 x.state, .int .i64 x.on, .slice hk.fA x.frames.length hk.fc, .slice hk.sA x.stack.length hk.sc, .int .i64 x.code] 29)) := (Below.refl _ _).alloc (Nat.le_refl _) _
    have g0 := h0.below hal h0.lt
    have g1 := h1.below hal h1.lt
    have gb := hb.trans (hal.mono hb.size)
    have gr := hr1.below hal
    have hl1 := h1.lt
    obtain ⟨W5, hW5⟩ : ∃ W, W = w1.alloc (.cells #[.int .i64 x.state, .int .i64 x.on, .slice hk.fA x.frames.length hk.fc, .slice hk.sA x.stack.length hk.sc, .int .i64 x.code] 29) := ⟨_, rfl⟩
    obtain ⟨kb, hkb⟩ : ∃ b, b = w1.heap.size := ⟨_, rfl⟩
    rw [← hW5] at hbk g0 g1 gb gr
    rw [← hkb] at hbk
    have HW5 := Lib.hid hW5; have HKB := Lib.hid hkb; have G0 := Lib.hid g0; have G1 := Lib.hid g1; have GB := Lib.hid gb; have GR := Lib.hid gr; have GK := Lib.hid hbk
    have hlk : w.heap.size + 1 + 1 < kb := by rw [hkb]; exact hl1
    clear t0 t1 t2 t3 t4 h0 h1 hb hal hr1 hb1 hbk g0 g1 gb gr hW5 hkb hl1
    go_upto_region 2 with fail
    rw [← HW5.out, ← HKB.out]
    clear HW5 HKB
    have m0 := (GK.out.cell 0).trans rfl
    have m1 := (GK.out.cell 1).trans rfl
    have m2 := (GK.out.cell 2).trans rfl
    have m3 := (GK.out.cell 3).trans rfl
    have m4 := (GK.out.cell 4).trans rfl
    have r0 := (G0.out.cell 0).trans rfl
    have y0 := G0.out.frozen 0
    have r1 := (G0.out.cell 1).trans rfl
    have y1 := G0.out.frozen 1
    have r2 := (G0.out.cell 2).trans rfl
    have y2 := G0.out.frozen 2
    have r3 := (G0.out.cell 3).trans rfl
    have y3 := G0.out.frozen 3
    have r4 := (G0.out.cell 4).trans rfl
    have y4 := G0.out.frozen 4
    have s0 := (G1.out.cell 0).trans rfl
    have z0 := G1.out.frozen 0
    have s1 := (G1.out.cell 1).trans rfl
    have z1 := G1.out.frozen 1
    have s2 := (G1.out.cell 2).trans rfl
    have z2 := G1.out.frozen 2
    have n0 : kb ≠ w.heap.size + 1 := by omega
    have n1 : kb ≠ w.heap.size + 1 + 1 := by omega
    have n2 := Ne.symm n0
    have n3 := Ne.symm n1
    go_wp2_with fail
    obtain ⟨k0, k1, k2⟩ := two_boxes (v0 := .int .i64 x.state) (v1 := .int .i64 x.on) (v2 := .slice hk.fA x.frames.length hk.fc) (v3 := .slice hk.sA x.stack.length hk.sc) (v4 := .int .i64 x.code) (q0 := .int .i64 0) (q1 := .int .i64 0) (q2 := .int .i64 0) G0.out G1.out GB.out (by omega)
    refine bodyPost_ret (v := .tuple #[.agg #[.int .i64 x.state, .int .i64 x.on, .slice hk.fA x.frames.length hk.fc, .slice hk.sA x.stack.length hk.sc, .int .i64 x.code], .agg #[.int .i64 0, .int .i64 0, .int .i64 0]]) (results_cells2 rfl _ _ (w.heap.size + 1) (w.heap.size + 1 + 1) 29 37 _ _ (0, 0) (0, 0) _ _ rfl rfl k0 k1 Try.underlying29 rfl (by kernel_rfl) Try.underlying37 rfl (by kernel_rfl)) rfl ?_
    exact ⟨hk, rfl, (GR.out.keep fun q hq hl => k2.cell hl (fun e => by have := HZ.out; rcases hq with hq | hq <;> omega)).mono (fun i hi _ => by have := HZ.out; rcases hi with hi | hi; exact .inl hi; exact .inr (by omega)), GB.out.trans (k2.below GB.out.size (fun i e => by omega))⟩
  · rw [if_neg h16] at hx
    have hv : pushV t v = endV 2 := by unfold pushV; rw [if_neg h16]
    rw [hv, decide_eq_false h16] at *
    have HP := Lib.hid hp
    clear hp hx hv h16
    go_enter Try.func39, Try.ntmps39
    go_upto_region 1 with fail
    rw [← HW.out]
    clear HW
    go_wp2_with fail
    refine HP.out.mono ?_
    rintro e w1 ⟨hk, rfl, hr1, hb1⟩
    have h0 := H0.out.below hb1 H0.out.lt
    have h1 := H1.out.below hb1 H1.out.lt
    have hb := HB.out.trans (hb1.mono HB.out.size)
    have hal : Below w1.heap.size w1 (w1.alloc (.cells #[.int .i64 x.state, .int .i64 x.on, .slice hk.fA x.frames.length hk.fc, .slice hk.sA x.stack.length hk.sc, .int .i64 x.code] 29)) := (Below.refl _ _).alloc (Nat.le_refl _) _
    have g0 := h0.below hal h0.lt
    have g1 := h1.below hal h1.lt
    have gb := hb.trans (hal.mono hb.size)
    have G0 := Lib.hid g0; have G1 := Lib.hid g1; have GB := Lib.hid gb
    clear t0 t1 t2 t3 t4 h0 h1 hb hal hr1 hb1 g0 g1 gb
    go_wp2_with fail
    refine (refEnds_any 2 _).mono ?_
    rintro e w6 ⟨rfl, hb6⟩
    have h0 := G0.out.below hb6 G0.out.lt
    have h1 := G1.out.below hb6 G1.out.lt
    have hb := GB.out.trans (hb6.mono GB.out.size)
    have r0 := (h0.cell 0).trans rfl
    have y0 := h0.frozen 0
    have r1 := (h0.cell 1).trans rfl
    have y1 := h0.frozen 1
    have r2 := (h0.cell 2).trans rfl
    have y2 := h0.frozen 2
    have r3 := (h0.cell 3).trans rfl
    have y3 := h0.frozen 3
    have r4 := (h0.cell 4).trans rfl
    have y4 := h0.frozen 4
    have s0 := (h1.cell 0).trans rfl
    have z0 := h1.frozen 0
    have s1 := (h1.cell 1).trans rfl
    have z1 := h1.frozen 1
    have s2 := (h1.cell 2).trans rfl
    have z2 := h1.frozen 2
    have K0 := Lib.hid h0; have K1 := Lib.hid h1; have KB := Lib.hid hb
    clear h0 h1 hb hb6 G0 G1 GB
    go_wp2_with fail
    obtain ⟨k0, k1, k2⟩ := two_boxes (v0 := .int .i64 9) (v1 := .int .i64 0) (v2 := .slice none 0 0) (v3 := .slice none 0 0) (v4 := .int .i64 2) (q0 := .int .i64 1) (q1 := .int .i64 0) (q2 := .int .i64 2) K0.out K1.out KB.out (by omega)
    refine bodyPost_ret (v := .tuple #[.agg #[.int .i64 9, .int .i64 0, .slice none 0 0, .slice none 0 0, .int .i64 2], .agg #[.int .i64 1, .int .i64 0, .int .i64 2]]) (results_cells2 rfl _ _ (w.heap.size + 1) (w.heap.size + 1 + 1) 29 37 _ _ (0, 0) (0, 0) _ _ rfl rfl k0 k1 Try.underlying29 rfl (by kernel_rfl) Try.underlying37 rfl (by kernel_rfl)) rfl ?_
    exact ⟨⟨none, 0, none, 0⟩, rfl, (dead_rt 2 _).mono (fun i h _ => absurd h id), KB.out.trans (k2.below KB.out.size (fun i e => by omega))⟩
end

section
open Go.RowKit Plain
namespace Plain
def popsT : Nat → TV → TV
  | 0, t => t
  | k + 1, t => popT (popsT k t)
def topsT (k : Nat) (t : TV) : List Int := (List.range k).map fun j => topT (popsT j t)
theorem topsT_len (k : Nat) (t : TV) : (topsT k t).length = k := by simp [topsT]
theorem topsT_succ (k : Nat) (t : TV) : topsT (k + 1) t = topsT k t ++ [topT (popsT k t)] := by simp [topsT, List.range_succ]
theorem popsT_stack (k : Nat) (t : TV) : (popsT k t).stack.length = t.stack.length - k := by
  induction k with
  | zero => rfl
  | succ k ih => show ((popsT k t).stack.take ((popsT k t).stack.length - 1)).length = _; simp [ih]; omega
theorem popsT_rest (k : Nat) (t : TV) : (popsT k t).frames = t.frames ∧ (popsT k t).state = t.state ∧ (popsT k t).on = t.on ∧ (popsT k t).code = t.code := by
  induction k with
  | zero => exact ⟨rfl, rfl, rfl, rfl⟩
  | succ k ih => exact ih
theorem popsT_lens {t : TV} (k : Nat) (h : LensT t) : LensT (popsT k t) := by
  induction k with
  | zero => exact h
  | succ k ih => exact ⟨ih.frames, by simp [popsT, popT]; have := ih.stack; omega, ih.locals⟩
theorem deedV_under {p : PV} {u : TV} {op a : Int} (hop : 0 ≤ op ∧ op ≤ 26) (h : (u.stack.length : Int) < needsV op) : deedV p u ⟨op, a⟩ = endV 1 := by
  have hc : ((op = 1 ∨ op = 2 ∨ op = 6 ∨ op = 8 ∨ op = 13 ∨ op = 14 ∨ op = 22 ∨ op = 25) ∧ u.stack = []) ∨ ((op = 3 ∨ op = 4) ∧ u.stack.length < 2) := by
    unfold needsV at h
    split at h
    · rename_i h1; exact .inl ⟨h1, List.eq_nil_of_length_eq_zero (by omega)⟩
    · split at h
      · rename_i h1; exact .inr ⟨h1, by omega⟩
      · omega
  rcases hc with ⟨hc, h0⟩ | ⟨hc, h2⟩
  · rcases hc with rfl | rfl | rfl | rfl | rfl | rfl | rfl | rfl <;> simp [deedV, popV, h0]
  · by_cases h0 : u.stack = []
    · rcases hc with rfl | rfl <;> simp [deedV, popV, h0]
    · have h1 : (popT u).stack = [] := List.eq_nil_of_length_eq_zero (by show (u.stack.take (u.stack.length - 1)).length = 0; simp; omega)
      rcases hc with rfl | rfl <;> simp [deedV, popV, h0, h1]
theorem needsV_nat (op : Int) : ∃ n : Nat, needsV op = n ∧ n ≤ 2 := by
  unfold needsV
  split
  · exact ⟨1, rfl, by omega⟩
  · split
    · exact ⟨2, rfl, by omega⟩
    · exact ⟨0, rfl, by omega⟩
end Plain

/-- Ahead of the thread that goes on: the boxes. -/
structure R0 (w wr : World) (h : PH) (p : PV) (tv : Array Value) (ib : Nat) (op a : Int) : Prop where
  pb : Blk wr w.heap.size 26 #[.slice h.fA p.funcs.length h.fc, .int .i64 p.mutexes, .slice h.cA p.conds.length h.cc, .slice h.sA p.semas.length h.sc, .slice h.hA p.chans.length h.hc, .slice h.xA p.choices.length h.xc, .int .i64 p.threads]
  tb : Blk wr (w.heap.size + 1) 29 tv
  r0 : Blk wr (w.heap.size + 1 + 1) 29 #[.int .i64 0, .int .i64 0, .slice none 0 0, .slice none 0 0, .int .i64 0]
  r1 : Blk wr (w.heap.size + 1 + 1 + 1) 37 #[.int .i64 0, .int .i64 0, .int .i64 0]
  ibk : Blk wr ib 57 #[.int .i64 op, .int .i64 a]
  lt : w.heap.size + 1 + 1 + 1 < ib
  bel : Below w.heap.size w wr
theorem R0.fr {S : Nat → Prop} {w wr X : World} {h : PH} {p : PV} {tv : Array Value} {ib : Nat} {op a : Int} (g : R0 w wr h p tv ib op a) (hf : Fr S wr X) (hS : ∀ i, S i → w.heap.size + 1 + 1 + 1 < i ∧ i ≠ ib) : R0 w X h p tv ib op a :=
  ⟨hf.blk g.pb (fun e => by have := (hS _ e).1; omega), hf.blk g.tb (fun e => by have := (hS _ e).1; omega), hf.blk g.r0 (fun e => by have := (hS _ e).1; omega), hf.blk g.r1 (fun e => by have := (hS _ e).1; omega), hf.blk g.ibk (fun e => by have := (hS _ e).2; omega), g.lt, g.bel.trans (hf.below g.bel.size (fun i e => by have := (hS _ e).1; omega))⟩
theorem R0.below {w wr X : World} {h : PH} {p : PV} {tv : Array Value} {ib : Nat} {op a : Int} (g : R0 w wr h p tv ib op a) (hb : Below wr.heap.size wr X) : R0 w X h p tv ib op a :=
  ⟨g.pb.below hb g.pb.lt, g.tb.below hb g.tb.lt, g.r0.below hb g.r0.lt, g.r1.below hb g.r1.lt, g.ibk.below hb g.ibk.lt, g.lt, g.bel.trans (hb.mono g.bel.size)⟩
/-- The results are laid. -/
theorem R0.fin {w wr : World} {h : PH} {p : PV} {tv : Array Value} {ib : Nat} {op a : Int} (g : R0 w wr h p tv ib op a) {E D : Nat → Prop} {hx : TH} {x : TV} (q : QV) (hr : RT wr E hx x) (hE : ∀ i, E i → i < wr.heap.size → (D i ∧ i < w.heap.size) ∨ w.heap.size + 1 + 1 + 1 < i) {X : World}
    (hX : X = ((((((((wr.setCell ⟨w.heap.size + 1 + 1, 0, none⟩ (.int .i64 x.state)).setCell ⟨w.heap.size + 1 + 1, 1, none⟩ (.int .i64 x.on)).setCell ⟨w.heap.size + 1 + 1, 2, none⟩ (.slice hx.fA x.frames.length hx.fc)).setCell ⟨w.heap.size + 1 + 1, 3, none⟩ (.slice hx.sA x.stack.length hx.sc)).setCell ⟨w.heap.size + 1 + 1, 4, none⟩ (.int .i64 x.code)).setCell ⟨w.heap.size + 1 + 1 + 1, 0, none⟩ (.int .i64 q.kind)).setCell ⟨w.heap.size + 1 + 1 + 1, 1, none⟩ (.int .i64 q.a)).setCell ⟨w.heap.size + 1 + 1 + 1, 2, none⟩ (.int .i64 q.v))) :
    Blk X (w.heap.size + 1 + 1) 29 #[.int .i64 x.state, .int .i64 x.on, .slice hx.fA x.frames.length hx.fc, .slice hx.sA x.stack.length hx.sc, .int .i64 x.code] ∧ Blk X (w.heap.size + 1 + 1 + 1) 37 #[.int .i64 q.kind, .int .i64 q.a, .int .i64 q.v] ∧
    RT X (fun i => (D i ∧ i < w.heap.size) ∨ w.heap.size ≤ i) hx x ∧ Below w.heap.size w X := by
  obtain ⟨k0, k1, k2⟩ := two_boxes (v0 := .int .i64 x.state) (v1 := .int .i64 x.on) (v2 := .slice hx.fA x.frames.length hx.fc) (v3 := .slice hx.sA x.stack.length hx.sc) (v4 := .int .i64 x.code) (q0 := .int .i64 q.kind) (q1 := .int .i64 q.a) (q2 := .int .i64 q.v) g.r0 g.r1 g.bel (by omega)
  subst hX
  refine ⟨k0, k1, ((hr.mono hE).keep (fun y hy hl => k2.cell hl (fun e => by rcases hy with hy | hy <;> omega))).mono (fun i hi _ => by rcases hi with hi | hi; exact .inl hi; exact .inr (by omega)), g.bel.trans (k2.below g.bel.size (fun i e => by omega))⟩
/-- The thread that goes on, in its box; its rows are those that came in, or lie behind. -/
structure RJ (w wr : World) (D : Nat → Prop) (jb : Nat) (lv : Value) (hu : TH) (u : TV) : Prop where
  bx : Blk wr jb 29 #[.int .i64 u.state, .int .i64 u.on, .slice hu.fA u.frames.length hu.fc, .slice hu.sA u.stack.length hu.sc, .int .i64 u.code]
  rt : RT wr (fun i => (D i ∧ i < w.heap.size) ∨ (w.heap.size + 1 + 1 + 1 < i ∧ i ≠ jb ∧ lv.ownBlock ≠ some i)) hu u
  len : LensT u
theorem RJ.below {w wr X : World} {D : Nat → Prop} {jb : Nat} {lv : Value} {hu : TH} {u : TV} (g : RJ w wr D jb lv hu u) (hb : Below wr.heap.size wr X) : RJ w X D jb lv hu u := ⟨g.bx.below hb g.bx.lt, g.rt.below hb, g.len⟩
theorem far5 (X : World) (g : Nat) (a0 a1 a2 a3 a4 : Value) (p : Addr) (hp : p.block ≠ g) : (((((X.setCell ⟨g, 0, none⟩ a0).setCell ⟨g, 1, none⟩ a1).setCell ⟨g, 2, none⟩ a2).setCell ⟨g, 3, none⟩ a3).setCell ⟨g, 4, none⟩ a4).cell? p = X.cell? p := by
  have st : ∀ (Y : World) (i : Nat) (v : Value), Y.cell? p = X.cell? p → (Y.setCell ⟨g, i, none⟩ v).cell? p = X.cell? p := fun Y i v h => by
    rw [← h]
    exact World.cell?_setCell_other _ _ _ _ (fun e => hp (by rw [← e]))
  exact st _ 4 _ (st _ 3 _ (st _ 2 _ (st _ 1 _ (st _ 0 _ rfl))))
theorem far3 (X : World) (g : Nat) (a0 a1 a2 : Value) (p : Addr) (hp : p.block ≠ g) : (((X.setCell ⟨g, 0, none⟩ a0).setCell ⟨g, 1, none⟩ a1).setCell ⟨g, 2, none⟩ a2).cell? p = X.cell? p := by
  have st : ∀ (Y : World) (i : Nat) (v : Value), Y.cell? p = X.cell? p → (Y.setCell ⟨g, i, none⟩ v).cell? p = X.cell? p := fun Y i v h => by
    rw [← h]
    exact World.cell?_setCell_other _ _ _ _ (fun e => hp (by rw [← e]))
  exact st _ 2 _ (st _ 1 _ (st _ 0 _ rfl))
end

section
open Go.RowKit Plain

set_option maxHeartbeats 40000000 in
set_option maxRecDepth 100000 in
theorem stepRa (h : PH) (p : PV) (ht : TH) (t : TV) (w : World) (B : Nat) (D : Nat → Prop) (hrp : RP w B h p) (hB : B ≤ w.heap.size) (hr : RT w D ht t) (hp : mayB p = true) (hm : mayT p t = true) (hs : t.state ≠ 9) (op a : Int) (hf : fetchT p t = some ⟨op, a⟩) (hop : op = 0 ∨ op = 1 ∨ op = 2 ∨ op = 3 ∨ op = 4) :
    Calls Try.prog 13 #[.agg #[.slice h.fA p.funcs.length h.fc, .int .i64 p.mutexes, .slice h.cA p.conds.length h.cc, .slice h.sA p.semas.length h.sc, .slice h.hA p.chans.length h.hc, .slice h.xA p.choices.length h.xc, .int .i64 p.threads], .agg #[.int .i64 t.state, .int .i64 t.on, .slice ht.fA t.frames.length ht.fc, .slice ht.sA t.stack.length ht.sc, .int .i64 t.code]] w fun e w' => ∃ hx : TH, e = .returned (.tuple #[.agg #[.int .i64 (stepV p t).1.state, .int .i64 (stepV p t).1.on, .slice hx.fA (stepV p t).1.frames.length hx.fc, .slice hx.sA (stepV p t).1.stack.length hx.sc, .int .i64 (stepV p t).1.code], .agg #[.int .i64 (stepV p t).2.kind, .int .i64 (stepV p t).2.a, .int .i64 (stepV p t).2.v]]) ∧ RT w' (fun i => (D i ∧ i < w.heap.size) ∨ w.heap.size ≤ i) hx (stepV p t).1 ∧ Below w.heap.size w w' := by
  have hfew := mayB_few hp
  have hl := lensT_may hfew.1 hm
  have hpos := frames_pos hm hs
  have hlen := lenT_may hm
  obtain ⟨f0, f1, f2, f3, f4, _⟩ := (frB_iff _ _).1 (lastFr_ok hm hs)
  have hfc := hfew.2.2 _ (funcAt_mem f0 f1)
  obtain ⟨n, hn⟩ := Int.eq_ofNat_of_zero_le f0
  obtain ⟨c, hc⟩ := Int.eq_ofNat_of_zero_le f2
  have hdok := step_dok hp hm hs hf
  have hjm := jump_may hp hm hs hf
  have hok := fetch_ok hp hm hs hf
  simp only at hok
  have hsv := stepV_some hf
  obtain ⟨x, q, hxq⟩ : ∃ x q, stepV p t = (x, q) := ⟨_, _, rfl⟩
  rw [hxq] at hsv ⊢
  simp only
  obtain ⟨u0, hu0⟩ : ∃ u, u = jumpT t ((lastFr t).pc + 1) := ⟨_, rfl⟩
  rw [← hu0] at hdok hjm hsv
  have hus0 : u0.stack = t.stack := by rw [hu0]; rfl
  obtain ⟨W4, hW4⟩ : ∃ W, W = ((((w.alloc (.cells #[.slice h.fA p.funcs.length h.fc, .int .i64 p.mutexes, .slice h.cA p.conds.length h.cc, .slice h.sA p.semas.length h.sc, .slice h.hA p.chans.length h.hc, .slice h.xA p.choices.length h.xc, .int .i64 p.threads] 26)).alloc (.cells #[.int .i64 t.state, .int .i64 t.on, .slice ht.fA t.frames.length ht.fc, .slice ht.sA t.stack.length ht.sc, .int .i64 t.code] 29)).alloc (.cells #[.int .i64 0, .int .i64 0, .slice none 0 0, .slice none 0 0, .int .i64 0] 29)).alloc (.cells #[.int .i64 0, .int .i64 0, .int .i64 0] 37)) := ⟨_, rfl⟩
  have hb4 : Below w.heap.size w W4 := by rw [hW4]; exact ((((Below.refl _ _).alloc (Nat.le_refl _) _).alloc (by simp) _).alloc (by simp; omega) _).alloc (by simp; omega) _
  have hpb : Blk W4 w.heap.size 26 #[.slice h.fA p.funcs.length h.fc, .int .i64 p.mutexes, .slice h.cA p.conds.length h.cc, .slice h.sA p.semas.length h.sc, .slice h.hA p.chans.length h.hc, .slice h.xA p.choices.length h.xc, .int .i64 p.threads] := by rw [hW4]; exact (((Blk.new w _ _).alloc _).alloc _).alloc _
  have htb : Blk W4 (w.heap.size + 1) 29 #[.int .i64 t.state, .int .i64 t.on, .slice ht.fA t.frames.length ht.fc, .slice ht.sA t.stack.length ht.sc, .int .i64 t.code] := by
    rw [hW4]; refine (Blk.alloc ?_ _).alloc _
    simpa using Blk.new (w.alloc (.cells #[.slice h.fA p.funcs.length h.fc, .int .i64 p.mutexes, .slice h.cA p.conds.length h.cc, .slice h.sA p.semas.length h.sc, .slice h.hA p.chans.length h.hc, .slice h.xA p.choices.length h.xc, .int .i64 p.threads] 26)) 29 #[.int .i64 t.state, .int .i64 t.on, .slice ht.fA t.frames.length ht.fc, .slice ht.sA t.stack.length ht.sc, .int .i64 t.code]
  have hr0 : Blk W4 (w.heap.size + 1 + 1) 29 #[.int .i64 0, .int .i64 0, .slice none 0 0, .slice none 0 0, .int .i64 0] := by
    rw [hW4]; refine Blk.alloc ?_ _
    simpa using Blk.new ((w.alloc (.cells #[.slice h.fA p.funcs.length h.fc, .int .i64 p.mutexes, .slice h.cA p.conds.length h.cc, .slice h.sA p.semas.length h.sc, .slice h.hA p.chans.length h.hc, .slice h.xA p.choices.length h.xc, .int .i64 p.threads] 26)).alloc (.cells #[.int .i64 t.state, .int .i64 t.on, .slice ht.fA t.frames.length ht.fc, .slice ht.sA t.stack.length ht.sc, .int .i64 t.code] 29)) 29 #[.int .i64 0, .int .i64 0, .slice none 0 0, .slice none 0 0, .int .i64 0]
  have hr1 : Blk W4 (w.heap.size + 1 + 1 + 1) 37 #[.int .i64 0, .int .i64 0, .int .i64 0] := by
    rw [hW4]; simpa using Blk.new (((w.alloc (.cells #[.slice h.fA p.funcs.length h.fc, .int .i64 p.mutexes, .slice h.cA p.conds.length h.cc, .slice h.sA p.semas.length h.sc, .slice h.hA p.chans.length h.hc, .slice h.xA p.choices.length h.xc, .int .i64 p.threads] 26)).alloc (.cells #[.int .i64 t.state, .int .i64 t.on, .slice ht.fA t.frames.length ht.fc, .slice ht.sA t.stack.length ht.sc, .int .i64 t.code] 29)).alloc (.cells #[.int .i64 0, .int .i64 0, .slice none 0 0, .slice none 0 0, .int .i64 0] 29)) 37 #[.int .i64 0, .int .i64 0, .int .i64 0]
  have hz4 : W4.heap.size = w.heap.size + 1 + 1 + 1 + 1 := by rw [hW4]; simp
  have hrpW : ∀ X, Below W4.heap.size W4 X → RP X B h p := fun X hX => hrp.below ((hb4.trans (hX.mono (by omega))).mono hB)
  have hfe := refFetch_any h p ht t W4 D ((hrpW W4 (Below.refl _ _)).more (by omega)) (hr.below hb4) (by omega) n c hn (by omega) hc (by rw [← hn]; omega) (by rw [hc] at f3; omega) (by omega)
  have hfv : (funcAt p (n : Int)).code[c]? = some ⟨op, a⟩ := by unfold fetchT at hf; rw [hn, hc] at hf; simpa using hf
  rw [hfv] at hfe
  have hfe : Calls Try.prog 33 #[.agg #[.slice h.fA p.funcs.length h.fc, .int .i64 p.mutexes, .slice h.cA p.conds.length h.cc, .slice h.sA p.semas.length h.sc, .slice h.hA p.chans.length h.hc, .slice h.xA p.choices.length h.xc, .int .i64 p.threads], .agg #[.int .i64 t.state, .int .i64 t.on, .slice ht.fA t.frames.length ht.fc, .slice ht.sA t.stack.length ht.sc, .int .i64 t.code]] W4 fun e w' => e = .returned (.tuple #[.agg #[.int .i64 op, .int .i64 a], .bool true]) ∧ Below W4.heap.size W4 w' := hfe
  -- the frame that is under way
  obtain ⟨k, hk, hkl⟩ := lastFr_ex hpos
  obtain ⟨ad, y, hEA, hab, hy, y0, y1, y2, _⟩ := hr.frames.rg.at_ (k := k) (by omega)
  have hsp : ad.spot = none := by obtain ⟨ts, _, _, _, h4, _⟩ := hr.frames.rg; rw [hEA] at h4; exact h4.spot (by omega) (by omega)
  have hyl : y.f = lastFr t := by rw [hy] at hkl; injection hkl
  rw [hyl, hc] at y1
  obtain ⟨bA, oA, pA⟩ := ad
  obtain ⟨a1, c1, s1, d1⟩ := ht
  simp only at hEA hsp hab
  subst hsp hEA
  have ha1 : ((⟨bA, oA, none⟩ : Addr).add (k * 3)) = ⟨bA, oA + k * 3, none⟩ := by unfold Addr.add; by_cases h0 : k * 3 = 0 <;> simp [h0]
  rw [ha1] at y1
  simp only at y1
  have hju := fun X (hX : Below W4.heap.size W4 X) => refJump_all ⟨some ⟨bA, oA, none⟩, c1, s1, d1⟩ t ((c : Int) + 1) X _ (((hr.mono (E := fun i => D i ∧ i < w.heap.size) (fun i h1 h2 => ⟨h1, h2⟩)).below hb4).below hX) hl hpos (by omega) u0 (by rw [hu0, hc])
  simp only at hju hfe htb hW4 ⊢
  rw [hk] at hju hfe htb hW4
  simp only [hk]
  have hlu : LensT u0 := hdok.len
  have ik : (k : Int) < (k : Int) + 1 := by omega
  have hk6 : k < 8 := by omega
  have hc6 : c ≤ 64 := by rw [hc] at f3; omega
  have p0 := (hpb.cell 0).trans rfl
  have p1 := (hpb.cell 1).trans rfl
  have p2 := (hpb.cell 2).trans rfl
  have p3 := (hpb.cell 3).trans rfl
  have p4 := (hpb.cell 4).trans rfl
  have p5 := (hpb.cell 5).trans rfl
  have p6 := (hpb.cell 6).trans rfl
  have t0 := (htb.cell 0).trans rfl
  have t1 := (htb.cell 1).trans rfl
  have t2 := (htb.cell 2).trans rfl
  have t3 := (htb.cell 3).trans rfl
  have t4 := (htb.cell 4).trans rfl
  have hpcW : ∀ X, Below W4.heap.size W4 X → X.cell? ⟨bA, oA + k * 3 + 1, none⟩ = some (.int .i64 (c : Int)) := fun X hX => ((hb4.trans (hX.mono (by omega))).cell (p := ⟨bA, oA + k * 3 + 1, none⟩) hab).trans y1
  have HFE := Lib.hid hfe; have HJU := Lib.hid hju; have HW := Lib.hid hW4; have HB4 := Lib.hid hb4; have HPB := Lib.hid hpb; have HTB := Lib.hid htb; have HR0 := Lib.hid hr0; have HR1 := Lib.hid hr1; have HZ4 := Lib.hid hz4; have HRP := Lib.hid hrpW; have HDOK := Lib.hid hdok; have HOK := Lib.hid hok; have HOPS := Lib.hid hop; have HSV := Lib.hid hsv; have HUS := Lib.hid hus0; have HLU := Lib.hid hlu; have HPC := Lib.hid hpcW; have HFEW := Lib.hid hfew
  have HD : Hid (∀ i, D i ∧ i < w.heap.size → i < w.heap.size) := fun i h => h.2
  have HRPX : Hid (∀ X, Below w.heap.size w X → RP X B h p) := fun X hX => hrp.below (hX.mono hB)
  have HBW9 := Lib.hid hB
  clear hrp hr hp hm hs hf hfew hl hpos hlen f0 f1 f2 f3 f4 hfc hn hc hdok hjm hok hsv hu0 hW4 hb4 hpb htb hr0 hr1 hz4 hrpW hfe hfv hkl hk hy y0 y1 y2 hyl ha1 hju hlu hpcW hxq hus0 hop
  go_enter Try.func13, Try.ntmps13
  go_upto_region 1 with fail
  rw [← HW.out]
  clear HW
  go_wp2_with fail
  refine HFE.out.mono ?_
  rintro e w1 ⟨rfl, hb1⟩
  have hal : Below w1.heap.size w1 (w1.alloc (.cells #[.int .i64 op, .int .i64 a] 57)) := (Below.refl _ _).alloc (Nat.le_refl _) _
  obtain ⟨W5, hW5⟩ : ∃ W, W = w1.alloc (.cells #[.int .i64 op, .int .i64 a] 57) := ⟨_, rfl⟩
  obtain ⟨ib, hib⟩ : ∃ b, b = w1.heap.size := ⟨_, rfl⟩
  have hb5 : Below W4.heap.size W4 W5 := by rw [hW5]; exact hb1.alloc hb1.size _
  have hR0 : R0 w W5 h p #[.int .i64 t.state, .int .i64 t.on, .slice (some ⟨bA, oA, none⟩) (k + 1) c1, .slice s1 t.stack.length d1, .int .i64 t.code] ib op a := by
    refine ⟨HPB.out.below hb5 HPB.out.lt, HTB.out.below hb5 HTB.out.lt, HR0.out.below hb5 HR0.out.lt, HR1.out.below hb5 HR1.out.lt, by rw [hW5, hib]; exact Blk.new _ _ _, by rw [hib]; have := hb1.size; have := HZ4.out; omega, HB4.out.trans (hb5.mono HB4.out.size)⟩
  have hz5 : W5.heap.size = ib + 1 := by rw [hW5, hib]; simp
  have HR5 := Lib.hid hR0; have HW5 := Lib.hid hW5; have HIB := Lib.hid hib; have HB5 := Lib.hid hb5; have HZ5 := Lib.hid hz5
  clear hal hb1 hR0 hW5 hib hb5 hz5 p0 p1 p2 p3 p4 p5 p6 t0 t1 t2 t3 t4 HPB HTB HR0 HR1 HFE
  go_upto_region 4 with fail
  rw [← HW5.out, ← HIB.out]
  clear HW5 HIB
  have KS : Hid (∀ X, Below W5.heap.size W5 X → X.cell? ⟨w.heap.size + 1, 0, none⟩ = some (.int .i64 t.state) ∧ X.cell? ⟨w.heap.size + 1, 1, none⟩ = some (.int .i64 t.on) ∧ X.cell? ⟨w.heap.size + 1, 2, none⟩ = some (.slice (some ⟨bA, oA, none⟩) (k + 1) c1) ∧ X.cell? ⟨w.heap.size + 1, 3, none⟩ = some (.slice s1 t.stack.length d1) ∧ X.cell? ⟨w.heap.size + 1, 4, none⟩ = some (.int .i64 t.code) ∧ X.cell? ⟨bA, oA + k * 3 + 1, none⟩ = some (.int .i64 (c : Int))) := fun X hX => by
    have g := HR5.out.tb.below hX HR5.out.tb.lt
    exact ⟨(g.cell 0).trans rfl, (g.cell 1).trans rfl, (g.cell 2).trans rfl, (g.cell 3).trans rfl, (g.cell 4).trans rfl, HPC.out X (HB5.out.trans (hX.mono HB5.out.size))⟩
  have HC : Hid (∀ X, Below W5.heap.size W5 X → Calls Try.prog 35 #[.agg #[.int .i64 t.state, .int .i64 t.on, .slice (some ⟨bA, oA, none⟩) (k + 1) c1, .slice s1 t.stack.length d1, .int .i64 t.code], .int .i64 ((c : Int) + 1)] X fun e w' => ∃ h' : TH, e = .returned (.agg #[.int .i64 u0.state, .int .i64 u0.on, .slice h'.fA u0.frames.length h'.fc, .slice h'.sA u0.stack.length h'.sc, .int .i64 u0.code]) ∧ RT w' (fun i => (D i ∧ i < w.heap.size) ∨ X.heap.size ≤ i) h' u0 ∧ Below X.heap.size X w' ∧ Below W5.heap.size W5 w') := fun X hX =>
    (HJU.out X (HB5.out.trans (hX.mono HB5.out.size))).mono fun e w' ⟨h', h1, h2, h3⟩ => ⟨h', h1, h2, h3, hX.trans (h3.mono hX.size)⟩
  have iw : IntKind.i64.wrap (k : Int) = (k : Int) := IntWalk.i64_in _ (by omega)
  have iv : IntKind.i64.wrap ((c : Int) + 1) = (c : Int) + 1 := IntWalk.i64_in _ (by omega)
  obtain ⟨s0, s1', s2, s3, s4, s5⟩ := KS.out W5 (Below.refl _ _)
  clear HJU HPC
  go_cut [8] (fun s8 wx => ∃ (jb : Nat) (h2 : TH), s8 = .pointer (some ⟨jb, 0, none⟩) ∧ TD wx (fun i => (D i ∧ i < w.heap.size) ∨ (ib < i ∧ i ≠ jb)) jb h2 u0 ∧ ib < jb ∧ Below W5.heap.size W5 wx)
  case first =>
    go_region_held3 (fun w' => w'.cell? ⟨w.heap.size + 1, 0, none⟩ = some (.int .i64 t.state) ∧ w'.cell? ⟨w.heap.size + 1, 1, none⟩ = some (.int .i64 t.on) ∧ w'.cell? ⟨w.heap.size + 1, 2, none⟩ = some (.slice (some ⟨bA, oA, none⟩) (k + 1) c1) ∧ w'.cell? ⟨w.heap.size + 1, 3, none⟩ = some (.slice s1 t.stack.length d1) ∧ w'.cell? ⟨w.heap.size + 1, 4, none⟩ = some (.int .i64 t.code) ∧ w'.cell? ⟨bA, oA + k * 3 + 1, none⟩ = some (.int .i64 (c : Int)))
      (first | (with_reducible exact KS.out _ (by repeat (first | with_reducible assumption | with_reducible exact Below.refl _ _ | with_reducible exact H5.out | with_reducible refine Below.drew ?_ | with_reducible refine Below.setCell ?_ (by first | exact Nat.le_refl _ | exact h5.size | exact H5.out.size | omega) _ | with_reducible refine Below.alloc ?_ (by first | exact h5.size | exact H5.out.size | exact Nat.le_refl _ | omega) _))) | fail)
      (first
        | (go_simp; go_at_call 35; refine (HC.out _ (by repeat (first | with_reducible assumption | with_reducible exact Below.refl _ _ | with_reducible exact H5.out | with_reducible refine Below.drew ?_ | with_reducible refine Below.setCell ?_ (by first | exact Nat.le_refl _ | exact h5.size | exact H5.out.size | omega) _ | with_reducible refine Below.alloc ?_ (by first | exact h5.size | exact H5.out.size | exact Nat.le_refl _ | omega) _))).mono ?_; rintro e w5 ⟨⟨a2, c2, s2, d2⟩, rfl, hrt5, h4, h5⟩
           first
             | (have nb0 : Blk w5 W5.heap.size 29 #[.int .i64 0, .int .i64 0, .slice none 0 0, .slice none 0 0, .int .i64 0] := (Blk.drew (Blk.new W5 29 #[.int .i64 0, .int .i64 0, .slice none 0 0, .slice none 0 0, .int .i64 0])).below h4 (by simp)
                have n0 : w5.cell? ⟨W5.heap.size, 0, none⟩ = some (.int .i64 0) := (nb0.cell 0).trans rfl
                have m0 : w5.frozen? ⟨W5.heap.size, 0, none⟩ = false := nb0.frozen 0
                have n1 : w5.cell? ⟨W5.heap.size, 1, none⟩ = some (.int .i64 0) := (nb0.cell 1).trans rfl
                have m1 : w5.frozen? ⟨W5.heap.size, 1, none⟩ = false := nb0.frozen 1
                have n2 : w5.cell? ⟨W5.heap.size, 2, none⟩ = some (.slice none 0 0) := (nb0.cell 2).trans rfl
                have m2 : w5.frozen? ⟨W5.heap.size, 2, none⟩ = false := nb0.frozen 2
                have n3 : w5.cell? ⟨W5.heap.size, 3, none⟩ = some (.slice none 0 0) := (nb0.cell 3).trans rfl
                have m3 : w5.frozen? ⟨W5.heap.size, 3, none⟩ = false := nb0.frozen 3
                have n4 : w5.cell? ⟨W5.heap.size, 4, none⟩ = some (.int .i64 0) := (nb0.cell 4).trans rfl
                have m4 : w5.frozen? ⟨W5.heap.size, 4, none⟩ = false := nb0.frozen 4
                have hzz : W5.heap.size < w5.heap.size := nb0.lt
                have H5 := Lib.hid h5; have H4 := Lib.hid h4; have HRT5 := Lib.hid hrt5
                clear nb0 h5 h4 hrt5)
             | (have H5 := Lib.hid h5; have H4 := Lib.hid h4; have HRT5 := Lib.hid hrt5
                clear h5 h4 hrt5)))
    all_goals
      go_wp2_with fail
      go_meet
      have h5 := H5.out
      have h4 := H4.out
      have hrt5 := HRT5.out
      have hs5 := h5.size
      have hz5 := HZ5.out
      have hlib := HR5.out.lt
      have hdd := HD.out
      first
        | (have htd := TD.new (hrt5.mono (E := fun i => (D i ∧ i < w.heap.size) ∨ (ib < i ∧ i ≠ w5.heap.size)) (fun i hi hlt => by rcases hi with hi | hi; exact .inl hi; exact .inr ⟨by simp at hi; omega, by omega⟩))
           simp only at htd
           with_reducible refine ⟨_, ⟨a2, c2, s2, d2⟩, rfl, htd, ?_, h5.alloc h5.size _⟩
           omega)
        | (have hp := TD.put (w1 := (W5.alloc (.cells #[.int .i64 0, .int .i64 0, .slice none 0 0, .slice none 0 0, .int .i64 0] 29)).drew) (b := W5.heap.size) hrt5 (fun i hi e => by simp at hi; have := hdd i; omega) (Blk.drew (Blk.new W5 29 #[.int .i64 0, .int .i64 0, .slice none 0 0, .slice none 0 0, .int .i64 0])) h4
           have hfr := (Fr.refl (fun i => i = W5.heap.size) w5).set5 (g := W5.heap.size) (.inl rfl) (.int .i64 u0.state) (.int .i64 u0.on) (.slice a2 u0.frames.length c2) (.slice s2 u0.stack.length d2) (.int .i64 u0.code)
           have hq := h5.trans (hfr.below h5.size (fun i hi => by omega))
           have hp2 := hp.mono (E := fun i => (D i ∧ i < w.heap.size) ∨ (ib < i ∧ i ≠ W5.heap.size)) (fun i hi _ => by rcases hi with hi | hi; exact .inl hi; exact .inr (by simp at hi; omega))
           simp only at hp2
           with_reducible exact ⟨_, ⟨a2, c2, s2, d2⟩, rfl, hp2, (by omega), hq⟩)
  case rest =>
  obtain ⟨jb, hj, rfl, htd, hjl, hbw⟩ := hcut
  have hR6 := HR5.out.below hbw
  have hlj := HR5.out.lt
  have hRJ : RJ w wc D jb (.slice none 0 0) hj u0 := ⟨htd.tb, htd.rt.mono (fun i hi _ => by rcases hi with hi | hi; exact .inl hi; exact .inr ⟨by omega, hi.2, by simp [Value.ownBlock]⟩), HLU.out⟩
  have hus : u0.stack = t.stack := HUS.out
  have hnd := needsV_nat op
  obtain ⟨nd, hnd, hnd2⟩ := hnd
  have hop26 : 0 ≤ op ∧ op ≤ 26 := HOK.out.1
  have hneed := fun W => refNeeds_any op W hop26
  have hkind := fun W => refKind_any op W hop26
  rw [hnd] at hneed
  have s3 : wc.cell? ⟨w.heap.size + 1, 3, none⟩ = some (.slice s1 t.stack.length d1) := (hR6.tb.cell 3).trans rfl
  have s6 := (hR6.ibk.cell 0).trans rfl
  have HR6 := Lib.hid hR6; have HRJ := Lib.hid hRJ; have HNEED := Lib.hid hneed; have HKIND := Lib.hid hkind; have HND := Lib.hid hnd; have HUST := Lib.hid hus; have HOP := Lib.hid hop26
  clear hR6 hRJ htd hbw hneed hkind hnd hus hop26 HC KS HB5 HR5 s0 s1' s2 s4 s5 iw iv
  by_cases hun : t.stack.length < nd
  · have hun' : (t.stack.length : Int) < (nd : Int) := by omega
    have hv := HSV.out
    rw [deedV_under HOP.out (by rw [HUST.out, HND.out]; exact hun')] at hv
    injection hv with hv1 hv2
    subst hv1 hv2
    go_upto_region 5 with fail
    go_quiet (first | (go_at_call 36; exact Calls.quiet_of_same (HNEED.out _)))
    go_wp2_with fail
    refine (refEnds_any 1 _).mono ?_
    rintro e w9 ⟨rfl, hb9⟩
    have g9 := (HR6.out.below (below_drews (Below.refl _ _) nq)).below hb9
    have r0 := (g9.r0.cell 0).trans rfl
    have y0 := g9.r0.frozen 0
    have r1 := (g9.r0.cell 1).trans rfl
    have y1 := g9.r0.frozen 1
    have r2 := (g9.r0.cell 2).trans rfl
    have y2 := g9.r0.frozen 2
    have r3 := (g9.r0.cell 3).trans rfl
    have y3 := g9.r0.frozen 3
    have r4 := (g9.r0.cell 4).trans rfl
    have y4 := g9.r0.frozen 4
    have v0 := (g9.r1.cell 0).trans rfl
    have z0 := g9.r1.frozen 0
    have v1 := (g9.r1.cell 1).trans rfl
    have z1 := g9.r1.frozen 1
    have v2 := (g9.r1.cell 2).trans rfl
    have z2 := g9.r1.frozen 2
    have G9 := Lib.hid g9
    clear g9 hb9 s3 s6
    go_wp2_with fail
    obtain ⟨k0, k1, k2, k3⟩ := G9.out.fin (D := D) (hx := ⟨none, 0, none, 0⟩) (x := (deadT 1)) ⟨1, 0, 1⟩ (dead_rt 1 _) (fun i h => absurd h id) rfl
    refine bodyPost_ret (v := .tuple #[.agg #[.int .i64 9, .int .i64 0, .slice none 0 0, .slice none 0 0, .int .i64 1], .agg #[.int .i64 1, .int .i64 0, .int .i64 1]]) (results_cells2 rfl _ _ (w.heap.size + 1 + 1) (w.heap.size + 1 + 1 + 1) 29 37 _ _ (0, 0) (0, 0) _ _ rfl rfl k0 k1 Try.underlying29 rfl (by kernel_rfl) Try.underlying37 rfl (by kernel_rfl)) rfl ?_
    exact ⟨⟨none, 0, none, 0⟩, rfl, k2, k3⟩
  · have hun' : decide ((t.stack.length : Int) < (nd : Int)) = false := decide_eq_false (by omega)
    go_upto_region 5 with fail
    go_quiet (first | (go_at_call 36; exact Calls.quiet_of_same (HNEED.out _)))
    have hb7 := below_drews (Below.refl wc.heap.size wc) nq
    have hR7 := HR6.out.below hb7
    have hJ7 : RJ w (wc.drewN nq) D jb (.slice none 0 0) hj u0 := HRJ.out.below hb7
    obtain ⟨W7, hW7⟩ : ∃ W, W = wc.drewN nq := ⟨_, rfl⟩
    rw [← hW7] at hR7 hJ7 ⊢
    have HR7 := Lib.hid hR7; have HJ7 := Lib.hid hJ7
    clear hW7 hb7 hR7 hJ7 s3 s6 HR6 HRJ hun'
    obtain ⟨i0, hi0, hz0, hz1, hz2⟩ := info_parts info_int
    go_wp2_with fail
    go_loopw [9, 10] (fun s9 s10 wr => ∃ (kk : Nat) (lA : Option Addr) (lc : Nat) (hu : TH), kk ≤ nd ∧ s9 = .slice lA kk lc ∧ s10 = .int .i64 (kk : Int) ∧ R0 w wr h p #[.int .i64 t.state, .int .i64 t.on, .slice (some ⟨bA, oA, none⟩) (k + 1) c1, .slice s1 t.stack.length d1, .int .i64 t.code] ib op a ∧ RJ w wr D jb (.slice lA kk lc) hu (popsT kk u0) ∧ wr.ownsRow (ib + 1) 3 1 (.slice lA kk lc) kk (IS (topsT kk u0))) (fun _ s10 _ => nd - (intOf s10).toNat)
    case atStart => exact ⟨0, none, 0, hj, by omega, rfl, rfl, HR7.out, HJ7.out, World.ownsRow_nil _ _ _ _⟩
    case round =>
      obtain ⟨kk, lA, lc, hu, hkk, rfl, rfl, hR, hJ, hl⟩ := hrel
      have g6 := (hR.ibk.cell 0).trans rfl
      have HR8 := Lib.hid hR; have HJ8 := Lib.hid hJ; have HL8 := Lib.hid hl
      by_cases hlt : kk < nd
      · have hlti : (kk : Int) < (nd : Int) := by omega
        have hps := popsT_stack kk u0
        rw [HUST.out] at hps
        have hpo := refPop_all hu (popsT kk u0) wr _ hJ.rt hJ.len (by have := HDOK.out.st; rw [HUST.out] at this; omega) (popsT (kk + 1) u0) (by rw [if_pos (by omega)]; rfl)
        rw [decide_eq_true (by omega)] at hpo
        have b0 := (hJ.bx.cell 0).trans rfl
        have b1 := (hJ.bx.cell 1).trans rfl
        have b2 := (hJ.bx.cell 2).trans rfl
        have b3 := (hJ.bx.cell 3).trans rfl
        have b4 := (hJ.bx.cell 4).trans rfl
        have hln : LensT (popsT (kk + 1) u0) := popsT_lens (kk + 1) HLU.out
        have htv : topsT (kk + 1) u0 = topsT kk u0 ++ [topT (popsT kk u0)] := topsT_succ kk u0
        obtain ⟨tv, htv2⟩ : ∃ v, topT (popsT kk u0) = v := ⟨_, rfl⟩
        rw [htv2] at hpo htv
        obtain ⟨un, hun2⟩ : ∃ u, popsT (kk + 1) u0 = u := ⟨_, rfl⟩
        rw [hun2] at hpo hln
        generalize popsT kk u0 = uc at *
        have HPO := Lib.hid hpo; have HLN := Lib.hid hln; have HTV := Lib.hid htv; have HUN := Lib.hid hun2
        have hbl := hR.bel.size
        have hzl := HR8.out.ibk.lt
        have hjbl := hJ.bx.lt
        clear hR hJ hl hps hpo hln htv htv2 hun2
        go_wp2_with fail
        refine (HNEED.out _).mono ?_
        rintro e wq ⟨rfl, rfl⟩
        go_wp2_with fail
        refine HPO.out.mono ?_
        rintro e w6 ⟨⟨a6, c6', s6', d6⟩, rfl, hr6, hb6⟩
        try simp only at hr6
        have hR9 := HR8.out.below hb6
        have hal : Below w6.heap.size w6 (w6.alloc (.cells #[.int .i64 un.state, .int .i64 un.on, .slice a6 un.frames.length c6', .slice s6' un.stack.length d6, .int .i64 un.code] 29)) := (Below.refl _ _).alloc (Nat.le_refl _) _
        have hsz6 := hb6.size
        obtain ⟨W8, hW8⟩ : ∃ W, W = w6.alloc (.cells #[.int .i64 un.state, .int .i64 un.on, .slice a6 un.frames.length c6', .slice s6' un.stack.length d6, .int .i64 un.code] 29) := ⟨_, rfl⟩
        obtain ⟨mb, hmb⟩ : ∃ b, b = w6.heap.size := ⟨_, rfl⟩
        have hmk : Blk W8 mb 29 #[.int .i64 un.state, .int .i64 un.on, .slice a6 un.frames.length c6', .slice s6' un.stack.length d6, .int .i64 un.code] := by rw [hW8, hmb]; exact Blk.new _ _ _
        have hb8 : Below wq.heap.size wq W8 := by rw [hW8]; exact hb6.alloc hb6.size _
        have hr8 : RT W8 (fun i => (D i ∧ i < w.heap.size) ∨ (w.heap.size + 1 + 1 + 1 < i ∧ i ≠ jb ∧ (Value.slice lA kk lc).ownBlock ≠ some i)) ⟨a6, c6', s6', d6⟩ un := by
          rw [hW8]
          refine RT.alloc (hr6.mono (fun i hi _ => ?_)) _
          rcases hi with hi | hi
          · exact hi
          · exact .inr ⟨by have := HR8.out.lt; omega, by omega, fun e => by have := (HL8.out.lt i e).2; omega⟩
        have hl8 := (Fr.of_below hb8).own HL8.out (fun i hi e => by have := (HL8.out.lt i hi).2; omega)
        have hR9 := HR8.out.below hb8
        have hj9 := HJ8.out.bx.below hb8 HJ8.out.bx.lt
        have hmj : mb ≠ jb := by rw [hmb]; omega
        have HW8 := Lib.hid hW8; have HMB := Lib.hid hmb; have HMK := Lib.hid hmk; have HRT8 := Lib.hid hr8; have HL9 := Lib.hid hl8; have HR9 := Lib.hid hR9; have HJ9 := Lib.hid hj9
        have hzl8 := hR9.ibk.lt
        have hmb8 := hmk.lt
        clear hr6 hb6 hR9 hal hW8 hmb hmk hb8 hr8 hl8 hj9 HPO b0 b1 b2 b3 b4 g6 hbl hzl hjbl hsz6
        go_upto_region 12 with fail
        rw [← HW8.out, ← HMB.out]
        clear HW8 HMB
        have m0 := (HMK.out.cell 0).trans rfl
        have m1 := (HMK.out.cell 1).trans rfl
        have m2 := (HMK.out.cell 2).trans rfl
        have m3 := (HMK.out.cell 3).trans rfl
        have m4 := (HMK.out.cell 4).trans rfl
        have j0 := (HJ9.out.cell 0).trans rfl
        have k0 := HJ9.out.frozen 0
        have j1 := (HJ9.out.cell 1).trans rfl
        have k1 := HJ9.out.frozen 1
        have j2 := (HJ9.out.cell 2).trans rfl
        have k2 := HJ9.out.frozen 2
        have j3 := (HJ9.out.cell 3).trans rfl
        have k3 := HJ9.out.frozen 3
        have j4 := (HJ9.out.cell 4).trans rfl
        have k4 := HJ9.out.frozen 4
        have hmj2 := Ne.symm hmj
        go_upto_region 13 with fail
        obtain ⟨W9, hW9⟩ : ∃ W, W = ((((W8.setCell ⟨jb, 0, none⟩ (.int .i64 un.state)).setCell ⟨jb, 1, none⟩ (.int .i64 un.on)).setCell ⟨jb, 2, none⟩ (.slice a6 un.frames.length c6')).setCell ⟨jb, 3, none⟩ (.slice s6' un.stack.length d6)).setCell ⟨jb, 4, none⟩ (.int .i64 un.code) := ⟨_, rfl⟩
        have hf9 : Fr (fun i => i = jb) W8 W9 := by rw [hW9]; exact (Fr.refl (fun i => i = jb) W8).set5 (g := jb) (.inl rfl) _ _ _ _ _
        have hb9 : Blk W9 jb 29 #[.int .i64 un.state, .int .i64 un.on, .slice a6 un.frames.length c6', .slice s6' un.stack.length d6, .int .i64 un.code] := by rw [hW9]; exact Blk.set5 HJ9.out _ _ _ _ _
        rw [← hW9]
        have hR10 := HR9.out.fr hf9 (fun i e => ⟨by have := HR9.out.lt; omega, by omega⟩)
        have hl10 := hf9.own HL9.out (fun i hi e => own_blk_ne HL9.out HJ9.out (by decide) (by rw [hi, e]))
        have hr10 := HRT8.out.keep fun y hy hl => hf9.cell hl (fun e => by have := HR9.out.lt; rcases hy with hy | hy <;> omega)
        have hz9 := hf9.size
        have hla := hl10.alloc (.cells #[.int .i64 tv] 3)
        have HR10 := Lib.hid hR10; have HL10 := Lib.hid hl10; have HLA := Lib.hid hla; have HRT := Lib.hid hr10; have HB9 := Lib.hid hb9
        clear m0 j0 k0 m1 j1 k1 m2 j2 k2 m3 j3 k3 m4 j4 k4 hf9 hW9 hR10 hl10 hla hr10 hb9 HR9 HL9 HJ9 HRT8 HMK
        go_wp2_with (at_builtin; go_must (refine wpList_append_any _ rfl (.tmp 68) (.tmp 70) _ rfl (ib + 1) 3 i0 _ 1 8 Try.underlying23 hi0 hz0 hz1 hz2 rfl (by decide) (.slice lA kk lc) _ _ rfl HLA.out (W9.heap.size + 1) (some ⟨W9.heap.size, 0, none⟩) 1 1 [.int .i64 tv] rfl ?c0 ?c3 ?c1 ?c2 (by simp; omega) ?k))
        case c0 => exact ⟨rfl, fun _ => ⟨_, rfl, by simp, fun j u hj => by
          match j, hj with
          | 0, hj => simp at hj; subst hj; simp [Addr.add]⟩⟩
        case c3 => first | rfl | (intro u hu; have e := List.mem_singleton.1 hu; subst e; rfl)
        case c1 => unfold maxLen; omega
        case c2 => omega
        case k =>
        intro v' w10 hown hg10 hat
        obtain ⟨A8, c8, rfl, _, _⟩ := own_slice hown
        have hal : Below W9.heap.size W9 (W9.alloc (.cells #[.int .i64 tv] 3)) := (Below.refl _ _).alloc (Nat.le_refl _) _
        have hf10 := Fr.of_grown hg10
        have hR11 := (HR10.out.below hal).fr hf10 (fun i e => ⟨by have := (HLA.out.lt i e).1; have := HR10.out.lt; omega, by have := (HLA.out.lt i e).1; omega⟩)
        have hb11 := hf10.blk (HB9.out.below hal HB9.out.lt) (own_blk_ne HLA.out (HB9.out.below hal HB9.out.lt) (by decide))
        have hr11 : RT w10 (fun i => (D i ∧ i < w.heap.size) ∨ (w.heap.size + 1 + 1 + 1 < i ∧ i ≠ jb ∧ (Value.slice A8 (kk + 1) c8).ownBlock ≠ some i)) ⟨a6, c6', s6', d6⟩ un := by
          have h1 := HRT.out.mono (E := fun i => ((D i ∧ i < w.heap.size) ∨ (w.heap.size + 1 + 1 + 1 < i ∧ i ≠ jb ∧ (Value.slice lA kk lc).ownBlock ≠ some i)) ∧ i < W9.heap.size) (fun i hi hl => ⟨hi, hl⟩)
          refine ((h1.below hal).keep (fun y hy hl => hf10.cell hl (fun e => ?_))).mono (fun i hi _ => ?_)
          · rcases hy.1 with h | h
            · have := (HLA.out.lt _ e).1; have := HR10.out.lt; omega
            · exact h.2.2 e
          · rcases hi.1 with h | h
            · exact .inl h
            · refine .inr ⟨h.1, h.2.1, fun e => ?_⟩
              have e' : (Value.slice A8 (kk + 1) c8).ownBlock = some i := by simpa [Value.ownBlock] using e
              rcases hat with h2 | h2
              · exact h.2.2 (by rw [← h2]; exact e')
              · rw [h2] at e'; simp at e'; omega
        have ho11 : w10.ownsRow (ib + 1) 3 1 (.slice A8 (kk + 1) c8) (kk + 1) (IS (topsT (kk + 1) u0)) := by
          rw [HTV.out]
          have e : IS (topsT kk u0 ++ [tv]) = IS (topsT kk u0) ++ [.int .i64 tv] := by simp [IS]
          rw [e]
          exact hown
        have H1 := Lib.hid hR11; have H2 := Lib.hid hb11; have H3 := Lib.hid hr11; have H4 := Lib.hid ho11
        clear hown hg10 hat hal hf10 hR11 hb11 hr11 ho11
        go_wp2_with fail
        refine ⟨⟨kk + 1, A8, c8, ⟨a6, c6', s6', d6⟩, by omega, rfl, by go_num, H1.out, ?_, H4.out⟩, by simp [intOf]; omega⟩
        rw [HUN.out]
        exact ⟨H2.out, H3.out, HLN.out⟩
      · have hkn : kk = nd := by omega
        subst hkn
        have hlti : decide ((kk : Int) < (kk : Int)) = false := decide_eq_false (by omega)
        go_wp2_with fail
        refine (HNEED.out _).mono ?_
        rintro e wq ⟨rfl, rfl⟩
        go_wp2_with fail
        refine (HKIND.out _).mono ?_
        rintro e wk ⟨rfl, rfl⟩
        have hlk := HR8.out.lt
        clear hlti g6
        rcases HOPS.out with rfl | rfl | rfl | rfl | rfl
        · have hkk : kk = 0 := by have h := HND.out; simp [needsV] at h; omega
          subst hkk
          have hJ : RJ w wk D jb (.slice lA 0 lc) hu u0 := HJ8.out
          have HJ := Lib.hid hJ
          have b5 := HJ.out.bx.lt
          have b0 := (hJ.bx.cell 0).trans rfl
          have b1 := (hJ.bx.cell 1).trans rfl
          have b2 := (hJ.bx.cell 2).trans rfl
          have b3 := (hJ.bx.cell 3).trans rfl
          have b4 := (hJ.bx.cell 4).trans rfl
          have i1 := (HR8.out.ibk.cell 1).trans rfl
          have i0 := (HR8.out.ibk.cell 0).trans rfl
          have r0 := (HR8.out.r0.cell 0).trans rfl
          have y0 := HR8.out.r0.frozen 0
          have r1 := (HR8.out.r0.cell 1).trans rfl
          have y1 := HR8.out.r0.frozen 1
          have r2 := (HR8.out.r0.cell 2).trans rfl
          have y2 := HR8.out.r0.frozen 2
          have r3 := (HR8.out.r0.cell 3).trans rfl
          have y3 := HR8.out.r0.frozen 3
          have r4 := (HR8.out.r0.cell 4).trans rfl
          have y4 := HR8.out.r0.frozen 4
          have v0 := (HR8.out.r1.cell 0).trans rfl
          have z0 := HR8.out.r1.frozen 0
          have v1 := (HR8.out.r1.cell 1).trans rfl
          have z1 := HR8.out.r1.frozen 1
          have v2 := (HR8.out.r1.cell 2).trans rfl
          have z2 := HR8.out.r1.frozen 2
          have n0 : jb ≠ w.heap.size + 1 + 1 := by omega
          have n1 : jb ≠ w.heap.size + 1 + 1 + 1 := by omega
          have n2 := Ne.symm n0
          have n3 := Ne.symm n1
          have n4 : ib ≠ w.heap.size + 1 + 1 := by omega
          have n5 : ib ≠ w.heap.size + 1 + 1 + 1 := by omega
          have n6 := Ne.symm n4
          have n7 := Ne.symm n5
          have n8 : w.heap.size + 1 + 1 ≠ w.heap.size + 1 + 1 + 1 := by omega
          have n9 := Ne.symm n8
          clear hJ
          have hv := HSV.out
          rw [show deedV p u0 ⟨0, a⟩ = pushV u0 a from rfl] at hv
          have hpu := refPushed_any hu u0 a wk _ HJ.out.rt HJ.out.len
          rw [← hv] at hpu
          simp only at hpu
          have HPU := Lib.hid hpu
          clear hpu hv
          go_upto_region 21 with fail
          go_wp2_with fail
          refine HPU.out.mono ?_
          rintro e w9 ⟨⟨xA, xc, xB, xd⟩, rfl, hrt9, hb9⟩
          try simp only at hrt9
          have g9 := HR8.out.below hb9
          have hzk := HR8.out.ibk.lt
          clear r0 r1 r2 r3 r4 y0 y1 y2 y3 y4 v0 v1 v2 z0 z1 z2
          have r0 := (g9.r0.cell 0).trans rfl
          have y0 := g9.r0.frozen 0
          have r1 := (g9.r0.cell 1).trans rfl
          have y1 := g9.r0.frozen 1
          have r2 := (g9.r0.cell 2).trans rfl
          have y2 := g9.r0.frozen 2
          have r3 := (g9.r0.cell 3).trans rfl
          have y3 := g9.r0.frozen 3
          have r4 := (g9.r0.cell 4).trans rfl
          have y4 := g9.r0.frozen 4
          have v0 := (g9.r1.cell 0).trans rfl
          have z0 := g9.r1.frozen 0
          have v1 := (g9.r1.cell 1).trans rfl
          have z1 := g9.r1.frozen 1
          have v2 := (g9.r1.cell 2).trans rfl
          have z2 := g9.r1.frozen 2
          have G9 := Lib.hid g9; have HRT9 := Lib.hid hrt9
          clear g9 hrt9 hb9
          go_wp2_with fail
          obtain ⟨k0, k1, k2, k3⟩ := G9.out.fin (D := D) (hx := ⟨xA, xc, xB, xd⟩) (x := x) q HRT9.out (fun i h _ => by rcases h with ⟨h | h, h2⟩ | h; exact .inl h; exact .inr h.1; exact .inr (by omega)) rfl
          refine bodyPost_ret (v := .tuple #[.agg #[.int .i64 x.state, .int .i64 x.on, .slice xA x.frames.length xc, .slice xB x.stack.length xd, .int .i64 x.code], .agg #[.int .i64 q.kind, .int .i64 q.a, .int .i64 q.v]]) (results_cells2 rfl _ _ (w.heap.size + 1 + 1) (w.heap.size + 1 + 1 + 1) 29 37 _ _ (0, 0) (0, 0) _ _ rfl rfl k0 k1 Try.underlying29 rfl (by kernel_rfl) Try.underlying37 rfl (by kernel_rfl)) rfl ?_
          exact ⟨⟨xA, xc, xB, xd⟩, rfl, k2, k3⟩
        · have hkk : kk = 1 := by have h := HND.out; simp [needsV] at h; omega
          subst hkk
          have hJ : RJ w wk D jb (.slice lA 1 lc) hu (popT u0) := HJ8.out
          have HJ := Lib.hid hJ
          have hl : wk.ownsRow (ib + 1) 3 1 (.slice lA 1 lc) 1 (IS [topT u0]) := HL8.out
          obtain ⟨lb, lcap, hv, hlbb, hlbz⟩ := hl.form (by omega)
          injection hv with hv1 _ hv2
          subst hv1 hv2
          have l0 : wk.cell? ⟨lb, 0, none⟩ = some (.int .i64 (topT u0)) := (hl.cellAt 0 (by omega)).trans rfl
          have HL := Lib.hid hl
          clear hl hlbb hlbz
          have b5 := HJ.out.bx.lt
          have b0 := (hJ.bx.cell 0).trans rfl
          have b1 := (hJ.bx.cell 1).trans rfl
          have b2 := (hJ.bx.cell 2).trans rfl
          have b3 := (hJ.bx.cell 3).trans rfl
          have b4 := (hJ.bx.cell 4).trans rfl
          have i1 := (HR8.out.ibk.cell 1).trans rfl
          have i0 := (HR8.out.ibk.cell 0).trans rfl
          have r0 := (HR8.out.r0.cell 0).trans rfl
          have y0 := HR8.out.r0.frozen 0
          have r1 := (HR8.out.r0.cell 1).trans rfl
          have y1 := HR8.out.r0.frozen 1
          have r2 := (HR8.out.r0.cell 2).trans rfl
          have y2 := HR8.out.r0.frozen 2
          have r3 := (HR8.out.r0.cell 3).trans rfl
          have y3 := HR8.out.r0.frozen 3
          have r4 := (HR8.out.r0.cell 4).trans rfl
          have y4 := HR8.out.r0.frozen 4
          have v0 := (HR8.out.r1.cell 0).trans rfl
          have z0 := HR8.out.r1.frozen 0
          have v1 := (HR8.out.r1.cell 1).trans rfl
          have z1 := HR8.out.r1.frozen 1
          have v2 := (HR8.out.r1.cell 2).trans rfl
          have z2 := HR8.out.r1.frozen 2
          have n0 : jb ≠ w.heap.size + 1 + 1 := by omega
          have n1 : jb ≠ w.heap.size + 1 + 1 + 1 := by omega
          have n2 := Ne.symm n0
          have n3 := Ne.symm n1
          have n4 : ib ≠ w.heap.size + 1 + 1 := by omega
          have n5 : ib ≠ w.heap.size + 1 + 1 + 1 := by omega
          have n6 := Ne.symm n4
          have n7 := Ne.symm n5
          have n8 : w.heap.size + 1 + 1 ≠ w.heap.size + 1 + 1 + 1 := by omega
          have n9 := Ne.symm n8
          clear hJ
          have o0 : lb ≠ w.heap.size + 1 + 1 := by have := (HL.out.lt lb rfl).1; omega
          have o1 : lb ≠ w.heap.size + 1 + 1 + 1 := by have := (HL.out.lt lb rfl).1; omega
          have o2 := Ne.symm o0
          have o3 := Ne.symm o1
          have hv := HSV.out
          have hne : ¬ u0.stack = [] := fun e => by have h := HUST.out; rw [e] at h; rw [← h] at hun; simp at hun
          rw [show deedV p u0 ⟨1, a⟩ = popV u0 (fun t _ => (t, q0)) from rfl, popV, if_neg hne] at hv
          injection hv with hv1 hv2
          subst hv1 hv2
          clear hne
          go_upto_region 50 with fail
          go_wp2_with fail
          obtain ⟨k0, k1, k2, k3⟩ := HR8.out.fin (D := D) (hx := hu) (x := (popT u0)) q0 HJ.out.rt (fun i h _ => by rcases h with h | h; exact .inl h; exact .inr h.1) rfl
          refine bodyPost_ret (v := .tuple #[.agg #[.int .i64 (popT u0).state, .int .i64 (popT u0).on, .slice hu.fA (popT u0).frames.length hu.fc, .slice hu.sA (popT u0).stack.length hu.sc, .int .i64 (popT u0).code], .agg #[.int .i64 0, .int .i64 0, .int .i64 0]]) (results_cells2 rfl _ _ (w.heap.size + 1 + 1) (w.heap.size + 1 + 1 + 1) 29 37 _ _ (0, 0) (0, 0) _ _ rfl rfl k0 k1 Try.underlying29 rfl (by kernel_rfl) Try.underlying37 rfl (by kernel_rfl)) rfl ?_
          exact ⟨hu, rfl, k2, k3⟩
        · have hkk : kk = 1 := by have h := HND.out; simp [needsV] at h; omega
          subst hkk
          have hJ : RJ w wk D jb (.slice lA 1 lc) hu (popT u0) := HJ8.out
          have HJ := Lib.hid hJ
          have hl : wk.ownsRow (ib + 1) 3 1 (.slice lA 1 lc) 1 (IS [topT u0]) := HL8.out
          obtain ⟨lb, lcap, hv, hlbb, hlbz⟩ := hl.form (by omega)
          injection hv with hv1 _ hv2
          subst hv1 hv2
          have l0 : wk.cell? ⟨lb, 0, none⟩ = some (.int .i64 (topT u0)) := (hl.cellAt 0 (by omega)).trans rfl
          have HL := Lib.hid hl
          clear hl hlbb hlbz
          have b5 := HJ.out.bx.lt
          have b0 := (hJ.bx.cell 0).trans rfl
          have b1 := (hJ.bx.cell 1).trans rfl
          have b2 := (hJ.bx.cell 2).trans rfl
          have b3 := (hJ.bx.cell 3).trans rfl
          have b4 := (hJ.bx.cell 4).trans rfl
          have i1 := (HR8.out.ibk.cell 1).trans rfl
          have i0 := (HR8.out.ibk.cell 0).trans rfl
          have r0 := (HR8.out.r0.cell 0).trans rfl
          have y0 := HR8.out.r0.frozen 0
          have r1 := (HR8.out.r0.cell 1).trans rfl
          have y1 := HR8.out.r0.frozen 1
          have r2 := (HR8.out.r0.cell 2).trans rfl
          have y2 := HR8.out.r0.frozen 2
          have r3 := (HR8.out.r0.cell 3).trans rfl
          have y3 := HR8.out.r0.frozen 3
          have r4 := (HR8.out.r0.cell 4).trans rfl
          have y4 := HR8.out.r0.frozen 4
          have v0 := (HR8.out.r1.cell 0).trans rfl
          have z0 := HR8.out.r1.frozen 0
          have v1 := (HR8.out.r1.cell 1).trans rfl
          have z1 := HR8.out.r1.frozen 1
          have v2 := (HR8.out.r1.cell 2).trans rfl
          have z2 := HR8.out.r1.frozen 2
          have n0 : jb ≠ w.heap.size + 1 + 1 := by omega
          have n1 : jb ≠ w.heap.size + 1 + 1 + 1 := by omega
          have n2 := Ne.symm n0
          have n3 := Ne.symm n1
          have n4 : ib ≠ w.heap.size + 1 + 1 := by omega
          have n5 : ib ≠ w.heap.size + 1 + 1 + 1 := by omega
          have n6 := Ne.symm n4
          have n7 := Ne.symm n5
          have n8 : w.heap.size + 1 + 1 ≠ w.heap.size + 1 + 1 + 1 := by omega
          have n9 := Ne.symm n8
          clear hJ
          have o0 : lb ≠ w.heap.size + 1 + 1 := by have := (HL.out.lt lb rfl).1; omega
          have o1 : lb ≠ w.heap.size + 1 + 1 + 1 := by have := (HL.out.lt lb rfl).1; omega
          have o2 := Ne.symm o0
          have o3 := Ne.symm o1
          have hne : ¬ u0.stack = [] := fun e => by have h := HUST.out; rw [e] at h; rw [← h] at hun; simp at hun
          have hv := HSV.out
          rw [show deedV p u0 ⟨2, a⟩ = popV u0 (fun t v => pushV (pushT t v) v) from rfl, popV, if_neg hne] at hv
          have h15 : (popT u0).stack.length < 16 := by
            have h2 : (popT u0).stack.length = u0.stack.length - 1 := by simp [popT]
            have h3 := HDOK.out.st
            have h4 : u0.stack.length ≠ 0 := fun e => hne (List.eq_nil_of_length_eq_zero e)
            omega
          generalize topT u0 = tv0 at *
          generalize popT u0 = uc at *
          obtain ⟨ud, hud⟩ : ∃ ud, ud = pushT uc tv0 := ⟨_, rfl⟩
          rw [← hud] at hv
          have hlud : LensT ud := by rw [hud]; exact lens_push tv0 HJ.out.len h15
          have HC : Hid (∀ X, Below wk.heap.size wk X → Calls Try.prog 40 #[.agg #[.int .i64 uc.state, .int .i64 uc.on, .slice hu.fA uc.frames.length hu.fc, .slice hu.sA uc.stack.length hu.sc, .int .i64 uc.code], .int .i64 tv0] X fun e w9 => ∃ h9 : TH, e = .returned (.tuple #[.agg #[.int .i64 ud.state, .int .i64 ud.on, .slice h9.fA ud.frames.length h9.fc, .slice h9.sA ud.stack.length h9.sc, .int .i64 ud.code], .bool true]) ∧ RT w9 (fun i => ((D i ∧ i < w.heap.size) ∨ (w.heap.size + 1 + 1 + 1 < i ∧ i < wk.heap.size)) ∨ X.heap.size ≤ i) h9 ud ∧ Below X.heap.size X w9 ∧ Below wk.heap.size wk w9) := fun X hX => by
            have h0 := refPush_all hu uc tv0 X _ ((HJ.out.rt.mono (E := fun i => ((D i ∧ i < w.heap.size) ∨ (w.heap.size + 1 + 1 + 1 < i ∧ i < wk.heap.size))) (fun i hi hl => by rcases hi with hi | hi; exact .inl hi; exact .inr ⟨hi.1, hl⟩)).below hX) HJ.out.len ud (by rw [if_pos h15]; exact hud)
            rw [decide_eq_true h15] at h0
            refine h0.mono ?_
            rintro e w9 ⟨h9, e1, e2, e3⟩
            exact ⟨h9, e1, e2, e3, hX.trans (e3.mono hX.size)⟩
          have KS : Hid (∀ X, Below wk.heap.size wk X → X.cell? ⟨jb, 0, none⟩ = some (.int .i64 uc.state) ∧ X.cell? ⟨jb, 1, none⟩ = some (.int .i64 uc.on) ∧ X.cell? ⟨jb, 2, none⟩ = some (.slice hu.fA uc.frames.length hu.fc) ∧ X.cell? ⟨jb, 3, none⟩ = some (.slice hu.sA uc.stack.length hu.sc) ∧ X.cell? ⟨jb, 4, none⟩ = some (.int .i64 uc.code) ∧ X.cell? ⟨lb, 0, none⟩ = some (.int .i64 tv0)) := fun X hX => by
            have g := HJ.out.bx.below hX HJ.out.bx.lt
            have c : ∀ j, X.cell? ⟨lb, j, none⟩ = wk.cell? ⟨lb, j, none⟩ := fun j => hX.cell (p := ⟨lb, j, none⟩) (HL.out.lt lb rfl).2
            exact ⟨(g.cell 0).trans rfl, (g.cell 1).trans rfl, (g.cell 2).trans rfl, (g.cell 3).trans rfl, (g.cell 4).trans rfl, (c 0).trans l0⟩
          have KA : Hid (∀ (X : World) (a0 a1 a2 a3 a4 : Value), (X.cell? ⟨jb, 0, none⟩ = some (.int .i64 uc.state) ∧ X.cell? ⟨jb, 1, none⟩ = some (.int .i64 uc.on) ∧ X.cell? ⟨jb, 2, none⟩ = some (.slice hu.fA uc.frames.length hu.fc) ∧ X.cell? ⟨jb, 3, none⟩ = some (.slice hu.sA uc.stack.length hu.sc) ∧ X.cell? ⟨jb, 4, none⟩ = some (.int .i64 uc.code) ∧ X.cell? ⟨lb, 0, none⟩ = some (.int .i64 tv0)) → (((((X.setCell ⟨w.heap.size + 1 + 1, 0, none⟩ a0).setCell ⟨w.heap.size + 1 + 1, 1, none⟩ a1).setCell ⟨w.heap.size + 1 + 1, 2, none⟩ a2).setCell ⟨w.heap.size + 1 + 1, 3, none⟩ a3).setCell ⟨w.heap.size + 1 + 1, 4, none⟩ a4).cell? ⟨jb, 0, none⟩ = some (.int .i64 uc.state) ∧ (((((X.setCell ⟨w.heap.size + 1 + 1, 0, none⟩ a0).setCell ⟨w.heap.size + 1 + 1, 1, none⟩ a1).setCell ⟨w.heap.size + 1 + 1, 2, none⟩ a2).setCell ⟨w.heap.size + 1 + 1, 3, none⟩ a3).setCell ⟨w.heap.size + 1 + 1, 4, none⟩ a4).cell? ⟨jb, 1, none⟩ = some (.int .i64 uc.on) ∧ (((((X.setCell ⟨w.heap.size + 1 + 1, 0, none⟩ a0).setCell ⟨w.heap.size + 1 + 1, 1, none⟩ a1).setCell ⟨w.heap.size + 1 + 1, 2, none⟩ a2).setCell ⟨w.heap.size + 1 + 1, 3, none⟩ a3).setCell ⟨w.heap.size + 1 + 1, 4, none⟩ a4).cell? ⟨jb, 2, none⟩ = some (.slice hu.fA uc.frames.length hu.fc) ∧ (((((X.setCell ⟨w.heap.size + 1 + 1, 0, none⟩ a0).setCell ⟨w.heap.size + 1 + 1, 1, none⟩ a1).setCell ⟨w.heap.size + 1 + 1, 2, none⟩ a2).setCell ⟨w.heap.size + 1 + 1, 3, none⟩ a3).setCell ⟨w.heap.size + 1 + 1, 4, none⟩ a4).cell? ⟨jb, 3, none⟩ = some (.slice hu.sA uc.stack.length hu.sc) ∧ (((((X.setCell ⟨w.heap.size + 1 + 1, 0, none⟩ a0).setCell ⟨w.heap.size + 1 + 1, 1, none⟩ a1).setCell ⟨w.heap.size + 1 + 1, 2, none⟩ a2).setCell ⟨w.heap.size + 1 + 1, 3, none⟩ a3).setCell ⟨w.heap.size + 1 + 1, 4, none⟩ a4).cell? ⟨jb, 4, none⟩ = some (.int .i64 uc.code) ∧ (((((X.setCell ⟨w.heap.size + 1 + 1, 0, none⟩ a0).setCell ⟨w.heap.size + 1 + 1, 1, none⟩ a1).setCell ⟨w.heap.size + 1 + 1, 2, none⟩ a2).setCell ⟨w.heap.size + 1 + 1, 3, none⟩ a3).setCell ⟨w.heap.size + 1 + 1, 4, none⟩ a4).cell? ⟨lb, 0, none⟩ = some (.int .i64 tv0)) := fun X a0 a1 a2 a3 a4 h => ⟨(far5 X _ _ _ _ _ _ ⟨jb, 0, none⟩ n0).trans h.1, (far5 X _ _ _ _ _ _ ⟨jb, 1, none⟩ n0).trans h.2.1, (far5 X _ _ _ _ _ _ ⟨jb, 2, none⟩ n0).trans h.2.2.1, (far5 X _ _ _ _ _ _ ⟨jb, 3, none⟩ n0).trans h.2.2.2.1, (far5 X _ _ _ _ _ _ ⟨jb, 4, none⟩ n0).trans h.2.2.2.2.1, (far5 X _ _ _ _ _ _ ⟨lb, 0, none⟩ o0).trans h.2.2.2.2.2⟩
          have KB : Hid (∀ (X : World) (a0 a1 a2 : Value), (X.cell? ⟨jb, 0, none⟩ = some (.int .i64 uc.state) ∧ X.cell? ⟨jb, 1, none⟩ = some (.int .i64 uc.on) ∧ X.cell? ⟨jb, 2, none⟩ = some (.slice hu.fA uc.frames.length hu.fc) ∧ X.cell? ⟨jb, 3, none⟩ = some (.slice hu.sA uc.stack.length hu.sc) ∧ X.cell? ⟨jb, 4, none⟩ = some (.int .i64 uc.code) ∧ X.cell? ⟨lb, 0, none⟩ = some (.int .i64 tv0)) → (((X.setCell ⟨w.heap.size + 1 + 1 + 1, 0, none⟩ a0).setCell ⟨w.heap.size + 1 + 1 + 1, 1, none⟩ a1).setCell ⟨w.heap.size + 1 + 1 + 1, 2, none⟩ a2).cell? ⟨jb, 0, none⟩ = some (.int .i64 uc.state) ∧ (((X.setCell ⟨w.heap.size + 1 + 1 + 1, 0, none⟩ a0).setCell ⟨w.heap.size + 1 + 1 + 1, 1, none⟩ a1).setCell ⟨w.heap.size + 1 + 1 + 1, 2, none⟩ a2).cell? ⟨jb, 1, none⟩ = some (.int .i64 uc.on) ∧ (((X.setCell ⟨w.heap.size + 1 + 1 + 1, 0, none⟩ a0).setCell ⟨w.heap.size + 1 + 1 + 1, 1, none⟩ a1).setCell ⟨w.heap.size + 1 + 1 + 1, 2, none⟩ a2).cell? ⟨jb, 2, none⟩ = some (.slice hu.fA uc.frames.length hu.fc) ∧ (((X.setCell ⟨w.heap.size + 1 + 1 + 1, 0, none⟩ a0).setCell ⟨w.heap.size + 1 + 1 + 1, 1, none⟩ a1).setCell ⟨w.heap.size + 1 + 1 + 1, 2, none⟩ a2).cell? ⟨jb, 3, none⟩ = some (.slice hu.sA uc.stack.length hu.sc) ∧ (((X.setCell ⟨w.heap.size + 1 + 1 + 1, 0, none⟩ a0).setCell ⟨w.heap.size + 1 + 1 + 1, 1, none⟩ a1).setCell ⟨w.heap.size + 1 + 1 + 1, 2, none⟩ a2).cell? ⟨jb, 4, none⟩ = some (.int .i64 uc.code) ∧ (((X.setCell ⟨w.heap.size + 1 + 1 + 1, 0, none⟩ a0).setCell ⟨w.heap.size + 1 + 1 + 1, 1, none⟩ a1).setCell ⟨w.heap.size + 1 + 1 + 1, 2, none⟩ a2).cell? ⟨lb, 0, none⟩ = some (.int .i64 tv0)) := fun X a0 a1 a2 h => ⟨(far3 X _ _ _ _ ⟨jb, 0, none⟩ n1).trans h.1, (far3 X _ _ _ _ ⟨jb, 1, none⟩ n1).trans h.2.1, (far3 X _ _ _ _ ⟨jb, 2, none⟩ n1).trans h.2.2.1, (far3 X _ _ _ _ ⟨jb, 3, none⟩ n1).trans h.2.2.2.1, (far3 X _ _ _ _ ⟨jb, 4, none⟩ n1).trans h.2.2.2.2.1, (far3 X _ _ _ _ ⟨lb, 0, none⟩ o1).trans h.2.2.2.2.2⟩
          have HV := Lib.hid hv; have HLUD := Lib.hid hlud; have HUDE := Lib.hid hud
          clear hne hv hud hlud KA KB h15
          have hlkk := HR8.out.lt
          have hibk := HR8.out.ibk.lt
          have hjbk := HJ.out.bx.lt
          have hlbk := (HL.out.lt lb rfl).2
          have HDD : Hid (∀ i, D i ∧ i < w.heap.size → i < w.heap.size) := fun i h => h.2
          go_upto_region 23 with fail
          clear r0 r1 r2 r3 r4 y0 y1 y2 y3 y4 v0 v1 v2 z0 z1 z2 i0 i1
          go_cut [15, 16] (fun s15 s16 wx => ∃ (db : Nat) (h9 : TH), s15 = .pointer (some ⟨db, 0, none⟩) ∧ s16 = .bool true ∧ TD wx (fun i => (D i ∧ i < w.heap.size) ∨ (w.heap.size + 1 + 1 + 1 < i ∧ i ≠ db)) db h9 ud ∧ wk.heap.size ≤ db ∧ Below wk.heap.size wk wx)
          case first =>
            go_region_held3 (fun w' => w'.cell? ⟨jb, 0, none⟩ = some (.int .i64 uc.state) ∧ w'.cell? ⟨jb, 1, none⟩ = some (.int .i64 uc.on) ∧ w'.cell? ⟨jb, 2, none⟩ = some (.slice hu.fA uc.frames.length hu.fc) ∧ w'.cell? ⟨jb, 3, none⟩ = some (.slice hu.sA uc.stack.length hu.sc) ∧ w'.cell? ⟨jb, 4, none⟩ = some (.int .i64 uc.code) ∧ w'.cell? ⟨lb, 0, none⟩ = some (.int .i64 tv0))
              (first | (with_reducible exact KS.out _ (by repeat (first | with_reducible assumption | with_reducible exact Below.refl _ _ | with_reducible exact H5.out | with_reducible refine Below.drew ?_ | with_reducible refine Below.setCell ?_ (by first | exact Nat.le_refl _ | exact h5.size | exact H5.out.size | omega) _ | with_reducible refine Below.alloc ?_ (by first | exact h5.size | exact H5.out.size | exact Nat.le_refl _ | omega) _))) | fail)
              (first
                | (go_simp; go_at_call 40; refine (HC.out _ (by repeat (first | with_reducible assumption | with_reducible exact Below.refl _ _ | with_reducible exact H5.out | with_reducible refine Below.drew ?_ | with_reducible refine Below.setCell ?_ (by first | exact Nat.le_refl _ | exact h5.size | exact H5.out.size | omega) _ | with_reducible refine Below.alloc ?_ (by first | exact h5.size | exact H5.out.size | exact Nat.le_refl _ | omega) _))).mono ?_; rintro e w5 ⟨⟨a2, c2, s2, d2⟩, rfl, hrt5, h4, h5⟩
                   first
                     | (have nb0 : Blk w5 wk.heap.size 29 #[.int .i64 0, .int .i64 0, .slice none 0 0, .slice none 0 0, .int .i64 0] := (Blk.drew (Blk.new wk 29 #[.int .i64 0, .int .i64 0, .slice none 0 0, .slice none 0 0, .int .i64 0])).below h4 (by simp)
                        have k0 : w5.cell? ⟨wk.heap.size, 0, none⟩ = some (.int .i64 0) := (nb0.cell 0).trans rfl
                        have f0 : w5.frozen? ⟨wk.heap.size, 0, none⟩ = false := nb0.frozen 0
                        have k1 : w5.cell? ⟨wk.heap.size, 1, none⟩ = some (.int .i64 0) := (nb0.cell 1).trans rfl
                        have f1 : w5.frozen? ⟨wk.heap.size, 1, none⟩ = false := nb0.frozen 1
                        have k2 : w5.cell? ⟨wk.heap.size, 2, none⟩ = some (.slice none 0 0) := (nb0.cell 2).trans rfl
                        have f2 : w5.frozen? ⟨wk.heap.size, 2, none⟩ = false := nb0.frozen 2
                        have k3 : w5.cell? ⟨wk.heap.size, 3, none⟩ = some (.slice none 0 0) := (nb0.cell 3).trans rfl
                        have f3 : w5.frozen? ⟨wk.heap.size, 3, none⟩ = false := nb0.frozen 3
                        have k4 : w5.cell? ⟨wk.heap.size, 4, none⟩ = some (.int .i64 0) := (nb0.cell 4).trans rfl
                        have f4 : w5.frozen? ⟨wk.heap.size, 4, none⟩ = false := nb0.frozen 4
                        have hzz : wk.heap.size < w5.heap.size := nb0.lt
                        have H5 := Lib.hid h5; have H4 := Lib.hid h4; have HRT5 := Lib.hid hrt5
                        clear nb0 h5 h4 hrt5)
                     | (have H5 := Lib.hid h5; have H4 := Lib.hid h4; have HRT5 := Lib.hid hrt5
                        clear h5 h4 hrt5)))
            all_goals
              go_wp2_with fail
              go_meet
              have h5 := H5.out
              have h4 := H4.out
              have hrt5 := HRT5.out
              have hs5 := h5.size
              have hdd := HDD.out
              first
                | (have htd := TD.new (hrt5.mono (E := fun i => (D i ∧ i < w.heap.size) ∨ (w.heap.size + 1 + 1 + 1 < i ∧ i ≠ w5.heap.size)) (fun i hi hlt => by
                     simp only [World.size_drew] at hi
                     rcases hi with (hi | hi) | hi
                     · exact .inl hi
                     · exact .inr ⟨hi.1, by omega⟩
                     · exact .inr ⟨by omega, by omega⟩))
                   simp only at htd
                   with_reducible refine ⟨_, ⟨a2, c2, s2, d2⟩, rfl, rfl, htd, ?_, h5.alloc h5.size _⟩
                   omega)
                | (have hp := TD.put (w1 := (wk.alloc (.cells #[.int .i64 0, .int .i64 0, .slice none 0 0, .slice none 0 0, .int .i64 0] 29)).drew) (b := wk.heap.size) hrt5 (fun i hi e => by
                     simp at hi
                     rcases hi with (hi | hi) | hi
                     · have := hdd i hi; omega
                     · omega
                     · omega) (Blk.drew (Blk.new wk 29 #[.int .i64 0, .int .i64 0, .slice none 0 0, .slice none 0 0, .int .i64 0])) h4
                   have hfr := (Fr.refl (fun i => i = wk.heap.size) w5).set5 (g := wk.heap.size) (.inl rfl) (.int .i64 ud.state) (.int .i64 ud.on) (.slice a2 ud.frames.length c2) (.slice s2 ud.stack.length d2) (.int .i64 ud.code)
                   have hq := h5.trans (hfr.below h5.size (fun i hi => by omega))
                   have hp2 := hp.mono (E := fun i => (D i ∧ i < w.heap.size) ∨ (w.heap.size + 1 + 1 + 1 < i ∧ i ≠ wk.heap.size)) (fun i hi _ => by
                     simp at hi
                     rcases hi with (hi | hi) | hi
                     · exact .inl hi
                     · exact .inr ⟨hi.1, by omega⟩
                     · exact .inr ⟨by omega, by omega⟩)
                   simp only at hp2
                   with_reducible exact ⟨_, ⟨a2, c2, s2, d2⟩, rfl, rfl, hp2, Nat.le_refl _, hq⟩)
          case rest =>
            obtain ⟨db, d9, rfl, rfl, htd, hdb, hbw⟩ := hcut
            obtain ⟨W9, hW9⟩ : ∃ W, W = wc := ⟨_, rfl⟩
            rw [← hW9] at htd hbw ⊢
            clear hW9 HC KS b0 b1 b2 b3 b4 l0
            have g9 := HR8.out.below hbw
            have l0 : W9.cell? ⟨lb, 0, none⟩ = some (.int .i64 tv0) := (hbw.cell (p := ⟨lb, 0, none⟩) hlbk).trans ((HL.out.cellAt 0 (by omega)).trans rfl)
            have d0 := (htd.tb.cell 0).trans rfl
            have d1 := (htd.tb.cell 1).trans rfl
            have d2 := (htd.tb.cell 2).trans rfl
            have d3 := (htd.tb.cell 3).trans rfl
            have d4 := (htd.tb.cell 4).trans rfl
            have e0 : db ≠ w.heap.size + 1 + 1 := by omega
            have e1 : db ≠ w.heap.size + 1 + 1 + 1 := by omega
            have HG9 := Lib.hid g9; have HTD := Lib.hid htd; have HBW := Lib.hid hbw
            have hv := HV.out
            clear g9 htd hbw
            have HC : Hid (∀ X, Below W9.heap.size W9 X → Calls Try.prog 39 #[.agg #[.int .i64 ud.state, .int .i64 ud.on, .slice d9.fA ud.frames.length d9.fc, .slice d9.sA ud.stack.length d9.sc, .int .i64 ud.code], .int .i64 tv0] X fun e w9 => ∃ h9 : TH, e = .returned (.tuple #[.agg #[.int .i64 x.state, .int .i64 x.on, .slice h9.fA x.frames.length h9.fc, .slice h9.sA x.stack.length h9.sc, .int .i64 x.code], .agg #[.int .i64 q.kind, .int .i64 q.a, .int .i64 q.v]]) ∧ RT w9 (fun i => (D i ∧ i < w.heap.size) ∨ w.heap.size + 1 + 1 + 1 < i) h9 x ∧ Hid (Below W9.heap.size W9 w9)) := fun X hX => by
              have h0 := refPushed_any d9 ud tv0 X _ (HTD.out.rt.below hX) HLUD.out
              rw [← hv] at h0
              refine h0.mono ?_
              rintro e w9 ⟨h9, e1, e2, e3⟩
              exact ⟨h9, e1, e2.mono (fun i hi _ => by
                rcases hi with ⟨hi | hi, _⟩ | hi
                · exact .inl hi
                · exact .inr hi.1
                · have := hX.size; have := HBW.out.size; exact .inr (by omega)), Lib.hid (hX.trans (e3.mono hX.size))⟩
            have KS : Hid (∀ X, Below W9.heap.size W9 X → X.cell? ⟨db, 0, none⟩ = some (.int .i64 ud.state) ∧ X.cell? ⟨db, 1, none⟩ = some (.int .i64 ud.on) ∧ X.cell? ⟨db, 2, none⟩ = some (.slice d9.fA ud.frames.length d9.fc) ∧ X.cell? ⟨db, 3, none⟩ = some (.slice d9.sA ud.stack.length d9.sc) ∧ X.cell? ⟨db, 4, none⟩ = some (.int .i64 ud.code) ∧ X.cell? ⟨lb, 0, none⟩ = some (.int .i64 tv0)) := fun X hX => by
              have g := HTD.out.tb.below hX HTD.out.tb.lt
              have c : ∀ j, X.cell? ⟨lb, j, none⟩ = W9.cell? ⟨lb, j, none⟩ := fun j => hX.cell (p := ⟨lb, j, none⟩) (by have := HBW.out.size; show lb < _; omega)
              exact ⟨(g.cell 0).trans rfl, (g.cell 1).trans rfl, (g.cell 2).trans rfl, (g.cell 3).trans rfl, (g.cell 4).trans rfl, (c 0).trans l0⟩
            have KA : Hid (∀ (X : World) (a0 a1 a2 a3 a4 : Value), (X.cell? ⟨db, 0, none⟩ = some (.int .i64 ud.state) ∧ X.cell? ⟨db, 1, none⟩ = some (.int .i64 ud.on) ∧ X.cell? ⟨db, 2, none⟩ = some (.slice d9.fA ud.frames.length d9.fc) ∧ X.cell? ⟨db, 3, none⟩ = some (.slice d9.sA ud.stack.length d9.sc) ∧ X.cell? ⟨db, 4, none⟩ = some (.int .i64 ud.code) ∧ X.cell? ⟨lb, 0, none⟩ = some (.int .i64 tv0)) → (((((X.setCell ⟨w.heap.size + 1 + 1, 0, none⟩ a0).setCell ⟨w.heap.size + 1 + 1, 1, none⟩ a1).setCell ⟨w.heap.size + 1 + 1, 2, none⟩ a2).setCell ⟨w.heap.size + 1 + 1, 3, none⟩ a3).setCell ⟨w.heap.size + 1 + 1, 4, none⟩ a4).cell? ⟨db, 0, none⟩ = some (.int .i64 ud.state) ∧ (((((X.setCell ⟨w.heap.size + 1 + 1, 0, none⟩ a0).setCell ⟨w.heap.size + 1 + 1, 1, none⟩ a1).setCell ⟨w.heap.size + 1 + 1, 2, none⟩ a2).setCell ⟨w.heap.size + 1 + 1, 3, none⟩ a3).setCell ⟨w.heap.size + 1 + 1, 4, none⟩ a4).cell? ⟨db, 1, none⟩ = some (.int .i64 ud.on) ∧ (((((X.setCell ⟨w.heap.size + 1 + 1, 0, none⟩ a0).setCell ⟨w.heap.size + 1 + 1, 1, none⟩ a1).setCell ⟨w.heap.size + 1 + 1, 2, none⟩ a2).setCell ⟨w.heap.size + 1 + 1, 3, none⟩ a3).setCell ⟨w.heap.size + 1 + 1, 4, none⟩ a4).cell? ⟨db, 2, none⟩ = some (.slice d9.fA ud.frames.length d9.fc) ∧ (((((X.setCell ⟨w.heap.size + 1 + 1, 0, none⟩ a0).setCell ⟨w.heap.size + 1 + 1, 1, none⟩ a1).setCell ⟨w.heap.size + 1 + 1, 2, none⟩ a2).setCell ⟨w.heap.size + 1 + 1, 3, none⟩ a3).setCell ⟨w.heap.size + 1 + 1, 4, none⟩ a4).cell? ⟨db, 3, none⟩ = some (.slice d9.sA ud.stack.length d9.sc) ∧ (((((X.setCell ⟨w.heap.size + 1 + 1, 0, none⟩ a0).setCell ⟨w.heap.size + 1 + 1, 1, none⟩ a1).setCell ⟨w.heap.size + 1 + 1, 2, none⟩ a2).setCell ⟨w.heap.size + 1 + 1, 3, none⟩ a3).setCell ⟨w.heap.size + 1 + 1, 4, none⟩ a4).cell? ⟨db, 4, none⟩ = some (.int .i64 ud.code) ∧ (((((X.setCell ⟨w.heap.size + 1 + 1, 0, none⟩ a0).setCell ⟨w.heap.size + 1 + 1, 1, none⟩ a1).setCell ⟨w.heap.size + 1 + 1, 2, none⟩ a2).setCell ⟨w.heap.size + 1 + 1, 3, none⟩ a3).setCell ⟨w.heap.size + 1 + 1, 4, none⟩ a4).cell? ⟨lb, 0, none⟩ = some (.int .i64 tv0)) := fun X a0 a1 a2 a3 a4 h => ⟨(far5 X _ _ _ _ _ _ ⟨db, 0, none⟩ e0).trans h.1, (far5 X _ _ _ _ _ _ ⟨db, 1, none⟩ e0).trans h.2.1, (far5 X _ _ _ _ _ _ ⟨db, 2, none⟩ e0).trans h.2.2.1, (far5 X _ _ _ _ _ _ ⟨db, 3, none⟩ e0).trans h.2.2.2.1, (far5 X _ _ _ _ _ _ ⟨db, 4, none⟩ e0).trans h.2.2.2.2.1, (far5 X _ _ _ _ _ _ ⟨lb, 0, none⟩ o0).trans h.2.2.2.2.2⟩
            have KB : Hid (∀ (X : World) (a0 a1 a2 : Value), (X.cell? ⟨db, 0, none⟩ = some (.int .i64 ud.state) ∧ X.cell? ⟨db, 1, none⟩ = some (.int .i64 ud.on) ∧ X.cell? ⟨db, 2, none⟩ = some (.slice d9.fA ud.frames.length d9.fc) ∧ X.cell? ⟨db, 3, none⟩ = some (.slice d9.sA ud.stack.length d9.sc) ∧ X.cell? ⟨db, 4, none⟩ = some (.int .i64 ud.code) ∧ X.cell? ⟨lb, 0, none⟩ = some (.int .i64 tv0)) → (((X.setCell ⟨w.heap.size + 1 + 1 + 1, 0, none⟩ a0).setCell ⟨w.heap.size + 1 + 1 + 1, 1, none⟩ a1).setCell ⟨w.heap.size + 1 + 1 + 1, 2, none⟩ a2).cell? ⟨db, 0, none⟩ = some (.int .i64 ud.state) ∧ (((X.setCell ⟨w.heap.size + 1 + 1 + 1, 0, none⟩ a0).setCell ⟨w.heap.size + 1 + 1 + 1, 1, none⟩ a1).setCell ⟨w.heap.size + 1 + 1 + 1, 2, none⟩ a2).cell? ⟨db, 1, none⟩ = some (.int .i64 ud.on) ∧ (((X.setCell ⟨w.heap.size + 1 + 1 + 1, 0, none⟩ a0).setCell ⟨w.heap.size + 1 + 1 + 1, 1, none⟩ a1).setCell ⟨w.heap.size + 1 + 1 + 1, 2, none⟩ a2).cell? ⟨db, 2, none⟩ = some (.slice d9.fA ud.frames.length d9.fc) ∧ (((X.setCell ⟨w.heap.size + 1 + 1 + 1, 0, none⟩ a0).setCell ⟨w.heap.size + 1 + 1 + 1, 1, none⟩ a1).setCell ⟨w.heap.size + 1 + 1 + 1, 2, none⟩ a2).cell? ⟨db, 3, none⟩ = some (.slice d9.sA ud.stack.length d9.sc) ∧ (((X.setCell ⟨w.heap.size + 1 + 1 + 1, 0, none⟩ a0).setCell ⟨w.heap.size + 1 + 1 + 1, 1, none⟩ a1).setCell ⟨w.heap.size + 1 + 1 + 1, 2, none⟩ a2).cell? ⟨db, 4, none⟩ = some (.int .i64 ud.code) ∧ (((X.setCell ⟨w.heap.size + 1 + 1 + 1, 0, none⟩ a0).setCell ⟨w.heap.size + 1 + 1 + 1, 1, none⟩ a1).setCell ⟨w.heap.size + 1 + 1 + 1, 2, none⟩ a2).cell? ⟨lb, 0, none⟩ = some (.int .i64 tv0)) := fun X a0 a1 a2 h => ⟨(far3 X _ _ _ _ ⟨db, 0, none⟩ e1).trans h.1, (far3 X _ _ _ _ ⟨db, 1, none⟩ e1).trans h.2.1, (far3 X _ _ _ _ ⟨db, 2, none⟩ e1).trans h.2.2.1, (far3 X _ _ _ _ ⟨db, 3, none⟩ e1).trans h.2.2.2.1, (far3 X _ _ _ _ ⟨db, 4, none⟩ e1).trans h.2.2.2.2.1, (far3 X _ _ _ _ ⟨lb, 0, none⟩ o1).trans h.2.2.2.2.2⟩
            clear hv
            go_upto_region 24 with fail
            have HBA := Lib.hid (Below.refl W9.heap.size W9)
            go_region_held3 (fun w' => w'.cell? ⟨db, 0, none⟩ = some (.int .i64 ud.state) ∧ w'.cell? ⟨db, 1, none⟩ = some (.int .i64 ud.on) ∧ w'.cell? ⟨db, 2, none⟩ = some (.slice d9.fA ud.frames.length d9.fc) ∧ w'.cell? ⟨db, 3, none⟩ = some (.slice d9.sA ud.stack.length d9.sc) ∧ w'.cell? ⟨db, 4, none⟩ = some (.int .i64 ud.code) ∧ w'.cell? ⟨lb, 0, none⟩ = some (.int .i64 tv0))
              (first | with_reducible exact KS.out _ (by first | with_reducible exact HBA.out | with_reducible exact HBA.out.drew | with_reducible exact Below.refl _ _ | exact (Below.refl _ _).drew) | with_reducible exact G3 | with_reducible exact KA.out _ _ _ _ _ _ G3 | with_reducible exact KB.out _ _ _ _ (KA.out _ _ _ _ _ _ G3) | with_reducible exact KB.out _ _ _ _ G3 | with_reducible exact KA.out _ _ _ _ _ _ (KB.out _ _ _ _ G3) | go_keep)
              (first
                | (go_at_call 39; refine (HC.out _ (by first | with_reducible exact HBA.out | with_reducible exact HBA.out.drew | with_reducible exact Below.refl _ _ | exact (Below.refl _ _).drew)).mono ?_; rintro e w9 ⟨⟨xA, xc, xB, xd⟩, rfl, hrt9, HBA⟩
                   try simp only at hrt9
                   have G3 := KS.out w9 HBA.out
                   have g9 := HG9.out.below HBA.out
                   have r0 := (g9.r0.cell 0).trans rfl
                   have y0 := g9.r0.frozen 0
                   have r1 := (g9.r0.cell 1).trans rfl
                   have y1 := g9.r0.frozen 1
                   have r2 := (g9.r0.cell 2).trans rfl
                   have y2 := g9.r0.frozen 2
                   have r3 := (g9.r0.cell 3).trans rfl
                   have y3 := g9.r0.frozen 3
                   have r4 := (g9.r0.cell 4).trans rfl
                   have y4 := g9.r0.frozen 4
                   have v0 := (g9.r1.cell 0).trans rfl
                   have z0 := g9.r1.frozen 0
                   have v1 := (g9.r1.cell 1).trans rfl
                   have z1 := g9.r1.frozen 1
                   have v2 := (g9.r1.cell 2).trans rfl
                   have z2 := g9.r1.frozen 2
                   have G9 := Lib.hid g9
                   have HRT9 := Lib.hid hrt9
                   clear g9 hrt9)
                | fail)
            all_goals
              clear d0 d1 d2 d3 d4 l0
              go_wp2_with fail
              obtain ⟨k0, k1, k2, k3⟩ := G9.out.fin (D := D) (hx := ⟨xA, xc, xB, xd⟩) (x := x) q HRT9.out (fun i h _ => h) rfl
              refine bodyPost_ret (v := .tuple #[.agg #[.int .i64 x.state, .int .i64 x.on, .slice xA x.frames.length xc, .slice xB x.stack.length xd, .int .i64 x.code], .agg #[.int .i64 q.kind, .int .i64 q.a, .int .i64 q.v]]) (results_cells2 rfl _ _ (w.heap.size + 1 + 1) (w.heap.size + 1 + 1 + 1) 29 37 _ _ (0, 0) (0, 0) _ _ rfl rfl k0 k1 Try.underlying29 rfl (by kernel_rfl) Try.underlying37 rfl (by kernel_rfl)) rfl ?_
              exact ⟨⟨xA, xc, xB, xd⟩, rfl, k2, k3⟩
        · have hkk : kk = 2 := by have h := HND.out; simp [needsV] at h; omega
          subst hkk
          have hJ : RJ w wk D jb (.slice lA 2 lc) hu (popT (popT u0)) := HJ8.out
          have HJ := Lib.hid hJ
          have hl : wk.ownsRow (ib + 1) 3 1 (.slice lA 2 lc) 2 (IS [topT u0, topT (popT u0)]) := HL8.out
          obtain ⟨lb, lcap, hv, hlbb, hlbz⟩ := hl.form (by omega)
          injection hv with hv1 _ hv2
          subst hv1 hv2
          have l0 : wk.cell? ⟨lb, 0, none⟩ = some (.int .i64 (topT u0)) := (hl.cellAt 0 (by omega)).trans rfl
          have l1 : wk.cell? ⟨lb, 1, none⟩ = some (.int .i64 (topT (popT u0))) := (hl.cellAt 1 (by omega)).trans rfl
          have HL := Lib.hid hl
          clear hl hlbb hlbz
          have b5 := HJ.out.bx.lt
          have b0 := (hJ.bx.cell 0).trans rfl
          have b1 := (hJ.bx.cell 1).trans rfl
          have b2 := (hJ.bx.cell 2).trans rfl
          have b3 := (hJ.bx.cell 3).trans rfl
          have b4 := (hJ.bx.cell 4).trans rfl
          have i1 := (HR8.out.ibk.cell 1).trans rfl
          have i0 := (HR8.out.ibk.cell 0).trans rfl
          have r0 := (HR8.out.r0.cell 0).trans rfl
          have y0 := HR8.out.r0.frozen 0
          have r1 := (HR8.out.r0.cell 1).trans rfl
          have y1 := HR8.out.r0.frozen 1
          have r2 := (HR8.out.r0.cell 2).trans rfl
          have y2 := HR8.out.r0.frozen 2
          have r3 := (HR8.out.r0.cell 3).trans rfl
          have y3 := HR8.out.r0.frozen 3
          have r4 := (HR8.out.r0.cell 4).trans rfl
          have y4 := HR8.out.r0.frozen 4
          have v0 := (HR8.out.r1.cell 0).trans rfl
          have z0 := HR8.out.r1.frozen 0
          have v1 := (HR8.out.r1.cell 1).trans rfl
          have z1 := HR8.out.r1.frozen 1
          have v2 := (HR8.out.r1.cell 2).trans rfl
          have z2 := HR8.out.r1.frozen 2
          have n0 : jb ≠ w.heap.size + 1 + 1 := by omega
          have n1 : jb ≠ w.heap.size + 1 + 1 + 1 := by omega
          have n2 := Ne.symm n0
          have n3 := Ne.symm n1
          have n4 : ib ≠ w.heap.size + 1 + 1 := by omega
          have n5 : ib ≠ w.heap.size + 1 + 1 + 1 := by omega
          have n6 := Ne.symm n4
          have n7 := Ne.symm n5
          have n8 : w.heap.size + 1 + 1 ≠ w.heap.size + 1 + 1 + 1 := by omega
          have n9 := Ne.symm n8
          clear hJ
          have o0 : lb ≠ w.heap.size + 1 + 1 := by have := (HL.out.lt lb rfl).1; omega
          have o1 : lb ≠ w.heap.size + 1 + 1 + 1 := by have := (HL.out.lt lb rfl).1; omega
          have o2 := Ne.symm o0
          have o3 := Ne.symm o1
          have hne : ¬ u0.stack = [] := fun e => by have h := HUST.out; rw [e] at h; rw [← h] at hun; simp at hun
          have hne2 : ¬ (popT u0).stack = [] := fun e => by
            have h := congrArg List.length e
            have h2 : (popT u0).stack.length = u0.stack.length - 1 := by simp [popT]
            rw [h2, HUST.out, List.length_nil] at h
            omega
          have hv := HSV.out
          rw [show deedV p u0 ⟨3, a⟩ = popV u0 (fun t y => popV t fun s x => pushV s (x + y)) from rfl, popV, if_neg hne, popV, if_neg hne2] at hv
          have hy := HDOK.out.y
          have hx := HDOK.out.x
          generalize topT u0 = tv0 at *
          generalize topT (popT u0) = tv1 at *
          generalize popT (popT u0) = uc at *
          have iv : IntKind.i64.wrap (tv1 + tv0) = tv1 + tv0 := IntWalk.i64_in _ (by omega)
          clear hx hy
          have HC : Hid (∀ X, Below wk.heap.size wk X → Calls Try.prog 39 #[.agg #[.int .i64 uc.state, .int .i64 uc.on, .slice hu.fA uc.frames.length hu.fc, .slice hu.sA uc.stack.length hu.sc, .int .i64 uc.code], .int .i64 (tv1 + tv0)] X fun e w9 => ∃ h9 : TH, e = .returned (.tuple #[.agg #[.int .i64 x.state, .int .i64 x.on, .slice h9.fA x.frames.length h9.fc, .slice h9.sA x.stack.length h9.sc, .int .i64 x.code], .agg #[.int .i64 q.kind, .int .i64 q.a, .int .i64 q.v]]) ∧ RT w9 (fun i => ((D i ∧ i < w.heap.size) ∨ (w.heap.size + 1 + 1 + 1 < i ∧ i ≠ jb ∧ (Value.slice (some ⟨lb, 0, none⟩) 2 lc).ownBlock ≠ some i)) ∨ wk.heap.size ≤ i) h9 x ∧ Hid (Below wk.heap.size wk w9)) := fun X hX => by
            have h0 := refPushed_any hu uc (tv1 + tv0) X _ (HJ.out.rt.below hX) HJ.out.len
            rw [← hv] at h0
            refine h0.mono ?_
            rintro e w9 ⟨h9, e1, e2, e3⟩
            exact ⟨h9, e1, e2.mono (fun i hi _ => by rcases hi with ⟨hi, _⟩ | hi; exact .inl hi; exact .inr (by have := hX.size; omega)), Lib.hid (hX.trans (e3.mono hX.size))⟩
          have KS : Hid (∀ X, Below wk.heap.size wk X → X.cell? ⟨jb, 0, none⟩ = some (.int .i64 uc.state) ∧ X.cell? ⟨jb, 1, none⟩ = some (.int .i64 uc.on) ∧ X.cell? ⟨jb, 2, none⟩ = some (.slice hu.fA uc.frames.length hu.fc) ∧ X.cell? ⟨jb, 3, none⟩ = some (.slice hu.sA uc.stack.length hu.sc) ∧ X.cell? ⟨jb, 4, none⟩ = some (.int .i64 uc.code) ∧ X.cell? ⟨lb, 0, none⟩ = some (.int .i64 tv0) ∧ X.cell? ⟨lb, 1, none⟩ = some (.int .i64 tv1)) := fun X hX => by
            have g := HJ.out.bx.below hX HJ.out.bx.lt
            have c : ∀ j, X.cell? ⟨lb, j, none⟩ = wk.cell? ⟨lb, j, none⟩ := fun j => hX.cell (p := ⟨lb, j, none⟩) (HL.out.lt lb rfl).2
            exact ⟨(g.cell 0).trans rfl, (g.cell 1).trans rfl, (g.cell 2).trans rfl, (g.cell 3).trans rfl, (g.cell 4).trans rfl, (c 0).trans l0, (c 1).trans l1⟩
          have KA : Hid (∀ (X : World) (a0 a1 a2 a3 a4 : Value), (X.cell? ⟨jb, 0, none⟩ = some (.int .i64 uc.state) ∧ X.cell? ⟨jb, 1, none⟩ = some (.int .i64 uc.on) ∧ X.cell? ⟨jb, 2, none⟩ = some (.slice hu.fA uc.frames.length hu.fc) ∧ X.cell? ⟨jb, 3, none⟩ = some (.slice hu.sA uc.stack.length hu.sc) ∧ X.cell? ⟨jb, 4, none⟩ = some (.int .i64 uc.code) ∧ X.cell? ⟨lb, 0, none⟩ = some (.int .i64 tv0) ∧ X.cell? ⟨lb, 1, none⟩ = some (.int .i64 tv1)) → (((((X.setCell ⟨w.heap.size + 1 + 1, 0, none⟩ a0).setCell ⟨w.heap.size + 1 + 1, 1, none⟩ a1).setCell ⟨w.heap.size + 1 + 1, 2, none⟩ a2).setCell ⟨w.heap.size + 1 + 1, 3, none⟩ a3).setCell ⟨w.heap.size + 1 + 1, 4, none⟩ a4).cell? ⟨jb, 0, none⟩ = some (.int .i64 uc.state) ∧ (((((X.setCell ⟨w.heap.size + 1 + 1, 0, none⟩ a0).setCell ⟨w.heap.size + 1 + 1, 1, none⟩ a1).setCell ⟨w.heap.size + 1 + 1, 2, none⟩ a2).setCell ⟨w.heap.size + 1 + 1, 3, none⟩ a3).setCell ⟨w.heap.size + 1 + 1, 4, none⟩ a4).cell? ⟨jb, 1, none⟩ = some (.int .i64 uc.on) ∧ (((((X.setCell ⟨w.heap.size + 1 + 1, 0, none⟩ a0).setCell ⟨w.heap.size + 1 + 1, 1, none⟩ a1).setCell ⟨w.heap.size + 1 + 1, 2, none⟩ a2).setCell ⟨w.heap.size + 1 + 1, 3, none⟩ a3).setCell ⟨w.heap.size + 1 + 1, 4, none⟩ a4).cell? ⟨jb, 2, none⟩ = some (.slice hu.fA uc.frames.length hu.fc) ∧ (((((X.setCell ⟨w.heap.size + 1 + 1, 0, none⟩ a0).setCell ⟨w.heap.size + 1 + 1, 1, none⟩ a1).setCell ⟨w.heap.size + 1 + 1, 2, none⟩ a2).setCell ⟨w.heap.size + 1 + 1, 3, none⟩ a3).setCell ⟨w.heap.size + 1 + 1, 4, none⟩ a4).cell? ⟨jb, 3, none⟩ = some (.slice hu.sA uc.stack.length hu.sc) ∧ (((((X.setCell ⟨w.heap.size + 1 + 1, 0, none⟩ a0).setCell ⟨w.heap.size + 1 + 1, 1, none⟩ a1).setCell ⟨w.heap.size + 1 + 1, 2, none⟩ a2).setCell ⟨w.heap.size + 1 + 1, 3, none⟩ a3).setCell ⟨w.heap.size + 1 + 1, 4, none⟩ a4).cell? ⟨jb, 4, none⟩ = some (.int .i64 uc.code) ∧ (((((X.setCell ⟨w.heap.size + 1 + 1, 0, none⟩ a0).setCell ⟨w.heap.size + 1 + 1, 1, none⟩ a1).setCell ⟨w.heap.size + 1 + 1, 2, none⟩ a2).setCell ⟨w.heap.size + 1 + 1, 3, none⟩ a3).setCell ⟨w.heap.size + 1 + 1, 4, none⟩ a4).cell? ⟨lb, 0, none⟩ = some (.int .i64 tv0) ∧ (((((X.setCell ⟨w.heap.size + 1 + 1, 0, none⟩ a0).setCell ⟨w.heap.size + 1 + 1, 1, none⟩ a1).setCell ⟨w.heap.size + 1 + 1, 2, none⟩ a2).setCell ⟨w.heap.size + 1 + 1, 3, none⟩ a3).setCell ⟨w.heap.size + 1 + 1, 4, none⟩ a4).cell? ⟨lb, 1, none⟩ = some (.int .i64 tv1)) := fun X a0 a1 a2 a3 a4 h => ⟨(far5 X _ _ _ _ _ _ ⟨jb, 0, none⟩ n0).trans h.1, (far5 X _ _ _ _ _ _ ⟨jb, 1, none⟩ n0).trans h.2.1, (far5 X _ _ _ _ _ _ ⟨jb, 2, none⟩ n0).trans h.2.2.1, (far5 X _ _ _ _ _ _ ⟨jb, 3, none⟩ n0).trans h.2.2.2.1, (far5 X _ _ _ _ _ _ ⟨jb, 4, none⟩ n0).trans h.2.2.2.2.1, (far5 X _ _ _ _ _ _ ⟨lb, 0, none⟩ o0).trans h.2.2.2.2.2.1, (far5 X _ _ _ _ _ _ ⟨lb, 1, none⟩ o0).trans h.2.2.2.2.2.2⟩
          have KB : Hid (∀ (X : World) (a0 a1 a2 : Value), (X.cell? ⟨jb, 0, none⟩ = some (.int .i64 uc.state) ∧ X.cell? ⟨jb, 1, none⟩ = some (.int .i64 uc.on) ∧ X.cell? ⟨jb, 2, none⟩ = some (.slice hu.fA uc.frames.length hu.fc) ∧ X.cell? ⟨jb, 3, none⟩ = some (.slice hu.sA uc.stack.length hu.sc) ∧ X.cell? ⟨jb, 4, none⟩ = some (.int .i64 uc.code) ∧ X.cell? ⟨lb, 0, none⟩ = some (.int .i64 tv0) ∧ X.cell? ⟨lb, 1, none⟩ = some (.int .i64 tv1)) → (((X.setCell ⟨w.heap.size + 1 + 1 + 1, 0, none⟩ a0).setCell ⟨w.heap.size + 1 + 1 + 1, 1, none⟩ a1).setCell ⟨w.heap.size + 1 + 1 + 1, 2, none⟩ a2).cell? ⟨jb, 0, none⟩ = some (.int .i64 uc.state) ∧ (((X.setCell ⟨w.heap.size + 1 + 1 + 1, 0, none⟩ a0).setCell ⟨w.heap.size + 1 + 1 + 1, 1, none⟩ a1).setCell ⟨w.heap.size + 1 + 1 + 1, 2, none⟩ a2).cell? ⟨jb, 1, none⟩ = some (.int .i64 uc.on) ∧ (((X.setCell ⟨w.heap.size + 1 + 1 + 1, 0, none⟩ a0).setCell ⟨w.heap.size + 1 + 1 + 1, 1, none⟩ a1).setCell ⟨w.heap.size + 1 + 1 + 1, 2, none⟩ a2).cell? ⟨jb, 2, none⟩ = some (.slice hu.fA uc.frames.length hu.fc) ∧ (((X.setCell ⟨w.heap.size + 1 + 1 + 1, 0, none⟩ a0).setCell ⟨w.heap.size + 1 + 1 + 1, 1, none⟩ a1).setCell ⟨w.heap.size + 1 + 1 + 1, 2, none⟩ a2).cell? ⟨jb, 3, none⟩ = some (.slice hu.sA uc.stack.length hu.sc) ∧ (((X.setCell ⟨w.heap.size + 1 + 1 + 1, 0, none⟩ a0).setCell ⟨w.heap.size + 1 + 1 + 1, 1, none⟩ a1).setCell ⟨w.heap.size + 1 + 1 + 1, 2, none⟩ a2).cell? ⟨jb, 4, none⟩ = some (.int .i64 uc.code) ∧ (((X.setCell ⟨w.heap.size + 1 + 1 + 1, 0, none⟩ a0).setCell ⟨w.heap.size + 1 + 1 + 1, 1, none⟩ a1).setCell ⟨w.heap.size + 1 + 1 + 1, 2, none⟩ a2).cell? ⟨lb, 0, none⟩ = some (.int .i64 tv0) ∧ (((X.setCell ⟨w.heap.size + 1 + 1 + 1, 0, none⟩ a0).setCell ⟨w.heap.size + 1 + 1 + 1, 1, none⟩ a1).setCell ⟨w.heap.size + 1 + 1 + 1, 2, none⟩ a2).cell? ⟨lb, 1, none⟩ = some (.int .i64 tv1)) := fun X a0 a1 a2 h => ⟨(far3 X _ _ _ _ ⟨jb, 0, none⟩ n1).trans h.1, (far3 X _ _ _ _ ⟨jb, 1, none⟩ n1).trans h.2.1, (far3 X _ _ _ _ ⟨jb, 2, none⟩ n1).trans h.2.2.1, (far3 X _ _ _ _ ⟨jb, 3, none⟩ n1).trans h.2.2.2.1, (far3 X _ _ _ _ ⟨jb, 4, none⟩ n1).trans h.2.2.2.2.1, (far3 X _ _ _ _ ⟨lb, 0, none⟩ o1).trans h.2.2.2.2.2.1, (far3 X _ _ _ _ ⟨lb, 1, none⟩ o1).trans h.2.2.2.2.2.2⟩
          clear hne hne2 hv
          go_upto_region 26 with fail
          have HBA := Lib.hid (Below.refl wk.heap.size wk)
          go_region_held3 (fun w' => w'.cell? ⟨jb, 0, none⟩ = some (.int .i64 uc.state) ∧ w'.cell? ⟨jb, 1, none⟩ = some (.int .i64 uc.on) ∧ w'.cell? ⟨jb, 2, none⟩ = some (.slice hu.fA uc.frames.length hu.fc) ∧ w'.cell? ⟨jb, 3, none⟩ = some (.slice hu.sA uc.stack.length hu.sc) ∧ w'.cell? ⟨jb, 4, none⟩ = some (.int .i64 uc.code) ∧ w'.cell? ⟨lb, 0, none⟩ = some (.int .i64 tv0) ∧ w'.cell? ⟨lb, 1, none⟩ = some (.int .i64 tv1))
            (first | with_reducible exact KS.out _ (by first | with_reducible exact HBA.out | with_reducible exact HBA.out.drew | with_reducible exact Below.refl _ _ | exact (Below.refl _ _).drew) | with_reducible exact G3 | with_reducible exact KA.out _ _ _ _ _ _ G3 | with_reducible exact KB.out _ _ _ _ (KA.out _ _ _ _ _ _ G3) | with_reducible exact KB.out _ _ _ _ G3 | with_reducible exact KA.out _ _ _ _ _ _ (KB.out _ _ _ _ G3) | go_keep)
            (first
              | (go_at_call 39; refine (HC.out _ (by first | with_reducible exact HBA.out | with_reducible exact HBA.out.drew | with_reducible exact Below.refl _ _ | exact (Below.refl _ _).drew)).mono ?_; rintro e w9 ⟨⟨xA, xc, xB, xd⟩, rfl, hrt9, HBA⟩
                 try simp only at hrt9
                 have G3 := KS.out w9 HBA.out
                 have g9 := HR8.out.below HBA.out
                 clear r0 r1 r2 r3 r4 y0 y1 y2 y3 y4 v0 v1 v2 z0 z1 z2
                 have r0 := (g9.r0.cell 0).trans rfl
                 have y0 := g9.r0.frozen 0
                 have r1 := (g9.r0.cell 1).trans rfl
                 have y1 := g9.r0.frozen 1
                 have r2 := (g9.r0.cell 2).trans rfl
                 have y2 := g9.r0.frozen 2
                 have r3 := (g9.r0.cell 3).trans rfl
                 have y3 := g9.r0.frozen 3
                 have r4 := (g9.r0.cell 4).trans rfl
                 have y4 := g9.r0.frozen 4
                 have v0 := (g9.r1.cell 0).trans rfl
                 have z0 := g9.r1.frozen 0
                 have v1 := (g9.r1.cell 1).trans rfl
                 have z1 := g9.r1.frozen 1
                 have v2 := (g9.r1.cell 2).trans rfl
                 have z2 := g9.r1.frozen 2
                 have G9 := Lib.hid g9
                 have HRT9 := Lib.hid hrt9
                 clear g9 hrt9)
              | fail)
          all_goals
            have hzk := HR8.out.ibk.lt
            clear b0 b1 b2 b3 b4 b5
            go_wp2_with fail
            obtain ⟨k0, k1, k2, k3⟩ := G9.out.fin (D := D) (hx := ⟨xA, xc, xB, xd⟩) (x := x) q HRT9.out (fun i h _ => by rcases h with (h | h) | h; exact .inl h; exact .inr h.1; exact .inr (by omega)) rfl
            refine bodyPost_ret (v := .tuple #[.agg #[.int .i64 x.state, .int .i64 x.on, .slice xA x.frames.length xc, .slice xB x.stack.length xd, .int .i64 x.code], .agg #[.int .i64 q.kind, .int .i64 q.a, .int .i64 q.v]]) (results_cells2 rfl _ _ (w.heap.size + 1 + 1) (w.heap.size + 1 + 1 + 1) 29 37 _ _ (0, 0) (0, 0) _ _ rfl rfl k0 k1 Try.underlying29 rfl (by kernel_rfl) Try.underlying37 rfl (by kernel_rfl)) rfl ?_
            exact ⟨⟨xA, xc, xB, xd⟩, rfl, k2, k3⟩
        · have hkk : kk = 2 := by have h := HND.out; simp [needsV] at h; omega
          subst hkk
          have hJ : RJ w wk D jb (.slice lA 2 lc) hu (popT (popT u0)) := HJ8.out
          have HJ := Lib.hid hJ
          have hl : wk.ownsRow (ib + 1) 3 1 (.slice lA 2 lc) 2 (IS [topT u0, topT (popT u0)]) := HL8.out
          obtain ⟨lb, lcap, hv, hlbb, hlbz⟩ := hl.form (by omega)
          injection hv with hv1 _ hv2
          subst hv1 hv2
          have l0 : wk.cell? ⟨lb, 0, none⟩ = some (.int .i64 (topT u0)) := (hl.cellAt 0 (by omega)).trans rfl
          have l1 : wk.cell? ⟨lb, 1, none⟩ = some (.int .i64 (topT (popT u0))) := (hl.cellAt 1 (by omega)).trans rfl
          have HL := Lib.hid hl
          clear hl hlbb hlbz
          have b5 := HJ.out.bx.lt
          have b0 := (hJ.bx.cell 0).trans rfl
          have b1 := (hJ.bx.cell 1).trans rfl
          have b2 := (hJ.bx.cell 2).trans rfl
          have b3 := (hJ.bx.cell 3).trans rfl
          have b4 := (hJ.bx.cell 4).trans rfl
          have i1 := (HR8.out.ibk.cell 1).trans rfl
          have i0 := (HR8.out.ibk.cell 0).trans rfl
          have r0 := (HR8.out.r0.cell 0).trans rfl
          have y0 := HR8.out.r0.frozen 0
          have r1 := (HR8.out.r0.cell 1).trans rfl
          have y1 := HR8.out.r0.frozen 1
          have r2 := (HR8.out.r0.cell 2).trans rfl
          have y2 := HR8.out.r0.frozen 2
          have r3 := (HR8.out.r0.cell 3).trans rfl
          have y3 := HR8.out.r0.frozen 3
          have r4 := (HR8.out.r0.cell 4).trans rfl
          have y4 := HR8.out.r0.frozen 4
          have v0 := (HR8.out.r1.cell 0).trans rfl
          have z0 := HR8.out.r1.frozen 0
          have v1 := (HR8.out.r1.cell 1).trans rfl
          have z1 := HR8.out.r1.frozen 1
          have v2 := (HR8.out.r1.cell 2).trans rfl
          have z2 := HR8.out.r1.frozen 2
          have n0 : jb ≠ w.heap.size + 1 + 1 := by omega
          have n1 : jb ≠ w.heap.size + 1 + 1 + 1 := by omega
          have n2 := Ne.symm n0
          have n3 := Ne.symm n1
          have n4 : ib ≠ w.heap.size + 1 + 1 := by omega
          have n5 : ib ≠ w.heap.size + 1 + 1 + 1 := by omega
          have n6 := Ne.symm n4
          have n7 := Ne.symm n5
          have n8 : w.heap.size + 1 + 1 ≠ w.heap.size + 1 + 1 + 1 := by omega
          have n9 := Ne.symm n8
          clear hJ
          have o0 : lb ≠ w.heap.size + 1 + 1 := by have := (HL.out.lt lb rfl).1; omega
          have o1 : lb ≠ w.heap.size + 1 + 1 + 1 := by have := (HL.out.lt lb rfl).1; omega
          have o2 := Ne.symm o0
          have o3 := Ne.symm o1
          have hne : ¬ u0.stack = [] := fun e => by have h := HUST.out; rw [e] at h; rw [← h] at hun; simp at hun
          have hne2 : ¬ (popT u0).stack = [] := fun e => by
            have h := congrArg List.length e
            have h2 : (popT u0).stack.length = u0.stack.length - 1 := by simp [popT]
            rw [h2, HUST.out, List.length_nil] at h
            omega
          have hv := HSV.out
          rw [show deedV p u0 ⟨4, a⟩ = popV u0 (fun t y => popV t fun s x => pushV s (x - y)) from rfl, popV, if_neg hne, popV, if_neg hne2] at hv
          have hy := HDOK.out.y
          have hx := HDOK.out.x
          generalize topT u0 = tv0 at *
          generalize topT (popT u0) = tv1 at *
          generalize popT (popT u0) = uc at *
          have iv : IntKind.i64.wrap (tv1 - tv0) = tv1 - tv0 := IntWalk.i64_in _ (by omega)
          clear hx hy
          have HC : Hid (∀ X, Below wk.heap.size wk X → Calls Try.prog 39 #[.agg #[.int .i64 uc.state, .int .i64 uc.on, .slice hu.fA uc.frames.length hu.fc, .slice hu.sA uc.stack.length hu.sc, .int .i64 uc.code], .int .i64 (tv1 - tv0)] X fun e w9 => ∃ h9 : TH, e = .returned (.tuple #[.agg #[.int .i64 x.state, .int .i64 x.on, .slice h9.fA x.frames.length h9.fc, .slice h9.sA x.stack.length h9.sc, .int .i64 x.code], .agg #[.int .i64 q.kind, .int .i64 q.a, .int .i64 q.v]]) ∧ RT w9 (fun i => ((D i ∧ i < w.heap.size) ∨ (w.heap.size + 1 + 1 + 1 < i ∧ i ≠ jb ∧ (Value.slice (some ⟨lb, 0, none⟩) 2 lc).ownBlock ≠ some i)) ∨ wk.heap.size ≤ i) h9 x ∧ Hid (Below wk.heap.size wk w9)) := fun X hX => by
            have h0 := refPushed_any hu uc (tv1 - tv0) X _ (HJ.out.rt.below hX) HJ.out.len
            rw [← hv] at h0
            refine h0.mono ?_
            rintro e w9 ⟨h9, e1, e2, e3⟩
            exact ⟨h9, e1, e2.mono (fun i hi _ => by rcases hi with ⟨hi, _⟩ | hi; exact .inl hi; exact .inr (by have := hX.size; omega)), Lib.hid (hX.trans (e3.mono hX.size))⟩
          have KS : Hid (∀ X, Below wk.heap.size wk X → X.cell? ⟨jb, 0, none⟩ = some (.int .i64 uc.state) ∧ X.cell? ⟨jb, 1, none⟩ = some (.int .i64 uc.on) ∧ X.cell? ⟨jb, 2, none⟩ = some (.slice hu.fA uc.frames.length hu.fc) ∧ X.cell? ⟨jb, 3, none⟩ = some (.slice hu.sA uc.stack.length hu.sc) ∧ X.cell? ⟨jb, 4, none⟩ = some (.int .i64 uc.code) ∧ X.cell? ⟨lb, 0, none⟩ = some (.int .i64 tv0) ∧ X.cell? ⟨lb, 1, none⟩ = some (.int .i64 tv1)) := fun X hX => by
            have g := HJ.out.bx.below hX HJ.out.bx.lt
            have c : ∀ j, X.cell? ⟨lb, j, none⟩ = wk.cell? ⟨lb, j, none⟩ := fun j => hX.cell (p := ⟨lb, j, none⟩) (HL.out.lt lb rfl).2
            exact ⟨(g.cell 0).trans rfl, (g.cell 1).trans rfl, (g.cell 2).trans rfl, (g.cell 3).trans rfl, (g.cell 4).trans rfl, (c 0).trans l0, (c 1).trans l1⟩
          have KA : Hid (∀ (X : World) (a0 a1 a2 a3 a4 : Value), (X.cell? ⟨jb, 0, none⟩ = some (.int .i64 uc.state) ∧ X.cell? ⟨jb, 1, none⟩ = some (.int .i64 uc.on) ∧ X.cell? ⟨jb, 2, none⟩ = some (.slice hu.fA uc.frames.length hu.fc) ∧ X.cell? ⟨jb, 3, none⟩ = some (.slice hu.sA uc.stack.length hu.sc) ∧ X.cell? ⟨jb, 4, none⟩ = some (.int .i64 uc.code) ∧ X.cell? ⟨lb, 0, none⟩ = some (.int .i64 tv0) ∧ X.cell? ⟨lb, 1, none⟩ = some (.int .i64 tv1)) → (((((X.setCell ⟨w.heap.size + 1 + 1, 0, none⟩ a0).setCell ⟨w.heap.size + 1 + 1, 1, none⟩ a1).setCell ⟨w.heap.size + 1 + 1, 2, none⟩ a2).setCell ⟨w.heap.size + 1 + 1, 3, none⟩ a3).setCell ⟨w.heap.size + 1 + 1, 4, none⟩ a4).cell? ⟨jb, 0, none⟩ = some (.int .i64 uc.state) ∧ (((((X.setCell ⟨w.heap.size + 1 + 1, 0, none⟩ a0).setCell ⟨w.heap.size + 1 + 1, 1, none⟩ a1).setCell ⟨w.heap.size + 1 + 1, 2, none⟩ a2).setCell ⟨w.heap.size + 1 + 1, 3, none⟩ a3).setCell ⟨w.heap.size + 1 + 1, 4, none⟩ a4).cell? ⟨jb, 1, none⟩ = some (.int .i64 uc.on) ∧ (((((X.setCell ⟨w.heap.size + 1 + 1, 0, none⟩ a0).setCell ⟨w.heap.size + 1 + 1, 1, none⟩ a1).setCell ⟨w.heap.size + 1 + 1, 2, none⟩ a2).setCell ⟨w.heap.size + 1 + 1, 3, none⟩ a3).setCell ⟨w.heap.size + 1 + 1, 4, none⟩ a4).cell? ⟨jb, 2, none⟩ = some (.slice hu.fA uc.frames.length hu.fc) ∧ (((((X.setCell ⟨w.heap.size + 1 + 1, 0, none⟩ a0).setCell ⟨w.heap.size + 1 + 1, 1, none⟩ a1).setCell ⟨w.heap.size + 1 + 1, 2, none⟩ a2).setCell ⟨w.heap.size + 1 + 1, 3, none⟩ a3).setCell ⟨w.heap.size + 1 + 1, 4, none⟩ a4).cell? ⟨jb, 3, none⟩ = some (.slice hu.sA uc.stack.length hu.sc) ∧ (((((X.setCell ⟨w.heap.size + 1 + 1, 0, none⟩ a0).setCell ⟨w.heap.size + 1 + 1, 1, none⟩ a1).setCell ⟨w.heap.size + 1 + 1, 2, none⟩ a2).setCell ⟨w.heap.size + 1 + 1, 3, none⟩ a3).setCell ⟨w.heap.size + 1 + 1, 4, none⟩ a4).cell? ⟨jb, 4, none⟩ = some (.int .i64 uc.code) ∧ (((((X.setCell ⟨w.heap.size + 1 + 1, 0, none⟩ a0).setCell ⟨w.heap.size + 1 + 1, 1, none⟩ a1).setCell ⟨w.heap.size + 1 + 1, 2, none⟩ a2).setCell ⟨w.heap.size + 1 + 1, 3, none⟩ a3).setCell ⟨w.heap.size + 1 + 1, 4, none⟩ a4).cell? ⟨lb, 0, none⟩ = some (.int .i64 tv0) ∧ (((((X.setCell ⟨w.heap.size + 1 + 1, 0, none⟩ a0).setCell ⟨w.heap.size + 1 + 1, 1, none⟩ a1).setCell ⟨w.heap.size + 1 + 1, 2, none⟩ a2).setCell ⟨w.heap.size + 1 + 1, 3, none⟩ a3).setCell ⟨w.heap.size + 1 + 1, 4, none⟩ a4).cell? ⟨lb, 1, none⟩ = some (.int .i64 tv1)) := fun X a0 a1 a2 a3 a4 h => ⟨(far5 X _ _ _ _ _ _ ⟨jb, 0, none⟩ n0).trans h.1, (far5 X _ _ _ _ _ _ ⟨jb, 1, none⟩ n0).trans h.2.1, (far5 X _ _ _ _ _ _ ⟨jb, 2, none⟩ n0).trans h.2.2.1, (far5 X _ _ _ _ _ _ ⟨jb, 3, none⟩ n0).trans h.2.2.2.1, (far5 X _ _ _ _ _ _ ⟨jb, 4, none⟩ n0).trans h.2.2.2.2.1, (far5 X _ _ _ _ _ _ ⟨lb, 0, none⟩ o0).trans h.2.2.2.2.2.1, (far5 X _ _ _ _ _ _ ⟨lb, 1, none⟩ o0).trans h.2.2.2.2.2.2⟩
          have KB : Hid (∀ (X : World) (a0 a1 a2 : Value), (X.cell? ⟨jb, 0, none⟩ = some (.int .i64 uc.state) ∧ X.cell? ⟨jb, 1, none⟩ = some (.int .i64 uc.on) ∧ X.cell? ⟨jb, 2, none⟩ = some (.slice hu.fA uc.frames.length hu.fc) ∧ X.cell? ⟨jb, 3, none⟩ = some (.slice hu.sA uc.stack.length hu.sc) ∧ X.cell? ⟨jb, 4, none⟩ = some (.int .i64 uc.code) ∧ X.cell? ⟨lb, 0, none⟩ = some (.int .i64 tv0) ∧ X.cell? ⟨lb, 1, none⟩ = some (.int .i64 tv1)) → (((X.setCell ⟨w.heap.size + 1 + 1 + 1, 0, none⟩ a0).setCell ⟨w.heap.size + 1 + 1 + 1, 1, none⟩ a1).setCell ⟨w.heap.size + 1 + 1 + 1, 2, none⟩ a2).cell? ⟨jb, 0, none⟩ = some (.int .i64 uc.state) ∧ (((X.setCell ⟨w.heap.size + 1 + 1 + 1, 0, none⟩ a0).setCell ⟨w.heap.size + 1 + 1 + 1, 1, none⟩ a1).setCell ⟨w.heap.size + 1 + 1 + 1, 2, none⟩ a2).cell? ⟨jb, 1, none⟩ = some (.int .i64 uc.on) ∧ (((X.setCell ⟨w.heap.size + 1 + 1 + 1, 0, none⟩ a0).setCell ⟨w.heap.size + 1 + 1 + 1, 1, none⟩ a1).setCell ⟨w.heap.size + 1 + 1 + 1, 2, none⟩ a2).cell? ⟨jb, 2, none⟩ = some (.slice hu.fA uc.frames.length hu.fc) ∧ (((X.setCell ⟨w.heap.size + 1 + 1 + 1, 0, none⟩ a0).setCell ⟨w.heap.size + 1 + 1 + 1, 1, none⟩ a1).setCell ⟨w.heap.size + 1 + 1 + 1, 2, none⟩ a2).cell? ⟨jb, 3, none⟩ = some (.slice hu.sA uc.stack.length hu.sc) ∧ (((X.setCell ⟨w.heap.size + 1 + 1 + 1, 0, none⟩ a0).setCell ⟨w.heap.size + 1 + 1 + 1, 1, none⟩ a1).setCell ⟨w.heap.size + 1 + 1 + 1, 2, none⟩ a2).cell? ⟨jb, 4, none⟩ = some (.int .i64 uc.code) ∧ (((X.setCell ⟨w.heap.size + 1 + 1 + 1, 0, none⟩ a0).setCell ⟨w.heap.size + 1 + 1 + 1, 1, none⟩ a1).setCell ⟨w.heap.size + 1 + 1 + 1, 2, none⟩ a2).cell? ⟨lb, 0, none⟩ = some (.int .i64 tv0) ∧ (((X.setCell ⟨w.heap.size + 1 + 1 + 1, 0, none⟩ a0).setCell ⟨w.heap.size + 1 + 1 + 1, 1, none⟩ a1).setCell ⟨w.heap.size + 1 + 1 + 1, 2, none⟩ a2).cell? ⟨lb, 1, none⟩ = some (.int .i64 tv1)) := fun X a0 a1 a2 h => ⟨(far3 X _ _ _ _ ⟨jb, 0, none⟩ n1).trans h.1, (far3 X _ _ _ _ ⟨jb, 1, none⟩ n1).trans h.2.1, (far3 X _ _ _ _ ⟨jb, 2, none⟩ n1).trans h.2.2.1, (far3 X _ _ _ _ ⟨jb, 3, none⟩ n1).trans h.2.2.2.1, (far3 X _ _ _ _ ⟨jb, 4, none⟩ n1).trans h.2.2.2.2.1, (far3 X _ _ _ _ ⟨lb, 0, none⟩ o1).trans h.2.2.2.2.2.1, (far3 X _ _ _ _ ⟨lb, 1, none⟩ o1).trans h.2.2.2.2.2.2⟩
          clear hne hne2 hv
          go_upto_region 28 with fail
          have HBA := Lib.hid (Below.refl wk.heap.size wk)
          go_region_held3 (fun w' => w'.cell? ⟨jb, 0, none⟩ = some (.int .i64 uc.state) ∧ w'.cell? ⟨jb, 1, none⟩ = some (.int .i64 uc.on) ∧ w'.cell? ⟨jb, 2, none⟩ = some (.slice hu.fA uc.frames.length hu.fc) ∧ w'.cell? ⟨jb, 3, none⟩ = some (.slice hu.sA uc.stack.length hu.sc) ∧ w'.cell? ⟨jb, 4, none⟩ = some (.int .i64 uc.code) ∧ w'.cell? ⟨lb, 0, none⟩ = some (.int .i64 tv0) ∧ w'.cell? ⟨lb, 1, none⟩ = some (.int .i64 tv1))
            (first | with_reducible exact KS.out _ (by first | with_reducible exact HBA.out | with_reducible exact HBA.out.drew | with_reducible exact Below.refl _ _ | exact (Below.refl _ _).drew) | with_reducible exact G3 | with_reducible exact KA.out _ _ _ _ _ _ G3 | with_reducible exact KB.out _ _ _ _ (KA.out _ _ _ _ _ _ G3) | with_reducible exact KB.out _ _ _ _ G3 | with_reducible exact KA.out _ _ _ _ _ _ (KB.out _ _ _ _ G3) | go_keep)
            (first
              | (go_at_call 39; refine (HC.out _ (by first | with_reducible exact HBA.out | with_reducible exact HBA.out.drew | with_reducible exact Below.refl _ _ | exact (Below.refl _ _).drew)).mono ?_; rintro e w9 ⟨⟨xA, xc, xB, xd⟩, rfl, hrt9, HBA⟩
                 try simp only at hrt9
                 have G3 := KS.out w9 HBA.out
                 have g9 := HR8.out.below HBA.out
                 clear r0 r1 r2 r3 r4 y0 y1 y2 y3 y4 v0 v1 v2 z0 z1 z2
                 have r0 := (g9.r0.cell 0).trans rfl
                 have y0 := g9.r0.frozen 0
                 have r1 := (g9.r0.cell 1).trans rfl
                 have y1 := g9.r0.frozen 1
                 have r2 := (g9.r0.cell 2).trans rfl
                 have y2 := g9.r0.frozen 2
                 have r3 := (g9.r0.cell 3).trans rfl
                 have y3 := g9.r0.frozen 3
                 have r4 := (g9.r0.cell 4).trans rfl
                 have y4 := g9.r0.frozen 4
                 have v0 := (g9.r1.cell 0).trans rfl
                 have z0 := g9.r1.frozen 0
                 have v1 := (g9.r1.cell 1).trans rfl
                 have z1 := g9.r1.frozen 1
                 have v2 := (g9.r1.cell 2).trans rfl
                 have z2 := g9.r1.frozen 2
                 have G9 := Lib.hid g9
                 have HRT9 := Lib.hid hrt9
                 clear g9 hrt9)
              | fail)
          all_goals
            have hzk := HR8.out.ibk.lt
            clear b0 b1 b2 b3 b4 b5
            go_wp2_with fail
            obtain ⟨k0, k1, k2, k3⟩ := G9.out.fin (D := D) (hx := ⟨xA, xc, xB, xd⟩) (x := x) q HRT9.out (fun i h _ => by rcases h with (h | h) | h; exact .inl h; exact .inr h.1; exact .inr (by omega)) rfl
            refine bodyPost_ret (v := .tuple #[.agg #[.int .i64 x.state, .int .i64 x.on, .slice xA x.frames.length xc, .slice xB x.stack.length xd, .int .i64 x.code], .agg #[.int .i64 q.kind, .int .i64 q.a, .int .i64 q.v]]) (results_cells2 rfl _ _ (w.heap.size + 1 + 1) (w.heap.size + 1 + 1 + 1) 29 37 _ _ (0, 0) (0, 0) _ _ rfl rfl k0 k1 Try.underlying29 rfl (by kernel_rfl) Try.underlying37 rfl (by kernel_rfl)) rfl ?_
            exact ⟨⟨xA, xc, xB, xd⟩, rfl, k2, k3⟩
end

section
open Go.RowKit Plain

set_option maxHeartbeats 40000000 in
set_option maxRecDepth 100000 in
theorem stepRb (h : PH) (p : PV) (ht : TH) (t : TV) (w : World) (B : Nat) (D : Nat → Prop) (hrp : RP w B h p) (hB : B ≤ w.heap.size) (hr : RT w D ht t) (hp : mayB p = true) (hm : mayT p t = true) (hs : t.state ≠ 9) (op a : Int) (hf : fetchT p t = some ⟨op, a⟩) (hop : op = 5 ∨ op = 6 ∨ op = 7 ∨ op = 8 ∨ op = 9 ∨ op = 10 ∨ op = 26) :
    Calls Try.prog 13 #[.agg #[.slice h.fA p.funcs.length h.fc, .int .i64 p.mutexes, .slice h.cA p.conds.length h.cc, .slice h.sA p.semas.length h.sc, .slice h.hA p.chans.length h.hc, .slice h.xA p.choices.length h.xc, .int .i64 p.threads], .agg #[.int .i64 t.state, .int .i64 t.on, .slice ht.fA t.frames.length ht.fc, .slice ht.sA t.stack.length ht.sc, .int .i64 t.code]] w fun e w' => ∃ hx : TH, e = .returned (.tuple #[.agg #[.int .i64 (stepV p t).1.state, .int .i64 (stepV p t).1.on, .slice hx.fA (stepV p t).1.frames.length hx.fc, .slice hx.sA (stepV p t).1.stack.length hx.sc, .int .i64 (stepV p t).1.code], .agg #[.int .i64 (stepV p t).2.kind, .int .i64 (stepV p t).2.a, .int .i64 (stepV p t).2.v]]) ∧ RT w' (fun i => (D i ∧ i < w.heap.size) ∨ w.heap.size ≤ i) hx (stepV p t).1 ∧ Below w.heap.size w w' := by
  have hfew := mayB_few hp
  have hl := lensT_may hfew.1 hm
  have hpos := frames_pos hm hs
  have hlen := lenT_may hm
  obtain ⟨f0, f1, f2, f3, f4, _⟩ := (frB_iff _ _).1 (lastFr_ok hm hs)
  have hfc := hfew.2.2 _ (funcAt_mem f0 f1)
  obtain ⟨n, hn⟩ := Int.eq_ofNat_of_zero_le f0
  obtain ⟨c, hc⟩ := Int.eq_ofNat_of_zero_le f2
  have hdok := step_dok hp hm hs hf
  have hjm := jump_may hp hm hs hf
  have hok := fetch_ok hp hm hs hf
  simp only at hok
  have hsv := stepV_some hf
  obtain ⟨x, q, hxq⟩ : ∃ x q, stepV p t = (x, q) := ⟨_, _, rfl⟩
  rw [hxq] at hsv ⊢
  simp only
  obtain ⟨u0, hu0⟩ : ∃ u, u = jumpT t ((lastFr t).pc + 1) := ⟨_, rfl⟩
  rw [← hu0] at hdok hjm hsv
  have hus0 : u0.stack = t.stack := by rw [hu0]; rfl
  obtain ⟨W4, hW4⟩ : ∃ W, W = ((((w.alloc (.cells #[.slice h.fA p.funcs.length h.fc, .int .i64 p.mutexes, .slice h.cA p.conds.length h.cc, .slice h.sA p.semas.length h.sc, .slice h.hA p.chans.length h.hc, .slice h.xA p.choices.length h.xc, .int .i64 p.threads] 26)).alloc (.cells #[.int .i64 t.state, .int .i64 t.on, .slice ht.fA t.frames.length ht.fc, .slice ht.sA t.stack.length ht.sc, .int .i64 t.code] 29)).alloc (.cells #[.int .i64 0, .int .i64 0, .slice none 0 0, .slice none 0 0, .int .i64 0] 29)).alloc (.cells #[.int .i64 0, .int .i64 0, .int .i64 0] 37)) := ⟨_, rfl⟩
  have hb4 : Below w.heap.size w W4 := by rw [hW4]; exact ((((Below.refl _ _).alloc (Nat.le_refl _) _).alloc (by simp) _).alloc (by simp; omega) _).alloc (by simp; omega) _
  have hpb : Blk W4 w.heap.size 26 #[.slice h.fA p.funcs.length h.fc, .int .i64 p.mutexes, .slice h.cA p.conds.length h.cc, .slice h.sA p.semas.length h.sc, .slice h.hA p.chans.length h.hc, .slice h.xA p.choices.length h.xc, .int .i64 p.threads] := by rw [hW4]; exact (((Blk.new w _ _).alloc _).alloc _).alloc _
  have htb : Blk W4 (w.heap.size + 1) 29 #[.int .i64 t.state, .int .i64 t.on, .slice ht.fA t.frames.length ht.fc, .slice ht.sA t.stack.length ht.sc, .int .i64 t.code] := by
    rw [hW4]; refine (Blk.alloc ?_ _).alloc _
    simpa using Blk.new (w.alloc (.cells #[.slice h.fA p.funcs.length h.fc, .int .i64 p.mutexes, .slice h.cA p.conds.length h.cc, .slice h.sA p.semas.length h.sc, .slice h.hA p.chans.length h.hc, .slice h.xA p.choices.length h.xc, .int .i64 p.threads] 26)) 29 #[.int .i64 t.state, .int .i64 t.on, .slice ht.fA t.frames.length ht.fc, .slice ht.sA t.stack.length ht.sc, .int .i64 t.code]
  have hr0 : Blk W4 (w.heap.size + 1 + 1) 29 #[.int .i64 0, .int .i64 0, .slice none 0 0, .slice none 0 0, .int .i64 0] := by
    rw [hW4]; refine Blk.alloc ?_ _
    simpa using Blk.new ((w.alloc (.cells #[.slice h.fA p.funcs.length h.fc, .int .i64 p.mutexes, .slice h.cA p.conds.length h.cc, .slice h.sA p.semas.length h.sc, .slice h.hA p.chans.length h.hc, .slice h.xA p.choices.length h.xc, .int .i64 p.threads] 26)).alloc (.cells #[.int .i64 t.state, .int .i64 t.on, .slice ht.fA t.frames.length ht.fc, .slice ht.sA t.stack.length ht.sc, .int .i64 t.code] 29)) 29 #[.int .i64 0, .int .i64 0, .slice none 0 0, .slice none 0 0, .int .i64 0]
  have hr1 : Blk W4 (w.heap.size + 1 + 1 + 1) 37 #[.int .i64 0, .int .i64 0, .int .i64 0] := by
    rw [hW4]; simpa using Blk.new (((w.alloc (.cells #[.slice h.fA p.funcs.length h.fc, .int .i64 p.mutexes, .slice h.cA p.conds.length h.cc, .slice h.sA p.semas.length h.sc, .slice h.hA p.chans.length h.hc, .slice h.xA p.choices.length h.xc, .int .i64 p.threads] 26)).alloc (.cells #[.int .i64 t.state, .int .i64 t.on, .slice ht.fA t.frames.length ht.fc, .slice ht.sA t.stack.length ht.sc, .int .i64 t.code] 29)).alloc (.cells #[.int .i64 0, .int .i64 0, .slice none 0 0, .slice none 0 0, .int .i64 0] 29)) 37 #[.int .i64 0, .int .i64 0, .int .i64 0]
  have hz4 : W4.heap.size = w.heap.size + 1 + 1 + 1 + 1 := by rw [hW4]; simp
  have hrpW : ∀ X, Below W4.heap.size W4 X → RP X B h p := fun X hX => hrp.below ((hb4.trans (hX.mono (by omega))).mono hB)
  have hfe := refFetch_any h p ht t W4 D ((hrpW W4 (Below.refl _ _)).more (by omega)) (hr.below hb4) (by omega) n c hn (by omega) hc (by rw [← hn]; omega) (by rw [hc] at f3; omega) (by omega)
  have hfv : (funcAt p (n : Int)).code[c]? = some ⟨op, a⟩ := by unfold fetchT at hf; rw [hn, hc] at hf; simpa using hf
  rw [hfv] at hfe
  have hfe : Calls Try.prog 33 #[.agg #[.slice h.fA p.funcs.length h.fc, .int .i64 p.mutexes, .slice h.cA p.conds.length h.cc, .slice h.sA p.semas.length h.sc, .slice h.hA p.chans.length h.hc, .slice h.xA p.choices.length h.xc, .int .i64 p.threads], .agg #[.int .i64 t.state, .int .i64 t.on, .slice ht.fA t.frames.length ht.fc, .slice ht.sA t.stack.length ht.sc, .int .i64 t.code]] W4 fun e w' => e = .returned (.tuple #[.agg #[.int .i64 op, .int .i64 a], .bool true]) ∧ Below W4.heap.size W4 w' := hfe
  -- the frame that is under way
  obtain ⟨k, hk, hkl⟩ := lastFr_ex hpos
  obtain ⟨ad, y, hEA, hab, hy, y0, y1, y2, _⟩ := hr.frames.rg.at_ (k := k) (by omega)
  have hsp : ad.spot = none := by obtain ⟨ts, _, _, _, h4, _⟩ := hr.frames.rg; rw [hEA] at h4; exact h4.spot (by omega) (by omega)
  have hyl : y.f = lastFr t := by rw [hy] at hkl; injection hkl
  rw [hyl, hc] at y1
  obtain ⟨bA, oA, pA⟩ := ad
  obtain ⟨a1, c1, s1, d1⟩ := ht
  simp only at hEA hsp hab
  subst hsp hEA
  have ha1 : ((⟨bA, oA, none⟩ : Addr).add (k * 3)) = ⟨bA, oA + k * 3, none⟩ := by unfold Addr.add; by_cases h0 : k * 3 = 0 <;> simp [h0]
  rw [ha1] at y1
  simp only at y1
  have hju := fun X (hX : Below W4.heap.size W4 X) => refJump_all ⟨some ⟨bA, oA, none⟩, c1, s1, d1⟩ t ((c : Int) + 1) X _ (((hr.mono (E := fun i => D i ∧ i < w.heap.size) (fun i h1 h2 => ⟨h1, h2⟩)).below hb4).below hX) hl hpos (by omega) u0 (by rw [hu0, hc])
  simp only at hju hfe htb hW4 ⊢
  rw [hk] at hju hfe htb hW4
  simp only [hk]
  have hlu : LensT u0 := hdok.len
  have ik : (k : Int) < (k : Int) + 1 := by omega
  have hk6 : k < 8 := by omega
  have hc6 : c ≤ 64 := by rw [hc] at f3; omega
  have p0 := (hpb.cell 0).trans rfl
  have p1 := (hpb.cell 1).trans rfl
  have p2 := (hpb.cell 2).trans rfl
  have p3 := (hpb.cell 3).trans rfl
  have p4 := (hpb.cell 4).trans rfl
  have p5 := (hpb.cell 5).trans rfl
  have p6 := (hpb.cell 6).trans rfl
  have t0 := (htb.cell 0).trans rfl
  have t1 := (htb.cell 1).trans rfl
  have t2 := (htb.cell 2).trans rfl
  have t3 := (htb.cell 3).trans rfl
  have t4 := (htb.cell 4).trans rfl
  have hpcW : ∀ X, Below W4.heap.size W4 X → X.cell? ⟨bA, oA + k * 3 + 1, none⟩ = some (.int .i64 (c : Int)) := fun X hX => ((hb4.trans (hX.mono (by omega))).cell (p := ⟨bA, oA + k * 3 + 1, none⟩) hab).trans y1
  have HFE := Lib.hid hfe; have HJU := Lib.hid hju; have HW := Lib.hid hW4; have HB4 := Lib.hid hb4; have HPB := Lib.hid hpb; have HTB := Lib.hid htb; have HR0 := Lib.hid hr0; have HR1 := Lib.hid hr1; have HZ4 := Lib.hid hz4; have HRP := Lib.hid hrpW; have HDOK := Lib.hid hdok; have HOK := Lib.hid hok; have HOPS := Lib.hid hop; have HSV := Lib.hid hsv; have HUS := Lib.hid hus0; have HLU := Lib.hid hlu; have HPC := Lib.hid hpcW; have HFEW := Lib.hid hfew
  have HD : Hid (∀ i, D i ∧ i < w.heap.size → i < w.heap.size) := fun i h => h.2
  have HRPX : Hid (∀ X, Below w.heap.size w X → RP X B h p) := fun X hX => hrp.below (hX.mono hB)
  have HBW9 := Lib.hid hB
  clear hrp hr hp hm hs hf hfew hl hpos hlen f0 f1 f2 f3 f4 hfc hn hc hdok hjm hok hsv hu0 hW4 hb4 hpb htb hr0 hr1 hz4 hrpW hfe hfv hkl hk hy y0 y1 y2 hyl ha1 hju hlu hpcW hxq hus0 hop
  go_enter Try.func13, Try.ntmps13
  go_upto_region 1 with fail
  rw [← HW.out]
  clear HW
  go_wp2_with fail
  refine HFE.out.mono ?_
  rintro e w1 ⟨rfl, hb1⟩
  have hal : Below w1.heap.size w1 (w1.alloc (.cells #[.int .i64 op, .int .i64 a] 57)) := (Below.refl _ _).alloc (Nat.le_refl _) _
  obtain ⟨W5, hW5⟩ : ∃ W, W = w1.alloc (.cells #[.int .i64 op, .int .i64 a] 57) := ⟨_, rfl⟩
  obtain ⟨ib, hib⟩ : ∃ b, b = w1.heap.size := ⟨_, rfl⟩
  have hb5 : Below W4.heap.size W4 W5 := by rw [hW5]; exact hb1.alloc hb1.size _
  have hR0 : R0 w W5 h p #[.int .i64 t.state, .int .i64 t.on, .slice (some ⟨bA, oA, none⟩) (k + 1) c1, .slice s1 t.stack.length d1, .int .i64 t.code] ib op a := by
    refine ⟨HPB.out.below hb5 HPB.out.lt, HTB.out.below hb5 HTB.out.lt, HR0.out.below hb5 HR0.out.lt, HR1.out.below hb5 HR1.out.lt, by rw [hW5, hib]; exact Blk.new _ _ _, by rw [hib]; have := hb1.size; have := HZ4.out; omega, HB4.out.trans (hb5.mono HB4.out.size)⟩
  have hz5 : W5.heap.size = ib + 1 := by rw [hW5, hib]; simp
  have HR5 := Lib.hid hR0; have HW5 := Lib.hid hW5; have HIB := Lib.hid hib; have HB5 := Lib.hid hb5; have HZ5 := Lib.hid hz5
  clear hal hb1 hR0 hW5 hib hb5 hz5 p0 p1 p2 p3 p4 p5 p6 t0 t1 t2 t3 t4 HPB HTB HR0 HR1 HFE
  go_upto_region 4 with fail
  rw [← HW5.out, ← HIB.out]
  clear HW5 HIB
  have KS : Hid (∀ X, Below W5.heap.size W5 X → X.cell? ⟨w.heap.size + 1, 0, none⟩ = some (.int .i64 t.state) ∧ X.cell? ⟨w.heap.size + 1, 1, none⟩ = some (.int .i64 t.on) ∧ X.cell? ⟨w.heap.size + 1, 2, none⟩ = some (.slice (some ⟨bA, oA, none⟩) (k + 1) c1) ∧ X.cell? ⟨w.heap.size + 1, 3, none⟩ = some (.slice s1 t.stack.length d1) ∧ X.cell? ⟨w.heap.size + 1, 4, none⟩ = some (.int .i64 t.code) ∧ X.cell? ⟨bA, oA + k * 3 + 1, none⟩ = some (.int .i64 (c : Int))) := fun X hX => by
    have g := HR5.out.tb.below hX HR5.out.tb.lt
    exact ⟨(g.cell 0).trans rfl, (g.cell 1).trans rfl, (g.cell 2).trans rfl, (g.cell 3).trans rfl, (g.cell 4).trans rfl, HPC.out X (HB5.out.trans (hX.mono HB5.out.size))⟩
  have HC : Hid (∀ X, Below W5.heap.size W5 X → Calls Try.prog 35 #[.agg #[.int .i64 t.state, .int .i64 t.on, .slice (some ⟨bA, oA, none⟩) (k + 1) c1, .slice s1 t.stack.length d1, .int .i64 t.code], .int .i64 ((c : Int) + 1)] X fun e w' => ∃ h' : TH, e = .returned (.agg #[.int .i64 u0.state, .int .i64 u0.on, .slice h'.fA u0.frames.length h'.fc, .slice h'.sA u0.stack.length h'.sc, .int .i64 u0.code]) ∧ RT w' (fun i => (D i ∧ i < w.heap.size) ∨ X.heap.size ≤ i) h' u0 ∧ Below X.heap.size X w' ∧ Below W5.heap.size W5 w') := fun X hX =>
    (HJU.out X (HB5.out.trans (hX.mono HB5.out.size))).mono fun e w' ⟨h', h1, h2, h3⟩ => ⟨h', h1, h2, h3, hX.trans (h3.mono hX.size)⟩
  have iw : IntKind.i64.wrap (k : Int) = (k : Int) := IntWalk.i64_in _ (by omega)
  have iv : IntKind.i64.wrap ((c : Int) + 1) = (c : Int) + 1 := IntWalk.i64_in _ (by omega)
  obtain ⟨s0, s1', s2, s3, s4, s5⟩ := KS.out W5 (Below.refl _ _)
  clear HJU HPC
  go_cut [8] (fun s8 wx => ∃ (jb : Nat) (h2 : TH), s8 = .pointer (some ⟨jb, 0, none⟩) ∧ TD wx (fun i => (D i ∧ i < w.heap.size) ∨ (ib < i ∧ i ≠ jb)) jb h2 u0 ∧ ib < jb ∧ Below W5.heap.size W5 wx)
  case first =>
    go_region_held3 (fun w' => w'.cell? ⟨w.heap.size + 1, 0, none⟩ = some (.int .i64 t.state) ∧ w'.cell? ⟨w.heap.size + 1, 1, none⟩ = some (.int .i64 t.on) ∧ w'.cell? ⟨w.heap.size + 1, 2, none⟩ = some (.slice (some ⟨bA, oA, none⟩) (k + 1) c1) ∧ w'.cell? ⟨w.heap.size + 1, 3, none⟩ = some (.slice s1 t.stack.length d1) ∧ w'.cell? ⟨w.heap.size + 1, 4, none⟩ = some (.int .i64 t.code) ∧ w'.cell? ⟨bA, oA + k * 3 + 1, none⟩ = some (.int .i64 (c : Int)))
      (first | (with_reducible exact KS.out _ (by repeat (first | with_reducible assumption | with_reducible exact Below.refl _ _ | with_reducible exact H5.out | with_reducible refine Below.drew ?_ | with_reducible refine Below.setCell ?_ (by first | exact Nat.le_refl _ | exact h5.size | exact H5.out.size | omega) _ | with_reducible refine Below.alloc ?_ (by first | exact h5.size | exact H5.out.size | exact Nat.le_refl _ | omega) _))) | fail)
      (first
        | (go_simp; go_at_call 35; refine (HC.out _ (by repeat (first | with_reducible assumption | with_reducible exact Below.refl _ _ | with_reducible exact H5.out | with_reducible refine Below.drew ?_ | with_reducible refine Below.setCell ?_ (by first | exact Nat.le_refl _ | exact h5.size | exact H5.out.size | omega) _ | with_reducible refine Below.alloc ?_ (by first | exact h5.size | exact H5.out.size | exact Nat.le_refl _ | omega) _))).mono ?_; rintro e w5 ⟨⟨a2, c2, s2, d2⟩, rfl, hrt5, h4, h5⟩
           first
             | (have nb0 : Blk w5 W5.heap.size 29 #[.int .i64 0, .int .i64 0, .slice none 0 0, .slice none 0 0, .int .i64 0] := (Blk.drew (Blk.new W5 29 #[.int .i64 0, .int .i64 0, .slice none 0 0, .slice none 0 0, .int .i64 0])).below h4 (by simp)
                have n0 : w5.cell? ⟨W5.heap.size, 0, none⟩ = some (.int .i64 0) := (nb0.cell 0).trans rfl
                have m0 : w5.frozen? ⟨W5.heap.size, 0, none⟩ = false := nb0.frozen 0
                have n1 : w5.cell? ⟨W5.heap.size, 1, none⟩ = some (.int .i64 0) := (nb0.cell 1).trans rfl
                have m1 : w5.frozen? ⟨W5.heap.size, 1, none⟩ = false := nb0.frozen 1
                have n2 : w5.cell? ⟨W5.heap.size, 2, none⟩ = some (.slice none 0 0) := (nb0.cell 2).trans rfl
                have m2 : w5.frozen? ⟨W5.heap.size, 2, none⟩ = false := nb0.frozen 2
                have n3 : w5.cell? ⟨W5.heap.size, 3, none⟩ = some (.slice none 0 0) := (nb0.cell 3).trans rfl
                have m3 : w5.frozen? ⟨W5.heap.size, 3, none⟩ = false := nb0.frozen 3
                have n4 : w5.cell? ⟨W5.heap.size, 4, none⟩ = some (.int .i64 0) := (nb0.cell 4).trans rfl
                have m4 : w5.frozen? ⟨W5.heap.size, 4, none⟩ = false := nb0.frozen 4
                have hzz : W5.heap.size < w5.heap.size := nb0.lt
                have H5 := Lib.hid h5; have H4 := Lib.hid h4; have HRT5 := Lib.hid hrt5
                clear nb0 h5 h4 hrt5)
             | (have H5 := Lib.hid h5; have H4 := Lib.hid h4; have HRT5 := Lib.hid hrt5
                clear h5 h4 hrt5)))
    all_goals
      go_wp2_with fail
      go_meet
      have h5 := H5.out
      have h4 := H4.out
      have hrt5 := HRT5.out
      have hs5 := h5.size
      have hz5 := HZ5.out
      have hlib := HR5.out.lt
      have hdd := HD.out
      first
        | (have htd := TD.new (hrt5.mono (E := fun i => (D i ∧ i < w.heap.size) ∨ (ib < i ∧ i ≠ w5.heap.size)) (fun i hi hlt => by rcases hi with hi | hi; exact .inl hi; exact .inr ⟨by simp at hi; omega, by omega⟩))
           simp only at htd
           with_reducible refine ⟨_, ⟨a2, c2, s2, d2⟩, rfl, htd, ?_, h5.alloc h5.size _⟩
           omega)
        | (have hp := TD.put (w1 := (W5.alloc (.cells #[.int .i64 0, .int .i64 0, .slice none 0 0, .slice none 0 0, .int .i64 0] 29)).drew) (b := W5.heap.size) hrt5 (fun i hi e => by simp at hi; have := hdd i; omega) (Blk.drew (Blk.new W5 29 #[.int .i64 0, .int .i64 0, .slice none 0 0, .slice none 0 0, .int .i64 0])) h4
           have hfr := (Fr.refl (fun i => i = W5.heap.size) w5).set5 (g := W5.heap.size) (.inl rfl) (.int .i64 u0.state) (.int .i64 u0.on) (.slice a2 u0.frames.length c2) (.slice s2 u0.stack.length d2) (.int .i64 u0.code)
           have hq := h5.trans (hfr.below h5.size (fun i hi => by omega))
           have hp2 := hp.mono (E := fun i => (D i ∧ i < w.heap.size) ∨ (ib < i ∧ i ≠ W5.heap.size)) (fun i hi _ => by rcases hi with hi | hi; exact .inl hi; exact .inr (by simp at hi; omega))
           simp only at hp2
           with_reducible exact ⟨_, ⟨a2, c2, s2, d2⟩, rfl, hp2, (by omega), hq⟩)
  case rest =>
  obtain ⟨jb, hj, rfl, htd, hjl, hbw⟩ := hcut
  have hR6 := HR5.out.below hbw
  have hlj := HR5.out.lt
  have hRJ : RJ w wc D jb (.slice none 0 0) hj u0 := ⟨htd.tb, htd.rt.mono (fun i hi _ => by rcases hi with hi | hi; exact .inl hi; exact .inr ⟨by omega, hi.2, by simp [Value.ownBlock]⟩), HLU.out⟩
  have hus : u0.stack = t.stack := HUS.out
  have hnd := needsV_nat op
  obtain ⟨nd, hnd, hnd2⟩ := hnd
  have hop26 : 0 ≤ op ∧ op ≤ 26 := HOK.out.1
  have hneed := fun W => refNeeds_any op W hop26
  have hkind := fun W => refKind_any op W hop26
  rw [hnd] at hneed
  have s3 : wc.cell? ⟨w.heap.size + 1, 3, none⟩ = some (.slice s1 t.stack.length d1) := (hR6.tb.cell 3).trans rfl
  have s6 := (hR6.ibk.cell 0).trans rfl
  have HR6 := Lib.hid hR6; have HRJ := Lib.hid hRJ; have HNEED := Lib.hid hneed; have HKIND := Lib.hid hkind; have HND := Lib.hid hnd; have HUST := Lib.hid hus; have HOP := Lib.hid hop26
  clear hR6 hRJ htd hbw hneed hkind hnd hus hop26 HC KS HB5 HR5 s0 s1' s2 s4 s5 iw iv
  by_cases hun : t.stack.length < nd
  · have hun' : (t.stack.length : Int) < (nd : Int) := by omega
    have hv := HSV.out
    rw [deedV_under HOP.out (by rw [HUST.out, HND.out]; exact hun')] at hv
    injection hv with hv1 hv2
    subst hv1 hv2
    go_upto_region 5 with fail
    go_quiet (first | (go_at_call 36; exact Calls.quiet_of_same (HNEED.out _)))
    go_wp2_with fail
    refine (refEnds_any 1 _).mono ?_
    rintro e w9 ⟨rfl, hb9⟩
    have g9 := (HR6.out.below (below_drews (Below.refl _ _) nq)).below hb9
    have r0 := (g9.r0.cell 0).trans rfl
    have y0 := g9.r0.frozen 0
    have r1 := (g9.r0.cell 1).trans rfl
    have y1 := g9.r0.frozen 1
    have r2 := (g9.r0.cell 2).trans rfl
    have y2 := g9.r0.frozen 2
    have r3 := (g9.r0.cell 3).trans rfl
    have y3 := g9.r0.frozen 3
    have r4 := (g9.r0.cell 4).trans rfl
    have y4 := g9.r0.frozen 4
    have v0 := (g9.r1.cell 0).trans rfl
    have z0 := g9.r1.frozen 0
    have v1 := (g9.r1.cell 1).trans rfl
    have z1 := g9.r1.frozen 1
    have v2 := (g9.r1.cell 2).trans rfl
    have z2 := g9.r1.frozen 2
    have G9 := Lib.hid g9
    clear g9 hb9 s3 s6
    go_wp2_with fail
    obtain ⟨k0, k1, k2, k3⟩ := G9.out.fin (D := D) (hx := ⟨none, 0, none, 0⟩) (x := (deadT 1)) ⟨1, 0, 1⟩ (dead_rt 1 _) (fun i h => absurd h id) rfl
    refine bodyPost_ret (v := .tuple #[.agg #[.int .i64 9, .int .i64 0, .slice none 0 0, .slice none 0 0, .int .i64 1], .agg #[.int .i64 1, .int .i64 0, .int .i64 1]]) (results_cells2 rfl _ _ (w.heap.size + 1 + 1) (w.heap.size + 1 + 1 + 1) 29 37 _ _ (0, 0) (0, 0) _ _ rfl rfl k0 k1 Try.underlying29 rfl (by kernel_rfl) Try.underlying37 rfl (by kernel_rfl)) rfl ?_
    exact ⟨⟨none, 0, none, 0⟩, rfl, k2, k3⟩
  · have hun' : decide ((t.stack.length : Int) < (nd : Int)) = false := decide_eq_false (by omega)
    go_upto_region 5 with fail
    go_quiet (first | (go_at_call 36; exact Calls.quiet_of_same (HNEED.out _)))
    have hb7 := below_drews (Below.refl wc.heap.size wc) nq
    have hR7 := HR6.out.below hb7
    have hJ7 : RJ w (wc.drewN nq) D jb (.slice none 0 0) hj u0 := HRJ.out.below hb7
    obtain ⟨W7, hW7⟩ : ∃ W, W = wc.drewN nq := ⟨_, rfl⟩
    rw [← hW7] at hR7 hJ7 ⊢
    have HR7 := Lib.hid hR7; have HJ7 := Lib.hid hJ7
    clear hW7 hb7 hR7 hJ7 s3 s6 HR6 HRJ hun'
    obtain ⟨i0, hi0, hz0, hz1, hz2⟩ := info_parts info_int
    go_wp2_with fail
    go_loopw [9, 10] (fun s9 s10 wr => ∃ (kk : Nat) (lA : Option Addr) (lc : Nat) (hu : TH), kk ≤ nd ∧ s9 = .slice lA kk lc ∧ s10 = .int .i64 (kk : Int) ∧ R0 w wr h p #[.int .i64 t.state, .int .i64 t.on, .slice (some ⟨bA, oA, none⟩) (k + 1) c1, .slice s1 t.stack.length d1, .int .i64 t.code] ib op a ∧ RJ w wr D jb (.slice lA kk lc) hu (popsT kk u0) ∧ wr.ownsRow (ib + 1) 3 1 (.slice lA kk lc) kk (IS (topsT kk u0))) (fun _ s10 _ => nd - (intOf s10).toNat)
    case atStart => exact ⟨0, none, 0, hj, by omega, rfl, rfl, HR7.out, HJ7.out, World.ownsRow_nil _ _ _ _⟩
    case round =>
      obtain ⟨kk, lA, lc, hu, hkk, rfl, rfl, hR, hJ, hl⟩ := hrel
      have g6 := (hR.ibk.cell 0).trans rfl
      have HR8 := Lib.hid hR; have HJ8 := Lib.hid hJ; have HL8 := Lib.hid hl
      by_cases hlt : kk < nd
      · have hlti : (kk : Int) < (nd : Int) := by omega
        have hps := popsT_stack kk u0
        rw [HUST.out] at hps
        have hpo := refPop_all hu (popsT kk u0) wr _ hJ.rt hJ.len (by have := HDOK.out.st; rw [HUST.out] at this; omega) (popsT (kk + 1) u0) (by rw [if_pos (by omega)]; rfl)
        rw [decide_eq_true (by omega)] at hpo
        have b0 := (hJ.bx.cell 0).trans rfl
        have b1 := (hJ.bx.cell 1).trans rfl
        have b2 := (hJ.bx.cell 2).trans rfl
        have b3 := (hJ.bx.cell 3).trans rfl
        have b4 := (hJ.bx.cell 4).trans rfl
        have hln : LensT (popsT (kk + 1) u0) := popsT_lens (kk + 1) HLU.out
        have htv : topsT (kk + 1) u0 = topsT kk u0 ++ [topT (popsT kk u0)] := topsT_succ kk u0
        obtain ⟨tv, htv2⟩ : ∃ v, topT (popsT kk u0) = v := ⟨_, rfl⟩
        rw [htv2] at hpo htv
        obtain ⟨un, hun2⟩ : ∃ u, popsT (kk + 1) u0 = u := ⟨_, rfl⟩
        rw [hun2] at hpo hln
        generalize popsT kk u0 = uc at *
        have HPO := Lib.hid hpo; have HLN := Lib.hid hln; have HTV := Lib.hid htv; have HUN := Lib.hid hun2
        have hbl := hR.bel.size
        have hzl := HR8.out.ibk.lt
        have hjbl := hJ.bx.lt
        clear hR hJ hl hps hpo hln htv htv2 hun2
        go_wp2_with fail
        refine (HNEED.out _).mono ?_
        rintro e wq ⟨rfl, rfl⟩
        go_wp2_with fail
        refine HPO.out.mono ?_
        rintro e w6 ⟨⟨a6, c6', s6', d6⟩, rfl, hr6, hb6⟩
        try simp only at hr6
        have hR9 := HR8.out.below hb6
        have hal : Below w6.heap.size w6 (w6.alloc (.cells #[.int .i64 un.state, .int .i64 un.on, .slice a6 un.frames.length c6', .slice s6' un.stack.length d6, .int .i64 un.code] 29)) := (Below.refl _ _).alloc (Nat.le_refl _) _
        have hsz6 := hb6.size
        obtain ⟨W8, hW8⟩ : ∃ W, W = w6.alloc (.cells #[.int .i64 un.state, .int .i64 un.on, .slice a6 un.frames.length c6', .slice s6' un.stack.length d6, .int .i64 un.code] 29) := ⟨_, rfl⟩
        obtain ⟨mb, hmb⟩ : ∃ b, b = w6.heap.size := ⟨_, rfl⟩
        have hmk : Blk W8 mb 29 #[.int .i64 un.state, .int .i64 un.on, .slice a6 un.frames.length c6', .slice s6' un.stack.length d6, .int .i64 un.code] := by rw [hW8, hmb]; exact Blk.new _ _ _
        have hb8 : Below wq.heap.size wq W8 := by rw [hW8]; exact hb6.alloc hb6.size _
        have hr8 : RT W8 (fun i => (D i ∧ i < w.heap.size) ∨ (w.heap.size + 1 + 1 + 1 < i ∧ i ≠ jb ∧ (Value.slice lA kk lc).ownBlock ≠ some i)) ⟨a6, c6', s6', d6⟩ un := by
          rw [hW8]
          refine RT.alloc (hr6.mono (fun i hi _ => ?_)) _
          rcases hi with hi | hi
          · exact hi
          · exact .inr ⟨by have := HR8.out.lt; omega, by omega, fun e => by have := (HL8.out.lt i e).2; omega⟩
        have hl8 := (Fr.of_below hb8).own HL8.out (fun i hi e => by have := (HL8.out.lt i hi).2; omega)
        have hR9 := HR8.out.below hb8
        have hj9 := HJ8.out.bx.below hb8 HJ8.out.bx.lt
        have hmj : mb ≠ jb := by rw [hmb]; omega
        have HW8 := Lib.hid hW8; have HMB := Lib.hid hmb; have HMK := Lib.hid hmk; have HRT8 := Lib.hid hr8; have HL9 := Lib.hid hl8; have HR9 := Lib.hid hR9; have HJ9 := Lib.hid hj9
        have hzl8 := hR9.ibk.lt
        have hmb8 := hmk.lt
        clear hr6 hb6 hR9 hal hW8 hmb hmk hb8 hr8 hl8 hj9 HPO b0 b1 b2 b3 b4 g6 hbl hzl hjbl hsz6
        go_upto_region 12 with fail
        rw [← HW8.out, ← HMB.out]
        clear HW8 HMB
        have m0 := (HMK.out.cell 0).trans rfl
        have m1 := (HMK.out.cell 1).trans rfl
        have m2 := (HMK.out.cell 2).trans rfl
        have m3 := (HMK.out.cell 3).trans rfl
        have m4 := (HMK.out.cell 4).trans rfl
        have j0 := (HJ9.out.cell 0).trans rfl
        have k0 := HJ9.out.frozen 0
        have j1 := (HJ9.out.cell 1).trans rfl
        have k1 := HJ9.out.frozen 1
        have j2 := (HJ9.out.cell 2).trans rfl
        have k2 := HJ9.out.frozen 2
        have j3 := (HJ9.out.cell 3).trans rfl
        have k3 := HJ9.out.frozen 3
        have j4 := (HJ9.out.cell 4).trans rfl
        have k4 := HJ9.out.frozen 4
        have hmj2 := Ne.symm hmj
        go_upto_region 13 with fail
        obtain ⟨W9, hW9⟩ : ∃ W, W = ((((W8.setCell ⟨jb, 0, none⟩ (.int .i64 un.state)).setCell ⟨jb, 1, none⟩ (.int .i64 un.on)).setCell ⟨jb, 2, none⟩ (.slice a6 un.frames.length c6')).setCell ⟨jb, 3, none⟩ (.slice s6' un.stack.length d6)).setCell ⟨jb, 4, none⟩ (.int .i64 un.code) := ⟨_, rfl⟩
        have hf9 : Fr (fun i => i = jb) W8 W9 := by rw [hW9]; exact (Fr.refl (fun i => i = jb) W8).set5 (g := jb) (.inl rfl) _ _ _ _ _
        have hb9 : Blk W9 jb 29 #[.int .i64 un.state, .int .i64 un.on, .slice a6 un.frames.length c6', .slice s6' un.stack.length d6, .int .i64 un.code] := by rw [hW9]; exact Blk.set5 HJ9.out _ _ _ _ _
        rw [← hW9]
        have hR10 := HR9.out.fr hf9 (fun i e => ⟨by have := HR9.out.lt; omega, by omega⟩)
        have hl10 := hf9.own HL9.out (fun i hi e => own_blk_ne HL9.out HJ9.out (by decide) (by rw [hi, e]))
        have hr10 := HRT8.out.keep fun y hy hl => hf9.cell hl (fun e => by have := HR9.out.lt; rcases hy with hy | hy <;> omega)
        have hz9 := hf9.size
        have hla := hl10.alloc (.cells #[.int .i64 tv] 3)
        have HR10 := Lib.hid hR10; have HL10 := Lib.hid hl10; have HLA := Lib.hid hla; have HRT := Lib.hid hr10; have HB9 := Lib.hid hb9
        clear m0 j0 k0 m1 j1 k1 m2 j2 k2 m3 j3 k3 m4 j4 k4 hf9 hW9 hR10 hl10 hla hr10 hb9 HR9 HL9 HJ9 HRT8 HMK
        go_wp2_with (at_builtin; go_must (refine wpList_append_any _ rfl (.tmp 68) (.tmp 70) _ rfl (ib + 1) 3 i0 _ 1 8 Try.underlying23 hi0 hz0 hz1 hz2 rfl (by decide) (.slice lA kk lc) _ _ rfl HLA.out (W9.heap.size + 1) (some ⟨W9.heap.size, 0, none⟩) 1 1 [.int .i64 tv] rfl ?c0 ?c3 ?c1 ?c2 (by simp; omega) ?k))
        case c0 => exact ⟨rfl, fun _ => ⟨_, rfl, by simp, fun j u hj => by
          match j, hj with
          | 0, hj => simp at hj; subst hj; simp [Addr.add]⟩⟩
        case c3 => first | rfl | (intro u hu; have e := List.mem_singleton.1 hu; subst e; rfl)
        case c1 => unfold maxLen; omega
        case c2 => omega
        case k =>
        intro v' w10 hown hg10 hat
        obtain ⟨A8, c8, rfl, _, _⟩ := own_slice hown
        have hal : Below W9.heap.size W9 (W9.alloc (.cells #[.int .i64 tv] 3)) := (Below.refl _ _).alloc (Nat.le_refl _) _
        have hf10 := Fr.of_grown hg10
        have hR11 := (HR10.out.below hal).fr hf10 (fun i e => ⟨by have := (HLA.out.lt i e).1; have := HR10.out.lt; omega, by have := (HLA.out.lt i e).1; omega⟩)
        have hb11 := hf10.blk (HB9.out.below hal HB9.out.lt) (own_blk_ne HLA.out (HB9.out.below hal HB9.out.lt) (by decide))
        have hr11 : RT w10 (fun i => (D i ∧ i < w.heap.size) ∨ (w.heap.size + 1 + 1 + 1 < i ∧ i ≠ jb ∧ (Value.slice A8 (kk + 1) c8).ownBlock ≠ some i)) ⟨a6, c6', s6', d6⟩ un := by
          have h1 := HRT.out.mono (E := fun i => ((D i ∧ i < w.heap.size) ∨ (w.heap.size + 1 + 1 + 1 < i ∧ i ≠ jb ∧ (Value.slice lA kk lc).ownBlock ≠ some i)) ∧ i < W9.heap.size) (fun i hi hl => ⟨hi, hl⟩)
          refine ((h1.below hal).keep (fun y hy hl => hf10.cell hl (fun e => ?_))).mono (fun i hi _ => ?_)
          · rcases hy.1 with h | h
            · have := (HLA.out.lt _ e).1; have := HR10.out.lt; omega
            · exact h.2.2 e
          · rcases hi.1 with h | h
            · exact .inl h
            · refine .inr ⟨h.1, h.2.1, fun e => ?_⟩
              have e' : (Value.slice A8 (kk + 1) c8).ownBlock = some i := by simpa [Value.ownBlock] using e
              rcases hat with h2 | h2
              · exact h.2.2 (by rw [← h2]; exact e')
              · rw [h2] at e'; simp at e'; omega
        have ho11 : w10.ownsRow (ib + 1) 3 1 (.slice A8 (kk + 1) c8) (kk + 1) (IS (topsT (kk + 1) u0)) := by
          rw [HTV.out]
          have e : IS (topsT kk u0 ++ [tv]) = IS (topsT kk u0) ++ [.int .i64 tv] := by simp [IS]
          rw [e]
          exact hown
        have H1 := Lib.hid hR11; have H2 := Lib.hid hb11; have H3 := Lib.hid hr11; have H4 := Lib.hid ho11
        clear hown hg10 hat hal hf10 hR11 hb11 hr11 ho11
        go_wp2_with fail
        refine ⟨⟨kk + 1, A8, c8, ⟨a6, c6', s6', d6⟩, by omega, rfl, by go_num, H1.out, ?_, H4.out⟩, by simp [intOf]; omega⟩
        rw [HUN.out]
        exact ⟨H2.out, H3.out, HLN.out⟩
      · have hkn : kk = nd := by omega
        subst hkn
        have hlti : decide ((kk : Int) < (kk : Int)) = false := decide_eq_false (by omega)
        go_wp2_with fail
        refine (HNEED.out _).mono ?_
        rintro e wq ⟨rfl, rfl⟩
        go_wp2_with fail
        refine (HKIND.out _).mono ?_
        rintro e wk ⟨rfl, rfl⟩
        have hlk := HR8.out.lt
        clear hlti g6
        rcases HOPS.out with rfl | rfl | rfl | rfl | rfl | rfl | rfl
        · have hkk : kk = 0 := by have h := HND.out; simp [needsV] at h; omega
          subst hkk
          have hJ : RJ w wk D jb (.slice lA 0 lc) hu u0 := HJ8.out
          have HJ := Lib.hid hJ
          have b5 := HJ.out.bx.lt
          have b0 := (hJ.bx.cell 0).trans rfl
          have b1 := (hJ.bx.cell 1).trans rfl
          have b2 := (hJ.bx.cell 2).trans rfl
          have b3 := (hJ.bx.cell 3).trans rfl
          have b4 := (hJ.bx.cell 4).trans rfl
          have i1 := (HR8.out.ibk.cell 1).trans rfl
          have i0 := (HR8.out.ibk.cell 0).trans rfl
          have r0 := (HR8.out.r0.cell 0).trans rfl
          have y0 := HR8.out.r0.frozen 0
          have r1 := (HR8.out.r0.cell 1).trans rfl
          have y1 := HR8.out.r0.frozen 1
          have r2 := (HR8.out.r0.cell 2).trans rfl
          have y2 := HR8.out.r0.frozen 2
          have r3 := (HR8.out.r0.cell 3).trans rfl
          have y3 := HR8.out.r0.frozen 3
          have r4 := (HR8.out.r0.cell 4).trans rfl
          have y4 := HR8.out.r0.frozen 4
          have v0 := (HR8.out.r1.cell 0).trans rfl
          have z0 := HR8.out.r1.frozen 0
          have v1 := (HR8.out.r1.cell 1).trans rfl
          have z1 := HR8.out.r1.frozen 1
          have v2 := (HR8.out.r1.cell 2).trans rfl
          have z2 := HR8.out.r1.frozen 2
          have n0 : jb ≠ w.heap.size + 1 + 1 := by omega
          have n1 : jb ≠ w.heap.size + 1 + 1 + 1 := by omega
          have n2 := Ne.symm n0
          have n3 := Ne.symm n1
          have n4 : ib ≠ w.heap.size + 1 + 1 := by omega
          have n5 : ib ≠ w.heap.size + 1 + 1 + 1 := by omega
          have n6 := Ne.symm n4
          have n7 := Ne.symm n5
          have n8 : w.heap.size + 1 + 1 ≠ w.heap.size + 1 + 1 + 1 := by omega
          have n9 := Ne.symm n8
          clear hJ
          obtain ⟨la, hla⟩ := Int.eq_ofNat_of_zero_le (HDOK.out.loc (.inl rfl)).1
          have hl2 := (HDOK.out.loc (.inl rfl)).2
          simp only at hla hl2
          subst hla
          have hv := HSV.out
          rw [show deedV p u0 ⟨5, (la : Int)⟩ = pushV u0 (getT u0 la) from rfl] at hv
          have HC : Hid (∀ X, Below wk.heap.size wk X → Calls Try.prog 39 #[.agg #[.int .i64 u0.state, .int .i64 u0.on, .slice hu.fA u0.frames.length hu.fc, .slice hu.sA u0.stack.length hu.sc, .int .i64 u0.code], .int .i64 (getT u0 la)] X fun e w9 => ∃ h9 : TH, e = .returned (.tuple #[.agg #[.int .i64 x.state, .int .i64 x.on, .slice h9.fA x.frames.length h9.fc, .slice h9.sA x.stack.length h9.sc, .int .i64 x.code], .agg #[.int .i64 q.kind, .int .i64 q.a, .int .i64 q.v]]) ∧ RT w9 (fun i => ((D i ∧ i < w.heap.size) ∨ (w.heap.size + 1 + 1 + 1 < i ∧ i ≠ jb ∧ (Value.slice lA 0 lc).ownBlock ≠ some i)) ∨ wk.heap.size ≤ i) h9 x ∧ Hid (Below wk.heap.size wk w9)) := fun X hX => by
            have h0 := refPushed_any hu u0 (getT u0 la) X _ (HJ.out.rt.below hX) HJ.out.len
            rw [← hv] at h0
            refine h0.mono ?_
            rintro e w9 ⟨h9, e1, e2, e3⟩
            exact ⟨h9, e1, e2.mono (fun i hi _ => by rcases hi with ⟨hi, _⟩ | hi; exact .inl hi; exact .inr (by have := hX.size; omega)), Lib.hid (hX.trans (e3.mono hX.size))⟩
          have HG : Hid (∀ X, Below wk.heap.size wk X → Calls Try.prog 41 #[.agg #[.int .i64 u0.state, .int .i64 u0.on, .slice hu.fA u0.frames.length hu.fc, .slice hu.sA u0.stack.length hu.sc, .int .i64 u0.code], .int .i64 (la : Int)] X fun e w9 => e = .returned (.int .i64 (getT u0 la)) ∧ Hid (Below wk.heap.size wk w9)) := fun X hX =>
            (refGet_all hu u0 la X _ (HJ.out.rt.below hX) HDOK.out.fr.1 (by have := HDOK.out.fr.2; omega) (by omega) hl2.2).mono fun e w9 h => ⟨h.1, Lib.hid (hX.trans (h.2.mono hX.size))⟩
          have KS : Hid (∀ X, Below wk.heap.size wk X → X.cell? ⟨jb, 0, none⟩ = some (.int .i64 u0.state) ∧ X.cell? ⟨jb, 1, none⟩ = some (.int .i64 u0.on) ∧ X.cell? ⟨jb, 2, none⟩ = some (.slice hu.fA u0.frames.length hu.fc) ∧ X.cell? ⟨jb, 3, none⟩ = some (.slice hu.sA u0.stack.length hu.sc) ∧ X.cell? ⟨jb, 4, none⟩ = some (.int .i64 u0.code) ∧ X.cell? ⟨ib, 1, none⟩ = some (.int .i64 (la : Int))) := fun X hX => by
            have g := HJ.out.bx.below hX HJ.out.bx.lt
            have k : ∀ j, X.cell? ⟨ib, j, none⟩ = wk.cell? ⟨ib, j, none⟩ := fun j => hX.cell (p := ⟨ib, j, none⟩) HR8.out.ibk.lt
            exact ⟨(g.cell 0).trans rfl, (g.cell 1).trans rfl, (g.cell 2).trans rfl, (g.cell 3).trans rfl, (g.cell 4).trans rfl, (k 1).trans i1⟩
          have KA : Hid (∀ (X : World) (a0 a1 a2 a3 a4 : Value), (X.cell? ⟨jb, 0, none⟩ = some (.int .i64 u0.state) ∧ X.cell? ⟨jb, 1, none⟩ = some (.int .i64 u0.on) ∧ X.cell? ⟨jb, 2, none⟩ = some (.slice hu.fA u0.frames.length hu.fc) ∧ X.cell? ⟨jb, 3, none⟩ = some (.slice hu.sA u0.stack.length hu.sc) ∧ X.cell? ⟨jb, 4, none⟩ = some (.int .i64 u0.code) ∧ X.cell? ⟨ib, 1, none⟩ = some (.int .i64 (la : Int))) → (((((X.setCell ⟨w.heap.size + 1 + 1, 0, none⟩ a0).setCell ⟨w.heap.size + 1 + 1, 1, none⟩ a1).setCell ⟨w.heap.size + 1 + 1, 2, none⟩ a2).setCell ⟨w.heap.size + 1 + 1, 3, none⟩ a3).setCell ⟨w.heap.size + 1 + 1, 4, none⟩ a4).cell? ⟨jb, 0, none⟩ = some (.int .i64 u0.state) ∧ (((((X.setCell ⟨w.heap.size + 1 + 1, 0, none⟩ a0).setCell ⟨w.heap.size + 1 + 1, 1, none⟩ a1).setCell ⟨w.heap.size + 1 + 1, 2, none⟩ a2).setCell ⟨w.heap.size + 1 + 1, 3, none⟩ a3).setCell ⟨w.heap.size + 1 + 1, 4, none⟩ a4).cell? ⟨jb, 1, none⟩ = some (.int .i64 u0.on) ∧ (((((X.setCell ⟨w.heap.size + 1 + 1, 0, none⟩ a0).setCell ⟨w.heap.size + 1 + 1, 1, none⟩ a1).setCell ⟨w.heap.size + 1 + 1, 2, none⟩ a2).setCell ⟨w.heap.size + 1 + 1, 3, none⟩ a3).setCell ⟨w.heap.size + 1 + 1, 4, none⟩ a4).cell? ⟨jb, 2, none⟩ = some (.slice hu.fA u0.frames.length hu.fc) ∧ (((((X.setCell ⟨w.heap.size + 1 + 1, 0, none⟩ a0).setCell ⟨w.heap.size + 1 + 1, 1, none⟩ a1).setCell ⟨w.heap.size + 1 + 1, 2, none⟩ a2).setCell ⟨w.heap.size + 1 + 1, 3, none⟩ a3).setCell ⟨w.heap.size + 1 + 1, 4, none⟩ a4).cell? ⟨jb, 3, none⟩ = some (.slice hu.sA u0.stack.length hu.sc) ∧ (((((X.setCell ⟨w.heap.size + 1 + 1, 0, none⟩ a0).setCell ⟨w.heap.size + 1 + 1, 1, none⟩ a1).setCell ⟨w.heap.size + 1 + 1, 2, none⟩ a2).setCell ⟨w.heap.size + 1 + 1, 3, none⟩ a3).setCell ⟨w.heap.size + 1 + 1, 4, none⟩ a4).cell? ⟨jb, 4, none⟩ = some (.int .i64 u0.code) ∧ (((((X.setCell ⟨w.heap.size + 1 + 1, 0, none⟩ a0).setCell ⟨w.heap.size + 1 + 1, 1, none⟩ a1).setCell ⟨w.heap.size + 1 + 1, 2, none⟩ a2).setCell ⟨w.heap.size + 1 + 1, 3, none⟩ a3).setCell ⟨w.heap.size + 1 + 1, 4, none⟩ a4).cell? ⟨ib, 1, none⟩ = some (.int .i64 (la : Int))) := fun X a0 a1 a2 a3 a4 h => ⟨(far5 X _ _ _ _ _ _ ⟨jb, 0, none⟩ n0).trans h.1, (far5 X _ _ _ _ _ _ ⟨jb, 1, none⟩ n0).trans h.2.1, (far5 X _ _ _ _ _ _ ⟨jb, 2, none⟩ n0).trans h.2.2.1, (far5 X _ _ _ _ _ _ ⟨jb, 3, none⟩ n0).trans h.2.2.2.1, (far5 X _ _ _ _ _ _ ⟨jb, 4, none⟩ n0).trans h.2.2.2.2.1, (far5 X _ _ _ _ _ _ ⟨ib, 1, none⟩ n4).trans h.2.2.2.2.2⟩
          have KB : Hid (∀ (X : World) (a0 a1 a2 : Value), (X.cell? ⟨jb, 0, none⟩ = some (.int .i64 u0.state) ∧ X.cell? ⟨jb, 1, none⟩ = some (.int .i64 u0.on) ∧ X.cell? ⟨jb, 2, none⟩ = some (.slice hu.fA u0.frames.length hu.fc) ∧ X.cell? ⟨jb, 3, none⟩ = some (.slice hu.sA u0.stack.length hu.sc) ∧ X.cell? ⟨jb, 4, none⟩ = some (.int .i64 u0.code) ∧ X.cell? ⟨ib, 1, none⟩ = some (.int .i64 (la : Int))) → (((X.setCell ⟨w.heap.size + 1 + 1 + 1, 0, none⟩ a0).setCell ⟨w.heap.size + 1 + 1 + 1, 1, none⟩ a1).setCell ⟨w.heap.size + 1 + 1 + 1, 2, none⟩ a2).cell? ⟨jb, 0, none⟩ = some (.int .i64 u0.state) ∧ (((X.setCell ⟨w.heap.size + 1 + 1 + 1, 0, none⟩ a0).setCell ⟨w.heap.size + 1 + 1 + 1, 1, none⟩ a1).setCell ⟨w.heap.size + 1 + 1 + 1, 2, none⟩ a2).cell? ⟨jb, 1, none⟩ = some (.int .i64 u0.on) ∧ (((X.setCell ⟨w.heap.size + 1 + 1 + 1, 0, none⟩ a0).setCell ⟨w.heap.size + 1 + 1 + 1, 1, none⟩ a1).setCell ⟨w.heap.size + 1 + 1 + 1, 2, none⟩ a2).cell? ⟨jb, 2, none⟩ = some (.slice hu.fA u0.frames.length hu.fc) ∧ (((X.setCell ⟨w.heap.size + 1 + 1 + 1, 0, none⟩ a0).setCell ⟨w.heap.size + 1 + 1 + 1, 1, none⟩ a1).setCell ⟨w.heap.size + 1 + 1 + 1, 2, none⟩ a2).cell? ⟨jb, 3, none⟩ = some (.slice hu.sA u0.stack.length hu.sc) ∧ (((X.setCell ⟨w.heap.size + 1 + 1 + 1, 0, none⟩ a0).setCell ⟨w.heap.size + 1 + 1 + 1, 1, none⟩ a1).setCell ⟨w.heap.size + 1 + 1 + 1, 2, none⟩ a2).cell? ⟨jb, 4, none⟩ = some (.int .i64 u0.code) ∧ (((X.setCell ⟨w.heap.size + 1 + 1 + 1, 0, none⟩ a0).setCell ⟨w.heap.size + 1 + 1 + 1, 1, none⟩ a1).setCell ⟨w.heap.size + 1 + 1 + 1, 2, none⟩ a2).cell? ⟨ib, 1, none⟩ = some (.int .i64 (la : Int))) := fun X a0 a1 a2 h => ⟨(far3 X _ _ _ _ ⟨jb, 0, none⟩ n1).trans h.1, (far3 X _ _ _ _ ⟨jb, 1, none⟩ n1).trans h.2.1, (far3 X _ _ _ _ ⟨jb, 2, none⟩ n1).trans h.2.2.1, (far3 X _ _ _ _ ⟨jb, 3, none⟩ n1).trans h.2.2.2.1, (far3 X _ _ _ _ ⟨jb, 4, none⟩ n1).trans h.2.2.2.2.1, (far3 X _ _ _ _ ⟨ib, 1, none⟩ n5).trans h.2.2.2.2.2⟩
          generalize getT u0 (la : Int) = gv at *
          clear hv
          go_upto_region 30 with fail
          have HBA := Lib.hid (Below.refl wk.heap.size wk)
          go_region_held3 (fun w' => w'.cell? ⟨jb, 0, none⟩ = some (.int .i64 u0.state) ∧ w'.cell? ⟨jb, 1, none⟩ = some (.int .i64 u0.on) ∧ w'.cell? ⟨jb, 2, none⟩ = some (.slice hu.fA u0.frames.length hu.fc) ∧ w'.cell? ⟨jb, 3, none⟩ = some (.slice hu.sA u0.stack.length hu.sc) ∧ w'.cell? ⟨jb, 4, none⟩ = some (.int .i64 u0.code) ∧ w'.cell? ⟨ib, 1, none⟩ = some (.int .i64 (la : Int)))
            (first | with_reducible exact KS.out _ (by first | with_reducible exact HBA.out | with_reducible exact HBA.out.drew | with_reducible exact Below.refl _ _ | exact (Below.refl _ _).drew) | with_reducible exact G3 | with_reducible exact KA.out _ _ _ _ _ _ G3 | with_reducible exact KB.out _ _ _ _ (KA.out _ _ _ _ _ _ G3) | with_reducible exact KB.out _ _ _ _ G3 | with_reducible exact KA.out _ _ _ _ _ _ (KB.out _ _ _ _ G3) | go_keep)
            (first
              | (go_at_call 41; refine (HG.out _ (by first | with_reducible exact HBA.out | with_reducible exact HBA.out.drew | with_reducible exact Below.refl _ _ | exact (Below.refl _ _).drew)).mono ?_; rintro e w9 ⟨rfl, HBA⟩
                 have G3 := KS.out w9 HBA.out)
              | (go_at_call 39; refine (HC.out _ (by first | with_reducible exact HBA.out | with_reducible exact HBA.out.drew | with_reducible exact Below.refl _ _ | exact (Below.refl _ _).drew)).mono ?_; rintro e w9 ⟨⟨xA, xc, xB, xd⟩, rfl, hrt9, HBA⟩
                 try simp only at hrt9
                 have G3 := KS.out w9 HBA.out
                 have g9 := HR8.out.below HBA.out
                 clear r0 r1 r2 r3 r4 y0 y1 y2 y3 y4 v0 v1 v2 z0 z1 z2
                 have r0 := (g9.r0.cell 0).trans rfl
                 have y0 := g9.r0.frozen 0
                 have r1 := (g9.r0.cell 1).trans rfl
                 have y1 := g9.r0.frozen 1
                 have r2 := (g9.r0.cell 2).trans rfl
                 have y2 := g9.r0.frozen 2
                 have r3 := (g9.r0.cell 3).trans rfl
                 have y3 := g9.r0.frozen 3
                 have r4 := (g9.r0.cell 4).trans rfl
                 have y4 := g9.r0.frozen 4
                 have v0 := (g9.r1.cell 0).trans rfl
                 have z0 := g9.r1.frozen 0
                 have v1 := (g9.r1.cell 1).trans rfl
                 have z1 := g9.r1.frozen 1
                 have v2 := (g9.r1.cell 2).trans rfl
                 have z2 := g9.r1.frozen 2
                 have G9 := Lib.hid g9
                 have HRT9 := Lib.hid hrt9
                 clear g9 hrt9)
              | fail)
          all_goals
            have hzk := HR8.out.ibk.lt
            clear b0 b1 b2 b3 b4 b5
            go_wp2_with fail
            obtain ⟨k0, k1, k2, k3⟩ := G9.out.fin (D := D) (hx := ⟨xA, xc, xB, xd⟩) (x := x) q HRT9.out (fun i h _ => by rcases h with (h | h) | h; exact .inl h; exact .inr h.1; exact .inr (by omega)) rfl
            refine bodyPost_ret (v := .tuple #[.agg #[.int .i64 x.state, .int .i64 x.on, .slice xA x.frames.length xc, .slice xB x.stack.length xd, .int .i64 x.code], .agg #[.int .i64 q.kind, .int .i64 q.a, .int .i64 q.v]]) (results_cells2 rfl _ _ (w.heap.size + 1 + 1) (w.heap.size + 1 + 1 + 1) 29 37 _ _ (0, 0) (0, 0) _ _ rfl rfl k0 k1 Try.underlying29 rfl (by kernel_rfl) Try.underlying37 rfl (by kernel_rfl)) rfl ?_
            exact ⟨⟨xA, xc, xB, xd⟩, rfl, k2, k3⟩
        · have hkk : kk = 1 := by have h := HND.out; simp [needsV] at h; omega
          subst hkk
          have hJ : RJ w wk D jb (.slice lA 1 lc) hu (popT u0) := HJ8.out
          have HJ := Lib.hid hJ
          have hl : wk.ownsRow (ib + 1) 3 1 (.slice lA 1 lc) 1 (IS [topT u0]) := HL8.out
          obtain ⟨lb, lcap, hv, hlbb, hlbz⟩ := hl.form (by omega)
          injection hv with hv1 _ hv2
          subst hv1 hv2
          have l0 : wk.cell? ⟨lb, 0, none⟩ = some (.int .i64 (topT u0)) := (hl.cellAt 0 (by omega)).trans rfl
          have HL := Lib.hid hl
          clear hl hlbb hlbz
          have b5 := HJ.out.bx.lt
          have b0 := (hJ.bx.cell 0).trans rfl
          have b1 := (hJ.bx.cell 1).trans rfl
          have b2 := (hJ.bx.cell 2).trans rfl
          have b3 := (hJ.bx.cell 3).trans rfl
          have b4 := (hJ.bx.cell 4).trans rfl
          have i1 := (HR8.out.ibk.cell 1).trans rfl
          have i0 := (HR8.out.ibk.cell 0).trans rfl
          have r0 := (HR8.out.r0.cell 0).trans rfl
          have y0 := HR8.out.r0.frozen 0
          have r1 := (HR8.out.r0.cell 1).trans rfl
          have y1 := HR8.out.r0.frozen 1
          have r2 := (HR8.out.r0.cell 2).trans rfl
          have y2 := HR8.out.r0.frozen 2
          have r3 := (HR8.out.r0.cell 3).trans rfl
          have y3 := HR8.out.r0.frozen 3
          have r4 := (HR8.out.r0.cell 4).trans rfl
          have y4 := HR8.out.r0.frozen 4
          have v0 := (HR8.out.r1.cell 0).trans rfl
          have z0 := HR8.out.r1.frozen 0
          have v1 := (HR8.out.r1.cell 1).trans rfl
          have z1 := HR8.out.r1.frozen 1
          have v2 := (HR8.out.r1.cell 2).trans rfl
          have z2 := HR8.out.r1.frozen 2
          have n0 : jb ≠ w.heap.size + 1 + 1 := by omega
          have n1 : jb ≠ w.heap.size + 1 + 1 + 1 := by omega
          have n2 := Ne.symm n0
          have n3 := Ne.symm n1
          have n4 : ib ≠ w.heap.size + 1 + 1 := by omega
          have n5 : ib ≠ w.heap.size + 1 + 1 + 1 := by omega
          have n6 := Ne.symm n4
          have n7 := Ne.symm n5
          have n8 : w.heap.size + 1 + 1 ≠ w.heap.size + 1 + 1 + 1 := by omega
          have n9 := Ne.symm n8
          clear hJ
          have o0 : lb ≠ w.heap.size + 1 + 1 := by have := (HL.out.lt lb rfl).1; omega
          have o1 : lb ≠ w.heap.size + 1 + 1 + 1 := by have := (HL.out.lt lb rfl).1; omega
          have o2 := Ne.symm o0
          have o3 := Ne.symm o1
          have hne : ¬ u0.stack = [] := fun e => by have h := HUST.out; rw [e] at h; rw [← h] at hun; simp at hun
          obtain ⟨la, hla⟩ := Int.eq_ofNat_of_zero_le (HDOK.out.loc (.inr rfl)).1
          have hl2 := (HDOK.out.loc (.inr rfl)).2
          simp only at hla hl2
          subst hla
          have hv := HSV.out
          rw [show deedV p u0 ⟨6, (la : Int)⟩ = popV u0 (fun t v => (setT t la v, q0)) from rfl, popV, if_neg hne] at hv
          injection hv with hv1 hv2
          subst hv2
          generalize topT u0 = tv0 at *
          have HC : Hid (∀ X, Below wk.heap.size wk X → Calls Try.prog 42 #[.agg #[.int .i64 (popT u0).state, .int .i64 (popT u0).on, .slice hu.fA (popT u0).frames.length hu.fc, .slice hu.sA (popT u0).stack.length hu.sc, .int .i64 (popT u0).code], .int .i64 (la : Int), .int .i64 tv0] X fun e w9 => ∃ h9 : TH, e = .returned (.agg #[.int .i64 x.state, .int .i64 x.on, .slice h9.fA x.frames.length h9.fc, .slice h9.sA x.stack.length h9.sc, .int .i64 x.code]) ∧ RT w9 (fun i => ((D i ∧ i < w.heap.size) ∨ (w.heap.size + 1 + 1 + 1 < i ∧ i ≠ jb ∧ (Value.slice (some ⟨lb, 0, none⟩) 1 lc).ownBlock ≠ some i)) ∨ wk.heap.size ≤ i) h9 x ∧ Hid (Below wk.heap.size wk w9)) := fun X hX => by
            refine (refSet_all hu (popT u0) la tv0 X _ (HJ.out.rt.below hX) HJ.out.len HDOK.out.fr.1 (by have := HDOK.out.fr.2; show u0.frames.length ≤ _; omega) (by show la < (lastFr u0).locals.length; omega) hl2.2 x hv1).mono ?_
            rintro e w9 ⟨h9, e1, e2, e3⟩
            exact ⟨h9, e1, e2.mono (fun i hi _ => by rcases hi with hi | hi; exact .inl hi; exact .inr (by have := hX.size; omega)), Lib.hid (hX.trans (e3.mono hX.size))⟩
          have KS : Hid (∀ X, Below wk.heap.size wk X → X.cell? ⟨jb, 0, none⟩ = some (.int .i64 (popT u0).state) ∧ X.cell? ⟨jb, 1, none⟩ = some (.int .i64 (popT u0).on) ∧ X.cell? ⟨jb, 2, none⟩ = some (.slice hu.fA (popT u0).frames.length hu.fc) ∧ X.cell? ⟨jb, 3, none⟩ = some (.slice hu.sA (popT u0).stack.length hu.sc) ∧ X.cell? ⟨jb, 4, none⟩ = some (.int .i64 (popT u0).code) ∧ X.cell? ⟨lb, 0, none⟩ = some (.int .i64 tv0) ∧ X.cell? ⟨ib, 1, none⟩ = some (.int .i64 (la : Int))) := fun X hX => by
            have g := HJ.out.bx.below hX HJ.out.bx.lt
            have c : ∀ j, X.cell? ⟨lb, j, none⟩ = wk.cell? ⟨lb, j, none⟩ := fun j => hX.cell (p := ⟨lb, j, none⟩) (HL.out.lt lb rfl).2
            have k : ∀ j, X.cell? ⟨ib, j, none⟩ = wk.cell? ⟨ib, j, none⟩ := fun j => hX.cell (p := ⟨ib, j, none⟩) HR8.out.ibk.lt
            exact ⟨(g.cell 0).trans rfl, (g.cell 1).trans rfl, (g.cell 2).trans rfl, (g.cell 3).trans rfl, (g.cell 4).trans rfl, (c 0).trans l0, (k 1).trans i1⟩
          have KA : Hid (∀ (X : World) (a0 a1 a2 a3 a4 : Value), (X.cell? ⟨jb, 0, none⟩ = some (.int .i64 (popT u0).state) ∧ X.cell? ⟨jb, 1, none⟩ = some (.int .i64 (popT u0).on) ∧ X.cell? ⟨jb, 2, none⟩ = some (.slice hu.fA (popT u0).frames.length hu.fc) ∧ X.cell? ⟨jb, 3, none⟩ = some (.slice hu.sA (popT u0).stack.length hu.sc) ∧ X.cell? ⟨jb, 4, none⟩ = some (.int .i64 (popT u0).code) ∧ X.cell? ⟨lb, 0, none⟩ = some (.int .i64 tv0) ∧ X.cell? ⟨ib, 1, none⟩ = some (.int .i64 (la : Int))) → (((((X.setCell ⟨w.heap.size + 1 + 1, 0, none⟩ a0).setCell ⟨w.heap.size + 1 + 1, 1, none⟩ a1).setCell ⟨w.heap.size + 1 + 1, 2, none⟩ a2).setCell ⟨w.heap.size + 1 + 1, 3, none⟩ a3).setCell ⟨w.heap.size + 1 + 1, 4, none⟩ a4).cell? ⟨jb, 0, none⟩ = some (.int .i64 (popT u0).state) ∧ (((((X.setCell ⟨w.heap.size + 1 + 1, 0, none⟩ a0).setCell ⟨w.heap.size + 1 + 1, 1, none⟩ a1).setCell ⟨w.heap.size + 1 + 1, 2, none⟩ a2).setCell ⟨w.heap.size + 1 + 1, 3, none⟩ a3).setCell ⟨w.heap.size + 1 + 1, 4, none⟩ a4).cell? ⟨jb, 1, none⟩ = some (.int .i64 (popT u0).on) ∧ (((((X.setCell ⟨w.heap.size + 1 + 1, 0, none⟩ a0).setCell ⟨w.heap.size + 1 + 1, 1, none⟩ a1).setCell ⟨w.heap.size + 1 + 1, 2, none⟩ a2).setCell ⟨w.heap.size + 1 + 1, 3, none⟩ a3).setCell ⟨w.heap.size + 1 + 1, 4, none⟩ a4).cell? ⟨jb, 2, none⟩ = some (.slice hu.fA (popT u0).frames.length hu.fc) ∧ (((((X.setCell ⟨w.heap.size + 1 + 1, 0, none⟩ a0).setCell ⟨w.heap.size + 1 + 1, 1, none⟩ a1).setCell ⟨w.heap.size + 1 + 1, 2, none⟩ a2).setCell ⟨w.heap.size + 1 + 1, 3, none⟩ a3).setCell ⟨w.heap.size + 1 + 1, 4, none⟩ a4).cell? ⟨jb, 3, none⟩ = some (.slice hu.sA (popT u0).stack.length hu.sc) ∧ (((((X.setCell ⟨w.heap.size + 1 + 1, 0, none⟩ a0).setCell ⟨w.heap.size + 1 + 1, 1, none⟩ a1).setCell ⟨w.heap.size + 1 + 1, 2, none⟩ a2).setCell ⟨w.heap.size + 1 + 1, 3, none⟩ a3).setCell ⟨w.heap.size + 1 + 1, 4, none⟩ a4).cell? ⟨jb, 4, none⟩ = some (.int .i64 (popT u0).code) ∧ (((((X.setCell ⟨w.heap.size + 1 + 1, 0, none⟩ a0).setCell ⟨w.heap.size + 1 + 1, 1, none⟩ a1).setCell ⟨w.heap.size + 1 + 1, 2, none⟩ a2).setCell ⟨w.heap.size + 1 + 1, 3, none⟩ a3).setCell ⟨w.heap.size + 1 + 1, 4, none⟩ a4).cell? ⟨lb, 0, none⟩ = some (.int .i64 tv0) ∧ (((((X.setCell ⟨w.heap.size + 1 + 1, 0, none⟩ a0).setCell ⟨w.heap.size + 1 + 1, 1, none⟩ a1).setCell ⟨w.heap.size + 1 + 1, 2, none⟩ a2).setCell ⟨w.heap.size + 1 + 1, 3, none⟩ a3).setCell ⟨w.heap.size + 1 + 1, 4, none⟩ a4).cell? ⟨ib, 1, none⟩ = some (.int .i64 (la : Int))) := fun X a0 a1 a2 a3 a4 h => ⟨(far5 X _ _ _ _ _ _ ⟨jb, 0, none⟩ n0).trans h.1, (far5 X _ _ _ _ _ _ ⟨jb, 1, none⟩ n0).trans h.2.1, (far5 X _ _ _ _ _ _ ⟨jb, 2, none⟩ n0).trans h.2.2.1, (far5 X _ _ _ _ _ _ ⟨jb, 3, none⟩ n0).trans h.2.2.2.1, (far5 X _ _ _ _ _ _ ⟨jb, 4, none⟩ n0).trans h.2.2.2.2.1, (far5 X _ _ _ _ _ _ ⟨lb, 0, none⟩ o0).trans h.2.2.2.2.2.1, (far5 X _ _ _ _ _ _ ⟨ib, 1, none⟩ n4).trans h.2.2.2.2.2.2⟩
          have KB : Hid (∀ (X : World) (a0 a1 a2 : Value), (X.cell? ⟨jb, 0, none⟩ = some (.int .i64 (popT u0).state) ∧ X.cell? ⟨jb, 1, none⟩ = some (.int .i64 (popT u0).on) ∧ X.cell? ⟨jb, 2, none⟩ = some (.slice hu.fA (popT u0).frames.length hu.fc) ∧ X.cell? ⟨jb, 3, none⟩ = some (.slice hu.sA (popT u0).stack.length hu.sc) ∧ X.cell? ⟨jb, 4, none⟩ = some (.int .i64 (popT u0).code) ∧ X.cell? ⟨lb, 0, none⟩ = some (.int .i64 tv0) ∧ X.cell? ⟨ib, 1, none⟩ = some (.int .i64 (la : Int))) → (((X.setCell ⟨w.heap.size + 1 + 1 + 1, 0, none⟩ a0).setCell ⟨w.heap.size + 1 + 1 + 1, 1, none⟩ a1).setCell ⟨w.heap.size + 1 + 1 + 1, 2, none⟩ a2).cell? ⟨jb, 0, none⟩ = some (.int .i64 (popT u0).state) ∧ (((X.setCell ⟨w.heap.size + 1 + 1 + 1, 0, none⟩ a0).setCell ⟨w.heap.size + 1 + 1 + 1, 1, none⟩ a1).setCell ⟨w.heap.size + 1 + 1 + 1, 2, none⟩ a2).cell? ⟨jb, 1, none⟩ = some (.int .i64 (popT u0).on) ∧ (((X.setCell ⟨w.heap.size + 1 + 1 + 1, 0, none⟩ a0).setCell ⟨w.heap.size + 1 + 1 + 1, 1, none⟩ a1).setCell ⟨w.heap.size + 1 + 1 + 1, 2, none⟩ a2).cell? ⟨jb, 2, none⟩ = some (.slice hu.fA (popT u0).frames.length hu.fc) ∧ (((X.setCell ⟨w.heap.size + 1 + 1 + 1, 0, none⟩ a0).setCell ⟨w.heap.size + 1 + 1 + 1, 1, none⟩ a1).setCell ⟨w.heap.size + 1 + 1 + 1, 2, none⟩ a2).cell? ⟨jb, 3, none⟩ = some (.slice hu.sA (popT u0).stack.length hu.sc) ∧ (((X.setCell ⟨w.heap.size + 1 + 1 + 1, 0, none⟩ a0).setCell ⟨w.heap.size + 1 + 1 + 1, 1, none⟩ a1).setCell ⟨w.heap.size + 1 + 1 + 1, 2, none⟩ a2).cell? ⟨jb, 4, none⟩ = some (.int .i64 (popT u0).code) ∧ (((X.setCell ⟨w.heap.size + 1 + 1 + 1, 0, none⟩ a0).setCell ⟨w.heap.size + 1 + 1 + 1, 1, none⟩ a1).setCell ⟨w.heap.size + 1 + 1 + 1, 2, none⟩ a2).cell? ⟨lb, 0, none⟩ = some (.int .i64 tv0) ∧ (((X.setCell ⟨w.heap.size + 1 + 1 + 1, 0, none⟩ a0).setCell ⟨w.heap.size + 1 + 1 + 1, 1, none⟩ a1).setCell ⟨w.heap.size + 1 + 1 + 1, 2, none⟩ a2).cell? ⟨ib, 1, none⟩ = some (.int .i64 (la : Int))) := fun X a0 a1 a2 h => ⟨(far3 X _ _ _ _ ⟨jb, 0, none⟩ n1).trans h.1, (far3 X _ _ _ _ ⟨jb, 1, none⟩ n1).trans h.2.1, (far3 X _ _ _ _ ⟨jb, 2, none⟩ n1).trans h.2.2.1, (far3 X _ _ _ _ ⟨jb, 3, none⟩ n1).trans h.2.2.2.1, (far3 X _ _ _ _ ⟨jb, 4, none⟩ n1).trans h.2.2.2.2.1, (far3 X _ _ _ _ ⟨lb, 0, none⟩ o1).trans h.2.2.2.2.2.1, (far3 X _ _ _ _ ⟨ib, 1, none⟩ n5).trans h.2.2.2.2.2.2⟩
          clear hne hv1
          go_upto_region 32 with fail
          have HBA := Lib.hid (Below.refl wk.heap.size wk)
          go_region_held3 (fun w' => w'.cell? ⟨jb, 0, none⟩ = some (.int .i64 (popT u0).state) ∧ w'.cell? ⟨jb, 1, none⟩ = some (.int .i64 (popT u0).on) ∧ w'.cell? ⟨jb, 2, none⟩ = some (.slice hu.fA (popT u0).frames.length hu.fc) ∧ w'.cell? ⟨jb, 3, none⟩ = some (.slice hu.sA (popT u0).stack.length hu.sc) ∧ w'.cell? ⟨jb, 4, none⟩ = some (.int .i64 (popT u0).code) ∧ w'.cell? ⟨lb, 0, none⟩ = some (.int .i64 tv0) ∧ w'.cell? ⟨ib, 1, none⟩ = some (.int .i64 (la : Int)))
            (first | with_reducible exact KS.out _ (by first | with_reducible exact HBA.out | with_reducible exact HBA.out.drew | with_reducible exact Below.refl _ _ | exact (Below.refl _ _).drew) | with_reducible exact G3 | with_reducible exact KA.out _ _ _ _ _ _ G3 | with_reducible exact KB.out _ _ _ _ (KA.out _ _ _ _ _ _ G3) | with_reducible exact KB.out _ _ _ _ G3 | with_reducible exact KA.out _ _ _ _ _ _ (KB.out _ _ _ _ G3) | go_keep)
            (first
              | (go_at_call 42; refine (HC.out _ (by first | with_reducible exact HBA.out | with_reducible exact HBA.out.drew | with_reducible exact Below.refl _ _ | exact (Below.refl _ _).drew)).mono ?_; rintro e w9 ⟨⟨xA, xc, xB, xd⟩, rfl, hrt9, HBA⟩
                 try simp only at hrt9
                 have G3 := KS.out w9 HBA.out
                 have g9 := HR8.out.below HBA.out
                 clear r0 r1 r2 r3 r4 y0 y1 y2 y3 y4 v0 v1 v2 z0 z1 z2
                 have r0 := (g9.r0.cell 0).trans rfl
                 have y0 := g9.r0.frozen 0
                 have r1 := (g9.r0.cell 1).trans rfl
                 have y1 := g9.r0.frozen 1
                 have r2 := (g9.r0.cell 2).trans rfl
                 have y2 := g9.r0.frozen 2
                 have r3 := (g9.r0.cell 3).trans rfl
                 have y3 := g9.r0.frozen 3
                 have r4 := (g9.r0.cell 4).trans rfl
                 have y4 := g9.r0.frozen 4
                 have v0 := (g9.r1.cell 0).trans rfl
                 have z0 := g9.r1.frozen 0
                 have v1 := (g9.r1.cell 1).trans rfl
                 have z1 := g9.r1.frozen 1
                 have v2 := (g9.r1.cell 2).trans rfl
                 have z2 := g9.r1.frozen 2
                 have G9 := Lib.hid g9
                 have HRT9 := Lib.hid hrt9
                 clear g9 hrt9)
              | fail)
          all_goals
            have hzk := HR8.out.ibk.lt
            clear b0 b1 b2 b3 b4 b5
            go_wp2_with fail
            obtain ⟨k0, k1, k2, k3⟩ := G9.out.fin (D := D) (hx := ⟨xA, xc, xB, xd⟩) (x := x) q0 HRT9.out (fun i h _ => by rcases h with (h | h) | h; exact .inl h; exact .inr h.1; exact .inr (by omega)) rfl
            refine bodyPost_ret (v := .tuple #[.agg #[.int .i64 x.state, .int .i64 x.on, .slice xA x.frames.length xc, .slice xB x.stack.length xd, .int .i64 x.code], .agg #[.int .i64 0, .int .i64 0, .int .i64 0]]) (results_cells2 rfl _ _ (w.heap.size + 1 + 1) (w.heap.size + 1 + 1 + 1) 29 37 _ _ (0, 0) (0, 0) _ _ rfl rfl k0 k1 Try.underlying29 rfl (by kernel_rfl) Try.underlying37 rfl (by kernel_rfl)) rfl ?_
            exact ⟨⟨xA, xc, xB, xd⟩, rfl, k2, k3⟩
        · have hkk : kk = 0 := by have h := HND.out; simp [needsV] at h; omega
          subst hkk
          have hJ : RJ w wk D jb (.slice lA 0 lc) hu u0 := HJ8.out
          have HJ := Lib.hid hJ
          have b5 := HJ.out.bx.lt
          have b0 := (hJ.bx.cell 0).trans rfl
          have b1 := (hJ.bx.cell 1).trans rfl
          have b2 := (hJ.bx.cell 2).trans rfl
          have b3 := (hJ.bx.cell 3).trans rfl
          have b4 := (hJ.bx.cell 4).trans rfl
          have i1 := (HR8.out.ibk.cell 1).trans rfl
          have i0 := (HR8.out.ibk.cell 0).trans rfl
          have r0 := (HR8.out.r0.cell 0).trans rfl
          have y0 := HR8.out.r0.frozen 0
          have r1 := (HR8.out.r0.cell 1).trans rfl
          have y1 := HR8.out.r0.frozen 1
          have r2 := (HR8.out.r0.cell 2).trans rfl
          have y2 := HR8.out.r0.frozen 2
          have r3 := (HR8.out.r0.cell 3).trans rfl
          have y3 := HR8.out.r0.frozen 3
          have r4 := (HR8.out.r0.cell 4).trans rfl
          have y4 := HR8.out.r0.frozen 4
          have v0 := (HR8.out.r1.cell 0).trans rfl
          have z0 := HR8.out.r1.frozen 0
          have v1 := (HR8.out.r1.cell 1).trans rfl
          have z1 := HR8.out.r1.frozen 1
          have v2 := (HR8.out.r1.cell 2).trans rfl
          have z2 := HR8.out.r1.frozen 2
          have n0 : jb ≠ w.heap.size + 1 + 1 := by omega
          have n1 : jb ≠ w.heap.size + 1 + 1 + 1 := by omega
          have n2 := Ne.symm n0
          have n3 := Ne.symm n1
          have n4 : ib ≠ w.heap.size + 1 + 1 := by omega
          have n5 : ib ≠ w.heap.size + 1 + 1 + 1 := by omega
          have n6 := Ne.symm n4
          have n7 := Ne.symm n5
          have n8 : w.heap.size + 1 + 1 ≠ w.heap.size + 1 + 1 + 1 := by omega
          have n9 := Ne.symm n8
          clear hJ
          have hv := HSV.out
          rw [show deedV p u0 ⟨7, a⟩ = (jumpT u0 a, q0) from rfl] at hv
          injection hv with hv1 hv2
          subst hv2
          have hpu := refJump_all hu u0 a wk _ HJ.out.rt HJ.out.len HDOK.out.fr.1 (by have := HDOK.out.fr.2; omega) x hv1
          have HPU := Lib.hid hpu
          clear hpu hv1
          go_upto_region 34 with fail
          go_wp2_with fail
          refine HPU.out.mono ?_
          rintro e w9 ⟨⟨xA, xc, xB, xd⟩, rfl, hrt9, hb9⟩
          try simp only at hrt9
          have g9 := HR8.out.below hb9
          have hzk := HR8.out.ibk.lt
          clear r0 r1 r2 r3 r4 y0 y1 y2 y3 y4 v0 v1 v2 z0 z1 z2
          have r0 := (g9.r0.cell 0).trans rfl
          have y0 := g9.r0.frozen 0
          have r1 := (g9.r0.cell 1).trans rfl
          have y1 := g9.r0.frozen 1
          have r2 := (g9.r0.cell 2).trans rfl
          have y2 := g9.r0.frozen 2
          have r3 := (g9.r0.cell 3).trans rfl
          have y3 := g9.r0.frozen 3
          have r4 := (g9.r0.cell 4).trans rfl
          have y4 := g9.r0.frozen 4
          have v0 := (g9.r1.cell 0).trans rfl
          have z0 := g9.r1.frozen 0
          have v1 := (g9.r1.cell 1).trans rfl
          have z1 := g9.r1.frozen 1
          have v2 := (g9.r1.cell 2).trans rfl
          have z2 := g9.r1.frozen 2
          have G9 := Lib.hid g9; have HRT9 := Lib.hid hrt9
          clear g9 hrt9 hb9
          go_wp2_with fail
          obtain ⟨k0, k1, k2, k3⟩ := G9.out.fin (D := D) (hx := ⟨xA, xc, xB, xd⟩) (x := x) q0 HRT9.out (fun i h _ => by rcases h with (h | h) | h; exact .inl h; exact .inr h.1; exact .inr (by omega)) rfl
          refine bodyPost_ret (v := .tuple #[.agg #[.int .i64 x.state, .int .i64 x.on, .slice xA x.frames.length xc, .slice xB x.stack.length xd, .int .i64 x.code], .agg #[.int .i64 0, .int .i64 0, .int .i64 0]]) (results_cells2 rfl _ _ (w.heap.size + 1 + 1) (w.heap.size + 1 + 1 + 1) 29 37 _ _ (0, 0) (0, 0) _ _ rfl rfl k0 k1 Try.underlying29 rfl (by kernel_rfl) Try.underlying37 rfl (by kernel_rfl)) rfl ?_
          exact ⟨⟨xA, xc, xB, xd⟩, rfl, k2, k3⟩
        · have hkk : kk = 1 := by have h := HND.out; simp [needsV] at h; omega
          subst hkk
          have hJ : RJ w wk D jb (.slice lA 1 lc) hu (popT u0) := HJ8.out
          have HJ := Lib.hid hJ
          have hl : wk.ownsRow (ib + 1) 3 1 (.slice lA 1 lc) 1 (IS [topT u0]) := HL8.out
          obtain ⟨lb, lcap, hv, hlbb, hlbz⟩ := hl.form (by omega)
          injection hv with hv1 _ hv2
          subst hv1 hv2
          have l0 : wk.cell? ⟨lb, 0, none⟩ = some (.int .i64 (topT u0)) := (hl.cellAt 0 (by omega)).trans rfl
          have HL := Lib.hid hl
          clear hl hlbb hlbz
          have b5 := HJ.out.bx.lt
          have b0 := (hJ.bx.cell 0).trans rfl
          have b1 := (hJ.bx.cell 1).trans rfl
          have b2 := (hJ.bx.cell 2).trans rfl
          have b3 := (hJ.bx.cell 3).trans rfl
          have b4 := (hJ.bx.cell 4).trans rfl
          have i1 := (HR8.out.ibk.cell 1).trans rfl
          have i0 := (HR8.out.ibk.cell 0).trans rfl
          have r0 := (HR8.out.r0.cell 0).trans rfl
          have y0 := HR8.out.r0.frozen 0
          have r1 := (HR8.out.r0.cell 1).trans rfl
          have y1 := HR8.out.r0.frozen 1
          have r2 := (HR8.out.r0.cell 2).trans rfl
          have y2 := HR8.out.r0.frozen 2
          have r3 := (HR8.out.r0.cell 3).trans rfl
          have y3 := HR8.out.r0.frozen 3
          have r4 := (HR8.out.r0.cell 4).trans rfl
          have y4 := HR8.out.r0.frozen 4
          have v0 := (HR8.out.r1.cell 0).trans rfl
          have z0 := HR8.out.r1.frozen 0
          have v1 := (HR8.out.r1.cell 1).trans rfl
          have z1 := HR8.out.r1.frozen 1
          have v2 := (HR8.out.r1.cell 2).trans rfl
          have z2 := HR8.out.r1.frozen 2
          have n0 : jb ≠ w.heap.size + 1 + 1 := by omega
          have n1 : jb ≠ w.heap.size + 1 + 1 + 1 := by omega
          have n2 := Ne.symm n0
          have n3 := Ne.symm n1
          have n4 : ib ≠ w.heap.size + 1 + 1 := by omega
          have n5 : ib ≠ w.heap.size + 1 + 1 + 1 := by omega
          have n6 := Ne.symm n4
          have n7 := Ne.symm n5
          have n8 : w.heap.size + 1 + 1 ≠ w.heap.size + 1 + 1 + 1 := by omega
          have n9 := Ne.symm n8
          clear hJ
          have o0 : lb ≠ w.heap.size + 1 + 1 := by have := (HL.out.lt lb rfl).1; omega
          have o1 : lb ≠ w.heap.size + 1 + 1 + 1 := by have := (HL.out.lt lb rfl).1; omega
          have o2 := Ne.symm o0
          have o3 := Ne.symm o1
          have hv := HSV.out
          have hne : ¬ u0.stack = [] := fun e => by have h := HUST.out; rw [e] at h; rw [← h] at hun; simp at hun
          rw [show deedV p u0 ⟨8, a⟩ = popV u0 (fun t v => (if v = 0 then jumpT t a else t, q0)) from rfl, popV, if_neg hne] at hv
          injection hv with hv1 hv2
          subst hv2
          clear hne
          by_cases hz : topT u0 = 0
          · rw [if_pos hz] at hv1
            have l00 : wk.cell? ⟨lb, 0, none⟩ = some (.int .i64 0) := by rw [← hz]; exact l0
            clear l0
            have hpu := refJump_all hu (popT u0) a wk _ HJ.out.rt HJ.out.len HDOK.out.fr.1 (by have := HDOK.out.fr.2; show u0.frames.length ≤ _; omega) x hv1
            have HPU := Lib.hid hpu
            clear hpu hv1 hz
            go_upto_region 37 with fail
            go_wp2_with fail
            refine HPU.out.mono ?_
            rintro e w9 ⟨⟨xA, xc, xB, xd⟩, rfl, hrt9, hb9⟩
            try simp only at hrt9
            have g9 := HR8.out.below hb9
            have hzk := HR8.out.ibk.lt
            clear r0 r1 r2 r3 r4 y0 y1 y2 y3 y4 v0 v1 v2 z0 z1 z2
            have r0 := (g9.r0.cell 0).trans rfl
            have y0 := g9.r0.frozen 0
            have r1 := (g9.r0.cell 1).trans rfl
            have y1 := g9.r0.frozen 1
            have r2 := (g9.r0.cell 2).trans rfl
            have y2 := g9.r0.frozen 2
            have r3 := (g9.r0.cell 3).trans rfl
            have y3 := g9.r0.frozen 3
            have r4 := (g9.r0.cell 4).trans rfl
            have y4 := g9.r0.frozen 4
            have v0 := (g9.r1.cell 0).trans rfl
            have z0 := g9.r1.frozen 0
            have v1 := (g9.r1.cell 1).trans rfl
            have z1 := g9.r1.frozen 1
            have v2 := (g9.r1.cell 2).trans rfl
            have z2 := g9.r1.frozen 2
            have G9 := Lib.hid g9; have HRT9 := Lib.hid hrt9
            clear g9 hrt9 hb9
            go_wp2_with fail
            obtain ⟨k0, k1, k2, k3⟩ := G9.out.fin (D := D) (hx := ⟨xA, xc, xB, xd⟩) (x := x) q0 HRT9.out (fun i h _ => by rcases h with (h | h) | h; exact .inl h; exact .inr h.1; exact .inr (by omega)) rfl
            refine bodyPost_ret (v := .tuple #[.agg #[.int .i64 x.state, .int .i64 x.on, .slice xA x.frames.length xc, .slice xB x.stack.length xd, .int .i64 x.code], .agg #[.int .i64 0, .int .i64 0, .int .i64 0]]) (results_cells2 rfl _ _ (w.heap.size + 1 + 1) (w.heap.size + 1 + 1 + 1) 29 37 _ _ (0, 0) (0, 0) _ _ rfl rfl k0 k1 Try.underlying29 rfl (by kernel_rfl) Try.underlying37 rfl (by kernel_rfl)) rfl ?_
            exact ⟨⟨xA, xc, xB, xd⟩, rfl, k2, k3⟩
          · rw [if_neg hz] at hv1
            subst hv1
            have l00 : wk.cell? ⟨lb, 0, none⟩ = some (.int .i64 (topT u0)) := l0
            clear l0
            generalize topT u0 = tv at *
            have hz2 : (tv == 0) = false := by simpa using hz
            go_upto_region 50 with fail
            go_wp2_with fail
            obtain ⟨k0, k1, k2, k3⟩ := HR8.out.fin (D := D) (hx := hu) (x := (popT u0)) q0 HJ.out.rt (fun i h _ => by rcases h with h | h; exact .inl h; exact .inr h.1) rfl
            refine bodyPost_ret (v := .tuple #[.agg #[.int .i64 (popT u0).state, .int .i64 (popT u0).on, .slice hu.fA (popT u0).frames.length hu.fc, .slice hu.sA (popT u0).stack.length hu.sc, .int .i64 (popT u0).code], .agg #[.int .i64 0, .int .i64 0, .int .i64 0]]) (results_cells2 rfl _ _ (w.heap.size + 1 + 1) (w.heap.size + 1 + 1 + 1) 29 37 _ _ (0, 0) (0, 0) _ _ rfl rfl k0 k1 Try.underlying29 rfl (by kernel_rfl) Try.underlying37 rfl (by kernel_rfl)) rfl ?_
            exact ⟨hu, rfl, k2, k3⟩
        · have hkk : kk = 0 := by have h := HND.out; simp [needsV] at h; omega
          subst hkk
          have hJ : RJ w wk D jb (.slice lA 0 lc) hu u0 := HJ8.out
          have HJ := Lib.hid hJ
          have b5 := HJ.out.bx.lt
          have b0 := (hJ.bx.cell 0).trans rfl
          have b1 := (hJ.bx.cell 1).trans rfl
          have b2 := (hJ.bx.cell 2).trans rfl
          have b3 := (hJ.bx.cell 3).trans rfl
          have b4 := (hJ.bx.cell 4).trans rfl
          have i1 := (HR8.out.ibk.cell 1).trans rfl
          have i0 := (HR8.out.ibk.cell 0).trans rfl
          have r0 := (HR8.out.r0.cell 0).trans rfl
          have y0 := HR8.out.r0.frozen 0
          have r1 := (HR8.out.r0.cell 1).trans rfl
          have y1 := HR8.out.r0.frozen 1
          have r2 := (HR8.out.r0.cell 2).trans rfl
          have y2 := HR8.out.r0.frozen 2
          have r3 := (HR8.out.r0.cell 3).trans rfl
          have y3 := HR8.out.r0.frozen 3
          have r4 := (HR8.out.r0.cell 4).trans rfl
          have y4 := HR8.out.r0.frozen 4
          have v0 := (HR8.out.r1.cell 0).trans rfl
          have z0 := HR8.out.r1.frozen 0
          have v1 := (HR8.out.r1.cell 1).trans rfl
          have z1 := HR8.out.r1.frozen 1
          have v2 := (HR8.out.r1.cell 2).trans rfl
          have z2 := HR8.out.r1.frozen 2
          have n0 : jb ≠ w.heap.size + 1 + 1 := by omega
          have n1 : jb ≠ w.heap.size + 1 + 1 + 1 := by omega
          have n2 := Ne.symm n0
          have n3 := Ne.symm n1
          have n4 : ib ≠ w.heap.size + 1 + 1 := by omega
          have n5 : ib ≠ w.heap.size + 1 + 1 + 1 := by omega
          have n6 := Ne.symm n4
          have n7 := Ne.symm n5
          have n8 : w.heap.size + 1 + 1 ≠ w.heap.size + 1 + 1 + 1 := by omega
          have n9 := Ne.symm n8
          clear hJ
          obtain ⟨fa, hfa⟩ := Int.eq_ofNat_of_zero_le (HDOK.out.call rfl).1
          have hfl := (HDOK.out.call rfl).2
          simp only at hfa hfl
          subst hfa
          have hfl2 : fa < p.funcs.length := by omega
          have hen := refEnter_all h p hu u0 fa wk B _ (HRPX.out wk HR8.out.bel) (Nat.le_trans HBW9.out HR8.out.bel.size) HDOK.out.few HDOK.out.pl HJ.out.rt HJ.out.len hfl2 (if u0.frames.length < 8 then enterT p u0 fa else u0) rfl
          have p0 := (HR8.out.pb.cell 0).trans rfl
          have p1 := (HR8.out.pb.cell 1).trans rfl
          have p2 := (HR8.out.pb.cell 2).trans rfl
          have p3 := (HR8.out.pb.cell 3).trans rfl
          have p4 := (HR8.out.pb.cell 4).trans rfl
          have p5 := (HR8.out.pb.cell 5).trans rfl
          have p6 := (HR8.out.pb.cell 6).trans rfl
          have hv := HSV.out
          rw [show deedV p u0 ⟨9, (fa : Int)⟩ = (if u0.frames.length < 8 then (enterT p u0 (fa : Int), q0) else endV 3) from rfl] at hv
          by_cases hlt : u0.frames.length < 8
          · rw [if_pos hlt] at hv
            injection hv with hv1 hv2
            subst hv2
            rw [if_pos hlt] at hen
            rw [decide_eq_true hlt] at hen
            rw [← hv1] at hen
            have HEN := Lib.hid hen
            clear hen hlt hv1
            go_upto_region 39 with fail
            go_wp2_with fail
            refine HEN.out.mono ?_
            rintro e w9 ⟨⟨xA, xc, xB, xd⟩, rfl, hrt9, hb9⟩
            try simp only at hrt9
            obtain ⟨mb, hmb⟩ : ∃ b, b = w9.heap.size := ⟨_, rfl⟩
            obtain ⟨W9, hW9⟩ : ∃ W, W = w9.alloc (.cells #[.int .i64 x.state, .int .i64 x.on, .slice xA x.frames.length xc, .slice xB x.stack.length xd, .int .i64 x.code] 29) := ⟨_, rfl⟩
            have ha9 : Below w9.heap.size w9 W9 := by rw [hW9]; exact (Below.refl _ _).alloc (Nat.le_refl _) _
            have hb99 : Below wk.heap.size wk W9 := hb9.trans (ha9.mono hb9.size)
            have hmk : Blk W9 mb 29 #[.int .i64 x.state, .int .i64 x.on, .slice xA x.frames.length xc, .slice xB x.stack.length xd, .int .i64 x.code] := by rw [hW9, hmb]; exact Blk.new _ _ _
            have hr99 := hrt9.below ha9
            have g9 := HR8.out.below hb99
            have hzk := HR8.out.ibk.lt
            have hmz : wk.heap.size ≤ mb := by rw [hmb]; exact hb9.size
            have HW9 := Lib.hid hW9; have HMB := Lib.hid hmb; have HMK := Lib.hid hmk; have HRT9 := Lib.hid hr99; have G9 := Lib.hid g9; have HB99 := Lib.hid hb99
            clear hW9 hmb hmk hr99 g9 hb99 ha9 hrt9 hb9 b0 b1 b2 b3 b4 b5 p0 p1 p2 p3 p4 p5 p6
            go_upto_region 42 with fail
            rw [← HW9.out, ← HMB.out]
            clear HW9 HMB
            clear r0 r1 r2 r3 r4 y0 y1 y2 y3 y4 v0 v1 v2 z0 z1 z2
            have r0 := (G9.out.r0.cell 0).trans rfl
            have y0 := G9.out.r0.frozen 0
            have r1 := (G9.out.r0.cell 1).trans rfl
            have y1 := G9.out.r0.frozen 1
            have r2 := (G9.out.r0.cell 2).trans rfl
            have y2 := G9.out.r0.frozen 2
            have r3 := (G9.out.r0.cell 3).trans rfl
            have y3 := G9.out.r0.frozen 3
            have r4 := (G9.out.r0.cell 4).trans rfl
            have y4 := G9.out.r0.frozen 4
            have v0 := (G9.out.r1.cell 0).trans rfl
            have z0 := G9.out.r1.frozen 0
            have v1 := (G9.out.r1.cell 1).trans rfl
            have z1 := G9.out.r1.frozen 1
            have v2 := (G9.out.r1.cell 2).trans rfl
            have z2 := G9.out.r1.frozen 2
            have m0 := (HMK.out.cell 0).trans rfl
            have m1 := (HMK.out.cell 1).trans rfl
            have m2 := (HMK.out.cell 2).trans rfl
            have m3 := (HMK.out.cell 3).trans rfl
            have m4 := (HMK.out.cell 4).trans rfl
            have e0 : mb ≠ w.heap.size + 1 + 1 := by omega
            have e1 : mb ≠ w.heap.size + 1 + 1 + 1 := by omega
            have e2 := Ne.symm e0
            have e3 := Ne.symm e1
            go_wp2_with fail
            obtain ⟨k0, k1, k2, k3⟩ := G9.out.fin (D := D) (hx := ⟨xA, xc, xB, xd⟩) (x := x) q0 HRT9.out (fun i h _ => by rcases h with (h | h) | h; exact .inl h; exact .inr h.1; exact .inr (by omega)) rfl
            refine bodyPost_ret (v := .tuple #[.agg #[.int .i64 x.state, .int .i64 x.on, .slice xA x.frames.length xc, .slice xB x.stack.length xd, .int .i64 x.code], .agg #[.int .i64 0, .int .i64 0, .int .i64 0]]) (results_cells2 rfl _ _ (w.heap.size + 1 + 1) (w.heap.size + 1 + 1 + 1) 29 37 _ _ (0, 0) (0, 0) _ _ rfl rfl k0 k1 Try.underlying29 rfl (by kernel_rfl) Try.underlying37 rfl (by kernel_rfl)) rfl ?_
            exact ⟨⟨xA, xc, xB, xd⟩, rfl, k2, k3⟩
          · rw [if_neg hlt] at hv
            injection hv with hv1 hv2
            subst hv1 hv2
            rw [if_neg hlt] at hen
            rw [decide_eq_false hlt] at hen
            have HEN := Lib.hid hen
            clear hen hlt
            go_upto_region 39 with fail
            go_wp2_with fail
            refine HEN.out.mono ?_
            rintro e w9 ⟨⟨xA, xc, xB, xd⟩, rfl, hrt9, hb9⟩
            try simp only at hrt9
            obtain ⟨mb, hmb⟩ : ∃ b, b = w9.heap.size := ⟨_, rfl⟩
            obtain ⟨W9, hW9⟩ : ∃ W, W = w9.alloc (.cells #[.int .i64 u0.state, .int .i64 u0.on, .slice xA u0.frames.length xc, .slice xB u0.stack.length xd, .int .i64 u0.code] 29) := ⟨_, rfl⟩
            have ha9 : Below w9.heap.size w9 W9 := by rw [hW9]; exact (Below.refl _ _).alloc (Nat.le_refl _) _
            have hb99 : Below wk.heap.size wk W9 := hb9.trans (ha9.mono hb9.size)
            have hmk : Blk W9 mb 29 #[.int .i64 u0.state, .int .i64 u0.on, .slice xA u0.frames.length xc, .slice xB u0.stack.length xd, .int .i64 u0.code] := by rw [hW9, hmb]; exact Blk.new _ _ _
            have hr99 := hrt9.below ha9
            have g9 := HR8.out.below hb99
            have hzk := HR8.out.ibk.lt
            have hmz : wk.heap.size ≤ mb := by rw [hmb]; exact hb9.size
            have HW9 := Lib.hid hW9; have HMB := Lib.hid hmb; have HMK := Lib.hid hmk; have HRT9 := Lib.hid hr99; have G9 := Lib.hid g9; have HB99 := Lib.hid hb99
            clear hW9 hmb hmk hr99 g9 hb99 ha9 hrt9 hb9 b0 b1 b2 b3 b4 b5 p0 p1 p2 p3 p4 p5 p6
            go_upto_region 41 with fail
            rw [← HW9.out]
            clear HW9 HMB
            go_wp2_with fail
            refine (refEnds_any 3 _).mono ?_
            rintro e w10 ⟨rfl, hb10⟩
            have g10 := G9.out.below hb10
            clear r0 r1 r2 r3 r4 y0 y1 y2 y3 y4 v0 v1 v2 z0 z1 z2
            have r0 := (g10.r0.cell 0).trans rfl
            have y0 := g10.r0.frozen 0
            have r1 := (g10.r0.cell 1).trans rfl
            have y1 := g10.r0.frozen 1
            have r2 := (g10.r0.cell 2).trans rfl
            have y2 := g10.r0.frozen 2
            have r3 := (g10.r0.cell 3).trans rfl
            have y3 := g10.r0.frozen 3
            have r4 := (g10.r0.cell 4).trans rfl
            have y4 := g10.r0.frozen 4
            have v0 := (g10.r1.cell 0).trans rfl
            have z0 := g10.r1.frozen 0
            have v1 := (g10.r1.cell 1).trans rfl
            have z1 := g10.r1.frozen 1
            have v2 := (g10.r1.cell 2).trans rfl
            have z2 := g10.r1.frozen 2
            have G10 := Lib.hid g10
            clear g10 hb10
            go_wp2_with fail
            obtain ⟨k0, k1, k2, k3⟩ := G10.out.fin (D := D) (hx := ⟨none, 0, none, 0⟩) (x := (deadT 3)) ⟨1, 0, 3⟩ (dead_rt 3 _) (fun i h => absurd h id) rfl
            refine bodyPost_ret (v := .tuple #[.agg #[.int .i64 9, .int .i64 0, .slice none 0 0, .slice none 0 0, .int .i64 3], .agg #[.int .i64 1, .int .i64 0, .int .i64 3]]) (results_cells2 rfl _ _ (w.heap.size + 1 + 1) (w.heap.size + 1 + 1 + 1) 29 37 _ _ (0, 0) (0, 0) _ _ rfl rfl k0 k1 Try.underlying29 rfl (by kernel_rfl) Try.underlying37 rfl (by kernel_rfl)) rfl ?_
            exact ⟨⟨none, 0, none, 0⟩, rfl, k2, k3⟩
        · have hkk : kk = 0 := by have h := HND.out; simp [needsV] at h; omega
          subst hkk
          have hJ : RJ w wk D jb (.slice lA 0 lc) hu u0 := HJ8.out
          have HJ := Lib.hid hJ
          have b5 := HJ.out.bx.lt
          have b0 := (hJ.bx.cell 0).trans rfl
          have b1 := (hJ.bx.cell 1).trans rfl
          have b2 := (hJ.bx.cell 2).trans rfl
          have b3 := (hJ.bx.cell 3).trans rfl
          have b4 := (hJ.bx.cell 4).trans rfl
          have i1 := (HR8.out.ibk.cell 1).trans rfl
          have i0 := (HR8.out.ibk.cell 0).trans rfl
          have r0 := (HR8.out.r0.cell 0).trans rfl
          have y0 := HR8.out.r0.frozen 0
          have r1 := (HR8.out.r0.cell 1).trans rfl
          have y1 := HR8.out.r0.frozen 1
          have r2 := (HR8.out.r0.cell 2).trans rfl
          have y2 := HR8.out.r0.frozen 2
          have r3 := (HR8.out.r0.cell 3).trans rfl
          have y3 := HR8.out.r0.frozen 3
          have r4 := (HR8.out.r0.cell 4).trans rfl
          have y4 := HR8.out.r0.frozen 4
          have v0 := (HR8.out.r1.cell 0).trans rfl
          have z0 := HR8.out.r1.frozen 0
          have v1 := (HR8.out.r1.cell 1).trans rfl
          have z1 := HR8.out.r1.frozen 1
          have v2 := (HR8.out.r1.cell 2).trans rfl
          have z2 := HR8.out.r1.frozen 2
          have n0 : jb ≠ w.heap.size + 1 + 1 := by omega
          have n1 : jb ≠ w.heap.size + 1 + 1 + 1 := by omega
          have n2 := Ne.symm n0
          have n3 := Ne.symm n1
          have n4 : ib ≠ w.heap.size + 1 + 1 := by omega
          have n5 : ib ≠ w.heap.size + 1 + 1 + 1 := by omega
          have n6 := Ne.symm n4
          have n7 := Ne.symm n5
          have n8 : w.heap.size + 1 + 1 ≠ w.heap.size + 1 + 1 + 1 := by omega
          have n9 := Ne.symm n8
          clear hJ
          have hen := refLeave_all hu u0 wk _ HJ.out.rt HJ.out.len HDOK.out.fr.1 (by have := HDOK.out.fr.2; omega) (leaveT u0) rfl
          have hv := HSV.out
          rw [show deedV p u0 ⟨10, a⟩ = (if 1 < u0.frames.length then (leaveT u0, q0) else endV 0) from rfl] at hv
          by_cases hlt : 1 < u0.frames.length
          · rw [if_pos hlt] at hv
            injection hv with hv1 hv2
            subst hv2
            rw [decide_eq_true hlt] at hen
            rw [← hv1] at hen
            have HEN := Lib.hid hen
            clear hen hlt hv1
            go_upto_region 44 with fail
            go_wp2_with fail
            refine HEN.out.mono ?_
            rintro e w9 ⟨⟨xA, xc, xB, xd⟩, rfl, hrt9, hb9⟩
            try simp only at hrt9
            obtain ⟨mb, hmb⟩ : ∃ b, b = w9.heap.size := ⟨_, rfl⟩
            obtain ⟨W9, hW9⟩ : ∃ W, W = w9.alloc (.cells #[.int .i64 x.state, .int .i64 x.on, .slice xA x.frames.length xc, .slice xB x.stack.length xd, .int .i64 x.code] 29) := ⟨_, rfl⟩
            have ha9 : Below w9.heap.size w9 W9 := by rw [hW9]; exact (Below.refl _ _).alloc (Nat.le_refl _) _
            have hb99 : Below wk.heap.size wk W9 := hb9.trans (ha9.mono hb9.size)
            have hmk : Blk W9 mb 29 #[.int .i64 x.state, .int .i64 x.on, .slice xA x.frames.length xc, .slice xB x.stack.length xd, .int .i64 x.code] := by rw [hW9, hmb]; exact Blk.new _ _ _
            have hr99 := hrt9.below ha9
            have g9 := HR8.out.below hb99
            have hzk := HR8.out.ibk.lt
            have hmz : wk.heap.size ≤ mb := by rw [hmb]; exact hb9.size
            have HW9 := Lib.hid hW9; have HMB := Lib.hid hmb; have HMK := Lib.hid hmk; have HRT9 := Lib.hid hr99; have G9 := Lib.hid g9; have HB99 := Lib.hid hb99
            clear hW9 hmb hmk hr99 g9 hb99 ha9 hrt9 hb9 b0 b1 b2 b3 b4 b5
            go_upto_region 47 with fail
            rw [← HW9.out, ← HMB.out]
            clear HW9 HMB
            clear r0 r1 r2 r3 r4 y0 y1 y2 y3 y4 v0 v1 v2 z0 z1 z2
            have r0 := (G9.out.r0.cell 0).trans rfl
            have y0 := G9.out.r0.frozen 0
            have r1 := (G9.out.r0.cell 1).trans rfl
            have y1 := G9.out.r0.frozen 1
            have r2 := (G9.out.r0.cell 2).trans rfl
            have y2 := G9.out.r0.frozen 2
            have r3 := (G9.out.r0.cell 3).trans rfl
            have y3 := G9.out.r0.frozen 3
            have r4 := (G9.out.r0.cell 4).trans rfl
            have y4 := G9.out.r0.frozen 4
            have v0 := (G9.out.r1.cell 0).trans rfl
            have z0 := G9.out.r1.frozen 0
            have v1 := (G9.out.r1.cell 1).trans rfl
            have z1 := G9.out.r1.frozen 1
            have v2 := (G9.out.r1.cell 2).trans rfl
            have z2 := G9.out.r1.frozen 2
            have m0 := (HMK.out.cell 0).trans rfl
            have m1 := (HMK.out.cell 1).trans rfl
            have m2 := (HMK.out.cell 2).trans rfl
            have m3 := (HMK.out.cell 3).trans rfl
            have m4 := (HMK.out.cell 4).trans rfl
            have e0 : mb ≠ w.heap.size + 1 + 1 := by omega
            have e1 : mb ≠ w.heap.size + 1 + 1 + 1 := by omega
            have e2 := Ne.symm e0
            have e3 := Ne.symm e1
            go_wp2_with fail
            obtain ⟨k0, k1, k2, k3⟩ := G9.out.fin (D := D) (hx := ⟨xA, xc, xB, xd⟩) (x := x) q0 HRT9.out (fun i h _ => by rcases h with (h | h) | h; exact .inl h; exact .inr h.1; exact .inr (by omega)) rfl
            refine bodyPost_ret (v := .tuple #[.agg #[.int .i64 x.state, .int .i64 x.on, .slice xA x.frames.length xc, .slice xB x.stack.length xd, .int .i64 x.code], .agg #[.int .i64 0, .int .i64 0, .int .i64 0]]) (results_cells2 rfl _ _ (w.heap.size + 1 + 1) (w.heap.size + 1 + 1 + 1) 29 37 _ _ (0, 0) (0, 0) _ _ rfl rfl k0 k1 Try.underlying29 rfl (by kernel_rfl) Try.underlying37 rfl (by kernel_rfl)) rfl ?_
            exact ⟨⟨xA, xc, xB, xd⟩, rfl, k2, k3⟩
          · rw [if_neg hlt] at hv
            injection hv with hv1 hv2
            subst hv1 hv2
            rw [decide_eq_false hlt] at hen
            have HEN := Lib.hid hen
            clear hen hlt
            go_upto_region 44 with fail
            go_wp2_with fail
            refine HEN.out.mono ?_
            rintro e w9 ⟨⟨xA, xc, xB, xd⟩, rfl, hrt9, hb9⟩
            try simp only at hrt9
            obtain ⟨mb, hmb⟩ : ∃ b, b = w9.heap.size := ⟨_, rfl⟩
            obtain ⟨W9, hW9⟩ : ∃ W, W = w9.alloc (.cells #[.int .i64 (leaveT u0).state, .int .i64 (leaveT u0).on, .slice xA (leaveT u0).frames.length xc, .slice xB (leaveT u0).stack.length xd, .int .i64 (leaveT u0).code] 29) := ⟨_, rfl⟩
            have ha9 : Below w9.heap.size w9 W9 := by rw [hW9]; exact (Below.refl _ _).alloc (Nat.le_refl _) _
            have hb99 : Below wk.heap.size wk W9 := hb9.trans (ha9.mono hb9.size)
            have hmk : Blk W9 mb 29 #[.int .i64 (leaveT u0).state, .int .i64 (leaveT u0).on, .slice xA (leaveT u0).frames.length xc, .slice xB (leaveT u0).stack.length xd, .int .i64 (leaveT u0).code] := by rw [hW9, hmb]; exact Blk.new _ _ _
            have hr99 := hrt9.below ha9
            have g9 := HR8.out.below hb99
            have hzk := HR8.out.ibk.lt
            have hmz : wk.heap.size ≤ mb := by rw [hmb]; exact hb9.size
            have HW9 := Lib.hid hW9; have HMB := Lib.hid hmb; have HMK := Lib.hid hmk; have HRT9 := Lib.hid hr99; have G9 := Lib.hid g9; have HB99 := Lib.hid hb99
            clear hW9 hmb hmk hr99 g9 hb99 ha9 hrt9 hb9 b0 b1 b2 b3 b4 b5
            go_upto_region 46 with fail
            rw [← HW9.out]
            clear HW9 HMB
            go_wp2_with fail
            refine (refEnds_any 0 _).mono ?_
            rintro e w10 ⟨rfl, hb10⟩
            have g10 := G9.out.below hb10
            clear r0 r1 r2 r3 r4 y0 y1 y2 y3 y4 v0 v1 v2 z0 z1 z2
            have r0 := (g10.r0.cell 0).trans rfl
            have y0 := g10.r0.frozen 0
            have r1 := (g10.r0.cell 1).trans rfl
            have y1 := g10.r0.frozen 1
            have r2 := (g10.r0.cell 2).trans rfl
            have y2 := g10.r0.frozen 2
            have r3 := (g10.r0.cell 3).trans rfl
            have y3 := g10.r0.frozen 3
            have r4 := (g10.r0.cell 4).trans rfl
            have y4 := g10.r0.frozen 4
            have v0 := (g10.r1.cell 0).trans rfl
            have z0 := g10.r1.frozen 0
            have v1 := (g10.r1.cell 1).trans rfl
            have z1 := g10.r1.frozen 1
            have v2 := (g10.r1.cell 2).trans rfl
            have z2 := g10.r1.frozen 2
            have G10 := Lib.hid g10
            clear g10 hb10
            go_wp2_with fail
            obtain ⟨k0, k1, k2, k3⟩ := G10.out.fin (D := D) (hx := ⟨none, 0, none, 0⟩) (x := (deadT 0)) ⟨1, 0, 0⟩ (dead_rt 0 _) (fun i h => absurd h id) rfl
            refine bodyPost_ret (v := .tuple #[.agg #[.int .i64 9, .int .i64 0, .slice none 0 0, .slice none 0 0, .int .i64 0], .agg #[.int .i64 1, .int .i64 0, .int .i64 0]]) (results_cells2 rfl _ _ (w.heap.size + 1 + 1) (w.heap.size + 1 + 1 + 1) 29 37 _ _ (0, 0) (0, 0) _ _ rfl rfl k0 k1 Try.underlying29 rfl (by kernel_rfl) Try.underlying37 rfl (by kernel_rfl)) rfl ?_
            exact ⟨⟨none, 0, none, 0⟩, rfl, k2, k3⟩
        · have hkk : kk = 0 := by have h := HND.out; simp [needsV] at h; omega
          subst hkk
          have hJ : RJ w wk D jb (.slice lA 0 lc) hu u0 := HJ8.out
          have HJ := Lib.hid hJ
          have b5 := HJ.out.bx.lt
          have b0 := (hJ.bx.cell 0).trans rfl
          have b1 := (hJ.bx.cell 1).trans rfl
          have b2 := (hJ.bx.cell 2).trans rfl
          have b3 := (hJ.bx.cell 3).trans rfl
          have b4 := (hJ.bx.cell 4).trans rfl
          have i1 := (HR8.out.ibk.cell 1).trans rfl
          have i0 := (HR8.out.ibk.cell 0).trans rfl
          have r0 := (HR8.out.r0.cell 0).trans rfl
          have y0 := HR8.out.r0.frozen 0
          have r1 := (HR8.out.r0.cell 1).trans rfl
          have y1 := HR8.out.r0.frozen 1
          have r2 := (HR8.out.r0.cell 2).trans rfl
          have y2 := HR8.out.r0.frozen 2
          have r3 := (HR8.out.r0.cell 3).trans rfl
          have y3 := HR8.out.r0.frozen 3
          have r4 := (HR8.out.r0.cell 4).trans rfl
          have y4 := HR8.out.r0.frozen 4
          have v0 := (HR8.out.r1.cell 0).trans rfl
          have z0 := HR8.out.r1.frozen 0
          have v1 := (HR8.out.r1.cell 1).trans rfl
          have z1 := HR8.out.r1.frozen 1
          have v2 := (HR8.out.r1.cell 2).trans rfl
          have z2 := HR8.out.r1.frozen 2
          have n0 : jb ≠ w.heap.size + 1 + 1 := by omega
          have n1 : jb ≠ w.heap.size + 1 + 1 + 1 := by omega
          have n2 := Ne.symm n0
          have n3 := Ne.symm n1
          have n4 : ib ≠ w.heap.size + 1 + 1 := by omega
          have n5 : ib ≠ w.heap.size + 1 + 1 + 1 := by omega
          have n6 := Ne.symm n4
          have n7 := Ne.symm n5
          have n8 : w.heap.size + 1 + 1 ≠ w.heap.size + 1 + 1 + 1 := by omega
          have n9 := Ne.symm n8
          clear hJ
          have hv := HSV.out
          rw [show deedV p u0 ⟨26, a⟩ = endV 0 from rfl] at hv
          injection hv with hv1 hv2
          subst hv1 hv2
          go_upto_region 49 with fail
          go_wp2_with fail
          refine (refEnds_any 0 _).mono ?_
          rintro e w9 ⟨rfl, hb9⟩
          have g9 := HR8.out.below hb9
          clear r0 r1 r2 r3 r4 y0 y1 y2 y3 y4 v0 v1 v2 z0 z1 z2
          have r0 := (g9.r0.cell 0).trans rfl
          have y0 := g9.r0.frozen 0
          have r1 := (g9.r0.cell 1).trans rfl
          have y1 := g9.r0.frozen 1
          have r2 := (g9.r0.cell 2).trans rfl
          have y2 := g9.r0.frozen 2
          have r3 := (g9.r0.cell 3).trans rfl
          have y3 := g9.r0.frozen 3
          have r4 := (g9.r0.cell 4).trans rfl
          have y4 := g9.r0.frozen 4
          have v0 := (g9.r1.cell 0).trans rfl
          have z0 := g9.r1.frozen 0
          have v1 := (g9.r1.cell 1).trans rfl
          have z1 := g9.r1.frozen 1
          have v2 := (g9.r1.cell 2).trans rfl
          have z2 := g9.r1.frozen 2
          have G9 := Lib.hid g9
          clear g9 hb9
          go_wp2_with fail
          obtain ⟨k0, k1, k2, k3⟩ := G9.out.fin (D := D) (hx := ⟨none, 0, none, 0⟩) (x := (deadT 0)) ⟨1, 0, 0⟩ (dead_rt 0 _) (fun i h => absurd h id) rfl
          refine bodyPost_ret (v := .tuple #[.agg #[.int .i64 9, .int .i64 0, .slice none 0 0, .slice none 0 0, .int .i64 0], .agg #[.int .i64 1, .int .i64 0, .int .i64 0]]) (results_cells2 rfl _ _ (w.heap.size + 1 + 1) (w.heap.size + 1 + 1 + 1) 29 37 _ _ (0, 0) (0, 0) _ _ rfl rfl k0 k1 Try.underlying29 rfl (by kernel_rfl) Try.underlying37 rfl (by kernel_rfl)) rfl ?_
          exact ⟨⟨none, 0, none, 0⟩, rfl, k2, k3⟩
end
end Go.Proofs.Ytkciedcfphhenaa
