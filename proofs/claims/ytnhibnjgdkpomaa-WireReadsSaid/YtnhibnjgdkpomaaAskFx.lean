/-
  What a Reader and the document's reader are asked alike: a fixed number.
-/
import Derived.Test.YtnhibnjgdkpomaaAsk
import Derived.Deep.DeepCutAuto
namespace Go.Proofs.Ytnhibnjgdkpomaa
open Go.RowKit Plain
set_option linter.unusedVariables false
set_option linter.unusedSimpArgs false
attribute [local go_sem ↓] Go.wp_at_zero Go.wp_at_succ

theorem bcell {W w1 : World} (hb : Below W.heap.size W w1) : (∀ b o, b < W.heap.size → w1.cell? ⟨b, o, none⟩ = W.cell? ⟨b, o, none⟩) ∧ (∀ b o, b < W.heap.size → w1.frozen? ⟨b, o, none⟩ = W.frozen? ⟨b, o, none⟩) :=
  ⟨fun b o h => hb.cell (p := ⟨b, o, none⟩) h, fun b o h => hb.frozen (p := ⟨b, o, none⟩) h⟩

theorem blk_new2 (w : World) (o : Obj) (t : TypeId) (cs : Array Value) : Blk ((w.alloc o).alloc (.cells cs t)).drew (w.heap.size + 1) t cs := heap_alloc2_new w o _
theorem blk_new3 (w : World) (o : Obj) (t : TypeId) (cs : Array Value) : Blk ((w.alloc (.cells cs t)).alloc o).drew w.heap.size t cs := ((Blk.new w t cs).alloc o).drew

/-- Behind the document's call: its answer lies in a box of its own. -/
def AskCut (W0 : World) (A : Option Addr) (n c at' : Nat) (e' : Int) (val s8 s9 : Value) (wx : World) : Prop :=
  ∃ bx, s8 = .pointer (some ⟨bx, 0, none⟩) ∧ s9 = val ∧ W0.heap.size ≤ bx ∧ Blk wx bx 34 #[.slice A n c, .int .i64 (at' : Int), .int .i64 e'] ∧ Below W0.heap.size W0 wx

set_option maxRecDepth 100000 in
set_option maxHeartbeats 8000000 in
theorem ask_fixed (bs : List Nat) (n c at_ at' : Nat) (A : Option Addr) (e e' : Int) (pn pv : Int) (ps : ByteArray) (base g : Nat) (v : Value) (w : World) (BB : Nat) (x : Int)
    (hr : Reads w BB 1 A n (BS bs)) (hB : BB ≤ w.heap.size) (hBg : BB ≤ g) (hR : Rd w base g v bs at_ e) (hn1 : -9223372036854775808 ≤ pn) (hn2 : pn ≤ 9223372036854775807)
    (href : RefTells 40 #[.agg #[.slice A n c, .int .i64 (at_ : Int), .int .i64 e], .int .i64 (wideOf pn : Int)] A n c at' e' (.int .u64 x) BB bs)
    (hrd : RdTells 21 #[.int .i64 (wideOf pn : Int)] base g v bs at_ e at' e' (.int .u64 x)) :
    Calls Try.prog 15 #[.pointer (some ⟨g, 0, none⟩), .agg #[.slice A n c, .int .i64 (at_ : Int), .int .i64 e], .agg #[.int .i64 0, .int .i64 pn, .int .i64 pv, .string ps]] w (Asked A n c base g v bs at' e' w) := by
  have HR := Lib.hid hr
  have HRD := Lib.hid hR
  have HREF := Lib.hid href
  have HP := Lib.hid hrd
  have hg := hR.lt
  clear hr hR href hrd
  go_enter Try.func15, Try.ntmps15
  go_upto_region 3 with fail
  obtain ⟨W0, hW0⟩ : ∃ W0, W0 = ((w.alloc (.cells #[.slice A n c, .int .i64 (at_ : Int), .int .i64 e] 34)).alloc (.cells #[.int .i64 0, .int .i64 pn, .int .i64 pv, .string ps] 38)).alloc (.cells #[.slice none 0 0, .int .i64 0, .int .i64 0] 34) := ⟨_, rfl⟩
  have z0 : W0.heap.size = w.heap.size + 3 := by rw [hW0]; simp
  have k0 : Blk W0 w.heap.size 34 #[.slice A n c, .int .i64 (at_ : Int), .int .i64 e] := by rw [hW0]; exact ((Blk.new w _ _).alloc _).alloc _
  have k1 : Blk W0 (w.heap.size + 1) 38 #[.int .i64 0, .int .i64 pn, .int .i64 pv, .string ps] := by
    rw [hW0]
    refine Blk.alloc ?_ _
    have := Blk.new (w.alloc (.cells #[.slice A n c, .int .i64 (at_ : Int), .int .i64 e] 34)) 38 #[.int .i64 0, .int .i64 pn, .int .i64 pv, .string ps]
    simpa using this
  have k2 : Blk W0 (w.heap.size + 2) 34 #[.slice none 0 0, .int .i64 0, .int .i64 0] := by
    rw [hW0]
    have := Blk.new ((w.alloc (.cells #[.slice A n c, .int .i64 (at_ : Int), .int .i64 e] 34)).alloc (.cells #[.int .i64 0, .int .i64 pn, .int .i64 pv, .string ps] 38)) 34 #[.slice none 0 0, .int .i64 0, .int .i64 0]
    simpa using this
  have b0 : Below w.heap.size w W0 := by rw [hW0]; exact (((Below.refl _ w).alloc (Nat.le_refl _) _).alloc (by simp) _).alloc (by simp; omega) _
  have keepS : ∀ W, Below W0.heap.size W0 W → W.cell? ⟨w.heap.size, 0, none⟩ = some (.slice A n c) ∧ W.cell? ⟨w.heap.size, 1, none⟩ = some (.int .i64 (at_ : Int)) ∧ W.cell? ⟨w.heap.size, 2, none⟩ = some (.int .i64 e) ∧ W.cell? ⟨w.heap.size + 1, 1, none⟩ = some (.int .i64 pn) := fun W hb =>
    ⟨by rw [(k0.below hb (by omega)).cell]; rfl, by rw [(k0.below hb (by omega)).cell]; rfl, by rw [(k0.below hb (by omega)).cell]; rfl, by rw [(k1.below hb (by omega)).cell]; rfl⟩
  have hrW : ∀ W, Below W0.heap.size W0 W → Reads W BB 1 A n (BS bs) := fun W hb => ((HR.out.keep fun q hq => b0.cell (by omega)) : Reads W0 BB 1 A n (BS bs)).keep fun q hq => hb.cell (by omega)
  have z0a : w.heap.size + 3 ≤ W0.heap.size := by omega
  have z0b : W0.heap.size ≤ w.heap.size + 3 := by omega
  have KS := Lib.hid keepS; have HRW := Lib.hid hrW; have K2 := Lib.hid k2; have B0 := Lib.hid b0; have K1 := Lib.hid k1
  obtain ⟨s0, s1, s2, s3⟩ := keepS W0 (Below.refl _ _)
  rw [← hW0]
  clear z0 hW0 keepS hrW k0 k1 k2 b0
  go_cut [8, 9] (fun s8 s9 wx => AskCut W0 A n c at' e' (.int .u64 x) s8 s9 wx)
  case first =>
    go_region_held3 (fun w' => w'.cell? ⟨w.heap.size, 0, none⟩ = some (.slice A n c) ∧ w'.cell? ⟨w.heap.size, 1, none⟩ = some (.int .i64 (at_ : Int)) ∧ w'.cell? ⟨w.heap.size, 2, none⟩ = some (.int .i64 e) ∧ w'.cell? ⟨w.heap.size + 1, 1, none⟩ = some (.int .i64 pn))
      (first | (exact KS.out _ (by repeat (first | assumption | exact Below.refl _ _ | refine Below.drew ?_ | refine Below.setCell ?_ (by simp <;> omega) _ | refine Below.alloc ?_ (by have := hbq.size; simp <;> omega) _ | refine Below.alloc ?_ (by simp <;> omega) _))) )
      (first
        | (go_simp; go_at_call 20; refine (wide_any pn _ hn1 hn2).mono ?_; rintro en wb ⟨rfl, rfl⟩)
        | (go_simp; go_at_call 40; refine (HREF.out _ (HRW.out _ (by repeat (first | assumption | exact Below.refl _ _ | refine Below.drew ?_ | refine Below.setCell ?_ (by simp <;> omega) _ | refine Below.alloc ?_ (by simp <;> omega) _))) (by simp <;> omega)).mono ?_; rintro en w1 ⟨rfl, h4⟩
           have hbq : Below W0.heap.size W0 w1 := Below.trans (by repeat (first | exact Below.refl _ _ | refine Below.drew ?_ | refine Below.setCell ?_ (by simp <;> omega) _ | refine Below.alloc ?_ (by simp <;> omega) _)) (h4.mono (by simp <;> omega))
           obtain ⟨hcc, hff⟩ := bcell h4
           have hzz := h4.size
           simp at hzz))
    all_goals
      go_wp2_with fail
      go_meet
      refine ⟨_, rfl, rfl, ?_, ?_, ?_⟩
      · first | exact hbq.size | omega
      · first
          | exact Blk.new w1 _ _
          | simpa using (((Blk.below (blk_new3 W0 _ 34 #[.slice none 0 0, .int .i64 0, .int .i64 0]) h4 (by simp <;> omega)).set_ 0 (.slice A n c)).set_ 1 (.int .i64 (at' : Int))).set_ 2 (.int .i64 e')
          | simpa using (((Blk.below (blk_new2 W0 _ 34 #[.slice none 0 0, .int .i64 0, .int .i64 0]) h4 (by simp <;> omega)).set_ 0 (.slice A n c)).set_ 1 (.int .i64 (at' : Int))).set_ 2 (.int .i64 e')
      · repeat (first | exact hbq | refine Below.drew ?_ | refine Below.setCell ?_ (by simp <;> omega) _ | refine Below.alloc ?_ (by have := hbq.size; omega) _)
  case rest =>
    obtain ⟨bx, rfl, rfl, hbx, hxb, hbw⟩ := hcut
    have hR1 := (HRD.out.below B0.out).below hbw
    have hp1 := K1.out.below hbw (by omega)
    have hr1 := K2.out.below hbw (by omega)
    have zc : w.heap.size + 3 ≤ wc.heap.size := by have := hbw.size; omega
    have x0 : wc.cell? ⟨bx, 0, none⟩ = some (.slice A n c) := by rw [hxb.cell]; rfl
    have x1 : wc.cell? ⟨bx, 1, none⟩ = some (.int .i64 (at' : Int)) := by rw [hxb.cell]; rfl
    have x2 : wc.cell? ⟨bx, 2, none⟩ = some (.int .i64 e') := by rw [hxb.cell]; rfl
    have p1 : wc.cell? ⟨w.heap.size + 1, 1, none⟩ = some (.int .i64 pn) := by rw [hp1.cell]; rfl
    have gx : g ≠ bx := by omega
    have hwc : Below w.heap.size w wc := B0.out.trans (hbw.mono (by omega))
    have KEEP0 : ∀ o, (wc.alloc o).cell? ⟨bx, 0, none⟩ = some (.slice A n c) ∧ (wc.alloc o).cell? ⟨bx, 1, none⟩ = some (.int .i64 (at' : Int)) ∧ (wc.alloc o).cell? ⟨bx, 2, none⟩ = some (.int .i64 e') ∧ (wc.alloc o).cell? ⟨w.heap.size + 1, 1, none⟩ = some (.int .i64 pn) := fun o =>
      ⟨by rw [(hxb.alloc o).cell]; rfl, by rw [(hxb.alloc o).cell]; rfl, by rw [(hxb.alloc o).cell]; rfl, by rw [(hp1.alloc o).cell]; rfl⟩
    have HX1 := Lib.hid hxb; have HRB := Lib.hid hr1; have HPB := Lib.hid hp1; have HR1 := Lib.hid hR1; have HWC := Lib.hid hwc; have HK0 := Lib.hid KEEP0
    clear hxb hr1 hp1 hR1 hwc hbw s0 s1 s2 s3 KEEP0
    go_wp2_with fail
    go_region_held3 (fun w' => w'.cell? ⟨bx, 0, none⟩ = some (.slice A n c) ∧ w'.cell? ⟨bx, 1, none⟩ = some (.int .i64 (at' : Int)) ∧ w'.cell? ⟨bx, 2, none⟩ = some (.int .i64 e') ∧ w'.cell? ⟨w.heap.size + 1, 1, none⟩ = some (.int .i64 pn))
      (first | (exact ⟨x0, x1, x2, p1⟩) | (exact HK0.out _) | (exact KEEP1) | (exact KEEP2 _ _ _) | go_keep)
      (first
        | (go_simp; go_at_call 20; refine (wide_any pn _ hn1 hn2).mono ?_; rintro en wb ⟨rfl, rfl⟩)
        | (go_simp; go_at_call 21; refine (HP.out _ (HR1.out.alloc _).drew).mono ?_; rintro en w2 ⟨rfl, hst⟩
           have hz2 := hst.2.size
           have hx2 := hst.2.blk ((HX1.out.alloc _).drew) (fun h => gx h.symm)
           have hr3 := hst.2.blk ((HRB.out.alloc _).drew) (by omega)
           have hp3 := hst.2.blk ((HPB.out.alloc _).drew) (by omega)
           have KEEP1 : w2.cell? ⟨bx, 0, none⟩ = some (.slice A n c) ∧ w2.cell? ⟨bx, 1, none⟩ = some (.int .i64 (at' : Int)) ∧ w2.cell? ⟨bx, 2, none⟩ = some (.int .i64 e') ∧ w2.cell? ⟨w.heap.size + 1, 1, none⟩ = some (.int .i64 pn) :=
             ⟨by rw [hx2.cell]; rfl, by rw [hx2.cell]; rfl, by rw [hx2.cell]; rfl, by rw [hp3.cell]; rfl⟩
           have KEEP2 : ∀ u0 u1 u2, (((w2.setCell ⟨w.heap.size + 2, 0, none⟩ u0).setCell ⟨w.heap.size + 2, 1, none⟩ u1).setCell ⟨w.heap.size + 2, 2, none⟩ u2).cell? ⟨bx, 0, none⟩ = some (.slice A n c) ∧ (((w2.setCell ⟨w.heap.size + 2, 0, none⟩ u0).setCell ⟨w.heap.size + 2, 1, none⟩ u1).setCell ⟨w.heap.size + 2, 2, none⟩ u2).cell? ⟨bx, 1, none⟩ = some (.int .i64 (at' : Int)) ∧ (((w2.setCell ⟨w.heap.size + 2, 0, none⟩ u0).setCell ⟨w.heap.size + 2, 1, none⟩ u1).setCell ⟨w.heap.size + 2, 2, none⟩ u2).cell? ⟨bx, 2, none⟩ = some (.int .i64 e') ∧ (((w2.setCell ⟨w.heap.size + 2, 0, none⟩ u0).setCell ⟨w.heap.size + 2, 1, none⟩ u1).setCell ⟨w.heap.size + 2, 2, none⟩ u2).cell? ⟨w.heap.size + 1, 1, none⟩ = some (.int .i64 pn) := fun u0 u1 u2 =>
             ⟨(set3_other _ _ _ _ _ _ (by show bx ≠ w.heap.size + 2; omega)).trans KEEP1.1, (set3_other _ _ _ _ _ _ (by show bx ≠ w.heap.size + 2; omega)).trans KEEP1.2.1, (set3_other _ _ _ _ _ _ (by show bx ≠ w.heap.size + 2; omega)).trans KEEP1.2.2.1, (set3_other _ _ _ _ _ _ (by show w.heap.size + 1 ≠ w.heap.size + 2; omega)).trans KEEP1.2.2.2⟩
           have c0 : w2.cell? ⟨w.heap.size + 2, 0, none⟩ = some (.slice none 0 0) := by rw [hr3.cell]; rfl
           have c1 : w2.cell? ⟨w.heap.size + 2, 1, none⟩ = some (.int .i64 0) := by rw [hr3.cell]; rfl
           have c2 : w2.cell? ⟨w.heap.size + 2, 2, none⟩ = some (.int .i64 0) := by rw [hr3.cell]; rfl
           have f0 := hr3.frozen 0
           have f1 := hr3.frozen 1
           have f2 := hr3.frozen 2))
    have HST := Lib.hid hst
    clear hst hx2 hr3 hp3 KEEP1 KEEP2 x0 x1 x2 p1
    go_wp2_with fail
    refine bodyPost_ret (v := .tuple #[.agg #[.slice A n c, .int .i64 (at' : Int), .int .i64 e'], .bool true]) (by simp [results, Try.results15, go_sem, c0, c1, c2]) rfl ⟨rfl, ?_⟩
    exact step_end HRD.out HWC.out (((Fr.refl (fun i => i = g) wc).alloc _).drew) HST.out
end Go.Proofs.Ytnhibnjgdkpomaa
