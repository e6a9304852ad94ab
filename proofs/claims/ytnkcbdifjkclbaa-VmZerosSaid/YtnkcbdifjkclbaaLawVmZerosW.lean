
/-
  The walk of VmZeros.
-/
import Derived.Test.YtnkcbdifjkclbaaRows
import Derived.WalkKit
import Derived.ProofKit
import Derived.OpenShut
import Derived.ShutString
import Derived.ChangeOld
import Derived.Below
import Derived.Test.YtnkcbdifjkclbaaVmRun
namespace Go.Proofs.Ytnkcbdifjkclbaa.vmZeros
open Go.ChangeShapes Go.WideShapes Go.ChangeAt Go.RowKit Go.Proofs.Ytnkcbdifjkclbaa Go.Proofs.Ytnkcbdifjkclbaa.Plain
open Go.ChangeMaps (open_string shut_string)
set_option linter.unusedVariables false


theorem zero_may (a : Int) (ha : keep a = a) : mayB (p4 ⟨0, a⟩ ⟨8, 3⟩ ⟨12, 0⟩ ⟨26, 0⟩) = true := by
  have h := instr_push (p4 ⟨0, a⟩ ⟨8, 3⟩ ⟨12, 0⟩ ⟨26, 0⟩) ⟨0, [⟨0, a⟩, ⟨8, 3⟩, ⟨12, 0⟩, ⟨26, 0⟩]⟩ a ha
  have h1 : instrB (p4 ⟨0, a⟩ ⟨8, 3⟩ ⟨12, 0⟩ ⟨26, 0⟩) ⟨0, [⟨0, a⟩, ⟨8, 3⟩, ⟨12, 0⟩, ⟨26, 0⟩]⟩ ⟨8, 3⟩ = true := rfl
  have h2 : instrB (p4 ⟨0, a⟩ ⟨8, 3⟩ ⟨12, 0⟩ ⟨26, 0⟩) ⟨0, [⟨0, a⟩, ⟨8, 3⟩, ⟨12, 0⟩, ⟨26, 0⟩]⟩ ⟨12, 0⟩ = true := rfl
  have h3 : instrB (p4 ⟨0, a⟩ ⟨8, 3⟩ ⟨12, 0⟩ ⟨26, 0⟩) ⟨0, [⟨0, a⟩, ⟨8, 3⟩, ⟨12, 0⟩, ⟨26, 0⟩]⟩ ⟨26, 0⟩ = true := rfl
  simp [mayB, headB, funcB, p4] at *
  exact ⟨⟨⟨rfl, rfl⟩, rfl⟩, h, h1, h2, h3⟩
theorem one_few (i0 i1 i2 i3 : IV) : (p4 i0 i1 i2 i3).funcs.length ≤ 9223372036854775807 := by simp [p4]
theorem one_has (i0 i1 i2 i3 : IV) : 0 < (p4 i0 i1 i2 i3).funcs.length := by simp [p4]
set_option maxRecDepth 100000 in
set_option maxHeartbeats 40000000 in
theorem walk (a0 : Int) (w : World) (w0 : (Lit.int .i64 a0).wf = true) :
    Calls Try.prog 8 #[.int .i64 a0] w fun e w' => e = .returned (.bool true) ∧ Below w.heap.size w w' := by
  have hv := bounds_i64 w0
  clear w0
  go_enter Try.func8, Try.ntmps8
  go_wp2_with fail
  refine (refKeep_any a0 w).mono ?_
  rintro e w1 ⟨rfl, hw⟩
  rw [hw]
  clear hw
  obtain ⟨a, hak⟩ : ∃ a, a = keep a0 := ⟨_, rfl⟩
  have ha : keep a = a := by rw [hak]; exact keep_keep a0
  rw [← hak]
  clear hak hv
  obtain ⟨p, hp⟩ : ∃ p, p = p4 ⟨0, a⟩ ⟨8, 3⟩ ⟨12, 0⟩ ⟨26, 0⟩ := ⟨_, rfl⟩
  obtain ⟨W3, hW3⟩ : ∃ W, W = (((w.alloc (.cells #[.int .i64 0, .int .i64 a, .int .i64 8, .int .i64 3, .int .i64 12, .int .i64 0, .int .i64 26, .int .i64 0] 57)).alloc (.cells #[.int .i64 0, .slice (some ⟨w.heap.size, 0, none⟩) 4 4] 60)).alloc (.cells #[.slice (some ⟨w.heap.size + 1, 0, none⟩) 1 1, .int .i64 0, .slice none 0 0, .slice none 0 0, .slice none 0 0, .slice none 0 0, .int .i64 1] 26)) := ⟨_, rfl⟩
  have hz3 : W3.heap.size = w.heap.size + 1 + 1 + 1 := by rw [hW3]; simp
  have hb3 : Below w.heap.size w W3 := by rw [hW3]; exact (((Below.refl _ _).alloc (Nat.le_refl _) _).alloc (by simp) _).alloc (by simp; omega) _
  have hrp : RP W3 W3.heap.size (h4 (w.heap.size + 1)) p := by
    rw [hW3, hp]
    exact ((p4_rp w ⟨0, a⟩ ⟨8, 3⟩ ⟨12, 0⟩ ⟨26, 0⟩).below ((Below.refl _ _).alloc (by simp) _)).more (by simp)
  have hpb : Blk W3 (w.heap.size + 1 + 1) 26 #[.slice (some ⟨w.heap.size + 1, 0, none⟩) 1 1, .int .i64 0, .slice none 0 0, .slice none 0 0, .slice none 0 0, .slice none 0 0, .int .i64 1] := by
    rw [hW3]
    simpa using Blk.new ((w.alloc (.cells #[.int .i64 0, .int .i64 a, .int .i64 8, .int .i64 3, .int .i64 12, .int .i64 0, .int .i64 26, .int .i64 0] 57)).alloc (.cells #[.int .i64 0, .slice (some ⟨w.heap.size, 0, none⟩) 4 4] 60)) 26 #[.slice (some ⟨w.heap.size + 1, 0, none⟩) 1 1, .int .i64 0, .slice none 0 0, .slice none 0 0, .slice none 0 0, .slice none 0 0, .int .i64 1]
  have hmay : mayB p = true := by rw [hp]; exact zero_may a ha
  have hln : Lens p := by rw [hp]; exact p4_lens _ _ _ _
  have hfl : FewLoc p := by rw [hp]; exact p4_few _ _ _ _
  have hnm : mayT p (newT p 0) = true := by rw [hp]; exact p4_newmay _ _ _ _
  have hnew := fun (X : World) (hX : Below W3.heap.size W3 X) => refNew4_any (h4 (w.heap.size + 1)) p X W3.heap.size (hrp.below hX) hX.size hfl (by rw [hp]; exact one_few _ _ _ _) 0 (by rw [hp]; exact one_has _ _ _ _)
  have hrun := fun (X : World) (hX : Below W3.heap.size W3 X) (D : Nat → Prop) (hn : TH) (hr : RT X D hn (newT p 0)) => vrun_any (h4 (w.heap.size + 1)) p hn (newT p 0) 9 X W3.heap.size D (hrp.below hX) hX.size hr hmay hln hnm (by simp [newT]) (by omega)
  obtain ⟨x, q, n, hxq⟩ : ∃ x q n, runV p (9 : Int).toNat (newT p 0) = (x, q, n) := ⟨_, _, _, rfl⟩
  have hq3 : (q, n) = (if a = 0 then (⟨1, 0, 0⟩ : QV) else ⟨2, 0, 0⟩, 3) := by
    have e := zero_run a ha
    rw [← hp] at e
    have e2 : (runV p (9 : Int).toNat (newT p 0)).2 = (q, n) := by rw [hxq]
    exact e2.symm.trans e
  obtain ⟨hq, rfl⟩ : q = (if a = 0 then (⟨1, 0, 0⟩ : QV) else ⟨2, 0, 0⟩) ∧ n = 3 := by simpa using hq3
  rw [hxq] at hrun
  simp only at hrun
  have KS : ∀ X, Below W3.heap.size W3 X → X.cell? ⟨w.heap.size + 1 + 1, 0, none⟩ = some (.slice (some ⟨w.heap.size + 1, 0, none⟩) 1 1) ∧ X.cell? ⟨w.heap.size + 1 + 1, 1, none⟩ = some (.int .i64 0) ∧ X.cell? ⟨w.heap.size + 1 + 1, 2, none⟩ = some (.slice none 0 0) ∧ X.cell? ⟨w.heap.size + 1 + 1, 3, none⟩ = some (.slice none 0 0) ∧ X.cell? ⟨w.heap.size + 1 + 1, 4, none⟩ = some (.slice none 0 0) ∧ X.cell? ⟨w.heap.size + 1 + 1, 5, none⟩ = some (.slice none 0 0) ∧ X.cell? ⟨w.heap.size + 1 + 1, 6, none⟩ = some (.int .i64 1) := fun X hX =>
    have h := hpb.below hX hpb.lt
    ⟨(h.cell 0).trans rfl, (h.cell 1).trans rfl, (h.cell 2).trans rfl, (h.cell 3).trans rfl, (h.cell 4).trans rfl, (h.cell 5).trans rfl, (h.cell 6).trans rfl⟩
  have hlen : p.funcs.length = 1 ∧ p.mutexes = 0 ∧ p.conds.length = 0 ∧ p.semas.length = 0 ∧ p.chans.length = 0 ∧ p.choices.length = 0 ∧ p.threads = 1 := by rw [hp]; exact ⟨rfl, rfl, rfl, rfl, rfl, rfl, rfl⟩
  obtain ⟨l1, l2, l3, l4, l5, l6, l7⟩ := hlen
  rw [l1, l2, l3, l4, l5, l6, l7] at hnew hrun
  have l8 : (newT p 0).frames.length = 1 := rfl
  have l9 : (newT p 0).stack.length = 0 := rfl
  rw [l8, l9] at hrun
  simp only [h4, newT] at hnew hrun
  have HKS := Lib.hid KS; have HNEW := Lib.hid hnew; have HRUN := Lib.hid hrun; have HB3 := Lib.hid hb3; have HW := Lib.hid hW3; have HZ := Lib.hid hz3
  obtain ⟨m0, m1, m2, m3, m4, m5, m6⟩ := KS W3 (Below.refl _ _)
  have HQ := Lib.hid hq
  clear hrp hpb hmay hln hfl hnm hxq hq3 hq l1 l2 l3 l4 l5 l6 l7 l8 l9 KS hnew hrun hb3 hp
  have hzl : w.heap.size + 1 + 1 < W3.heap.size := by omega
  clear hz3 hW3
  go_upto_region 3 with fail
  rw [← HW.out]
  clear HW
  go_cut [4, 5, 6] (fun s4 s5 s6 wx => LiC W3 x q 3 s4 s5 s6 wx)
  case first =>
    go_region_held3 (fun X => X.cell? ⟨w.heap.size + 1 + 1, 0, none⟩ = some (.slice (some ⟨w.heap.size + 1, 0, none⟩) 1 1) ∧ X.cell? ⟨w.heap.size + 1 + 1, 1, none⟩ = some (.int .i64 0) ∧ X.cell? ⟨w.heap.size + 1 + 1, 2, none⟩ = some (.slice none 0 0) ∧ X.cell? ⟨w.heap.size + 1 + 1, 3, none⟩ = some (.slice none 0 0) ∧ X.cell? ⟨w.heap.size + 1 + 1, 4, none⟩ = some (.slice none 0 0) ∧ X.cell? ⟨w.heap.size + 1 + 1, 5, none⟩ = some (.slice none 0 0) ∧ X.cell? ⟨w.heap.size + 1 + 1, 6, none⟩ = some (.int .i64 1))
      (first | (exact HKS.out _ (by repeat (first | (with_reducible exact hbr) | (with_reducible exact hbn) | (with_reducible exact Below.refl _ _) | (with_reducible refine Below.drew ?_) | (with_reducible refine Below.setCell ?_ ?hs _; case hs => first | omega | (simp <;> omega) | (have := hbn.size; first | omega | (simp <;> omega)) | (have := hbn.size; have := hbr.size; first | omega | (simp <;> omega))) | (with_reducible refine Below.alloc ?_ ?hs _; case hs => first | omega | (simp <;> omega) | (have := hbn.size; first | omega | (simp <;> omega)) | (have := hbn.size; have := hbr.size; first | omega | (simp <;> omega)))))))
      (first
        | (go_simp; go_at_call 25; refine (HNEW.out _ (by repeat (first | (with_reducible exact hbr) | (with_reducible exact hbn) | (with_reducible exact Below.refl _ _) | (with_reducible refine Below.drew ?_) | (with_reducible refine Below.setCell ?_ ?hs _; case hs => first | omega | (simp <;> omega) | (have := hbn.size; first | omega | (simp <;> omega)) | (have := hbn.size; have := hbr.size; first | omega | (simp <;> omega))) | (with_reducible refine Below.alloc ?_ ?hs _; case hs => first | omega | (simp <;> omega) | (have := hbn.size; first | omega | (simp <;> omega)) | (have := hbn.size; have := hbr.size; first | omega | (simp <;> omega)))))).mono ?_; rintro en wn ⟨⟨nA, nc, nB, nd⟩, rfl, hrn, hn4⟩
           have hbn : Below W3.heap.size W3 wn := Below.trans (by repeat (first | exact Below.refl _ _ | refine Below.drew ?_ | refine Below.alloc ?_ (by first | omega | (simp <;> omega)) _)) (hn4.mono (by first | omega | (simp <;> omega)))
           obtain ⟨hcc, hff⟩ := bcellU hn4
           have hzn := hn4.size
           try simp at hzn
           try (have hn1 : W3.heap.size < wn.heap.size := by omega)
           try (have hn2 : W3.heap.size + 1 < wn.heap.size := by omega))
        | (go_simp; go_at_call 20; refine (HRUN.out _ (by repeat (first | (with_reducible exact hbr) | (with_reducible exact hbn) | (with_reducible exact Below.refl _ _) | (with_reducible refine Below.drew ?_) | (with_reducible refine Below.setCell ?_ ?hs _; case hs => first | omega | (simp <;> omega) | (have := hbn.size; first | omega | (simp <;> omega)) | (have := hbn.size; have := hbr.size; first | omega | (simp <;> omega))) | (with_reducible refine Below.alloc ?_ ?hs _; case hs => first | omega | (simp <;> omega) | (have := hbn.size; first | omega | (simp <;> omega)) | (have := hbn.size; have := hbr.size; first | omega | (simp <;> omega))))) _ _ (RT.below hrn (by repeat (first | exact Below.refl _ _ | refine Below.drew ?_ | refine Below.alloc ?_ (by first | omega | (simp <;> omega)) _)))).mono ?_; rintro er wr ⟨⟨rA, rc, rB, rd⟩, rfl, hrr, hr4⟩
           have hbr : Below W3.heap.size W3 wr := Below.trans (by repeat (first | (with_reducible exact hbr) | (with_reducible exact hbn) | (with_reducible exact Below.refl _ _) | (with_reducible refine Below.drew ?_) | (with_reducible refine Below.setCell ?_ ?hs _; case hs => first | omega | (simp <;> omega) | (have := hbn.size; first | omega | (simp <;> omega)) | (have := hbn.size; have := hbr.size; first | omega | (simp <;> omega))) | (with_reducible refine Below.alloc ?_ ?hs _; case hs => first | omega | (simp <;> omega) | (have := hbn.size; first | omega | (simp <;> omega)) | (have := hbn.size; have := hbr.size; first | omega | (simp <;> omega))))) (hr4.mono (by have := hbn.size; first | omega | (simp; omega) | simp))
           obtain ⟨hcr, hfr⟩ := bcellU hr4
           have hnr : Below wn.heap.size wn wr := Below.trans (by repeat (first | exact Below.refl _ _ | refine Below.drew ?_ | refine Below.alloc ?_ (by first | omega | (simp <;> omega)) _)) (hr4.mono (by first | omega | (simp <;> omega)))
           have hb2 := hn4.trans (hnr.mono hn4.size)
           obtain ⟨hc2, hf2⟩ := bcellU hb2
           have hzr := hr4.size
           try simp at hzr
           try (have hr1 : W3.heap.size < wr.heap.size := by omega)
           try (have hr2 : W3.heap.size + 1 < wr.heap.size := by omega)
           try (have hr3 : wn.heap.size < wr.heap.size := by omega)
           try (have hr5 : wn.heap.size + 1 < wr.heap.size := by omega)))
    all_goals
      go_wp2_with fail
      go_meet
      refine ⟨_, _, ⟨rA, rc, rB, rd⟩, rfl, rfl, rfl, ⟨?b1, ?rt⟩, ?b2, (by repeat (first | (with_reducible exact hbr) | (with_reducible exact hbn) | (with_reducible exact Below.refl _ _) | (with_reducible refine Below.drew ?_) | (with_reducible refine Below.setCell ?_ ?hs _; case hs => first | omega | (simp <;> omega) | (have := hbn.size; first | omega | (simp <;> omega)) | (have := hbn.size; have := hbr.size; first | omega | (simp <;> omega))) | (with_reducible refine Below.alloc ?_ ?hs _; case hs => first | omega | (simp <;> omega) | (have := hbn.size; first | omega | (simp <;> omega)) | (have := hbn.size; have := hbr.size; first | omega | (simp <;> omega)))))⟩
      case b1 => (show Blk _ _ _ #[.int .i64 x.state, .int .i64 x.on, .slice rA x.frames.length rc, .slice rB x.stack.length rd, .int .i64 x.code]; (repeat (first | (with_reducible refine blk_at ?hs; case hs => (first | rfl | (simp; done))) | (with_reducible refine Blk.set5 (v0 := .int .i64 0) (v1 := .int .i64 0) (v2 := .slice none 0 0) (v3 := .slice none 0 0) (v4 := .int .i64 0) ?_ _ _ _ _ _) | (with_reducible refine Blk.set3 (v0 := .int .i64 0) (v1 := .int .i64 0) (v2 := .int .i64 0) ?_ _ _ _) | (with_reducible refine Blk.far ?_ ?hs _; case hs => (show (_ : Nat) ≠ _; first | omega | (simp <;> omega) | (have := hbn.size; first | omega | (simp <;> omega)) | (have := hbn.size; have := hbr.size; first | omega | (simp <;> omega)))) | (with_reducible refine Blk.alloc ?_ _) | (with_reducible refine Blk.below ?_ hr4 ?hs; (case hs => (first | omega | (simp <;> omega) | (have := hbn.size; first | omega | (simp <;> omega)) | (have := hbn.size; have := hbr.size; first | omega | (simp <;> omega)))); (repeat (first | (with_reducible refine blk_at ?hs; case hs => (first | rfl | (simp; done))) | (with_reducible refine Blk.drew ?_) | (with_reducible refine Blk.alloc ?_ _))); done) | (with_reducible refine Blk.below ?_ hb2 ?hs; (case hs => (first | omega | (simp <;> omega) | (have := hbn.size; first | omega | (simp <;> omega)) | (have := hbn.size; have := hbr.size; first | omega | (simp <;> omega)))); (repeat (first | (with_reducible refine blk_at ?hs; case hs => (first | rfl | (simp; done))) | (with_reducible refine Blk.drew ?_) | (with_reducible refine Blk.alloc ?_ _))); done))))
      case b2 => (repeat (first | (with_reducible refine blk_at ?hs; case hs => (first | rfl | (simp; done))) | (with_reducible refine Blk.set5 (v0 := .int .i64 0) (v1 := .int .i64 0) (v2 := .slice none 0 0) (v3 := .slice none 0 0) (v4 := .int .i64 0) ?_ _ _ _ _ _) | (with_reducible refine Blk.set3 (v0 := .int .i64 0) (v1 := .int .i64 0) (v2 := .int .i64 0) ?_ _ _ _) | (with_reducible refine Blk.far ?_ ?hs _; case hs => (show (_ : Nat) ≠ _; first | omega | (simp <;> omega) | (have := hbn.size; first | omega | (simp <;> omega)) | (have := hbn.size; have := hbr.size; first | omega | (simp <;> omega)))) | (with_reducible refine Blk.alloc ?_ _) | (with_reducible refine Blk.below ?_ hr4 ?hs; (case hs => (first | omega | (simp <;> omega) | (have := hbn.size; first | omega | (simp <;> omega)) | (have := hbn.size; have := hbr.size; first | omega | (simp <;> omega)))); (repeat (first | (with_reducible refine blk_at ?hs; case hs => (first | rfl | (simp; done))) | (with_reducible refine Blk.drew ?_) | (with_reducible refine Blk.alloc ?_ _))); done) | (with_reducible refine Blk.below ?_ hb2 ?hs; (case hs => (first | omega | (simp <;> omega) | (have := hbn.size; first | omega | (simp <;> omega)) | (have := hbn.size; have := hbr.size; first | omega | (simp <;> omega)))); (repeat (first | (with_reducible refine blk_at ?hs; case hs => (first | rfl | (simp; done))) | (with_reducible refine Blk.drew ?_) | (with_reducible refine Blk.alloc ?_ _))); done)))
      case rt =>
        refine (hrr.keep fun q hq hl => ?_).mono fun _ _ _ => trivial
        have hq' : _ ≤ q.block := hq
        try simp at hq'
        refine Fr.cell (S := fun i => i ≠ q.block) ?_ hl (fun h => h rfl)
        (repeat (first | (with_reducible exact Fr.refl _ _) | (with_reducible refine Fr.alloc ?_ _) | (with_reducible refine Fr.setCell ?_ (.inl ?hs) _; case hs => (show (_ : Nat) ≠ q.block; first | omega | (simp <;> omega) | (have := hbn.size; first | omega | (simp <;> omega)) | (have := hbn.size; have := hbr.size; first | omega | (simp <;> omega))))))
  case rest =>
    obtain ⟨tb, qb, hx, rfl, rfl, rfl, htb, hqb, hbw⟩ := hcut
    have q0 : wc.cell? ⟨qb, 0, none⟩ = some (.int .i64 q.kind) := (hqb.cell 0).trans rfl
    have q1 : wc.cell? ⟨qb, 1, none⟩ = some (.int .i64 q.a) := (hqb.cell 1).trans rfl
    have q2 : wc.cell? ⟨qb, 2, none⟩ = some (.int .i64 q.v) := (hqb.cell 2).trans rfl
    have hqlt := hqb.lt
    have HBW := Lib.hid hbw
    clear htb hqb hbw m0 m1 m2 m3 m4 m5 m6
    by_cases hz : a = 0
    · have hq : q = ⟨1, 0, 0⟩ := by rw [HQ.out, if_pos hz]
      subst hq hz
      clear HQ
      go_wp2_with fail
      all_goals
        refine (vlives_any _).mono ?_
        rintro e wl ⟨rfl, hbl⟩
        go_wp2_with fail
        go_ret
        have h1 : Below wc.heap.size wc wl := Below.trans ((Below.refl _ _).alloc (Nat.le_refl _) _) (hbl.mono (by simp))
        exact ⟨rfl, HB3.out.trans ((HBW.out.trans (h1.mono HBW.out.size)).mono HB3.out.size)⟩
    · have hq : q = ⟨2, 0, 0⟩ := by rw [HQ.out, if_neg hz]
      subst hq
      clear HQ
      go_wp2_with fail
      all_goals
        refine (vlives_any _).mono ?_
        rintro e wl ⟨rfl, hbl⟩
        go_wp2_with fail
        go_ret
        have h1 : Below wc.heap.size wc wl := Below.trans ((Below.refl _ _).alloc (Nat.le_refl _) _) (hbl.mono (by simp))
        exact ⟨rfl, HB3.out.trans ((HBW.out.trans (h1.mono HBW.out.size)).mono HB3.out.size)⟩
end Go.Proofs.Ytnkcbdifjkclbaa.vmZeros
