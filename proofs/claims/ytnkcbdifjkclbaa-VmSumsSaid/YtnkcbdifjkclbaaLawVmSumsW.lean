
/-
  The walk of VmSums.
-/
import Derived.Test.YtnkcbdifjkclbaaRows
import Derived.WalkKit
import Derived.ProofKit
import Derived.OpenShut
import Derived.ShutString
import Derived.ChangeOld
import Derived.Below
import Derived.Test.YtnkcbdifjkclbaaVmRun
namespace Go.Proofs.Ytnkcbdifjkclbaa.vmSums
open Go.ChangeShapes Go.WideShapes Go.ChangeAt Go.RowKit Go.Proofs.Ytnkcbdifjkclbaa Go.Proofs.Ytnkcbdifjkclbaa.Plain
open Go.ChangeMaps (open_string shut_string)
set_option linter.unusedVariables false


theorem sum_may (a b : Int) (ha : keep a = a) (hb : keep b = b) : mayB (p4 ⟨0, a⟩ ⟨0, b⟩ ⟨3, 0⟩ ⟨25, 0⟩) = true := by
  have h := instr_push (p4 ⟨0, a⟩ ⟨0, b⟩ ⟨3, 0⟩ ⟨25, 0⟩) ⟨0, [⟨0, a⟩, ⟨0, b⟩, ⟨3, 0⟩, ⟨25, 0⟩]⟩ a ha
  have h1 := instr_push (p4 ⟨0, a⟩ ⟨0, b⟩ ⟨3, 0⟩ ⟨25, 0⟩) ⟨0, [⟨0, a⟩, ⟨0, b⟩, ⟨3, 0⟩, ⟨25, 0⟩]⟩ b hb
  have h2 : instrB (p4 ⟨0, a⟩ ⟨0, b⟩ ⟨3, 0⟩ ⟨25, 0⟩) ⟨0, [⟨0, a⟩, ⟨0, b⟩, ⟨3, 0⟩, ⟨25, 0⟩]⟩ ⟨3, 0⟩ = true := rfl
  have h3 : instrB (p4 ⟨0, a⟩ ⟨0, b⟩ ⟨3, 0⟩ ⟨25, 0⟩) ⟨0, [⟨0, a⟩, ⟨0, b⟩, ⟨3, 0⟩, ⟨25, 0⟩]⟩ ⟨25, 0⟩ = true := rfl
  simp [mayB, headB, funcB, p4] at *
  exact ⟨⟨⟨rfl, rfl⟩, rfl⟩, h, h1, h2, h3⟩
theorem dif_may (a b : Int) (ha : keep a = a) (hb : keep b = b) : mayB (p4 ⟨0, a⟩ ⟨0, b⟩ ⟨4, 0⟩ ⟨25, 0⟩) = true := by
  have h := instr_push (p4 ⟨0, a⟩ ⟨0, b⟩ ⟨4, 0⟩ ⟨25, 0⟩) ⟨0, [⟨0, a⟩, ⟨0, b⟩, ⟨4, 0⟩, ⟨25, 0⟩]⟩ a ha
  have h1 := instr_push (p4 ⟨0, a⟩ ⟨0, b⟩ ⟨4, 0⟩ ⟨25, 0⟩) ⟨0, [⟨0, a⟩, ⟨0, b⟩, ⟨4, 0⟩, ⟨25, 0⟩]⟩ b hb
  have h2 : instrB (p4 ⟨0, a⟩ ⟨0, b⟩ ⟨4, 0⟩ ⟨25, 0⟩) ⟨0, [⟨0, a⟩, ⟨0, b⟩, ⟨4, 0⟩, ⟨25, 0⟩]⟩ ⟨4, 0⟩ = true := rfl
  have h3 : instrB (p4 ⟨0, a⟩ ⟨0, b⟩ ⟨4, 0⟩ ⟨25, 0⟩) ⟨0, [⟨0, a⟩, ⟨0, b⟩, ⟨4, 0⟩, ⟨25, 0⟩]⟩ ⟨25, 0⟩ = true := rfl
  simp [mayB, headB, funcB, p4] at *
  exact ⟨⟨⟨rfl, rfl⟩, rfl⟩, h, h1, h2, h3⟩
theorem one_few (i0 i1 i2 i3 : IV) : (p4 i0 i1 i2 i3).funcs.length ≤ 9223372036854775807 := by simp [p4]
theorem one_has (i0 i1 i2 i3 : IV) : 0 < (p4 i0 i1 i2 i3).funcs.length := by simp [p4]
set_option maxRecDepth 100000 in
set_option maxHeartbeats 40000000 in
theorem walk (a0 : Int) (a1 : Int) (w : World) (w0 : (Lit.int .i64 a0).wf = true) (w1 : (Lit.int .i64 a1).wf = true) :
    Calls Try.prog 7 #[.int .i64 a0, .int .i64 a1] w fun e w' => e = .returned (.bool true) ∧ Below w.heap.size w w' := by
  have hv0 := bounds_i64 w0
  have hv1 := bounds_i64 w1
  clear w0 w1
  go_enter Try.func7, Try.ntmps7
  go_wp2_with fail
  refine (refKeep_any a0 w).mono ?_
  rintro e w1 ⟨rfl, hw⟩
  rw [hw]
  obtain ⟨a, hak⟩ : ∃ a, a = keep a0 := ⟨_, rfl⟩
  have ha : keep a = a := by rw [hak]; exact keep_keep a0
  have hab : -1073741824 ≤ a ∧ a ≤ 1073741824 := by have := keep_bd a0; omega
  rw [← hak]
  clear hw hak
  have HA := Lib.hid ha
  clear ha
  go_wp2_with fail
  refine (refKeep_any a1 w).mono ?_
  rintro e w2 ⟨rfl, hw⟩
  rw [hw]
  obtain ⟨b, hbk⟩ : ∃ b, b = keep a1 := ⟨_, rfl⟩
  have hb : keep b = b := by rw [hbk]; exact keep_keep a1
  have hbb : -1073741824 ≤ b ∧ b ≤ 1073741824 := by have := keep_bd a1; omega
  rw [← hbk]
  clear hw hbk hv0 hv1
  have HB := Lib.hid hb
  clear hb
  have hw1 : wrap64 (a + b) = a + b := by unfold wrap64; omega
  have hw2 : wrap64 (a - b) = a - b := by unfold wrap64; omega
  go_wp2_with fail
  refine (refKeep_any (a + b) _).mono ?_
  rintro e w3 ⟨rfl, hw⟩
  rw [hw]
  clear hw
  go_wp2_with fail
  refine (refKeep_any (a - b) _).mono ?_
  rintro e w4 ⟨rfl, hw⟩
  rw [hw]
  clear hw hw1 hw2
  obtain ⟨v0, hv0⟩ : ∃ v, v = keep (a + b) := ⟨_, rfl⟩
  obtain ⟨v1, hv1⟩ : ∃ v, v = keep (a - b) := ⟨_, rfl⟩
  rw [← hv0, ← hv1]
  have HV0 := Lib.hid hv0; have HV1 := Lib.hid hv1
  clear hv0 hv1
  go_wp2_with fail
  go_loopw [7] (fun s7 wb => (s7 = .int .i64 0 ∨ s7 = .int .i64 1 ∨ s7 = .int .i64 2) ∧ Blk wb w.heap.size 3 #[.int .i64 3, .int .i64 4] ∧ Blk wb (w.heap.size + 1) 3 #[.int .i64 v0, .int .i64 v1] ∧ Below w.heap.size w wb) (fun s7 _ => 2 - (intOf s7).toNat)
  case atStart => exact ⟨.inl rfl, (Blk.new _ _ _).alloc _, by simpa using Blk.new (w.alloc (.cells #[.int .i64 3, .int .i64 4] 3)) 3 #[.int .i64 v0, .int .i64 v1], ((Below.refl _ _).alloc (Nat.le_refl _) _).alloc (by simp) _⟩
  case round =>
  obtain ⟨hs, g1, g2, g3⟩ := hrel
  generalize wr = wb at *
  have G1 := Lib.hid g1; have G2 := Lib.hid g2; have G3 := Lib.hid g3
  clear g1 g2 g3
  rcases hs with rfl | rfl | rfl
  · have d0 : wb.cell? ⟨w.heap.size, 0, none⟩ = some (.int .i64 3) := (G1.out.cell 0).trans rfl
    have d1 : w.heap.size < wb.heap.size := G1.out.lt
    obtain ⟨p, hp⟩ : ∃ p, p = p4 ⟨0, a⟩ ⟨0, b⟩ ⟨3, 0⟩ ⟨25, 0⟩ := ⟨_, rfl⟩
    obtain ⟨W3, hW3⟩ : ∃ W, W = (((wb.alloc (.cells #[.int .i64 0, .int .i64 a, .int .i64 0, .int .i64 b, .int .i64 3, .int .i64 0, .int .i64 25, .int .i64 0] 57)).alloc (.cells #[.int .i64 0, .slice (some ⟨wb.heap.size, 0, none⟩) 4 4] 60)).alloc (.cells #[.slice (some ⟨wb.heap.size + 1, 0, none⟩) 1 1, .int .i64 0, .slice none 0 0, .slice none 0 0, .slice none 0 0, .slice none 0 0, .int .i64 1] 26)) := ⟨_, rfl⟩
    have hz3 : W3.heap.size = wb.heap.size + 1 + 1 + 1 := by rw [hW3]; simp
    have hb3 : Below wb.heap.size wb W3 := by rw [hW3]; exact (((Below.refl _ _).alloc (Nat.le_refl _) _).alloc (by simp) _).alloc (by simp; omega) _
    have hrp : RP W3 W3.heap.size (h4 (wb.heap.size + 1)) p := by
      rw [hW3, hp]
      exact ((p4_rp wb ⟨0, a⟩ ⟨0, b⟩ ⟨3, 0⟩ ⟨25, 0⟩).below ((Below.refl _ _).alloc (by simp) _)).more (by simp)
    have hpb : Blk W3 (wb.heap.size + 1 + 1) 26 #[.slice (some ⟨wb.heap.size + 1, 0, none⟩) 1 1, .int .i64 0, .slice none 0 0, .slice none 0 0, .slice none 0 0, .slice none 0 0, .int .i64 1] := by
      rw [hW3]
      simpa using Blk.new ((wb.alloc (.cells #[.int .i64 0, .int .i64 a, .int .i64 0, .int .i64 b, .int .i64 3, .int .i64 0, .int .i64 25, .int .i64 0] 57)).alloc (.cells #[.int .i64 0, .slice (some ⟨wb.heap.size, 0, none⟩) 4 4] 60)) 26 #[.slice (some ⟨wb.heap.size + 1, 0, none⟩) 1 1, .int .i64 0, .slice none 0 0, .slice none 0 0, .slice none 0 0, .slice none 0 0, .int .i64 1]
    have hmay : mayB p = true := by rw [hp]; exact sum_may a b HA.out HB.out
    have hln : Lens p := by rw [hp]; exact p4_lens _ _ _ _
    have hfl : FewLoc p := by rw [hp]; exact p4_few _ _ _ _
    have hnm : mayT p (newT p 0) = true := by rw [hp]; exact p4_newmay _ _ _ _
    have hnew := fun (X : World) (hX : Below W3.heap.size W3 X) => refNew4_any (h4 (wb.heap.size + 1)) p X W3.heap.size (hrp.below hX) hX.size hfl (by rw [hp]; exact one_few _ _ _ _) 0 (by rw [hp]; exact one_has _ _ _ _)
    have hrun := fun (X : World) (hX : Below W3.heap.size W3 X) (D : Nat → Prop) (hn : TH) (hr : RT X D hn (newT p 0)) => vrun_any (h4 (wb.heap.size + 1)) p hn (newT p 0) 9 X W3.heap.size D (hrp.below hX) hX.size hr hmay hln hnm (by simp [newT]) (by omega)
    obtain ⟨x, q, n, hxq⟩ : ∃ x q n, runV p (9 : Int).toNat (newT p 0) = (x, q, n) := ⟨_, _, _, rfl⟩
    have hq3 : (q, n) = ((⟨16, 0, v0⟩ : QV), 4) := by
      have e := sum_run a b HA.out HB.out
      rw [← hp, ← HV0.out] at e
      have e2 : (runV p (9 : Int).toNat (newT p 0)).2 = (q, n) := by rw [hxq]
      exact e2.symm.trans e
    obtain ⟨rfl, rfl⟩ : q = ⟨16, 0, v0⟩ ∧ n = 4 := by simpa using hq3
    rw [hxq] at hrun
    simp only at hrun
    have KS : ∀ X, Below W3.heap.size W3 X → X.cell? ⟨wb.heap.size + 1 + 1, 0, none⟩ = some (.slice (some ⟨wb.heap.size + 1, 0, none⟩) 1 1) ∧ X.cell? ⟨wb.heap.size + 1 + 1, 1, none⟩ = some (.int .i64 0) ∧ X.cell? ⟨wb.heap.size + 1 + 1, 2, none⟩ = some (.slice none 0 0) ∧ X.cell? ⟨wb.heap.size + 1 + 1, 3, none⟩ = some (.slice none 0 0) ∧ X.cell? ⟨wb.heap.size + 1 + 1, 4, none⟩ = some (.slice none 0 0) ∧ X.cell? ⟨wb.heap.size + 1 + 1, 5, none⟩ = some (.slice none 0 0) ∧ X.cell? ⟨wb.heap.size + 1 + 1, 6, none⟩ = some (.int .i64 1) := fun X hX =>
      have h := hpb.below hX hpb.lt
      ⟨(h.cell 0).trans rfl, (h.cell 1).trans rfl, (h.cell 2).trans rfl, (h.cell 3).trans rfl, (h.cell 4).trans rfl, (h.cell 5).trans rfl, (h.cell 6).trans rfl⟩
    have hlen : p.funcs.length = 1 ∧ p.mutexes = 0 ∧ p.conds.length = 0 ∧ p.semas.length = 0 ∧ p.chans.length = 0 ∧ p.choices.length = 0 ∧ p.threads = 1 := by rw [hp]; exact ⟨rfl, rfl, rfl, rfl, rfl, rfl, rfl⟩
    obtain ⟨l1, l2, l3, l4, l5, l6, l7⟩ := hlen
    rw [l1, l2, l3, l4, l5, l6, l7] at hnew hrun
    have l8 : (newT p 0).frames.length = 1 := rfl
    have l9 : (newT p 0).stack.length = 0 := rfl
    rw [l8, l9] at hrun
    simp only [h4, newT] at hnew hrun
    have HKS := Lib.hid KS; have HNEW := Lib.hid hnew; have HRUN := Lib.hid hrun; have HB3 := Lib.hid hb3; have HW := Lib.hid hW3; have HZ := Lib.hid hz3
    obtain ⟨m0, m1, m2, m3, m4, m5, m6⟩ := KS W3 (Below.refl _ _)
    clear hrp hpb hmay hln hfl hnm hxq hq3 l1 l2 l3 l4 l5 l6 l7 l8 l9 KS hnew hrun hb3 hp
    have hzl : wb.heap.size + 1 + 1 < W3.heap.size := by omega
    clear hz3 hW3
    go_upto_region 9 with fail
    rw [← HW.out]
    clear HW
    go_cut [9, 10, 11] (fun s9 s10 s11 wx => LiC W3 x ⟨16, 0, v0⟩ 4 s9 s10 s11 wx)
    case first =>
      go_region_held3 (fun X => X.cell? ⟨wb.heap.size + 1 + 1, 0, none⟩ = some (.slice (some ⟨wb.heap.size + 1, 0, none⟩) 1 1) ∧ X.cell? ⟨wb.heap.size + 1 + 1, 1, none⟩ = some (.int .i64 0) ∧ X.cell? ⟨wb.heap.size + 1 + 1, 2, none⟩ = some (.slice none 0 0) ∧ X.cell? ⟨wb.heap.size + 1 + 1, 3, none⟩ = some (.slice none 0 0) ∧ X.cell? ⟨wb.heap.size + 1 + 1, 4, none⟩ = some (.slice none 0 0) ∧ X.cell? ⟨wb.heap.size + 1 + 1, 5, none⟩ = some (.slice none 0 0) ∧ X.cell? ⟨wb.heap.size + 1 + 1, 6, none⟩ = some (.int .i64 1))
        (first | (exact HKS.out _ (by repeat (first | (with_reducible exact hbr) | (with_reducible exact hbn) | (with_reducible exact Below.refl _ _) | (with_reducible refine Below.drew ?_) | (with_reducible refine Below.setCell ?_ ?hs _; case hs => first | omega | (simp <;> omega) | (have := hbn.size; first | omega | (simp <;> omega)) | (have := hbn.size; have := hbr.size; first | omega | (simp <;> omega))) | (with_reducible refine Below.alloc ?_ ?hs _; case hs => first | omega | (simp <;> omega) | (have := hbn.size; first | omega | (simp <;> omega)) | (have := hbn.size; have := hbr.size; first | omega | (simp <;> omega)))))))
        (first
          | (go_simp; go_at_call 25; refine (HNEW.out _ (by repeat (first | (with_reducible exact hbr) | (with_reducible exact hbn) | (with_reducible exact Below.refl _ _) | (with_reducible refine Below.drew ?_) | (with_reducible refine Below.setCell ?_ ?hs _; case hs => first | omega | (simp <;> omega) | (have := hbn.size; first | omega | (simp <;> omega)) | (have := hbn.size; have := hbr.size; first | omega | (simp <;> omega))) | (with_reducible refine Below.alloc ?_ ?hs _; case hs => first | omega | (simp <;> omega) | (have := hbn.size; first | omega | (simp <;> omega)) | (have := hbn.size; have := hbr.size; first | omega | (simp <;> omega)))))).mono ?_; rintro en wn ⟨⟨nA, nc, nB, nd⟩, rfl, hrn, hn4⟩
             have hbn : Below W3.heap.size W3 wn := Below.trans (by repeat (first | exact Below.refl _ _ | refine Below.drew ?_ | refine Below.alloc ?_ (by first | omega | (simp <;> omega)) _)) (hn4.mono (by first | omega | (simp <;> omega)))
             obtain ⟨hcc, hff⟩ := bcellU hn4
             have hzn := hn4.size
             try simp at hzn
             try (have hn1 : W3.heap.size < wn.heap.size := by omega)
             try (have hn2 : W3.heap.size + 1 < wn.heap.size := by omega))
          | (go_simp; go_at_call 20; refine (HRUN.out _ (by repeat (first | (with_reducible exact hbr) | (with_reducible exact hbn) | (with_reducible exact Below.refl _ _) | (with_reducible refine Below.drew ?_) | (with_reducible refine Below.setCell ?_ ?hs _; case hs => first | omega | (simp <;> omega) | (have := hbn.size; first | omega | (simp <;> omega)) | (have := hbn.size; have := hbr.size; first | omega | (simp <;> omega))) | (with_reducible refine Below.alloc ?_ ?hs _; case hs => first | omega | (simp <;> omega) | (have := hbn.size; first | omega | (simp <;> omega)) | (have := hbn.size; have := hbr.size; first | omega | (simp <;> omega))))) _ _ (RT.below hrn (by repeat (first | exact Below.refl _ _ | refine Below.drew ?_ | refine Below.alloc ?_ (by first | omega | (simp <;> omega)) _)))).mono ?_; rintro er wr ⟨⟨rA, rc, rB, rd⟩, rfl, hrr, hr4⟩
             have hbr : Below W3.heap.size W3 wr := Below.trans (by repeat (first | (with_reducible exact hbr) | (with_reducible exact hbn) | (with_reducible exact Below.refl _ _) | (with_reducible refine Below.drew ?_) | (with_reducible refine Below.setCell ?_ ?hs _; case hs => first | omega | (simp <;> omega) | (have := hbn.size; first | omega | (simp <;> omega)) | (have := hbn.size; have := hbr.size; first | omega | (simp <;> omega))) | (with_reducible refine Below.alloc ?_ ?hs _; case hs => first | omega | (simp <;> omega) | (have := hbn.size; first | omega | (simp <;> omega)) | (have := hbn.size; have := hbr.size; first | omega | (simp <;> omega))))) (hr4.mono (by have := hbn.size; first | omega | (simp; omega) | simp))
             obtain ⟨hcr, hfr⟩ := bcellU hr4
             have hnr : Below wn.heap.size wn wr := Below.trans (by repeat (first | exact Below.refl _ _ | refine Below.drew ?_ | refine Below.alloc ?_ (by first | omega | (simp <;> omega)) _)) (hr4.mono (by first | omega | (simp <;> omega)))
             have hb2 := hn4.trans (hnr.mono hn4.size)
             obtain ⟨hc2, hf2⟩ := bcellU hb2
             have hzr := hr4.size
             try simp at hzr
             try (have hr1 : W3.heap.size < wr.heap.size := by omega)
             try (have hr2 : W3.heap.size + 1 < wr.heap.size := by omega)
             try (have hr3 : wn.heap.size < wr.heap.size := by omega)
             try (have hr5 : wn.heap.size + 1 < wr.heap.size := by omega)))
      all_goals
        go_wp2_with fail
        go_meet
        refine ⟨_, _, ⟨rA, rc, rB, rd⟩, rfl, rfl, rfl, ⟨?b1, ?rt⟩, ?b2, (by repeat (first | (with_reducible exact hbr) | (with_reducible exact hbn) | (with_reducible exact Below.refl _ _) | (with_reducible refine Below.drew ?_) | (with_reducible refine Below.setCell ?_ ?hs _; case hs => first | omega | (simp <;> omega) | (have := hbn.size; first | omega | (simp <;> omega)) | (have := hbn.size; have := hbr.size; first | omega | (simp <;> omega))) | (with_reducible refine Below.alloc ?_ ?hs _; case hs => first | omega | (simp <;> omega) | (have := hbn.size; first | omega | (simp <;> omega)) | (have := hbn.size; have := hbr.size; first | omega | (simp <;> omega)))))⟩
        case b1 => (show Blk _ _ _ #[.int .i64 x.state, .int .i64 x.on, .slice rA x.frames.length rc, .slice rB x.stack.length rd, .int .i64 x.code]; (repeat (first | (with_reducible refine blk_at ?hs; case hs => (first | rfl | (simp; done))) | (with_reducible refine Blk.set5 (v0 := .int .i64 0) (v1 := .int .i64 0) (v2 := .slice none 0 0) (v3 := .slice none 0 0) (v4 := .int .i64 0) ?_ _ _ _ _ _) | (with_reducible refine Blk.set3 (v0 := .int .i64 0) (v1 := .int .i64 0) (v2 := .int .i64 0) ?_ _ _ _) | (with_reducible refine Blk.far ?_ ?hs _; case hs => (show (_ : Nat) ≠ _; first | omega | (simp <;> omega) | (have := hbn.size; first | omega | (simp <;> omega)) | (have := hbn.size; have := hbr.size; first | omega | (simp <;> omega)))) | (with_reducible refine Blk.alloc ?_ _) | (with_reducible refine Blk.below ?_ hr4 ?hs; (case hs => (first | omega | (simp <;> omega) | (have := hbn.size; first | omega | (simp <;> omega)) | (have := hbn.size; have := hbr.size; first | omega | (simp <;> omega)))); (repeat (first | (with_reducible refine blk_at ?hs; case hs => (first | rfl | (simp; done))) | (with_reducible refine Blk.drew ?_) | (with_reducible refine Blk.alloc ?_ _))); done) | (with_reducible refine Blk.below ?_ hb2 ?hs; (case hs => (first | omega | (simp <;> omega) | (have := hbn.size; first | omega | (simp <;> omega)) | (have := hbn.size; have := hbr.size; first | omega | (simp <;> omega)))); (repeat (first | (with_reducible refine blk_at ?hs; case hs => (first | rfl | (simp; done))) | (with_reducible refine Blk.drew ?_) | (with_reducible refine Blk.alloc ?_ _))); done))))
        case b2 => (repeat (first | (with_reducible refine blk_at ?hs; case hs => (first | rfl | (simp; done))) | (with_reducible refine Blk.set5 (v0 := .int .i64 0) (v1 := .int .i64 0) (v2 := .slice none 0 0) (v3 := .slice none 0 0) (v4 := .int .i64 0) ?_ _ _ _ _ _) | (with_reducible refine Blk.set3 (v0 := .int .i64 0) (v1 := .int .i64 0) (v2 := .int .i64 0) ?_ _ _ _) | (with_reducible refine Blk.far ?_ ?hs _; case hs => (show (_ : Nat) ≠ _; first | omega | (simp <;> omega) | (have := hbn.size; first | omega | (simp <;> omega)) | (have := hbn.size; have := hbr.size; first | omega | (simp <;> omega)))) | (with_reducible refine Blk.alloc ?_ _) | (with_reducible refine Blk.below ?_ hr4 ?hs; (case hs => (first | omega | (simp <;> omega) | (have := hbn.size; first | omega | (simp <;> omega)) | (have := hbn.size; have := hbr.size; first | omega | (simp <;> omega)))); (repeat (first | (with_reducible refine blk_at ?hs; case hs => (first | rfl | (simp; done))) | (with_reducible refine Blk.drew ?_) | (with_reducible refine Blk.alloc ?_ _))); done) | (with_reducible refine Blk.below ?_ hb2 ?hs; (case hs => (first | omega | (simp <;> omega) | (have := hbn.size; first | omega | (simp <;> omega)) | (have := hbn.size; have := hbr.size; first | omega | (simp <;> omega)))); (repeat (first | (with_reducible refine blk_at ?hs; case hs => (first | rfl | (simp; done))) | (with_reducible refine Blk.drew ?_) | (with_reducible refine Blk.alloc ?_ _))); done)))
        case rt =>
          refine (hrr.keep fun q hq hl => ?_).mono fun _ _ _ => trivial
          have hq' : _ ≤ q.block := hq
          try simp at hq'
          refine Fr.cell (S := fun i => i ≠ q.block) ?_ hl (fun h => h rfl)
          (repeat (first | (with_reducible exact Fr.refl _ _) | (with_reducible refine Fr.alloc ?_ _) | (with_reducible refine Fr.setCell ?_ (.inl ?hs) _; case hs => (show (_ : Nat) ≠ q.block; first | omega | (simp <;> omega) | (have := hbn.size; first | omega | (simp <;> omega)) | (have := hbn.size; have := hbr.size; first | omega | (simp <;> omega))))))
    case rest =>
      obtain ⟨tb, qb, hx, rfl, rfl, rfl, htb, hqb, hbw⟩ := hcut
      have q0 : wc.cell? ⟨qb, 0, none⟩ = some (.int .i64 16) := (hqb.cell 0).trans rfl
      have q1 : wc.cell? ⟨qb, 1, none⟩ = some (.int .i64 0) := (hqb.cell 1).trans rfl
      have q2 : wc.cell? ⟨qb, 2, none⟩ = some (.int .i64 v0) := (hqb.cell 2).trans rfl
      have hbw2 := HB3.out.trans (hbw.mono HB3.out.size)
      have g1 := G1.out.below hbw2 G1.out.lt
      have g2 := G2.out.below hbw2 G2.out.lt
      have o1 : wc.cell? ⟨w.heap.size + 1, 0, none⟩ = some (.int .i64 v0) := (g2.cell 0).trans rfl
      have g3 := G3.out.trans (hbw2.mono G3.out.size)
      have E1 := Lib.hid g1; have E2 := Lib.hid g2; have E3 := Lib.hid g3
      clear htb hqb hbw m0 m1 m2 m3 m4 m5 m6 hbw2 g1 g2 g3
      go_wp2_with fail
      go_region_held3 (fun X => X.cell? ⟨qb, 0, none⟩ = some (.int .i64 16) ∧ X.cell? ⟨qb, 1, none⟩ = some (.int .i64 0) ∧ X.cell? ⟨qb, 2, none⟩ = some (.int .i64 v0) ∧ X.cell? ⟨w.heap.size + 1, 0, none⟩ = some (.int .i64 v0))
        (first | (exact ⟨q0, q1, q2, o1⟩) | go_keep)
        (fail)
      all_goals go_wp2_with fail
      all_goals exact ⟨⟨.inr (.inl rfl), E1.out, E2.out, E3.out.drew⟩, by simp [intOf]⟩
  · have d0 : wb.cell? ⟨w.heap.size, 1, none⟩ = some (.int .i64 4) := (G1.out.cell 1).trans rfl
    have d1 : w.heap.size < wb.heap.size := G1.out.lt
    obtain ⟨p, hp⟩ : ∃ p, p = p4 ⟨0, a⟩ ⟨0, b⟩ ⟨4, 0⟩ ⟨25, 0⟩ := ⟨_, rfl⟩
    obtain ⟨W3, hW3⟩ : ∃ W, W = (((wb.alloc (.cells #[.int .i64 0, .int .i64 a, .int .i64 0, .int .i64 b, .int .i64 4, .int .i64 0, .int .i64 25, .int .i64 0] 57)).alloc (.cells #[.int .i64 0, .slice (some ⟨wb.heap.size, 0, none⟩) 4 4] 60)).alloc (.cells #[.slice (some ⟨wb.heap.size + 1, 0, none⟩) 1 1, .int .i64 0, .slice none 0 0, .slice none 0 0, .slice none 0 0, .slice none 0 0, .int .i64 1] 26)) := ⟨_, rfl⟩
    have hz3 : W3.heap.size = wb.heap.size + 1 + 1 + 1 := by rw [hW3]; simp
    have hb3 : Below wb.heap.size wb W3 := by rw [hW3]; exact (((Below.refl _ _).alloc (Nat.le_refl _) _).alloc (by simp) _).alloc (by simp; omega) _
    have hrp : RP W3 W3.heap.size (h4 (wb.heap.size + 1)) p := by
      rw [hW3, hp]
      exact ((p4_rp wb ⟨0, a⟩ ⟨0, b⟩ ⟨4, 0⟩ ⟨25, 0⟩).below ((Below.refl _ _).alloc (by simp) _)).more (by simp)
    have hpb : Blk W3 (wb.heap.size + 1 + 1) 26 #[.slice (some ⟨wb.heap.size + 1, 0, none⟩) 1 1, .int .i64 0, .slice none 0 0, .slice none 0 0, .slice none 0 0, .slice none 0 0, .int .i64 1] := by
      rw [hW3]
      simpa using Blk.new ((wb.alloc (.cells #[.int .i64 0, .int .i64 a, .int .i64 0, .int .i64 b, .int .i64 4, .int .i64 0, .int .i64 25, .int .i64 0] 57)).alloc (.cells #[.int .i64 0, .slice (some ⟨wb.heap.size, 0, none⟩) 4 4] 60)) 26 #[.slice (some ⟨wb.heap.size + 1, 0, none⟩) 1 1, .int .i64 0, .slice none 0 0, .slice none 0 0, .slice none 0 0, .slice none 0 0, .int .i64 1]
    have hmay : mayB p = true := by rw [hp]; exact dif_may a b HA.out HB.out
    have hln : Lens p := by rw [hp]; exact p4_lens _ _ _ _
    have hfl : FewLoc p := by rw [hp]; exact p4_few _ _ _ _
    have hnm : mayT p (newT p 0) = true := by rw [hp]; exact p4_newmay _ _ _ _
    have hnew := fun (X : World) (hX : Below W3.heap.size W3 X) => refNew4_any (h4 (wb.heap.size + 1)) p X W3.heap.size (hrp.below hX) hX.size hfl (by rw [hp]; exact one_few _ _ _ _) 0 (by rw [hp]; exact one_has _ _ _ _)
    have hrun := fun (X : World) (hX : Below W3.heap.size W3 X) (D : Nat → Prop) (hn : TH) (hr : RT X D hn (newT p 0)) => vrun_any (h4 (wb.heap.size + 1)) p hn (newT p 0) 9 X W3.heap.size D (hrp.below hX) hX.size hr hmay hln hnm (by simp [newT]) (by omega)
    obtain ⟨x, q, n, hxq⟩ : ∃ x q n, runV p (9 : Int).toNat (newT p 0) = (x, q, n) := ⟨_, _, _, rfl⟩
    have hq3 : (q, n) = ((⟨16, 0, v1⟩ : QV), 4) := by
      have e := dif_run a b HA.out HB.out
      rw [← hp, ← HV1.out] at e
      have e2 : (runV p (9 : Int).toNat (newT p 0)).2 = (q, n) := by rw [hxq]
      exact e2.symm.trans e
    obtain ⟨rfl, rfl⟩ : q = ⟨16, 0, v1⟩ ∧ n = 4 := by simpa using hq3
    rw [hxq] at hrun
    simp only at hrun
    have KS : ∀ X, Below W3.heap.size W3 X → X.cell? ⟨wb.heap.size + 1 + 1, 0, none⟩ = some (.slice (some ⟨wb.heap.size + 1, 0, none⟩) 1 1) ∧ X.cell? ⟨wb.heap.size + 1 + 1, 1, none⟩ = some (.int .i64 0) ∧ X.cell? ⟨wb.heap.size + 1 + 1, 2, none⟩ = some (.slice none 0 0) ∧ X.cell? ⟨wb.heap.size + 1 + 1, 3, none⟩ = some (.slice none 0 0) ∧ X.cell? ⟨wb.heap.size + 1 + 1, 4, none⟩ = some (.slice none 0 0) ∧ X.cell? ⟨wb.heap.size + 1 + 1, 5, none⟩ = some (.slice none 0 0) ∧ X.cell? ⟨wb.heap.size + 1 + 1, 6, none⟩ = some (.int .i64 1) := fun X hX =>
      have h := hpb.below hX hpb.lt
      ⟨(h.cell 0).trans rfl, (h.cell 1).trans rfl, (h.cell 2).trans rfl, (h.cell 3).trans rfl, (h.cell 4).trans rfl, (h.cell 5).trans rfl, (h.cell 6).trans rfl⟩
    have hlen : p.funcs.length = 1 ∧ p.mutexes = 0 ∧ p.conds.length = 0 ∧ p.semas.length = 0 ∧ p.chans.length = 0 ∧ p.choices.length = 0 ∧ p.threads = 1 := by rw [hp]; exact ⟨rfl, rfl, rfl, rfl, rfl, rfl, rfl⟩
    obtain ⟨l1, l2, l3, l4, l5, l6, l7⟩ := hlen
    rw [l1, l2, l3, l4, l5, l6, l7] at hnew hrun
    have l8 : (newT p 0).frames.length = 1 := rfl
    have l9 : (newT p 0).stack.length = 0 := rfl
    rw [l8, l9] at hrun
    simp only [h4, newT] at hnew hrun
    have HKS := Lib.hid KS; have HNEW := Lib.hid hnew; have HRUN := Lib.hid hrun; have HB3 := Lib.hid hb3; have HW := Lib.hid hW3; have HZ := Lib.hid hz3
    obtain ⟨m0, m1, m2, m3, m4, m5, m6⟩ := KS W3 (Below.refl _ _)
    clear hrp hpb hmay hln hfl hnm hxq hq3 l1 l2 l3 l4 l5 l6 l7 l8 l9 KS hnew hrun hb3 hp
    have hzl : wb.heap.size + 1 + 1 < W3.heap.size := by omega
    clear hz3 hW3
    go_upto_region 9 with fail
    rw [← HW.out]
    clear HW
    go_cut [9, 10, 11] (fun s9 s10 s11 wx => LiC W3 x ⟨16, 0, v1⟩ 4 s9 s10 s11 wx)
    case first =>
      go_region_held3 (fun X => X.cell? ⟨wb.heap.size + 1 + 1, 0, none⟩ = some (.slice (some ⟨wb.heap.size + 1, 0, none⟩) 1 1) ∧ X.cell? ⟨wb.heap.size + 1 + 1, 1, none⟩ = some (.int .i64 0) ∧ X.cell? ⟨wb.heap.size + 1 + 1, 2, none⟩ = some (.slice none 0 0) ∧ X.cell? ⟨wb.heap.size + 1 + 1, 3, none⟩ = some (.slice none 0 0) ∧ X.cell? ⟨wb.heap.size + 1 + 1, 4, none⟩ = some (.slice none 0 0) ∧ X.cell? ⟨wb.heap.size + 1 + 1, 5, none⟩ = some (.slice none 0 0) ∧ X.cell? ⟨wb.heap.size + 1 + 1, 6, none⟩ = some (.int .i64 1))
        (first | (exact HKS.out _ (by repeat (first | (with_reducible exact hbr) | (with_reducible exact hbn) | (with_reducible exact Below.refl _ _) | (with_reducible refine Below.drew ?_) | (with_reducible refine Below.setCell ?_ ?hs _; case hs => first | omega | (simp <;> omega) | (have := hbn.size; first | omega | (simp <;> omega)) | (have := hbn.size; have := hbr.size; first | omega | (simp <;> omega))) | (with_reducible refine Below.alloc ?_ ?hs _; case hs => first | omega | (simp <;> omega) | (have := hbn.size; first | omega | (simp <;> omega)) | (have := hbn.size; have := hbr.size; first | omega | (simp <;> omega)))))))
        (first
          | (go_simp; go_at_call 25; refine (HNEW.out _ (by repeat (first | (with_reducible exact hbr) | (with_reducible exact hbn) | (with_reducible exact Below.refl _ _) | (with_reducible refine Below.drew ?_) | (with_reducible refine Below.setCell ?_ ?hs _; case hs => first | omega | (simp <;> omega) | (have := hbn.size; first | omega | (simp <;> omega)) | (have := hbn.size; have := hbr.size; first | omega | (simp <;> omega))) | (with_reducible refine Below.alloc ?_ ?hs _; case hs => first | omega | (simp <;> omega) | (have := hbn.size; first | omega | (simp <;> omega)) | (have := hbn.size; have := hbr.size; first | omega | (simp <;> omega)))))).mono ?_; rintro en wn ⟨⟨nA, nc, nB, nd⟩, rfl, hrn, hn4⟩
             have hbn : Below W3.heap.size W3 wn := Below.trans (by repeat (first | exact Below.refl _ _ | refine Below.drew ?_ | refine Below.alloc ?_ (by first | omega | (simp <;> omega)) _)) (hn4.mono (by first | omega | (simp <;> omega)))
             obtain ⟨hcc, hff⟩ := bcellU hn4
             have hzn := hn4.size
             try simp at hzn
             try (have hn1 : W3.heap.size < wn.heap.size := by omega)
             try (have hn2 : W3.heap.size + 1 < wn.heap.size := by omega))
          | (go_simp; go_at_call 20; refine (HRUN.out _ (by repeat (first | (with_reducible exact hbr) | (with_reducible exact hbn) | (with_reducible exact Below.refl _ _) | (with_reducible refine Below.drew ?_) | (with_reducible refine Below.setCell ?_ ?hs _; case hs => first | omega | (simp <;> omega) | (have := hbn.size; first | omega | (simp <;> omega)) | (have := hbn.size; have := hbr.size; first | omega | (simp <;> omega))) | (with_reducible refine Below.alloc ?_ ?hs _; case hs => first | omega | (simp <;> omega) | (have := hbn.size; first | omega | (simp <;> omega)) | (have := hbn.size; have := hbr.size; first | omega | (simp <;> omega))))) _ _ (RT.below hrn (by repeat (first | exact Below.refl _ _ | refine Below.drew ?_ | refine Below.alloc ?_ (by first | omega | (simp <;> omega)) _)))).mono ?_; rintro er wr ⟨⟨rA, rc, rB, rd⟩, rfl, hrr, hr4⟩
             have hbr : Below W3.heap.size W3 wr := Below.trans (by repeat (first | (with_reducible exact hbr) | (with_reducible exact hbn) | (with_reducible exact Below.refl _ _) | (with_reducible refine Below.drew ?_) | (with_reducible refine Below.setCell ?_ ?hs _; case hs => first | omega | (simp <;> omega) | (have := hbn.size; first | omega | (simp <;> omega)) | (have := hbn.size; have := hbr.size; first | omega | (simp <;> omega))) | (with_reducible refine Below.alloc ?_ ?hs _; case hs => first | omega | (simp <;> omega) | (have := hbn.size; first | omega | (simp <;> omega)) | (have := hbn.size; have := hbr.size; first | omega | (simp <;> omega))))) (hr4.mono (by have := hbn.size; first | omega | (simp; omega) | simp))
             obtain ⟨hcr, hfr⟩ := bcellU hr4
             have hnr : Below wn.heap.size wn wr := Below.trans (by repeat (first | exact Below.refl _ _ | refine Below.drew ?_ | refine Below.alloc ?_ (by first | omega | (simp <;> omega)) _)) (hr4.mono (by first | omega | (simp <;> omega)))
             have hb2 := hn4.trans (hnr.mono hn4.size)
             obtain ⟨hc2, hf2⟩ := bcellU hb2
             have hzr := hr4.size
             try simp at hzr
             try (have hr1 : W3.heap.size < wr.heap.size := by omega)
             try (have hr2 : W3.heap.size + 1 < wr.heap.size := by omega)
             try (have hr3 : wn.heap.size < wr.heap.size := by omega)
             try (have hr5 : wn.heap.size + 1 < wr.heap.size := by omega)))
      all_goals
        go_wp2_with fail
        go_meet
        refine ⟨_, _, ⟨rA, rc, rB, rd⟩, rfl, rfl, rfl, ⟨?b1, ?rt⟩, ?b2, (by repeat (first | (with_reducible exact hbr) | (with_reducible exact hbn) | (with_reducible exact Below.refl _ _) | (with_reducible refine Below.drew ?_) | (with_reducible refine Below.setCell ?_ ?hs _; case hs => first | omega | (simp <;> omega) | (have := hbn.size; first | omega | (simp <;> omega)) | (have := hbn.size; have := hbr.size; first | omega | (simp <;> omega))) | (with_reducible refine Below.alloc ?_ ?hs _; case hs => first | omega | (simp <;> omega) | (have := hbn.size; first | omega | (simp <;> omega)) | (have := hbn.size; have := hbr.size; first | omega | (simp <;> omega)))))⟩
        case b1 => (show Blk _ _ _ #[.int .i64 x.state, .int .i64 x.on, .slice rA x.frames.length rc, .slice rB x.stack.length rd, .int .i64 x.code]; (repeat (first | (with_reducible refine blk_at ?hs; case hs => (first | rfl | (simp; done))) | (with_reducible refine Blk.set5 (v0 := .int .i64 0) (v1 := .int .i64 0) (v2 := .slice none 0 0) (v3 := .slice none 0 0) (v4 := .int .i64 0) ?_ _ _ _ _ _) | (with_reducible refine Blk.set3 (v0 := .int .i64 0) (v1 := .int .i64 0) (v2 := .int .i64 0) ?_ _ _ _) | (with_reducible refine Blk.far ?_ ?hs _; case hs => (show (_ : Nat) ≠ _; first | omega | (simp <;> omega) | (have := hbn.size; first | omega | (simp <;> omega)) | (have := hbn.size; have := hbr.size; first | omega | (simp <;> omega)))) | (with_reducible refine Blk.alloc ?_ _) | (with_reducible refine Blk.below ?_ hr4 ?hs; (case hs => (first | omega | (simp <;> omega) | (have := hbn.size; first | omega | (simp <;> omega)) | (have := hbn.size; have := hbr.size; first | omega | (simp <;> omega)))); (repeat (first | (with_reducible refine blk_at ?hs; case hs => (first | rfl | (simp; done))) | (with_reducible refine Blk.drew ?_) | (with_reducible refine Blk.alloc ?_ _))); done) | (with_reducible refine Blk.below ?_ hb2 ?hs; (case hs => (first | omega | (simp <;> omega) | (have := hbn.size; first | omega | (simp <;> omega)) | (have := hbn.size; have := hbr.size; first | omega | (simp <;> omega)))); (repeat (first | (with_reducible refine blk_at ?hs; case hs => (first | rfl | (simp; done))) | (with_reducible refine Blk.drew ?_) | (with_reducible refine Blk.alloc ?_ _))); done))))
        case b2 => (repeat (first | (with_reducible refine blk_at ?hs; case hs => (first | rfl | (simp; done))) | (with_reducible refine Blk.set5 (v0 := .int .i64 0) (v1 := .int .i64 0) (v2 := .slice none 0 0) (v3 := .slice none 0 0) (v4 := .int .i64 0) ?_ _ _ _ _ _) | (with_reducible refine Blk.set3 (v0 := .int .i64 0) (v1 := .int .i64 0) (v2 := .int .i64 0) ?_ _ _ _) | (with_reducible refine Blk.far ?_ ?hs _; case hs => (show (_ : Nat) ≠ _; first | omega | (simp <;> omega) | (have := hbn.size; first | omega | (simp <;> omega)) | (have := hbn.size; have := hbr.size; first | omega | (simp <;> omega)))) | (with_reducible refine Blk.alloc ?_ _) | (with_reducible refine Blk.below ?_ hr4 ?hs; (case hs => (first | omega | (simp <;> omega) | (have := hbn.size; first | omega | (simp <;> omega)) | (have := hbn.size; have := hbr.size; first | omega | (simp <;> omega)))); (repeat (first | (with_reducible refine blk_at ?hs; case hs => (first | rfl | (simp; done))) | (with_reducible refine Blk.drew ?_) | (with_reducible refine Blk.alloc ?_ _))); done) | (with_reducible refine Blk.below ?_ hb2 ?hs; (case hs => (first | omega | (simp <;> omega) | (have := hbn.size; first | omega | (simp <;> omega)) | (have := hbn.size; have := hbr.size; first | omega | (simp <;> omega)))); (repeat (first | (with_reducible refine blk_at ?hs; case hs => (first | rfl | (simp; done))) | (with_reducible refine Blk.drew ?_) | (with_reducible refine Blk.alloc ?_ _))); done)))
        case rt =>
          refine (hrr.keep fun q hq hl => ?_).mono fun _ _ _ => trivial
          have hq' : _ ≤ q.block := hq
          try simp at hq'
          refine Fr.cell (S := fun i => i ≠ q.block) ?_ hl (fun h => h rfl)
          (repeat (first | (with_reducible exact Fr.refl _ _) | (with_reducible refine Fr.alloc ?_ _) | (with_reducible refine Fr.setCell ?_ (.inl ?hs) _; case hs => (show (_ : Nat) ≠ q.block; first | omega | (simp <;> omega) | (have := hbn.size; first | omega | (simp <;> omega)) | (have := hbn.size; have := hbr.size; first | omega | (simp <;> omega))))))
    case rest =>
      obtain ⟨tb, qb, hx, rfl, rfl, rfl, htb, hqb, hbw⟩ := hcut
      have q0 : wc.cell? ⟨qb, 0, none⟩ = some (.int .i64 16) := (hqb.cell 0).trans rfl
      have q1 : wc.cell? ⟨qb, 1, none⟩ = some (.int .i64 0) := (hqb.cell 1).trans rfl
      have q2 : wc.cell? ⟨qb, 2, none⟩ = some (.int .i64 v1) := (hqb.cell 2).trans rfl
      have hbw2 := HB3.out.trans (hbw.mono HB3.out.size)
      have g1 := G1.out.below hbw2 G1.out.lt
      have g2 := G2.out.below hbw2 G2.out.lt
      have o1 : wc.cell? ⟨w.heap.size + 1, 1, none⟩ = some (.int .i64 v1) := (g2.cell 1).trans rfl
      have g3 := G3.out.trans (hbw2.mono G3.out.size)
      have E1 := Lib.hid g1; have E2 := Lib.hid g2; have E3 := Lib.hid g3
      clear htb hqb hbw m0 m1 m2 m3 m4 m5 m6 hbw2 g1 g2 g3
      go_wp2_with fail
      go_region_held3 (fun X => X.cell? ⟨qb, 0, none⟩ = some (.int .i64 16) ∧ X.cell? ⟨qb, 1, none⟩ = some (.int .i64 0) ∧ X.cell? ⟨qb, 2, none⟩ = some (.int .i64 v1) ∧ X.cell? ⟨w.heap.size + 1, 1, none⟩ = some (.int .i64 v1))
        (first | (exact ⟨q0, q1, q2, o1⟩) | go_keep)
        (fail)
      all_goals go_wp2_with fail
      all_goals exact ⟨⟨.inr (.inr rfl), E1.out, E2.out, E3.out.drew⟩, by simp [intOf]⟩
  · go_wp2_with fail
    all_goals
      refine (vlives_any _).mono ?_
      rintro e wl ⟨rfl, hbl⟩
      go_wp2_with fail
      go_ret
      exact ⟨rfl, G3.out.trans (hbl.mono G3.out.size)⟩
end Go.Proofs.Ytnkcbdifjkclbaa.vmSums
