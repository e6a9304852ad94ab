
/-
  The law's does: Recv.
-/
import Derived.Test.YtbgigkamlnchcaaChDl
set_option linter.unusedVariables false
set_option linter.unusedSimpArgs false
namespace Go.Proofs.Ytbgigkamlnchcaa
open Go.RowKit Plain

set_option maxRecDepth 100000 in
set_option maxHeartbeats 8000000 in
theorem does_recv (w : World) (B : Nat) (h : ChH) (E : Nat → Prop) (z : ChZ) (n : Nat) (s : Ck) (r0 r1 r2 r3 tv cv vv : Int) (A : Option Addr) (lk lc : Nat) (l : List Int) (hl : ChM w B h s) (hd : DocC w E z n s) {K : Nat} (O : CkOk K n s) (hK : K ≤ 40000) (hnu : n ≤ 4) (hnd : 4 ≤ n) (hE : ∀ k, E k → k < w.heap.size → ¬ h.W k) (hrl : RN w (fun k => ¬ h.W k) A lc l) (hlk : l.length = lk) (hr0 : -9223372036854775808 ≤ r0 ∧ r0 ≤ 9223372036854775807) (hr1 : -9223372036854775808 ≤ r1 ∧ r1 ≤ 9223372036854775807) (hr2 : -9223372036854775808 ≤ r2 ∧ r2 ≤ 9223372036854775807) (hr3 : -9223372036854775808 ≤ r3 ∧ r3 ≤ 9223372036854775807) (ht1 : -9223372036854775808 ≤ tv) (ht2 : tv ≤ 9223372036854775807) (hc1 : -9223372036854775808 ≤ cv) (hc2 : cv ≤ 9223372036854775807) (hlb : ∀ x ∈ l, -9223372036854775808 ≤ x ∧ x ≤ 9223372036854775807) (s2 : Ck) (a1 a2 : Int) (a3 : Bool) (hs2 : recvV s (chV cv) (aroundV tv 8) = (s2, a1, a2, a3)):
    Calls Try.prog 11 #[.pointer (some ⟨h.g, 0, none⟩), .agg (mkD z n), .agg #[.int .i64 r0, .int .i64 r1, .int .i64 r2, .int .i64 r3], .agg #[.int .i64 1, .int .i64 tv, .int .i64 cv, .int .i64 vv, .slice A lk lc]] w (fun e w' => DePost w B h E n s e w' ∨ DePost w B h E n s2 e w') := by
  have hdw := DeW.new (lk := lk) w r0 r1 r2 r3 1 tv cv vv hl hd hrl
  obtain ⟨W3, hW3⟩ : ∃ W, W = (((w.alloc (.cells (mkD z n) 28)).alloc (.cells #[.int .i64 r0, .int .i64 r1, .int .i64 r2, .int .i64 r3] 22)).alloc (.cells #[.int .i64 1, .int .i64 tv, .int .i64 cv, .int .i64 vv, .slice A lk lc] 35)).alloc (.cells zeroC 28) := ⟨_, rfl⟩
  rw [← hW3] at hdw
  have hgb := hl.box.lt
  have HDW0 := Lib.hid hdw; have HW3 := Lib.hid hW3; have HGB := Lib.hid hgb
  have htt := aroundV_lt (n := tv) (show (0 : Int) < 8 by omega)
  have har := fun W => around_any tv 8 W ht1 ht2 (by omega) (by omega)
  have hac := fun W => around_any cv 4 W hc1 hc2 (by omega) (by omega)
  rw [chV_eq cv] at hac
  have hcm := chV_lt cv
  generalize chV cv = m at *
  generalize aroundV tv 8 = t at *
  have hm : m < n := by omega
  have HAR := Lib.hid har; have HAC := Lib.hid hac
  have hfree := fun W (hb : Below W3.heap.size W3 W) => refFree_any W _ z n s (hdw.dc.below hb (Nat.le_refl _)) O (by omega) (by omega) t
  have HFREE := Lib.hid hfree
  have HEE := Lib.hid hE; have HO := Lib.hid O; have HK := Lib.hid hK; have HTT := Lib.hid htt; have HLK := Lib.hid hlk; have HLB := Lib.hid hlb
  have HS2 := Lib.hid hs2
  clear hs2
  obtain ⟨x0, x1, x2, x3, x4, x5, x6, x7, x8, x9⟩ := blk10 hdw.b5
  have d0 : W3.cell? ⟨w.heap.size + 1 + 1, 0, none⟩ = some (.int .i64 1) := (hdw.b7.cell 0).trans rfl
  have d1 : W3.cell? ⟨w.heap.size + 1 + 1, 1, none⟩ = some (.int .i64 tv) := (hdw.b7.cell 1).trans rfl
  have d2 : W3.cell? ⟨w.heap.size + 1 + 1, 2, none⟩ = some (.int .i64 cv) := (hdw.b7.cell 2).trans rfl
  have d3 : W3.cell? ⟨w.heap.size + 1 + 1, 3, none⟩ = some (.int .i64 vv) := (hdw.b7.cell 3).trans rfl
  have d4 : W3.cell? ⟨w.heap.size + 1 + 1, 4, none⟩ = some (.slice A lk lc) := (hdw.b7.cell 4).trans rfl
  clear hl hd hdw hW3 hgb har hac hfree hE O hK htt ht1 ht2 hc1 hc2 hrl hlk hlb
  go_enter Try.func11, Try.ntmps11
  go_upto_region 1 with fail
  rw [← HW3.out]
  clear HW3
  go_wp2_with fail
  refine (HAR.out _).mono ?_
  rintro e w4 ⟨rfl, rfl⟩
  clear HAR
  go_wp2_with fail
  refine (HAC.out _).mono ?_
  rintro e w4 ⟨rfl, rfl⟩
  clear HAC
  go_wp2_with fail
  refine (HFREE.out _ (Below.refl _ _)).mono ?_
  rintro e W4 ⟨bw, rfl, hb4⟩
  have hdw4 := HDW0.out.later hb4
  have HDW := Lib.hid hdw4
  clear HFREE HDW0 x0 x1 x2 x3 x4 x5 x6 x7 x8 x9 d0 d1 d2 d3 d4 hb4
  obtain ⟨x0, x1, x2, x3, x4, x5, x6, x7, x8, x9⟩ := blk10 hdw4.b5
  have d0 : W4.cell? ⟨w.heap.size + 1 + 1, 0, none⟩ = some (.int .i64 1) := (hdw4.b7.cell 0).trans rfl
  have d1 : W4.cell? ⟨w.heap.size + 1 + 1, 1, none⟩ = some (.int .i64 tv) := (hdw4.b7.cell 1).trans rfl
  have d2 : W4.cell? ⟨w.heap.size + 1 + 1, 2, none⟩ = some (.int .i64 cv) := (hdw4.b7.cell 2).trans rfl
  have d3 : W4.cell? ⟨w.heap.size + 1 + 1, 3, none⟩ = some (.int .i64 vv) := (hdw4.b7.cell 3).trans rfl
  have d4 : W4.cell? ⟨w.heap.size + 1 + 1, 4, none⟩ = some (.slice A lk lc) := (hdw4.b7.cell 4).trans rfl
  clear hdw4
  cases bw with
  | false =>
    have hE := de_end (E := E) HDW.out.b8 HDW.out.ch (HDW.out.dc.mono (E' := ME w E) (fun i hi _ => .inl hi)) ((Fr.of_below HDW.out.bel).mono (S := h.W) (fun i hi e => by omega)) HGB.out HDW.out.hW
    have HE := Lib.hid hE
    obtain ⟨s0, s1, s2, s3, s4, s5, s6, s7, s8, s9⟩ := blk10 HDW.out.b8
    obtain ⟨v0, v1, v2, v3, v4, v5, v6, v7, v8, v9⟩ := froD HDW.out.b8
    clear hE HDW HGB d1 d2 d3 d4
    go_wp2_with fail
    refine bodyPost_ret (v := .tuple #[.agg (mkD z n), .bool true]) (resC_1 rfl _ _ (w.heap.size + 1 + 1 + 1) 28 _ (0, 0) _ _ rfl rfl HE.out.2 Try.underlying28 rfl (by kernel_rfl)) rfl (Or.inl HE.out.1)
  | true =>
    have hdc := refRecv_any W4 _ z n s HDW.out.dc HO.out (by have := HK.out; omega) (by omega) m hm t
    rw [HS2.out] at hdc
    have HDC := Lib.hid hdc
    clear hdc
    go_upto_region 15 with fail
    go_wp2_with fail
    refine HDC.out.mono ?_
    rintro e w5 ⟨z', rfl, hd6, hb⟩
    clear HDC
    have zb := hb.size
    obtain ⟨nb, hnb⟩ : ∃ b, b = w5.heap.size := ⟨_, rfl⟩
    obtain ⟨W5, hW5⟩ : ∃ W, W = w5.alloc (.cells (mkD z' n) 28) := ⟨_, rfl⟩
    have hall : Below W4.heap.size W4 W5 := by rw [hW5]; exact hb.alloc zb _
    have hdw5 := HDW.out.later hall
    have hgn : Blk W5 nb 28 (mkD z' n) := by rw [hnb, hW5]; exact Blk.new w5 _ _
    have hd5 : DocC W5 (ME w E) z' n s2 := ((hd6.mono (E' := ME w E) (fun k hk _ => .inr (by have := HDW.out.sz; omega))).below (by rw [hW5]; exact (Below.refl _ w5).alloc (Nat.le_refl _) _) (Nat.le_refl _))
    have hnw : w.heap.size + 1 + 1 + 1 + 1 ≤ nb := by have := HDW.out.sz; omega
    have HDW5 := Lib.hid hdw5; have HGN := Lib.hid hgn; have HD5 := Lib.hid hd5; have HW5 := Lib.hid hW5; have HNB := Lib.hid hnb
    clear zb hnb hW5 hall hdw5 hgn hd5 hd6 hb HDW x0 x1 x2 x3 x4 x5 x6 x7 x8 x9 d0 d1 d2 d3 d4
    go_upto_region 16 with fail
    rw [← HW5.out, ← HNB.out]
    clear HW5 HNB
    have hpc := recv_any HDW5.out.ch HO.out (by have := HK.out; omega) (by omega) m hm t HTT.out.1
    rw [HS2.out] at hpc
    have HPC := Lib.hid hpc
    clear hpc
    go_wp2_with fail
    refine HPC.out.mono ?_
    rintro e w6 ⟨rfl, hT⟩
    clear HPC
    have hgn6 := hT.2.blk HGN.out (fun e => by have := HDW5.out.hW _ e; omega)
    have k8 := hT.2.blk HDW5.out.b8 (fun e => by have := HDW5.out.hW _ e; omega)
    have hE := de_end (E := E) k8 hT.1 (HD5.out.fr hT.2 (fun i hi _ e => by
      have h1 := HDW5.out.hW _ e
      rcases hi with hi | hi
      · exact HEE.out i hi.1 hi.2 e
      · omega)) (((Fr.of_below HDW5.out.bel).mono (S := h.W) (fun i hi e => by omega)).trans hT.2 (fun i _ e => e)) HGB.out HDW5.out.hW
    have HE := Lib.hid hE
    obtain ⟨n0, n1, n2, n3, n4, n5, n6, n7, n8, n9⟩ := blk10 hgn6
    obtain ⟨s0, s1, s2, s3, s4, s5, s6, s7, s8, s9⟩ := blk10 k8
    obtain ⟨v0, v1, v2, v3, v4, v5, v6, v7, v8, v9⟩ := froD k8
    clear hE hT hgn6 k8 HDW5 HD5 HGN HGB HEE HO HK HTT
    go_wp2_with fail
    refine bodyPost_ret (v := .tuple #[.agg (mkD z' n), .bool true]) (resC_1 rfl _ _ (w.heap.size + 1 + 1 + 1) 28 _ (0, 0) _ _ rfl rfl HE.out.2 Try.underlying28 rfl (by kernel_rfl)) rfl (Or.inr HE.out.1)
end Go.Proofs.Ytbgigkamlnchcaa
