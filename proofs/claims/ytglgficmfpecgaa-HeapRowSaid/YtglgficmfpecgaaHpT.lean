
/-
  A heap's calls: out.
-/
import Derived.Test.YtglgficmfpecgaaHpS
set_option linter.unusedVariables false
set_option linter.unusedSimpArgs false
namespace Go.Proofs.Ytglgficmfpecgaa
open Go.RowKit Plain

theorem own_cut {w : World} {B g c p : Nat} {ts : List Tm} (H : w.ownsRow B 59 2 (.slice (some ⟨g, 0, none⟩) ts.length c) ts.length (flat ts)) (hp : p + 1 = ts.length) :
    w.ownsRow B 59 2 (.slice (some ⟨g, 0, none⟩) (ts.take p).length c) (ts.take p).length (flat (ts.take p)) := by
  rcases H.2 with ⟨h0, _⟩ | ⟨g', cap, cur, h0, hb, hc, h1, h2, h3, h4⟩
  · cases h0
  · injection h0 with h5 h6 h7
    injection h5 with h5
    injection h5 with h5
    subst h5 h7
    have hl : (ts.take p).length = p := by simp; omega
    refine ⟨flat_length _, .inr ⟨g, c, cur, rfl, hb, hc, by omega, h2, h3, ?_⟩⟩
    rw [hl, flat_take, ← h4, List.take_take, Nat.min_eq_left (by omega)]
section
variable {w : World} {B h n : Nat} {ts : List Tm}
set_option maxRecDepth 100000 in
set_option maxHeartbeats 8000000 in
theorem out_any (i : Nat) (H : HP w B h ts n) (hB : B ≤ w.heap.size) (hi : i < ts.length) (hs : ts.length ≤ 100000) :
    Calls Try.prog 32 #[.pointer (some ⟨h, 0, none⟩), .int .i64 (i : Int)] w fun e w' => e = .returned (.tuple #[]) ∧ HP w' B h (outV ts i n).1 (outV ts i n).2 ∧ Fx B w w' := by
  obtain ⟨m, v, f, H, hv⟩ := H
  obtain ⟨p, hp⟩ : ∃ p, ts.length = p + 1 := ⟨ts.length - 1, by omega⟩
  obtain ⟨k0, k1, _, kz⟩ := H.box_cells
  have z0 := kz 0
  obtain ⟨g, c, rfl, hlc, hg, hgh, hgm, a0, a1, b0, b1⟩ := H.two hi (show p < ts.length by omega)
  have hh := H.lt.1
  have HP0 := Lib.hid hp
  obtain ⟨ki, hki⟩ : ∃ z, z = (gt ts i).1 := ⟨_, rfl⟩
  obtain ⟨kp, hkp⟩ : ∃ z, z = (gt ts p).1 := ⟨_, rfl⟩
  obtain ⟨ap, hap⟩ : ∃ z, z = (gt ts p).2 := ⟨_, rfl⟩
  rw [← hki] at a0
  rw [← hkp] at b0
  rw [← hap] at b1
  rw [hp] at k0 hlc
  have hi' : (i : Int) < (p : Int) + 1 := by omega
  have hw1 : IntKind.i64.wrap (p : Int) = (p : Int) := IntWalk.i64_in _ (by omega)
  have hpb : p ≤ 100000 := by omega
  have HK := Lib.hid (Try.underlying53)
  have HH := Lib.hid H; have HKI := Lib.hid hki; have HKP := Lib.hid hkp; have HAP := Lib.hid hap
  have HLC := Lib.hid hlc
  have hcp : p ≤ c := by omega
  have HV := Lib.hid hv
  clear H kz a1 hp hki hkp hap hv
  go_enter Try.func32, Try.ntmps32
  go_wp2_with fail
  have hm0 : IsMI w.drew m f := HH.out.mp
  go_cut [] (fun wx => IsMI wx m (upd f ki none) ∧ Fr (fun j => j = m) w wx ∧ wx.heap.size = w.heap.size)
  case first =>
    go_region_law (refine step_del_mi (et := 3) (by rfl) (.tmp 9) (.tmp 17) _ _ (by rfl) HK.out Try.underlying3 m f hm0 ki (by rfl) (by rfl) ?_; intro W1 hm1 hf1 hs1)
    all_goals
      go_wp2_with fail
      go_meet
      exact ⟨hm1, ((Fr.refl (fun j => j = m) w).drew.trans hf1 (fun _ _ h => h)), hs1⟩
  obtain ⟨hm1, hf1, hs1⟩ := hcut
  have H1 : HpX wc B h m (.slice (some ⟨g, 0, none⟩) ts.length c) ts (upd f ki none) n := ⟨hf1.blk HH.out.box HH.out.hm, hf1.own HH.out.row (fun j hj => (HH.out.own_ne hj).2.1), hm1, HH.out.hb, HH.out.mb⟩
  have hfx1 : Fx B w wc := HH.out.fx hB (hf1.mono (fun i _ e => .inr (.inl e)))
  obtain ⟨l0, l1, _, lz⟩ := H1.box_cells
  obtain ⟨g', c', hvv, _, _, _, _, x0, x1, _⟩ := H1.cells (show p < ts.length by have := HP0.out; omega)
  injection hvv with v1 v2 v3
  injection v1 with v1
  injection v1 with v1
  subst v1 v3
  rw [← HKP.out] at x0
  rw [← HAP.out] at x1
  rw [HP0.out] at l0
  have y0 := lz 0
  have hg1 : g < wc.heap.size := by rw [hs1]; exact hg
  have hh1 : h < wc.heap.size := by rw [hs1]; exact hh
  have HM1 := Lib.hid hm1; have HF1 := Lib.hid hf1; have HS1 := Lib.hid hs1; have HH1 := Lib.hid H1; have HFX1 := Lib.hid hfx1
  clear hm1 hf1 hs1 H1 hfx1 hm0 k0 k1 z0 a0 b0 b1 hg hh lz
  have hgp : g ≠ wc.heap.size := by omega
  have hhp : h ≠ wc.heap.size := by omega
  have hcut : HpX ((wc.setCell ⟨h, 0, none⟩ (.slice (some ⟨g, 0, none⟩) p c)).alloc (.cells #[.int .i64 kp, .int .i64 ap] 59)) B h m (.slice (some ⟨g, 0, none⟩) (ts.take p).length c) (ts.take p) (upd f ki none) n ∧ Fx B wc ((wc.setCell ⟨h, 0, none⟩ (.slice (some ⟨g, 0, none⟩) p c)).alloc (.cells #[.int .i64 kp, .int .i64 ap] 59)) := by
    have hl : (ts.take p).length = p := by have := HP0.out; simp; omega
    have f0 : Fr (fun j => j = h) wc ((wc.setCell ⟨h, 0, none⟩ (.slice (some ⟨g, 0, none⟩) p c)).alloc (.cells #[.int .i64 kp, .int .i64 ap] 59)) := ((Fr.refl (fun j => j = h) wc).setCell (p := ⟨h, 0, none⟩) (.inl rfl) _).alloc _
    have b0 := (HH1.out.box.set_ 0 (.slice (some ⟨g, 0, none⟩) p c)).alloc (.cells #[.int .i64 kp, .int .i64 ap] 59)
    refine ⟨⟨?_, f0.own (own_cut HH1.out.row HP0.out.symm) (fun j hj => ?_), HH1.out.mp.fr f0 (fun e => HH1.out.hm e.symm), HH1.out.hb, HH1.out.mb⟩, HH1.out.fx (Nat.le_trans hB HFX1.out.bel.size) (f0.mono (fun i _ e => .inl e))⟩
    · rw [hl]
      simpa using b0
    · have : g = j := by simpa [Value.ownBlock] using hj
      subst this
      exact hgh
  have HC := Lib.hid hcut
  clear hcut
  by_cases hip : i < p
  · have hip' : (i : Int) < (p : Int) := by omega
    have hov : outV ts i n = settleV ((ts.take p).set i (gt ts p)) i n := by
      unfold outV
      rw [HP0.out, if_pos (by omega)]
      rfl
    have HOV := Lib.hid hov
    clear hov
    have hput := put_any i (gt ts p) HC.out.1 (Nat.le_trans hB (Nat.le_trans HFX1.out.bel.size HC.out.2.bel.size)) (by have := HP0.out; simp; omega) (by simp; omega)
    unfold tmV at hput
    rw [← HKP.out, ← HAP.out] at hput
    have HPU := Lib.hid hput
    clear hput
    go_wp2_with fail
    refine HPU.out.mono ?_
    rintro e w3 ⟨rfl, h3, f3⟩
    have fx3 := HFX1.out.trans (HC.out.2.trans (HC.out.1.fx (Nat.le_trans hB (Nat.le_trans HFX1.out.bel.size HC.out.2.bel.size)) f3))
    have hv3 := HV.out.move HP0.out.symm hip
    have hse := settle_any i (w := w3) (B := B) (h := h) (n := n) (ts := (ts.take p).set i (gt ts p)) ⟨m, _, _, h3, by rw [HKP.out, HKI.out]; exact hv3⟩ (Nat.le_trans hB fx3.bel.size) (by have := HP0.out; simp; omega) (by simp; omega)
    have HSE := Lib.hid hse; have HFX3 := Lib.hid fx3
    clear h3 f3 fx3 hv3 hse HPU
    go_wp2_with fail
    refine HSE.out.mono ?_
    rintro e w4 ⟨rfl, h4, f4⟩
    go_wp2_with fail
    go_end0
    rw [HOV.out]
    exact ⟨rfl, h4, HFX3.out.trans f4⟩
  · have hip' : ¬ (i : Int) < (p : Int) := by omega
    have hov : outV ts i n = (ts.take p, n) := by
      unfold outV
      rw [HP0.out, if_neg (by omega)]
      rfl
    have hie : i = p := by omega
    have HOV := Lib.hid hov; have HIE := Lib.hid hie
    clear hov hie
    go_wp2_with fail
    go_end0
    rw [HOV.out]
    have hv3 := HV.out.cut HP0.out.symm
    refine ⟨rfl, ⟨m, _, _, HC.out.1, ?_⟩, HFX1.out.trans HC.out.2⟩
    have hki := HKI.out
    rw [HIE.out] at hki
    rw [hki]
    exact hv3
end
end Go.Proofs.Ytglgficmfpecgaa
