
/-
  The program's rule of all functions.
-/
import Derived.Test.YtoahomhnjmdbkaaMayD
set_option linter.unusedVariables false
set_option linter.unusedSimpArgs false
namespace Go.Proofs.Ytoahomhnjmdbkaa
open Go.RowKit Plain

/-- A function, as the program asks. -/
def funcC (p : PV) (f : FV) : Bool := withinB f.locals 0 8 && decide (f.code.length ≤ 64) && f.code.all (ruleB (most p f))

def FuncRel (w : World) (p : PV) (cs : Array Value) (s : Value) (wr : World) : Prop :=
  ∃ k : Nat, k ≤ p.funcs.length ∧ s = .int .i64 (k : Int) ∧ Hid ((p.funcs.take k).all (funcC p) = true) ∧ Blk wr w.heap.size 26 cs ∧ Below w.heap.size w wr

set_option maxHeartbeats 4000000 in
set_option maxRecDepth 100000 in
theorem mayFuncs_any (h : PH) (p : PV) (w : World) (B : Nat) (hr : RP w B h p) (hB : B ≤ w.heap.size) (hlen : Lens p) :
    Calls Try.prog 39 #[.agg #[.slice h.fA p.funcs.length h.fc, .int .i64 p.mutexes, .slice h.cA p.conds.length h.cc, .slice h.sA p.semas.length h.sc, .slice h.hA p.chans.length h.hc, .slice h.xA p.choices.length h.xc, .int .i64 p.threads]] w
      fun e w' => e = .returned (.bool (p.funcs.all (funcC p))) ∧ Below w.heap.size w w' := by
  have l1 := hlen.funcs
  have l2 := hlen.conds
  have l3 := hlen.semas
  have l5 := hlen.chans
  have l6 := hlen.choices
  obtain ⟨fA, fc, cA, cc, sA, sc, hA, hc, xA, xc⟩ := h
  have hrf : RF w B fA p.funcs.length fc p.funcs := hr.funcs
  have HRF := Lib.hid hrf
  have HLEN := Lib.hid hlen.code
  clear hr hrf hlen
  go_enter Try.func39, Try.ntmps39
  go_wp2_with fail
  go_loopw [8] (fun s wr => FuncRel w p #[.slice fA p.funcs.length fc, .int .i64 p.mutexes, .slice cA p.conds.length cc, .slice sA p.semas.length sc, .slice hA p.chans.length hc, .slice xA p.choices.length xc, .int .i64 p.threads] s wr) (fun s _ => p.funcs.length - (intOf s).toNat)
  case atStart => exact ⟨0, by omega, rfl, rfl, Blk.new w _ _, (Below.refl _ _).alloc (Nat.le_refl _) _⟩
  case round =>
    obtain ⟨k, hk, rfl, hall, hbk, hbel⟩ := hrel
    have HBK := Lib.hid hbk; have HBL := Lib.hid hbel
    have zr := hbel.size
    have zg := hbk.lt
    clear hbk
    by_cases hlt : k < p.funcs.length
    · obtain ⟨ad, t, rfl, hab, hi, c0, c1, hrc⟩ := HRF.out.at_ hlt
      have hcl := HLEN.out _ (List.mem_of_getElem? hi)
      have d0 := (hbel.cell (p := ad.add (k * 2)) (by rw [block_of_add]; omega)).trans c0
      have d1 := (hbel.cell (p := ⟨(ad.add (k * 2)).block, (ad.add (k * 2)).off + 1, none⟩) (by show (ad.add (k * 2)).block < _; rw [block_of_add]; omega)).trans c1
      have HRC : Hid (∀ W, Below wr.heap.size wr W → RC W B t.A t.f.code.length t.c t.f.code) := fun W hW => hrc.keep fun q hq => (hW.cell (by omega)).trans (HBL.out.cell (by omega))
      have HS := Lib.hid (all_take' (P := funcC p) hi)
      have HNO : Hid (funcC p t.f = false → p.funcs.all (funcC p) = false) := fun hf => by
        rw [List.all_eq_false]
        exact ⟨t.f, List.mem_of_getElem? hi, by simp [hf]⟩
      obtain ⟨⟨lo, code⟩, kA, kc⟩ := t
      simp only at d0 d1 HRC HS HNO hcl hi ⊢
      have HBF := Lib.hid (Blk.new wr 45 #[.int .i64 lo, .slice kA code.length kc])
      have e0 := (HBF.out.cell 0).trans rfl
      clear hi c0 c1 hbel hrc
      go_wp2_with fail
      refine (within_any _ _ _ _).mono ?_
      rintro e w' ⟨rfl, rfl⟩
      generalize hwi : withinB lo 0 8 = b0
      cases b0
      · have HF : Hid (funcC p ⟨lo, code⟩ = false) := by show _ = _; unfold funcC; rw [hwi]; rfl
        clear hwi
        go_wp2_with fail
        go_ret
        exact ⟨ret_bool (HNO.out HF.out).symm, HBL.out.alloc zr _⟩
      · have e1 := (HBF.out.cell 1).trans rfl
        by_cases h64 : 64 < code.length
        · have HF : Hid (funcC p ⟨lo, code⟩ = false) := by show _ = _; unfold funcC; simp; omega
          clear hwi
          go_wp2_with fail
          go_ret
          exact ⟨ret_bool (HNO.out HF.out).symm, HBL.out.alloc zr _⟩
        · have HV : Hid (funcC p ⟨lo, code⟩ = code.all (ruleB (most p ⟨lo, code⟩))) := by show _ = _; unfold funcC; rw [hwi]; simp; omega
          clear hwi
          obtain ⟨W, hW⟩ : ∃ W, W = wr.alloc (.cells #[.int .i64 lo, .slice kA code.length kc] 45) := ⟨_, rfl⟩
          have hbw : Below wr.heap.size wr W := by rw [hW]; exact (Below.refl _ _).alloc (Nat.le_refl _) _
          rw [← hW] at HBF e0 e1
          have hbp := HBK.out.below hbw zg
          have zW := HBF.out.lt
          have HBW := Lib.hid hbw
          have HBP := Lib.hid hbp
          have p0 := (hbp.cell 0).trans rfl
          have p1 := (hbp.cell 1).trans rfl
          have p2 := (hbp.cell 2).trans rfl
          have p3 := (hbp.cell 3).trans rfl
          have p4 := (hbp.cell 4).trans rfl
          have p5 := (hbp.cell 5).trans rfl
          have p6 := (hbp.cell 6).trans rfl
          go_upto_region 6 with fail
          rw [← hW]
          clear hW hbw hbp
          have KS : Hid (∀ X, Below W.heap.size W X → X.cell? ⟨wr.heap.size, 0, none⟩ = some (.int .i64 lo) ∧ X.cell? ⟨wr.heap.size, 1, none⟩ = some (.slice kA code.length kc) ∧ X.cell? ⟨w.heap.size, 0, none⟩ = some (.slice (some ad) p.funcs.length fc) ∧ X.cell? ⟨w.heap.size, 1, none⟩ = some (.int .i64 p.mutexes) ∧ X.cell? ⟨w.heap.size, 2, none⟩ = some (.slice cA p.conds.length cc) ∧ X.cell? ⟨w.heap.size, 3, none⟩ = some (.slice sA p.semas.length sc) ∧ X.cell? ⟨w.heap.size, 4, none⟩ = some (.slice hA p.chans.length hc) ∧ X.cell? ⟨w.heap.size, 5, none⟩ = some (.slice xA p.choices.length xc) ∧ X.cell? ⟨w.heap.size, 6, none⟩ = some (.int .i64 p.threads)) := by
            intro X hX
            exact ⟨(hX.cell (p := ⟨wr.heap.size, 0, none⟩) (by show wr.heap.size < W.heap.size; omega)).trans e0, (hX.cell (p := ⟨wr.heap.size, 1, none⟩) (by show wr.heap.size < W.heap.size; omega)).trans e1, (hX.cell (p := ⟨w.heap.size, 0, none⟩) (by show w.heap.size < W.heap.size; omega)).trans p0, (hX.cell (p := ⟨w.heap.size, 1, none⟩) (by show w.heap.size < W.heap.size; omega)).trans p1, (hX.cell (p := ⟨w.heap.size, 2, none⟩) (by show w.heap.size < W.heap.size; omega)).trans p2, (hX.cell (p := ⟨w.heap.size, 3, none⟩) (by show w.heap.size < W.heap.size; omega)).trans p3, (hX.cell (p := ⟨w.heap.size, 4, none⟩) (by show w.heap.size < W.heap.size; omega)).trans p4, (hX.cell (p := ⟨w.heap.size, 5, none⟩) (by show w.heap.size < W.heap.size; omega)).trans p5, (hX.cell (p := ⟨w.heap.size, 6, none⟩) (by show w.heap.size < W.heap.size; omega)).trans p6⟩
          go_region_held3 (fun w' => w'.cell? ⟨wr.heap.size, 0, none⟩ = some (.int .i64 lo) ∧ w'.cell? ⟨wr.heap.size, 1, none⟩ = some (.slice kA code.length kc) ∧ w'.cell? ⟨w.heap.size, 0, none⟩ = some (.slice (some ad) p.funcs.length fc) ∧ w'.cell? ⟨w.heap.size, 1, none⟩ = some (.int .i64 p.mutexes) ∧ w'.cell? ⟨w.heap.size, 2, none⟩ = some (.slice cA p.conds.length cc) ∧ w'.cell? ⟨w.heap.size, 3, none⟩ = some (.slice sA p.semas.length sc) ∧ w'.cell? ⟨w.heap.size, 4, none⟩ = some (.slice hA p.chans.length hc) ∧ w'.cell? ⟨w.heap.size, 5, none⟩ = some (.slice xA p.choices.length xc) ∧ w'.cell? ⟨w.heap.size, 6, none⟩ = some (.int .i64 p.threads))
            (first | (exact KS.out _ hbq2) | (exact KS.out _ hbq2.drew) | (exact KS.out _ hbq1) | (exact KS.out _ hbq1.drew) | (exact KS.out _ (Below.refl _ _)) | (exact KS.out _ (Below.refl _ _).drew) | go_keep)
            (first
              | (go_simp; go_at_call 75; refine (rules_any _ _ _ _ _ _ _ _ _ _ _ _ _ _ _ _ _ _ _ _ _ _ (by omega)).mono ?_; rintro e w1 ⟨arr, rfl, hsz, hru, hb1⟩
                 have hbq1 : Below W.heap.size W w1 := (by first | exact ((Below.refl _ _).drew).trans hb1 | exact hb1))
              | (go_simp; go_at_call 74; refine (mayCode_any code (most p ⟨lo, code⟩) arr w1 B kA _ kc (HRC.out _ (HBW.out.trans (hbq1.mono (by omega)))) (by have := hbq1.size; omega) (by omega) hsz hru).mono ?_; rintro e w2 ⟨rfl, hb2⟩
                 have hbq2 : Below W.heap.size W w2 := hbq1.trans (hb2.mono hbq1.size)))
          have HQ := Lib.hid hbq2
          have zq := hbq2.size
          clear hbq2 hbq1 hru hsz hb1 hb2 p0 p1 p2 p3 p4 p5 p6 e0 e1 KS
          generalize hall2 : code.all (ruleB (most p ⟨lo, code⟩)) = b1
          have HA2 := Lib.hid hall2
          clear hall2
          cases b1
          · go_wp2_with fail
            go_ret
            exact ⟨ret_bool (HNO.out (by rw [HV.out, HA2.out])).symm, HBL.out.trans ((HBW.out.trans (HQ.out.mono (by omega))).mono zr)⟩
          · go_wp2_with fail
            refine ⟨⟨k + 1, by omega, by go_num, by show _ = _; rw [HS.out, hall.out, HV.out, HA2.out]; rfl, HBP.out.below HQ.out (by omega), HBL.out.trans ((HBW.out.trans (HQ.out.mono (by omega))).mono zr)⟩, by simp [intOf]; omega⟩
    · have hf : p.funcs.all (funcC p) = true := by have := hall.out; rwa [List.take_of_length_le (by omega)] at this
      have HFL := Lib.hid hf
      clear hf
      go_wp2_with fail
      go_ret
      exact ⟨ret_bool HFL.out.symm, HBL.out⟩
end Go.Proofs.Ytoahomhnjmdbkaa
