
/-
  Whether a program may be: the document's own answer.
-/
import Derived.Test.YtmjbfobjndiecaaRefMay
namespace Go.Proofs.Ytmjbfobjndiecaa
open Go.RowKit Plain

def MayX (W : World) (p : PV) (s6 : Value) (wr : World) : Prop := ∃ i : Nat, i ≤ p.choices.length ∧ s6 = .int .i64 (i : Int) ∧ Hid ((p.choices.take i).all (choiceB p.chans.length) = true) ∧ Below W.heap.size W wr
def MayG (W : World) (p : PV) (s8 : Value) (wr : World) : Prop := ∃ i : Nat, i ≤ p.funcs.length ∧ s8 = .int .i64 (i : Int) ∧ Hid ((p.funcs.take i).all (funcB p) = true) ∧ Below W.heap.size W wr
def MayI (W : World) (p : PV) (f : FV) (kA : Option Addr) (kc : Nat) (g : Nat) (s10 : Value) (wr : World) : Prop :=
  ∃ j : Nat, j ≤ f.code.length ∧ s10 = .int .i64 (j : Int) ∧ Hid ((f.code.take j).all (instrB p f) = true) ∧ Blk wr g 45 #[.int .i64 f.locals, .slice kA f.code.length kc] ∧ Below W.heap.size W wr

set_option maxHeartbeats 40000000 in
set_option maxRecDepth 100000 in
theorem refMay_any (h : PH) (p : PV) (w : World) (B : Nat) (hr : RP w B h p) (hB : B ≤ w.heap.size) (hlen : Lens p) :
    Calls Try.prog 8 #[.agg #[.slice h.fA p.funcs.length h.fc, .int .i64 p.mutexes, .slice h.cA p.conds.length h.cc, .slice h.sA p.semas.length h.sc, .slice h.hA p.chans.length h.hc, .slice h.xA p.choices.length h.xc, .int .i64 p.threads]] w fun e w' => e = .returned (.bool (mayB p)) ∧ Below w.heap.size w w' := by
  obtain ⟨W, hW⟩ : ∃ W, W = w.alloc (.cells #[.slice h.fA p.funcs.length h.fc, .int .i64 p.mutexes, .slice h.cA p.conds.length h.cc, .slice h.sA p.semas.length h.sc, .slice h.hA p.chans.length h.hc, .slice h.xA p.choices.length h.xc, .int .i64 p.threads] 26) := ⟨_, rfl⟩
  have hk : Blk W w.heap.size 26 #[.slice h.fA p.funcs.length h.fc, .int .i64 p.mutexes, .slice h.cA p.conds.length h.cc, .slice h.sA p.semas.length h.sc, .slice h.hA p.chans.length h.hc, .slice h.xA p.choices.length h.xc, .int .i64 p.threads] := by rw [hW]; exact Blk.new _ _ _
  have hbw : Below w.heap.size w W := by rw [hW]; exact (Below.refl _ _).alloc (Nat.le_refl _) _
  have l1 := hlen.funcs
  have l2 := hlen.conds
  have l3 := hlen.semas
  have l5 := hlen.chans
  have l6 := hlen.choices
  have HLE := Lib.hid hlen.each
  have HLC := Lib.hid hlen.code
  have zk := hk.lt
  have zw := hbw.size
  have RPX : Hid (∀ X, Below W.heap.size W X → RP X B h p) := fun X hX => hr.below ((hbw.mono hB).trans (hX.mono (by omega)))
  have CHX : Hid (∀ X l A n c, Below W.heap.size W X → RI X B A n c l → n ≤ 9223372036854775807 → Calls Try.prog 24 #[.agg #[.slice h.fA p.funcs.length h.fc, .int .i64 p.mutexes, .slice h.cA p.conds.length h.cc, .slice h.sA p.semas.length h.sc, .slice h.hA p.chans.length h.hc, .slice h.xA p.choices.length h.xc, .int .i64 p.threads], .slice A n c] X fun e w' => e = .returned (.bool (choiceB p.chans.length l)) ∧ Below X.heap.size X w') := fun X l A n c hX hl hn =>
    (refChoice_any h p l X B A n c hl (by have := hX.size; omega) hn l5)
  have INX : Hid (∀ X f i kA kc, Below W.heap.size W X → f.code.length ≤ 64 → Calls Try.prog 25 #[.agg #[.slice h.fA p.funcs.length h.fc, .int .i64 p.mutexes, .slice h.cA p.conds.length h.cc, .slice h.sA p.semas.length h.sc, .slice h.hA p.chans.length h.hc, .slice h.xA p.choices.length h.xc, .int .i64 p.threads], .agg #[.int .i64 f.locals, .slice kA f.code.length kc], .agg #[.int .i64 i.op, .int .i64 i.a]] X fun e w' => e = .returned (.bool (instrB p f i)) ∧ Below X.heap.size X w' ∧ Below W.heap.size W w') := fun X f i kA kc hX hn =>
    (refInstr_any h p f i kA kc X hn).mono fun e w' ⟨he, hb⟩ => ⟨he, hb, hX.trans (hb.mono hX.size)⟩
  obtain ⟨fA, fc, cA, cc, sA, sc, hA, hc, xA, xc⟩ := h
  simp only at hk RPX CHX INX hW ⊢
  have KS : Hid (∀ X, Below W.heap.size W X → X.cell? ⟨w.heap.size, 0, none⟩ = some (.slice fA p.funcs.length fc) ∧ X.cell? ⟨w.heap.size, 1, none⟩ = some (.int .i64 p.mutexes) ∧ X.cell? ⟨w.heap.size, 2, none⟩ = some (.slice cA p.conds.length cc) ∧ X.cell? ⟨w.heap.size, 3, none⟩ = some (.slice sA p.semas.length sc) ∧ X.cell? ⟨w.heap.size, 4, none⟩ = some (.slice hA p.chans.length hc) ∧ X.cell? ⟨w.heap.size, 5, none⟩ = some (.slice xA p.choices.length xc) ∧ X.cell? ⟨w.heap.size, 6, none⟩ = some (.int .i64 p.threads)) := by
    intro X hX
    exact ⟨(hX.cell (p := ⟨w.heap.size, 0, none⟩) zk).trans ((hk.cell 0).trans rfl), (hX.cell (p := ⟨w.heap.size, 1, none⟩) zk).trans ((hk.cell 1).trans rfl), (hX.cell (p := ⟨w.heap.size, 2, none⟩) zk).trans ((hk.cell 2).trans rfl), (hX.cell (p := ⟨w.heap.size, 3, none⟩) zk).trans ((hk.cell 3).trans rfl), (hX.cell (p := ⟨w.heap.size, 4, none⟩) zk).trans ((hk.cell 4).trans rfl), (hX.cell (p := ⟨w.heap.size, 5, none⟩) zk).trans ((hk.cell 5).trans rfl), (hX.cell (p := ⟨w.heap.size, 6, none⟩) zk).trans ((hk.cell 6).trans rfl)⟩
  have HWW : Hid (w.alloc (.cells #[.slice fA p.funcs.length fc, .int .i64 p.mutexes, .slice cA p.conds.length cc, .slice sA p.semas.length sc, .slice hA p.chans.length hc, .slice xA p.choices.length xc, .int .i64 p.threads] 26) = W) := hW.symm
  have HBW := Lib.hid hbw
  obtain ⟨p0, p1, p2, p3, p4, p5, p6⟩ := KS.out W (Below.refl _ _)
  clear hr hlen hk hbw hW
  by_cases hhd : headB p = true
  rotate_left
  · have HV : Hid (mayB p = false) := by show _ = _; unfold mayB; rw [show headB p = false by simpa using hhd]; rfl
    have HH : Hid (¬ headB p = true) := hhd
    clear hhd
    go_enter Try.func8, Try.ntmps8
    go_upto_region 1 with fail
    rw [HWW.out]
    go_upto_region 3 with fail
    all_goals first
      | (go_ret; exact ⟨ret_bool HV.out.symm, HBW.out⟩)
      | (exfalso; refine HH.out ?_; simp only [headB, Bool.and_eq_true, decide_eq_true_eq]; clear p0 p1 p2 p3 p4 p5 p6; omega)
  · have HV : Hid (mayB p = ((allB p.conds (p.mutexes - 1) && allB p.semas 100 && allB p.chans 8) && p.choices.all (choiceB p.chans.length) && p.funcs.all (funcB p))) := by show _ = _; unfold mayB; rw [hhd]; rfl
    simp only [headB, Bool.and_eq_true, decide_eq_true_eq] at hhd
    obtain ⟨⟨⟨⟨⟨⟨⟨⟨⟨a0, a1⟩, a2⟩, a3⟩, a4⟩, a5⟩, a6⟩, a7⟩, a8⟩, a9⟩ := hhd
    go_enter Try.func8, Try.ntmps8
    go_upto_region 1 with fail
    rw [HWW.out]
    go_wp2_with fail
    refine (refAll_any p.conds (p.mutexes - 1) W B _ _ _ (RPX.out W (Below.refl _ _)).conds (by omega)).mono ?_
    rintro e w1 ⟨rfl, rfl⟩
    generalize hb1 : allB p.conds (p.mutexes - 1) = b1
    have HB1 := Lib.hid hb1
    clear hb1
    go_wp2_with fail
    refine (refAll_any p.semas 100 W B _ _ _ (RPX.out W (Below.refl _ _)).semas (by omega)).mono ?_
    rintro e w1 ⟨rfl, rfl⟩
    generalize hb2 : allB p.semas 100 = b2
    have HB2 := Lib.hid hb2
    clear hb2
    go_wp2_with fail
    refine (refAll_any p.chans 8 W B _ _ _ (RPX.out W (Below.refl _ _)).chans (by omega)).mono ?_
    rintro e w1 ⟨rfl, rfl⟩
    generalize hb3 : allB p.chans 8 = b3
    have HB3 := Lib.hid hb3
    clear hb3
    by_cases hb : (b1 && b2 && b3) = false
    · have HV2 : Hid (mayB p = false) := by show _ = _; rw [HV.out, HB1.out, HB2.out, HB3.out, hb]; rfl
      cases b1 <;> cases b2 <;> cases b3
      all_goals first
        | (exfalso; simp at hb; done)
        | (clear hb; go_wp2_with fail; go_ret; exact ⟨ret_bool HV2.out.symm, HBW.out⟩)
    · have hb' : b1 = true ∧ b2 = true ∧ b3 = true := by revert hb; cases b1 <;> cases b2 <;> cases b3 <;> simp
      obtain ⟨rfl, rfl, rfl⟩ := hb'
      have HV2 : Hid (mayB p = (p.choices.all (choiceB p.chans.length) && p.funcs.all (funcB p))) := by show _ = _; rw [HV.out, HB1.out, HB2.out, HB3.out]; rfl
      clear hb
      go_wp2_with fail
      go_loopw [6] (fun s6 wr => MayX W p s6 wr) (fun s6 _ => p.choices.length - (intOf s6).toNat)
      case atStart => exact ⟨0, by omega, rfl, rfl, Below.refl _ _⟩
      case round =>
        obtain ⟨wb, rfl⟩ : ∃ x, x = wr := ⟨_, rfl⟩
        obtain ⟨i, hi, rfl, hall, hbel⟩ := hrel
        have HBL := Lib.hid hbel
        have zb := hbel.size
        obtain ⟨p0, p1, p2, p3, p4, p5, p6⟩ := KS.out wb hbel
        by_cases hlt : i < p.choices.length
        · have hxl := (RPX.out wb hbel).choices
          simp only at hxl
          obtain ⟨ad, t, rfl, hab, htl, hcell, hrt⟩ := hxl.at_ hlt
          have hll := HLE.out _ (List.mem_of_getElem? htl)
          have HAT := Lib.hid (all_take' (P := choiceB p.chans.length) htl)
          have HNO : Hid (choiceB p.chans.length t.l = false → p.choices.all (choiceB p.chans.length) = false) := fun hf => by
            rw [List.all_eq_false]
            exact ⟨_, List.mem_of_getElem? htl, by simp [hf]⟩
          have HRT : Hid (∀ X, Below wb.heap.size wb X → RI X B t.A t.l.length t.c t.l) := fun X hX => hrt.keep fun q hq => hX.cell (by have := HBL.out.size; omega)
          have KX : Hid (∀ X, Below wb.heap.size wb X → (X.cell? ⟨w.heap.size, 0, none⟩ = some (.slice fA p.funcs.length fc) ∧ X.cell? ⟨w.heap.size, 1, none⟩ = some (.int .i64 p.mutexes) ∧ X.cell? ⟨w.heap.size, 2, none⟩ = some (.slice cA p.conds.length cc) ∧ X.cell? ⟨w.heap.size, 3, none⟩ = some (.slice sA p.semas.length sc) ∧ X.cell? ⟨w.heap.size, 4, none⟩ = some (.slice hA p.chans.length hc) ∧ X.cell? ⟨w.heap.size, 5, none⟩ = some (.slice (some ad) p.choices.length xc) ∧ X.cell? ⟨w.heap.size, 6, none⟩ = some (.int .i64 p.threads)) ∧ X.cell? (ad.add i) = some (.slice t.A t.l.length t.c)) := fun X hX =>
            ⟨KS.out X (HBL.out.trans (hX.mono (by omega))), (hX.cell (p := ad.add i) (by rw [block_of_add]; omega)).trans hcell⟩
          have hbq := Below.refl wb.heap.size wb
          clear hxl htl hrt hbel
          go_wp2_with fail
          go_region_held3 (fun w' => (w'.cell? ⟨w.heap.size, 0, none⟩ = some (.slice fA p.funcs.length fc) ∧ w'.cell? ⟨w.heap.size, 1, none⟩ = some (.int .i64 p.mutexes) ∧ w'.cell? ⟨w.heap.size, 2, none⟩ = some (.slice cA p.conds.length cc) ∧ w'.cell? ⟨w.heap.size, 3, none⟩ = some (.slice sA p.semas.length sc) ∧ w'.cell? ⟨w.heap.size, 4, none⟩ = some (.slice hA p.chans.length hc) ∧ w'.cell? ⟨w.heap.size, 5, none⟩ = some (.slice (some ad) p.choices.length xc) ∧ w'.cell? ⟨w.heap.size, 6, none⟩ = some (.int .i64 p.threads)) ∧ w'.cell? (ad.add i) = some (.slice t.A t.l.length t.c))
            (first | (exact KX.out _ hbq) | (exact KX.out _ hbq.drew) | go_keep)
            ((go_simp; refine (CHX.out _ t.l t.A _ t.c (HBL.out.trans ((show Below wb.heap.size wb _ by first | exact hbq | exact hbq.drew).mono (by omega))) (HRT.out _ (by first | exact hbq | exact hbq.drew)) hll).mono ?_; rintro e wq ⟨rfl, hbc⟩
              have hbq : Below wb.heap.size wb wq := (show Below wb.heap.size wb _ by first | exact hbq | exact hbq.drew).trans (hbc.mono (show Below wb.heap.size wb _ by first | exact hbq | exact hbq.drew).size)))
          all_goals
            have HQ := Lib.hid hbq
            clear hbq
            generalize hcb : choiceB p.chans.length t.l = cb
            have HCB := Lib.hid hcb
            clear hcb
            cases cb
            · go_wp2_with fail
              go_ret
              exact ⟨ret_bool (by rw [HV2.out, HNO.out HCB.out]; rfl), HBW.out.trans ((HBL.out.trans (HQ.out.mono zb)).mono zw)⟩
            · go_wp2_with fail
              exact ⟨⟨i + 1, by omega, by go_num, by show _ = _; rw [HAT.out, hall.out, HCB.out]; rfl, HBL.out.trans (HQ.out.mono zb)⟩, by simp [intOf]; omega⟩
        · have HV3 : Hid (mayB p = p.funcs.all (funcB p)) := by
            show _ = _
            rw [HV2.out]
            have h := hall.out
            rw [List.take_of_length_le (by omega)] at h
            rw [h]; rfl
          clear hall hbel HV2
          go_wp2_with fail
          clear p0 p1 p2 p3 p4 p5 p6
          go_loopw [8] (fun s8 wr => MayG W p s8 wr) (fun s8 _ => p.funcs.length - (intOf s8).toNat)
          case atStart => exact ⟨0, by omega, rfl, rfl, HBL.out⟩
          case round =>
            clear HBL zb
            obtain ⟨wv, rfl⟩ : ∃ x, x = wr := ⟨_, rfl⟩
            obtain ⟨k, hk, rfl, hall, hbel⟩ := hrel
            have HBL := Lib.hid hbel
            have zb := hbel.size
            obtain ⟨p0, p1, p2, p3, p4, p5, p6⟩ := KS.out wv hbel
            by_cases hlt2 : k < p.funcs.length
            · have hfl := (RPX.out wv hbel).funcs
              simp only at hfl
              obtain ⟨ad, t, rfl, hab, htl, c0, c1, hrc⟩ := hfl.at_ hlt2
              have hll := HLC.out _ (List.mem_of_getElem? htl)
              have HAT := Lib.hid (all_take' (P := funcB p) htl)
              have HNO : Hid (funcB p t.f = false → p.funcs.all (funcB p) = false) := fun hf => by
                rw [List.all_eq_false]
                exact ⟨_, List.mem_of_getElem? htl, by simp [hf]⟩
              obtain ⟨⟨lo, code⟩, kA, kc⟩ := t
              simp only at c0 c1 hrc hll HAT HNO
              obtain ⟨V, hV⟩ : ∃ V, V = wv.alloc (.cells #[.int .i64 lo, .slice kA code.length kc] 45) := ⟨_, rfl⟩
              have hbv : Below wv.heap.size wv V := by rw [hV]; exact (Below.refl _ _).alloc (Nat.le_refl _) _
              have hbk : Blk V wv.heap.size 45 #[.int .i64 lo, .slice kA code.length kc] := by rw [hV]; exact Blk.new _ _ _
              have zv := hbk.lt
              have HRC : Hid (∀ X, Below V.heap.size V X → RC X B kA code.length kc code) := fun X hX => hrc.keep fun q hq => (hbv.trans (hX.mono hbv.size)).cell (by have := HBL.out.size; omega)
              have HVV := Lib.hid hV.symm
              have HBV := Lib.hid hbv
              have HBK := Lib.hid hbk
              have f0 := (hbk.cell 0).trans rfl
              have f1 := (hbk.cell 1).trans rfl
              clear hfl htl hrc hbel hV hbv hbk
              have HVB : Hid (Below w.heap.size w V) := HBW.out.trans ((HBL.out.trans (HBV.out.mono zb)).mono zw)
              have hps := KS.out V (HBL.out.trans (HBV.out.mono zb))
              by_cases h1 : lo < 0
              · have HF : Hid (funcB p ⟨lo, code⟩ = false) := by show _ = _; simp [funcB]; omega
                go_upto_region 18 with fail
                rw [HVV.out]
                go_wp2_with fail
                go_ret
                exact ⟨ret_bool (by rw [HV3.out, HNO.out HF.out]), HVB.out⟩
              · by_cases h2 : 8 < lo
                · have HF : Hid (funcB p ⟨lo, code⟩ = false) := by show _ = _; simp [funcB]; omega
                  go_upto_region 18 with fail
                  rw [HVV.out]
                  go_wp2_with fail
                  go_ret
                  exact ⟨ret_bool (by rw [HV3.out, HNO.out HF.out]), HVB.out⟩
                · by_cases h3 : 64 < code.length
                  · have HF : Hid (funcB p ⟨lo, code⟩ = false) := by show _ = _; simp [funcB]; omega
                    go_upto_region 18 with fail
                    rw [HVV.out]
                    go_wp2_with fail
                    go_ret
                    exact ⟨ret_bool (by rw [HV3.out, HNO.out HF.out]), HVB.out⟩
                  · have HFV : Hid (funcB p ⟨lo, code⟩ = code.all (instrB p ⟨lo, code⟩)) := by show _ = _; simp [funcB]; omega
                    have hlo : 0 ≤ lo ∧ lo ≤ 8 := by omega
                    have hcl : code.length ≤ 64 := by omega
                    obtain ⟨hlo0, hlo8⟩ := hlo
                    clear h1 h2 h3
                    go_upto_region 18 with fail
                    rw [HVV.out]
                    go_wp2_with fail
                    clear p0 p1 p2 p3 p4 p5 p6 c0 c1 f0 f1 hps
                    go_loopw [10] (fun s10 wx => MayI V p ⟨lo, code⟩ kA kc wv.heap.size s10 wx) (fun s10 _ => code.length - (intOf s10).toNat)
                    case atStart => exact ⟨0, by omega, rfl, rfl, HBK.out, Below.refl _ _⟩
                    case round =>
                      obtain ⟨j, hj, rfl, hal2, hbk2, hbv2⟩ := hrel
                      have zq := hbv2.size
                      have hj : j ≤ code.length := hj
                      by_cases hlt3 : j < code.length
                      · obtain ⟨ad2, ins, rfl, hab2, hil, d0, d1⟩ := (HRC.out wr hbv2).at_ hlt3
                        have HAI := Lib.hid (all_take' (P := instrB p ⟨lo, code⟩) hil)
                        have HNI : Hid (instrB p ⟨lo, code⟩ ins = false → code.all (instrB p ⟨lo, code⟩) = false) := fun hf => by
                          rw [List.all_eq_false]
                          exact ⟨_, List.mem_of_getElem? hil, by simp [hf]⟩
                        have HBX : Hid (∀ X, Below wr.heap.size wr X → Below V.heap.size V X) := fun X hX => hbv2.trans (hX.mono zq)
                        have KX : Hid (∀ X, Below wr.heap.size wr X → (X.cell? ⟨w.heap.size, 0, none⟩ = some (.slice (some ad) p.funcs.length fc) ∧ X.cell? ⟨w.heap.size, 1, none⟩ = some (.int .i64 p.mutexes) ∧ X.cell? ⟨w.heap.size, 2, none⟩ = some (.slice cA p.conds.length cc) ∧ X.cell? ⟨w.heap.size, 3, none⟩ = some (.slice sA p.semas.length sc) ∧ X.cell? ⟨w.heap.size, 4, none⟩ = some (.slice hA p.chans.length hc) ∧ X.cell? ⟨w.heap.size, 5, none⟩ = some (.slice xA p.choices.length xc) ∧ X.cell? ⟨w.heap.size, 6, none⟩ = some (.int .i64 p.threads)) ∧ X.cell? ⟨wv.heap.size, 0, none⟩ = some (.int .i64 lo) ∧ X.cell? ⟨wv.heap.size, 1, none⟩ = some (.slice (some ad2) code.length kc) ∧ X.cell? (ad2.add (j * 2)) = some (.int .i64 ins.op) ∧ X.cell? ⟨(ad2.add (j * 2)).block, (ad2.add (j * 2)).off + 1, none⟩ = some (.int .i64 ins.a)) := fun X hX =>
                          ⟨KS.out X (HBL.out.trans ((HBV.out.trans ((HBX.out X hX).mono (by omega))).mono zb)), ((hbk2.below hX hbk2.lt).cell 0).trans rfl, ((hbk2.below hX hbk2.lt).cell 1).trans rfl, (hX.cell (p := ad2.add (j * 2)) (by rw [block_of_add]; omega)).trans d0, (hX.cell (p := ⟨(ad2.add (j * 2)).block, (ad2.add (j * 2)).off + 1, none⟩) (by show (ad2.add (j * 2)).block < _; rw [block_of_add]; omega)).trans d1⟩
                        have HBK2 := Lib.hid hbk2
                        have hbq := Below.refl wr.heap.size wr
                        obtain ⟨⟨p0, p1, p2, p3, p4, p5, p6⟩, x0, x1, x2, x3⟩ := KX.out wr hbq
                        have i1 : (j : Int) < (code.length : Int) := by omega
                        have i2 : (0 : Int) ≤ (j : Int) := by omega
                        clear hil d0 d1 hbk2
                        go_wp2_with fail
                        go_region_held3 (fun w' => (w'.cell? ⟨w.heap.size, 0, none⟩ = some (.slice (some ad) p.funcs.length fc) ∧ w'.cell? ⟨w.heap.size, 1, none⟩ = some (.int .i64 p.mutexes) ∧ w'.cell? ⟨w.heap.size, 2, none⟩ = some (.slice cA p.conds.length cc) ∧ w'.cell? ⟨w.heap.size, 3, none⟩ = some (.slice sA p.semas.length sc) ∧ w'.cell? ⟨w.heap.size, 4, none⟩ = some (.slice hA p.chans.length hc) ∧ w'.cell? ⟨w.heap.size, 5, none⟩ = some (.slice xA p.choices.length xc) ∧ w'.cell? ⟨w.heap.size, 6, none⟩ = some (.int .i64 p.threads)) ∧ w'.cell? ⟨wv.heap.size, 0, none⟩ = some (.int .i64 lo) ∧ w'.cell? ⟨wv.heap.size, 1, none⟩ = some (.slice (some ad2) code.length kc) ∧ w'.cell? (ad2.add (j * 2)) = some (.int .i64 ins.op) ∧ w'.cell? ⟨(ad2.add (j * 2)).block, (ad2.add (j * 2)).off + 1, none⟩ = some (.int .i64 ins.a))
                          (first | (exact KX.out _ hbq) | (exact KX.out _ hbq.drew) | go_keep)
                          ((go_simp; refine (INX.out _ ⟨lo, code⟩ ins (some ad2) kc (HBL.out.trans ((HBV.out.trans ((HBX.out _ (by first | exact hbq | exact hbq.drew)).mono (by omega))).mono zb)) (by show code.length ≤ 64; omega)).mono ?_; rintro e wq ⟨rfl, hbc, hbd⟩
                            have hbq : Below wr.heap.size wr wq := (show Below wr.heap.size wr _ by first | exact hbq | exact hbq.drew).trans (hbc.mono (show Below wr.heap.size wr _ by first | exact hbq | exact hbq.drew).size)))
                        all_goals
                          have HQ := Lib.hid hbq
                          clear hbq
                          generalize hcb : instrB p ⟨lo, code⟩ ins = cb
                          have HCB := Lib.hid hcb
                          clear hcb
                          cases cb
                          · go_wp2_with fail
                            go_ret
                            exact ⟨ret_bool (by rw [HV3.out, HNO.out (by rw [HFV.out, HNI.out HCB.out])]), HVB.out.trans ((HBX.out _ HQ.out).mono (by omega))⟩
                          · go_wp2_with fail
                            exact ⟨⟨j + 1, (show j + 1 ≤ code.length by omega), by go_num, by show _ = _; rw [HAI.out, hal2.out, HCB.out]; rfl, HBK2.out.below HQ.out HBK2.out.lt, HBX.out _ HQ.out⟩, by simp [intOf]; omega⟩
                      · have HFT : Hid (funcB p ⟨lo, code⟩ = true) := by
                          show _ = _
                          rw [HFV.out]
                          have h := hal2.out
                          rwa [List.take_of_length_le (show code.length ≤ j by omega)] at h
                        have HX2 := Lib.hid hbv2
                        have y1 := (hbk2.cell 1).trans rfl
                        clear hal2 hbk2 hbv2
                        go_wp2_with fail
                        exact ⟨⟨k + 1, by omega, by go_num, by show _ = _; rw [HAT.out, hall.out, HFT.out]; rfl, HBL.out.trans ((HBV.out.trans (HX2.out.mono (by omega))).mono zb)⟩, by simp [intOf]; omega⟩
            · have HF : Hid (p.funcs.all (funcB p) = true) := by
                show _ = _
                have h := hall.out
                rwa [List.take_of_length_le (by omega)] at h
              clear hall
              go_wp2_with fail
              go_ret
              exact ⟨ret_bool (by rw [HV3.out, HF.out]), HBW.out.trans (HBL.out.mono zw)⟩
end Go.Proofs.Ytmjbfobjndiecaa
