
/-
  MayD, MayE, MayF in one text.
-/
import Derived.Test.YtmjbfobjndiecaaMayC
set_option linter.unusedVariables false
set_option linter.unusedSimpArgs false
namespace Go.Proofs.Ytmjbfobjndiecaa
section
open Go.RowKit Plain

/-- An instruction, as the program asks. -/
def ruleB (m : Int → Int) (i : IV) : Bool :=
  withinB i.op 0 26 && (if i.op = 0 then withinB i.a (-1073741824) 1073741824 else if asks i.op then belowB (m i.op) i.a else belowB 1 i.a)

theorem eq_nil_nil (w : World) : (binOp BinOp.eql 68 .nilFunc .nilFunc).run Try.prog w = .ok (.bool true) w := by kernel_rfl
theorem eq_func_nil (fn : Fn) (first captured : Array Value) (w : World) : (binOp BinOp.eql 68 (.func fn first captured) .nilFunc).run Try.prog w = .ok (.bool false) w := by kernel_rfl

/-- Where the loop over the instructions stands. -/
def CodeRel (w : World) (m : Int → Int) (l : List IV) (g : Nat) (arr : Array Value) (s : Value) (wr : World) : Prop :=
  ∃ k : Nat, k ≤ l.length ∧ s = .int .i64 (k : Int) ∧ Hid ((l.take k).all (ruleB m) = true) ∧ Blk wr g 107 arr ∧ (∀ op, op < 27 → ∃ v, arr[op]? = some v ∧ RuleV wr m op v) ∧ Below w.heap.size w wr

set_option maxHeartbeats 4000000 in
set_option maxRecDepth 100000 in
theorem mayCode_any (l : List IV) (m : Int → Int) (arr : Array Value) (w : World) (B : Nat) (A : Option Addr) (n c : Nat) (hr : RC w B A n c l) (hB : B ≤ w.heap.size) (hn : n ≤ 4611686018427387904) (hsz : arr.size = 27) (hrule : ∀ op, op < 27 → ∃ v, arr[op]? = some v ∧ RuleV w m op v) :
    Calls Try.prog 73 #[.slice A n c, .agg arr] w fun e w' => e = .returned (.bool (l.all (ruleB m))) ∧ Below w.heap.size w w' := by
  obtain ⟨rfl, hnc, hrd⟩ := hr
  have HR := Lib.hid hrd
  have HRU := Lib.hid hrule
  have HSZ := Lib.hid hsz
  clear hrd hrule hsz
  go_enter Try.func73, Try.ntmps73
  go_wp2_with fail
  go_loopw [10] (fun s wr => CodeRel w m l w.heap.size arr s wr) (fun s _ => l.length - (intOf s).toNat)
  case atStart => exact ⟨0, by omega, rfl, rfl, Blk.new w _ _, fun op hop => by
    obtain ⟨v, h1, h2⟩ := HRU.out op hop
    exact ⟨v, h1, h2.below ((Below.refl _ _).alloc (Nat.le_refl _) _)⟩, (Below.refl _ _).alloc (Nat.le_refl _) _⟩
  case round =>
    obtain ⟨k, hk, rfl, hall, hbk, hru, hbel⟩ := hrel
    have HBK := Lib.hid hbk; have HRW := Lib.hid hru; have HBL := Lib.hid hbel
    have zr := hbel.size
    have zg := hbk.lt
    clear hbk hru
    by_cases hlt : k < l.length
    · obtain ⟨ad, i, rfl, hab, hi, c0, c1⟩ := RC.at_ ⟨rfl, hnc, HR.out⟩ hlt
      have d0 := (hbel.cell (p := ad.add (k * 2)) (by rw [block_of_add]; omega)).trans c0
      have d1 := (hbel.cell (p := ⟨(ad.add (k * 2)).block, (ad.add (k * 2)).off + 1, none⟩) (by show (ad.add (k * 2)).block < _; rw [block_of_add]; omega)).trans c1
      have HS := Lib.hid (all_take' (P := ruleB m) hi)
      have HNO : Hid (ruleB m i = false → l.all (ruleB m) = false) := fun hf => by
        rw [List.all_eq_false]
        exact ⟨i, List.mem_of_getElem? (by assumption), by simp [hf]⟩
      have e1 : (wr.alloc (.cells #[.int .i64 i.op, .int .i64 i.a] 47)).cell? ⟨wr.heap.size, 0, none⟩ = some (.int .i64 i.op) := ((Blk.new wr _ _).cell 0).trans rfl
      clear hi c0 c1 hbel
      go_wp2_with fail
      refine (isOp_any _ _).mono ?_
      rintro e w' ⟨rfl, rfl⟩
      generalize hwi : withinB i.op 0 26 = b0
      cases b0
      · have HF : Hid (ruleB m i = false) := by show _ = _; unfold ruleB; rw [hwi]; rfl
        clear hwi
        go_wp2_with fail
        go_ret
        exact ⟨ret_bool (HNO.out HF.out).symm, HBL.out.alloc zr _⟩
      · have hop : 0 ≤ i.op ∧ i.op ≤ 26 := by simpa [withinB] using hwi
        have HV : Hid (ruleB m i = (if i.op = 0 then withinB i.a (-1073741824) 1073741824 else if asks i.op then belowB (m i.op) i.a else belowB 1 i.a)) := by show _ = _; unfold ruleB; rw [hwi]; rfl
        clear hwi
        obtain ⟨op, x⟩ := i
        simp only at hop d0 d1 HV HNO HS e1 ⊢
        obtain ⟨o, rfl⟩ := Int.eq_ofNat_of_zero_le hop.1
        have ho27 : o < 27 := by omega
        obtain ⟨v, hv, hrv⟩ := HRW.out o ho27
        have hcell : (wr.alloc (.cells #[.int .i64 (o : Int), .int .i64 x] 47)).cell? ⟨w.heap.size, o, none⟩ = some v := by
          rw [(HBK.out.alloc _).cell o]; exact hv
        have e2 : (wr.alloc (.cells #[.int .i64 (o : Int), .int .i64 x] 47)).cell? ⟨wr.heap.size, 1, none⟩ = some (.int .i64 x) := ((Blk.new wr _ _).cell 1).trans rfl
        have hrv2 := hrv.below ((Below.refl wr.heap.size wr).alloc (Nat.le_refl _) (.cells #[.int .i64 (o : Int), .int .i64 x] 47))
        have hend : ∀ W, Below (wr.alloc (.cells #[.int .i64 (o : Int), .int .i64 x] 47)).heap.size (wr.alloc (.cells #[.int .i64 (o : Int), .int .i64 x] 47)) W →
            ruleB m ⟨o, x⟩ = true → CodeRel w m l w.heap.size arr (.int .i64 ((k : Int) + 1)) W := fun W hW hb => by
          have hbw : Below wr.heap.size wr W := ((Below.refl _ _).alloc (Nat.le_refl _) _).trans (hW.mono (by simp))
          refine ⟨k + 1, by omega, by go_num, by show _ = _; rw [HS.out, hall.out, hb]; rfl, HBK.out.below hbw zg, fun op hop => ?_, HBL.out.trans (hbw.mono zr)⟩
          obtain ⟨v, h1, h2⟩ := HRW.out op hop
          exact ⟨v, h1, h2.below hbw⟩
        have HEND := Lib.hid hend
        have HBE : Hid (∀ W, Below (wr.alloc (.cells #[.int .i64 (o : Int), .int .i64 x] 47)).heap.size (wr.alloc (.cells #[.int .i64 (o : Int), .int .i64 x] 47)) W → Below w.heap.size w W) := fun W hW =>
          (HBL.out.alloc zr _).trans (hW.mono (by simp; omega))
        clear hend hv hrv
        have q1 := eq_nil_nil
        have q2 := eq_func_nil
        rcases hrv2 with ⟨ho0, rfl⟩ | ⟨ho0, has, rfl⟩ | ⟨ho0, has, g, rfl, hg⟩
        · have HVV : Hid (ruleB m ⟨o, x⟩ = withinB x (-1073741824) 1073741824) := by
            show _ = _
            rw [HV.out, if_pos (by omega)]
          clear ho0
          go_wp2_with fail
          refine (rules1_any _ _).mono ?_
          rintro e w' ⟨rfl, rfl⟩
          generalize hbb : withinB x (-1073741824) 1073741824 = bb
          have HBB := Lib.hid hbb
          clear hbb
          cases bb
          · go_wp2_with fail
            go_ret
            exact ⟨ret_bool (HNO.out (by rw [HVV.out, HBB.out])).symm, HBE.out _ (Below.refl _ _)⟩
          · go_wp2_with fail
            exact ⟨HEND.out _ (Below.refl _ _) (by rw [HVV.out, HBB.out]), by simp [intOf]; omega⟩
        · have HVV : Hid (ruleB m ⟨o, x⟩ = belowB 1 x) := by
            show _ = _
            rw [HV.out, if_neg (by omega), if_neg (by rw [has]; simp)]
          clear ho0 has
          go_wp2_with fail
          refine (below_any _ _).mono ?_
          rintro e w' ⟨rfl, rfl⟩
          have e3 : ((wr.alloc (.cells #[.int .i64 (o : Int), .int .i64 x] 47)).alloc (.cells #[.int .i64 1] 3)).cell? ⟨wr.heap.size, 1, none⟩ = some (.int .i64 x) := (((Blk.new wr _ _).alloc _).cell 1).trans rfl
          have hbn : Blk ((wr.alloc (.cells #[.int .i64 (o : Int), .int .i64 x] 47)).alloc (.cells #[.int .i64 1] 3)) (wr.heap.size + 1) 3 #[.int .i64 1] := by
            simpa using Blk.new (wr.alloc (.cells #[.int .i64 (o : Int), .int .i64 x] 47)) 3 #[.int .i64 1]
          have HBN := Lib.hid hbn
          clear hbn
          go_wp2_with fail
          refine (below1_any 1 x _ _ HBN.out).mono ?_
          rintro e w' ⟨rfl, rfl⟩
          generalize hbb : belowB 1 x = bb
          have HBB := Lib.hid hbb
          clear hbb
          cases bb
          · go_wp2_with fail
            go_ret
            exact ⟨ret_bool (HNO.out (by rw [HVV.out, HBB.out])).symm, HBE.out _ ((Below.refl _ _).alloc (Nat.le_refl _) _)⟩
          · go_wp2_with fail
            exact ⟨HEND.out _ ((Below.refl _ _).alloc (Nat.le_refl _) _) (by rw [HVV.out, HBB.out]), by simp [intOf]; omega⟩
        · have HVV : Hid (ruleB m ⟨o, x⟩ = belowB (m o) x) := by
            show _ = _
            rw [HV.out, if_neg (by omega), if_pos has]
          have HG := Lib.hid hg
          clear ho0 has hg
          go_wp2_with fail
          refine (below1_any (m o) x g _ HG.out).mono ?_
          rintro e w' ⟨rfl, rfl⟩
          generalize hbb : belowB (m o) x = bb
          have HBB := Lib.hid hbb
          clear hbb
          cases bb
          · go_wp2_with fail
            go_ret
            exact ⟨ret_bool (HNO.out (by rw [HVV.out, HBB.out])).symm, HBE.out _ (Below.refl _ _)⟩
          · go_wp2_with fail
            exact ⟨HEND.out _ (Below.refl _ _) (by rw [HVV.out, HBB.out]), by simp [intOf]; omega⟩
    · have hf : l.all (ruleB m) = true := by have := hall.out; rwa [List.take_of_length_le (by omega)] at this
      have HFL := Lib.hid hf
      clear hf
      go_wp2_with fail
      go_ret
      exact ⟨ret_bool HFL.out.symm, HBL.out⟩
end

section
open Go.RowKit Plain

/-- A function, as the program asks. -/
def funcC (p : PV) (f : FV) : Bool := withinB f.locals 0 8 && decide (f.code.length ≤ 64) && f.code.all (ruleB (most p f))

def FuncRel (w : World) (p : PV) (cs : Array Value) (s : Value) (wr : World) : Prop :=
  ∃ k : Nat, k ≤ p.funcs.length ∧ s = .int .i64 (k : Int) ∧ Hid ((p.funcs.take k).all (funcC p) = true) ∧ Blk wr w.heap.size 26 cs ∧ Below w.heap.size w wr

set_option maxHeartbeats 4000000 in
set_option maxRecDepth 100000 in
theorem mayFuncs_any (h : PH) (p : PV) (w : World) (B : Nat) (hr : RP w B h p) (hB : B ≤ w.heap.size) (hlen : Lens p) :
    Calls Try.prog 38 #[.agg #[.slice h.fA p.funcs.length h.fc, .int .i64 p.mutexes, .slice h.cA p.conds.length h.cc, .slice h.sA p.semas.length h.sc, .slice h.hA p.chans.length h.hc, .slice h.xA p.choices.length h.xc, .int .i64 p.threads]] w
      fun e w' => e = .returned (.bool (p.funcs.all (funcC p))) ∧ Below w.heap.size w w' := by
  have l1 := hlen.funcs
  have l2 := hlen.conds
  have l3 := hlen.semas
  have l5 := hlen.chans
  have l6 := hlen.choices
  obtain ⟨fA, fc, cA, cc, sA, sc, hA, hc, xA, xc⟩ := h
  have hrf : RF w B fA p.funcs.length fc p.funcs := hr.funcs
  have HRF := Lib.hid hrf
  have HLEN := Lib.hid hlen.code
  clear hr hrf hlen
  go_enter Try.func38, Try.ntmps38
  go_wp2_with fail
  go_loopw [8] (fun s wr => FuncRel w p #[.slice fA p.funcs.length fc, .int .i64 p.mutexes, .slice cA p.conds.length cc, .slice sA p.semas.length sc, .slice hA p.chans.length hc, .slice xA p.choices.length xc, .int .i64 p.threads] s wr) (fun s _ => p.funcs.length - (intOf s).toNat)
  case atStart => exact ⟨0, by omega, rfl, rfl, Blk.new w _ _, (Below.refl _ _).alloc (Nat.le_refl _) _⟩
  case round =>
    obtain ⟨k, hk, rfl, hall, hbk, hbel⟩ := hrel
    have HBK := Lib.hid hbk; have HBL := Lib.hid hbel
    have zr := hbel.size
    have zg := hbk.lt
    clear hbk
    by_cases hlt : k < p.funcs.length
    · obtain ⟨ad, t, rfl, hab, hi, c0, c1, hrc⟩ := HRF.out.at_ hlt
      have hcl := HLEN.out _ (List.mem_of_getElem? hi)
      have d0 := (hbel.cell (p := ad.add (k * 2)) (by rw [block_of_add]; omega)).trans c0
      have d1 := (hbel.cell (p := ⟨(ad.add (k * 2)).block, (ad.add (k * 2)).off + 1, none⟩) (by show (ad.add (k * 2)).block < _; rw [block_of_add]; omega)).trans c1
      have HRC : Hid (∀ W, Below wr.heap.size wr W → RC W B t.A t.f.code.length t.c t.f.code) := fun W hW => hrc.keep fun q hq => (hW.cell (by omega)).trans (HBL.out.cell (by omega))
      have HS := Lib.hid (all_take' (P := funcC p) hi)
      have HNO : Hid (funcC p t.f = false → p.funcs.all (funcC p) = false) := fun hf => by
        rw [List.all_eq_false]
        exact ⟨t.f, List.mem_of_getElem? hi, by simp [hf]⟩
      obtain ⟨⟨lo, code⟩, kA, kc⟩ := t
      simp only at d0 d1 HRC HS HNO hcl hi ⊢
      have HBF := Lib.hid (Blk.new wr 45 #[.int .i64 lo, .slice kA code.length kc])
      have e0 := (HBF.out.cell 0).trans rfl
      clear hi c0 c1 hbel hrc
      go_wp2_with fail
      refine (within_any _ _ _ _).mono ?_
      rintro e w' ⟨rfl, rfl⟩
      generalize hwi : withinB lo 0 8 = b0
      cases b0
      · have HF : Hid (funcC p ⟨lo, code⟩ = false) := by show _ = _; unfold funcC; rw [hwi]; rfl
        clear hwi
        go_wp2_with fail
        go_ret
        exact ⟨ret_bool (HNO.out HF.out).symm, HBL.out.alloc zr _⟩
      · have e1 := (HBF.out.cell 1).trans rfl
        by_cases h64 : 64 < code.length
        · have HF : Hid (funcC p ⟨lo, code⟩ = false) := by show _ = _; unfold funcC; simp; omega
          clear hwi
          go_wp2_with fail
          go_ret
          exact ⟨ret_bool (HNO.out HF.out).symm, HBL.out.alloc zr _⟩
        · have HV : Hid (funcC p ⟨lo, code⟩ = code.all (ruleB (most p ⟨lo, code⟩))) := by show _ = _; unfold funcC; rw [hwi]; simp; omega
          clear hwi
          obtain ⟨W, hW⟩ : ∃ W, W = wr.alloc (.cells #[.int .i64 lo, .slice kA code.length kc] 45) := ⟨_, rfl⟩
          have hbw : Below wr.heap.size wr W := by rw [hW]; exact (Below.refl _ _).alloc (Nat.le_refl _) _
          rw [← hW] at HBF e0 e1
          have hbp := HBK.out.below hbw zg
          have zW := HBF.out.lt
          have HBW := Lib.hid hbw
          have HBP := Lib.hid hbp
          have p0 := (hbp.cell 0).trans rfl
          have p1 := (hbp.cell 1).trans rfl
          have p2 := (hbp.cell 2).trans rfl
          have p3 := (hbp.cell 3).trans rfl
          have p4 := (hbp.cell 4).trans rfl
          have p5 := (hbp.cell 5).trans rfl
          have p6 := (hbp.cell 6).trans rfl
          go_upto_region 6 with fail
          rw [← hW]
          clear hW hbw hbp
          have KS : Hid (∀ X, Below W.heap.size W X → X.cell? ⟨wr.heap.size, 0, none⟩ = some (.int .i64 lo) ∧ X.cell? ⟨wr.heap.size, 1, none⟩ = some (.slice kA code.length kc) ∧ X.cell? ⟨w.heap.size, 0, none⟩ = some (.slice (some ad) p.funcs.length fc) ∧ X.cell? ⟨w.heap.size, 1, none⟩ = some (.int .i64 p.mutexes) ∧ X.cell? ⟨w.heap.size, 2, none⟩ = some (.slice cA p.conds.length cc) ∧ X.cell? ⟨w.heap.size, 3, none⟩ = some (.slice sA p.semas.length sc) ∧ X.cell? ⟨w.heap.size, 4, none⟩ = some (.slice hA p.chans.length hc) ∧ X.cell? ⟨w.heap.size, 5, none⟩ = some (.slice xA p.choices.length xc) ∧ X.cell? ⟨w.heap.size, 6, none⟩ = some (.int .i64 p.threads)) := by
            intro X hX
            exact ⟨(hX.cell (p := ⟨wr.heap.size, 0, none⟩) (by show wr.heap.size < W.heap.size; omega)).trans e0, (hX.cell (p := ⟨wr.heap.size, 1, none⟩) (by show wr.heap.size < W.heap.size; omega)).trans e1, (hX.cell (p := ⟨w.heap.size, 0, none⟩) (by show w.heap.size < W.heap.size; omega)).trans p0, (hX.cell (p := ⟨w.heap.size, 1, none⟩) (by show w.heap.size < W.heap.size; omega)).trans p1, (hX.cell (p := ⟨w.heap.size, 2, none⟩) (by show w.heap.size < W.heap.size; omega)).trans p2, (hX.cell (p := ⟨w.heap.size, 3, none⟩) (by show w.heap.size < W.heap.size; omega)).trans p3, (hX.cell (p := ⟨w.heap.size, 4, none⟩) (by show w.heap.size < W.heap.size; omega)).trans p4, (hX.cell (p := ⟨w.heap.size, 5, none⟩) (by show w.heap.size < W.heap.size; omega)).trans p5, (hX.cell (p := ⟨w.heap.size, 6, none⟩) (by show w.heap.size < W.heap.size; omega)).trans p6⟩
          go_region_held3 (fun w' => w'.cell? ⟨wr.heap.size, 0, none⟩ = some (.int .i64 lo) ∧ w'.cell? ⟨wr.heap.size, 1, none⟩ = some (.slice kA code.length kc) ∧ w'.cell? ⟨w.heap.size, 0, none⟩ = some (.slice (some ad) p.funcs.length fc) ∧ w'.cell? ⟨w.heap.size, 1, none⟩ = some (.int .i64 p.mutexes) ∧ w'.cell? ⟨w.heap.size, 2, none⟩ = some (.slice cA p.conds.length cc) ∧ w'.cell? ⟨w.heap.size, 3, none⟩ = some (.slice sA p.semas.length sc) ∧ w'.cell? ⟨w.heap.size, 4, none⟩ = some (.slice hA p.chans.length hc) ∧ w'.cell? ⟨w.heap.size, 5, none⟩ = some (.slice xA p.choices.length xc) ∧ w'.cell? ⟨w.heap.size, 6, none⟩ = some (.int .i64 p.threads))
            (first | (exact KS.out _ hbq2) | (exact KS.out _ hbq2.drew) | (exact KS.out _ hbq1) | (exact KS.out _ hbq1.drew) | (exact KS.out _ (Below.refl _ _)) | (exact KS.out _ (Below.refl _ _).drew) | go_keep)
            (first
              | (go_simp; go_at_call 74; refine (rules_any _ _ _ _ _ _ _ _ _ _ _ _ _ _ _ _ _ _ _ _ _ _ (by omega)).mono ?_; rintro e w1 ⟨arr, rfl, hsz, hru, hb1⟩
                 have hbq1 : Below W.heap.size W w1 := (by first | exact ((Below.refl _ _).drew).trans hb1 | exact hb1))
              | (go_simp; go_at_call 73; refine (mayCode_any code (most p ⟨lo, code⟩) arr w1 B kA _ kc (HRC.out _ (HBW.out.trans (hbq1.mono (by omega)))) (by have := hbq1.size; omega) (by omega) hsz hru).mono ?_; rintro e w2 ⟨rfl, hb2⟩
                 have hbq2 : Below W.heap.size W w2 := hbq1.trans (hb2.mono hbq1.size)))
          have HQ := Lib.hid hbq2
          have zq := hbq2.size
          clear hbq2 hbq1 hru hsz hb1 hb2 p0 p1 p2 p3 p4 p5 p6 e0 e1 KS
          generalize hall2 : code.all (ruleB (most p ⟨lo, code⟩)) = b1
          have HA2 := Lib.hid hall2
          clear hall2
          cases b1
          · go_wp2_with fail
            go_ret
            exact ⟨ret_bool (HNO.out (by rw [HV.out, HA2.out])).symm, HBL.out.trans ((HBW.out.trans (HQ.out.mono (by omega))).mono zr)⟩
          · go_wp2_with fail
            refine ⟨⟨k + 1, by omega, by go_num, by show _ = _; rw [HS.out, hall.out, HV.out, HA2.out]; rfl, HBP.out.below HQ.out (by omega), HBL.out.trans ((HBW.out.trans (HQ.out.mono (by omega))).mono zr)⟩, by simp [intOf]; omega⟩
    · have hf : p.funcs.all (funcC p) = true := by have := hall.out; rwa [List.take_of_length_le (by omega)] at this
      have HFL := Lib.hid hf
      clear hf
      go_wp2_with fail
      go_ret
      exact ⟨ret_bool HFL.out.symm, HBL.out⟩
end

section
open Go.RowKit Plain

def mayC (p : PV) : Bool :=
  (withinB (p.funcs.length : Int) 1 16) && (withinB p.mutexes 0 8) && (listB p.conds p.mutexes) && (listB p.semas 101) && (listB p.chans 9) && (choicesB p) && (withinB p.threads 1 32) && (p.funcs.all (funcC p))

set_option maxHeartbeats 40000000 in
set_option maxRecDepth 100000 in
theorem mayC_yes (h : PH) (p : PV) (w : World) (B : Nat) (hr : RP w B h p) (hB : B ≤ w.heap.size) (hlen : Lens p) (hm : mayC p = true) :
    Calls Try.prog 10 #[.agg #[.slice h.fA p.funcs.length h.fc, .int .i64 p.mutexes, .slice h.cA p.conds.length h.cc, .slice h.sA p.semas.length h.sc, .slice h.hA p.chans.length h.hc, .slice h.xA p.choices.length h.xc, .int .i64 p.threads]] w
      fun e w' => e = .returned (.bool true) ∧ Below w.heap.size w w' := by
  obtain ⟨W0, hW0⟩ : ∃ W, W = w.alloc (.cells (PC h p) 26) := ⟨_, rfl⟩
  have h0 : Below w.heap.size w W0 := by rw [hW0]; exact (Below.refl _ _).alloc (Nat.le_refl _) _
  have hk : Blk W0 w.heap.size 26 (PC h p) := by rw [hW0]; exact Blk.new _ _ _
  have z0 := h0.size
  have zk := hk.lt
  have hrw : ∀ W, Below W0.heap.size W0 W → RP W B h p := fun W hW => hr.below ((h0.mono hB).trans (hW.mono (by omega)))
  have BEL : Hid (∀ n W, Below W0.heap.size W0 W → Calls Try.prog 36 #[.int .i64 n] W fun e w' => ∃ g, e = .returned (.func (.func 71) #[] #[.pointer (some ⟨g, 0, none⟩)]) ∧ Blk w' g 3 #[.int .i64 n] ∧ Below W0.heap.size W0 w') := fun n W hW =>
    (below_any n W).mono fun e w' ⟨he, hw⟩ => by subst hw; exact ⟨_, he, Blk.new W _ _, hW.alloc hW.size _⟩
  have WA : Hid (∀ (b : Bool), withinB (p.funcs.length : Int) 1 16 = b → ∀ (W : World), Calls Try.prog 34 #[.int .i64 (p.funcs.length : Int), .int .i64 1, .int .i64 16] W fun e w' => e = .returned (.bool b) ∧ W = w') := fun b hb W => (within_any _ _ _ W).mono fun e w' ⟨he, hw⟩ => ⟨by rw [he, hb], hw⟩
  have WB : Hid (∀ (b : Bool), withinB p.mutexes 0 8 = b → ∀ (W : World), Calls Try.prog 34 #[.int .i64 p.mutexes, .int .i64 0, .int .i64 8] W fun e w' => e = .returned (.bool b) ∧ W = w') := fun b hb W => (within_any _ _ _ W).mono fun e w' ⟨he, hw⟩ => ⟨by rw [he, hb], hw⟩
  have WT : Hid (∀ (b : Bool), withinB p.threads 1 32 = b → ∀ (W : World), Calls Try.prog 34 #[.int .i64 p.threads, .int .i64 1, .int .i64 32] W fun e w' => e = .returned (.bool b) ∧ W = w') := fun b hb W => (within_any _ _ _ W).mono fun e w' ⟨he, hw⟩ => ⟨by rw [he, hb], hw⟩
  have LC : Hid (∀ (b : Bool), listB p.conds p.mutexes = b → ∀ (W : World) (g : Nat), Below W0.heap.size W0 W → Blk W g 3 #[.int .i64 p.mutexes] → Calls Try.prog 35 #[.slice h.cA p.conds.length h.cc, .func (.func 71) #[] #[.pointer (some ⟨g, 0, none⟩)]] W fun e w' => e = .returned (.bool b) ∧ W = w') := fun b hb W g hW hg =>
    (mayList_any p.conds p.mutexes g W B _ _ _ (hrw W hW).conds (by have := hlen.conds; omega) hg).mono fun e w' ⟨he, hw⟩ => ⟨by rw [he, hb], hw⟩
  have LS : Hid (∀ (b : Bool), listB p.semas 101 = b → ∀ (W : World) (g : Nat), Below W0.heap.size W0 W → Blk W g 3 #[.int .i64 101] → Calls Try.prog 35 #[.slice h.sA p.semas.length h.sc, .func (.func 71) #[] #[.pointer (some ⟨g, 0, none⟩)]] W fun e w' => e = .returned (.bool b) ∧ W = w') := fun b hb W g hW hg =>
    (mayList_any p.semas 101 g W B _ _ _ (hrw W hW).semas (by have := hlen.semas; omega) hg).mono fun e w' ⟨he, hw⟩ => ⟨by rw [he, hb], hw⟩
  have LH : Hid (∀ (b : Bool), listB p.chans 9 = b → ∀ (W : World) (g : Nat), Below W0.heap.size W0 W → Blk W g 3 #[.int .i64 9] → Calls Try.prog 35 #[.slice h.hA p.chans.length h.hc, .func (.func 71) #[] #[.pointer (some ⟨g, 0, none⟩)]] W fun e w' => e = .returned (.bool b) ∧ W = w') := fun b hb W g hW hg =>
    (mayList_any p.chans 9 g W B _ _ _ (hrw W hW).chans (by have := hlen.chans; omega) hg).mono fun e w' ⟨he, hw⟩ => ⟨by rw [he, hb], hw⟩
  have MX : Hid (∀ (b : Bool), choicesB p = b → ∀ W, Below W0.heap.size W0 W → Calls Try.prog 37 #[.agg #[.slice h.fA p.funcs.length h.fc, .int .i64 p.mutexes, .slice h.cA p.conds.length h.cc, .slice h.sA p.semas.length h.sc, .slice h.hA p.chans.length h.hc, .slice h.xA p.choices.length h.xc, .int .i64 p.threads]] W fun e w' => e = .returned (.bool b) ∧ Below W0.heap.size W0 w') := fun b hb W hW =>
    (mayChoices_any h p W B (hrw W hW) (by have := hW.size; omega) hlen).mono fun e w' ⟨he, hq⟩ => ⟨by rw [he, hb], hW.trans (hq.mono hW.size)⟩
  have MF : Hid (∀ (b : Bool), p.funcs.all (funcC p) = b → ∀ W, Below W0.heap.size W0 W → Calls Try.prog 38 #[.agg #[.slice h.fA p.funcs.length h.fc, .int .i64 p.mutexes, .slice h.cA p.conds.length h.cc, .slice h.sA p.semas.length h.sc, .slice h.hA p.chans.length h.hc, .slice h.xA p.choices.length h.xc, .int .i64 p.threads]] W fun e w' => e = .returned (.bool b) ∧ Below W0.heap.size W0 w') := fun b hb W hW =>
    (mayFuncs_any h p W B (hrw W hW) (by have := hW.size; omega) hlen).mono fun e w' ⟨he, hq⟩ => ⟨by rw [he, hb], hW.trans (hq.mono hW.size)⟩
  obtain ⟨fA, fc, cA, cc, sA, sc, hA, hc, xA, xc⟩ := h
  simp only at LC LS LH MX MF
  have KS : Hid (∀ X, Below W0.heap.size W0 X → X.cell? ⟨w.heap.size, 0, none⟩ = some (.slice fA p.funcs.length fc) ∧ X.cell? ⟨w.heap.size, 1, none⟩ = some (.int .i64 p.mutexes) ∧ X.cell? ⟨w.heap.size, 2, none⟩ = some (.slice cA p.conds.length cc) ∧ X.cell? ⟨w.heap.size, 3, none⟩ = some (.slice sA p.semas.length sc) ∧ X.cell? ⟨w.heap.size, 4, none⟩ = some (.slice hA p.chans.length hc) ∧ X.cell? ⟨w.heap.size, 5, none⟩ = some (.slice xA p.choices.length xc) ∧ X.cell? ⟨w.heap.size, 6, none⟩ = some (.int .i64 p.threads)) := by
    intro X hX
    exact ⟨(hX.cell (p := ⟨w.heap.size, 0, none⟩) zk).trans ((hk.cell 0).trans rfl), (hX.cell (p := ⟨w.heap.size, 1, none⟩) zk).trans ((hk.cell 1).trans rfl), (hX.cell (p := ⟨w.heap.size, 2, none⟩) zk).trans ((hk.cell 2).trans rfl), (hX.cell (p := ⟨w.heap.size, 3, none⟩) zk).trans ((hk.cell 3).trans rfl), (hX.cell (p := ⟨w.heap.size, 4, none⟩) zk).trans ((hk.cell 4).trans rfl), (hX.cell (p := ⟨w.heap.size, 5, none⟩) zk).trans ((hk.cell 5).trans rfl), (hX.cell (p := ⟨w.heap.size, 6, none⟩) zk).trans ((hk.cell 6).trans rfl)⟩
  have HW : Hid (w.alloc (.cells #[.slice fA p.funcs.length fc, .int .i64 p.mutexes, .slice cA p.conds.length cc, .slice sA p.semas.length sc, .slice hA p.chans.length hc, .slice xA p.choices.length xc, .int .i64 p.threads] 26) = W0) := hW0.symm
  have H0 := Lib.hid h0
  have hbq : Below W0.heap.size W0 W0 := Below.refl _ _
  obtain ⟨p0, p1, p2, p3, p4, p5, p6⟩ := KS.out W0 hbq
  simp only [mayC, Bool.and_eq_true] at hm
  obtain ⟨⟨⟨⟨⟨⟨⟨b0, b1⟩, b2⟩, b3⟩, b4⟩, b5⟩, b6⟩, b7⟩ := hm
  clear hW0 h0 hk hrw hr hlen
  go_enter Try.func10, Try.ntmps10
  have B0 := Lib.hid b0
  have B1 := Lib.hid b1
  have B2 := Lib.hid b2
  have B3 := Lib.hid b3
  have B4 := Lib.hid b4
  have B5 := Lib.hid b5
  have B6 := Lib.hid b6
  have B7 := Lib.hid b7
  clear b0 b1 b2 b3 b4 b5 b6 b7
  go_wp2_with fail
  rw [HW.out]
  go_region_held3 (fun w' => w'.cell? ⟨w.heap.size, 0, none⟩ = some (.slice fA p.funcs.length fc) ∧ w'.cell? ⟨w.heap.size, 1, none⟩ = some (.int .i64 p.mutexes) ∧ w'.cell? ⟨w.heap.size, 2, none⟩ = some (.slice cA p.conds.length cc) ∧ w'.cell? ⟨w.heap.size, 3, none⟩ = some (.slice sA p.semas.length sc) ∧ w'.cell? ⟨w.heap.size, 4, none⟩ = some (.slice hA p.chans.length hc) ∧ w'.cell? ⟨w.heap.size, 5, none⟩ = some (.slice xA p.choices.length xc) ∧ w'.cell? ⟨w.heap.size, 6, none⟩ = some (.int .i64 p.threads))
    (first | (exact KS.out _ hbq) | (exact KS.out _ hbq.drew) | go_keep)
    (first
      | (go_simp; go_at_call 34; first
          | ((with_reducible refine (WA.out _ B0.out _).mono ?_); rintro e wq ⟨rfl, rfl⟩)
          | ((with_reducible refine (WB.out _ B1.out _).mono ?_); rintro e wq ⟨rfl, rfl⟩)
          | ((with_reducible refine (WT.out _ B6.out _).mono ?_); rintro e wq ⟨rfl, rfl⟩))
      | (go_simp; go_at_call 36; refine (BEL.out _ _ (by first | exact hbq | exact hbq.drew)).mono ?_; rintro e wq ⟨g, rfl, hg, hbq⟩)
      | (go_simp; go_at_call 35; first
          | ((with_reducible refine (LC.out _ B2.out _ _ (by first | exact hbq | exact hbq.drew) (by first | exact hg | exact hg.drew)).mono ?_); rintro e wq ⟨rfl, rfl⟩)
          | ((with_reducible refine (LS.out _ B3.out _ _ (by first | exact hbq | exact hbq.drew) (by first | exact hg | exact hg.drew)).mono ?_); rintro e wq ⟨rfl, rfl⟩)
          | ((with_reducible refine (LH.out _ B4.out _ _ (by first | exact hbq | exact hbq.drew) (by first | exact hg | exact hg.drew)).mono ?_); rintro e wq ⟨rfl, rfl⟩))
      | (go_simp; go_at_call 37; refine (MX.out _ B5.out _ (by first | exact hbq | exact hbq.drew)).mono ?_; rintro e wq ⟨rfl, hbq⟩)
      | (go_simp; go_at_call 38; refine (MF.out _ B7.out _ (by first | exact hbq | exact hbq.drew)).mono ?_; rintro e wq ⟨rfl, hbq⟩))
  all_goals
    go_wp2_with fail
    go_ret
    exact ⟨rfl, H0.out.trans ((show Below W0.heap.size W0 _ from (by first | exact hbq | exact hbq.drew)).mono z0)⟩
end
end Go.Proofs.Ytmjbfobjndiecaa
