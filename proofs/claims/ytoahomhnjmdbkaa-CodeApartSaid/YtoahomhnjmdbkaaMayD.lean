
/-
  The program's rule of a function's instructions, of all functions, and of a program.
-/
import Derived.Test.YtoahomhnjmdbkaaMayC
set_option linter.unusedVariables false
set_option linter.unusedSimpArgs false
namespace Go.Proofs.Ytoahomhnjmdbkaa
open Go.RowKit Plain

/-- An instruction, as the program asks. -/
def ruleB (m : Int → Int) (i : IV) : Bool :=
  withinB i.op 0 26 && (if i.op = 0 then withinB i.a (-1073741824) 1073741824 else if asks i.op then belowB (m i.op) i.a else belowB 1 i.a)

theorem eq_nil_nil (w : World) : (binOp BinOp.eql 68 .nilFunc .nilFunc).run Try.prog w = .ok (.bool true) w := by kernel_rfl
theorem eq_func_nil (fn : Fn) (first captured : Array Value) (w : World) : (binOp BinOp.eql 68 (.func fn first captured) .nilFunc).run Try.prog w = .ok (.bool false) w := by kernel_rfl

/-- Where the loop over the instructions stands. -/
def CodeRel (w : World) (m : Int → Int) (l : List IV) (g : Nat) (arr : Array Value) (s : Value) (wr : World) : Prop :=
  ∃ k : Nat, k ≤ l.length ∧ s = .int .i64 (k : Int) ∧ Hid ((l.take k).all (ruleB m) = true) ∧ Blk wr g 107 arr ∧ (∀ op, op < 27 → ∃ v, arr[op]? = some v ∧ RuleV wr m op v) ∧ Below w.heap.size w wr

set_option maxHeartbeats 4000000 in
set_option maxRecDepth 100000 in
theorem mayCode_any (l : List IV) (m : Int → Int) (arr : Array Value) (w : World) (B : Nat) (A : Option Addr) (n c : Nat) (hr : RC w B A n c l) (hB : B ≤ w.heap.size) (hn : n ≤ 4611686018427387904) (hsz : arr.size = 27) (hrule : ∀ op, op < 27 → ∃ v, arr[op]? = some v ∧ RuleV w m op v) :
    Calls Try.prog 74 #[.slice A n c, .agg arr] w fun e w' => e = .returned (.bool (l.all (ruleB m))) ∧ Below w.heap.size w w' := by
  obtain ⟨rfl, hnc, hrd⟩ := hr
  have HR := Lib.hid hrd
  have HRU := Lib.hid hrule
  have HSZ := Lib.hid hsz
  clear hrd hrule hsz
  go_enter Try.func74, Try.ntmps74
  go_wp2_with fail
  go_loopw [10] (fun s wr => CodeRel w m l w.heap.size arr s wr) (fun s _ => l.length - (intOf s).toNat)
  case atStart => exact ⟨0, by omega, rfl, rfl, Blk.new w _ _, fun op hop => by
    obtain ⟨v, h1, h2⟩ := HRU.out op hop
    exact ⟨v, h1, h2.below ((Below.refl _ _).alloc (Nat.le_refl _) _)⟩, (Below.refl _ _).alloc (Nat.le_refl _) _⟩
  case round =>
    obtain ⟨k, hk, rfl, hall, hbk, hru, hbel⟩ := hrel
    have HBK := Lib.hid hbk; have HRW := Lib.hid hru; have HBL := Lib.hid hbel
    have zr := hbel.size
    have zg := hbk.lt
    clear hbk hru
    by_cases hlt : k < l.length
    · obtain ⟨ad, i, rfl, hab, hi, c0, c1⟩ := RC.at_ ⟨rfl, hnc, HR.out⟩ hlt
      have d0 := (hbel.cell (p := ad.add (k * 2)) (by rw [block_of_add]; omega)).trans c0
      have d1 := (hbel.cell (p := ⟨(ad.add (k * 2)).block, (ad.add (k * 2)).off + 1, none⟩) (by show (ad.add (k * 2)).block < _; rw [block_of_add]; omega)).trans c1
      have HS := Lib.hid (all_take' (P := ruleB m) hi)
      have HNO : Hid (ruleB m i = false → l.all (ruleB m) = false) := fun hf => by
        rw [List.all_eq_false]
        exact ⟨i, List.mem_of_getElem? (by assumption), by simp [hf]⟩
      have e1 : (wr.alloc (.cells #[.int .i64 i.op, .int .i64 i.a] 47)).cell? ⟨wr.heap.size, 0, none⟩ = some (.int .i64 i.op) := ((Blk.new wr _ _).cell 0).trans rfl
      clear hi c0 c1 hbel
      go_wp2_with fail
      refine (isOp_any _ _).mono ?_
      rintro e w' ⟨rfl, rfl⟩
      generalize hwi : withinB i.op 0 26 = b0
      cases b0
      · have HF : Hid (ruleB m i = false) := by show _ = _; unfold ruleB; rw [hwi]; rfl
        clear hwi
        go_wp2_with fail
        go_ret
        exact ⟨ret_bool (HNO.out HF.out).symm, HBL.out.alloc zr _⟩
      · have hop : 0 ≤ i.op ∧ i.op ≤ 26 := by simpa [withinB] using hwi
        have HV : Hid (ruleB m i = (if i.op = 0 then withinB i.a (-1073741824) 1073741824 else if asks i.op then belowB (m i.op) i.a else belowB 1 i.a)) := by show _ = _; unfold ruleB; rw [hwi]; rfl
        clear hwi
        obtain ⟨op, x⟩ := i
        simp only at hop d0 d1 HV HNO HS e1 ⊢
        obtain ⟨o, rfl⟩ := Int.eq_ofNat_of_zero_le hop.1
        have ho27 : o < 27 := by omega
        obtain ⟨v, hv, hrv⟩ := HRW.out o ho27
        have hcell : (wr.alloc (.cells #[.int .i64 (o : Int), .int .i64 x] 47)).cell? ⟨w.heap.size, o, none⟩ = some v := by
          rw [(HBK.out.alloc _).cell o]; exact hv
        have e2 : (wr.alloc (.cells #[.int .i64 (o : Int), .int .i64 x] 47)).cell? ⟨wr.heap.size, 1, none⟩ = some (.int .i64 x) := ((Blk.new wr _ _).cell 1).trans rfl
        have hrv2 := hrv.below ((Below.refl wr.heap.size wr).alloc (Nat.le_refl _) (.cells #[.int .i64 (o : Int), .int .i64 x] 47))
        have hend : ∀ W, Below (wr.alloc (.cells #[.int .i64 (o : Int), .int .i64 x] 47)).heap.size (wr.alloc (.cells #[.int .i64 (o : Int), .int .i64 x] 47)) W →
            ruleB m ⟨o, x⟩ = true → CodeRel w m l w.heap.size arr (.int .i64 ((k : Int) + 1)) W := fun W hW hb => by
          have hbw : Below wr.heap.size wr W := ((Below.refl _ _).alloc (Nat.le_refl _) _).trans (hW.mono (by simp))
          refine ⟨k + 1, by omega, by go_num, by show _ = _; rw [HS.out, hall.out, hb]; rfl, HBK.out.below hbw zg, fun op hop => ?_, HBL.out.trans (hbw.mono zr)⟩
          obtain ⟨v, h1, h2⟩ := HRW.out op hop
          exact ⟨v, h1, h2.below hbw⟩
        have HEND := Lib.hid hend
        have HBE : Hid (∀ W, Below (wr.alloc (.cells #[.int .i64 (o : Int), .int .i64 x] 47)).heap.size (wr.alloc (.cells #[.int .i64 (o : Int), .int .i64 x] 47)) W → Below w.heap.size w W) := fun W hW =>
          (HBL.out.alloc zr _).trans (hW.mono (by simp; omega))
        clear hend hv hrv
        have q1 := eq_nil_nil
        have q2 := eq_func_nil
        rcases hrv2 with ⟨ho0, rfl⟩ | ⟨ho0, has, rfl⟩ | ⟨ho0, has, g, rfl, hg⟩
        · have HVV : Hid (ruleB m ⟨o, x⟩ = withinB x (-1073741824) 1073741824) := by
            show _ = _
            rw [HV.out, if_pos (by omega)]
          clear ho0
          go_wp2_with fail
          refine (rules1_any _ _).mono ?_
          rintro e w' ⟨rfl, rfl⟩
          generalize hbb : withinB x (-1073741824) 1073741824 = bb
          have HBB := Lib.hid hbb
          clear hbb
          cases bb
          · go_wp2_with fail
            go_ret
            exact ⟨ret_bool (HNO.out (by rw [HVV.out, HBB.out])).symm, HBE.out _ (Below.refl _ _)⟩
          · go_wp2_with fail
            exact ⟨HEND.out _ (Below.refl _ _) (by rw [HVV.out, HBB.out]), by simp [intOf]; omega⟩
        · have HVV : Hid (ruleB m ⟨o, x⟩ = belowB 1 x) := by
            show _ = _
            rw [HV.out, if_neg (by omega), if_neg (by rw [has]; simp)]
          clear ho0 has
          go_wp2_with fail
          refine (below_any _ _).mono ?_
          rintro e w' ⟨rfl, rfl⟩
          have e3 : ((wr.alloc (.cells #[.int .i64 (o : Int), .int .i64 x] 47)).alloc (.cells #[.int .i64 1] 3)).cell? ⟨wr.heap.size, 1, none⟩ = some (.int .i64 x) := (((Blk.new wr _ _).alloc _).cell 1).trans rfl
          have hbn : Blk ((wr.alloc (.cells #[.int .i64 (o : Int), .int .i64 x] 47)).alloc (.cells #[.int .i64 1] 3)) (wr.heap.size + 1) 3 #[.int .i64 1] := by
            simpa using Blk.new (wr.alloc (.cells #[.int .i64 (o : Int), .int .i64 x] 47)) 3 #[.int .i64 1]
          have HBN := Lib.hid hbn
          clear hbn
          go_wp2_with fail
          refine (below1_any 1 x _ _ HBN.out).mono ?_
          rintro e w' ⟨rfl, rfl⟩
          generalize hbb : belowB 1 x = bb
          have HBB := Lib.hid hbb
          clear hbb
          cases bb
          · go_wp2_with fail
            go_ret
            exact ⟨ret_bool (HNO.out (by rw [HVV.out, HBB.out])).symm, HBE.out _ ((Below.refl _ _).alloc (Nat.le_refl _) _)⟩
          · go_wp2_with fail
            exact ⟨HEND.out _ ((Below.refl _ _).alloc (Nat.le_refl _) _) (by rw [HVV.out, HBB.out]), by simp [intOf]; omega⟩
        · have HVV : Hid (ruleB m ⟨o, x⟩ = belowB (m o) x) := by
            show _ = _
            rw [HV.out, if_neg (by omega), if_pos has]
          have HG := Lib.hid hg
          clear ho0 has hg
          go_wp2_with fail
          refine (below1_any (m o) x g _ HG.out).mono ?_
          rintro e w' ⟨rfl, rfl⟩
          generalize hbb : belowB (m o) x = bb
          have HBB := Lib.hid hbb
          clear hbb
          cases bb
          · go_wp2_with fail
            go_ret
            exact ⟨ret_bool (HNO.out (by rw [HVV.out, HBB.out])).symm, HBE.out _ (Below.refl _ _)⟩
          · go_wp2_with fail
            exact ⟨HEND.out _ (Below.refl _ _) (by rw [HVV.out, HBB.out]), by simp [intOf]; omega⟩
    · have hf : l.all (ruleB m) = true := by have := hall.out; rwa [List.take_of_length_le (by omega)] at this
      have HFL := Lib.hid hf
      clear hf
      go_wp2_with fail
      go_ret
      exact ⟨ret_bool HFL.out.symm, HBL.out⟩
end Go.Proofs.Ytoahomhnjmdbkaa
