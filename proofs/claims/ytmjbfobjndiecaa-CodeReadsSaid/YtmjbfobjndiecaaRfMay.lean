
/-
  RefMay, RefMayP in one text.
-/
import Derived.Test.YtmjbfobjndiecaaMayB
import Derived.Deep.QuietTactic
import Derived.BigQuiet
import Derived.Deep.RegionHeld3
import Derived.Test.YtmjbfobjndiecaaMayC
set_option linter.unusedVariables false
set_option linter.unusedSimpArgs false
namespace Go.Proofs.Ytmjbfobjndiecaa
section
open Go.RowKit Plain

set_option maxHeartbeats 1000000 in
set_option maxRecDepth 100000 in
theorem refAll_any (l : List Int) (b : Int) (w : World) (B : Nat) (A : Option Addr) (n c : Nat) (hr : RI w B A n c l) (hn : n ≤ 9223372036854775807) :
    Calls Try.prog 23 #[.slice A n c, .int .i64 b] w fun e w' => e = .returned (.bool (allB l b)) ∧ w = w' := by
  obtain ⟨rfl, hnc, hrd⟩ := hr
  have HR := Lib.hid hrd
  clear hrd
  go_enter Try.func23, Try.ntmps23
  go_wp2_with fail
  go_loop [5] (fun s => ∃ k : Nat, k ≤ l.length ∧ s = .int .i64 (k : Int) ∧ Hid (allB (l.take k) b = true)) (fun s => l.length - (intOf s).toNat)
  case atStart => exact ⟨0, by omega, rfl, rfl⟩
  case round =>
    obtain ⟨k, hk, rfl, hall⟩ := hrel
    by_cases hlt : k < l.length
    · obtain ⟨ad, x, rfl, hab, hx, hc⟩ := RI.at_ ⟨rfl, hnc, HR.out⟩ hlt
      have HS := Lib.hid (all_take (P := fun x => decide (0 ≤ x) && decide (x ≤ b)) hx)
      have HX := Lib.hid hx
      clear hx
      by_cases h1 : x < 0
      · go_wp2_with fail
        go_ret
        refine ⟨ret_bool ?_, rfl⟩
        symm
        unfold allB
        rw [List.all_eq_false]
        exact ⟨x, List.mem_of_getElem? HX.out, by simp; omega⟩
      · by_cases h2 : b < x
        · go_wp2_with fail
          go_ret
          refine ⟨ret_bool ?_, rfl⟩
          symm
          unfold allB
          rw [List.all_eq_false]
          exact ⟨x, List.mem_of_getElem? HX.out, by simp; omega⟩
        · go_wp2_with fail
          refine ⟨⟨k + 1, by omega, by go_num, ?_⟩, by simp [intOf]; omega⟩
          show _ = _
          have h3 := hall.out
          unfold allB at h3 ⊢
          rw [HS.out, h3]
          simp
          omega
    · have hf : allB l b = true := by have := hall.out; rwa [List.take_of_length_le (by omega)] at this
      have HFL := Lib.hid hf
      clear hf
      go_wp2_with fail
      go_ret
      exact ⟨ret_bool HFL.out.symm, rfl⟩

set_option maxHeartbeats 4000000 in
set_option maxRecDepth 100000 in
theorem refInstr_any (h : PH) (p : PV) (f : FV) (i : IV) (kA : Option Addr) (kc : Nat) (w : World) (hk : f.code.length ≤ 64) :
    Calls Try.prog 25 #[.agg #[.slice h.fA p.funcs.length h.fc, .int .i64 p.mutexes, .slice h.cA p.conds.length h.cc, .slice h.sA p.semas.length h.sc, .slice h.hA p.chans.length h.hc, .slice h.xA p.choices.length h.xc, .int .i64 p.threads], .agg #[.int .i64 f.locals, .slice kA f.code.length kc], .agg #[.int .i64 i.op, .int .i64 i.a]] w
      fun e w' => e = .returned (.bool (instrB p f i)) ∧ Below w.heap.size w w' := by
  obtain ⟨T1, T2, T3, T4⟩ := three w 26 45 47 #[.slice h.fA p.funcs.length h.fc, .int .i64 p.mutexes, .slice h.cA p.conds.length h.cc, .slice h.sA p.semas.length h.sc, .slice h.hA p.chans.length h.hc, .slice h.xA p.choices.length h.xc, .int .i64 p.threads] #[.int .i64 f.locals, .slice kA f.code.length kc] #[.int .i64 i.op, .int .i64 i.a]
  obtain ⟨W, hW⟩ : ∃ W, W = ((w.alloc (.cells #[.slice h.fA p.funcs.length h.fc, .int .i64 p.mutexes, .slice h.cA p.conds.length h.cc, .slice h.sA p.semas.length h.sc, .slice h.hA p.chans.length h.hc, .slice h.xA p.choices.length h.xc, .int .i64 p.threads] 26)).alloc (.cells #[.int .i64 f.locals, .slice kA f.code.length kc] 45)).alloc (.cells #[.int .i64 i.op, .int .i64 i.a] 47) := ⟨_, rfl⟩
  rw [← hW] at T1 T2 T3 T4
  have zW : w.heap.size + 1 + 1 < W.heap.size := T3.lt
  have KS : Hid (∀ X, Below W.heap.size W X → X.cell? ⟨w.heap.size, 0, none⟩ = some (.slice h.fA p.funcs.length h.fc) ∧ X.cell? ⟨w.heap.size, 1, none⟩ = some (.int .i64 p.mutexes) ∧ X.cell? ⟨w.heap.size, 2, none⟩ = some (.slice h.cA p.conds.length h.cc) ∧ X.cell? ⟨w.heap.size, 3, none⟩ = some (.slice h.sA p.semas.length h.sc) ∧ X.cell? ⟨w.heap.size, 4, none⟩ = some (.slice h.hA p.chans.length h.hc) ∧ X.cell? ⟨w.heap.size, 5, none⟩ = some (.slice h.xA p.choices.length h.xc) ∧ X.cell? ⟨w.heap.size, 6, none⟩ = some (.int .i64 p.threads) ∧ X.cell? ⟨w.heap.size + 1, 0, none⟩ = some (.int .i64 f.locals) ∧ X.cell? ⟨w.heap.size + 1, 1, none⟩ = some (.slice kA f.code.length kc) ∧ X.cell? ⟨w.heap.size + 1 + 1, 0, none⟩ = some (.int .i64 i.op) ∧ X.cell? ⟨w.heap.size + 1 + 1, 1, none⟩ = some (.int .i64 i.a)) := by
    intro X hX
    exact ⟨(hX.cell (p := ⟨w.heap.size, 0, none⟩) (show w.heap.size < W.heap.size by omega)).trans ((T1.cell 0).trans rfl), (hX.cell (p := ⟨w.heap.size, 1, none⟩) (show w.heap.size < W.heap.size by omega)).trans ((T1.cell 1).trans rfl), (hX.cell (p := ⟨w.heap.size, 2, none⟩) (show w.heap.size < W.heap.size by omega)).trans ((T1.cell 2).trans rfl), (hX.cell (p := ⟨w.heap.size, 3, none⟩) (show w.heap.size < W.heap.size by omega)).trans ((T1.cell 3).trans rfl), (hX.cell (p := ⟨w.heap.size, 4, none⟩) (show w.heap.size < W.heap.size by omega)).trans ((T1.cell 4).trans rfl), (hX.cell (p := ⟨w.heap.size, 5, none⟩) (show w.heap.size < W.heap.size by omega)).trans ((T1.cell 5).trans rfl), (hX.cell (p := ⟨w.heap.size, 6, none⟩) (show w.heap.size < W.heap.size by omega)).trans ((T1.cell 6).trans rfl), (hX.cell (p := ⟨w.heap.size + 1, 0, none⟩) (show w.heap.size + 1 < W.heap.size by omega)).trans ((T2.cell 0).trans rfl), (hX.cell (p := ⟨w.heap.size + 1, 1, none⟩) (show w.heap.size + 1 < W.heap.size by omega)).trans ((T2.cell 1).trans rfl), (hX.cell (p := ⟨w.heap.size + 1 + 1, 0, none⟩) zW).trans ((T3.cell 0).trans rfl), (hX.cell (p := ⟨w.heap.size + 1 + 1, 1, none⟩) zW).trans ((T3.cell 1).trans rfl)⟩
  have HWW : Hid (((w.alloc (.cells #[.slice h.fA p.funcs.length h.fc, .int .i64 p.mutexes, .slice h.cA p.conds.length h.cc, .slice h.sA p.semas.length h.sc, .slice h.hA p.chans.length h.hc, .slice h.xA p.choices.length h.xc, .int .i64 p.threads] 26)).alloc (.cells #[.int .i64 f.locals, .slice kA f.code.length kc] 45)).alloc (.cells #[.int .i64 i.op, .int .i64 i.a] 47) = W) := hW.symm
  have H4 := Lib.hid T4
  have HMM := Lib.hid (mostV_most p f i.op)
  obtain ⟨p0, p1, p2, p3, p4, p5, p6, f0, f1, i0, i1⟩ := KS.out W (Below.refl _ _)
  clear T1 T2 T3 T4 hW
  obtain ⟨op, x⟩ := i
  simp only at *
  by_cases hop : op < 0 ∨ 26 < op
  · have HV : Hid (instrB p f ⟨op, x⟩ = false) := by show _ = _; simp [instrB]; omega
    by_cases h1 : op < 0
    all_goals
      try have h2 : 26 < op := by omega
      clear hop
      go_enter Try.func25, Try.ntmps25
      go_upto_region 1 with fail
      rw [HWW.out]
      go_wp2_with fail
      refine (asks_any _ _).mono ?_
      rintro e w1 ⟨rfl, rfl⟩
      go_wp2_with fail
      go_ret
      exact ⟨ret_bool HV.out.symm, H4.out⟩
  · have hop2 : 0 ≤ op ∧ op ≤ 26 := by omega
    have HV : Hid (instrB p f ⟨op, x⟩ = (if asks op then (if op = 0 ∧ x < 0 then decide (-1073741824 ≤ x) else decide (0 ≤ x) && decide (x < most p f op)) else x == 0)) := by
      show _ = _
      simp only [instrB]
      rw [decide_eq_true hop2.1, decide_eq_true hop2.2]
      rfl
    clear hop
    obtain ⟨ho1, ho2⟩ := hop2
    cases has : asks op
    · have HVV : Hid (instrB p f ⟨op, x⟩ = (x == 0)) := by show _ = _; rw [HV.out, has]; rfl
      go_enter Try.func25, Try.ntmps25
      go_upto_region 1 with fail
      rw [HWW.out]
      go_wp2_with fail
      refine (asks_any _ _).mono ?_
      rintro e w1 ⟨rfl, rfl⟩
      go_wp2_with fail
      go_ret
      exact ⟨ret_bool HVV.out.symm, H4.out⟩
    · by_cases hz : op = 0 ∧ x < 0
      · have HVV : Hid (instrB p f ⟨op, x⟩ = decide (-1073741824 ≤ x)) := by show _ = _; rw [HV.out, has, if_pos rfl, if_pos hz]
        have hb0 : (op == 0) = true := by rw [beq_iff_eq]; exact hz.1
        have hx0 := hz.2
        clear hz
        go_enter Try.func25, Try.ntmps25
        go_upto_region 1 with fail
        rw [HWW.out]
        go_wp2_with fail
        refine (asks_any _ _).mono ?_
        rintro e w1 ⟨rfl, rfl⟩
        go_wp2_with fail
        go_ret
        exact ⟨ret_bool HVV.out.symm, H4.out⟩
      · have HVV : Hid (instrB p f ⟨op, x⟩ = (decide (0 ≤ x) && decide (x < most p f op))) := by show _ = _; rw [HV.out, has, if_pos rfl, if_neg hz]
        have hbz : ∀ (b : Bool), ((op == 0) = b) → b = true → 0 ≤ x := fun b h1 h2 => by
          subst h2
          have := beq_iff_eq.1 h1
          omega
        by_cases hx : x < 0
        · have ho : (op == 0) = false := by rw [beq_eq_false_iff_ne]; omega
          have HV3 : Hid (instrB p f ⟨op, x⟩ = false) := by show _ = _; rw [HVV.out]; simp; omega
          have dn : decide (0 ≤ x) = false := by simp; omega
          clear hz hbz
          go_enter Try.func25, Try.ntmps25
          go_upto_region 1 with fail
          rw [HWW.out]
          go_wp2_with fail
          refine (asks_any _ _).mono ?_
          rintro e w1 ⟨rfl, rfl⟩
          go_wp2_with fail
          go_quiet (fail)
          go_wp2_with fail
          go_ret
          exact ⟨ret_bool HV3.out.symm, below_drews H4.out _⟩
        · have hx0 : 0 ≤ x := by omega
          have HV3 : Hid (instrB p f ⟨op, x⟩ = decide (x < most p f op)) := by show _ = _; rw [HVV.out]; simp [hx0]
          have hbq : Below W.heap.size W W := Below.refl _ _
          clear hz hbz hx
          cases hb0 : (op == 0)
          all_goals
            go_enter Try.func25, Try.ntmps25
            go_upto_region 1 with fail
            rw [HWW.out]
            go_wp2_with fail
            refine (asks_any _ _).mono ?_
            rintro e w1 ⟨rfl, rfl⟩
            go_wp2_with fail
            go_region_held3 (fun w' => w'.cell? ⟨w.heap.size, 0, none⟩ = some (.slice h.fA p.funcs.length h.fc) ∧ w'.cell? ⟨w.heap.size, 1, none⟩ = some (.int .i64 p.mutexes) ∧ w'.cell? ⟨w.heap.size, 2, none⟩ = some (.slice h.cA p.conds.length h.cc) ∧ w'.cell? ⟨w.heap.size, 3, none⟩ = some (.slice h.sA p.semas.length h.sc) ∧ w'.cell? ⟨w.heap.size, 4, none⟩ = some (.slice h.hA p.chans.length h.hc) ∧ w'.cell? ⟨w.heap.size, 5, none⟩ = some (.slice h.xA p.choices.length h.xc) ∧ w'.cell? ⟨w.heap.size, 6, none⟩ = some (.int .i64 p.threads) ∧ w'.cell? ⟨w.heap.size + 1, 0, none⟩ = some (.int .i64 f.locals) ∧ w'.cell? ⟨w.heap.size + 1, 1, none⟩ = some (.slice kA f.code.length kc) ∧ w'.cell? ⟨w.heap.size + 1 + 1, 0, none⟩ = some (.int .i64 op) ∧ w'.cell? ⟨w.heap.size + 1 + 1, 1, none⟩ = some (.int .i64 x))
              (first | (exact KS.out _ hbq) | (exact KS.out _ hbq.drew) | go_keep)
              ((go_simp; refine (most_any _ _ _ _ _ _ _ _ _ _ _ _ _ _ _ _ _ _ _ _ _ _ _ (by omega)).mono ?_; rintro e wq ⟨rfl, hbm⟩
                have hbq : Below W.heap.size W wq := (by first | exact ((Below.refl _ _).drew).trans hbm | exact hbm)))
            all_goals
              go_wp2_with fail
              go_ret
              refine ⟨ret_bool (by rw [HV3.out, ← HMM.out]), H4.out.trans (hbq.mono (by omega))⟩

theorem contains_take {l : List Int} {j : Nat} {x y : Int} (h : l[j]? = some y) : (l.take (j + 1)).contains x = ((l.take j).contains x || !(x != y)) := by
  rw [List.take_add_one, h]
  simp only [Option.toList_some, List.contains_eq_mem, List.mem_append, List.mem_singleton]
  by_cases h1 : x ∈ l.take j
  · simp [h1]
  · by_cases h2 : x = y
    · subst h2; simp
    · simp [h1, h2]

def ChI (W : World) (l : List Int) (a : Bool) (s5 s6 : Value) (wr : World) : Prop :=
  ∃ i : Nat, i ≤ l.length ∧ s6 = .int .i64 (i : Int) ∧ (∃ b : Bool, s5 = .bool b ∧ Hid (b = (a && nodupB (l.take i)))) ∧ ∃ n, wr = W.drewN n
def ChK (W : World) (l : List Int) (a : Bool) (i : Nat) (x : Int) (s5 s7 : Value) (wr : World) : Prop :=
  ∃ k : Nat, k ≤ i ∧ s7 = .int .i64 (k : Int) ∧ (∃ b : Bool, s5 = .bool b ∧ Hid (b = (a && nodupB (l.take i) && !(l.take k).contains x))) ∧ ∃ n, wr = W.drewN n

set_option maxHeartbeats 4000000 in
set_option maxRecDepth 100000 in
theorem refChoice_any (h : PH) (p : PV) (l : List Int) (w : World) (B : Nat) (A : Option Addr) (n c : Nat) (hr : RI w B A n c l) (hB : B ≤ w.heap.size) (hn : n ≤ 9223372036854775807) (hc : p.chans.length ≤ 9223372036854775807) :
    Calls Try.prog 24 #[.agg #[.slice h.fA p.funcs.length h.fc, .int .i64 p.mutexes, .slice h.cA p.conds.length h.cc, .slice h.sA p.semas.length h.sc, .slice h.hA p.chans.length h.hc, .slice h.xA p.choices.length h.xc, .int .i64 p.threads], .slice A n c] w fun e w' => e = .returned (.bool (choiceB p.chans.length l)) ∧ Below w.heap.size w w' := by
  obtain ⟨W, hW⟩ : ∃ W, W = w.alloc (.cells #[.slice h.fA p.funcs.length h.fc, .int .i64 p.mutexes, .slice h.cA p.conds.length h.cc, .slice h.sA p.semas.length h.sc, .slice h.hA p.chans.length h.hc, .slice h.xA p.choices.length h.xc, .int .i64 p.threads] 26) := ⟨_, rfl⟩
  have hk : Blk W w.heap.size 26 #[.slice h.fA p.funcs.length h.fc, .int .i64 p.mutexes, .slice h.cA p.conds.length h.cc, .slice h.sA p.semas.length h.sc, .slice h.hA p.chans.length h.hc, .slice h.xA p.choices.length h.xc, .int .i64 p.threads] := by rw [hW]; exact Blk.new _ _ _
  have hbw : Below w.heap.size w W := by rw [hW]; exact (Below.refl _ _).alloc (Nat.le_refl _) _
  have hr2 : RI W B A n c l := hr.keep fun q hq => hbw.cell (by omega)
  have p4 : W.cell? ⟨w.heap.size, 4, none⟩ = some (.slice h.hA p.chans.length h.hc) := (hk.cell 4).trans rfl
  have HWW : Hid (w.alloc (.cells #[.slice h.fA p.funcs.length h.fc, .int .i64 p.mutexes, .slice h.cA p.conds.length h.cc, .slice h.sA p.semas.length h.sc, .slice h.hA p.chans.length h.hc, .slice h.xA p.choices.length h.xc, .int .i64 p.threads] 26) = W) := hW.symm
  have HBW := Lib.hid hbw
  have HR := Lib.hid hr2
  obtain rfl : l.length = n := hr.1
  clear hW hk hbw hr hr2
  go_enter Try.func24, Try.ntmps24
  go_upto_region 1 with fail
  rw [HWW.out]
  go_wp2_with fail
  refine (refAll_any l ((p.chans.length : Int) - 1) W B A _ c HR.out hn).mono ?_
  rintro e w1 ⟨rfl, rfl⟩
  generalize hall : allB l ((p.chans.length : Int) - 1) = a
  have HA := Lib.hid hall
  clear hall
  go_wp2_with fail
  go_loopw [5, 6] (fun s5 s6 wr => ChI W l a s5 s6 wr) (fun _ s6 _ => l.length - (intOf s6).toNat)
  case atStart => exact ⟨0, by omega, rfl, ⟨_, rfl, by show _ = _; simp [nodupB]⟩, 0, rfl⟩
  case round =>
    obtain ⟨i, hi, rfl, ⟨b, rfl, hb⟩, n1, rfl⟩ := hrel
    by_cases hlt : i < l.length
    · obtain ⟨ad, x, rfl, hab, hx, hcx⟩ := HR.out.at_ hlt
      have HNT := Lib.hid (nodup_take hx)
      clear hx
      go_wp2_with fail
      go_loopw [5, 7] (fun s5 s7 wr => ChK W l a i x s5 s7 wr) (fun _ s7 _ => i - (intOf s7).toNat)
      case atStart => exact ⟨0, by omega, rfl, ⟨_, rfl, by show _ = _; rw [hb.out]; simp⟩, n1, rfl⟩
      case round =>
        obtain ⟨k, hki, rfl, ⟨b2, rfl, hb2⟩, n2, rfl⟩ := hrel
        by_cases hkl : k < i
        · obtain ⟨ad', y, hA, hab2, hy, hcy⟩ := HR.out.at_ (k := k) (by omega)
          obtain rfl : ad = ad' := by injection hA
          have HCS := Lib.hid (contains_take (x := x) hy)
          have i1 : (i : Int) < (l.length : Int) := by omega
          have i2 : (k : Int) < (l.length : Int) := by omega
          have i3 : (0 : Int) ≤ (i : Int) := by omega
          have i4 : (0 : Int) ≤ (k : Int) := by omega
          clear hy hA
          cases b2
          all_goals
            go_wp2_with fail
            go_quiet (fail)
            go_wp2_with fail
            refine ⟨⟨k + 1, by omega, by go_num, ⟨_, rfl, ?_⟩, _, rfl⟩, by simp [intOf]; omega⟩
          · show _ = _
            rw [HCS.out]
            have := hb2.out
            revert this
            cases a <;> cases nodupB (l.take i) <;> cases (l.take k).contains x <;> simp
          · show _ = _
            rw [HCS.out]
            have := hb2.out
            revert this
            cases a <;> cases nodupB (l.take i) <;> cases (l.take k).contains x <;> simp [bne]
        · obtain rfl : k = i := by omega
          have hb3 : Hid (b2 = (a && nodupB (l.take (k + 1)))) := by
            show _ = _
            rw [hb2.out, HNT.out, Bool.and_assoc]
          go_wp2_with fail
          exact ⟨⟨k + 1, by omega, by go_num, ⟨b2, rfl, hb3⟩, n2, rfl⟩, by simp [intOf]; omega⟩
    · have hb3 : Hid (choiceB p.chans.length l = (b && decide (1 ≤ l.length) && decide (l.length ≤ 8))) := by
        show _ = _
        rw [hb.out, List.take_of_length_le (by omega), ← HA.out]
        rfl
      have hbel : Below w.heap.size w (W.drewN n1) := below_drews HBW.out n1
      have HBE := Lib.hid hbel
      clear hbel
      by_cases h1 : 1 ≤ l.length
      · by_cases h8 : l.length ≤ 8
        all_goals
          cases b
          all_goals
            have HV : Hid (choiceB p.chans.length l = _) := hb3
            go_wp2_with fail
            go_ret
            exact ⟨ret_bool (by rw [HV.out]; simp [h1, h8] <;> omega), HBE.out⟩
      · cases b
        all_goals
          have HV : Hid (choiceB p.chans.length l = _) := hb3
          go_wp2_with fail
          go_ret
          exact ⟨ret_bool (by rw [HV.out]; simp [h1]), HBE.out⟩
end

section
open Go.RowKit Plain

def MayX (W : World) (p : PV) (s6 : Value) (wr : World) : Prop := ∃ i : Nat, i ≤ p.choices.length ∧ s6 = .int .i64 (i : Int) ∧ Hid ((p.choices.take i).all (choiceB p.chans.length) = true) ∧ Below W.heap.size W wr
def MayG (W : World) (p : PV) (s8 : Value) (wr : World) : Prop := ∃ i : Nat, i ≤ p.funcs.length ∧ s8 = .int .i64 (i : Int) ∧ Hid ((p.funcs.take i).all (funcB p) = true) ∧ Below W.heap.size W wr
def MayI (W : World) (p : PV) (f : FV) (kA : Option Addr) (kc : Nat) (g : Nat) (s10 : Value) (wr : World) : Prop :=
  ∃ j : Nat, j ≤ f.code.length ∧ s10 = .int .i64 (j : Int) ∧ Hid ((f.code.take j).all (instrB p f) = true) ∧ Blk wr g 45 #[.int .i64 f.locals, .slice kA f.code.length kc] ∧ Below W.heap.size W wr

set_option maxHeartbeats 40000000 in
set_option maxRecDepth 100000 in
theorem refMay_any (h : PH) (p : PV) (w : World) (B : Nat) (hr : RP w B h p) (hB : B ≤ w.heap.size) (hlen : Lens p) :
    Calls Try.prog 8 #[.agg #[.slice h.fA p.funcs.length h.fc, .int .i64 p.mutexes, .slice h.cA p.conds.length h.cc, .slice h.sA p.semas.length h.sc, .slice h.hA p.chans.length h.hc, .slice h.xA p.choices.length h.xc, .int .i64 p.threads]] w fun e w' => e = .returned (.bool (mayB p)) ∧ Below w.heap.size w w' := by
  obtain ⟨W, hW⟩ : ∃ W, W = w.alloc (.cells #[.slice h.fA p.funcs.length h.fc, .int .i64 p.mutexes, .slice h.cA p.conds.length h.cc, .slice h.sA p.semas.length h.sc, .slice h.hA p.chans.length h.hc, .slice h.xA p.choices.length h.xc, .int .i64 p.threads] 26) := ⟨_, rfl⟩
  have hk : Blk W w.heap.size 26 #[.slice h.fA p.funcs.length h.fc, .int .i64 p.mutexes, .slice h.cA p.conds.length h.cc, .slice h.sA p.semas.length h.sc, .slice h.hA p.chans.length h.hc, .slice h.xA p.choices.length h.xc, .int .i64 p.threads] := by rw [hW]; exact Blk.new _ _ _
  have hbw : Below w.heap.size w W := by rw [hW]; exact (Below.refl _ _).alloc (Nat.le_refl _) _
  have l1 := hlen.funcs
  have l2 := hlen.conds
  have l3 := hlen.semas
  have l5 := hlen.chans
  have l6 := hlen.choices
  have HLE := Lib.hid hlen.each
  have HLC := Lib.hid hlen.code
  have zk := hk.lt
  have zw := hbw.size
  have RPX : Hid (∀ X, Below W.heap.size W X → RP X B h p) := fun X hX => hr.below ((hbw.mono hB).trans (hX.mono (by omega)))
  have CHX : Hid (∀ X l A n c, Below W.heap.size W X → RI X B A n c l → n ≤ 9223372036854775807 → Calls Try.prog 24 #[.agg #[.slice h.fA p.funcs.length h.fc, .int .i64 p.mutexes, .slice h.cA p.conds.length h.cc, .slice h.sA p.semas.length h.sc, .slice h.hA p.chans.length h.hc, .slice h.xA p.choices.length h.xc, .int .i64 p.threads], .slice A n c] X fun e w' => e = .returned (.bool (choiceB p.chans.length l)) ∧ Below X.heap.size X w') := fun X l A n c hX hl hn =>
    (refChoice_any h p l X B A n c hl (by have := hX.size; omega) hn l5)
  have INX : Hid (∀ X f i kA kc, Below W.heap.size W X → f.code.length ≤ 64 → Calls Try.prog 25 #[.agg #[.slice h.fA p.funcs.length h.fc, .int .i64 p.mutexes, .slice h.cA p.conds.length h.cc, .slice h.sA p.semas.length h.sc, .slice h.hA p.chans.length h.hc, .slice h.xA p.choices.length h.xc, .int .i64 p.threads], .agg #[.int .i64 f.locals, .slice kA f.code.length kc], .agg #[.int .i64 i.op, .int .i64 i.a]] X fun e w' => e = .returned (.bool (instrB p f i)) ∧ Below X.heap.size X w' ∧ Below W.heap.size W w') := fun X f i kA kc hX hn =>
    (refInstr_any h p f i kA kc X hn).mono fun e w' ⟨he, hb⟩ => ⟨he, hb, hX.trans (hb.mono hX.size)⟩
  obtain ⟨fA, fc, cA, cc, sA, sc, hA, hc, xA, xc⟩ := h
  simp only at hk RPX CHX INX hW ⊢
  have KS : Hid (∀ X, Below W.heap.size W X → X.cell? ⟨w.heap.size, 0, none⟩ = some (.slice fA p.funcs.length fc) ∧ X.cell? ⟨w.heap.size, 1, none⟩ = some (.int .i64 p.mutexes) ∧ X.cell? ⟨w.heap.size, 2, none⟩ = some (.slice cA p.conds.length cc) ∧ X.cell? ⟨w.heap.size, 3, none⟩ = some (.slice sA p.semas.length sc) ∧ X.cell? ⟨w.heap.size, 4, none⟩ = some (.slice hA p.chans.length hc) ∧ X.cell? ⟨w.heap.size, 5, none⟩ = some (.slice xA p.choices.length xc) ∧ X.cell? ⟨w.heap.size, 6, none⟩ = some (.int .i64 p.threads)) := by
    intro X hX
    exact ⟨(hX.cell (p := ⟨w.heap.size, 0, none⟩) zk).trans ((hk.cell 0).trans rfl), (hX.cell (p := ⟨w.heap.size, 1, none⟩) zk).trans ((hk.cell 1).trans rfl), (hX.cell (p := ⟨w.heap.size, 2, none⟩) zk).trans ((hk.cell 2).trans rfl), (hX.cell (p := ⟨w.heap.size, 3, none⟩) zk).trans ((hk.cell 3).trans rfl), (hX.cell (p := ⟨w.heap.size, 4, none⟩) zk).trans ((hk.cell 4).trans rfl), (hX.cell (p := ⟨w.heap.size, 5, none⟩) zk).trans ((hk.cell 5).trans rfl), (hX.cell (p := ⟨w.heap.size, 6, none⟩) zk).trans ((hk.cell 6).trans rfl)⟩
  have HWW : Hid (w.alloc (.cells #[.slice fA p.funcs.length fc, .int .i64 p.mutexes, .slice cA p.conds.length cc, .slice sA p.semas.length sc, .slice hA p.chans.length hc, .slice xA p.choices.length xc, .int .i64 p.threads] 26) = W) := hW.symm
  have HBW := Lib.hid hbw
  obtain ⟨p0, p1, p2, p3, p4, p5, p6⟩ := KS.out W (Below.refl _ _)
  clear hr hlen hk hbw hW
  by_cases hhd : headB p = true
  rotate_left
  · have HV : Hid (mayB p = false) := by show _ = _; unfold mayB; rw [show headB p = false by simpa using hhd]; rfl
    have HH : Hid (¬ headB p = true) := hhd
    clear hhd
    go_enter Try.func8, Try.ntmps8
    go_upto_region 1 with fail
    rw [HWW.out]
    go_upto_region 3 with fail
    all_goals first
      | (go_ret; exact ⟨ret_bool HV.out.symm, HBW.out⟩)
      | (exfalso; refine HH.out ?_; simp only [headB, Bool.and_eq_true, decide_eq_true_eq]; clear p0 p1 p2 p3 p4 p5 p6; omega)
  · have HV : Hid (mayB p = ((allB p.conds (p.mutexes - 1) && allB p.semas 100 && allB p.chans 8) && p.choices.all (choiceB p.chans.length) && p.funcs.all (funcB p))) := by show _ = _; unfold mayB; rw [hhd]; rfl
    simp only [headB, Bool.and_eq_true, decide_eq_true_eq] at hhd
    obtain ⟨⟨⟨⟨⟨⟨⟨⟨⟨a0, a1⟩, a2⟩, a3⟩, a4⟩, a5⟩, a6⟩, a7⟩, a8⟩, a9⟩ := hhd
    go_enter Try.func8, Try.ntmps8
    go_upto_region 1 with fail
    rw [HWW.out]
    go_wp2_with fail
    refine (refAll_any p.conds (p.mutexes - 1) W B _ _ _ (RPX.out W (Below.refl _ _)).conds (by omega)).mono ?_
    rintro e w1 ⟨rfl, rfl⟩
    generalize hb1 : allB p.conds (p.mutexes - 1) = b1
    have HB1 := Lib.hid hb1
    clear hb1
    go_wp2_with fail
    refine (refAll_any p.semas 100 W B _ _ _ (RPX.out W (Below.refl _ _)).semas (by omega)).mono ?_
    rintro e w1 ⟨rfl, rfl⟩
    generalize hb2 : allB p.semas 100 = b2
    have HB2 := Lib.hid hb2
    clear hb2
    go_wp2_with fail
    refine (refAll_any p.chans 8 W B _ _ _ (RPX.out W (Below.refl _ _)).chans (by omega)).mono ?_
    rintro e w1 ⟨rfl, rfl⟩
    generalize hb3 : allB p.chans 8 = b3
    have HB3 := Lib.hid hb3
    clear hb3
    by_cases hb : (b1 && b2 && b3) = false
    · have HV2 : Hid (mayB p = false) := by show _ = _; rw [HV.out, HB1.out, HB2.out, HB3.out, hb]; rfl
      cases b1 <;> cases b2 <;> cases b3
      all_goals first
        | (exfalso; simp at hb; done)
        | (clear hb; go_wp2_with fail; go_ret; exact ⟨ret_bool HV2.out.symm, HBW.out⟩)
    · have hb' : b1 = true ∧ b2 = true ∧ b3 = true := by revert hb; cases b1 <;> cases b2 <;> cases b3 <;> simp
      obtain ⟨rfl, rfl, rfl⟩ := hb'
      have HV2 : Hid (mayB p = (p.choices.all (choiceB p.chans.length) && p.funcs.all (funcB p))) := by show _ = _; rw [HV.out, HB1.out, HB2.out, HB3.out]; rfl
      clear hb
      go_wp2_with fail
      go_loopw [6] (fun s6 wr => MayX W p s6 wr) (fun s6 _ => p.choices.length - (intOf s6).toNat)
      case atStart => exact ⟨0, by omega, rfl, rfl, Below.refl _ _⟩
      case round =>
        obtain ⟨wb, rfl⟩ : ∃ x, x = wr := ⟨_, rfl⟩
        obtain ⟨i, hi, rfl, hall, hbel⟩ := hrel
        have HBL := Lib.hid hbel
        have zb := hbel.size
        obtain ⟨p0, p1, p2, p3, p4, p5, p6⟩ := KS.out wb hbel
        by_cases hlt : i < p.choices.length
        · have hxl := (RPX.out wb hbel).choices
          simp only at hxl
          obtain ⟨ad, t, rfl, hab, htl, hcell, hrt⟩ := hxl.at_ hlt
          have hll := HLE.out _ (List.mem_of_getElem? htl)
          have HAT := Lib.hid (all_take' (P := choiceB p.chans.length) htl)
          have HNO : Hid (choiceB p.chans.length t.l = false → p.choices.all (choiceB p.chans.length) = false) := fun hf => by
            rw [List.all_eq_false]
            exact ⟨_, List.mem_of_getElem? htl, by simp [hf]⟩
          have HRT : Hid (∀ X, Below wb.heap.size wb X → RI X B t.A t.l.length t.c t.l) := fun X hX => hrt.keep fun q hq => hX.cell (by have := HBL.out.size; omega)
          have KX : Hid (∀ X, Below wb.heap.size wb X → (X.cell? ⟨w.heap.size, 0, none⟩ = some (.slice fA p.funcs.length fc) ∧ X.cell? ⟨w.heap.size, 1, none⟩ = some (.int .i64 p.mutexes) ∧ X.cell? ⟨w.heap.size, 2, none⟩ = some (.slice cA p.conds.length cc) ∧ X.cell? ⟨w.heap.size, 3, none⟩ = some (.slice sA p.semas.length sc) ∧ X.cell? ⟨w.heap.size, 4, none⟩ = some (.slice hA p.chans.length hc) ∧ X.cell? ⟨w.heap.size, 5, none⟩ = some (.slice (some ad) p.choices.length xc) ∧ X.cell? ⟨w.heap.size, 6, none⟩ = some (.int .i64 p.threads)) ∧ X.cell? (ad.add i) = some (.slice t.A t.l.length t.c)) := fun X hX =>
            ⟨KS.out X (HBL.out.trans (hX.mono (by omega))), (hX.cell (p := ad.add i) (by rw [block_of_add]; omega)).trans hcell⟩
          have hbq := Below.refl wb.heap.size wb
          clear hxl htl hrt hbel
          go_wp2_with fail
          go_region_held3 (fun w' => (w'.cell? ⟨w.heap.size, 0, none⟩ = some (.slice fA p.funcs.length fc) ∧ w'.cell? ⟨w.heap.size, 1, none⟩ = some (.int .i64 p.mutexes) ∧ w'.cell? ⟨w.heap.size, 2, none⟩ = some (.slice cA p.conds.length cc) ∧ w'.cell? ⟨w.heap.size, 3, none⟩ = some (.slice sA p.semas.length sc) ∧ w'.cell? ⟨w.heap.size, 4, none⟩ = some (.slice hA p.chans.length hc) ∧ w'.cell? ⟨w.heap.size, 5, none⟩ = some (.slice (some ad) p.choices.length xc) ∧ w'.cell? ⟨w.heap.size, 6, none⟩ = some (.int .i64 p.threads)) ∧ w'.cell? (ad.add i) = some (.slice t.A t.l.length t.c))
            (first | (exact KX.out _ hbq) | (exact KX.out _ hbq.drew) | go_keep)
            ((go_simp; refine (CHX.out _ t.l t.A _ t.c (HBL.out.trans ((show Below wb.heap.size wb _ by first | exact hbq | exact hbq.drew).mono (by omega))) (HRT.out _ (by first | exact hbq | exact hbq.drew)) hll).mono ?_; rintro e wq ⟨rfl, hbc⟩
              have hbq : Below wb.heap.size wb wq := (show Below wb.heap.size wb _ by first | exact hbq | exact hbq.drew).trans (hbc.mono (show Below wb.heap.size wb _ by first | exact hbq | exact hbq.drew).size)))
          all_goals
            have HQ := Lib.hid hbq
            clear hbq
            generalize hcb : choiceB p.chans.length t.l = cb
            have HCB := Lib.hid hcb
            clear hcb
            cases cb
            · go_wp2_with fail
              go_ret
              exact ⟨ret_bool (by rw [HV2.out, HNO.out HCB.out]; rfl), HBW.out.trans ((HBL.out.trans (HQ.out.mono zb)).mono zw)⟩
            · go_wp2_with fail
              exact ⟨⟨i + 1, by omega, by go_num, by show _ = _; rw [HAT.out, hall.out, HCB.out]; rfl, HBL.out.trans (HQ.out.mono zb)⟩, by simp [intOf]; omega⟩
        · have HV3 : Hid (mayB p = p.funcs.all (funcB p)) := by
            show _ = _
            rw [HV2.out]
            have h := hall.out
            rw [List.take_of_length_le (by omega)] at h
            rw [h]; rfl
          clear hall hbel HV2
          go_wp2_with fail
          clear p0 p1 p2 p3 p4 p5 p6
          go_loopw [8] (fun s8 wr => MayG W p s8 wr) (fun s8 _ => p.funcs.length - (intOf s8).toNat)
          case atStart => exact ⟨0, by omega, rfl, rfl, HBL.out⟩
          case round =>
            clear HBL zb
            obtain ⟨wv, rfl⟩ : ∃ x, x = wr := ⟨_, rfl⟩
            obtain ⟨k, hk, rfl, hall, hbel⟩ := hrel
            have HBL := Lib.hid hbel
            have zb := hbel.size
            obtain ⟨p0, p1, p2, p3, p4, p5, p6⟩ := KS.out wv hbel
            by_cases hlt2 : k < p.funcs.length
            · have hfl := (RPX.out wv hbel).funcs
              simp only at hfl
              obtain ⟨ad, t, rfl, hab, htl, c0, c1, hrc⟩ := hfl.at_ hlt2
              have hll := HLC.out _ (List.mem_of_getElem? htl)
              have HAT := Lib.hid (all_take' (P := funcB p) htl)
              have HNO : Hid (funcB p t.f = false → p.funcs.all (funcB p) = false) := fun hf => by
                rw [List.all_eq_false]
                exact ⟨_, List.mem_of_getElem? htl, by simp [hf]⟩
              obtain ⟨⟨lo, code⟩, kA, kc⟩ := t
              simp only at c0 c1 hrc hll HAT HNO
              obtain ⟨V, hV⟩ : ∃ V, V = wv.alloc (.cells #[.int .i64 lo, .slice kA code.length kc] 45) := ⟨_, rfl⟩
              have hbv : Below wv.heap.size wv V := by rw [hV]; exact (Below.refl _ _).alloc (Nat.le_refl _) _
              have hbk : Blk V wv.heap.size 45 #[.int .i64 lo, .slice kA code.length kc] := by rw [hV]; exact Blk.new _ _ _
              have zv := hbk.lt
              have HRC : Hid (∀ X, Below V.heap.size V X → RC X B kA code.length kc code) := fun X hX => hrc.keep fun q hq => (hbv.trans (hX.mono hbv.size)).cell (by have := HBL.out.size; omega)
              have HVV := Lib.hid hV.symm
              have HBV := Lib.hid hbv
              have HBK := Lib.hid hbk
              have f0 := (hbk.cell 0).trans rfl
              have f1 := (hbk.cell 1).trans rfl
              clear hfl htl hrc hbel hV hbv hbk
              have HVB : Hid (Below w.heap.size w V) := HBW.out.trans ((HBL.out.trans (HBV.out.mono zb)).mono zw)
              have hps := KS.out V (HBL.out.trans (HBV.out.mono zb))
              by_cases h1 : lo < 0
              · have HF : Hid (funcB p ⟨lo, code⟩ = false) := by show _ = _; simp [funcB]; omega
                go_upto_region 18 with fail
                rw [HVV.out]
                go_wp2_with fail
                go_ret
                exact ⟨ret_bool (by rw [HV3.out, HNO.out HF.out]), HVB.out⟩
              · by_cases h2 : 8 < lo
                · have HF : Hid (funcB p ⟨lo, code⟩ = false) := by show _ = _; simp [funcB]; omega
                  go_upto_region 18 with fail
                  rw [HVV.out]
                  go_wp2_with fail
                  go_ret
                  exact ⟨ret_bool (by rw [HV3.out, HNO.out HF.out]), HVB.out⟩
                · by_cases h3 : 64 < code.length
                  · have HF : Hid (funcB p ⟨lo, code⟩ = false) := by show _ = _; simp [funcB]; omega
                    go_upto_region 18 with fail
                    rw [HVV.out]
                    go_wp2_with fail
                    go_ret
                    exact ⟨ret_bool (by rw [HV3.out, HNO.out HF.out]), HVB.out⟩
                  · have HFV : Hid (funcB p ⟨lo, code⟩ = code.all (instrB p ⟨lo, code⟩)) := by show _ = _; simp [funcB]; omega
                    have hlo : 0 ≤ lo ∧ lo ≤ 8 := by omega
                    have hcl : code.length ≤ 64 := by omega
                    obtain ⟨hlo0, hlo8⟩ := hlo
                    clear h1 h2 h3
                    go_upto_region 18 with fail
                    rw [HVV.out]
                    go_wp2_with fail
                    clear p0 p1 p2 p3 p4 p5 p6 c0 c1 f0 f1 hps
                    go_loopw [10] (fun s10 wx => MayI V p ⟨lo, code⟩ kA kc wv.heap.size s10 wx) (fun s10 _ => code.length - (intOf s10).toNat)
                    case atStart => exact ⟨0, by omega, rfl, rfl, HBK.out, Below.refl _ _⟩
                    case round =>
                      obtain ⟨j, hj, rfl, hal2, hbk2, hbv2⟩ := hrel
                      have zq := hbv2.size
                      have hj : j ≤ code.length := hj
                      by_cases hlt3 : j < code.length
                      · obtain ⟨ad2, ins, rfl, hab2, hil, d0, d1⟩ := (HRC.out wr hbv2).at_ hlt3
                        have HAI := Lib.hid (all_take' (P := instrB p ⟨lo, code⟩) hil)
                        have HNI : Hid (instrB p ⟨lo, code⟩ ins = false → code.all (instrB p ⟨lo, code⟩) = false) := fun hf => by
                          rw [List.all_eq_false]
                          exact ⟨_, List.mem_of_getElem? hil, by simp [hf]⟩
                        have HBX : Hid (∀ X, Below wr.heap.size wr X → Below V.heap.size V X) := fun X hX => hbv2.trans (hX.mono zq)
                        have KX : Hid (∀ X, Below wr.heap.size wr X → (X.cell? ⟨w.heap.size, 0, none⟩ = some (.slice (some ad) p.funcs.length fc) ∧ X.cell? ⟨w.heap.size, 1, none⟩ = some (.int .i64 p.mutexes) ∧ X.cell? ⟨w.heap.size, 2, none⟩ = some (.slice cA p.conds.length cc) ∧ X.cell? ⟨w.heap.size, 3, none⟩ = some (.slice sA p.semas.length sc) ∧ X.cell? ⟨w.heap.size, 4, none⟩ = some (.slice hA p.chans.length hc) ∧ X.cell? ⟨w.heap.size, 5, none⟩ = some (.slice xA p.choices.length xc) ∧ X.cell? ⟨w.heap.size, 6, none⟩ = some (.int .i64 p.threads)) ∧ X.cell? ⟨wv.heap.size, 0, none⟩ = some (.int .i64 lo) ∧ X.cell? ⟨wv.heap.size, 1, none⟩ = some (.slice (some ad2) code.length kc) ∧ X.cell? (ad2.add (j * 2)) = some (.int .i64 ins.op) ∧ X.cell? ⟨(ad2.add (j * 2)).block, (ad2.add (j * 2)).off + 1, none⟩ = some (.int .i64 ins.a)) := fun X hX =>
                          ⟨KS.out X (HBL.out.trans ((HBV.out.trans ((HBX.out X hX).mono (by omega))).mono zb)), ((hbk2.below hX hbk2.lt).cell 0).trans rfl, ((hbk2.below hX hbk2.lt).cell 1).trans rfl, (hX.cell (p := ad2.add (j * 2)) (by rw [block_of_add]; omega)).trans d0, (hX.cell (p := ⟨(ad2.add (j * 2)).block, (ad2.add (j * 2)).off + 1, none⟩) (by show (ad2.add (j * 2)).block < _; rw [block_of_add]; omega)).trans d1⟩
                        have HBK2 := Lib.hid hbk2
                        have hbq := Below.refl wr.heap.size wr
                        obtain ⟨⟨p0, p1, p2, p3, p4, p5, p6⟩, x0, x1, x2, x3⟩ := KX.out wr hbq
                        have i1 : (j : Int) < (code.length : Int) := by omega
                        have i2 : (0 : Int) ≤ (j : Int) := by omega
                        clear hil d0 d1 hbk2
                        go_wp2_with fail
                        go_region_held3 (fun w' => (w'.cell? ⟨w.heap.size, 0, none⟩ = some (.slice (some ad) p.funcs.length fc) ∧ w'.cell? ⟨w.heap.size, 1, none⟩ = some (.int .i64 p.mutexes) ∧ w'.cell? ⟨w.heap.size, 2, none⟩ = some (.slice cA p.conds.length cc) ∧ w'.cell? ⟨w.heap.size, 3, none⟩ = some (.slice sA p.semas.length sc) ∧ w'.cell? ⟨w.heap.size, 4, none⟩ = some (.slice hA p.chans.length hc) ∧ w'.cell? ⟨w.heap.size, 5, none⟩ = some (.slice xA p.choices.length xc) ∧ w'.cell? ⟨w.heap.size, 6, none⟩ = some (.int .i64 p.threads)) ∧ w'.cell? ⟨wv.heap.size, 0, none⟩ = some (.int .i64 lo) ∧ w'.cell? ⟨wv.heap.size, 1, none⟩ = some (.slice (some ad2) code.length kc) ∧ w'.cell? (ad2.add (j * 2)) = some (.int .i64 ins.op) ∧ w'.cell? ⟨(ad2.add (j * 2)).block, (ad2.add (j * 2)).off + 1, none⟩ = some (.int .i64 ins.a))
                          (first | (exact KX.out _ hbq) | (exact KX.out _ hbq.drew) | go_keep)
                          ((go_simp; refine (INX.out _ ⟨lo, code⟩ ins (some ad2) kc (HBL.out.trans ((HBV.out.trans ((HBX.out _ (by first | exact hbq | exact hbq.drew)).mono (by omega))).mono zb)) (by show code.length ≤ 64; omega)).mono ?_; rintro e wq ⟨rfl, hbc, hbd⟩
                            have hbq : Below wr.heap.size wr wq := (show Below wr.heap.size wr _ by first | exact hbq | exact hbq.drew).trans (hbc.mono (show Below wr.heap.size wr _ by first | exact hbq | exact hbq.drew).size)))
                        all_goals
                          have HQ := Lib.hid hbq
                          clear hbq
                          generalize hcb : instrB p ⟨lo, code⟩ ins = cb
                          have HCB := Lib.hid hcb
                          clear hcb
                          cases cb
                          · go_wp2_with fail
                            go_ret
                            exact ⟨ret_bool (by rw [HV3.out, HNO.out (by rw [HFV.out, HNI.out HCB.out])]), HVB.out.trans ((HBX.out _ HQ.out).mono (by omega))⟩
                          · go_wp2_with fail
                            exact ⟨⟨j + 1, (show j + 1 ≤ code.length by omega), by go_num, by show _ = _; rw [HAI.out, hal2.out, HCB.out]; rfl, HBK2.out.below HQ.out HBK2.out.lt, HBX.out _ HQ.out⟩, by simp [intOf]; omega⟩
                      · have HFT : Hid (funcB p ⟨lo, code⟩ = true) := by
                          show _ = _
                          rw [HFV.out]
                          have h := hal2.out
                          rwa [List.take_of_length_le (show code.length ≤ j by omega)] at h
                        have HX2 := Lib.hid hbv2
                        have y1 := (hbk2.cell 1).trans rfl
                        clear hal2 hbk2 hbv2
                        go_wp2_with fail
                        exact ⟨⟨k + 1, by omega, by go_num, by show _ = _; rw [HAT.out, hall.out, HFT.out]; rfl, HBL.out.trans ((HBV.out.trans (HX2.out.mono (by omega))).mono zb)⟩, by simp [intOf]; omega⟩
            · have HF : Hid (p.funcs.all (funcB p) = true) := by
                show _ = _
                have h := hall.out
                rwa [List.take_of_length_le (by omega)] at h
              clear hall
              go_wp2_with fail
              go_ret
              exact ⟨ret_bool (by rw [HV3.out, HF.out]), HBW.out.trans (HBL.out.mono zw)⟩
end
end Go.Proofs.Ytmjbfobjndiecaa
