
/-
  The document's rules of a program: all, choice, instr.
-/
import Derived.Test.YtmjbfobjndiecaaMayB
import Derived.Deep.QuietTactic
import Derived.BigQuiet
import Derived.Deep.RegionHeld3
import Derived.Test.YtmjbfobjndiecaaMayC
namespace Go.Proofs.Ytmjbfobjndiecaa
open Go.RowKit Plain

set_option maxHeartbeats 1000000 in
set_option maxRecDepth 100000 in
theorem refAll_any (l : List Int) (b : Int) (w : World) (B : Nat) (A : Option Addr) (n c : Nat) (hr : RI w B A n c l) (hn : n ≤ 9223372036854775807) :
    Calls Try.prog 23 #[.slice A n c, .int .i64 b] w fun e w' => e = .returned (.bool (allB l b)) ∧ w = w' := by
  obtain ⟨rfl, hnc, hrd⟩ := hr
  have HR := Lib.hid hrd
  clear hrd
  go_enter Try.func23, Try.ntmps23
  go_wp2_with fail
  go_loop [5] (fun s => ∃ k : Nat, k ≤ l.length ∧ s = .int .i64 (k : Int) ∧ Hid (allB (l.take k) b = true)) (fun s => l.length - (intOf s).toNat)
  case atStart => exact ⟨0, by omega, rfl, rfl⟩
  case round =>
    obtain ⟨k, hk, rfl, hall⟩ := hrel
    by_cases hlt : k < l.length
    · obtain ⟨ad, x, rfl, hab, hx, hc⟩ := RI.at_ ⟨rfl, hnc, HR.out⟩ hlt
      have HS := Lib.hid (all_take (P := fun x => decide (0 ≤ x) && decide (x ≤ b)) hx)
      have HX := Lib.hid hx
      clear hx
      by_cases h1 : x < 0
      · go_wp2_with fail
        go_ret
        refine ⟨ret_bool ?_, rfl⟩
        symm
        unfold allB
        rw [List.all_eq_false]
        exact ⟨x, List.mem_of_getElem? HX.out, by simp; omega⟩
      · by_cases h2 : b < x
        · go_wp2_with fail
          go_ret
          refine ⟨ret_bool ?_, rfl⟩
          symm
          unfold allB
          rw [List.all_eq_false]
          exact ⟨x, List.mem_of_getElem? HX.out, by simp; omega⟩
        · go_wp2_with fail
          refine ⟨⟨k + 1, by omega, by go_num, ?_⟩, by simp [intOf]; omega⟩
          show _ = _
          have h3 := hall.out
          unfold allB at h3 ⊢
          rw [HS.out, h3]
          simp
          omega
    · have hf : allB l b = true := by have := hall.out; rwa [List.take_of_length_le (by omega)] at this
      have HFL := Lib.hid hf
      clear hf
      go_wp2_with fail
      go_ret
      exact ⟨ret_bool HFL.out.symm, rfl⟩

set_option maxHeartbeats 4000000 in
set_option maxRecDepth 100000 in
theorem refInstr_any (h : PH) (p : PV) (f : FV) (i : IV) (kA : Option Addr) (kc : Nat) (w : World) (hk : f.code.length ≤ 64) :
    Calls Try.prog 25 #[.agg #[.slice h.fA p.funcs.length h.fc, .int .i64 p.mutexes, .slice h.cA p.conds.length h.cc, .slice h.sA p.semas.length h.sc, .slice h.hA p.chans.length h.hc, .slice h.xA p.choices.length h.xc, .int .i64 p.threads], .agg #[.int .i64 f.locals, .slice kA f.code.length kc], .agg #[.int .i64 i.op, .int .i64 i.a]] w
      fun e w' => e = .returned (.bool (instrB p f i)) ∧ Below w.heap.size w w' := by
  obtain ⟨T1, T2, T3, T4⟩ := three w 26 45 47 #[.slice h.fA p.funcs.length h.fc, .int .i64 p.mutexes, .slice h.cA p.conds.length h.cc, .slice h.sA p.semas.length h.sc, .slice h.hA p.chans.length h.hc, .slice h.xA p.choices.length h.xc, .int .i64 p.threads] #[.int .i64 f.locals, .slice kA f.code.length kc] #[.int .i64 i.op, .int .i64 i.a]
  obtain ⟨W, hW⟩ : ∃ W, W = ((w.alloc (.cells #[.slice h.fA p.funcs.length h.fc, .int .i64 p.mutexes, .slice h.cA p.conds.length h.cc, .slice h.sA p.semas.length h.sc, .slice h.hA p.chans.length h.hc, .slice h.xA p.choices.length h.xc, .int .i64 p.threads] 26)).alloc (.cells #[.int .i64 f.locals, .slice kA f.code.length kc] 45)).alloc (.cells #[.int .i64 i.op, .int .i64 i.a] 47) := ⟨_, rfl⟩
  rw [← hW] at T1 T2 T3 T4
  have zW : w.heap.size + 1 + 1 < W.heap.size := T3.lt
  have KS : Hid (∀ X, Below W.heap.size W X → X.cell? ⟨w.heap.size, 0, none⟩ = some (.slice h.fA p.funcs.length h.fc) ∧ X.cell? ⟨w.heap.size, 1, none⟩ = some (.int .i64 p.mutexes) ∧ X.cell? ⟨w.heap.size, 2, none⟩ = some (.slice h.cA p.conds.length h.cc) ∧ X.cell? ⟨w.heap.size, 3, none⟩ = some (.slice h.sA p.semas.length h.sc) ∧ X.cell? ⟨w.heap.size, 4, none⟩ = some (.slice h.hA p.chans.length h.hc) ∧ X.cell? ⟨w.heap.size, 5, none⟩ = some (.slice h.xA p.choices.length h.xc) ∧ X.cell? ⟨w.heap.size, 6, none⟩ = some (.int .i64 p.threads) ∧ X.cell? ⟨w.heap.size + 1, 0, none⟩ = some (.int .i64 f.locals) ∧ X.cell? ⟨w.heap.size + 1, 1, none⟩ = some (.slice kA f.code.length kc) ∧ X.cell? ⟨w.heap.size + 1 + 1, 0, none⟩ = some (.int .i64 i.op) ∧ X.cell? ⟨w.heap.size + 1 + 1, 1, none⟩ = some (.int .i64 i.a)) := by
    intro X hX
    exact ⟨(hX.cell (p := ⟨w.heap.size, 0, none⟩) (show w.heap.size < W.heap.size by omega)).trans ((T1.cell 0).trans rfl), (hX.cell (p := ⟨w.heap.size, 1, none⟩) (show w.heap.size < W.heap.size by omega)).trans ((T1.cell 1).trans rfl), (hX.cell (p := ⟨w.heap.size, 2, none⟩) (show w.heap.size < W.heap.size by omega)).trans ((T1.cell 2).trans rfl), (hX.cell (p := ⟨w.heap.size, 3, none⟩) (show w.heap.size < W.heap.size by omega)).trans ((T1.cell 3).trans rfl), (hX.cell (p := ⟨w.heap.size, 4, none⟩) (show w.heap.size < W.heap.size by omega)).trans ((T1.cell 4).trans rfl), (hX.cell (p := ⟨w.heap.size, 5, none⟩) (show w.heap.size < W.heap.size by omega)).trans ((T1.cell 5).trans rfl), (hX.cell (p := ⟨w.heap.size, 6, none⟩) (show w.heap.size < W.heap.size by omega)).trans ((T1.cell 6).trans rfl), (hX.cell (p := ⟨w.heap.size + 1, 0, none⟩) (show w.heap.size + 1 < W.heap.size by omega)).trans ((T2.cell 0).trans rfl), (hX.cell (p := ⟨w.heap.size + 1, 1, none⟩) (show w.heap.size + 1 < W.heap.size by omega)).trans ((T2.cell 1).trans rfl), (hX.cell (p := ⟨w.heap.size + 1 + 1, 0, none⟩) zW).trans ((T3.cell 0).trans rfl), (hX.cell (p := ⟨w.heap.size + 1 + 1, 1, none⟩) zW).trans ((T3.cell 1).trans rfl)⟩
  have HWW : Hid (((w.alloc (.cells #[.slice h.fA p.funcs.length h.fc, .int .i64 p.mutexes, .slice h.cA p.conds.length h.cc, .slice h.sA p.semas.length h.sc, .slice h.hA p.chans.length h.hc, .slice h.xA p.choices.length h.xc, .int .i64 p.threads] 26)).alloc (.cells #[.int .i64 f.locals, .slice kA f.code.length kc] 45)).alloc (.cells #[.int .i64 i.op, .int .i64 i.a] 47) = W) := hW.symm
  have H4 := Lib.hid T4
  have HMM := Lib.hid (mostV_most p f i.op)
  obtain ⟨p0, p1, p2, p3, p4, p5, p6, f0, f1, i0, i1⟩ := KS.out W (Below.refl _ _)
  clear T1 T2 T3 T4 hW
  obtain ⟨op, x⟩ := i
  simp only at *
  by_cases hop : op < 0 ∨ 26 < op
  · have HV : Hid (instrB p f ⟨op, x⟩ = false) := by show _ = _; simp [instrB]; omega
    by_cases h1 : op < 0
    all_goals
      try have h2 : 26 < op := by omega
      clear hop
      go_enter Try.func25, Try.ntmps25
      go_upto_region 1 with fail
      rw [HWW.out]
      go_wp2_with fail
      refine (asks_any _ _).mono ?_
      rintro e w1 ⟨rfl, rfl⟩
      go_wp2_with fail
      go_ret
      exact ⟨ret_bool HV.out.symm, H4.out⟩
  · have hop2 : 0 ≤ op ∧ op ≤ 26 := by omega
    have HV : Hid (instrB p f ⟨op, x⟩ = (if asks op then (if op = 0 ∧ x < 0 then decide (-1073741824 ≤ x) else decide (0 ≤ x) && decide (x < most p f op)) else x == 0)) := by
      show _ = _
      simp only [instrB]
      rw [decide_eq_true hop2.1, decide_eq_true hop2.2]
      rfl
    clear hop
    obtain ⟨ho1, ho2⟩ := hop2
    cases has : asks op
    · have HVV : Hid (instrB p f ⟨op, x⟩ = (x == 0)) := by show _ = _; rw [HV.out, has]; rfl
      go_enter Try.func25, Try.ntmps25
      go_upto_region 1 with fail
      rw [HWW.out]
      go_wp2_with fail
      refine (asks_any _ _).mono ?_
      rintro e w1 ⟨rfl, rfl⟩
      go_wp2_with fail
      go_ret
      exact ⟨ret_bool HVV.out.symm, H4.out⟩
    · by_cases hz : op = 0 ∧ x < 0
      · have HVV : Hid (instrB p f ⟨op, x⟩ = decide (-1073741824 ≤ x)) := by show _ = _; rw [HV.out, has, if_pos rfl, if_pos hz]
        have hb0 : (op == 0) = true := by rw [beq_iff_eq]; exact hz.1
        have hx0 := hz.2
        clear hz
        go_enter Try.func25, Try.ntmps25
        go_upto_region 1 with fail
        rw [HWW.out]
        go_wp2_with fail
        refine (asks_any _ _).mono ?_
        rintro e w1 ⟨rfl, rfl⟩
        go_wp2_with fail
        go_ret
        exact ⟨ret_bool HVV.out.symm, H4.out⟩
      · have HVV : Hid (instrB p f ⟨op, x⟩ = (decide (0 ≤ x) && decide (x < most p f op))) := by show _ = _; rw [HV.out, has, if_pos rfl, if_neg hz]
        have hbz : ∀ (b : Bool), ((op == 0) = b) → b = true → 0 ≤ x := fun b h1 h2 => by
          subst h2
          have := beq_iff_eq.1 h1
          omega
        by_cases hx : x < 0
        · have ho : (op == 0) = false := by rw [beq_eq_false_iff_ne]; omega
          have HV3 : Hid (instrB p f ⟨op, x⟩ = false) := by show _ = _; rw [HVV.out]; simp; omega
          have dn : decide (0 ≤ x) = false := by simp; omega
          clear hz hbz
          go_enter Try.func25, Try.ntmps25
          go_upto_region 1 with fail
          rw [HWW.out]
          go_wp2_with fail
          refine (asks_any _ _).mono ?_
          rintro e w1 ⟨rfl, rfl⟩
          go_wp2_with fail
          go_quiet (fail)
          go_wp2_with fail
          go_ret
          exact ⟨ret_bool HV3.out.symm, below_drews H4.out _⟩
        · have hx0 : 0 ≤ x := by omega
          have HV3 : Hid (instrB p f ⟨op, x⟩ = decide (x < most p f op)) := by show _ = _; rw [HVV.out]; simp [hx0]
          have hbq : Below W.heap.size W W := Below.refl _ _
          clear hz hbz hx
          cases hb0 : (op == 0)
          all_goals
            go_enter Try.func25, Try.ntmps25
            go_upto_region 1 with fail
            rw [HWW.out]
            go_wp2_with fail
            refine (asks_any _ _).mono ?_
            rintro e w1 ⟨rfl, rfl⟩
            go_wp2_with fail
            go_region_held3 (fun w' => w'.cell? ⟨w.heap.size, 0, none⟩ = some (.slice h.fA p.funcs.length h.fc) ∧ w'.cell? ⟨w.heap.size, 1, none⟩ = some (.int .i64 p.mutexes) ∧ w'.cell? ⟨w.heap.size, 2, none⟩ = some (.slice h.cA p.conds.length h.cc) ∧ w'.cell? ⟨w.heap.size, 3, none⟩ = some (.slice h.sA p.semas.length h.sc) ∧ w'.cell? ⟨w.heap.size, 4, none⟩ = some (.slice h.hA p.chans.length h.hc) ∧ w'.cell? ⟨w.heap.size, 5, none⟩ = some (.slice h.xA p.choices.length h.xc) ∧ w'.cell? ⟨w.heap.size, 6, none⟩ = some (.int .i64 p.threads) ∧ w'.cell? ⟨w.heap.size + 1, 0, none⟩ = some (.int .i64 f.locals) ∧ w'.cell? ⟨w.heap.size + 1, 1, none⟩ = some (.slice kA f.code.length kc) ∧ w'.cell? ⟨w.heap.size + 1 + 1, 0, none⟩ = some (.int .i64 op) ∧ w'.cell? ⟨w.heap.size + 1 + 1, 1, none⟩ = some (.int .i64 x))
              (first | (exact KS.out _ hbq) | (exact KS.out _ hbq.drew) | go_keep)
              ((go_simp; refine (most_any _ _ _ _ _ _ _ _ _ _ _ _ _ _ _ _ _ _ _ _ _ _ _ (by omega)).mono ?_; rintro e wq ⟨rfl, hbm⟩
                have hbq : Below W.heap.size W wq := (by first | exact ((Below.refl _ _).drew).trans hbm | exact hbm)))
            all_goals
              go_wp2_with fail
              go_ret
              refine ⟨ret_bool (by rw [HV3.out, ← HMM.out]), H4.out.trans (hbq.mono (by omega))⟩

theorem contains_take {l : List Int} {j : Nat} {x y : Int} (h : l[j]? = some y) : (l.take (j + 1)).contains x = ((l.take j).contains x || !(x != y)) := by
  rw [List.take_add_one, h]
  simp only [Option.toList_some, List.contains_eq_mem, List.mem_append, List.mem_singleton]
  by_cases h1 : x ∈ l.take j
  · simp [h1]
  · by_cases h2 : x = y
    · subst h2; simp
    · simp [h1, h2]

def ChI (W : World) (l : List Int) (a : Bool) (s5 s6 : Value) (wr : World) : Prop :=
  ∃ i : Nat, i ≤ l.length ∧ s6 = .int .i64 (i : Int) ∧ (∃ b : Bool, s5 = .bool b ∧ Hid (b = (a && nodupB (l.take i)))) ∧ ∃ n, wr = W.drewN n
def ChK (W : World) (l : List Int) (a : Bool) (i : Nat) (x : Int) (s5 s7 : Value) (wr : World) : Prop :=
  ∃ k : Nat, k ≤ i ∧ s7 = .int .i64 (k : Int) ∧ (∃ b : Bool, s5 = .bool b ∧ Hid (b = (a && nodupB (l.take i) && !(l.take k).contains x))) ∧ ∃ n, wr = W.drewN n

set_option maxHeartbeats 4000000 in
set_option maxRecDepth 100000 in
theorem refChoice_any (h : PH) (p : PV) (l : List Int) (w : World) (B : Nat) (A : Option Addr) (n c : Nat) (hr : RI w B A n c l) (hB : B ≤ w.heap.size) (hn : n ≤ 9223372036854775807) (hc : p.chans.length ≤ 9223372036854775807) :
    Calls Try.prog 24 #[.agg #[.slice h.fA p.funcs.length h.fc, .int .i64 p.mutexes, .slice h.cA p.conds.length h.cc, .slice h.sA p.semas.length h.sc, .slice h.hA p.chans.length h.hc, .slice h.xA p.choices.length h.xc, .int .i64 p.threads], .slice A n c] w fun e w' => e = .returned (.bool (choiceB p.chans.length l)) ∧ Below w.heap.size w w' := by
  obtain ⟨W, hW⟩ : ∃ W, W = w.alloc (.cells #[.slice h.fA p.funcs.length h.fc, .int .i64 p.mutexes, .slice h.cA p.conds.length h.cc, .slice h.sA p.semas.length h.sc, .slice h.hA p.chans.length h.hc, .slice h.xA p.choices.length h.xc, .int .i64 p.threads] 26) := ⟨_, rfl⟩
  have hk : Blk W w.heap.size 26 #[.slice h.fA p.funcs.length h.fc, .int .i64 p.mutexes, .slice h.cA p.conds.length h.cc, .slice h.sA p.semas.length h.sc, .slice h.hA p.chans.length h.hc, .slice h.xA p.choices.length h.xc, .int .i64 p.threads] := by rw [hW]; exact Blk.new _ _ _
  have hbw : Below w.heap.size w W := by rw [hW]; exact (Below.refl _ _).alloc (Nat.le_refl _) _
  have hr2 : RI W B A n c l := hr.keep fun q hq => hbw.cell (by omega)
  have p4 : W.cell? ⟨w.heap.size, 4, none⟩ = some (.slice h.hA p.chans.length h.hc) := (hk.cell 4).trans rfl
  have HWW : Hid (w.alloc (.cells #[.slice h.fA p.funcs.length h.fc, .int .i64 p.mutexes, .slice h.cA p.conds.length h.cc, .slice h.sA p.semas.length h.sc, .slice h.hA p.chans.length h.hc, .slice h.xA p.choices.length h.xc, .int .i64 p.threads] 26) = W) := hW.symm
  have HBW := Lib.hid hbw
  have HR := Lib.hid hr2
  obtain rfl : l.length = n := hr.1
  clear hW hk hbw hr hr2
  go_enter Try.func24, Try.ntmps24
  go_upto_region 1 with fail
  rw [HWW.out]
  go_wp2_with fail
  refine (refAll_any l ((p.chans.length : Int) - 1) W B A _ c HR.out hn).mono ?_
  rintro e w1 ⟨rfl, rfl⟩
  generalize hall : allB l ((p.chans.length : Int) - 1) = a
  have HA := Lib.hid hall
  clear hall
  go_wp2_with fail
  go_loopw [5, 6] (fun s5 s6 wr => ChI W l a s5 s6 wr) (fun _ s6 _ => l.length - (intOf s6).toNat)
  case atStart => exact ⟨0, by omega, rfl, ⟨_, rfl, by show _ = _; simp [nodupB]⟩, 0, rfl⟩
  case round =>
    obtain ⟨i, hi, rfl, ⟨b, rfl, hb⟩, n1, rfl⟩ := hrel
    by_cases hlt : i < l.length
    · obtain ⟨ad, x, rfl, hab, hx, hcx⟩ := HR.out.at_ hlt
      have HNT := Lib.hid (nodup_take hx)
      clear hx
      go_wp2_with fail
      go_loopw [5, 7] (fun s5 s7 wr => ChK W l a i x s5 s7 wr) (fun _ s7 _ => i - (intOf s7).toNat)
      case atStart => exact ⟨0, by omega, rfl, ⟨_, rfl, by show _ = _; rw [hb.out]; simp⟩, n1, rfl⟩
      case round =>
        obtain ⟨k, hki, rfl, ⟨b2, rfl, hb2⟩, n2, rfl⟩ := hrel
        by_cases hkl : k < i
        · obtain ⟨ad', y, hA, hab2, hy, hcy⟩ := HR.out.at_ (k := k) (by omega)
          obtain rfl : ad = ad' := by injection hA
          have HCS := Lib.hid (contains_take (x := x) hy)
          have i1 : (i : Int) < (l.length : Int) := by omega
          have i2 : (k : Int) < (l.length : Int) := by omega
          have i3 : (0 : Int) ≤ (i : Int) := by omega
          have i4 : (0 : Int) ≤ (k : Int) := by omega
          clear hy hA
          cases b2
          all_goals
            go_wp2_with fail
            go_quiet (fail)
            go_wp2_with fail
            refine ⟨⟨k + 1, by omega, by go_num, ⟨_, rfl, ?_⟩, _, rfl⟩, by simp [intOf]; omega⟩
          · show _ = _
            rw [HCS.out]
            have := hb2.out
            revert this
            cases a <;> cases nodupB (l.take i) <;> cases (l.take k).contains x <;> simp
          · show _ = _
            rw [HCS.out]
            have := hb2.out
            revert this
            cases a <;> cases nodupB (l.take i) <;> cases (l.take k).contains x <;> simp [bne]
        · obtain rfl : k = i := by omega
          have hb3 : Hid (b2 = (a && nodupB (l.take (k + 1)))) := by
            show _ = _
            rw [hb2.out, HNT.out, Bool.and_assoc]
          go_wp2_with fail
          exact ⟨⟨k + 1, by omega, by go_num, ⟨b2, rfl, hb3⟩, n2, rfl⟩, by simp [intOf]; omega⟩
    · have hb3 : Hid (choiceB p.chans.length l = (b && decide (1 ≤ l.length) && decide (l.length ≤ 8))) := by
        show _ = _
        rw [hb.out, List.take_of_length_le (by omega), ← HA.out]
        rfl
      have hbel : Below w.heap.size w (W.drewN n1) := below_drews HBW.out n1
      have HBE := Lib.hid hbel
      clear hbel
      by_cases h1 : 1 ≤ l.length
      · by_cases h8 : l.length ≤ 8
        all_goals
          cases b
          all_goals
            have HV : Hid (choiceB p.chans.length l = _) := hb3
            go_wp2_with fail
            go_ret
            exact ⟨ret_bool (by rw [HV.out]; simp [h1, h8] <;> omega), HBE.out⟩
      · cases b
        all_goals
          have HV : Hid (choiceB p.chans.length l = _) := hb3
          go_wp2_with fail
          go_ret
          exact ⟨ret_bool (by rw [HV.out]; simp [h1]), HBE.out⟩
end Go.Proofs.Ytmjbfobjndiecaa
