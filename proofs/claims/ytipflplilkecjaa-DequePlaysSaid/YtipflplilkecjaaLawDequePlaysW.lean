
/-
  The walk of DequePlays.
-/
import Derived.Test.YtipflplilkecjaaRows
import Derived.WalkKit
import Derived.ProofKit
import Derived.OpenShut
import Derived.ShutString
import Derived.ChangeOld
import Derived.Below
import Derived.Test.YtipflplilkecjaaDqZ
import Derived.Test.YtipflplilkecjaaRgOwn
import Derived.Test.YtipflplilkecjaaDqF
namespace Go.Proofs.Ytipflplilkecjaa.dequePlays
open Go.ChangeShapes Go.WideShapes Go.ChangeAt Go.RowKit Go.Proofs.Ytipflplilkecjaa Go.Proofs.Ytipflplilkecjaa.Plain
open Go.ChangeMaps (open_string shut_string)
set_option linter.unusedVariables false


theorem rows_fr {wr : World} {b0 : Nat} {A : Option Addr} {n c : Nat} {O : List Int} (h : FR wr b0 (.slice A n c) O) (hn : O.length = n) {k : Nat} {x : Int} (hk : k < n) (hx : O[k]? = some x) : ∃ b o, A = some ⟨b, o, none⟩ ∧ wr.cell? ⟨b, o + k, none⟩ = some (.int .i64 x) := by
  rcases h with ⟨h1, h2⟩ | ⟨b, o, c', cs, h1, h2, h3, h4, h5, h6, h7⟩
  · subst h2; simp at hx
  · injection h1 with e1 e2 e3
    refine ⟨b, o, e1, ?_⟩
    rw [h5.cell]
    simpa using h7 k x hx
/-- Where DequePlays stands: the deque, the row. -/
structure DP (w wr : World) (b0 d s room : Nat) (l : List Int) (vo : Value) (O : List Int) : Prop where
  dq : Dqs wr d s room [l]
  own : FR wr b0 vo O
  hd : d < b0
  hs : s < b0
  h0 : w.heap.size ≤ d
  h1 : w.heap.size ≤ s
  b0 : b0 ≤ wr.heap.size
  bel : Below w.heap.size w wr
theorem DP.turned {w wr w' : World} {b0 d s room : Nat} {l l' : List Int} {vo : Value} {O : List Int} (r : DP w wr b0 d s room l vo O) (hq : Dqs w' d s room [l']) (hf : Fr (fun i => i = d ∨ i = s) wr w') : DP w w' b0 d s room l' vo O := by
  have e1 := r.hd; have e2 := r.hs; have e3 := r.h0; have e4 := r.h1; have e5 := r.b0; have e6 := hf.size
  have e7 := r.bel.size
  exact ⟨hq, r.own.fr hf (fun i hi => .inl (by omega)), e1, e2, e3, e4, by omega, r.bel.trans (hf.below e7 (fun i hi => by omega))⟩
theorem DP.drewN {w wr : World} {b0 d s room : Nat} {l : List Int} {vo : Value} {O : List Int} (r : DP w wr b0 d s room l vo O) (n : Nat) : DP w (wr.drewN n) b0 d s room l vo O :=
  r.turned (r.dq.drewN n) ((Fr.refl _ _).drewN n)
theorem DP.below {w wr w' : World} {b0 d s room : Nat} {l : List Int} {vo : Value} {O : List Int} (r : DP w wr b0 d s room l vo O) (hb : Below wr.heap.size wr w') : DP w w' b0 d s room l vo O := by
  have e7 := r.bel.size; have := hb.size; have := r.b0
  exact ⟨r.dq.below hb r.dq.lt.1 r.dq.lt.2, r.own.below hb (Nat.le_refl _), r.hd, r.hs, r.h0, r.h1, by omega, r.bel.trans (hb.mono e7)⟩
theorem DP.app {w wr w' : World} {b0 d s room : Nat} {l : List Int} {vo vo' : Value} {O O' : List Int} (r : DP w wr b0 d s room l vo O) (ho : FR w' b0 vo' O') (hb : Below b0 wr w') : DP w w' b0 d s room l vo' O' := by
  have e1 := r.hd; have e2 := r.hs; have e3 := r.h0; have e4 := r.h1; have e5 := r.b0; have e7 := r.bel.size; have := hb.size
  exact ⟨r.dq.below hb e1 e2, ho, e1, e2, e3, e4, by omega, r.bel.trans (hb.mono (by omega))⟩
theorem DP.len {w wr : World} {b0 d s room : Nat} {l : List Int} {vo : Value} {O : List Int} (r : DP w wr b0 d s room l vo O) : l.length ≤ room ∧ room ≤ 8 := ⟨r.dq.len 0 l rfl, r.dq.r8⟩
set_option maxRecDepth 100000 in
set_option maxHeartbeats 40000000 in
theorem walk (a0 : Int) (a1 : Option Addr) (len1 cap1 : Nat) (z1 : List Int) (w : World) (w0 : (Lit.int .i64 a0).wf = true) (w1 : IsRow .i64 w a1 len1 cap1 z1) :
    Calls Try.prog 4 #[.int .i64 a0, .slice a1 len1 cap1] w fun e w' => e = .returned (.bool true) ∧ Below w.heap.size w w' := by
  obtain ⟨i0, hi0, hz0, hz1, hz2⟩ := info_parts info_int
  obtain ⟨l1, hl, hR, hfit, hc, hn⟩ := row_int w1
  have ba := wf_i64 w0
  obtain ⟨room, hroom⟩ : ∃ room, clampD a0 = room := ⟨_, rfl⟩
  have hcl := clampD_le a0
  rw [hroom] at hcl
  have hnew := newD room a0 w hroom ba.1 ba.2
  have hmax : ∀ W, (Builtin.max_ #[3, 3] 3 #[.int .i64 a0, .int .i64 1]).run Try.prog W = .ok (.int .i64 (max a0 1)) W := by
    intro W
    rw [run_max_int2]
    simp only [Int.max_def]
    split <;> split <;> first | rfl | (congr 2; omega)
  have hmin : ∀ W, (Builtin.min_ #[3, 3] 3 #[.int .i64 (max a0 1), .int .i64 8]).run Try.prog W = .ok (.int .i64 (room : Int)) W := by
    intro W
    rw [run_min_int2, ← hroom]
    unfold clampD
    simp only [Int.max_def, Int.min_def]
    split <;> split <;> first | rfl | (congr 2; omega)
  obtain ⟨n8, hn8⟩ : ∃ k, k = min len1 60 := ⟨_, rfl⟩
  have HN8 := Lib.hid hn8
  have hn88 : n8 ≤ 60 := by omega
  have har := fun (W : World) (x : Int) (h : -9223372036854775808 ≤ x ∧ x ≤ 9223372036854775807) => around_any x 3 W h.1 h.2 (by omega) (by omega)
  have HNEW := Lib.hid hnew; have HAR := Lib.hid har; have HR := Lib.hid hR; have HL := Lib.hid hl; have HFIT := Lib.hid hfit
  clear hnew har hR hl w0 w1 ba hn8 hroom hfit
  go_enter Try.func4, Try.ntmps4
  go_wp2_with fail
  refine HNEW.out.mono ?_
  rintro e w1 ⟨d, s, rfl, hq, hd, hs, hb⟩
  have hl1 := hq.lt
  have z1 := hb.size
  obtain ⟨b0, hb0⟩ : ∃ b0, b0 = w1.heap.size := ⟨_, rfl⟩
  have hct : DP w w1 b0 d s room [] (.slice none 0 0) [] := ⟨hq, FR.nil _ _, by omega, by omega, hd, hs, by omega, hb⟩
  have HCT := Lib.hid hct
  clear hq hb hct hd hs hl1 z1 hb0 HNEW
  go_wp2_with fail
  clear hmax hmin
  go_loopw [7, 8] (fun s7 s8 wr => ∃ (vs : Value) (j : Nat) (l : List Int), vs = s7 ∧ j ≤ n8 ∧ s8 = .int .i64 (j : Int) ∧ Hid (DP w wr b0 d s room l vs l)) (fun _ s8 _ => n8 - (intOf s8).toNat)
  case atStart => exact ⟨_, 0, [], rfl, by omega, rfl, HCT⟩
  case round =>
    clear HCT
    obtain ⟨vs, j, l, rfl, hj, rfl, HD⟩ := hrel
    obtain ⟨A, c, hvs, hcs, hrs⟩ := HD.out.own.slice
    have hlr := HD.out.len
    obtain ⟨n, hn⟩ : ∃ n, l.length = n := ⟨_, rfl⟩
    rw [hn] at hvs hcs hrs hlr
    subst hvs
    by_cases hlt : j < n8
    · have hj1 : j < len1 := by have := HN8.out; omega
      have hj2 : j < 60 := by omega
      obtain ⟨ad, x, rfl, hab, hx, hcx0⟩ := HR.out.num hj1
      have hcx := (HD.out.bel.cell (p := ad.add j) (by rw [block_of_add]; exact hab)).trans hcx0
      have hfx := HFIT.out x (List.mem_of_getElem? hx)
      have hax := fun W => HAR.out W x hfx
      have hal := aroundV_lt (n := x) (m := 3) (by omega)
      generalize aroundV x 3 = kk at *
      have HAX := Lib.hid hax; have HNX := Lib.hid hn; have HC0 := Lib.hid hcx0
      clear hax hx hfx hn hcx0 hrs HR HFIT HL HAR
      by_cases hk2 : kk = 2
      · subst hk2
        by_cases hfull : n < room
        · have hpu := push_dq_yes d s room [l] 0 l wr x HD.out.dq rfl (by rw [HNX.out]; exact hfull)
          obtain ⟨l2, hl2⟩ : ∃ l2, l2 = l ++ [x] := ⟨_, rfl⟩
          have hn2 : l2.length = n + 1 := by rw [hl2, List.length_append, HNX.out]; rfl
          rw [← hl2] at hpu
          have HPU := Lib.hid hpu; have HL2 := Lib.hid hl2; have HN2 := Lib.hid hn2
          clear hpu hl2 hn2
          have hneq : ¬ (n : Int) = (room : Int) := by omega
          go_wp2_with fail
          refine (HAX.out _).mono ?_
          rintro e w' ⟨rfl, rfl⟩
          go_wp2_with fail
          refine HPU.out.mono ?_
          rintro e w2 ⟨rfl, hq, hf⟩
          have hd2 := HD.out.turned (l' := l2) hq hf
          have hcx2 := (hd2.bel.cell (p := ad.add j) (by rw [block_of_add]; exact hab)).trans HC0.out
          have hb02 := hd2.b0
          have HD2 := Lib.hid hd2
          clear hq hf hd2 hcx HPU HAX HD
          go_wp2_with (at_builtin; go_must (refine wpList_append_f (v := .slice A n c) rfl (.tmp 72) (.tmp 77) rfl (HD2.out.own.fr (S := fun _ => False) ((Fr.refl _ _).alloc _) (fun _ h => h.elim)) ?f1 rfl x ⟨w2.heap.size, 0, none⟩ 1 rfl (by simp) (by simp; omega) ?f4))
          case f1 => rw [HNX.out]; omega
          case f4 =>
          intro v5 w6 hfr hbl
          rw [← HL2.out] at hfr
          have hbl2 : Below b0 w2 w6 := ((Below.refl b0 w2).alloc hb02 (.cells #[.int .i64 x] 3)).trans hbl
          have hd6 := HD2.out.app hfr hbl2
          obtain ⟨A6, c6, hv6, _, _⟩ := hfr.slice
          rw [HN2.out] at hv6
          subst hv6
          have HD := Lib.hid hd6
          clear hfr hbl hbl2 hd6 HD2 hcx2 HNX
          have hls := list_dq d s room [l2] 0 l2 w6 HD.out.dq rfl
          have hln := fun (W : World) (h : Dqs W d s room [l2]) => len_dq d s room [l2] 0 l2 W h rfl
          have hrm := fun (W : World) (h : Dqs W d s room [l2]) => room_dq d s room [l2] 0 l2 W h rfl
          rw [HN2.out] at hln hrm
          have hlen8 := HD.out.len
          rw [HN2.out] at hlen8
          have hsub : IntKind.i64.wrap ((room : Int) - ((n + 1) : Int)) = ((room - (n + 1) : Nat) : Int) := by rw [IntWalk.i64_in _ (by omega)]; omega
          have HLS := Lib.hid hls; have HLN := Lib.hid hln; have HRM := Lib.hid hrm
          clear hls hln hrm
          go_wp2_with fail
          refine HLS.out.mono ?_
          rintro e wL ⟨v9, rfl, hown, hbL⟩
          obtain ⟨A9, c9, hv9, hc9, hr9⟩ := OwnI.slice hown
          rw [HN2.out] at hv9 hr9
          subst hv9
          have hd3 := HD.out.below hbL
          obtain ⟨A8, c8, hv8, hc8, hr8⟩ := hd3.own.slice
          rw [HN2.out] at hv8 hr8
          injection hv8 with f1 f2 f3
          subst f1 f3
          have hsm := sameInts_yes l2 (n + 1) HN2.out wL _ _ _ _ c9 c6 hr9 hr8 (by omega)
          have HD3 := Lib.hid hd3; have HSM := Lib.hid hsm
          clear hown hbL hr9 hr8 hd3 hsm hc9 hc8 HLS HD
          go_wp2_with fail
          refine HSM.out.mono ?_
          rintro e w' ⟨rfl, m1, rfl⟩
          have HD4 := Lib.hid (HD3.out.drewN m1)
          clear HD3 HSM
          go_wp2_with fail
          refine (HLN.out _ HD4.out.dq).mono ?_
          rintro e w' ⟨rfl, rfl⟩
          go_wp2_with fail
          refine (HRM.out _ HD4.out.dq).mono ?_
          rintro e w' ⟨rfl, m2, rfl⟩
          have hd5 := HD4.out.drewN m2
          rw [World.drewN_drewN] at hd5
          have HD5 := Lib.hid hd5
          clear hd5
          clear HD4 HLN HRM
          go_wp2_with fail
          exact ⟨⟨_, j + 1, l2, rfl, by omega, by go_num, HD5⟩, by simp [intOf]; omega⟩
        · have hpu := push_dq_no d s room [l] 0 l wr x HD.out.dq rfl (by rw [HNX.out]; omega)
          have HPU := Lib.hid hpu
          have hneq : n = room := by omega
          clear hpu
          subst hneq
          go_wp2_with fail
          refine (HAX.out _).mono ?_
          rintro e w' ⟨rfl, rfl⟩
          go_wp2_with fail
          refine HPU.out.mono ?_
          rintro e w2 ⟨rfl, m0, rfl⟩
          have HD2 := Lib.hid (HD.out.drewN m0)
          clear HD HPU HAX hcx
          have HD := HD2
          clear HD2
          generalize wr.drewN m0 = w6 at *
          have hls := list_dq d s n [l] 0 l w6 HD.out.dq rfl
          have hln := fun (W : World) (h : Dqs W d s n [l]) => len_dq d s n [l] 0 l W h rfl
          have hrm := fun (W : World) (h : Dqs W d s n [l]) => room_dq d s n [l] 0 l W h rfl
          rw [HNX.out] at hln hrm
          have hlen8 := HD.out.len
          rw [HNX.out] at hlen8
          have hsub : IntKind.i64.wrap ((n : Int) - (n : Int)) = ((n - n : Nat) : Int) := by rw [IntWalk.i64_in _ (by omega)]; omega
          have HLS := Lib.hid hls; have HLN := Lib.hid hln; have HRM := Lib.hid hrm
          clear hls hln hrm
          go_wp2_with fail
          refine HLS.out.mono ?_
          rintro e wL ⟨v9, rfl, hown, hbL⟩
          obtain ⟨A9, c9, hv9, hc9, hr9⟩ := OwnI.slice hown
          rw [HNX.out] at hv9 hr9
          subst hv9
          have hd3 := HD.out.below hbL
          obtain ⟨A8, c8, hv8, hc8, hr8⟩ := hd3.own.slice
          rw [HNX.out] at hv8 hr8
          injection hv8 with f1 f2 f3
          subst f1 f3
          have hsm := sameInts_yes l n HNX.out wL _ _ _ _ c9 c hr9 hr8 (by omega)
          have HD3 := Lib.hid hd3; have HSM := Lib.hid hsm
          clear hown hbL hr9 hr8 hd3 hsm hc9 hc8 HLS HD
          go_wp2_with fail
          refine HSM.out.mono ?_
          rintro e w' ⟨rfl, m1, rfl⟩
          have HD4 := Lib.hid (HD3.out.drewN m1)
          clear HD3 HSM
          go_wp2_with fail
          refine (HLN.out _ HD4.out.dq).mono ?_
          rintro e w' ⟨rfl, rfl⟩
          go_wp2_with fail
          refine (HRM.out _ HD4.out.dq).mono ?_
          rintro e w' ⟨rfl, m2, rfl⟩
          have hd5 := HD4.out.drewN m2
          rw [World.drewN_drewN] at hd5
          have HD5 := Lib.hid hd5
          clear hd5
          clear HD4 HLN HRM
          go_wp2_with fail
          exact ⟨⟨_, j + 1, l, rfl, by omega, by go_num, HD5⟩, by simp [intOf]; omega⟩
      · by_cases hn0 : n = 0
        · subst hn0
          have hln : l = [] := List.eq_nil_of_length_eq_zero HNX.out
          subst hln
          have hp := pop_dq_no d s room [[]] 0 wr HD.out.dq rfl
          have hst := steal_dq_no d s room [[]] 0 wr HD.out.dq rfl
          have HP := Lib.hid hp; have HST := Lib.hid hst
          clear hp hst
          go_wp2_with fail
          refine (HAX.out _).mono ?_
          rintro e w' ⟨rfl, rfl⟩
          go_wp2_with fail
          refine HP.out.mono ?_
          rintro e w' ⟨rfl, rfl⟩
          go_wp2_with fail
          refine HST.out.mono ?_
          rintro e w' ⟨rfl, rfl⟩
          clear HP HST HAX
          have hls := list_dq d s room [[]] 0 [] wr HD.out.dq rfl
          have hln := fun (W : World) (h : Dqs W d s room [[]]) => len_dq d s room [[]] 0 [] W h rfl
          have hrm := fun (W : World) (h : Dqs W d s room [[]]) => room_dq d s room [[]] 0 [] W h rfl
          rw [HNX.out] at hln hrm
          have hlen8 := HD.out.len
          rw [HNX.out] at hlen8
          have hsub : IntKind.i64.wrap ((room : Int) - (0 : Int)) = ((room - 0 : Nat) : Int) := by rw [IntWalk.i64_in _ (by omega)]; omega
          have HLS := Lib.hid hls; have HLN := Lib.hid hln; have HRM := Lib.hid hrm
          clear hls hln hrm
          go_wp2_with fail
          refine HLS.out.mono ?_
          rintro e wL ⟨v9, rfl, hown, hbL⟩
          obtain ⟨A9, c9, hv9, hc9, hr9⟩ := OwnI.slice hown
          rw [HNX.out] at hv9 hr9
          subst hv9
          have hd3 := HD.out.below hbL
          obtain ⟨A8, c8, hv8, hc8, hr8⟩ := hd3.own.slice
          rw [HNX.out] at hv8 hr8
          injection hv8 with f1 f2 f3
          subst f1 f3
          have hsm := sameInts_yes [] 0 HNX.out wL _ _ _ _ c9 c hr9 hr8 (by omega)
          have HD3 := Lib.hid hd3; have HSM := Lib.hid hsm
          clear hown hbL hr9 hr8 hd3 hsm hc9 hc8 HLS HD
          go_wp2_with fail
          refine HSM.out.mono ?_
          rintro e w' ⟨rfl, m1, rfl⟩
          have HD4 := Lib.hid (HD3.out.drewN m1)
          clear HD3 HSM
          go_wp2_with fail
          refine (HLN.out _ HD4.out.dq).mono ?_
          rintro e w' ⟨rfl, rfl⟩
          go_wp2_with fail
          refine (HRM.out _ HD4.out.dq).mono ?_
          rintro e w' ⟨rfl, m2, rfl⟩
          have hd5 := HD4.out.drewN m2
          rw [World.drewN_drewN] at hd5
          have HD5 := Lib.hid hd5
          clear hd5
          clear HD4 HLN HRM
          go_wp2_with fail
          exact ⟨⟨_, j + 1, [], rfl, by omega, by go_num, HD5⟩, by simp [intOf]; omega⟩
        · obtain ⟨p, rfl⟩ : ∃ p, n = p + 1 := ⟨n - 1, by omega⟩
          by_cases hk0 : kk = 0
          · subst hk0
            obtain ⟨l2, y, rfl⟩ := snoc_of (show l ≠ [] by intro e; have := HNX.out; rw [e] at this; simp at this)
            have hn2 : l2.length = p := by have := HNX.out; simpa using this
            have hp := pop_dq_yes d s room [l2 ++ [y]] 0 l2 wr y HD.out.dq rfl
            obtain ⟨hfi, hpc⟩ := HD.out.own.init hn2
            have hrow := rows_fr HD.out.own HNX.out (k := p) (x := y) (by omega) (by rw [← hn2]; simp)
            obtain ⟨b, o, hA, hcy0⟩ := hrow
            subst hA
            have HP := Lib.hid hp; have HN2 := Lib.hid hn2; have HCY := Lib.hid hcy0
            have hw1 : IntKind.i64.wrap (((p + 1 : Nat) : Int) - 1) = (p : Int) := by rw [IntWalk.i64_in _ (by omega)]; omega
            have hp0 : (0 : Int) ≤ (p : Int) := by omega
            have hpp : (p : Int) < (p : Int) + 1 := by omega
            have hpc2 : (p : Int) ≤ (c : Int) := by omega
            have hpc3 : p ≤ c := hpc
            clear hp hn2 hfi hcy0 hpc
            go_wp2_with fail
            refine (HAX.out _).mono ?_
            rintro e w' ⟨rfl, rfl⟩
            go_wp2_with fail
            refine HP.out.mono ?_
            rintro e w2 ⟨rfl, hq, hf⟩
            have hd2 := HD.out.turned (l' := l2) hq hf
            have hcy : w2.cell? ⟨b, o + p, none⟩ = some (.int .i64 y) := by
              obtain ⟨b', o', hA', h2⟩ := rows_fr hd2.own HNX.out (k := p) (x := y) (by omega) (by rw [← HN2.out]; simp)
              injection hA' with hA'
              injection hA' with e1 e2
              subst e1 e2
              exact h2
            obtain ⟨hfi, hpc⟩ := hd2.own.init HN2.out
            have HD2 := Lib.hid (⟨hd2.dq, hfi, hd2.hd, hd2.hs, hd2.h0, hd2.h1, hd2.b0, hd2.bel⟩ : DP w w2 b0 d s room l2 (.slice (some ⟨b, o, none⟩) p c) l2)
            clear hq hf hd2 hfi hpc HD HP HAX hcx HCY HNX
            have HD := HD2
            clear HD2
            have hls := list_dq d s room [l2] 0 l2 w2 HD.out.dq rfl
            have hln := fun (W : World) (h : Dqs W d s room [l2]) => len_dq d s room [l2] 0 l2 W h rfl
            have hrm := fun (W : World) (h : Dqs W d s room [l2]) => room_dq d s room [l2] 0 l2 W h rfl
            rw [HN2.out] at hln hrm
            have hlen8 := HD.out.len
            rw [HN2.out] at hlen8
            have hsub : IntKind.i64.wrap ((room : Int) - (p : Int)) = ((room - p : Nat) : Int) := by rw [IntWalk.i64_in _ (by omega)]; omega
            have HLS := Lib.hid hls; have HLN := Lib.hid hln; have HRM := Lib.hid hrm
            clear hls hln hrm
            go_wp2_with fail
            refine HLS.out.mono ?_
            rintro e wL ⟨v9, rfl, hown, hbL⟩
            obtain ⟨A9, c9, hv9, hc9, hr9⟩ := OwnI.slice hown
            rw [HN2.out] at hv9 hr9
            subst hv9
            have hd3 := HD.out.below hbL
            obtain ⟨A8, c8, hv8, hc8, hr8⟩ := hd3.own.slice
            rw [HN2.out] at hv8 hr8
            injection hv8 with f1 f2 f3
            subst f1 f3
            have hsm := sameInts_yes l2 p HN2.out wL _ _ _ _ c9 c hr9 hr8 (by omega)
            have HD3 := Lib.hid hd3; have HSM := Lib.hid hsm
            clear hown hbL hr9 hr8 hd3 hsm hc9 hc8 HLS HD
            go_wp2_with fail
            refine HSM.out.mono ?_
            rintro e w' ⟨rfl, m1, rfl⟩
            have HD4 := Lib.hid (HD3.out.drewN m1)
            clear HD3 HSM
            go_wp2_with fail
            refine (HLN.out _ HD4.out.dq).mono ?_
            rintro e w' ⟨rfl, rfl⟩
            go_wp2_with fail
            refine (HRM.out _ HD4.out.dq).mono ?_
            rintro e w' ⟨rfl, m2, rfl⟩
            have hd5 := HD4.out.drewN m2
            rw [World.drewN_drewN] at hd5
            have HD5 := Lib.hid hd5
            clear hd5
            clear HD4 HLN HRM
            go_wp2_with fail
            exact ⟨⟨_, j + 1, l2, rfl, by omega, by go_num, HD5⟩, by simp [intOf]; omega⟩
          · have hk1 : kk = 1 := by omega
            subst hk1
            obtain ⟨y, l2, rfl⟩ := List.exists_cons_of_ne_nil (show l ≠ [] by intro e; have := HNX.out; rw [e] at this; simp at this)
            have hn2 : l2.length = p := by have := HNX.out; simpa using this
            have hp := steal_dq_yes d s room [y :: l2] 0 l2 wr y HD.out.dq rfl
            obtain ⟨hfi, hpc⟩ := HD.out.own.tail hn2
            obtain ⟨b, o, hA, hcy0⟩ := rows_fr HD.out.own HNX.out (k := 0) (x := y) (by omega) rfl
            subst hA
            have HP := Lib.hid hp; have HN2 := Lib.hid hn2
            have hp1 : (1 : Int) ≤ (p : Int) + 1 := by omega
            have hpc3 : p + 1 ≤ c := hpc
            clear hp hn2 hfi hcy0 hpc
            by_cases hc1 : c = 1
            · obtain rfl : p = 0 := by omega
              subst hc1
              go_wp2_with fail
              refine (HAX.out _).mono ?_
              rintro e w' ⟨rfl, rfl⟩
              go_wp2_with fail
              refine HP.out.mono ?_
              rintro e w2 ⟨rfl, hq, hf⟩
              have hd2 := HD.out.turned (l' := l2) hq hf
              have hcy : w2.cell? ⟨b, o, none⟩ = some (.int .i64 y) := by
                obtain ⟨b', o', hA', h2⟩ := rows_fr hd2.own HNX.out (k := 0) (x := y) (by omega) rfl
                injection hA' with hA'
                injection hA' with e1 e2
                subst e1 e2
                exact h2
              obtain ⟨hfi, hpc⟩ := hd2.own.tail HN2.out
              rw [if_pos rfl] at hfi
              have HD2 := Lib.hid (⟨hd2.dq, hfi, hd2.hd, hd2.hs, hd2.h0, hd2.h1, hd2.b0, hd2.bel⟩ : DP w w2 b0 d s room l2 (.slice (some ⟨b, o, none⟩) 0 0) l2)
              clear hq hf hd2 hfi hpc HD HP HAX hcx HNX
              have HD := HD2
              clear HD2
              have hls := list_dq d s room [l2] 0 l2 w2 HD.out.dq rfl
              have hln := fun (W : World) (h : Dqs W d s room [l2]) => len_dq d s room [l2] 0 l2 W h rfl
              have hrm := fun (W : World) (h : Dqs W d s room [l2]) => room_dq d s room [l2] 0 l2 W h rfl
              rw [HN2.out] at hln hrm
              have hlen8 := HD.out.len
              rw [HN2.out] at hlen8
              have hsub : IntKind.i64.wrap ((room : Int) - (0 : Int)) = ((room - 0 : Nat) : Int) := by rw [IntWalk.i64_in _ (by omega)]; omega
              have HLS := Lib.hid hls; have HLN := Lib.hid hln; have HRM := Lib.hid hrm
              clear hls hln hrm
              go_wp2_with fail
              refine HLS.out.mono ?_
              rintro e wL ⟨v9, rfl, hown, hbL⟩
              obtain ⟨A9, c9, hv9, hc9, hr9⟩ := OwnI.slice hown
              rw [HN2.out] at hv9 hr9
              subst hv9
              have hd3 := HD.out.below hbL
              obtain ⟨A8, c8, hv8, hc8, hr8⟩ := hd3.own.slice
              rw [HN2.out] at hv8 hr8
              injection hv8 with f1 f2 f3
              subst f1 f3
              have hsm := sameInts_yes l2 0 HN2.out wL _ _ _ _ c9 0 hr9 hr8 (by omega)
              have HD3 := Lib.hid hd3; have HSM := Lib.hid hsm
              clear hown hbL hr9 hr8 hd3 hsm hc9 hc8 HLS HD
              go_wp2_with fail
              refine HSM.out.mono ?_
              rintro e w' ⟨rfl, m1, rfl⟩
              have HD4 := Lib.hid (HD3.out.drewN m1)
              clear HD3 HSM
              go_wp2_with fail
              refine (HLN.out _ HD4.out.dq).mono ?_
              rintro e w' ⟨rfl, rfl⟩
              go_wp2_with fail
              refine (HRM.out _ HD4.out.dq).mono ?_
              rintro e w' ⟨rfl, m2, rfl⟩
              have hd5 := HD4.out.drewN m2
              rw [World.drewN_drewN] at hd5
              have HD5 := Lib.hid hd5
              clear hd5
              clear HD4 HLN HRM
              go_wp2_with fail
              exact ⟨⟨_, j + 1, l2, rfl, by omega, by go_num, HD5⟩, by simp [intOf]; omega⟩
            · skip
              go_wp2_with fail
              refine (HAX.out _).mono ?_
              rintro e w' ⟨rfl, rfl⟩
              go_wp2_with fail
              refine HP.out.mono ?_
              rintro e w2 ⟨rfl, hq, hf⟩
              have hd2 := HD.out.turned (l' := l2) hq hf
              have hcy : w2.cell? ⟨b, o, none⟩ = some (.int .i64 y) := by
                obtain ⟨b', o', hA', h2⟩ := rows_fr hd2.own HNX.out (k := 0) (x := y) (by omega) rfl
                injection hA' with hA'
                injection hA' with e1 e2
                subst e1 e2
                exact h2
              obtain ⟨hfi, hpc⟩ := hd2.own.tail HN2.out
              rw [if_neg hc1, show (some (⟨b, o, none⟩ : Addr)).map (·.add 1) = some ⟨b, o + 1, none⟩ by simp [Addr.add]] at hfi
              have HD2 := Lib.hid (⟨hd2.dq, hfi, hd2.hd, hd2.hs, hd2.h0, hd2.h1, hd2.b0, hd2.bel⟩ : DP w w2 b0 d s room l2 (.slice (some ⟨b, o + 1, none⟩) p (c - 1)) l2)
              clear hq hf hd2 hfi hpc HD HP HAX hcx HNX
              have HD := HD2
              clear HD2
              have hls := list_dq d s room [l2] 0 l2 w2 HD.out.dq rfl
              have hln := fun (W : World) (h : Dqs W d s room [l2]) => len_dq d s room [l2] 0 l2 W h rfl
              have hrm := fun (W : World) (h : Dqs W d s room [l2]) => room_dq d s room [l2] 0 l2 W h rfl
              rw [HN2.out] at hln hrm
              have hlen8 := HD.out.len
              rw [HN2.out] at hlen8
              have hsub : IntKind.i64.wrap ((room : Int) - (p : Int)) = ((room - p : Nat) : Int) := by rw [IntWalk.i64_in _ (by omega)]; omega
              have HLS := Lib.hid hls; have HLN := Lib.hid hln; have HRM := Lib.hid hrm
              clear hls hln hrm
              go_wp2_with fail
              refine HLS.out.mono ?_
              rintro e wL ⟨v9, rfl, hown, hbL⟩
              obtain ⟨A9, c9, hv9, hc9, hr9⟩ := OwnI.slice hown
              rw [HN2.out] at hv9 hr9
              subst hv9
              have hd3 := HD.out.below hbL
              obtain ⟨A8, c8, hv8, hc8, hr8⟩ := hd3.own.slice
              rw [HN2.out] at hv8 hr8
              injection hv8 with f1 f2 f3
              subst f1 f3
              have hsm := sameInts_yes l2 p HN2.out wL _ _ _ _ c9 (c - 1) hr9 hr8 (by omega)
              have HD3 := Lib.hid hd3; have HSM := Lib.hid hsm
              clear hown hbL hr9 hr8 hd3 hsm hc9 hc8 HLS HD
              go_wp2_with fail
              refine HSM.out.mono ?_
              rintro e w' ⟨rfl, m1, rfl⟩
              have HD4 := Lib.hid (HD3.out.drewN m1)
              clear HD3 HSM
              go_wp2_with fail
              refine (HLN.out _ HD4.out.dq).mono ?_
              rintro e w' ⟨rfl, rfl⟩
              go_wp2_with fail
              refine (HRM.out _ HD4.out.dq).mono ?_
              rintro e w' ⟨rfl, m2, rfl⟩
              have hd5 := HD4.out.drewN m2
              rw [World.drewN_drewN] at hd5
              have HD5 := Lib.hid hd5
              clear hd5
              clear HD4 HLN HRM
              go_wp2_with fail
              exact ⟨⟨_, j + 1, l2, rfl, by omega, by go_num, HD5⟩, by simp [intOf]; omega⟩
    · have hex : (j < len1 ∧ ¬ j < 60) ∨ ¬ j < len1 := by have := HN8.out; omega
      rcases hex with ⟨q1, q2⟩ | q1
      all_goals
        go_wp2_with fail
        refine (lives_dq _).mono ?_
        rintro e w' ⟨rfl, hbl⟩
        go_wp2_with fail
        go_ret
        exact ⟨rfl, HD.out.bel.trans (hbl.mono HD.out.bel.size)⟩
end Go.Proofs.Ytipflplilkecjaa.dequePlays
