
/-
  The walk of DequeSurplus.
-/
import Derived.Test.YtipflplilkecjaaRows
import Derived.WalkKit
import Derived.ProofKit
import Derived.OpenShut
import Derived.ShutString
import Derived.ChangeOld
import Derived.Below
import Derived.Test.YtipflplilkecjaaDqAll
import Derived.Test.YtipflplilkecjaaRgOwn
namespace Go.Proofs.Ytipflplilkecjaa.dequeSurplus
open Go.ChangeShapes Go.WideShapes Go.ChangeAt Go.RowKit Go.Proofs.Ytipflplilkecjaa Go.Proofs.Ytipflplilkecjaa.Plain
open Go.ChangeMaps (open_string shut_string)
set_option linter.unusedVariables false


/-- The first n numbers. -/
def ints (n : Nat) : List Int := (List.range n).map fun (k : Nat) => (k : Int)
theorem ints_len (n : Nat) : (ints n).length = n := by simp [ints]
theorem ints_succ (n : Nat) : ints (n + 1) = ints n ++ [(n : Int)] := by simp [ints, List.range_succ]
theorem ints_drop {n i : Nat} (h : i < n) : (ints n).drop i = (i : Int) :: (ints n).drop (i + 1) := by
  rw [List.drop_eq_getElem_cons (by rw [ints_len]; exact h)]
  simp [ints]
/-- A pool of the call's own. -/
structure PB (w wr : World) (g d s room : Nat) (Dq : Nat → Prop) (L : List (List Int)) (Q : List Int) : Prop where
  pl : Pl wr g d s room Dq L Q
  ge : ∀ i, PlD d s Dq i → w.heap.size ≤ i
  bel : Below w.heap.size w wr
theorem PB.turn {w wr w' : World} {g d s room : Nat} {Dq : Nat → Prop} {L L' : List (List Int)} {Q Q' : List Int} (h : PB w wr g d s room Dq L Q) (ht : PlTurn g d s room Dq wr w' (L', Q')) : ∃ Dq', PB w w' g d s room Dq' L' Q' := by
  obtain ⟨Dq', h1, h2, h3, -⟩ := ht
  have hz := h.bel.size
  refine ⟨Dq', h1, fun i hi => ?_, h.bel.trans (h2.below hz h.ge)⟩
  rcases hi with e | e
  · rcases h3 i e with e | e
    · exact h.ge i (.inl e)
    · omega
  · exact h.ge i (.inr e)
theorem PB.below {w wr w' : World} {g d s room : Nat} {Dq : Nat → Prop} {L : List (List Int)} {Q : List Int} (h : PB w wr g d s room Dq L Q) (hb : Below wr.heap.size wr w') : PB w w' g d s room Dq L Q :=
  ⟨h.pl.below hb (Nat.le_refl _), h.ge, h.bel.trans (hb.mono h.bel.size)⟩
theorem give_row {room m i : Nat} : (giveP room (ints (min i room) :: List.replicate m []) ((ints i).drop room) 0 (i : Int)) = ((ints (min (i + 1) room) :: List.replicate m [], (ints (i + 1)).drop room), 0) := by
  unfold giveP
  rw [if_pos (by simp <;> omega)]
  simp only [Int.toNat_zero, List.getElem?_cons_zero, Option.getD_some, ints_len, List.set_cons_zero]
  by_cases h : min i room < room
  · rw [if_pos h, show min i room = i by omega, show min (i + 1) room = i + 1 by omega, ints_succ, List.drop_eq_nil_of_le (by rw [ints_len]; omega), List.drop_eq_nil_of_le (by simp [ints_len]; omega)]
  · rw [if_neg h, show min (i + 1) room = min i room by omega, ints_succ, List.drop_append_of_le_length (by rw [ints_len]; omega)]
theorem take_row {m i n j : Nat} {l : List Int} (hi : i < n) (hj : j < m) : takeP (l :: List.replicate m []) ((ints n).drop i) (1 + (j : Int)) = ((l :: List.replicate m [], (ints n).drop (i + 1)), (i : Int), 0) := by
  unfold takeP
  rw [if_pos (by simp <;> omega)]
  have h1 : (1 + (j : Int)).toNat = j + 1 := by omega
  rw [h1, List.getElem?_cons_succ, List.getElem?_replicate_of_lt hj, Option.getD_some, List.getLast?_nil, ints_drop hi]
theorem take_none {m : Nat} {l : List Int} (hm : 1 ≤ m) : takeP (l :: List.replicate m []) [] 1 = ((l :: List.replicate m [], []), 0, 7) := by
  unfold takeP
  rw [if_pos (by simp <;> omega)]
  have h1 : (1 : Int).toNat = 0 + 1 := by decide
  rw [h1, List.getElem?_cons_succ, List.getElem?_replicate_of_lt (by omega), Option.getD_some, List.getLast?_nil]
theorem flat_row {m : Nat} {l : List Int} : (l :: List.replicate m ([] : List Int)).flatten = l := by simp
set_option maxRecDepth 100000 in
set_option maxHeartbeats 40000000 in
theorem walk (a0 : Int) (a1 : Int) (a2 : Int) (w : World) (w0 : (Lit.int .i64 a0).wf = true) (w1 : (Lit.int .i64 a1).wf = true) (w2 : (Lit.int .i64 a2).wf = true) :
    Calls Try.prog 6 #[.int .i64 a0, .int .i64 a1, .int .i64 a2] w fun e w' => e = .returned (.bool true) ∧ Below w.heap.size w w' := by
  have ba := wf_i64 w0
  have bn := wf_i64 w1
  have bw := wf_i64 w2
  have har := around_any a2 7 w bw.1 bw.2 (by omega) (by omega)
  have har2 := around_any a1 41 w bn.1 bn.2 (by omega) (by omega)
  have hal := aroundV_lt (n := a2) (m := 7) (by omega)
  have hal2 := aroundV_lt (n := a1) (m := 41) (by omega)
  generalize aroundV a2 7 = ra at *
  generalize aroundV a1 41 = rn at *
  obtain ⟨m0, rfl⟩ := Int.eq_ofNat_of_zero_le hal.1
  obtain ⟨n, rfl⟩ := Int.eq_ofNat_of_zero_le hal2.1
  have hn41 : n ≤ 40 := by omega
  obtain ⟨m, hm⟩ : ∃ m, m = m0 + 1 := ⟨_, rfl⟩
  have hm1 : 1 ≤ m ∧ m ≤ 7 := by omega
  have hadd : IntKind.i64.wrap ((2 : Int) + (m0 : Int)) = ((m + 1 : Nat) : Int) := by rw [IntWalk.i64_in _ (by omega)]; omega
  obtain ⟨room, hroom⟩ : ∃ room, clampD a0 = room := ⟨_, rfl⟩
  have hcl := clampD_le a0
  rw [hroom] at hcl
  have hnew := newP ((m + 1 : Nat) : Int) a0 (m + 1) room w (by unfold clampW; omega) hroom ba.1 ba.2 (by omega) (by omega)
  have hmax : ∀ W, (Builtin.max_ #[3, 3] 3 #[.int .i64 a0, .int .i64 1]).run Try.prog W = .ok (.int .i64 (max a0 1)) W := by
    intro W
    rw [run_max_int2]
    simp only [Int.max_def]
    split <;> split <;> first | rfl | (congr 2; omega)
  have hmin : ∀ W, (Builtin.min_ #[3, 3] 3 #[.int .i64 (max a0 1), .int .i64 8]).run Try.prog W = .ok (.int .i64 (room : Int)) W := by
    intro W
    rw [run_min_int2, ← hroom]
    unfold clampD
    simp only [Int.max_def, Int.min_def]
    split <;> split <;> first | rfl | (congr 2; omega)
  obtain ⟨k0, hk0⟩ : ∃ k, k = min n room := ⟨_, rfl⟩
  have hmin2 : ∀ W, (Builtin.min_ #[3, 3] 3 #[.int .i64 (n : Int), .int .i64 (room : Int)]).run Try.prog W = .ok (.int .i64 (k0 : Int)) W := by
    intro W
    rw [run_min_int2, hk0]
    split <;> first | rfl | (congr 2; omega)
  have HNEW := Lib.hid hnew; have HAR := Lib.hid har; have HAR2 := Lib.hid har2; have HK0 := Lib.hid hk0
  have hkn : k0 ≤ n := by omega
  have hsub : IntKind.i64.wrap ((n : Int) - (k0 : Int)) = ((n - k0 : Nat) : Int) := by rw [IntWalk.i64_in _ (by omega)]; omega
  clear hnew har har2 w0 w1 w2 ba bn bw hal hal2 hm hroom hk0
  go_enter Try.func6, Try.ntmps6
  go_wp2_with fail
  refine HAR.out.mono ?_
  rintro e w' ⟨rfl, rfl⟩
  go_wp2_with fail
  refine HAR2.out.mono ?_
  rintro e w' ⟨rfl, rfl⟩
  go_wp2_with fail
  refine HNEW.out.mono ?_
  rintro e w1 ⟨g, d, s, D0, rfl, hp, hD, hb⟩
  have hst : PB w w1 g d s room D0 (ints (min 0 room) :: List.replicate m []) ((ints 0).drop room) := ⟨by simpa [ints, List.replicate_succ] using hp, hD, hb⟩
  have HST := Lib.hid hst
  clear hp hD hb hst HNEW HAR HAR2 hadd
  go_wp2_with fail
  clear hmax hmin
  go_loopw [10] (fun s10 wr => ∃ (i : Nat) (Dq : Nat → Prop), i ≤ n ∧ s10 = .int .i64 (i : Int) ∧ Hid (PB w wr g d s room Dq (ints (min i room) :: List.replicate m []) ((ints i).drop room))) (fun s10 _ => n - (intOf s10).toNat)
  case atStart => exact ⟨0, D0, by omega, rfl, HST⟩
  case round =>
    clear HST
    obtain ⟨i, Dq, hi, rfl, HI⟩ := hrel
    by_cases hlt : i < n
    · have hgv := giveP_any g d s room Dq _ _ wr HI.out.pl 0 (i : Int) (by rw [List.length_drop, ints_len]; omega)
      rw [give_row] at hgv
      have HGV := Lib.hid hgv
      clear hgv
      go_wp2_with fail
      refine HGV.out.mono ?_
      rintro e w2 ⟨rfl, ht⟩
      obtain ⟨Dq', hb⟩ := HI.out.turn ht
      have HB := Lib.hid hb
      clear ht hb HGV
      go_wp2_with fail
      exact ⟨⟨i + 1, Dq', by omega, by go_num, HB⟩, by simp [intOf]; omega⟩
    · obtain rfl : i = n := by omega
      rw [← HK0.out] at HI
      obtain ⟨Q0, hQ0⟩ : ∃ Q, Q = (ints i).drop room := ⟨_, rfl⟩
      have hQl : Q0.length = i - k0 := by rw [hQ0, List.length_drop, ints_len, HK0.out]; omega
      have hQs : (ints i).drop room = (ints i).drop k0 := by
        rw [HK0.out]
        by_cases h : i ≤ room
        · rw [List.drop_eq_nil_of_le (by rw [ints_len]; exact h), List.drop_eq_nil_of_le (by rw [ints_len]; omega)]
        · rw [show min i room = room by omega]
      rw [← hQ0] at HI hQs
      have how := ownP_yes g d s room Dq _ Q0 wr HI.out.pl 0 (ints k0) rfl
      have HOW := Lib.hid how; have HQL := Lib.hid hQl; have HQS := Lib.hid hQs
      clear how hQl hQs hQ0 hlt
      go_wp2_with fail
      refine HOW.out.mono ?_
      rintro e w2 ⟨v, rfl, hown, hb⟩
      obtain ⟨A, c, hv, _, _⟩ := hown.slice
      rw [ints_len] at hv
      subst hv
      have hi2 := HI.out.below hb
      have hgl := globalP g d s room Dq _ Q0 w2 hi2.pl (by rw [HQL.out]; omega)
      have HI2 := Lib.hid hi2; have HGL := Lib.hid hgl
      clear hown hb hi2 hgl HOW HI
      go_wp2_with fail
      refine HGL.out.mono ?_
      rintro e w3 ⟨v, rfl, hown, hb⟩
      obtain ⟨A3, c3, hv, _, _⟩ := hown.slice
      rw [HQL.out] at hv
      subst hv
      have hi3 := HI2.out.below hb
      rw [HQS.out] at hi3
      have HI3 := Lib.hid hi3
      clear hown hb hi3 HGL HI2 hmin2
      go_wp2_with fail
      go_loopw [12] (fun s12 wr => ∃ (j : Nat) (Dq : Nat → Prop), k0 ≤ j ∧ j ≤ i ∧ s12 = .int .i64 (j : Int) ∧ Hid (PB w wr g d s room Dq (ints k0 :: List.replicate m []) ((ints i).drop j))) (fun s12 _ => i - (intOf s12).toNat)
      case atStart => exact ⟨k0, Dq, by omega, by omega, rfl, HI3⟩
      case round =>
        clear HI3
        obtain ⟨j, Dq, hj0, hj, rfl, HI⟩ := hrel
        by_cases hlt : j < i
        · have hjm : j % m < m := Nat.mod_lt _ (by omega)
          have htk := takeP_any g d s room Dq _ _ wr HI.out.pl (1 + ((j % m : Nat) : Int)) (by rw [List.length_drop, ints_len]; omega)
          rw [take_row hlt hjm] at htk
          have hw1 : IntKind.i64.wrap (((m + 1 : Nat) : Int) - 1) = (m : Int) := by rw [IntWalk.i64_in _ (by omega)]; omega
          have hm0 : ¬ (m : Int) = 0 := by omega
          have hrem : (j : Int).tmod (m : Int) = ((j % m : Nat) : Int) := by rw [Int.tmod_eq_emod_of_nonneg (by omega)]; rfl
          have hw2 : IntKind.i64.wrap ((1 : Int) + ((j % m : Nat) : Int)) = 1 + ((j % m : Nat) : Int) := IntWalk.i64_in _ (by omega)
          generalize j % m = jm at *
          have HTK := Lib.hid htk
          clear htk
          go_wp2_with fail
          refine HTK.out.mono ?_
          rintro e w4 ⟨rfl, ht⟩
          obtain ⟨Dq', hb⟩ := HI.out.turn ht
          have HB := Lib.hid hb
          clear ht hb HTK
          go_wp2_with fail
          exact ⟨⟨j + 1, Dq', by omega, by omega, by go_num, HB⟩, by simp [intOf]; omega⟩
        · obtain rfl : j = i := by omega
          rw [List.drop_eq_nil_of_le (by rw [ints_len]; omega)] at HI
          have htk := takeP_any g d s room Dq _ _ wr HI.out.pl 1 (by simp)
          rw [take_none hm1.1] at htk
          have HTK := Lib.hid htk
          clear htk
          go_wp2_with fail
          refine HTK.out.mono ?_
          rintro e w4 ⟨rfl, ht⟩
          obtain ⟨Dq', hb⟩ := HI.out.turn ht
          have hln := lenP g d s room Dq' _ _ w4 hb.pl (by rw [flat_row, List.append_nil, ints_len]; omega)
          rw [flat_row, List.append_nil, ints_len] at hln
          have HB := Lib.hid hb; have HLN := Lib.hid hln
          clear ht hb HTK hln
          go_wp2_with fail
          refine HLN.out.mono ?_
          rintro e w' ⟨rfl, rfl⟩
          go_wp2_with fail
          refine (lives_dq _).mono ?_
          rintro e w' ⟨rfl, hbl⟩
          go_wp2_with fail
          go_ret
          exact ⟨rfl, HB.out.bel.trans (hbl.mono HB.out.bel.size)⟩
end Go.Proofs.Ytipflplilkecjaa.dequeSurplus
