
/-
  The walk of DequeEnds.
-/
import Derived.Test.YtipflplilkecjaaRows
import Derived.WalkKit
import Derived.ProofKit
import Derived.OpenShut
import Derived.ShutString
import Derived.ChangeOld
import Derived.Below
import Derived.Test.YtipflplilkecjaaDqZ
import Derived.Test.YtipflplilkecjaaRgOwn
namespace Go.Proofs.Ytipflplilkecjaa.dequeEnds
open Go.ChangeShapes Go.WideShapes Go.ChangeAt Go.RowKit Go.Proofs.Ytipflplilkecjaa Go.Proofs.Ytipflplilkecjaa.Plain
open Go.ChangeMaps (open_string shut_string)
set_option linter.unusedVariables false


theorem rows_in {wr : World} {b0 : Nat} {A : Option Addr} {n c : Nat} {O : List Int} (h : OwnI wr b0 (.slice A n c) O) (hn : O.length = n) {k : Nat} (hk : k < n) : ∃ ad x, A = some ad ∧ O[k]? = some x ∧ wr.cell? (ad.add k) = some (.int .i64 x) := by
  subst hn
  obtain ⟨ad, x, h1, _, h2, h3⟩ := (Reads.of_own h).num hk
  exact ⟨ad, x, h1, h2, h3⟩
/-- Where DequeEnds stands: the deque, what was put in. -/
structure DE (w wr : World) (b0 d s room : Nat) (l : List Int) (vo : Value) (O : List Int) : Prop where
  dq : Dqs wr d s room [l]
  own : OwnI wr b0 vo O
  hd : d < b0
  hs : s < b0
  h0 : w.heap.size ≤ d
  h1 : w.heap.size ≤ s
  b0 : b0 ≤ wr.heap.size
  bel : Below w.heap.size w wr
theorem DE.turned {w wr w' : World} {b0 d s room : Nat} {l l' : List Int} {vo : Value} {O : List Int} (r : DE w wr b0 d s room l vo O) (hq : Dqs w' d s room [l']) (hf : Fr (fun i => i = d ∨ i = s) wr w') : DE w w' b0 d s room l' vo O := by
  have e1 := r.hd; have e2 := r.hs; have e3 := r.h0; have e4 := r.h1; have e5 := r.b0; have e6 := hf.size
  have e7 := r.bel.size
  refine ⟨hq, hf.own r.own (fun i hi => ?_), e1, e2, e3, e4, by omega, r.bel.trans (hf.below e7 (fun i hi => by omega))⟩
  have := (r.own.lt i hi).1; omega
theorem DE.drewN {w wr : World} {b0 d s room : Nat} {l : List Int} {vo : Value} {O : List Int} (r : DE w wr b0 d s room l vo O) (n : Nat) : DE w (wr.drewN n) b0 d s room l vo O :=
  r.turned (r.dq.drewN n) ((Fr.refl _ _).drewN n)
theorem DE.app {w wr w' : World} {b0 d s room : Nat} {l : List Int} {vo vo' : Value} {O O' : List Int} {o : Obj} (r : DE w wr b0 d s room l vo O) (ho : OwnI w' b0 vo' O') (hg : (wr.alloc o).grownBy w' vo.ownBlock) : DE w w' b0 d s room l vo' O' := by
  have e1 := r.hd; have e2 := r.hs; have e3 := r.h0; have e4 := r.h1; have e5 := r.b0; have e7 := r.bel.size
  have hf : Fr (fun i => vo.ownBlock = some i) wr w' := ((Fr.refl (fun _ => False) wr).alloc o |>.mono (fun _ _ h => h.elim)).trans (Fr.of_grown hg) (fun _ _ h => h)
  have e6 := hf.size
  have hri : ∀ i, vo.ownBlock = some i → b0 ≤ i ∧ i < wr.heap.size := fun i hi => r.own.lt i hi
  exact ⟨r.dq.fr hf (fun h => by have := hri _ h; omega) (fun h => by have := hri _ h; omega), ho, e1, e2, e3, e4, by omega, r.bel.trans (hf.below e7 (fun i hi => by have := hri i hi; omega))⟩
set_option maxRecDepth 100000 in
set_option maxHeartbeats 40000000 in
theorem walk (a0 : Int) (a1 : Option Addr) (len1 cap1 : Nat) (z1 : List Int) (a2 : Int) (w : World) (w0 : (Lit.int .i64 a0).wf = true) (w1 : IsRow .i64 w a1 len1 cap1 z1) (w2 : (Lit.int .i64 a2).wf = true) :
    Calls Try.prog 7 #[.int .i64 a0, .slice a1 len1 cap1, .int .i64 a2] w fun e w' => e = .returned (.bool true) ∧ Below w.heap.size w w' := by
  obtain ⟨i0, hi0, hz0, hz1, hz2⟩ := info_parts info_int
  obtain ⟨l, hl, hR, _, hc, hn⟩ := row_int w1
  have ba := wf_i64 w0
  have bt := wf_i64 w2
  obtain ⟨room, hroom⟩ : ∃ room, clampD a0 = room := ⟨_, rfl⟩
  have hcl := clampD_le a0
  rw [hroom] at hcl
  have hnew := newD room a0 w hroom ba.1 ba.2
  have hmax : ∀ W, (Builtin.max_ #[3, 3] 3 #[.int .i64 a0, .int .i64 1]).run Try.prog W = .ok (.int .i64 (max a0 1)) W := by
    intro W
    rw [run_max_int2]
    simp only [Int.max_def]
    split <;> split <;> first | rfl | (congr 2; omega)
  have hmin : ∀ W, (Builtin.min_ #[3, 3] 3 #[.int .i64 (max a0 1), .int .i64 8]).run Try.prog W = .ok (.int .i64 (room : Int)) W := by
    intro W
    rw [run_min_int2, ← hroom]
    unfold clampD
    simp only [Int.max_def, Int.min_def]
    split <;> split <;> first | rfl | (congr 2; omega)
  obtain ⟨n8, hn8⟩ : ∃ k, k = min len1 8 := ⟨_, rfl⟩
  obtain ⟨M, hM⟩ : ∃ k, k = min n8 room := ⟨_, rfl⟩
  have hmin3 : ∀ W, (Builtin.min_ #[3, 3, 3] 3 #[.int .i64 (len1 : Int), .int .i64 (room : Int), .int .i64 8]).run Try.prog W = .ok (.int .i64 (M : Int)) W := by
    intro W
    rw [run_min_int3]
    congr 2
    rw [hM, hn8]
    split <;> split <;> omega
  have HM := Lib.hid hM; have HN8 := Lib.hid hn8
  have har := fun W => around_any a2 ((M : Int) + 1) W bt.1 bt.2 (by omega) (by omega)
  have hal := aroundV_lt (n := a2) (m := (M : Int) + 1) (by omega)
  generalize aroundV a2 ((M : Int) + 1) = ra at *
  obtain ⟨K, rfl⟩ := Int.eq_ofNat_of_zero_le hal.1
  have hK : K ≤ M := by omega
  have hM8 : M ≤ 8 := by omega
  have hn88 : n8 ≤ 8 := by omega
  have HNEW := Lib.hid hnew; have HAR := Lib.hid har; have HR := Lib.hid hR; have HL := Lib.hid hl
  clear hnew har hR hl w0 w1 w2 hal ba bt hn8 hM hroom
  go_enter Try.func7, Try.ntmps7
  go_wp2_with fail
  refine HNEW.out.mono ?_
  rintro e w1 ⟨d, s, rfl, hq, hd, hs, hb⟩
  have hl1 := hq.lt
  have z1 := hb.size
  obtain ⟨b0, hb0⟩ : ∃ b0, b0 = w1.heap.size := ⟨_, rfl⟩
  have hct : DE w w1 b0 d s room [] (.slice none 0 0) [] := ⟨hq, OwnI.nil _ _, by omega, by omega, hd, hs, by omega, hb⟩
  have HCT := Lib.hid hct
  clear hq hb hct hd hs hl1 z1 hb0 HNEW
  go_wp2_with fail
  clear hmax hmin
  go_loopw [9, 10] (fun s9 s10 wr => ∃ (vs : Value) (j N : Nat), vs = s9 ∧ j ≤ n8 ∧ s10 = .int .i64 (j : Int) ∧ Hid (N = min j room) ∧ Hid (DE w wr b0 d s room (l.take N) vs (l.take N))) (fun _ s10 _ => n8 - (intOf s10).toNat)
  case atStart => exact ⟨_, 0, 0, rfl, by omega, rfl, Lib.hid (by simp), Lib.hid (by simpa using HCT.out)⟩
  case round =>
    clear HCT
    obtain ⟨vs, j, N, rfl, hj, rfl, HN, HD⟩ := hrel
    have hN8 : N ≤ 8 := by have := HN.out; omega
    by_cases hlt : j < n8
    · have hj1 : j < len1 := by have := HN8.out; omega
      have hj2 : j < 8 := by omega
      obtain ⟨ad, x, rfl, hab, hx, hcx0⟩ := HR.out.num hj1
      have hcx := (HD.out.bel.cell (p := ad.add j) (by rw [block_of_add]; exact hab)).trans hcx0
      have hlN : (l.take N).length = N := by have := HL.out; rw [List.length_take]; have := HN.out; omega
      have hsn0 : N = j → l.take N ++ [x] = l.take (N + 1) := fun e1 => by rw [List.take_add_one, e1, hx]; simp
      generalize hO1 : l.take N = O1 at *
      have HO1 := Lib.hid hO1
      clear hO1
      by_cases hfull : j < room
      · have e1 : N = j := by have := HN.out; omega
        have hsn := hsn0 e1
        clear hsn0
        have hpu := push_dq_yes d s room [O1] 0 O1 wr x HD.out.dq rfl (by rw [hlN]; omega)
        have HN2 : Hid (N + 1 = min (j + 1) room) := Lib.hid (by omega)
        have HPU := Lib.hid hpu; have HSN := Lib.hid hsn; have HLN := Lib.hid hlN; have HC0 := Lib.hid hcx0
        clear hpu hsn hx hlN e1 hcx0 HN
        go_wp2_with fail
        refine HPU.out.mono ?_
        rintro e w2 ⟨rfl, hq, hf⟩
        have hd2 := HD.out.turned (l' := l.take (N + 1)) (by rw [← HSN.out]; exact hq) hf
        have hcx2 := (hd2.bel.cell (p := ad.add j) (by rw [block_of_add]; exact hab)).trans HC0.out
        have zb2 := hd2.b0
        have HD2 := Lib.hid hd2
        clear hq hf hd2 hcx
        go_wp2_with (at_builtin; go_must (refine wpList_append_any _ rfl (.tmp 42) (.tmp 47) _ rfl b0 3 i0 _ 1 8 Try.underlying26 hi0 hz0 hz1 hz2 rfl (by decide) vs O1.length (O1.map EnI) rfl (HD2.out.own.alloc _) _ _ 1 1 [.int .i64 x] rfl (reads_one_int _ x _) (by simp [Value.oneCell']) ?f1 ?f2 ?f3 ?f4))
        case f1 => rw [HLN.out]; unfold maxLen; omega
        case f2 => rw [HLN.out]; omega
        case f3 => simp; omega
        case f4 =>
        intro v5 w6 hown hgr hat
        have hc3 := HD2.out.app (vo' := v5) (OwnI.snoc hown) hgr
        rw [HSN.out] at hc3
        have HC3 := Lib.hid hc3
        clear hown hgr hat hc3 HD2
        go_wp2_with fail
        exact ⟨⟨_, j + 1, N + 1, rfl, by omega, by go_num, HN2, HC3⟩, by simp [intOf]; omega⟩
      · have e1 : N = room := by have := HN.out; omega
        clear hsn0
        have hpu := push_dq_no d s room [O1] 0 O1 wr x HD.out.dq rfl (by rw [hlN]; omega)
        have HN2 : Hid (N = min (j + 1) room) := Lib.hid (by omega)
        have HPU := Lib.hid hpu
        clear hpu hx hlN e1 hcx0 HN
        go_wp2_with fail
        refine HPU.out.mono ?_
        rintro e w2 ⟨rfl, m, rfl⟩
        have HD2 := Lib.hid (HD.out.drewN m)
        clear HD
        go_wp2_with fail
        exact ⟨⟨_, j + 1, N, rfl, by omega, by go_num, HN2, by rw [HO1.out]; exact HD2⟩, by simp [intOf]; omega⟩
    · have hjn : j = n8 := by omega
      have hNM : N = M := by rw [HN.out, HM.out, hjn]
      subst hNM
      have hlN : (l.take N).length = N := by rw [List.length_take, HL.out]; have := HM.out; have := HN8.out; omega
      obtain ⟨O, hO⟩ : ∃ O, O = l.take N := ⟨_, rfl⟩
      rw [← hO] at HD hlN
      obtain ⟨A, c, hvs, hcs, hrs⟩ := HD.out.own.slice
      rw [hlN] at hvs hcs
      subst hvs
      have hex : ¬ ((j : Int) < (len1 : Int) ∧ (j : Int) < 8) := by have := HN8.out; omega
      have HLO := Lib.hid hlN
      have hw1 : IntKind.i64.wrap ((N : Int) + 1) = (N : Int) + 1 := IntWalk.i64_in _ (by omega)
      have hcond : (j < len1 ∧ ¬ j < 8) ∨ ¬ j < len1 := by have := HN8.out; omega
      clear hO hrs hlN HR HL hjn hlt hex hcs
      rcases hcond with ⟨q1, q2⟩ | q1
      all_goals
        go_wp2_with fail
        refine (HAR.out _).mono ?_
        rintro e w' ⟨rfl, rfl⟩
        go_wp2_with fail
        go_loopw [12] (fun s12 wr => ∃ i : Nat, i ≤ K ∧ s12 = .int .i64 (i : Int) ∧ Hid (DE w wr b0 d s room (O.drop i) (.slice A N c) O)) (fun s12 _ => K - (intOf s12).toNat)
        case atStart => exact ⟨0, by omega, rfl, HD⟩
        case round =>
          clear HD
          obtain ⟨i, hi, rfl, HD⟩ := hrel
          by_cases hlt2 : i < K
          · have hil : i < O.length := by rw [HLO.out]; omega
            have hdc := List.drop_eq_getElem_cons hil
            have hx : O[i]? = some O[i] := List.getElem?_eq_getElem hil
            generalize O[i] = x at *
            have hst := steal_dq_yes d s room [O.drop i] 0 (O.drop (i + 1)) wr x HD.out.dq (by rw [hdc]; rfl)
            have HST := Lib.hid hst; have HX := Lib.hid hx
            clear hst hdc hx hil
            go_wp2_with fail
            refine HST.out.mono ?_
            rintro e w2 ⟨rfl, hq, hf⟩
            have hd2 := HD.out.turned hq hf
            obtain ⟨ad, y, rfl, hy, hcy⟩ := rows_in hd2.own HLO.out (show i < N by omega)
            rw [HX.out] at hy
            injection hy with hy
            subst hy
            have HD2 := Lib.hid hd2
            clear hq hf hd2 HD
            go_wp2_with fail
            exact ⟨⟨i + 1, by omega, by go_num, HD2⟩, by simp [intOf]; omega⟩
          · obtain rfl : i = K := by omega
            have hw2 : IntKind.i64.wrap ((N : Int) - 1) = (N : Int) - 1 := IntWalk.i64_in _ (by omega)
            have hstart : O.drop i = (O.take N).drop i := by rw [List.take_of_length_le (by rw [HLO.out]; omega)]
            rw [hstart] at HD
            clear hstart
            go_wp2_with fail
            go_loopw [15] (fun s15 wr => ∃ m : Nat, m ≤ N ∧ i ≤ m ∧ s15 = .int .i64 ((m : Int) - 1) ∧ Hid (DE w wr b0 d s room ((O.take m).drop i) (.slice A N c) O)) (fun s15 _ => (intOf s15 + 1).toNat)
            case atStart => exact ⟨N, by omega, by omega, rfl, HD⟩
            case round =>
              clear HD
              obtain ⟨m, hm, him, rfl, HD⟩ := hrel
              by_cases hlt3 : i < m
              · obtain ⟨p, rfl⟩ : ∃ p, m = p + 1 := ⟨m - 1, by omega⟩
                have e1 : ((p + 1 : Nat) : Int) - 1 = (p : Int) := by omega
                rw [e1]
                have hpl : p < O.length := by rw [HLO.out]; omega
                have hx : O[p]? = some O[p] := List.getElem?_eq_getElem hpl
                have htk : (O.take (p + 1)).drop i = (O.take p).drop i ++ [O[p]] := by
                  rw [List.take_add_one, hx, Option.toList_some, List.drop_append_of_le_length (by simp; omega)]
                generalize O[p] = x at *
                have hst := pop_dq_yes d s room [(O.take (p + 1)).drop i] 0 ((O.take p).drop i) wr x HD.out.dq (by rw [htk]; rfl)
                have HST := Lib.hid hst; have HX := Lib.hid hx
                have hge : (p : Int) ≥ (i : Int) := by omega
                have hw3 : IntKind.i64.wrap ((p : Int) - 1) = (p : Int) - 1 := IntWalk.i64_in _ (by omega)
                have hp0 : (0 : Int) ≤ (p : Int) := by omega
                have hpN : (p : Int) < (N : Int) := by omega
                clear hst htk hx hpl e1
                go_wp2_with fail
                refine HST.out.mono ?_
                rintro e w2 ⟨rfl, hq, hf⟩
                have hd2 := HD.out.turned hq hf
                obtain ⟨ad, y, rfl, hy, hcy⟩ := rows_in hd2.own HLO.out (show p < N by omega)
                rw [HX.out] at hy
                injection hy with hy
                subst hy
                have HD2 := Lib.hid hd2
                clear hq hf hd2 HD
                go_wp2_with fail
                exact ⟨⟨p, by omega, by omega, rfl, HD2⟩, by simp [intOf]⟩
              · obtain rfl : m = i := by omega
                have hnge : ¬ (m : Int) - 1 ≥ (m : Int) := by omega
                have hnil : (O.take m).drop m = [] := by apply List.drop_eq_nil_of_le; rw [List.length_take]; omega
                rw [hnil] at HD
                have hln := len_dq d s room [[]] 0 [] wr HD.out.dq rfl
                have hrm := room_dq d s room [[]] 0 [] wr HD.out.dq rfl
                have HLN := Lib.hid hln; have HRM := Lib.hid hrm
                clear hln hrm hnil
                go_wp2_with fail
                refine HLN.out.mono ?_
                rintro e w' ⟨rfl, rfl⟩
                go_wp2_with fail
                refine HRM.out.mono ?_
                rintro e w' ⟨rfl, q, rfl⟩
                have hb6 := below_drews HD.out.bel q
                have HB6 := Lib.hid hb6
                clear hb6
                go_wp2_with fail
                refine (lives_dq _).mono ?_
                rintro e w' ⟨rfl, hbl⟩
                go_wp2_with fail
                go_ret
                exact ⟨rfl, HB6.out.trans (hbl.mono HB6.out.size)⟩
end Go.Proofs.Ytipflplilkecjaa.dequeEnds
