/-
  The walk of RingCuts.
-/
import Derived.Test.YthlaaeopohilmaaRows
import Derived.WalkKit
import Derived.ProofKit
import Derived.OpenShut
import Derived.ShutString
import Derived.ChangeOld
import Derived.Below
import Derived.Test.YthlaaeopohilmaaRgCut
namespace Go.Proofs.Ythlaaeopohilmaa.ringCuts
open Go.ChangeShapes Go.WideShapes Go.ChangeAt Go.RowKit Go.Proofs.Ythlaaeopohilmaa Go.Proofs.Ythlaaeopohilmaa.Plain
open Go.ChangeMaps (open_string shut_string)
set_option linter.unusedVariables false


def isNeg (v : Int) : Bool := decide (v < 0)
def staysL (L : List Int) : List Int := L.filter fun v => !isNeg v
theorem neg_any (v : Int) (w : World) : Calls Try.prog 25 #[.int .i64 v] w fun e w' => e = .returned (.bool (isNeg v)) ∧ w = w' := by
  unfold isNeg
  by_cases h : v < 0
  all_goals
    go_enter Try.func25, Try.ntmps25
    go_wp2_with fail
    go_ret
    exact ⟨by simp [h], rfl⟩
theorem staysL_take {L : List Int} {k : Nat} {v : Int} (hv : L[k]? = some v) : staysL (L.take (k + 1)) = if isNeg v then staysL (L.take k) else staysL (L.take k) ++ [v] := by
  unfold staysL
  rw [List.take_add_one, hv, List.filter_append]
  by_cases h : isNeg v = true <;> simp [h]
theorem staysL_len (L : List Int) : (L.filter isNeg).length + (staysL L).length = L.length := by
  unfold staysL
  induction L with
  | nil => rfl
  | cons v r ih => by_cases h : isNeg v = true <;> simp [h] <;> omega
theorem staysL_le (L : List Int) : (staysL L).length ≤ L.length := List.length_filter_le _ _
/-- Where RingCuts stands when things are put in. -/
structure CtC (w wr : World) (b0 g s k0 f : Nat) (L : List Int) (vs : Value) (St : List Int) : Prop where
  ring : RgI wr g s k0 f L
  own : OwnI wr b0 vs St
  hg : g < b0
  hs : s < b0
  h0 : w.heap.size ≤ g
  h1 : w.heap.size ≤ s
  b0 : b0 ≤ wr.heap.size
  bel : Below w.heap.size w wr
theorem CtC.ringed {w wr w' : World} {b0 g s k0 f f' : Nat} {L L' : List Int} {vs : Value} {St : List Int} (r : CtC w wr b0 g s k0 f L vs St) (hq : RgI w' g s k0 f' L') (hf : Fr (fun i => i = g ∨ i = s) wr w') : CtC w w' b0 g s k0 f' L' vs St := by
  have e1 := r.hg; have e2 := r.hs; have e3 := r.h0; have e4 := r.h1; have e5 := r.b0; have e6 := hf.size
  have e7 := r.bel.size
  refine ⟨hq, hf.own r.own (fun i hi => ?_), e1, e2, e3, e4, by omega, r.bel.trans (hf.below e7 (fun i hi => by omega))⟩
  have := (r.own.lt i hi).1; omega
theorem CtC.drewN {w wr : World} {b0 g s k0 f : Nat} {L : List Int} {vs : Value} {St : List Int} (r : CtC w wr b0 g s k0 f L vs St) (n : Nat) : CtC w (wr.drewN n) b0 g s k0 f L vs St :=
  r.ringed (r.ring.drewN n) ((Fr.refl _ _).drewN n)
theorem CtC.app {w wr w' : World} {b0 g s k0 f : Nat} {L : List Int} {vs vs' : Value} {St St' : List Int} {o : Obj} (r : CtC w wr b0 g s k0 f L vs St) (ho : OwnI w' b0 vs' St') (hg : (wr.alloc o).grownBy w' vs.ownBlock) : CtC w w' b0 g s k0 f L vs' St' := by
  have e1 := r.hg; have e2 := r.hs; have e3 := r.h0; have e4 := r.h1; have e5 := r.b0; have e7 := r.bel.size
  have hf : Fr (fun i => vs.ownBlock = some i) wr w' := ((Fr.refl (fun _ => False) wr).alloc o |>.mono (fun _ _ h => h.elim)).trans (Fr.of_grown hg) (fun _ _ h => h)
  have e6 := hf.size
  have hri : ∀ i, vs.ownBlock = some i → b0 ≤ i ∧ i < wr.heap.size := fun i hi => r.own.lt i hi
  exact ⟨r.ring.fr hf (fun h => by have := hri _ h; omega) (fun h => by have := hri _ h; omega), ho, e1, e2, e3, e4, by omega, r.bel.trans (hf.below e7 (fun i hi => by have := hri i hi; omega))⟩
set_option maxRecDepth 100000 in
set_option maxHeartbeats 40000000 in
theorem walk (a0 : Int) (a1 : Option Addr) (len1 cap1 : Nat) (z1 : List Int) (a2 : Int) (w : World) (w0 : (Lit.int .i64 a0).wf = true) (w1 : IsRow .i64 w a1 len1 cap1 z1) (w2 : (Lit.int .i64 a2).wf = true) :
    Calls Try.prog 7 #[.int .i64 a0, .slice a1 len1 cap1, .int .i64 a2] w fun e w' => e = .returned (.bool true) ∧ Below w.heap.size w w' := by
  obtain ⟨i0, hi0, hz0, hz1, hz2⟩ := info_parts info_int
  obtain ⟨l, hl, hR, _, hc, hn⟩ := row_int w1
  have ba := wf_i64 w0
  have bt := wf_i64 w2
  have har := fun W => around_any a0 21 W ba.1 ba.2 (by omega) (by omega)
  have htr := fun W => around_any a2 11 W bt.1 bt.2 (by omega) (by omega)
  have hal := aroundV_lt (n := a0) (m := 21) (by omega)
  have htl := aroundV_lt (n := a2) (m := 11) (by omega)
  generalize aroundV a0 21 = ra at *
  generalize aroundV a2 11 = rt at *
  obtain ⟨k0, rfl⟩ := Int.eq_ofNat_of_zero_le hal.1
  obtain ⟨T, rfl⟩ := Int.eq_ofNat_of_zero_le htl.1
  have hk0 : k0 < 21 := by omega
  have hT : T < 11 := by omega
  have hrl := hR.few (m := min len1 25) (by omega)
  have hll : (l.take (min len1 25)).length = min len1 25 := by rw [List.length_take, hl]; omega
  generalize l.take (min len1 25) = l' at *
  obtain ⟨nl, hnl⟩ : ∃ k, k = min len1 25 := ⟨_, rfl⟩
  rw [← hnl] at hrl hll
  have hnl25 : nl ≤ 25 := by omega
  have HAR := Lib.hid har; have HTR := Lib.hid htr; have HRL := Lib.hid hrl; have HLL := Lib.hid hll; have HNL := Lib.hid hnl
  clear har htr hrl hll hR hl w0 w1 w2 hal htl ba bt hnl
  go_enter Try.func7, Try.ntmps7
  go_wp2_with fail
  refine (HAR.out _).mono ?_
  rintro e w' ⟨rfl, rfl⟩
  clear HAR
  go_upto_if 17 with fail
  go_cut [1] (fun s1 wx => s1 = .slice a1 nl cap1 ∧ w = wx)
  case first =>
    by_cases h25 : 25 < len1
    · have e25 : nl = 25 := by have := HNL.out; omega
      have E25 := Lib.hid e25
      clear e25
      go_wp2_with fail
      go_meet
      exact ⟨by rw [E25.out], rfl⟩
    · have e25 : nl = len1 := by have := HNL.out; omega
      have E25 := Lib.hid e25
      clear e25
      go_wp2_with fail
      go_meet
      exact ⟨by rw [E25.out], rfl⟩
  case rest =>
  obtain ⟨rfl, rfl⟩ := hcut
  go_wp2_with fail
  refine (new_anyI (k0 : Int) [] 0 rfl _ 0 none 0 Reads.none_ (by omega)).mono ?_
  rintro e w1 ⟨g, s, rfl, hq, hg, hs, hb⟩
  rw [show clampR (k0 : Int) = k0 by unfold clampR; omega] at hq
  simp only [List.take_nil] at hq
  have hl1 := hq.lt
  have z1 := hb.size
  obtain ⟨b0, hb0⟩ : ∃ b0, b0 = w1.heap.size := ⟨_, rfl⟩
  have hct : CtC w w1 b0 g s k0 0 [] (.slice none 0 0) [] := ⟨hq, OwnI.nil _ _, by omega, by omega, hg, hs, by omega, hb⟩
  have HCT := Lib.hid hct
  clear hq hb hct hg hs hl1 z1 hb0
  go_wp2_with fail
  go_loopw [8] (fun s8 wr => ∃ (k f : Nat), k ≤ T ∧ s8 = .int .i64 (k : Int) ∧ CtC w wr b0 g s k0 f [] (.slice none 0 0) []) (fun s8 _ => T - (intOf s8).toNat)
  case atStart => exact ⟨0, 0, by omega, rfl, HCT.out⟩
  case round =>
    clear HCT
    obtain ⟨k, f, hk, rfl, hct⟩ := hrel
    have HCT := Lib.hid hct
    clear hct
    by_cases hlt : k < T
    · by_cases h00 : k0 = 0
      · have H00 := Lib.hid h00
        clear h00
        go_wp2_with fail
        refine (HTR.out _).mono ?_
        rintro e w' ⟨rfl, rfl⟩
        go_wp2_with fail
        refine (push_noI g s k0 f [] wr HCT.out.ring _ (by have := H00.out; simp; omega)).mono ?_
        rintro e w2 ⟨rfl, n2, rfl⟩
        have HC2 := Lib.hid (HCT.out.drewN n2)
        clear HCT
        go_wp2_with fail
        refine (pop_noI g s k0 f _ HC2.out.ring).mono ?_
        rintro e w2 ⟨rfl, n3, rfl⟩
        have hc3 := HC2.out.drewN n3
        rw [World.drewN_drewN] at hc3
        have HC3 := Lib.hid hc3
        clear HC2 hc3
        go_wp2_with fail
        exact ⟨⟨k + 1, _, by omega, by go_num, HC3.out⟩, by simp [intOf]; omega⟩
      · go_wp2_with fail
        refine (HTR.out _).mono ?_
        rintro e w' ⟨rfl, rfl⟩
        go_wp2_with fail
        refine (push_yesI g s k0 f [] wr HCT.out.ring _ (by simp; omega)).mono ?_
        rintro e w2 ⟨rfl, hq, hf⟩
        have HC2 := Lib.hid (HCT.out.ringed hq hf)
        clear HCT hq hf
        go_wp2_with fail
        refine (pop_yesI g s k0 f [] _ _ HC2.out.ring).mono ?_
        rintro e w2 ⟨rfl, hq, hf⟩
        have HC3 := Lib.hid (HC2.out.ringed hq hf)
        clear HC2 hq hf
        go_wp2_with fail
        exact ⟨⟨k + 1, _, by omega, by go_num, HC3.out⟩, by simp [intOf]; omega⟩
    · have hTk : T ≤ k := by omega
      go_wp2_with fail
      refine (HTR.out _).mono ?_
      rintro e w' ⟨rfl, rfl⟩
      clear HTR
      go_wp2_with fail
      clear hTk hlt
      go_loopw [9, 10, 11] (fun s9 s10 s11 wr2 => ∃ (vs : Value) (j N : Nat), vs = s9 ∧ j ≤ nl ∧ s11 = .int .i64 (j : Int) ∧ s10 = .int .i64 (N : Int) ∧ Hid (N = min j k0) ∧ CtC w wr2 b0 g s k0 f (l'.take N) vs (staysL (l'.take N))) (fun _ _ s11 _ => nl - (intOf s11).toNat)
      case atStart => exact ⟨_, 0, 0, rfl, by omega, rfl, rfl, Lib.hid (by simp), by simpa [staysL] using HCT.out⟩
      case round =>
        clear HCT
        obtain ⟨vs, j, N, rfl, hj, rfl, rfl, HNJ, hct⟩ := hrel
        have hll := HLL.out
        have hlt1 : (l'.take N).length = N := by have := HNJ.out; rw [List.length_take, hll]; omega
        have hst1 := staysL_le (l'.take N)
        rw [hlt1] at hst1
        have hN25 : N ≤ 25 := by have := HNJ.out; omega
        by_cases hlt : j < nl
        · obtain ⟨ad, x, rfl, hab, hx, hcx0⟩ := HRL.out.num hlt
          have hcx := (hct.bel.cell (p := ad.add j) (by rw [block_of_add]; exact hab)).trans hcx0
          have HCT := Lib.hid hct; have HC0 := Lib.hid hcx0; have HLT := Lib.hid hlt1
          clear hct hcx0 hll hlt1
          by_cases hfull : j < k0
          · have e1 : N = j := by have := HNJ.out; omega
            have hln : (l'.take N).length < k0 := by rw [HLT.out]; omega
            have hsn : l'.take N ++ [x] = l'.take (N + 1) := by rw [List.take_add_one, e1, hx]; simp
            have hstk := staysL_take (k := N) (by rw [e1]; exact hx)
            have HLN := Lib.hid hln; have HSN := Lib.hid hsn; have HSTK := Lib.hid hstk
            have HNJ2 : Hid (N + 1 = min (j + 1) k0) := Lib.hid (by omega)
            clear hx hln hsn hstk e1 HNJ
            go_wp2_with fail
            refine (push_yesI g s k0 f _ _ HCT.out.ring x HLN.out).mono ?_
            rintro e w2 ⟨rfl, hq, hf⟩
            rw [HSN.out] at hq
            have hc2 := HCT.out.ringed hq hf
            have hcx2 := (hc2.bel.cell (p := ad.add j) (by rw [block_of_add]; exact hab)).trans HC0.out
            have zb2 := hc2.b0
            have hwr : IntKind.i64.wrap ((N : Int) + 1) = (N : Int) + 1 := IntWalk.i64_in _ (by omega)
            have HC2 := Lib.hid hc2
            clear hq hf hc2 HCT hcx
            by_cases hneg : x < 0
            · have hx2 : isNeg x = true := by unfold isNeg; simpa using hneg
              have hst2 := HSTK.out
              rw [hx2, if_pos rfl] at hst2
              have HST2 := Lib.hid hst2
              clear hx2 hst2 HSTK
              go_wp2_with fail
              exact ⟨⟨_, j + 1, N + 1, rfl, by omega, by go_num, by go_num, HNJ2, by rw [HST2.out]; exact HC2.out⟩, by simp [intOf]; omega⟩
            · have hx2 : isNeg x = false := by unfold isNeg; simpa using hneg
              have hst2 := HSTK.out
              rw [hx2, if_neg (by simp)] at hst2
              have HST2 := Lib.hid hst2
              clear hx2 hst2 HSTK
              go_wp2_with (at_builtin; go_must (refine wpList_append_any _ rfl (.tmp 55) (.tmp 60) _ rfl b0 3 i0 _ 1 8 Try.underlying22 hi0 hz0 hz1 hz2 rfl (by decide) vs (staysL (l'.take N)).length ((staysL (l'.take N)).map EnI) rfl (HC2.out.own.alloc _) _ _ 1 1 [.int .i64 x] rfl (reads_one_int _ x _) (by simp [Value.oneCell']) ?f1 ?f2 ?f3 ?f4))
              case f1 => unfold maxLen; omega
              case f2 => omega
              case f3 => simp; omega
              case f4 =>
              intro v5 w6 hown hgr hat
              have hc3 := HC2.out.app (vs' := v5) (OwnI.snoc hown) hgr
              rw [← HST2.out] at hc3
              have HC3 := Lib.hid hc3
              clear hown hgr hat hc3 HC2
              go_wp2_with fail
              exact ⟨⟨_, j + 1, N + 1, rfl, by omega, by go_num, by go_num, HNJ2, HC3.out⟩, by simp [intOf]; omega⟩
          · have e1 : N = k0 := by have := HNJ.out; omega
            have HNJ2 : Hid (N = min (j + 1) k0) := Lib.hid (by omega)
            have hln : k0 ≤ (l'.take N).length := by rw [HLT.out]; omega
            have HLN := Lib.hid hln
            clear hx hln e1 HNJ
            go_wp2_with fail
            refine (push_noI g s k0 f _ _ HCT.out.ring x HLN.out).mono ?_
            rintro e w2 ⟨rfl, n2, rfl⟩
            have HC2 := Lib.hid (HCT.out.drewN n2)
            clear HCT hcx
            go_wp2_with fail
            exact ⟨⟨_, j + 1, N, rfl, by omega, by go_num, rfl, HNJ2, HC2.out⟩, by simp [intOf]; omega⟩
        · have hct2 : CtC w wr b0 g s k0 f (l'.take N) vs (staysL (l'.take N)) := hct
          have hcl := cut_any g s k0 f (l'.take N) wr hct.ring isNeg 25 #[] (fun _ => False) (fun _ _ => True) (by intro args W; go_simp) (fun _ _ _ _ _ => trivial) (fun _ h => h.elim)
            (fun pre x W _ _ _ => by
              refine (neg_any x W).mono ?_
              rintro e W' ⟨rfl, rfl⟩
              exact ⟨rfl, trivial, Fr.refl _ _⟩) trivial
          have hlen := staysL_len (l'.take N)
          rw [hlt1] at hlen
          obtain ⟨C, hC⟩ : ∃ C, C = ((l'.take N).filter isNeg).length := ⟨_, rfl⟩
          obtain ⟨St, hSt⟩ : ∃ St, St = staysL (l'.take N) := ⟨_, rfl⟩
          have hst3 : (l'.take N).filter (fun x => !isNeg x) = St := hSt.symm
          rw [← hC, hst3] at hcl
          rw [← hC, ← hSt] at hlen
          rw [← hSt] at hst1
          rw [← hSt] at hct
          obtain ⟨A, c, rfl, hcs, hrs⟩ := hct.own.slice
          have hNk : N ≤ k0 := by have := HNJ.out; omega
          have hw1 : IntKind.i64.wrap ((N : Int) - (St.length : Int)) = (C : Int) := by rw [IntWalk.i64_in _ (by omega)]; omega
          have hw2 : IntKind.i64.wrap ((k0 : Int) - (St.length : Int)) = ((k0 - St.length : Nat) : Int) := by rw [IntWalk.i64_in _ (by omega)]; omega
          have hlg := hct.ring.lt
          have HCL := Lib.hid hcl; have HCT := Lib.hid hct
          clear hcl hct hct2 hlen hC hSt hst3 hll hlt1 hrs HLL HRL HNL HNJ
          go_wp2_with fail
          refine HCL.out.mono ?_
          rintro e w3 ⟨rfl, hq, -, hf⟩
          have hbel := HCT.out.bel.trans (hf.below HCT.out.bel.size (fun i hi => by have := HCT.out.h0; have := HCT.out.h1; rcases hi with hi | hi; omega; exact hi.elim))
          have hrd := reads_own_fr HCT.out.own hf (fun i hi h => by have := HCT.out.hg; have := HCT.out.hs; rcases h with h | h; omega; exact h.elim)
          have hall := all_yes g s k0 0 St (-1) w3 hq _ A c hrd hf.size
          have HQ := Lib.hid hq; have HA := Lib.hid hall; have HB := Lib.hid hbel
          have hl3 := hq.lt
          clear hq hf hrd hall hbel HCL HCT
          go_wp2_with fail
          refine HA.out.mono ?_
          rintro e w4 ⟨rfl, hb4⟩
          have hq4 := HQ.out.below hb4 hl3.1 hl3.2
          have hb5 := HB.out.trans (hb4.mono HB.out.size)
          have HQ4 := Lib.hid hq4; have HB4 := Lib.hid hb5
          clear hq4 hb5 hb4 HQ HB HA
          go_wp2_with fail
          refine (len_anyI g s k0 0 St w4 HQ4.out).mono ?_
          rintro e w' ⟨rfl, rfl⟩
          go_wp2_with fail
          refine (room_anyI g s k0 0 St w4 HQ4.out).mono ?_
          rintro e w' ⟨rfl, n5, rfl⟩
          have hb6 := below_drews HB4.out n5
          have HB6 := Lib.hid hb6
          clear hb6
          go_wp2_with fail
          refine (lives_any _).mono ?_
          rintro e w' ⟨rfl, hbl⟩
          go_wp2_with fail
          go_ret
          exact ⟨rfl, HB6.out.trans (hbl.mono HB6.out.size)⟩
end Go.Proofs.Ythlaaeopohilmaa.ringCuts
