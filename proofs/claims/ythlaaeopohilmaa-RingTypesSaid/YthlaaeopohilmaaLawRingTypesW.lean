/-
  The walk of RingTypes.
-/
import Derived.Test.YthlaaeopohilmaaRows
import Derived.WalkKit
import Derived.ProofKit
import Derived.OpenShut
import Derived.ShutString
import Derived.ChangeOld
import Derived.Below
import Derived.Test.YthlaaeopohilmaaRgOwn
import Derived.Test.YthlaaeopohilmaaRgDec
namespace Go.Proofs.Ythlaaeopohilmaa.ringTypes
open Go.ChangeShapes Go.WideShapes Go.ChangeAt Go.RowKit Go.Proofs.Ythlaaeopohilmaa Go.Proofs.Ythlaaeopohilmaa.Plain
open Go.ChangeMaps (open_string shut_string)
set_option linter.unusedVariables false


theorem take_min_snoc {l : List Int} {k x : Nat} {v : Int} (hv : l[k]? = some v) (hx : k < x) : (l.take (min (k + 1) x)).map decB = (l.take (min k x)).map decB ++ [decB v] := by
  rw [show min (k + 1) x = k + 1 by omega, show min k x = k by omega, List.take_add_one, hv]
  simp
theorem take_min_same {l : List Int} {k x : Nat} (hx : x ≤ k) : (l.take (min (k + 1) x)).map decB = (l.take (min k x)).map decB := by
  rw [show min (k + 1) x = x by omega, show min k x = x by omega]
theorem drop_cons {l : List Int} {j n : Nat} {v : Int} (hv : l[j]? = some v) (hj : j < n) : ((l.take n).drop j).map decB = decB v :: ((l.take n).drop (j + 1)).map decB := by
  have hl : j < l.length := (List.getElem?_eq_some_iff.1 hv).1
  have he : l[j] = v := (List.getElem?_eq_some_iff.1 hv).2
  rw [List.drop_eq_getElem_cons (by simp; omega)]
  simp [he]
set_option maxRecDepth 100000 in
set_option maxHeartbeats 40000000 in
theorem walk (a0 : Option Addr) (len0 cap0 : Nat) (z0 : List Int) (a1 : Int) (w : World) (w0 : IsRow .i64 w a0 len0 cap0 z0) (w1 : (Lit.int .i64 a1).wf = true) :
    Calls Try.prog 6 #[.slice a0 len0 cap0, .int .i64 a1] w fun e w' => e = .returned (.bool true) ∧ Below w.heap.size w w' := by
  obtain ⟨l, hl, hR, hfit, hc, hn⟩ := row_int w0
  have ba := wf_i64 w1
  have har := fun W => around_any a1 21 W ba.1 ba.2 (by omega) (by omega)
  have hal := aroundV_lt (n := a1) (m := 21) (by omega)
  generalize aroundV a1 21 = ra at *
  obtain ⟨k0, rfl⟩ := Int.eq_ofNat_of_zero_le hal.1
  have hk0 : k0 < 21 := by omega
  have HAR := Lib.hid har; have HR := Lib.hid hR; have HFIT := Lib.hid hfit; have HL := Lib.hid hl
  clear har hR hfit hl w0 w1 hal ba
  go_enter Try.func6, Try.ntmps6
  go_wp2_with fail
  refine (HAR.out _).mono ?_
  rintro e w' ⟨rfl, rfl⟩
  go_wp2_with fail
  refine (new_anyS _ [] 0 rfl _ 0 none 0 Reads.none_ (by omega)).mono ?_
  rintro e w1 ⟨g, s, rfl, hq, hg, hs, hb⟩
  rw [show clampR (k0 : Int) = k0 by unfold clampR; omega] at hq
  simp only [List.take_nil] at hq
  have hl1 := hq.lt
  have HQ := Lib.hid hq; have HB := Lib.hid hb
  clear hq hb HAR
  go_wp2_with fail
  go_loopw [6] (fun s6 wr => ∃ (k first : Nat), k ≤ len0 ∧ k ≤ 20 ∧ s6 = .int .i64 (k : Int) ∧ RgS wr g s k0 first ((l.take (min k k0)).map decB) ∧ Below w.heap.size w wr) (fun s6 _ => 20 - (intOf s6).toNat)
  case atStart => exact ⟨0, 0, by omega, by omega, rfl, by simpa using HQ.out, HB.out⟩
  case round =>
    clear HQ HB
    obtain ⟨k, first, hk1, hk2, rfl, hq, hb⟩ := hrel
    have HQ := Lib.hid hq; have HB := Lib.hid hb
    have hz := hb.size
    have hl1 := hq.lt
    clear hq hb
    by_cases hlt : k < len0 ∧ k < 20
    · obtain ⟨hlt1, hlt2⟩ := hlt
      obtain ⟨ad, x, rfl, hab, hx, hcx0⟩ := HR.out.num hlt1
      have hcx := (HB.out.cell (p := ad.add k) (by rw [block_of_add]; exact hab)).trans hcx0
      have hxf := HFIT.out x (List.mem_of_getElem? hx)
      have hdx := fun W => dec_any x W hxf.1 hxf.2
      have HX := Lib.hid hx; have HD := Lib.hid hdx
      clear hx hdx hcx0 hxf
      go_wp2_with fail
      refine (HD.out _).mono ?_
      rintro e w2 ⟨rfl, hb2⟩
      have hq2 := HQ.out.below hb2 hl1.1 hl1.2
      have hbb2 := HB.out.trans (hb2.mono hz)
      have HQ2 := Lib.hid hq2; have HB2 := Lib.hid hbb2
      have hz2 := hbb2.size
      clear hb2 hq2 hbb2 HQ HB hcx
      by_cases hfull : k < k0
      · have hln : ((l.take (min k k0)).map decB).length < k0 := by have := HL.out; simp; omega
        go_wp2_with fail
        refine (push_yesS g s k0 first _ w2 HQ2.out (decB x) hln).mono ?_
        rintro e w3 ⟨rfl, hq, hf⟩
        rw [← take_min_snoc HX.out hfull] at hq
        have HQ3 := Lib.hid hq; have HF3 := Lib.hid hf
        clear hq hf hln
        go_wp2_with fail
        refine ⟨⟨k + 1, first, by omega, by omega, by go_num, HQ3.out, HB2.out.trans (HF3.out.below hz2 (fun i hi => by omega))⟩, by simp [intOf]; omega⟩
      · have hln : k0 ≤ ((l.take (min k k0)).map decB).length := by have := HL.out; simp; omega
        go_wp2_with fail
        refine (push_noS g s k0 first _ w2 HQ2.out (decB x) hln).mono ?_
        rintro e w3 ⟨rfl, n3, rfl⟩
        clear hln
        go_wp2_with fail
        refine ⟨⟨k + 1, first, by omega, by omega, by go_num, by rw [take_min_same (by omega)]; exact HQ2.out.drewN _, below_drews HB2.out _⟩, by simp [intOf]; omega⟩
    · obtain ⟨N, hN⟩ : ∃ N : Nat, N = min k k0 := ⟨_, rfl⟩
      have hmin : ∀ W, (Builtin.min_ #[3, 3, 3] 3 #[.int .i64 (len0 : Int), .int .i64 (k0 : Int), .int .i64 20]).run Try.prog W = .ok (.int .i64 (N : Int)) W := by
        intro W
        rw [run_min_int3, show (if (20 : Int) < (if (k0 : Int) < (len0 : Int) then (k0 : Int) else (len0 : Int)) then (20 : Int) else (if (k0 : Int) < (len0 : Int) then (k0 : Int) else (len0 : Int))) = (N : Int) by split <;> split <;> omega]
      have hN3 : N ≤ len0 ∧ N ≤ 20 ∧ N ≤ k0 := by omega
      rw [← hN] at HQ
      by_cases hge : k < len0
      all_goals
        clear hN
        go_wp2_with fail
        clear hmin hge hlt
        go_loopw [9] (fun s9 wr2 => ∃ (j first2 : Nat), j ≤ N ∧ s9 = .int .i64 (j : Int) ∧ RgS wr2 g s k0 first2 (((l.take N).drop j).map decB) ∧ Below w.heap.size w wr2) (fun s9 _ => N - (intOf s9).toNat)
        case atStart => exact ⟨0, first, by omega, rfl, by simpa using HQ.out, HB.out⟩
        case round =>
          clear HQ HB hz hl1
          obtain ⟨j, f2, hj, rfl, hq, hb⟩ := hrel
          have hz := hb.size
          have hl1 := hq.lt
          by_cases hlt : j < N
          · obtain ⟨ad, x, rfl, hab, hx, hcx0⟩ := HR.out.num (k := j) (by omega)
            have hxf := HFIT.out x (List.mem_of_getElem? hx)
            have hdx := fun W => dec_any x W hxf.1 hxf.2
            rw [drop_cons hx hlt] at hq
            have HX := Lib.hid hx; have HD := Lib.hid hdx; have HC := Lib.hid hcx0
            have HQ := Lib.hid hq; have HB := Lib.hid hb
            clear hx hdx hcx0 hxf hq hb
            go_wp2_with fail
            refine (pop_yesS g s k0 f2 _ _ (decB x) HQ.out).mono ?_
            rintro e w3 ⟨rfl, hq, hf⟩
            have hbb3 := HB.out.trans (hf.below hz (fun i hi => by omega))
            have hcx := (hbb3.cell (p := ad.add j) (by rw [block_of_add]; exact hab)).trans HC.out
            have hz3 := hbb3.size
            have hl3 := hq.lt
            have HQ3 := Lib.hid hq; have HB3 := Lib.hid hbb3
            clear hq hf hbb3 HQ HB hl1 hz
            go_wp2_with fail
            refine (HD.out _).mono ?_
            rintro e w4 ⟨rfl, hb4⟩
            have hq4 := HQ3.out.below hb4 hl3.1 hl3.2
            have hb5 := HB3.out.trans (hb4.mono hz3)
            have HQ4 := Lib.hid hq4; have HB4 := Lib.hid hb5
            clear hb4 hq4 hb5 HQ3 HB3 hcx
            go_wp2_with fail
            refine ⟨⟨j + 1, _, by omega, by go_num, HQ4.out, HB4.out⟩, by simp [intOf]; omega⟩
          · have hjN : j = N := by omega
            have he : ((l.take N).drop j).map decB = [] := by rw [List.drop_eq_nil_of_le (by simp; omega)]; rfl
            rw [he] at hq
            have HQ := Lib.hid hq; have HB := Lib.hid hb
            clear hq hb he hjN
            go_wp2_with fail
            refine (pop_noS g s k0 f2 _ HQ.out).mono ?_
            rintro e w3 ⟨rfl, n3, rfl⟩
            have hb5 := below_drews HB.out n3
            have HB5 := Lib.hid hb5
            clear hb5
            go_wp2_with fail
            refine (lives_any _).mono ?_
            rintro e w' ⟨rfl, hbl⟩
            go_wp2_with fail
            go_ret
            exact ⟨rfl, HB5.out.trans (hbl.mono HB5.out.size)⟩
end Go.Proofs.Ythlaaeopohilmaa.ringTypes
