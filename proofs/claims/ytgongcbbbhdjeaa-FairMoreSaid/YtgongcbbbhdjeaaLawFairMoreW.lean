
/-
  The walk of FairMore.
-/
import Derived.Test.YtgongcbbbhdjeaaRows
import Derived.WalkKit
import Derived.ProofKit
import Derived.OpenShut
import Derived.ShutString
import Derived.ChangeOld
import Derived.Below
import Derived.Test.YtgongcbbbhdjeaaFrQ
namespace Go.Proofs.Ytgongcbbbhdjeaa.fairMore
open Go.ChangeShapes Go.WideShapes Go.ChangeAt Go.RowKit Go.Proofs.Ytgongcbbbhdjeaa Go.Proofs.Ytgongcbbbhdjeaa.Plain
open Go.ChangeMaps (open_string shut_string)
set_option linter.unusedVariables false


theorem manyV_self {M : Nat} (h1 : 1 ≤ M) (h2 : M ≤ 64) : manyV (M : Int) = M := by unfold manyV; omega
theorem rounds_append (M a b : Nat) : Rounds M (a + b) 0 (roundL M a ++ roundL M b) := by
  refine ⟨by rw [List.length_append, roundL_length, roundL_length, Nat.mul_add], fun i hi => ?_⟩
  rw [Nat.mul_add] at hi
  have ha := roundL_length M a
  rcases Nat.lt_or_ge i (M * a) with h | h
  · rw [List.getElem?_append_left (by omega)]
    exact (roundL_rounds M a).at_ i h
  · rw [List.getElem?_append_right (by omega), ha, (roundL_rounds M b).at_ _ (by omega)]
    have : (i - M * a + 0) % M = (i + 0) % M := by
      obtain ⟨j, rfl⟩ : ∃ j, i = j + M * a := ⟨i - M * a, by omega⟩
      rw [Nat.add_sub_cancel, Nat.add_zero, Nat.add_zero, Nat.add_mul_mod_self_left]
    rw [this]
theorem EnI_one (l : List Int) : ∀ u ∈ l.map EnI, u.oneCell' = true := by
  intro u hu
  obtain ⟨x, _, rfl⟩ := List.mem_map.1 hu
  rfl
def without (l : List Int) (w : Int) (k : Nat) : List Int := (l.take k).filter fun x => x != w
theorem without_succ {l : List Int} {w x : Int} {k : Nat} (hx : l[k]? = some x) : without l w (k + 1) = if x = w then without l w k else without l w k ++ [x] := by
  unfold without
  rw [List.take_add_one, hx, List.filter_append]
  by_cases e : x = w
  · simp [e]
  · simp [e]
theorem without_len (l : List Int) (w : Int) (k : Nat) : (without l w k).length ≤ k := by
  unfold without
  refine Nat.le_trans (List.length_filter_le _ _) ?_
  simp
  omega
theorem without_not (l : List Int) (w : Int) (k : Nat) : w ∉ without l w k := by
  unfold without
  simp
set_option maxRecDepth 100000 in
set_option maxHeartbeats 40000000 in
theorem walk (a0 : Int) (a1 : Int) (a2 : Int) (a3 : Int) (w : World) (w0 : (Lit.int .i64 a0).wf = true) (w1 : (Lit.int .i64 a1).wf = true) (w2 : (Lit.int .i64 a2).wf = true) (w3 : (Lit.int .i64 a3).wf = true) :
    Calls Try.prog 9 #[.int .i64 a0, .int .i64 a1, .int .i64 a2, .int .i64 a3] w fun e w' => e = .returned (.bool true) ∧ Below w.heap.size w w' := by
  have ba := wf_i64 w0
  have bb := wf_i64 w1
  have bc := wf_i64 w2
  have bd := wf_i64 w3
  have hal0 := aroundV_lt (n := a0) (m := 10) (by omega)
  have har0 := fun W => around_any a0 10 W ba.1 ba.2 (by omega) (by omega)
  obtain ⟨m0, hm0⟩ := Int.eq_ofNat_of_zero_le hal0.1
  rw [hm0] at har0 hal0
  have hal1 := aroundV_lt (n := a1) (m := 6) (by omega)
  have har1 := fun W => around_any a1 6 W bb.1 bb.2 (by omega) (by omega)
  obtain ⟨K1, hK1⟩ := Int.eq_ofNat_of_zero_le hal1.1
  rw [hK1] at har1 hal1
  have hal2 := aroundV_lt (n := a2) (m := 5) (by omega)
  have har2 := fun W => around_any a2 5 W bc.1 bc.2 (by omega) (by omega)
  obtain ⟨k2, hK2⟩ := Int.eq_ofNat_of_zero_le hal2.1
  rw [hK2] at har2 hal2
  obtain ⟨M, hM⟩ : ∃ M : Nat, M = m0 + 1 := ⟨_, rfl⟩
  obtain ⟨K2, hKK⟩ : ∃ K2 : Nat, K2 = k2 + 1 := ⟨_, rfl⟩
  have hM1 : 1 ≤ M := by omega
  have hM10 : M ≤ 10 := by omega
  have hwM : IntKind.i64.wrap (1 + (m0 : Int)) = (M : Int) := by rw [IntWalk.i64_in _ (by omega)]; omega
  have hwK : IntKind.i64.wrap (1 + (k2 : Int)) = (K2 : Int) := by rw [IntWalk.i64_in _ (by omega)]; omega
  have hal3 := aroundV_lt (n := a3) (m := (M : Int)) (by omega)
  have har3 := fun W => around_any a3 (M : Int) W bd.1 bd.2 (by omega) (by omega)
  obtain ⟨u, hu⟩ := Int.eq_ofNat_of_zero_le hal3.1
  rw [hu] at har3 hal3
  have huM : u < M := by omega
  have hmM := manyV_self hM1 (show M ≤ 64 by omega)
  have hrd1 := fun W => round_any W (M : Int) (K1 : Int) K1 (by omega) (by omega) (by omega) (by omega)
  have hrd2 := fun W => round_any W (M : Int) (K2 : Int) K2 (by omega) (by omega) (by omega) (by omega)
  rw [hmM] at hrd1 hrd2
  have hr := rounds_append M K1 K2
  have hlen1 := roundL_length M K1
  have hlen2 := roundL_length M K2
  have hb1 : M * K1 ≤ 50 := Nat.le_trans (Nat.mul_le_mul hM10 (show K1 ≤ 5 by omega)) (by omega)
  have hb2 : M * K2 ≤ 50 := Nat.le_trans (Nat.mul_le_mul hM10 (show K2 ≤ 5 by omega)) (by omega)
  generalize roundL M K1 = l1 at *
  generalize roundL M K2 = l2 at *
  generalize M * K1 = n1 at *
  generalize M * K2 = n2 at *
  have hlen : (l1 ++ l2).length = n1 + n2 := by simp [hlen1, hlen2]
  have hfair := hr.fair hM1
  have hleast := hr.least hM1 (by omega)
  have hlk := fun k => lacks_least (l := without (l1 ++ l2) (u : Int) k) huM (without_not _ _ _)
  have hlf := fun k => lacks_full (l := without (l1 ++ l2) (u : Int) k) huM (without_not _ _ _)
  have hF := fun W BB A c hR hB => fair_any W BB A (n1 + n2) c (l1 ++ l2) hR hlen (by omega) hB (M : Int) (M : Int) (by omega) (by omega)
  have hL := fun W BB A c hR hB => least_any W BB A (n1 + n2) c (l1 ++ l2) hR hlen (by omega) hB (M : Int) (by omega) (by omega)
  rw [hmM, hfair] at hF
  rw [hmM, hleast] at hL
  have HA0 := Lib.hid har0; have HA1 := Lib.hid har1; have HA2 := Lib.hid har2; have HA3 := Lib.hid har3; have HRD1 := Lib.hid hrd1; have HRD2 := Lib.hid hrd2; have HF := Lib.hid hF; have HL := Lib.hid hL
  have HLEN1 := Lib.hid hlen1; have HLEN2 := Lib.hid hlen2; have HLEN := Lib.hid hlen; have HLK := Lib.hid hlk; have HLF := Lib.hid hlf; have HMM := Lib.hid hmM
  clear hM hKK har0 har1 har2 har3 hrd1 hrd2 hF hL hlen1 hlen2 hlen hlk hlf hmM hr hfair hleast w0 w1 w2 w3 ba bb bc bd hm0 hK1 hK2 hu hal0 hal1 hal2 hal3
  obtain ⟨i0, hi0, hz0, hz1, hz2⟩ := info_parts info_int
  go_enter Try.func9, Try.ntmps9
  go_wp2_with fail
  refine (HA0.out _).mono ?_
  rintro e w' ⟨rfl, rfl⟩
  clear HA0
  go_wp2_with fail
  refine (HA1.out _).mono ?_
  rintro e w1 ⟨rfl, rfl⟩
  clear HA1
  go_wp2_with fail
  refine (HRD1.out _).mono ?_
  rintro e w2 ⟨v, rfl, ho, hb⟩
  obtain ⟨A1, c1, rfl, hc1, hrd⟩ := ho.slice
  rw [HLEN1.out] at hrd hc1 ⊢
  have HR1 := Lib.hid hrd; have HB1 := Lib.hid hb
  clear ho hrd hb HRD1
  go_wp2_with fail
  refine (HA2.out _).mono ?_
  rintro e w3 ⟨rfl, hw3⟩
  subst hw3
  clear HA2
  go_wp2_with fail
  refine (HRD2.out _).mono ?_
  rintro e w3 ⟨v, rfl, ho, hb⟩
  obtain ⟨A2, c2, rfl, hc2, hrd⟩ := ho.slice
  rw [HLEN2.out] at hrd hc2 ⊢
  have HR2 := Lib.hid hrd; have HB2 := Lib.hid (HB1.out.trans (hb.mono HB1.out.size)); have HR1b := Lib.hid (HR1.out.below hb)
  have hz12 := hb.size
  clear ho hrd hb HRD2 HR1
  go_wp2_with (at_builtin; go_must (refine wpList_append_any _ rfl (.tmp 27) (.tmp 28) _ rfl w3.heap.size 3 i0 _ 1 8 Try.underlying22 hi0 hz0 hz1 hz2 rfl (by decide) (.slice none 0 0) 0 [] rfl (World.ownsRow_nil _ _ _ _) _ A1 n1 c1 (l1.map EnI) rfl HR1b.out (EnI_one _) ?f1 ?f2 ?f3 ?f4))
  case f1 => unfold maxLen; omega
  case f2 => omega
  case f3 => exact Nat.le_refl _
  case f4 =>
  intro v3 w4 ho3 hg3 hat3
  have ho4 : w4.ownsRow w3.heap.size 3 1 v3 n1 (l1.map EnI) := by simpa using ho3
  have hb4 : Below w3.heap.size w3 w4 := (Below.refl _ _).grown hg3 (Nat.le_refl _) (fun r hr => by simp [Value.ownBlock] at hr)
  have HO4 := Lib.hid ho4; have HB4 := Lib.hid hb4; have HR2b := Lib.hid (HR2.out.below hb4)
  have hz34 := hb4.size
  clear ho3 hg3 hat3 ho4 hb4 HR1b HR2
  go_wp2_with (at_builtin; go_must (refine wpList_append_any _ rfl (.tmp 30) (.tmp 31) _ rfl w3.heap.size 3 i0 _ 1 8 Try.underlying22 hi0 hz0 hz1 hz2 rfl (by decide) v3 n1 (l1.map EnI) rfl HO4.out _ A2 n2 c2 (l2.map EnI) rfl HR2b.out (EnI_one _) ?f1 ?f2 ?f3 ?f4))
  case f1 => unfold maxLen; omega
  case f2 => omega
  case f3 => exact hz34
  case f4 =>
  intro v5 w5 ho5 hg5 hat5
  have ho6 : OwnI w5 w3.heap.size v5 (l1 ++ l2) := by
    unfold OwnI
    rw [HLEN.out, List.map_append]
    exact ho5
  have hb5 : Below w3.heap.size w3 w5 := HB4.out.grown hg5 hz34 (fun r hr => (HO4.out.lt r hr).1)
  obtain ⟨A5, c5, rfl, hc5, hrd⟩ := ho6.slice
  rw [HLEN.out] at hrd hc5
  have HR5 := Lib.hid hrd; have HB5 := Lib.hid (HB2.out.trans (hb5.mono HB2.out.size))
  clear ho5 hg5 hat5 ho6 hb5 hrd HO4 HR2b HB4
  have hln := HLEN.out
  rw [hln]
  clear hln
  go_wp2_with fail
  refine (HA3.out _).mono ?_
  rintro e w6 ⟨rfl, hw6⟩
  subst hw6
  clear HA3
  go_wp2_with fail
  have hzA : w.heap.size ≤ w5.heap.size := HB5.out.size
  go_loopw [13, 14] (fun s13 s14 wr => ∃ (v : Value) (i : Nat), v = s13 ∧ i ≤ n1 + n2 ∧ s14 = .int .i64 (i : Int) ∧ Hid (OwnI wr w5.heap.size v (without (l1 ++ l2) (u : Int) i)) ∧ Hid (Below w5.heap.size w5 wr)) (fun _ s14 _ => n1 + n2 - (intOf s14).toNat)
  case atStart => exact ⟨_, 0, rfl, by omega, rfl, Lib.hid (OwnI.nil _ _), Lib.hid (Below.refl _ _)⟩
  case round =>
    obtain ⟨v, i, hv, hi, rfl, HO, HB⟩ := hrel
    subst hv
    have hzr := HB.out.size
    have hwl := without_len (l1 ++ l2) (u : Int) i
    by_cases hlt : i < n1 + n2
    · obtain ⟨ad, x, rfl, hab, hx, hcx⟩ := (HR5.out.below HB.out).num (k := i) hlt
      have hs := without_succ (w := (u : Int)) hx
      have q0 : (i : Int) < (n1 : Int) + (n2 : Int) := by omega
      have q2 : (0 : Int) ≤ (i : Int) := by omega
      have hcast : (((n1 + n2 : Nat)) : Int) = (n1 : Int) + (n2 : Int) := by omega
      have HS := Lib.hid hs
      clear hs hx
      by_cases he : x = (u : Int)
      · have hs := HS.out
        rw [if_pos he] at hs
        have heb : (x != (u : Int)) = false := by simpa using he
        have HO2 := Lib.hid (hs ▸ HO.out)
        clear hs HS he
        go_wp2_with fail
        exact ⟨⟨_, i + 1, rfl, by omega, by go_num, HO2, HB⟩, by simp [intOf]; omega⟩
      · have hs := HS.out
        rw [if_neg he] at hs
        have heb : (x != (u : Int)) = true := by simpa using he
        have HS2 := Lib.hid hs
        have ho2 := HO.out
        unfold OwnI at ho2
        generalize hpk : (without (l1 ++ l2) (u : Int) i).length = k at hwl ho2
        have HO2 := Lib.hid ho2; have HPK := Lib.hid hpk
        clear hs HS he ho2 hpk HO
        go_wp2_with (at_builtin; go_must (refine wpList_append_any _ rfl (.tmp 48) (.tmp 53) _ rfl w5.heap.size 3 i0 _ 1 8 Try.underlying22 hi0 hz0 hz1 hz2 rfl (by decide) v k ((without (l1 ++ l2) (u : Int) i).map EnI) rfl ((Fr.refl (fun _ => False) _ |>.alloc _).own HO2.out (fun _ _ h => h)) _ _ 1 1 [.int .i64 x] rfl (reads_one_int _ _ _) ?f0 ?f1 ?f2 ?f3 ?f4))
        case f0 => simp [Value.oneCell']
        case f1 => unfold maxLen; omega
        case f2 => omega
        case f3 => simp; omega
        case f4 =>
        intro v2 w6 hown6 hgr hat
        clear hat
        have ho7 : OwnI w6 w5.heap.size v2 (without (l1 ++ l2) (u : Int) (i + 1)) := by
          unfold OwnI
          rw [HS2.out, List.length_append, HPK.out, List.map_append]
          exact hown6
        have hb7 : Below w5.heap.size w5 w6 := (HB.out.alloc (by omega) _).grown hgr (by simp; omega) (fun r hr => (HO2.out.lt r hr).1)
        have HO7 := Lib.hid ho7; have HB7 := Lib.hid hb7
        clear hown6 hgr ho7 hb7
        go_wp2_with fail
        exact ⟨⟨_, i + 1, rfl, by omega, by go_num, HO7, HB7⟩, by simp [intOf]; omega⟩
    · obtain ⟨A6, c6, rfl, hc6, hrd⟩ := HO.out.slice
      have hbw := HB5.out.trans (HB.out.mono hzA)
      have hlk := HLK.out i
      have hlf := HLF.out i
      have hL2 := fun W BB hR hB => least_any W BB A6 _ c6 (without (l1 ++ l2) (u : Int) i) hR rfl (by omega) hB (M : Int) (by omega) (by omega)
      have hG2 := fun W BB hR hB => full_any W BB A6 _ c6 (without (l1 ++ l2) (u : Int) i) hR rfl (by omega) hB (M : Int) (by omega) (by omega)
      rw [HMM.out, hlk] at hL2
      rw [HMM.out, hlf] at hG2
      have HR6 := Lib.hid hrd; have HBW := Lib.hid hbw; have HL2 := Lib.hid hL2; have HG2 := Lib.hid hG2
      have HR5b := Lib.hid (HR5.out.below HB.out)
      clear hrd hbw hlk hlf hL2 hG2 HO
      generalize (without (l1 ++ l2) (u : Int) i).length = nl at *
      have hcast : (((n1 + n2 : Nat)) : Int) = (n1 : Int) + (n2 : Int) := by omega
      have hwn : IntKind.i64.wrap ((nl : Int) + 1) = (nl : Int) + 1 := IntWalk.i64_in _ (by omega)
      go_wp2_with fail
      refine (HF.out _ w5.heap.size A5 c5 HR5b.out hzr).mono ?_
      rintro e w7 ⟨rfl, hb⟩
      have HR7 := Lib.hid (HR6.out.below hb)
      have HR7b := Lib.hid (HR5b.out.below (hb.mono hzr))
      have HB7 := Lib.hid (HBW.out.trans (hb.mono HBW.out.size))
      have hz7 := hb.size
      clear hb HF
      go_wp2_with fail
      refine (HL.out _ w5.heap.size A5 c5 HR7b.out (by omega)).mono ?_
      rintro e w8 ⟨rfl, hb⟩
      have HR8 := Lib.hid (HR7.out.below (hb.mono hz7))
      have HB8 := Lib.hid (HB7.out.trans (hb.mono HB7.out.size))
      have hz8 := hb.size
      clear hb HL
      go_wp2_with fail
      refine (HL2.out _ _ HR8.out (by omega)).mono ?_
      rintro e w9 ⟨rfl, hb⟩
      have HR9 := Lib.hid (HR8.out.below (hb.mono (by omega)))
      have HB9 := Lib.hid (HB8.out.trans (hb.mono HB8.out.size))
      have hz9 := hb.size
      clear hb HL2
      go_wp2_with fail
      refine (HG2.out _ _ HR9.out (by omega)).mono ?_
      rintro e w10 ⟨rfl, hb⟩
      have HB10 := Lib.hid (HB9.out.trans (hb.mono HB9.out.size))
      clear hb HG2
      go_wp2_with fail
      refine (lives_fr _).mono ?_
      rintro e w11 ⟨rfl, hb9⟩
      go_wp2_with fail
      go_ret
      exact ⟨rfl, HB10.out.trans (hb9.mono HB10.out.size)⟩
end Go.Proofs.Ytgongcbbbhdjeaa.fairMore
