/-
  Proved here: WireSizes returns true for every input: a number of n bytes has n, a short one a byte for each seven binary digits, a text its bytes behind how many there are.
-/
import Derived.Test.YtmmajdabifeceaaRows
import Derived.WalkKit
import Derived.ProofKit
import Derived.OpenShut
import Derived.ShutString
import Derived.Test.YtmmajdabifeceaaHelp
import Derived.Laws.Strings
namespace Go.Proofs.Ytmmajdabifeceaa.wireSizes
open Go.ChangeShapes Go.WideShapes Go.ChangeAt Go.RowKit Go.Proofs.Ytmmajdabifeceaa Go.Proofs.Ytmmajdabifeceaa.Plain
open Go.ChangeMaps (open_string shut_string)
set_option linter.unusedVariables false      -- a walk need not use every 'w<i>' (that an integer argument fits its kind)

theorem own : ownKnob Try.prog.godebug = none := by kernel_rfl

theorem u64_of (a : Int) : ∃ k : Nat, IntKind.u64.wrap a = (k : Int) ∧ k ≤ 18446744073709551615 := by
  refine ⟨(a % 18446744073709551616).toNat, ?_, by omega⟩
  show a % 18446744073709551616 = _
  omega

set_option maxHeartbeats 1000000 in
theorem walk (a0 : Int) (a1 : ByteArray) (a2 : Int) (w0 : (Lit.int .i64 a0).wf = true) (w1 : a1.size ≤ maxLen) (w2 : (Lit.int .i64 a2).wf = true) (w : World) :
    Calls Try.prog 8 #[.int .i64 a0, .string a1, .int .i64 a2] w fun e w' => e = .returned (.bool true) ∧ Below w.heap.size w w' := by
  have b0 := bounds_i64 w0
  have b2 := bounds_i64 w2
  have hsz : a1.size ≤ 9223372036854775807 := w1
  obtain ⟨k, hk, hk'⟩ := u64_of a0
  have HK := Lib.hid hk
  clear hk
  have hwide := Lib.hid (wideOf_wide a2)
  have hA0 := Lib.hid (Wr.new w w.heap.size)
  by_cases hs : 300 < a1.size
  all_goals
    go_enter Try.func8, Try.ntmps8
    go_wp2_with fail
  generalize hx : a1.extract 0 300 = s
  have hs3 : s.size ≤ 300 := by rw [← hx]; simp; omega
  clear hx
  rotate_left
  obtain ⟨s, hx⟩ : ∃ s, s = a1 := ⟨_, rfl⟩
  have hs3 : s.size ≤ 300 := by rw [hx]; omega
  rw [← hx]
  clear hx
  all_goals
    refine (wide_any a2 _ b2.1 b2.2).mono ?_
    rintro e wx ⟨rfl, rfl⟩
    go_wp2_with fail
    rw [HK.out]
    refine (fixed_any _ _ _ _ k (wideOf a2) _ (hA0.out.alloc _) hk' hwide.out (by simp) (by simp; omega)).mono ?_
    rintro e w1 ⟨rfl, vA, hA1, hf1, _⟩
    have hb1 := (hA0.out.alloc _).step (Nat.le_refl _) hf1
    have z1 := hb1.size
    simp at z1
    clear hf1
    have hB0 := Wr.new w1 w1.heap.size
    have HB0 := Lib.hid hB0
    clear hB0
    go_wp2_with fail
    refine (short_any _ _ _ _ a0 _ HB0.out b0.2 (by simp) (by simp)).mono ?_
    rintro e w2 ⟨rfl, vB, hB2, hf2, _⟩
    have hb2 := HB0.out.step (Nat.le_refl _) hf2
    have z2 := hb2.size
    simp at z2
    clear hf2
    have hA2 := hA1.below (((Below.refl _ _).alloc (Nat.le_refl _) _).trans hb2)
    have hC0 := Wr.new w2 w2.heap.size
    have HC0 := Lib.hid hC0
    clear hC0
    go_wp2_with fail
    refine (text_any _ _ _ _ s _ HC0.out (by omega) (by simp) (by simp)).mono ?_
    rintro e w3 ⟨rfl, vC, hC3, hf3, _⟩
    have hb3 := HC0.out.step (Nat.le_refl _) hf3
    have z3 := hb3.size
    simp at z3
    clear hf3
    have hA3 := hA2.below (((Below.refl _ _).alloc (Nat.le_refl _) _).trans hb3)
    have hB3 := hB2.below (((Below.refl _ _).alloc (Nat.le_refl _) _).trans hb3)
    simp only [List.nil_append] at hA3 hB3 hC3
    have hbel := (((((Below.refl w.heap.size w).alloc (Nat.le_refl _) (.cells #[.slice none 0 0] 49)).alloc (by simp) (.cells #[.int .i64 1, .int .i64 2, .int .i64 4, .int .i64 8] 3)).trans hb1).trans
      ((((Below.refl _ w1).alloc (Nat.le_refl _) _).trans hb2).mono (show w.heap.size ≤ w1.heap.size by omega))).trans ((((Below.refl _ w2).alloc (Nat.le_refl _) _).trans hb3).mono (show w.heap.size ≤ w2.heap.size by omega))
    have HBEL := Lib.hid hbel
    clear hbel hb1 hb2 hb3
    have hsd := short_digs a0.toNat
    have HSD := Lib.hid hsd
    clear hsd
    have hsl := shortL_len 1 s.size (by omega)
    by_cases h127 : 127 < s.size
    all_goals
      go_wp2_with fail
      all_goals
        go_loop [10, 11] (fun d x => ∃ D m : Nat, d = .int .i64 (D : Int) ∧ x = .int .i64 (m : Int) ∧ m ≤ 9223372036854775807 ∧ D ≤ 64 ∧ Hid (D + digs m = digs a0.toNat)) (fun _ x => (intOf x).toNat)
        case atStart =>
          refine ⟨0, a0.toNat, rfl, ?_, by omega, by omega, by show 0 + digs _ = _; omega⟩
          first
            | (rw [Int.toNat_of_nonneg (by omega)]; done)
            | (rw [show a0.toNat = 0 by omega]; rfl)
        case round =>
          obtain ⟨D, m, rfl, rfl, hm, hD, hdm⟩ := hrel
          have hd63 : digs a0.toNat ≤ 63 := digs_le 63 _ (by omega)
          by_cases hpos : 0 < m
          · have hd2 := Lib.hid (digs_pos hpos)
            go_wp2_with fail
            refine ⟨⟨D + 1, m / 2, by go_num, by go_num, by omega, ?_, ?_⟩, by simp [intOf]; omega⟩
            · have := hd2.out; have := hdm.out; omega
            · have := hd2.out; have := hdm.out; show D + 1 + digs (m / 2) = _; omega
          · have hDe : D = digs a0.toNat := by
              have := hdm.out
              rw [show m = 0 by omega, digs_zero] at this
              omega
            have HDE := Lib.hid hDe
            clear hDe hdm
            have hlC : (shortL s.size ++ SB s).length = (shortL s.size).length + s.size := by rw [List.length_append, SB_length]
            have hl12 : (s.size ≤ 127 ∧ (shortL s.size).length = 1) ∨ (127 < s.size ∧ (shortL s.size).length = 2) := by
              by_cases h : s.size < 128
              · exact .inl ⟨by omega, by rw [shortL_small h]; rfl⟩
              · exact .inr ⟨by omega, by rw [shortL_big (by omega), shortL_small (by omega)]; rfl⟩
            have HLC := Lib.hid hlC
            have HL12 := Lib.hid hl12
            clear hlC hl12 hsl
            have hAL : (fixedL k (wideOf a2)).length = wideOf a2 := fixedL_length _ _
            have HAL := Lib.hid hAL
            clear hAL
            rcases HSD.out with ⟨_, hD0, hL⟩ | ⟨hD1, hL⟩
            all_goals
              have HBL := Lib.hid hL
              clear hL
            · obtain rfl : D = 0 := by rw [HDE.out, hD0]
              clear hD0
              go_wp2_with fail
              refine (len_at _ _ _ _ _ HAL.out _ hA3).mono ?_
              rintro e w4 ⟨rfl, rfl⟩
              go_wp2_with fail
              refine (wide_any a2 _ b2.1 b2.2).mono ?_
              rintro e w4 ⟨rfl, rfl⟩
              go_wp2_with fail
              refine (len_at _ _ _ _ 1 HBL.out _ (hB3.alloc _)).mono ?_
              rintro e w4 ⟨rfl, rfl⟩
              go_wp2_with fail
              refine (len_at _ _ _ _ (s.size + (if 127 < s.size then 2 else 1)) (by
                have h1 := HLC.out
                rcases HL12.out with ⟨h2, h3⟩ | ⟨h2, h3⟩
                · rw [if_neg (by omega), h1, h3]; omega
                · rw [if_pos h2, h1, h3]; omega) _ (hC3.alloc _)).mono ?_
              rintro e w4 ⟨rfl, rfl⟩
              first
                | rw [if_pos (show 127 < s.size by omega)]
                | rw [if_neg (show ¬ 127 < s.size by omega)]
              go_wp2_with fail
              refine (lives_any _).mono ?_
              rintro e w5 ⟨rfl, hb5⟩
              go_wp2_with fail
              go_ret
              exact ⟨rfl, (HBEL.out.alloc (by omega) _).trans (hb5.mono (by simp; omega))⟩
            · rw [← HDE.out] at hD1
              have HBL2 : Hid ((shortL a0.toNat).length = (D + 6) / 7) := by rw [HDE.out]; exact HBL.out
              go_wp2_with fail
              refine (len_at _ _ _ _ _ HAL.out _ hA3).mono ?_
              rintro e w4 ⟨rfl, rfl⟩
              go_wp2_with fail
              refine (wide_any a2 _ b2.1 b2.2).mono ?_
              rintro e w4 ⟨rfl, rfl⟩
              go_wp2_with fail
              refine (len_at _ _ _ _ ((D + 6) / 7) HBL2.out _ (hB3.alloc _)).mono ?_
              rintro e w4 ⟨rfl, rfl⟩
              go_wp2_with fail
              refine (len_at _ _ _ _ (s.size + (if 127 < s.size then 2 else 1)) (by
                have h1 := HLC.out
                rcases HL12.out with ⟨h2, h3⟩ | ⟨h2, h3⟩
                · rw [if_neg (by omega), h1, h3]; omega
                · rw [if_pos h2, h1, h3]; omega) _ (hC3.alloc _)).mono ?_
              rintro e w4 ⟨rfl, rfl⟩
              first
                | rw [if_pos (show 127 < s.size by omega)]
                | rw [if_neg (show ¬ 127 < s.size by omega)]
              go_wp2_with fail
              refine (lives_any _).mono ?_
              rintro e w5 ⟨rfl, hb5⟩
              go_wp2_with fail
              go_ret
              exact ⟨rfl, (HBEL.out.alloc (by omega) _).trans (hb5.mono (by simp; omega))⟩

/-! ### THE ROW's STEP: WRITTEN OUT: LEAVE IT -/
set_option maxRecDepth 100000 in
theorem lifted (os : Os) (started : os.Started) (H : Type) (enc : TypeId × Value → H) :
    ReturnsInHanded {} Try.checked os 8 .any (Rows.wireSizesSpec.pre6 enc Try.prog Try.f8 Rows.wireSizesRow.domain false) (Rows.wireSizesSpec.post enc Try.prog Try.f8 false true false false) := by
  refine returnsInHanded_of_change (C := Try.checked) own started (by kernel_rfl) Try.func8
    (ChangeSpec.witness6 (enc := enc) (C := Try.checked) false ⟨#[], #[.int .i64 0, .string ByteArray.empty, .int .i64 0], []⟩ 8 (by kernel_rfl) (by kernel_rfl) (by kernel_rfl) (by kernel_rfl)) ?_
  intro W base args ds gs before hval0 hW hcnd _
  have hval : ∀ (j : Nat) t v, Try.f8.params[j]? = some t → args[j]? = some v → Value.okWide Try.prog W .any base t v := hval0
  have hW' := hW
  obtain ⟨p, q, hA0, hV, rfl, hfz, hnd⟩ := hW
  have hA : DataW.TrodAll enc Try.prog W 0 (fun _ => true) true Try.f8.params.toList args.toList ds p := hA0
  rw [Try.params8] at hA hval
  obtain ⟨v0, vs0, d0, ds0, p0, q0, hargs, rfl, rfl, h0, r0⟩ := trodAll_cons hA
  obtain ⟨v1, vs1, d1, ds1, p1, q1, rfl, rfl, rfl, h1, r1⟩ := trodAll_cons r0
  obtain ⟨v2, vs2, d2, ds2, p2, q2, rfl, rfl, rfl, h2, r2⟩ := trodAll_cons r1
  obtain ⟨rfl, rfl, rfl⟩ := trodAll_nil r2
  obtain rfl : args = #[v0, v1, v2] := by cases args; simp_all
  obtain ⟨rfl, rfl⟩ := trodVars_none hV
  obtain ⟨a0, rfl, rfl, rfl, w0⟩ := open_int Try.underlying3 (hval 0 3 v0 rfl rfl) h0
  obtain ⟨a1, rfl, rfl, rfl, w1⟩ := open_string Try.underlying9 (hval 1 9 v1 rfl rfl) h1
  obtain ⟨a2, rfl, rfl, rfl, w2⟩ := open_int Try.underlying3 (hval 2 3 v2 rfl rfl) h2
  clear hA0 hval0
  simp only [List.append_nil] at hW'
  refine (walk a0 a1 a2 w0 w1 w2 W).mono fun e W' ⟨he, hb⟩ => ?_
  subst he
  exact ⟨_, rfl, post_of_below (pa := []) (pv := []) hW' (fun _ _ _ => (trodAll_cons_mk (shut_bool Try.underlying4 _) trodAll_mk0)) (fun sp _ => (trodAll_cons_mk (shut_int Try.underlying3 w0) (trodAll_cons_mk (shut_string Try.underlying9 w1) (trodAll_cons_mk (shut_int Try.underlying3 w2) trodAll_mk0)))) (fun _ _ => rfl) rfl
    hb (ok_one (by kernel_rfl) rfl (okWide_bool_mk Try.underlying4 _))⟩

theorem over : Rows.wireSizesRow.holds Try.pinned (OpenSpec.ofChange Rows.wireSizesSpec) :=
  OpenClaim.holds_of_wide 8 Try.f8 rfl rfl rfl rfl rfl rfl rfl ⟨rfl, rfl, rfl, rfl, rfl⟩ rfl rfl rfl rfl rfl (by kernel_rfl) Try.func8 (by kernel_rfl)
    (of_decide_eq_true (by kernel_rfl)) (by unfold Func.isWrapper; first | (rw [if_pos (by decide +kernel)]; kernel_rfl) | (rw [if_neg (by decide +kernel)]; exact ⟨rfl, rfl⟩))
    (fun os started H enc _ => lifted os started H enc)

/-- ████ THE STATEMENT ████ -/
theorem proved : Rows.WireSizesSaid :=
  over
#print axioms proved
end Go.Proofs.Ytmmajdabifeceaa.wireSizes
