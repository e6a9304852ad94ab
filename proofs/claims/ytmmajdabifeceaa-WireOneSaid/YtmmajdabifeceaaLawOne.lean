/-
  Proved here: WireOne returns true for every input: a short number that is read of any bytes is written by just those bytes.
-/
import Derived.Test.YtmmajdabifeceaaRows
import Derived.WalkKit
import Derived.ProofKit
import Derived.OpenShut
import Derived.ShutString
import Derived.ChangeOld
import Derived.Below
import Derived.Test.YtmmajdabifeceaaLaw
namespace Go.Proofs.Ytmmajdabifeceaa.wireOne
open Go.ChangeShapes Go.WideShapes Go.ChangeAt Go.RowKit Go.Proofs.Ytmmajdabifeceaa Go.Proofs.Ytmmajdabifeceaa.Plain
open Go.ChangeMaps (open_string shut_string)
set_option linter.unusedVariables false

theorem own : ownKnob Try.prog.godebug = none := by kernel_rfl
theorem laidOut : laidOutB Try.prog = true := by kernel_rfl

set_option maxHeartbeats 1000000 in
theorem walk (a0 : Option Addr) (len0 cap0 : Nat) (z0 : List Int) (w : World) (w0 : IsRow .u8 w a0 len0 cap0 z0) :
    Calls Try.prog 6 #[.slice a0 len0 cap0] w fun e w' => e = .returned (.bool true) ∧ Below w.heap.size w w' := by
  obtain ⟨xs, hl, hx, hr, hc, hn⟩ := row_reads w0
  clear w0
  have hr12 := hr.take (m := min len0 12) (by omega)
  obtain ⟨n, hnn⟩ : ∃ n, n = min len0 12 := ⟨_, rfl⟩
  have hn12 : n ≤ 12 := by omega
  have hnc : n ≤ cap0 := by omega
  have hl12 : (xs.take (min len0 12)).length = n := by simp; omega
  have hx12 : ∀ x ∈ xs.take (min len0 12), x < 256 := fun x h => hx x (List.mem_of_mem_take h)
  have HF := Lib.hid (few_any a0 len0 cap0 12 w hc hn (by omega))
  rw [← hnn] at HF hr12 hl12 hx12
  generalize xs.take n = ys at hr12 hl12 hx12
  clear hr hl hx hc hn hnn xs
  have HX := Lib.hid hx12
  have HR := Lib.hid hr12
  have HL := Lib.hid hl12
  clear hx12 hr12 hl12
  have hlen : ys.length ≤ 140737488355328 := by rw [HL.out]; omega
  have HLEN := Lib.hid hlen
  clear hlen
  by_cases hE : (rs ys).2.2 = 0
  · obtain ⟨h1, h2, h3, h4⟩ := rs_ok HX.out hE
    obtain ⟨V, hV⟩ : ∃ V, V = (rs ys).1 := ⟨_, rfl⟩
    obtain ⟨K, hK⟩ : ∃ K, K = (rs ys).2.1 := ⟨_, rfl⟩
    have hrs : rs ys = (V, K, 0) := by rw [hV, hK, ← hE]
    rw [← hK] at h1 h2 h3
    rw [← hV] at h3 h4
    rw [HL.out] at h2
    have HRS := Lib.hid hrs
    have H3 := Lib.hid h3
    clear hrs h3 hV hK hE
    go_enter Try.func6, Try.ntmps6
    go_wp2_with fail
    refine HF.out.mono ?_
    rintro e w' ⟨rfl, rfl⟩
    go_wp2_with fail
    refine (newReader_any ys n HL.out w _ a0 cap0 HR.out (by omega)).mono ?_
    rintro e w1 ⟨v, g, rfl, hR1, hg, hb1⟩
    have z1 := hb1.size
    have HB1 := Lib.hid hb1
    clear hb1
    go_wp2_with fail
    refine (rd_short_yes _ _ _ ys 0 V K w1 hR1 HX.out HLEN.out (by rw [List.drop_zero]; exact HRS.out) (by have := HL.out; omega)).mono ?_
    rintro e w2 ⟨rfl, hR2, hf2⟩
    have z2 := hf2.size
    rw [Nat.zero_add] at hR2
    go_wp2_with fail
    refine (rd_err _ _ _ _ _ _ _ hR2).mono ?_
    rintro e w3 ⟨rfl, rfl⟩
    go_wp2_with fail
    have hW3 := Wr.new w2 w2.heap.size
    have HW3 := Lib.hid hW3
    clear hW3
    refine (short_any _ _ _ _ (V : Int) _ HW3.out (by omega) (by simp) (by simp)).mono ?_
    rintro e w4 ⟨rfl, v4, hW4, hf4, _⟩
    have hb4 := HW3.out.step (Nat.le_refl _) hf4
    have z4 := hb4.size
    simp at z4
    clear hf4
    rw [List.nil_append, Int.toNat_natCast, H3.out] at hW4
    have hb24 : Below w2.heap.size w2 w4 := ((Below.refl _ _).alloc (Nat.le_refl _) _).trans hb4
    have hR4 := hR2.below hb24
    have hKl : (ys.take K).length = K := by rw [List.length_take]; have := HL.out; omega
    have HKL := Lib.hid hKl
    clear hKl
    go_wp2_with fail
    refine (bytes_any _ _ _ _ _ hW4 (by rw [HKL.out]; omega)).mono ?_
    rintro e w5 ⟨v5, rfl, hown5, hb5⟩
    rw [HKL.out] at hown5
    obtain ⟨A5, c5, rfl, hr5⟩ := reads_own hown5
    have z5 := hb5.size
    have hR5 := hR4.below hb5
    clear hown5
    go_wp2_with fail
    refine (rd_at _ _ _ _ _ _ _ hR5).mono ?_
    rintro e w6 ⟨rfl, rfl⟩
    go_wp2_with fail
    have hb12 : Below w.heap.size w1 w2 := hf2.below z1 (fun i h => by subst h; exact hg)
    have hb05 := ((HB1.out.trans hb12).trans (hb24.mono (by omega))).trans (hb5.mono (show w.heap.size ≤ w4.heap.size by omega))
    have hra := (HR.out.below hb05).take h2
    refine (same_yes (ys.take K) K HKL.out w5 _ _ A5 a0 c5 cap0 hr5 hra (by omega)).mono ?_
    rintro e w6 ⟨rfl, k6, rfl⟩
    have HB05 := Lib.hid hb05
    clear hb05 hb12 hb24 hb4 hb5 hra hr5
    go_wp2_with fail
    refine (lives_any _).mono ?_
    rintro e w7 ⟨rfl, hb7⟩
    go_wp2_with fail
    go_ret
    exact ⟨rfl, (below_drews HB05.out k6).trans (hb7.mono (by simp; omega))⟩
  · obtain ⟨h1, h2, h3⟩ := rs_err hE
    obtain ⟨E, hEE⟩ : ∃ E, E = (rs ys).2.2 := ⟨_, rfl⟩
    have hrs : rs ys = (0, 0, E) := by rw [hEE, ← h1]; exact Prod.ext rfl (Prod.ext (h2.trans h1.symm) rfl)
    rw [← hEE] at h3 hE
    have HRS := Lib.hid hrs
    clear hrs h1 h2 hEE
    rcases h3 with rfl | rfl
    all_goals
      go_enter Try.func6, Try.ntmps6
      go_wp2_with fail
      refine HF.out.mono ?_
      rintro e w' ⟨rfl, rfl⟩
      go_wp2_with fail
      refine (newReader_any ys n HL.out w _ a0 cap0 HR.out (by omega)).mono ?_
      rintro e w1 ⟨v, g, rfl, hR1, hg, hb1⟩
      have z1 := hb1.size
      have HB1 := Lib.hid hb1
      clear hb1
      go_wp2_with fail
      refine (rd_short_no _ _ _ ys 0 _ w1 hR1 HX.out HLEN.out (by rw [List.drop_zero]; exact HRS.out) hE).mono ?_
      rintro e w2 ⟨rfl, hR2, hf2⟩
      have z2 := hf2.size
      go_wp2_with fail
      refine (rd_err _ _ _ _ _ _ _ hR2).mono ?_
      rintro e w3 ⟨rfl, rfl⟩
      go_wp2_with fail
      refine (rd_at _ _ _ _ _ _ _ hR2).mono ?_
      rintro e w3 ⟨rfl, rfl⟩
      go_wp2_with fail
      refine (rd_err _ _ _ _ _ _ _ hR2).mono ?_
      rintro e w3 ⟨rfl, rfl⟩
      go_wp2_with fail
      first
        | (go_at_call 17
           refine (rd_err _ _ _ _ _ _ _ hR2).mono ?_
           rintro e w3 ⟨rfl, rfl⟩
           go_wp2_with fail)
        | skip
      refine (lives_any _).mono ?_
      rintro e w7 ⟨rfl, hb7⟩
      go_wp2_with fail
      go_ret
      have hb12 : Below w.heap.size w1 w2 := hf2.below z1 (fun i h => by subst h; exact hg)
      exact ⟨rfl, (HB1.out.trans hb12).trans (hb7.mono (by omega))⟩

/-! ### THE ROW's STEP: WRITTEN OUT: LEAVE IT -/
set_option maxRecDepth 100000 in
theorem lifted (os : Os) (started : os.Started) (H : Type) (enc : TypeId × Value → H) :
    ReturnsInHanded {} Try.checked os 6 .any (Rows.wireOneSpec.pre6 enc Try.prog Try.f6 Rows.wireOneRow.domain false) (Rows.wireOneSpec.post enc Try.prog Try.f6 false true false false) := by
  refine returnsInHanded_of_change (C := Try.checked) own started (by kernel_rfl) Try.func6
    (ChangeSpec.witness6 (enc := enc) (C := Try.checked) false ⟨#[], #[.slice none 0 0], []⟩ 8 (by kernel_rfl) (by kernel_rfl) (by kernel_rfl) (by kernel_rfl)) ?_
  intro W base args ds gs before hval0 hW hcnd _
  have hval : ∀ (j : Nat) t v, Try.f6.params[j]? = some t → args[j]? = some v → Value.okWide Try.prog W .any base t v := hval0
  have hW' := hW
  obtain ⟨p, q, hA0, hV, rfl, hfz, hnd⟩ := hW
  have hA : DataW.TrodAll enc Try.prog W 0 (fun _ => true) true Try.f6.params.toList args.toList ds p := hA0
  rw [Try.params6] at hA hval
  obtain ⟨v0, vs0, d0, ds0, p0, q0, hargs, rfl, rfl, h0, r0⟩ := trodAll_cons hA
  obtain ⟨rfl, rfl, rfl⟩ := trodAll_nil r0
  obtain rfl : args = #[v0] := by cases args; simp_all
  obtain ⟨rfl, rfl⟩ := trodVars_none hV
  obtain ⟨a0, len0, cap0, rfl⟩ := okWide_slice Try.underlying23 (hval 0 23 v0 rfl rfl)
  have k0 := h0
  have lt0 : ∀ x ∈ p0, x.block < W.heap.size := by obtain ⟨m, hm⟩ := k0; exact DataW.trod_lt m _ _ _ hm
  obtain ⟨z0, w0⟩ : ∃ zs, IsRow .u8 W a0 len0 cap0 zs := by
    obtain ⟨fuel, hf⟩ := h0
    rcases open_ints Try.underlying23 Try.underlying5 (by kernel_rfl) hf with ⟨hcs, _⟩ | ⟨x, l, c, zs, hcs, _, hl, hm, hz, _, hcell, hwz⟩
    · simp [Value.cells] at hcs
      obtain ⟨rfl, rfl, rfl⟩ := hcs
      exact ⟨[], .inl ⟨rfl, rfl, rfl, rfl⟩⟩
    · simp [Value.cells] at hcs
      obtain ⟨rfl, rfl, rfl⟩ := hcs
      exact ⟨zs, .inr ⟨_, rfl, hl, hm, by simpa using hz, hcell, hwz⟩⟩
  clear hA0 hval0
  refine (walk a0 len0 cap0 z0 W w0).mono fun e W' ⟨he, bel⟩ => ?_
  subst he
  exact ⟨_, rfl, _, _, _, [], _, [], hW', trodAll_mk1 (shut_bool Try.underlying4 _), (trodAll_cons_mk (Below.trod laidOut (by kernel_rfl) (of_decide_eq_true (by kernel_rfl)) k0 bel lt0) trodAll_mk0), rfl, bel.frame _, fun h => by cases h⟩

theorem over : Rows.wireOneRow.holds Try.pinned (OpenSpec.ofChange Rows.wireOneSpec) :=
  OpenClaim.holds_of_wide 6 Try.f6 rfl rfl rfl rfl rfl rfl rfl ⟨rfl, rfl, rfl, rfl, rfl⟩ rfl rfl rfl rfl rfl (by kernel_rfl) Try.func6 (by kernel_rfl)
    (of_decide_eq_true (by kernel_rfl)) (by unfold Func.isWrapper; first | (rw [if_pos (by decide +kernel)]; kernel_rfl) | (rw [if_neg (by decide +kernel)]; exact ⟨rfl, rfl⟩))
    (fun os started H enc _ => lifted os started H enc)

/-- ████ THE STATEMENT ████ -/
theorem proved : Rows.WireOneSaid := over
#print axioms proved
end Go.Proofs.Ytmmajdabifeceaa.wireOne
