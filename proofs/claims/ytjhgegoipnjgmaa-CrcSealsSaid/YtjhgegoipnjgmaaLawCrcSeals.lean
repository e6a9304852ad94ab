/-
  Proved here: CrcSeals returns true for every input: what is sealed is opened, and other bytes are refused as the document says.
-/
import Derived.Test.YtjhgegoipnjgmaaRows
import Derived.WalkKit
import Derived.ProofKit
import Derived.OpenShut
import Derived.ShutString
import Derived.ChangeOld
import Derived.Below
import Derived.Test.YtjhgegoipnjgmaaCrcAll
import Derived.Test.YtjhgegoipnjgmaaCrcLaw
import Derived.Test.YtjhgegoipnjgmaaSame
namespace Go.Proofs.Ytjhgegoipnjgmaa.crcSeals
open Go.ChangeShapes Go.WideShapes Go.ChangeAt Go.RowKit Go.Proofs.Ytjhgegoipnjgmaa Go.Proofs.Ytjhgegoipnjgmaa.Plain
open Go.ChangeMaps (open_string shut_string)
set_option linter.unusedVariables false

theorem own : ownKnob Try.prog.godebug = none := by kernel_rfl
theorem laidOut : laidOutB Try.prog = true := by kernel_rfl

set_option maxRecDepth 100000 in
set_option maxHeartbeats 4000000 in
theorem walk (a0 : Option Addr) (len0 cap0 : Nat) (z0 : List Int) (w : World) (w0 : IsRow .u8 w a0 len0 cap0 z0) :
    Calls Try.prog 5 #[.slice a0 len0 cap0] w fun e w' => e = .returned (.bool true) ∧ Below w.heap.size w w' := by
  obtain ⟨i0, hi0, hz0, hz1, hz2⟩ := info_parts info_byte
  obtain ⟨xs, n, hl, hn, hc, hx, hr, hf⟩ := few_open w0 300 (by omega)
  have HL := Lib.hid hl; have HX := Lib.hid hx; have HR := Lib.hid hr; have HF := Lib.hid hf
  clear w0 hl hx hr hf
  go_enter Try.func5, Try.ntmps5
  go_wp2_with fail
  refine (HF.out _).mono ?_
  rintro e w' ⟨rfl, rfl⟩
  go_wp2_with fail
  refine (seal_any w xs n HL.out HX.out _ a0 cap0 HR.out (Nat.le_refl _) (by omega)).mono ?_
  rintro e w1 ⟨A1, c1, rfl, ho1, hb1⟩
  rw [sealL_length, HL.out] at ho1
  have z1 := hb1.size
  have hr1 : Reads w1 w1.heap.size 1 A1 (n + 4) (BS (sealL xs)) := Reads.of_own ho1
  have hc1 : n + 4 ≤ c1 := own_cap ho1
  have hra1 : Reads w1 w1.heap.size 1 a0 n (BS xs) := (HR.out.below hb1).more z1
  have hls : (sealL xs).length = n + 4 := by rw [sealL_length, HL.out]
  have hxs := sealL_lt HX.out
  have HLS := Lib.hid hls; have HXS := Lib.hid hxs; have HR1 := Lib.hid hr1; have HRA1 := Lib.hid hra1; have HB1 := Lib.hid hb1
  clear hls hxs hr1 hra1 hb1 ho1
  go_wp2_with fail
  refine (open_all w1 (sealL xs) (n + 4) HLS.out HXS.out _ A1 c1 HR1.out hc1 (Nat.le_refl _) (by omega)).mono ?_
  rintro e w2 ⟨A2, m2, c2, rfl, ho2, hb2, hm2⟩
  obtain rfl : m2 = n := by
    rcases hm2 with ⟨_, h⟩ | ⟨h, _⟩
    · have := HLS.out; omega
    · exact absurd (whyI_seal xs) h
  rw [sealL_take HL.out] at ho2
  rw [whyI_seal]
  have z2 := hb2.size
  have hr2 : Reads w2 w2.heap.size 1 A2 m2 (BS xs) := Reads.of_own ho2
  have hrs2 : Reads w2 w2.heap.size 1 A1 (m2 + 4) (BS (sealL xs)) := (HR1.out.below hb2).more z2
  have hra2 : Reads w2 w2.heap.size 1 a0 m2 (BS xs) := (HRA1.out.below hb2).more z2
  have hb02 : Below w.heap.size w w2 := HB1.out.trans (hb2.mono z1)
  have HR2 := Lib.hid hr2; have HRS2 := Lib.hid hrs2; have HRA2 := Lib.hid hra2; have HB2 := Lib.hid hb02
  clear hr2 hrs2 hra2 hb02 hb2 ho2 hm2
  go_wp2_with fail
  refine (open_all w2 xs m2 HL.out HX.out _ a0 cap0 HRA2.out hc (Nat.le_refl _) (by omega)).mono ?_
  rintro e w3 ⟨A3, m3, c3, rfl, ho3, hb3, hm3⟩
  have z3 := hb3.size
  have hr3 : Reads w3 w3.heap.size 1 A3 m3 (BS (xs.take m3)) := Reads.of_own ho3
  have hb03 : Below w.heap.size w w3 := HB2.out.trans (hb3.mono HB2.out.size)
  have hra3 : Reads w3 w3.heap.size 1 a0 m2 (BS xs) := (HRA2.out.below hb3).more z3
  have hr23 : Reads w3 w3.heap.size 1 A2 m2 (BS xs) := (HR2.out.below hb3).more z3
  have hrs3 : Reads w3 w3.heap.size 1 A1 (m2 + 4) (BS (sealL xs)) := (HRS2.out.below hb3).more z3
  have HR3 := Lib.hid hr3; have HB3 := Lib.hid hb03; have HRA3 := Lib.hid hra3; have HR23 := Lib.hid hr23; have HRS3 := Lib.hid hrs3; have HM3 := Lib.hid hm3
  clear hr3 hb03 hra3 hr23 hrs3 hm3 hb3 ho3
  go_wp2_with fail
  refine (why_all w3 xs m2 HL.out HX.out _ a0 cap0 HRA3.out hc (Nat.le_refl _) (by omega)).mono ?_
  rintro e w4 ⟨rfl, hb4⟩
  have z4 := hb4.size
  have hb04 : Below w.heap.size w w4 := HB3.out.trans (hb4.mono HB3.out.size)
  have hr4 : Reads w4 w4.heap.size 1 A3 m3 (BS (xs.take m3)) := (HR3.out.below hb4).more z4
  have hra4 : Reads w4 w4.heap.size 1 a0 m2 (BS xs) := (HRA3.out.below hb4).more z4
  have hr24 : Reads w4 w4.heap.size 1 A2 m2 (BS xs) := (HR23.out.below hb4).more z4
  have hrs4 : Reads w4 w4.heap.size 1 A1 (m2 + 4) (BS (sealL xs)) := (HRS3.out.below hb4).more z4
  have HR4 := Lib.hid hr4; have HB4 := Lib.hid hb04; have HRA4 := Lib.hid hra4; have HR24 := Lib.hid hr24; have HRS4 := Lib.hid hrs4
  clear hr4 hb04 hra4 hr24 hrs4 hb4
  go_wp2_with fail
  refine (ref_seal w4 xs m2 HL.out HX.out _ a0 cap0 HRA4.out (Nat.le_refl _) (by omega)).mono ?_
  rintro e w5 ⟨A5, c5, rfl, ho5, hb5⟩
  rw [sealL_length, HL.out] at ho5
  have z5 := hb5.size
  have hb05 : Below w.heap.size w w5 := HB4.out.trans (hb5.mono HB4.out.size)
  have hr5 : Reads w5 w5.heap.size 1 A3 m3 (BS (xs.take m3)) := (HR4.out.below hb5).more z5
  have hra5 : Reads w5 w5.heap.size 1 a0 m2 (BS xs) := (HRA4.out.below hb5).more z5
  have hr25 : Reads w5 w5.heap.size 1 A2 m2 (BS xs) := (HR24.out.below hb5).more z5
  have hrs5 : Reads w5 w5.heap.size 1 A1 (m2 + 4) (BS (sealL xs)) := (HRS4.out.below hb5).more z5
  have hrq5 : Reads w5 w5.heap.size 1 A5 (m2 + 4) (BS (sealL xs)) := Reads.of_own ho5
  have HR5 := Lib.hid hr5; have HB5 := Lib.hid hb05; have HRA5 := Lib.hid hra5; have HR25 := Lib.hid hr25; have HRS5 := Lib.hid hrs5; have HRQ5 := Lib.hid hrq5
  clear hr5 hb05 hra5 hr25 hrs5 hrq5 hb5 ho5
  go_wp2_with fail
  refine (same_yes (sealL xs) (m2 + 4) HLS.out w5 _ _ A1 A5 c1 c5 HRS5.out HRQ5.out (by omega)).mono ?_
  rintro e w6 ⟨rfl, k6, rfl⟩
  go_wp2_with fail
  refine (same_yes xs m2 HL.out _ _ _ A2 a0 c2 cap0 (HR25.out.drewN k6) (HRA5.out.drewN k6) (by omega)).mono ?_
  rintro e w7 ⟨rfl, k7, rfl⟩
  obtain ⟨E, hE⟩ : ∃ E, E = whyI xs := ⟨_, rfl⟩
  rw [← hE] at HM3
  try rw [← hE]
  have HE := Lib.hid hE
  clear hE
  rcases HM3.out with ⟨h0, hlen⟩ | ⟨h0, hm0⟩
  · subst h0
    have hm : m2 = m3 + 4 := by have := HL.out; omega
    have i0 : (0 : Int) ≤ (m3 : Int) := by omega
    have i1 : (m3 : Int) ≤ (cap0 : Int) := by omega
    subst hm
    have htl : (xs.take m3).length = m3 := List.length_take_of_le (by have := HL.out; omega)
    have HTL := Lib.hid htl
    clear htl
    go_wp2_with fail
    refine (same_yes (xs.take m3) m3 HTL.out _ _ _ A3 a0 c3 cap0 (HR5.out.drewN (k6 + k7)) ((HRA5.out.take (by omega)).drewN (k6 + k7)) (by omega)).mono ?_
    rintro e w8 ⟨rfl, k8, rfl⟩
    go_wp2_with fail
    refine (crc_lives _).mono ?_
    rintro e w9 ⟨rfl, hb9⟩
    go_wp2_with fail
    go_ret
    exact ⟨rfl, (below_drews HB5.out (k6 + k7 + k8)).trans (hb9.mono HB5.out.size)⟩
  · subst hm0
    go_wp2_with fail
    refine (crc_lives _).mono ?_
    rintro e w9 ⟨rfl, hb9⟩
    go_wp2_with fail
    go_ret
    exact ⟨rfl, (below_drews HB5.out (k6 + k7)).trans (hb9.mono HB5.out.size)⟩

set_option maxRecDepth 100000 in
theorem lifted (os : Os) (started : os.Started) (H : Type) (enc : TypeId × Value → H) :
    ReturnsInHanded {} Try.checked os 5 .any (Rows.crcSealsSpec.pre6 enc Try.prog Try.f5 Rows.crcSealsRow.domain false) (Rows.crcSealsSpec.post enc Try.prog Try.f5 false true false false) := by
  refine returnsInHanded_of_change (C := Try.checked) own started (by kernel_rfl) Try.func5
    (ChangeSpec.witness6 (enc := enc) (C := Try.checked) false ⟨#[], #[.slice none 0 0], []⟩ 8 (by kernel_rfl) (by kernel_rfl) (by kernel_rfl) (by kernel_rfl)) ?_
  intro W base args ds gs before hval0 hW hcnd _
  have hval : ∀ (j : Nat) t v, Try.f5.params[j]? = some t → args[j]? = some v → Value.okWide Try.prog W .any base t v := hval0
  have hW' := hW
  obtain ⟨p, q, hA0, hV, rfl, hfz, hnd⟩ := hW
  have hA : DataW.TrodAll enc Try.prog W 0 (fun _ => true) true Try.f5.params.toList args.toList ds p := hA0
  rw [Try.params5] at hA hval
  obtain ⟨v0, vs0, d0, ds0, p0, q0, hargs, rfl, rfl, h0, r0⟩ := trodAll_cons hA
  obtain ⟨rfl, rfl, rfl⟩ := trodAll_nil r0
  obtain rfl : args = #[v0] := by cases args; simp_all
  obtain ⟨rfl, rfl⟩ := trodVars_none hV
  obtain ⟨a0, len0, cap0, rfl⟩ := okWide_slice Try.underlying22 (hval 0 22 v0 rfl rfl)
  have k0 := h0
  have lt0 : ∀ x ∈ p0, x.block < W.heap.size := by obtain ⟨m, hm⟩ := k0; exact DataW.trod_lt m _ _ _ hm
  obtain ⟨z0, w0⟩ : ∃ zs, IsRow .u8 W a0 len0 cap0 zs := by
    obtain ⟨fuel, hf⟩ := h0
    rcases open_ints Try.underlying22 Try.underlying5 (by kernel_rfl) hf with ⟨hcs, _⟩ | ⟨x, l, c, zs, hcs, _, hl, hm, hz, _, hcell, hwz⟩
    · simp [Value.cells] at hcs
      obtain ⟨rfl, rfl, rfl⟩ := hcs
      exact ⟨[], .inl ⟨rfl, rfl, rfl, rfl⟩⟩
    · simp [Value.cells] at hcs
      obtain ⟨rfl, rfl, rfl⟩ := hcs
      exact ⟨zs, .inr ⟨_, rfl, hl, hm, by simpa using hz, hcell, hwz⟩⟩
  clear hA0 hval0
  refine (walk a0 len0 cap0 z0 W w0).mono fun e W' ⟨he, bel⟩ => ?_
  subst he
  exact ⟨_, rfl, _, _, _, [], _, [], hW', trodAll_mk1 (shut_bool Try.underlying4 _), (trodAll_cons_mk (Below.trod laidOut (by kernel_rfl) (of_decide_eq_true (by kernel_rfl)) k0 bel lt0) trodAll_mk0), rfl, bel.frame _, fun h => by cases h⟩

theorem over : Rows.crcSealsRow.holds Try.pinned (OpenSpec.ofChange Rows.crcSealsSpec) :=
  OpenClaim.holds_of_wide 5 Try.f5 rfl rfl rfl rfl rfl rfl rfl ⟨rfl, rfl, rfl, rfl, rfl⟩ rfl rfl rfl rfl rfl (by kernel_rfl) Try.func5 (by kernel_rfl)
    (of_decide_eq_true (by kernel_rfl)) (by unfold Func.isWrapper; first | (rw [if_pos (by decide +kernel)]; kernel_rfl) | (rw [if_neg (by decide +kernel)]; exact ⟨rfl, rfl⟩))
    (fun os started H enc _ => lifted os started H enc)

theorem proved : Rows.CrcSealsSaid := over
#print axioms proved
end Go.Proofs.Ytjhgegoipnjgmaa.crcSeals
