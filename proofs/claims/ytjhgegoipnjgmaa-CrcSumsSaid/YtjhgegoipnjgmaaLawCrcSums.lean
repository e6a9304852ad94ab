/-
  Proved here: CrcSums returns true for every input: the sum of bytes, in whatever pieces they come, is the document's.
-/
import Derived.Test.YtjhgegoipnjgmaaRows
import Derived.WalkKit
import Derived.ProofKit
import Derived.OpenShut
import Derived.ShutString
import Derived.ChangeOld
import Derived.Below
import Derived.Test.YtjhgegoipnjgmaaCrcOpen
import Derived.Test.YtjhgegoipnjgmaaSame
import Derived.Test.YtjhgegoipnjgmaaCrcLaw
namespace Go.Proofs.Ytjhgegoipnjgmaa.crcSums
open Go.ChangeShapes Go.WideShapes Go.ChangeAt Go.RowKit Go.Proofs.Ytjhgegoipnjgmaa Go.Proofs.Ytjhgegoipnjgmaa.Plain
open Go.ChangeMaps (open_string shut_string)
set_option linter.unusedVariables false

theorem own : ownKnob Try.prog.godebug = none := by kernel_rfl
theorem laidOut : laidOutB Try.prog = true := by kernel_rfl

set_option maxRecDepth 100000 in
set_option maxHeartbeats 2000000 in
theorem walk (a0 : Option Addr) (len0 cap0 : Nat) (z0 : List Int) (a1 : Option Addr) (len1 cap1 : Nat) (z1 : List Int) (w : World) (w0 : IsRow .u8 w a0 len0 cap0 z0) (w1 : IsRow .u8 w a1 len1 cap1 z1) :
    Calls Try.prog 3 #[.slice a0 len0 cap0, .slice a1 len1 cap1] w fun e w' => e = .returned (.bool true) ∧ Below w.heap.size w w' := by
  obtain ⟨i0, hi0, hz0, hz1, hz2⟩ := info_parts info_byte
  obtain ⟨xa, na, hla, hna, hca, hxa, hra, hfa⟩ := few_open w0 300 (by omega)
  obtain ⟨xb, nb, hlb, hnb, hcb, hxb, hrb, hfb⟩ := few_open w1 300 (by omega)
  have hlab : (xa ++ xb).length = na + nb := by rw [List.length_append, hla, hlb]
  have hxab : ∀ x ∈ xa ++ xb, x < 256 := fun x hm => by
    rcases List.mem_append.1 hm with hm | hm
    · exact hxa x hm
    · exact hxb x hm
  have HLA := Lib.hid hla; have HLB := Lib.hid hlb; have HXA := Lib.hid hxa; have HXB := Lib.hid hxb
  have HRA := Lib.hid hra; have HRB := Lib.hid hrb; have HFA := Lib.hid hfa; have HFB := Lib.hid hfb
  have HLAB := Lib.hid hlab; have HXAB := Lib.hid hxab
  clear w0 w1 hla hlb hxa hxb hra hrb hfa hfb hlab hxab
  go_enter Try.func3, Try.ntmps3
  go_wp2_with fail
  refine (HFA.out _).mono ?_
  rintro e w' ⟨rfl, rfl⟩
  go_wp2_with fail
  refine (HFB.out _).mono ?_
  rintro e w' ⟨rfl, rfl⟩
  go_wp2_with fail
  refine (new_any w).mono ?_
  rintro e w1 ⟨g, rfl, hs, hg, hb⟩
  have z1 := hb.size
  have hra1 := HRA.out.keep (w' := w1) fun p hp => hb.cell hp
  have HS := Lib.hid hs; have HB := Lib.hid hb; have HRA1 := Lib.hid hra1
  clear hs hb hra1
  go_wp2_with fail
  refine (add_any w1 g _ _ HS.out (by omega) xa na HLA.out HXA.out _ a0 cap0 HRA1.out (by omega)).mono ?_
  rintro e w2 ⟨rfl, hs2, hf2⟩
  have hb2 : Below w.heap.size w w2 := HB.out.trans (hf2.below HB.out.size (fun i hi => by omega))
  have z2 := hb2.size
  have HS2 := Lib.hid hs2; have HB2 := Lib.hid hb2
  have hrb2 := HRB.out.keep (w' := w2) fun p hp => hb2.cell hp
  have HRB2 := Lib.hid hrb2
  clear hs2 hf2 hb2 hrb2
  have la : regL 4294967295 xa < 4294967296 := regL_lt (by omega) xa HXA.out
  have lab : regL (regL 4294967295 xa) xb < 4294967296 := regL_lt la xb HXB.out
  have LA := Lib.hid la; have LAB := Lib.hid lab
  clear la lab
  go_wp2_with fail
  refine (now_any w2 g _ _ LA.out HS2.out).mono ?_
  rintro e w' ⟨he, rfl⟩
  obtain rfl : e = .returned (.int .u32 ((crcL xa : Nat) : Int)) := he
  go_wp2_with fail
  refine (add_any w2 g _ _ HS2.out LA.out xb nb HLB.out HXB.out _ a1 cap1 HRB2.out (by omega)).mono ?_
  rintro e w3 ⟨rfl, hs3, hf3⟩
  have hb3 : Below w.heap.size w w3 := HB2.out.trans (hf3.below HB2.out.size (fun i hi => by omega))
  have z3 := hb3.size
  have HS3 := Lib.hid hs3; have HB3 := Lib.hid hb3
  have hra3 := HRA.out.keep (w' := w3) fun p hp => hb3.cell hp
  have HRA3 := Lib.hid hra3
  have g3 : g < w3.heap.size := hs3.lt
  clear hs3 hf3 hb3 hra3
  go_wp2_with (first
    | (at_builtin
       refine wpList_append_any _ rfl (.tmp 24) (.tmp 25) _ rfl w3.heap.size 5 i0 _ 1 1 Try.underlying22 hi0 hz0 hz1 hz2 rfl (by decide) (.slice none 0 0) 0 [] rfl
         (World.ownsRow_nil _ _ _ _) w.heap.size a0 na cap0 (BS xa) rfl HRA3.out (BS_one _) (by unfold maxLen; omega) (by omega) (Nat.le_refl _) ?_
       intro v4 w4 hown4 hg4 hat4
       have hbe4 : Below w3.heap.size w3 w4 := (Below.refl _ w3).grown hg4 (Nat.le_refl _) (by simp [Value.ownBlock])
       have z4 := hbe4.size
       have hb4 : Below w.heap.size w w4 := HB3.out.trans (hbe4.mono z3)
       have hrb4 := HRB.out.keep (w' := w4) fun p hp => hb4.cell hp
       have HO4 := Lib.hid hown4; have HBE4 := Lib.hid hbe4; have HB4 := Lib.hid hb4; have HRB4 := Lib.hid hrb4
       clear hown4 hg4 hat4 hbe4 hb4 hrb4)
    | (at_builtin
       refine wpList_append_any _ rfl (.tmp 27) (.tmp 28) _ rfl w3.heap.size 5 i0 _ 1 1 Try.underlying22 hi0 hz0 hz1 hz2 rfl (by decide) v4 (0 + na) ([] ++ BS xa) rfl
         HO4.out w.heap.size a1 nb cap1 (BS xb) rfl HRB4.out (BS_one _) (by unfold maxLen; omega) (by omega) z4 ?_
       intro v5 w5 hown5 hg5 hat5
       obtain ⟨A5, c5, rfl, hr5⟩ := reads_own hown5
       have hbe5 : Below w3.heap.size w3 w5 := HBE4.out.grown hg5 z4 (fun k hk => (HO4.out.lt k hk).1)
       have z5 := hbe5.size
       have HR5 := Lib.hid hr5; have HBE5 := Lib.hid hbe5
       clear hown5 hg5 hat5 hbe5 hr5))
  have hr5 : Reads w5 w5.heap.size 1 A5 (na + nb) (BS (xa ++ xb)) := by
    have := HR5.out
    rwa [Nat.zero_add, List.nil_append, BS_append] at this
  have hb5 : Below w.heap.size w w5 := HB3.out.trans (HBE5.out.mono z3)
  have hs5 := HS3.out.below HBE5.out
  have hra5 := HRA.out.keep (w' := w5) fun p hp => hb5.cell hp
  have hwant : crcL (xa ++ xb) = cFull - regL (regL 4294967295 xa) xb := by rw [crcL, regL_append]; rfl
  rw [← regL_append] at hs5
  have HR := Lib.hid hr5; have HBB := Lib.hid hb5; have HS5 := Lib.hid hs5; have HRA5 := Lib.hid hra5
  clear hr5 hb5 hs5 hra5 HR5
  go_wp2_with fail
  refine (ref_of w5 (xa ++ xb) (na + nb) HLAB.out HXAB.out _ A5 c5 HR.out (by omega)).mono ?_
  rintro e w' ⟨rfl, rfl⟩
  have lw := crcL_lt (xa ++ xb)
  obtain ⟨W, hW⟩ : ∃ W, W = crcL (xa ++ xb) := ⟨_, rfl⟩
  rw [← hW] at lw
  have hnow : regL 4294967295 (xa ++ xb) < 4294967296 := regL_lt (by omega) _ HXAB.out
  have HW := Lib.hid hW; have HNOW := Lib.hid hnow
  obtain ⟨W1, hW1⟩ : ∃ W1, W1 = (W + 1) % 4294967296 := ⟨_, rfl⟩
  have hwp : ((W : Int) + 1) % 4294967296 = ((W1 : Nat) : Int) := by omega
  have hwn : decide (crcL (xa ++ xb) = W1) = false := by
    rw [← hW]
    have : ¬ W = W1 := by omega
    simpa using this
  have hwy : decide (crcL (xa ++ xb) = W) = true := by rw [← hW]; simp
  have HWN := Lib.hid hwn; have HWY := Lib.hid hwy; have HWP := Lib.hid hwp
  clear hW hW1 hwant hwn hwy hwp hnow
  rw [← HW.out]
  go_wp2_with fail
  refine (ref_of w5 xa na HLA.out HXA.out _ a0 cap0 HRA5.out (by omega)).mono ?_
  rintro e w' ⟨rfl, rfl⟩
  go_wp2_with fail
  refine (now_any w5 g _ _ HNOW.out HS5.out).mono ?_
  rintro e w' ⟨he, rfl⟩
  obtain rfl : e = .returned (.int .u32 ((W : Nat) : Int)) := by rw [he, HW.out]; rfl
  clear he
  go_wp2_with fail
  refine (sumlen_any w5 g _ _ HS5.out).mono ?_
  rintro e w' ⟨rfl, rfl⟩
  go_wp2_with fail
  refine (of_any w5 (xa ++ xb) (na + nb) HLAB.out HXAB.out _ A5 c5 HR.out (Nat.le_refl _) (by omega)).mono ?_
  rintro e w6 ⟨rfl, hb6⟩
  rw [← HW.out]
  have hb56 : Below w.heap.size w w6 := HBB.out.trans (hb6.mono HBB.out.size)
  have hr6 := HR.out.keep (w' := w6) fun p hp => hb6.cell hp
  have z6 := hb6.size
  have HB6 := Lib.hid hb56; have HR6 := Lib.hid hr6
  clear hb6 hb56 hr6
  go_wp2_with fail
  refine (fits_any w6 (xa ++ xb) (na + nb) HLAB.out HXAB.out _ A5 c5 HR6.out z6 (by omega) W true HWY.out).mono ?_
  rintro e w7 ⟨rfl, hb7⟩
  have hb57 : Below w.heap.size w w7 := HB6.out.trans (hb7.mono HB6.out.size)
  have hr7 := HR6.out.keep (w' := w7) fun p hp => hb7.cell (by omega)
  have z7 := hb7.size
  have HB7 := Lib.hid hb57; have HR7 := Lib.hid hr7
  have hwp := HWP.out
  clear hb7 hb57 hr7
  go_wp2_with fail
  refine (fits_any w7 (xa ++ xb) (na + nb) HLAB.out HXAB.out _ A5 c5 HR7.out (by omega) (by omega) W1 false HWN.out).mono ?_
  rintro e w8 ⟨rfl, hb8⟩
  have hb58 : Below w.heap.size w w8 := HB7.out.trans (hb8.mono HB7.out.size)
  have HB8 := Lib.hid hb58
  clear hb8 hb58 hwp
  go_wp2_with fail
  refine (crc_lives w8).mono ?_
  rintro e w9 ⟨rfl, hb9⟩
  go_wp2_with fail
  go_ret
  exact ⟨rfl, HB8.out.trans (hb9.mono HB8.out.size)⟩

set_option maxRecDepth 100000 in
theorem lifted (os : Os) (started : os.Started) (H : Type) (enc : TypeId × Value → H) :
    ReturnsInHanded {} Try.checked os 3 .any (Rows.crcSumsSpec.pre6 enc Try.prog Try.f3 Rows.crcSumsRow.domain false) (Rows.crcSumsSpec.post enc Try.prog Try.f3 false true false false) := by
  refine returnsInHanded_of_change (C := Try.checked) own started (by kernel_rfl) Try.func3
    (ChangeSpec.witness6 (enc := enc) (C := Try.checked) false ⟨#[], #[.slice none 0 0, .slice none 0 0], []⟩ 8 (by kernel_rfl) (by kernel_rfl) (by kernel_rfl) (by kernel_rfl)) ?_
  intro W base args ds gs before hval0 hW hcnd _
  have hval : ∀ (j : Nat) t v, Try.f3.params[j]? = some t → args[j]? = some v → Value.okWide Try.prog W .any base t v := hval0
  have hW' := hW
  obtain ⟨p, q, hA0, hV, rfl, hfz, hnd⟩ := hW
  have hA : DataW.TrodAll enc Try.prog W 0 (fun _ => true) true Try.f3.params.toList args.toList ds p := hA0
  rw [Try.params3] at hA hval
  obtain ⟨v0, vs0, d0, ds0, p0, q0, hargs, rfl, rfl, h0, r0⟩ := trodAll_cons hA
  obtain ⟨v1, vs1, d1, ds1, p1, q1, rfl, rfl, rfl, h1, r1⟩ := trodAll_cons r0
  obtain ⟨rfl, rfl, rfl⟩ := trodAll_nil r1
  obtain rfl : args = #[v0, v1] := by cases args; simp_all
  obtain ⟨rfl, rfl⟩ := trodVars_none hV
  obtain ⟨a0, len0, cap0, rfl⟩ := okWide_slice Try.underlying22 (hval 0 22 v0 rfl rfl)
  have k0 := h0
  have lt0 : ∀ x ∈ p0, x.block < W.heap.size := by obtain ⟨m, hm⟩ := k0; exact DataW.trod_lt m _ _ _ hm
  obtain ⟨z0, w0⟩ : ∃ zs, IsRow .u8 W a0 len0 cap0 zs := by
    obtain ⟨fuel, hf⟩ := h0
    rcases open_ints Try.underlying22 Try.underlying5 (by kernel_rfl) hf with ⟨hcs, _⟩ | ⟨x, l, c, zs, hcs, _, hl, hm, hz, _, hcell, hwz⟩
    · simp [Value.cells] at hcs
      obtain ⟨rfl, rfl, rfl⟩ := hcs
      exact ⟨[], .inl ⟨rfl, rfl, rfl, rfl⟩⟩
    · simp [Value.cells] at hcs
      obtain ⟨rfl, rfl, rfl⟩ := hcs
      exact ⟨zs, .inr ⟨_, rfl, hl, hm, by simpa using hz, hcell, hwz⟩⟩
  obtain ⟨a1, len1, cap1, rfl⟩ := okWide_slice Try.underlying22 (hval 1 22 v1 rfl rfl)
  have k1 := h1
  have lt1 : ∀ x ∈ p1, x.block < W.heap.size := by obtain ⟨m, hm⟩ := k1; exact DataW.trod_lt m _ _ _ hm
  obtain ⟨z1, w1⟩ : ∃ zs, IsRow .u8 W a1 len1 cap1 zs := by
    obtain ⟨fuel, hf⟩ := h1
    rcases open_ints Try.underlying22 Try.underlying5 (by kernel_rfl) hf with ⟨hcs, _⟩ | ⟨x, l, c, zs, hcs, _, hl, hm, hz, _, hcell, hwz⟩
    · simp [Value.cells] at hcs
      obtain ⟨rfl, rfl, rfl⟩ := hcs
      exact ⟨[], .inl ⟨rfl, rfl, rfl, rfl⟩⟩
    · simp [Value.cells] at hcs
      obtain ⟨rfl, rfl, rfl⟩ := hcs
      exact ⟨zs, .inr ⟨_, rfl, hl, hm, by simpa using hz, hcell, hwz⟩⟩
  clear hA0 hval0
  refine (walk a0 len0 cap0 z0 a1 len1 cap1 z1 W w0 w1).mono fun e W' ⟨he, bel⟩ => ?_
  subst he
  exact ⟨_, rfl, _, _, _, [], _, [], hW', trodAll_mk1 (shut_bool Try.underlying4 _), (trodAll_cons_mk (Below.trod laidOut (by kernel_rfl) (of_decide_eq_true (by kernel_rfl)) k0 bel lt0) (trodAll_cons_mk (Below.trod laidOut (by kernel_rfl) (of_decide_eq_true (by kernel_rfl)) k1 bel lt1) trodAll_mk0)), rfl, bel.frame _, fun h => by cases h⟩

theorem over : Rows.crcSumsRow.holds Try.pinned (OpenSpec.ofChange Rows.crcSumsSpec) :=
  OpenClaim.holds_of_wide 3 Try.f3 rfl rfl rfl rfl rfl rfl rfl ⟨rfl, rfl, rfl, rfl, rfl⟩ rfl rfl rfl rfl rfl (by kernel_rfl) Try.func3 (by kernel_rfl)
    (of_decide_eq_true (by kernel_rfl)) (by unfold Func.isWrapper; first | (rw [if_pos (by decide +kernel)]; kernel_rfl) | (rw [if_neg (by decide +kernel)]; exact ⟨rfl, rfl⟩))
    (fun os started H enc _ => lifted os started H enc)

theorem proved : Rows.CrcSumsSaid := over
#print axioms proved
end Go.Proofs.Ytjhgegoipnjgmaa.crcSums
