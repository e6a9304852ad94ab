/-
  Proved here: WireClones returns true for every input: what a Writer told, and what a Reader was handed and told, is memory of its own.
-/
import Derived.Test.YtmmajdabifeceaaRows
import Derived.WalkKit
import Derived.ProofKit
import Derived.OpenShut
import Derived.ShutString
import Derived.ChangeOld
import Derived.Below
import Derived.Test.YtmmajdabifeceaaRdErr
namespace Go.Proofs.Ytmmajdabifeceaa.wireClones
open Go.ChangeShapes Go.WideShapes Go.ChangeAt Go.RowKit Go.Proofs.Ytmmajdabifeceaa Go.Proofs.Ytmmajdabifeceaa.Plain
open Go.ChangeMaps (open_string shut_string)
set_option linter.unusedVariables false

theorem own : ownKnob Try.prog.godebug = none := by kernel_rfl
theorem laidOut : laidOutB Try.prog = true := by kernel_rfl

/-- Where a loop stands that fills a slice of the call's own: k cells are overwritten. -/
def FillRel (w2 : World) (base : Nat) (A : Option Addr) (n c : Nat) (s : Value) (wr : World) : Prop :=
  ∃ (k : Nat) (zs : List Value), s = .int .i64 (k : Int) ∧ k ≤ n ∧ wr.ownsRow base 5 1 (.slice A n c) n zs ∧ Fr (fun i => (Value.slice A n c).ownBlock = some i) w2 wr

theorem fill_step {w2 wr : World} {base n c k : Nat} {A : Option Addr} {zs : List Value} (hk : k < n) (h : wr.ownsRow base 5 1 (.slice A n c) n zs) (hf : Fr (fun i => (Value.slice A n c).ownBlock = some i) w2 wr) :
    ∃ g, A = some ⟨g, 0, none⟩ ∧ (∃ u, wr.cell? ⟨g, k, none⟩ = some u) ∧ wr.frozen? ⟨g, k, none⟩ = false ∧
      ∀ x, ∃ zs', (wr.setCell ⟨g, k, none⟩ x).ownsRow base 5 1 (.slice A n c) n zs' ∧ Fr (fun i => (Value.slice A n c).ownBlock = some i) w2 (wr.setCell ⟨g, k, none⟩ x) := by
  obtain ⟨g, cap, hv, _, _⟩ := h.form (by omega)
  injection hv with h1 h2 h3
  subst h1
  refine ⟨g, rfl, ?_, h.frozenAt k, fun x => ⟨_, (h.stored k x).1, hf.setCell (p := ⟨g, k, none⟩) (.inl rfl) x⟩⟩
  rw [h.cellAt k (by omega)]
  have hl := h.1
  exact ⟨_, List.getElem?_eq_getElem (show k < zs.length by omega)⟩

set_option maxHeartbeats 1000000 in
theorem walk (a0 : Option Addr) (len0 cap0 : Nat) (z0 : List Int) (a1 : Int) (w : World) (w0 : IsRow .u8 w a0 len0 cap0 z0) (w1 : (Lit.int .u8 a1).wf = true) :
    Calls Try.prog 9 #[.slice a0 len0 cap0, .int .u8 a1] w fun e w' => e = .returned (.bool true) ∧ Below w.heap.size w w' := by
  obtain ⟨xs, hl, hx, hr, hc, hn⟩ := row_reads w0
  clear w0 w1
  have hrn := hr.take (m := min len0 40) (by omega)
  obtain ⟨n, hnn⟩ : ∃ n, n = min len0 40 := ⟨_, rfl⟩
  have hn40 : n ≤ 40 := by omega
  have hnc : n ≤ cap0 := by omega
  have hln : (xs.take (min len0 40)).length = n := by simp; omega
  have HF := Lib.hid (few_any a0 len0 cap0 40 w hc hn (by omega))
  rw [← hnn] at HF hrn hln
  generalize xs.take n = ys at hrn hln
  clear hr hl hx hc hn hnn xs
  have HR := Lib.hid hrn
  have HL := Lib.hid hln
  clear hrn hln
  obtain ⟨i0, hi0, hz0, hz1, hz2⟩ := info_parts info_byte
  go_enter Try.func9, Try.ntmps9
  go_wp2_with fail
  refine HF.out.mono ?_
  rintro e w' ⟨rfl, rfl⟩
  go_wp2_with fail
  have HW0 := Lib.hid (Wr.new w w.heap.size)
  refine (raw_at w.heap.size w.heap.size (.slice none 0 0) [] ys n HL.out _ HW0.out _ a0 cap0 (HR.out.alloc (Nat.le_refl _) _) (by simp; omega) (by simp)).mono ?_
  rintro e w1 ⟨rfl, v1, hW1, hf1, _⟩
  rw [List.nil_append] at hW1
  have hb1 := HW0.out.step (Nat.le_refl _) hf1
  have z1 := hb1.size
  simp at z1
  have hb01 : Below w.heap.size w w1 := ((Below.refl _ _).alloc (Nat.le_refl _) _).trans hb1
  clear hb1 hf1
  go_wp2_with fail
  refine (bytes_any _ _ _ _ _ hW1 (by rw [HL.out]; omega)).mono ?_
  rintro e w2 ⟨v2, rfl, hown2, hb2⟩
  rw [HL.out] at hown2
  obtain ⟨A2, c2, rfl, _⟩ := reads_own hown2
  have z2 := hb2.size
  have hv1 : ∀ i, OwnW w.heap.size v1 i → i < w1.heap.size := by
    rintro i (rfl | hi)
    · exact hW1.lt
    · exact (hW1.2.lt i hi).2
  have HV1 := Lib.hid hv1
  clear hv1
  have hW2 := hW1.below hb2
  have HO2 := Lib.hid hown2
  have HB02 := Lib.hid (hb01.trans (hb2.mono (show w.heap.size ≤ w1.heap.size by omega)))
  clear hb01 hb2 hown2 hW1
  go_wp2_with fail
  go_loopw [7] (fun s wr => FillRel w2 w1.heap.size A2 n c2 s wr) (fun s _ => n - (intOf s).toNat)
  case atStart => exact ⟨0, _, rfl, by omega, HO2.out, Fr.refl _ _⟩
  case round =>
    obtain ⟨k, zs, rfl, hk, ho, hf⟩ := hrel
    by_cases hlt : k < n
    · obtain ⟨g, rfl, ⟨u, hu⟩, hfz, hst⟩ := fill_step hlt ho hf
      have HST := Lib.hid hst
      clear hst
      go_wp2_with fail
      obtain ⟨zs', h1, h2⟩ := HST.out (.int .u8 a1)
      exact ⟨⟨k + 1, zs', by go_num, by omega, h1, h2⟩, by simp [intOf]; omega⟩
    · obtain ⟨wo, rfl⟩ : ∃ wo : World, wo = wr := ⟨_, rfl⟩
      have hb2r : Below w1.heap.size w2 wo := hf.below z2 (fun i hi => (ho.lt i hi).1)
      have z3 := hb2r.size
      have hW3 : Wr wo w.heap.size w.heap.size v1 ys := hW2.fr hf (fun i hi he => by
        have := (ho.lt i he).1
        have := HV1.out i hi
        omega)
      have HB0r := Lib.hid (HB02.out.trans (hb2r.mono (show w.heap.size ≤ w1.heap.size by omega)))
      have HRr := Lib.hid (HR.out.below HB0r.out)
      have HW3 := Lib.hid hW3
      clear hb2r hW3 hf ho hW2
      go_wp2_with (at_builtin; go_must (refine wpList_append_any _ rfl (.tmp 32) (.tmp 33) _ rfl wo.heap.size 5 i0 _ 1 1 Try.underlying23 hi0 hz0 hz1 hz2 rfl (by decide) (.slice none 0 0) 0 [] rfl (World.ownsRow_nil _ _ _ _) w.heap.size a0 n cap0 (BS ys) rfl HRr.out (BS_one _) ?c1 ?c2 (Nat.le_refl _) ?k))
      case c1 => unfold maxLen; omega
      case c2 => omega
      case k =>
      intro vi w4 hown4 hg4 _
      have hb4 : Below wo.heap.size wo w4 := (Below.refl _ _).grown hg4 (Nat.le_refl _) (by simp [Value.ownBlock])
      have z4 := hb4.size
      obtain ⟨A4, c4, rfl, hr4⟩ := reads_own hown4
      have HO4 := Lib.hid hown4
      have HW4 := Lib.hid (HW3.out.below hb4)
      have HB04 := Lib.hid (HB0r.out.trans (hb4.mono (show w.heap.size ≤ wo.heap.size by omega)))
      clear hown4 hg4 hb4
      go_wp2_with fail
      refine (newReader_any ys n HL.out w4 _ A4 c4 hr4 (by omega)).mono ?_
      rintro e w5 ⟨v5, g5, rfl, hR5, hg5, hb5⟩
      have z5 := hb5.size
      have HW5 := Lib.hid (HW4.out.below hb5)
      have HO5 := Lib.hid ((Fr.of_below hb5).own HO4.out (fun i hi h => by have := (HO4.out.lt i hi).2; omega))
      have HB05 := Lib.hid (HB04.out.trans (hb5.mono (show w.heap.size ≤ w4.heap.size by omega)))
      have HR5 := Lib.hid hR5
      have hW4l : ∀ i, OwnW w.heap.size v1 i → i < wo.heap.size := by
        rintro i (rfl | hi)
        · exact HW3.out.lt
        · exact (HW3.out.2.lt i hi).2
      have HW4L := Lib.hid hW4l
      have hO4l : ∀ i, (Value.slice A4 n c4).ownBlock = some i → i < w4.heap.size := fun i hi => (HO4.out.lt i hi).2
      have HO4L := Lib.hid hO4l
      clear hb5 hr4 hR5 hW4l hO4l
      go_wp2_with fail
      go_loopw [10] (fun s wr' => FillRel w5 wo.heap.size A4 n c4 s wr') (fun s _ => n - (intOf s).toNat)
      case atStart => exact ⟨0, _, rfl, by omega, HO5.out, Fr.refl _ _⟩
      case round =>
        obtain ⟨j, zs2, rfl, hj, ho2, hf2⟩ := hrel
        by_cases hlt2 : j < n
        · obtain ⟨g, rfl, ⟨u, hu⟩, hfz, hst⟩ := fill_step hlt2 ho2 hf2
          have HST := Lib.hid hst
          clear hst
          go_wp2_with fail
          obtain ⟨zs', h1, h2⟩ := HST.out (.int .u8 a1)
          exact ⟨⟨j + 1, zs', by go_num, by omega, h1, h2⟩, by simp [intOf]; omega⟩
        · have hW6 := HW5.out.fr hf2 (fun i hi he => by
            have h1 := (HO4.out.lt i he).1
            have h2 := HW4L.out i hi
            omega)
          have hR6 := HR5.out.fr hf2 (fun he => by have := HO4L.out _ he; omega) (fun i hi he => by
            have h1 := (HR5.out.2.1.lt i hi).1
            have h2 := HO4L.out i he
            omega)
          have hb5r : Below wo.heap.size w5 wr := hf2.below (by omega) (fun i hi => (HO4.out.lt i hi).1)
          have z6 := hb5r.size
          have HB06 := Lib.hid (HB05.out.trans (hb5r.mono (show w.heap.size ≤ wo.heap.size by omega)))
          have HW6 := Lib.hid hW6
          clear hf2 ho2 hb5r hW6
          go_wp2_with fail
          refine (rd_raw_yes _ g5 v5 ys 0 n (n : Int) wr hR6 (by rw [HL.out]; omega) (by simp) (by rw [HL.out]; omega)).mono ?_
          rintro e w7 ⟨v7, rfl, hown7, _, hf7⟩
          rw [List.drop_zero, List.take_of_length_le (by rw [HL.out]; exact Nat.le_refl _)] at hown7
          obtain ⟨A7, c7, rfl, hr7⟩ := reads_own hown7
          have z7 := hf7.size
          have hW7 := HW6.out.fr hf7 (fun i hi he => by have := HW4L.out i hi; omega)
          have hb7 : Below w4.heap.size wr w7 := hf7.below (by omega) (fun i hi => by subst hi; exact hg5)
          have HB07 := Lib.hid (HB06.out.trans (hb7.mono (show w.heap.size ≤ w4.heap.size by omega)))
          clear hf7 hb7 hown7
          go_wp2_with fail
          refine (bytes_any _ _ _ _ _ hW7 (by rw [HL.out]; omega)).mono ?_
          rintro e w8 ⟨v8, rfl, hown8, hb8⟩
          rw [HL.out] at hown8
          obtain ⟨A8, c8, rfl, hr8⟩ := reads_own hown8
          have z8 := hb8.size
          have hr78 := hr7.below hb8
          have HB08 := Lib.hid (HB07.out.trans (hb8.mono (show w.heap.size ≤ w7.heap.size by omega)))
          clear hown8 hb8 hr7
          go_wp2_with fail
          refine (same_yes ys n HL.out w8 _ _ A8 a0 c8 cap0 hr8 (HR.out.below HB08.out) (by omega)).mono ?_
          rintro e w9 ⟨rfl, k9, rfl⟩
          go_wp2_with fail
          refine (same_yes ys n HL.out _ _ _ A7 a0 c7 cap0 (hr78.drewN k9) ((HR.out.below HB08.out).drewN k9) (by omega)).mono ?_
          rintro e w9 ⟨rfl, k10, rfl⟩
          go_wp2_with fail
          refine (lives_any _).mono ?_
          rintro e w9 ⟨rfl, hb9⟩
          go_wp2_with fail
          go_ret
          exact ⟨rfl, (below_drews HB08.out (k9 + k10)).trans (hb9.mono (show w.heap.size ≤ w8.heap.size by omega))⟩

/-! ### THE ROW's STEP: WRITTEN OUT: LEAVE IT -/
set_option maxRecDepth 100000 in
theorem lifted (os : Os) (started : os.Started) (H : Type) (enc : TypeId × Value → H) :
    ReturnsInHanded {} Try.checked os 9 .any (Rows.wireClonesSpec.pre6 enc Try.prog Try.f9 Rows.wireClonesRow.domain false) (Rows.wireClonesSpec.post enc Try.prog Try.f9 false true false false) := by
  refine returnsInHanded_of_change (C := Try.checked) own started (by kernel_rfl) Try.func9
    (ChangeSpec.witness6 (enc := enc) (C := Try.checked) false ⟨#[], #[.slice none 0 0, .int .u8 0], []⟩ 8 (by kernel_rfl) (by kernel_rfl) (by kernel_rfl) (by kernel_rfl)) ?_
  intro W base args ds gs before hval0 hW hcnd _
  have hval : ∀ (j : Nat) t v, Try.f9.params[j]? = some t → args[j]? = some v → Value.okWide Try.prog W .any base t v := hval0
  have hW' := hW
  obtain ⟨p, q, hA0, hV, rfl, hfz, hnd⟩ := hW
  have hA : DataW.TrodAll enc Try.prog W 0 (fun _ => true) true Try.f9.params.toList args.toList ds p := hA0
  rw [Try.params9] at hA hval
  obtain ⟨v0, vs0, d0, ds0, p0, q0, hargs, rfl, rfl, h0, r0⟩ := trodAll_cons hA
  obtain ⟨v1, vs1, d1, ds1, p1, q1, rfl, rfl, rfl, h1, r1⟩ := trodAll_cons r0
  obtain ⟨rfl, rfl, rfl⟩ := trodAll_nil r1
  obtain rfl : args = #[v0, v1] := by cases args; simp_all
  obtain ⟨rfl, rfl⟩ := trodVars_none hV
  obtain ⟨a0, len0, cap0, rfl⟩ := okWide_slice Try.underlying23 (hval 0 23 v0 rfl rfl)
  have k0 := h0
  have lt0 : ∀ x ∈ p0, x.block < W.heap.size := by obtain ⟨m, hm⟩ := k0; exact DataW.trod_lt m _ _ _ hm
  obtain ⟨z0, w0⟩ : ∃ zs, IsRow .u8 W a0 len0 cap0 zs := by
    obtain ⟨fuel, hf⟩ := h0
    rcases open_ints Try.underlying23 Try.underlying5 (by kernel_rfl) hf with ⟨hcs, _⟩ | ⟨x, l, c, zs, hcs, _, hl, hm, hz, _, hcell, hwz⟩
    · simp [Value.cells] at hcs
      obtain ⟨rfl, rfl, rfl⟩ := hcs
      exact ⟨[], .inl ⟨rfl, rfl, rfl, rfl⟩⟩
    · simp [Value.cells] at hcs
      obtain ⟨rfl, rfl, rfl⟩ := hcs
      exact ⟨zs, .inr ⟨_, rfl, hl, hm, by simpa using hz, hcell, hwz⟩⟩
  obtain ⟨a1, rfl, rfl, rfl, w1⟩ := open_int Try.underlying5 (hval 1 5 v1 rfl rfl) h1
  clear hA0 hval0
  refine (walk a0 len0 cap0 z0 a1 W w0 w1).mono fun e W' ⟨he, bel⟩ => ?_
  subst he
  exact ⟨_, rfl, _, _, _, [], _, [], hW', trodAll_mk1 (shut_bool Try.underlying4 _), (trodAll_cons_mk (Below.trod laidOut (by kernel_rfl) (of_decide_eq_true (by kernel_rfl)) k0 bel lt0) (trodAll_cons_mk (shut_int Try.underlying5 w1) trodAll_mk0)), rfl, bel.frame _, fun h => by cases h⟩

theorem over : Rows.wireClonesRow.holds Try.pinned (OpenSpec.ofChange Rows.wireClonesSpec) :=
  OpenClaim.holds_of_wide 9 Try.f9 rfl rfl rfl rfl rfl rfl rfl ⟨rfl, rfl, rfl, rfl, rfl⟩ rfl rfl rfl rfl rfl (by kernel_rfl) Try.func9 (by kernel_rfl)
    (of_decide_eq_true (by kernel_rfl)) (by unfold Func.isWrapper; first | (rw [if_pos (by decide +kernel)]; kernel_rfl) | (rw [if_neg (by decide +kernel)]; exact ⟨rfl, rfl⟩))
    (fun os started H enc _ => lifted os started H enc)

/-- ████ THE STATEMENT ████ -/
theorem proved : Rows.WireClonesSaid := over
#print axioms proved
end Go.Proofs.Ytmmajdabifeceaa.wireClones
