/-
  Proved here: WireStops returns true for every input: behind an error nothing is read any more, and the place stays.
-/
import Derived.Test.YtmmajdabifeceaaRows
import Derived.WalkKit
import Derived.ProofKit
import Derived.OpenShut
import Derived.ShutString
import Derived.ChangeOld
import Derived.Below
import Derived.Test.YtmmajdabifeceaaPuts
namespace Go.Proofs.Ytmmajdabifeceaa.wireStops
open Go.ChangeShapes Go.WideShapes Go.ChangeAt Go.RowKit Go.Proofs.Ytmmajdabifeceaa Go.Proofs.Ytmmajdabifeceaa.Plain
open Go.ChangeMaps (open_string shut_string)
set_option linter.unusedVariables false

theorem own : ownKnob Try.prog.godebug = none := by kernel_rfl
theorem laidOut : laidOutB Try.prog = true := by kernel_rfl

def StopRel (w : World) (g : Nat) (v : Value) (ys : List Nat) (at_ n2 : Nat) (F : Int) (s : Value) (wr : World) : Prop :=
  ∃ i : Nat, s = .int .i64 (i : Int) ∧ i ≤ 10 ∧ i ≤ n2 ∧ Rd wr w.heap.size g v ys at_ F ∧ Below w.heap.size w wr

theorem tmod12 (a : Int) (h : a < 0) : ∃ q : Nat, (a + 1).tmod 12 = -(q : Int) ∧ q ≤ 11 := by
  refine ⟨(-(a + 1) % 12).toNat, ?_, by omega⟩
  rw [show (a + 1).tmod 12 = -((-(a + 1)).tmod 12) by rw [Int.neg_tmod, Int.neg_neg], Int.tmod_eq_emod_of_nonneg (by omega)]
  omega

set_option maxRecDepth 100000 in
set_option maxHeartbeats 4000000 in
theorem walk (a0 : Option Addr) (len0 cap0 : Nat) (z0 : List Int) (a1 : Int) (a2 : Option Addr) (len2 cap2 : Nat) (z2 : List PutV) (w : World) (w0 : IsRow .u8 w a0 len0 cap0 z0) (w1 : (Lit.int .i64 a1).wf = true) (w2 : IsPuts w a2 len2 cap2 z2) :
    Calls Try.prog 7 #[.slice a0 len0 cap0, .int .i64 a1, .slice a2 len2 cap2] w fun e w' => e = .returned (.bool true) ∧ Below w.heap.size w w' := by
  obtain ⟨xs, hl, hx, hr, hc, hn⟩ := row_reads w0
  have b1 := bounds_i64 w1
  clear w0 w1
  have hrn := hr.take (m := min len0 100) (by omega)
  obtain ⟨n, hnn⟩ : ∃ n, n = min len0 100 := ⟨_, rfl⟩
  have hn100 : n ≤ 100 := by omega
  have hln : (xs.take (min len0 100)).length = n := by simp; omega
  have hxn : ∀ x ∈ xs.take (min len0 100), x < 256 := fun x h => hx x (List.mem_of_mem_take h)
  have HF := Lib.hid (few_any a0 len0 cap0 100 w hc hn (by omega))
  rw [← hnn] at HF hrn hln hxn
  generalize xs.take n = ys at hrn hln hxn
  clear hr hl hx hc hn hnn xs
  have HR := Lib.hid hrn
  have HL := Lib.hid hln
  have HX := Lib.hid hxn
  have HP := Lib.hid w2
  have hl2 : len2 ≤ 9223372036854775807 := by have := w2.2.1; have := w2.2.2.1; unfold maxLen at *; omega
  clear hrn hln hxn w2
  have hlen : ys.length ≤ 140737488355328 := by rw [HL.out]; omega
  have HLEN := Lib.hid hlen
  clear hlen
  obtain ⟨E, hE⟩ : ∃ E, E = (rs ys).2.2 := ⟨_, rfl⟩
  obtain ⟨V, hV⟩ : ∃ V, V = (rs ys).1 := ⟨_, rfl⟩
  obtain ⟨K, hK⟩ : ∃ K, K = (rs ys).2.1 := ⟨_, rfl⟩
  have hrs : rs ys = (V, K, E) := by rw [hE, hV, hK]
  have hK' : K ≤ ys.length := hK ▸ rs_le HX.out
  have HRS := Lib.hid hrs
  have HK := Lib.hid hK'
  clear hrs hK' hE hV hK
  have hq : ∃ q : Nat, q ≤ 11 ∧ (a1 < 0 → (a1 + 1).tmod 12 = -(q : Int)) ∧ (¬ a1 < 0 → a1 % 12 = (q : Int)) := by
    by_cases hneg : a1 < 0
    · obtain ⟨q, h1, h2⟩ := tmod12 a1 hneg
      exact ⟨q, h2, fun _ => h1, fun h => absurd hneg h⟩
    · exact ⟨(a1 % 12).toNat, by omega, fun h => absurd h hneg, fun _ => by omega⟩
  obtain ⟨q, hq11, hq1, hq2⟩ := hq
  by_cases hneg : a1 < 0
  all_goals
    first
      | (have hqq := hq1 hneg; clear hq1 hq2)
      | (have hqq := hq2 hneg; clear hq1 hq2)
    go_enter Try.func7, Try.ntmps7
    go_wp2_with fail
    refine HF.out.mono ?_
    rintro e w' ⟨rfl, rfl⟩
    go_wp2_with fail
    refine (newReader_any ys n HL.out w _ a0 cap0 HR.out (by omega)).mono ?_
    rintro e w1 ⟨v, g, rfl, hR1, hg, hb1⟩
    have zz1 := hb1.size
    have HB1 := Lib.hid hb1
    have HR1 := Lib.hid hR1
    clear hb1 hR1
    by_cases hE : E = 0
    · subst hE
      go_wp2_with fail
      refine (rd_short_yes _ g v ys 0 V K w1 HR1.out HX.out HLEN.out (by rw [List.drop_zero]; exact HRS.out) (by have := HK.out; omega)).mono ?_
      rintro e w2 ⟨rfl, hR2, hf2⟩
      rw [Nat.zero_add] at hR2
      have hb2 : Below w.heap.size w1 w2 := hf2.below zz1 (fun i h => by subst h; exact hg)
      have HB2 := Lib.hid (HB1.out.trans hb2)
      have zz2 := hf2.size
      clear hb2 hf2
      go_wp2_with fail
      refine (rd_at _ _ _ _ _ _ _ hR2).mono ?_
      rintro e w3 ⟨rfl, rfl⟩
      go_wp2_with fail
      refine (rd_err _ _ _ _ _ _ _ hR2).mono ?_
      rintro e w3 ⟨rfl, rfl⟩
      go_wp2_with fail
      refine (rd_fail _ _ _ _ _ 0 (1 + (q : Int)) _ hR2).mono ?_
      rintro e w3 ⟨rfl, hR3, hf3⟩
      simp only at hR3
      have hb3 : Below w.heap.size w2 w3 := hf3.below (by omega) (fun i h => by subst h; exact hg)
      have HB3 := Lib.hid (HB2.out.trans hb3)
      have HR3 := Lib.hid hR3
      have zz3 := hf3.size
      clear hb3 hf3 hR2 hR3
      have HFQ : Hid (1 + (q : Int) ≠ 0) := by show 1 + (q : Int) ≠ 0; omega
      go_wp2_with fail
      -- LOOP1
      go_loopw [11] (fun s wr => StopRel w g v ys K len2 (1 + (q : Int)) s wr) (fun s _ => 10 - (intOf s).toNat)
      case atStart => exact ⟨0, rfl, by omega, by omega, HR3.out, HB3.out⟩
      case round =>
        obtain ⟨i, rfl, hi10, hi2, hRr, hBr⟩ := hrel
        have HRr := Lib.hid hRr; have HBr := Lib.hid hBr
        have zr := hBr.size
        clear hRr hBr
        by_cases hgo : i < len2 ∧ i < 10
        · obtain ⟨hgo1, hgo2⟩ := hgo
          obtain ⟨hpl, hpc, hpm, hpa⟩ := HP.out
          obtain ⟨x, rfl, hxb, hpx⟩ := hpa (by omega)
          have hp0 := hpx i _ (List.getElem?_eq_getElem (show i < z2.length by omega))
          generalize z2[i] = p at hp0
          have hxb' : (x.add (i * 4)).block < w.heap.size := by rw [block_of_add]; exact hxb
          have HP0 := Lib.hid hp0
          have bN := hp0.2.2.2.2.2.1
          clear hpl hpm hpa hpx hp0
          go_wp2_with fail
          refine (rd_fail _ _ _ _ _ _ 5 wr HRr.out).mono ?_
          rintro e wa ⟨rfl, hRa, hfa⟩
          simp only [if_neg HFQ.out] at hRa
          have hbwa : Below w.heap.size wr wa := hfa.below (by omega) (fun i h => by subst h; exact hg)
          have zwa := hbwa.size
          have HBwa := Lib.hid (HBr.out.trans hbwa)
          have HRwa := Lib.hid hRa
          clear hbwa hfa hRa
          obtain ⟨_, ca1, ca2, _⟩ := (HP0.out.below hxb' HBwa.out).cells
          go_wp2_with fail
          refine (wide_any p.n _ bN.1 bN.2).mono ?_
          rintro e wb ⟨rfl, rfl⟩
          clear ca1 ca2
          go_wp2_with fail
          refine (rd_fixed_stop _ _ _ _ _ _ _ _ (HRwa.out.alloc _) HFQ.out (wideOf_wide _)).mono ?_
          rintro e wc ⟨rfl, hRc, hfc⟩
          have hfc' := ((Fr.refl (fun i => i = g) wa).alloc (.cells #[.int .i64 1, .int .i64 2, .int .i64 4, .int .i64 8] 3)).trans hfc (fun _ _ h => h)
          clear hfc
          have hbwc : Below w.heap.size wa wc := hfc'.below (by omega) (fun i h => by subst h; exact hg)
          have zwc := hbwc.size
          have HBwc := Lib.hid (HBwa.out.trans hbwc)
          have HRwc := Lib.hid hRc
          clear hbwc hfc' hRc
          go_wp2_with fail
          refine (rd_short_stop _ _ _ _ _ _ _ HRwc.out HFQ.out).mono ?_
          rintro e wd ⟨rfl, hR, hf⟩
          have hbwd : Below w.heap.size wc wd := hf.below (by omega) (fun i h => by subst h; exact hg)
          have zwd := hbwd.size
          have HBwd := Lib.hid (HBwc.out.trans hbwd)
          have HRwd := Lib.hid hR
          clear hbwd hf hR
          go_wp2_with fail
          refine (rd_signed_stop _ _ _ _ _ _ _ HRwd.out HFQ.out).mono ?_
          rintro e we ⟨rfl, hR, hf⟩
          have hbwe : Below w.heap.size wd we := hf.below (by omega) (fun i h => by subst h; exact hg)
          have zwe := hbwe.size
          have HBwe := Lib.hid (HBwd.out.trans hbwe)
          have HRwe := Lib.hid hR
          clear hbwe hf hR
          go_wp2_with fail
          refine (rd_text_stop _ _ _ _ _ _ _ HRwe.out HFQ.out).mono ?_
          rintro e wf ⟨rfl, hR, hf⟩
          have hbwf : Below w.heap.size we wf := hf.below (by omega) (fun i h => by subst h; exact hg)
          have zwf := hbwf.size
          have HBwf := Lib.hid (HBwe.out.trans hbwf)
          have HRwf := Lib.hid hR
          clear hbwf hf hR
          obtain ⟨_, ca1, ca2, _⟩ := (HP0.out.below hxb' HBwf.out).cells
          go_wp2_with fail
          refine (rd_raw_err _ _ _ _ _ p.n _ _ HRwf.out HFQ.out).mono ?_
          rintro e wg ⟨rfl, hR, hf⟩
          clear ca1 ca2
          have hbwg : Below w.heap.size wf wg := hf.below (by omega) (fun i h => by subst h; exact hg)
          have zwg := hbwg.size
          have HBwg := Lib.hid (HBwf.out.trans hbwg)
          have HRwg := Lib.hid hR
          clear hbwg hf hR
          obtain ⟨_, ca1, ca2, _⟩ := (HP0.out.below hxb' HBwg.out).cells
          go_wp2_with fail
          refine (rd_list_stop _ _ _ _ _ _ p.v _ HRwg.out HFQ.out).mono ?_
          rintro e wh ⟨rfl, hR, hf⟩
          clear ca1 ca2
          have hbwh : Below w.heap.size wg wh := hf.below (by omega) (fun i h => by subst h; exact hg)
          have zwh := hbwh.size
          have HBwh := Lib.hid (HBwg.out.trans hbwh)
          have HRwh := Lib.hid hR
          clear hbwh hf hR
          go_wp2_with fail
          refine (rd_at _ _ _ _ _ _ _ HRwh.out).mono ?_
          rintro e wi ⟨rfl, rfl⟩
          go_wp2_with fail
          refine (rd_err _ _ _ _ _ _ _ HRwh.out).mono ?_
          rintro e wi ⟨rfl, rfl⟩
          go_wp2_with fail
          exact ⟨⟨i + 1, by go_num, by omega, by omega, HRwh.out, HBwh.out⟩, by simp [intOf]; omega⟩
        · have hfin : Hid (Below w.heap.size w wr) := HBr
          by_cases hi : i < len2
          all_goals
            go_wp2_with fail
            refine (rd_end_stop _ _ _ _ _ _ _ HRr.out HFQ.out HLEN.out).mono ?_
            rintro e wi ⟨rfl, hR, hf⟩
            have hbi : Below w.heap.size wr wi := hf.below (by omega) (fun i h => by subst h; exact hg)
            have zi := hbi.size
            go_wp2_with fail
            refine (lives_any _).mono ?_
            rintro e wj ⟨rfl, hbj⟩
            go_wp2_with fail
            go_ret
            exact ⟨rfl, (HBr.out.trans hbi).trans (hbj.mono (by omega))⟩
    · have hEb : ((E : Int) == 0) = false := by rw [beq_eq_false_iff_ne]; omega
      have hEr : rs ys = (0, 0, E) := by
        have h0 := HRS.out
        have h1 := rs_err (xs := ys) (by rw [h0]; exact hE)
        rw [h0] at h1
        simp only at h1
        rw [h0, h1.1, h1.2.1]
      have HER := Lib.hid hEr
      clear hEr
      have HEn := Lib.hid hE
      clear hE
      go_wp2_with fail
      refine (rd_short_no _ g v ys 0 E w1 HR1.out HX.out HLEN.out (by rw [List.drop_zero]; exact HER.out) HEn.out).mono ?_
      rintro e w2 ⟨rfl, hR2, hf2⟩
      have hb2 : Below w.heap.size w1 w2 := hf2.below zz1 (fun i h => by subst h; exact hg)
      have HB2 := Lib.hid (HB1.out.trans hb2)
      have zz2 := hf2.size
      clear hb2 hf2
      have HFQ : Hid ((E : Int) ≠ 0) := by have := HEn.out; show (E : Int) ≠ 0; omega
      go_wp2_with fail
      refine (rd_at _ _ _ _ _ _ _ hR2).mono ?_
      rintro e w3 ⟨rfl, rfl⟩
      go_wp2_with fail
      refine (rd_err _ _ _ _ _ _ _ hR2).mono ?_
      rintro e w3 ⟨rfl, rfl⟩
      go_wp2_with fail
      refine (rd_fail _ _ _ _ _ _ (1 + (q : Int)) _ hR2).mono ?_
      rintro e w3 ⟨rfl, hR3, hf3⟩
      simp only [if_neg HFQ.out] at hR3
      have hb3 : Below w.heap.size w2 w3 := hf3.below (by omega) (fun i h => by subst h; exact hg)
      have HB3 := Lib.hid (HB2.out.trans hb3)
      have HR3 := Lib.hid hR3
      have zz3 := hf3.size
      clear hb3 hf3 hR2 hR3
      go_wp2_with fail
      go_loopw [11] (fun s wr => StopRel w g v ys 0 len2 (E : Int) s wr) (fun s _ => 10 - (intOf s).toNat)
      case atStart => exact ⟨0, rfl, by omega, by omega, HR3.out, HB3.out⟩
      case round =>
        obtain ⟨i, rfl, hi10, hi2, hRr, hBr⟩ := hrel
        have HRr := Lib.hid hRr; have HBr := Lib.hid hBr
        have zr := hBr.size
        clear hRr hBr
        by_cases hgo : i < len2 ∧ i < 10
        · obtain ⟨hgo1, hgo2⟩ := hgo
          obtain ⟨hpl, hpc, hpm, hpa⟩ := HP.out
          obtain ⟨x, rfl, hxb, hpx⟩ := hpa (by omega)
          have hp0 := hpx i _ (List.getElem?_eq_getElem (show i < z2.length by omega))
          generalize z2[i] = p at hp0
          have hxb' : (x.add (i * 4)).block < w.heap.size := by rw [block_of_add]; exact hxb
          have HP0 := Lib.hid hp0
          have bN := hp0.2.2.2.2.2.1
          clear hpl hpm hpa hpx hp0
          go_wp2_with fail
          refine (rd_fail _ _ _ _ _ _ 5 wr HRr.out).mono ?_
          rintro e wa ⟨rfl, hRa, hfa⟩
          simp only [if_neg HFQ.out] at hRa
          have hbwa : Below w.heap.size wr wa := hfa.below (by omega) (fun i h => by subst h; exact hg)
          have zwa := hbwa.size
          have HBwa := Lib.hid (HBr.out.trans hbwa)
          have HRwa := Lib.hid hRa
          clear hbwa hfa hRa
          obtain ⟨_, ca1, ca2, _⟩ := (HP0.out.below hxb' HBwa.out).cells
          go_wp2_with fail
          refine (wide_any p.n _ bN.1 bN.2).mono ?_
          rintro e wb ⟨rfl, rfl⟩
          clear ca1 ca2
          go_wp2_with fail
          refine (rd_fixed_stop _ _ _ _ _ _ _ _ (HRwa.out.alloc _) HFQ.out (wideOf_wide _)).mono ?_
          rintro e wc ⟨rfl, hRc, hfc⟩
          have hfc' := ((Fr.refl (fun i => i = g) wa).alloc (.cells #[.int .i64 1, .int .i64 2, .int .i64 4, .int .i64 8] 3)).trans hfc (fun _ _ h => h)
          clear hfc
          have hbwc : Below w.heap.size wa wc := hfc'.below (by omega) (fun i h => by subst h; exact hg)
          have zwc := hbwc.size
          have HBwc := Lib.hid (HBwa.out.trans hbwc)
          have HRwc := Lib.hid hRc
          clear hbwc hfc' hRc
          go_wp2_with fail
          refine (rd_short_stop _ _ _ _ _ _ _ HRwc.out HFQ.out).mono ?_
          rintro e wd ⟨rfl, hR, hf⟩
          have hbwd : Below w.heap.size wc wd := hf.below (by omega) (fun i h => by subst h; exact hg)
          have zwd := hbwd.size
          have HBwd := Lib.hid (HBwc.out.trans hbwd)
          have HRwd := Lib.hid hR
          clear hbwd hf hR
          go_wp2_with fail
          refine (rd_signed_stop _ _ _ _ _ _ _ HRwd.out HFQ.out).mono ?_
          rintro e we ⟨rfl, hR, hf⟩
          have hbwe : Below w.heap.size wd we := hf.below (by omega) (fun i h => by subst h; exact hg)
          have zwe := hbwe.size
          have HBwe := Lib.hid (HBwd.out.trans hbwe)
          have HRwe := Lib.hid hR
          clear hbwe hf hR
          go_wp2_with fail
          refine (rd_text_stop _ _ _ _ _ _ _ HRwe.out HFQ.out).mono ?_
          rintro e wf ⟨rfl, hR, hf⟩
          have hbwf : Below w.heap.size we wf := hf.below (by omega) (fun i h => by subst h; exact hg)
          have zwf := hbwf.size
          have HBwf := Lib.hid (HBwe.out.trans hbwf)
          have HRwf := Lib.hid hR
          clear hbwf hf hR
          obtain ⟨_, ca1, ca2, _⟩ := (HP0.out.below hxb' HBwf.out).cells
          go_wp2_with fail
          refine (rd_raw_err _ _ _ _ _ p.n _ _ HRwf.out HFQ.out).mono ?_
          rintro e wg ⟨rfl, hR, hf⟩
          clear ca1 ca2
          have hbwg : Below w.heap.size wf wg := hf.below (by omega) (fun i h => by subst h; exact hg)
          have zwg := hbwg.size
          have HBwg := Lib.hid (HBwf.out.trans hbwg)
          have HRwg := Lib.hid hR
          clear hbwg hf hR
          obtain ⟨_, ca1, ca2, _⟩ := (HP0.out.below hxb' HBwg.out).cells
          go_wp2_with fail
          refine (rd_list_stop _ _ _ _ _ _ p.v _ HRwg.out HFQ.out).mono ?_
          rintro e wh ⟨rfl, hR, hf⟩
          clear ca1 ca2
          have hbwh : Below w.heap.size wg wh := hf.below (by omega) (fun i h => by subst h; exact hg)
          have zwh := hbwh.size
          have HBwh := Lib.hid (HBwg.out.trans hbwh)
          have HRwh := Lib.hid hR
          clear hbwh hf hR
          go_wp2_with fail
          refine (rd_at _ _ _ _ _ _ _ HRwh.out).mono ?_
          rintro e wi ⟨rfl, rfl⟩
          go_wp2_with fail
          refine (rd_err _ _ _ _ _ _ _ HRwh.out).mono ?_
          rintro e wi ⟨rfl, rfl⟩
          go_wp2_with fail
          exact ⟨⟨i + 1, by go_num, by omega, by omega, HRwh.out, HBwh.out⟩, by simp [intOf]; omega⟩
        · have hfin : Hid (Below w.heap.size w wr) := HBr
          by_cases hi : i < len2
          all_goals
            go_wp2_with fail
            refine (rd_end_stop _ _ _ _ _ _ _ HRr.out HFQ.out HLEN.out).mono ?_
            rintro e wi ⟨rfl, hR, hf⟩
            have hbi : Below w.heap.size wr wi := hf.below (by omega) (fun i h => by subst h; exact hg)
            have zi := hbi.size
            go_wp2_with fail
            refine (lives_any _).mono ?_
            rintro e wj ⟨rfl, hbj⟩
            go_wp2_with fail
            go_ret
            exact ⟨rfl, (HBr.out.trans hbi).trans (hbj.mono (by omega))⟩

set_option maxRecDepth 100000 in
theorem lifted (os : Os) (started : os.Started) (H : Type) (enc : TypeId × Value → H) :
    ReturnsInHanded {} Try.checked os 7 .any (Rows.wireStopsSpec.pre6 enc Try.prog Try.f7 Rows.wireStopsRow.domain false) (Rows.wireStopsSpec.post enc Try.prog Try.f7 false true false false) := by
  refine returnsInHanded_of_change (C := Try.checked) own started (by kernel_rfl) Try.func7
    (ChangeSpec.witness6 (enc := enc) (C := Try.checked) false ⟨#[], #[.slice none 0 0, .int .i64 0, .slice none 0 0], []⟩ 8 (by kernel_rfl) (by kernel_rfl) (by kernel_rfl) (by kernel_rfl)) ?_
  intro W base args ds gs before hval0 hW hcnd _
  have hval : ∀ (j : Nat) t v, Try.f7.params[j]? = some t → args[j]? = some v → Value.okWide Try.prog W .any base t v := hval0
  have hW' := hW
  obtain ⟨p, q, hA0, hV, rfl, hfz, hnd⟩ := hW
  have hA : DataW.TrodAll enc Try.prog W 0 (fun _ => true) true Try.f7.params.toList args.toList ds p := hA0
  rw [Try.params7] at hA hval
  obtain ⟨v0, vs0, d0, ds0, p0, q0, hargs, rfl, rfl, h0, r0⟩ := trodAll_cons hA
  obtain ⟨v1, vs1, d1, ds1, p1, q1, rfl, rfl, rfl, h1, r1⟩ := trodAll_cons r0
  obtain ⟨v2, vs2, d2, ds2, p2, q2, rfl, rfl, rfl, h2, r2⟩ := trodAll_cons r1
  obtain ⟨rfl, rfl, rfl⟩ := trodAll_nil r2
  obtain rfl : args = #[v0, v1, v2] := by cases args; simp_all
  obtain ⟨rfl, rfl⟩ := trodVars_none hV
  obtain ⟨a0, len0, cap0, rfl⟩ := okWide_slice Try.underlying23 (hval 0 23 v0 rfl rfl)
  have k0 := h0
  have lt0 : ∀ x ∈ p0, x.block < W.heap.size := by obtain ⟨m, hm⟩ := k0; exact DataW.trod_lt m _ _ _ hm
  obtain ⟨z0, w0⟩ : ∃ zs, IsRow .u8 W a0 len0 cap0 zs := by
    obtain ⟨fuel, hf⟩ := h0
    rcases open_ints Try.underlying23 Try.underlying5 (by kernel_rfl) hf with ⟨hcs, _⟩ | ⟨x, l, c, zs, hcs, _, hl, hm, hz, _, hcell, hwz⟩
    · simp [Value.cells] at hcs
      obtain ⟨rfl, rfl, rfl⟩ := hcs
      exact ⟨[], .inl ⟨rfl, rfl, rfl, rfl⟩⟩
    · simp [Value.cells] at hcs
      obtain ⟨rfl, rfl, rfl⟩ := hcs
      exact ⟨zs, .inr ⟨_, rfl, hl, hm, by simpa using hz, hcell, hwz⟩⟩
  obtain ⟨a1, rfl, rfl, rfl, w1⟩ := open_int Try.underlying3 (hval 1 3 v1 rfl rfl) h1
  obtain ⟨a2, len2, cap2, rfl⟩ := okWide_slice Try.underlying22 (hval 2 22 v2 rfl rfl)
  have k2 := h2
  have lt2 : ∀ x ∈ p2, x.block < W.heap.size := by obtain ⟨m, hm⟩ := k2; exact DataW.trod_lt m _ _ _ hm
  obtain ⟨z2, w2⟩ := puts_open h2
  clear hA0 hval0
  refine (walk a0 len0 cap0 z0 a1 a2 len2 cap2 z2 W w0 w1 w2).mono fun e W' ⟨he, bel⟩ => ?_
  subst he
  exact ⟨_, rfl, _, _, _, [], _, [], hW', trodAll_mk1 (shut_bool Try.underlying4 _), (trodAll_cons_mk (Below.trod laidOut (by kernel_rfl) (of_decide_eq_true (by kernel_rfl)) k0 bel lt0) (trodAll_cons_mk (shut_int Try.underlying3 w1) (trodAll_cons_mk (Below.trod laidOut (by kernel_rfl) (of_decide_eq_true (by kernel_rfl)) k2 bel lt2) trodAll_mk0))), rfl, bel.frame _, fun h => by cases h⟩

theorem over : Rows.wireStopsRow.holds Try.pinned (OpenSpec.ofChange Rows.wireStopsSpec) :=
  OpenClaim.holds_of_wide 7 Try.f7 rfl rfl rfl rfl rfl rfl rfl ⟨rfl, rfl, rfl, rfl, rfl⟩ rfl rfl rfl rfl rfl (by kernel_rfl) Try.func7 (by kernel_rfl)
    (of_decide_eq_true (by kernel_rfl)) (by unfold Func.isWrapper; first | (rw [if_pos (by decide +kernel)]; kernel_rfl) | (rw [if_neg (by decide +kernel)]; exact ⟨rfl, rfl⟩))
    (fun os started H enc _ => lifted os started H enc)

theorem proved : Rows.WireStopsSaid := over
#print axioms proved
end Go.Proofs.Ytmmajdabifeceaa.wireStops
