
/-
  The walk of CodeNames.
-/
import Derived.Test.YtcnfmngcfnpkkaaDoorNmE
set_option linter.unusedVariables false
set_option linter.unusedSimpArgs false
namespace Go.Proofs.YtcnfmngcfnpkkaaDoor
open Go.RowKit Plain

set_option maxRecDepth 100000 in
set_option maxHeartbeats 8000000 in
theorem names_walk (n op a : Int) (s : ByteArray) (w : World) (h : NmW w) (n1 : -9223372036854775808 ≤ n) (n2 : n ≤ 9223372036854775807) (a1 : -9223372036854775808 ≤ a) (a2 : a ≤ 9223372036854775807) :
    Calls Tryd.prog 3 #[.int .i64 n, .agg #[.int .i64 op, .int .i64 a], .string s] w fun e w' => e = .returned (.bool true) ∧ Below w.heap.size w w' := by
  have har := fun W => around_any n 27 W n1 n2 (by omega) (by omega)
  have hm27 := around_27 n
  generalize around n 27 = m at *
  have hb1 := (Below.refl w.heap.size w).alloc (Nat.le_refl _) (.cells #[.int .i64 op, .int .i64 a] 23)
  have hn1 := h.below hb1
  have hbx := Blk.new w 23 #[.int .i64 op, .int .i64 a]
  have HN1 := Lib.hid hn1; have HB1 := Lib.hid hb1; have HBX := Lib.hid hbx; have HAR := Lib.hid har
  clear hn1 hb1 hbx h har
  go_enter Tryd.func3, Tryd.ntmps3
  go_upto_region 1 with fail
  generalize w.alloc _ = W0 at *
  go_wp2_with fail
  refine (HAR.out _).mono ?_
  rintro e w' ⟨rfl, rfl⟩
  go_wp2_with fail
  refine (name_any m _ HN1.out.nm).mono ?_
  rintro e w' ⟨rfl, rfl⟩
  go_wp2_with fail
  refine (op_any _ _ HN1.out.nm).mono ?_
  rintro e w' ⟨rfl, rfl⟩
  have hom := opB_name hm27.1 hm27.2
  rw [show ((⟨(nameB m).toArray⟩ : ByteArray).data.toList) = nameB m from by simp, hom]
  clear hom
  go_wp2_with fail
  go_loopw [10, 11, 12] (fun s10 s11 s12 wr => ∃ (k : Nat) (want : Int) (has : Bool), k ≤ 27 ∧ s12 = .int .i64 (k : Int) ∧ s10 = .int .i64 want ∧ s11 = .bool has ∧ Hid (LpI s.data.toList k want has) ∧ Hid (Below W0.heap.size W0 wr)) (fun _ _ s12 _ => 27 - (intOf s12).toNat)
  case atStart => exact ⟨0, 0, false, by omega, rfl, rfl, rfl, Lib.hid (.inr ⟨fun j hj => by omega, rfl, rfl⟩), Lib.hid (Below.refl _ _)⟩
  case round =>
    obtain ⟨k, want, has, hk, rfl, rfl, rfl, HLP, HBL⟩ := hrel
    by_cases hlt : k < 27
    · have h1 : (k : Int) < 27 := by omega
      obtain ⟨t, ht⟩ : ∃ t, nmB[k]? = some t := ⟨_, List.getElem?_eq_getElem (by rw [nmB_len]; exact hlt)⟩
      have hnk : nameB (k : Int) = t := by
        obtain ⟨k', e1, e2, e3⟩ := nmB_at (k : Int) (by omega) (by omega)
        obtain rfl : k = k' := by omega
        exact (Option.some.inj (ht.symm.trans e3)).symm
      have hrn := refName_any (k : Int) wr
      rw [hnk] at hrn
      have HRN := Lib.hid hrn; have HT := Lib.hid ht
      clear hrn ht hnk
      by_cases he : t = s.data.toList
      · have hee : (t == s.toList) = true := by rw [ByteArray.toList_eq]; simp [he]
        have HE := Lib.hid he
        clear he
        go_wp2_with fail
        refine HRN.out.mono ?_
        rintro e w4 ⟨rfl, hb4⟩
        have HB4 := Lib.hid (HBL.out.trans (hb4.mono HBL.out.size))
        clear hb4
        go_wp2_with fail
        exact ⟨⟨k + 1, (k : Int), true, by omega, by go_num, rfl, rfl, Lib.hid (LpI.hit (by rw [HT.out, HE.out])), HB4⟩, by simp [intOf]; omega⟩
      · have hee : (t == s.toList) = false := by rw [ByteArray.toList_eq]; simp [he]
        have HE := Lib.hid he
        clear he
        go_wp2_with fail
        refine HRN.out.mono ?_
        rintro e w4 ⟨rfl, hb4⟩
        have HB4 := Lib.hid (HBL.out.trans (hb4.mono HBL.out.size))
        clear hb4
        go_wp2_with fail
        exact ⟨⟨k + 1, want, has, by omega, by go_num, rfl, rfl, Lib.hid (HLP.out.miss (by rw [HT.out]; exact fun e => HE.out (Option.some.inj e))), HB4⟩, by simp [intOf]; omega⟩
    · have h1 : ¬ (k : Int) < 27 := by omega
      obtain rfl : k = 27 := by omega
      have hop := HLP.out.end_
      go_upto_region 11 with fail
      go_wp2_with fail
      refine (op_any _ _ (HN1.out.below HBL.out).nm).mono ?_
      rintro e w' ⟨rfl, rfl⟩
      rw [hop]
      clear hop HLP h1
      have hbw := HB1.out.trans (HBL.out.mono HB1.out.size)
      have hnw := HN1.out.below HBL.out
      have x0 : wr.cell? ⟨w.heap.size, 0, none⟩ = some (.int .i64 op) := ((HBL.out.cell (p := ⟨w.heap.size, 0, none⟩) HBX.out.lt).trans (HBX.out.cell 0)).trans rfl
      have x1 : wr.cell? ⟨w.heap.size, 1, none⟩ = some (.int .i64 a) := ((HBL.out.cell (p := ⟨w.heap.size, 1, none⟩) HBX.out.lt).trans (HBX.out.cell 1)).trans rfl
      have hxl : w.heap.size < wr.heap.size := Nat.lt_of_lt_of_le HBX.out.lt HBL.out.size
      have HNW := Lib.hid hnw; have HBW := Lib.hid hbw
      have hke : ∀ W' w4, Below wr.heap.size wr W' → Below W'.heap.size W' w4 → Hid (Below wr.heap.size wr w4) ∧ (w4.cell? ⟨w.heap.size, 0, none⟩ = some (.int .i64 op) ∧ w4.cell? ⟨w.heap.size, 1, none⟩ = some (.int .i64 a)) := fun W' w4 h1 h2 => by
        have hb := h1.trans (h2.mono h1.size)
        exact ⟨Lib.hid hb, (hb.cell (p := ⟨w.heap.size, 0, none⟩) hxl).trans x0, (hb.cell (p := ⟨w.heap.size, 1, none⟩) hxl).trans x1⟩
      have hc1 : ∀ W', Below wr.heap.size wr W' → Calls Tryd.prog 6 #[.int .i64 n] W' fun e w4 => e = .returned (.string ⟨(nameB n).toArray⟩) ∧ Hid (Below wr.heap.size wr w4) ∧ (w4.cell? ⟨w.heap.size, 0, none⟩ = some (.int .i64 op) ∧ w4.cell? ⟨w.heap.size, 1, none⟩ = some (.int .i64 a)) := fun W' hb => (name_any n W' (HNW.out.below hb).nm).mono fun e w4 hq => ⟨hq.1, hke W' w4 hb (by rw [← hq.2]; exact Below.refl _ _)⟩
      have hc2 : ∀ W', Below wr.heap.size wr W' → Calls Tryd.prog 7 #[.int .i64 n] W' fun e w4 => e = .returned (.string ⟨(nameB n).toArray⟩) ∧ Hid (Below wr.heap.size wr w4) ∧ (w4.cell? ⟨w.heap.size, 0, none⟩ = some (.int .i64 op) ∧ w4.cell? ⟨w.heap.size, 1, none⟩ = some (.int .i64 a)) := fun W' hb => (refName_any n W').mono fun e w4 hq => ⟨hq.1, hke W' w4 hb hq.2⟩
      have hc3 : ∀ W', Below wr.heap.size wr W' → Calls Tryd.prog 6 #[.int .i64 m] W' fun e w4 => e = .returned (.string ⟨(nameB m).toArray⟩) ∧ Hid (Below wr.heap.size wr w4) ∧ (w4.cell? ⟨w.heap.size, 0, none⟩ = some (.int .i64 op) ∧ w4.cell? ⟨w.heap.size, 1, none⟩ = some (.int .i64 a)) := fun W' hb => (name_any m W' (HNW.out.below hb).nm).mono fun e w4 hq => ⟨hq.1, hke W' w4 hb (by rw [← hq.2]; exact Below.refl _ _)⟩
      have hc4 : ∀ W', Below wr.heap.size wr W' → Calls Tryd.prog 7 #[.int .i64 m] W' fun e w4 => e = .returned (.string ⟨(nameB m).toArray⟩) ∧ Hid (Below wr.heap.size wr w4) ∧ (w4.cell? ⟨w.heap.size, 0, none⟩ = some (.int .i64 op) ∧ w4.cell? ⟨w.heap.size, 1, none⟩ = some (.int .i64 a)) := fun W' hb => (refName_any m W').mono fun e w4 hq => ⟨hq.1, hke W' w4 hb hq.2⟩
      have hc5 : ∀ W', Below wr.heap.size wr W' → Calls Tryd.prog 8 #[.agg #[.int .i64 op, .int .i64 a]] W' fun e w4 => e = .returned (.string ⟨(showL op a).toArray⟩) ∧ Hid (Below wr.heap.size wr w4) ∧ (w4.cell? ⟨w.heap.size, 0, none⟩ = some (.int .i64 op) ∧ w4.cell? ⟨w.heap.size, 1, none⟩ = some (.int .i64 a)) := fun W' hb => (showP_any op a W' (HNW.out.below hb) a1 a2).mono fun e w4 hq => ⟨hq.1, hke W' w4 hb hq.2⟩
      have hc6 : ∀ W', Below wr.heap.size wr W' → Calls Tryd.prog 9 #[.agg #[.int .i64 op, .int .i64 a]] W' fun e w4 => e = .returned (.string ⟨(showL op a).toArray⟩) ∧ Hid (Below wr.heap.size wr w4) ∧ (w4.cell? ⟨w.heap.size, 0, none⟩ = some (.int .i64 op) ∧ w4.cell? ⟨w.heap.size, 1, none⟩ = some (.int .i64 a)) := fun W' hb => (refShow_any op a W' a1 a2).mono fun e w4 hq => ⟨hq.1, hke W' w4 hb hq.2⟩
      have hc7 : ∀ W', Below wr.heap.size wr W' → Calls Tryd.prog 8 #[.agg #[.int .i64 m, .int .i64 a]] W' fun e w4 => e = .returned (.string ⟨(showL m a).toArray⟩) ∧ Hid (Below wr.heap.size wr w4) ∧ (w4.cell? ⟨w.heap.size, 0, none⟩ = some (.int .i64 op) ∧ w4.cell? ⟨w.heap.size, 1, none⟩ = some (.int .i64 a)) := fun W' hb => (showP_any m a W' (HNW.out.below hb) a1 a2).mono fun e w4 hq => ⟨hq.1, hke W' w4 hb hq.2⟩
      have hc8 : ∀ W', Below wr.heap.size wr W' → Calls Tryd.prog 9 #[.agg #[.int .i64 m, .int .i64 a]] W' fun e w4 => e = .returned (.string ⟨(showL m a).toArray⟩) ∧ Hid (Below wr.heap.size wr w4) ∧ (w4.cell? ⟨w.heap.size, 0, none⟩ = some (.int .i64 op) ∧ w4.cell? ⟨w.heap.size, 1, none⟩ = some (.int .i64 a)) := fun W' hb => (refShow_any m a W' a1 a2).mono fun e w4 hq => ⟨hq.1, hke W' w4 hb hq.2⟩
      have hc9 : ∀ W', Below wr.heap.size wr W' → Calls Tryd.prog 10 #[] W' fun e w4 => e = .returned (.bool true) ∧ Hid (Below wr.heap.size wr w4) ∧ (w4.cell? ⟨w.heap.size, 0, none⟩ = some (.int .i64 op) ∧ w4.cell? ⟨w.heap.size, 1, none⟩ = some (.int .i64 a)) := fun W' hb => (clives_any W').mono fun e w4 hq => ⟨hq.1, hke W' w4 hb hq.2⟩
      have HC1 := Lib.hid hc1; have HC2 := Lib.hid hc2; have HC3 := Lib.hid hc3; have HC4 := Lib.hid hc4; have HC5 := Lib.hid hc5; have HC6 := Lib.hid hc6; have HC7 := Lib.hid hc7; have HC8 := Lib.hid hc8; have HC9 := Lib.hid hc9
      clear hc1 hc2 hc3 hc4 hc5 hc6 hc7 hc8 hc9
      have hbd : Below wr.heap.size wr wr := Below.refl _ _
      have HBA := Lib.hid hbd
      clear hke hbd hxl hnw hbw
      go_upto_region 12 with fail
      go_region_held3 (fun w' => w'.cell? ⟨w.heap.size, 0, none⟩ = some (.int .i64 op) ∧ w'.cell? ⟨w.heap.size, 1, none⟩ = some (.int .i64 a))
        (first | with_reducible exact G3 | with_reducible exact ⟨x0, x1⟩ | go_keep)
        (first
        | (go_at_call 6; (with_reducible refine (HC1.out _ (by first | with_reducible exact HBA.out | with_reducible exact HBA.out.drew | with_reducible exact Below.refl _ _ | exact (Below.refl _ _).drew)).mono ?_); (rintro e w4 ⟨rfl, HBA, G3⟩))
        | (go_at_call 7; (with_reducible refine (HC2.out _ (by first | with_reducible exact HBA.out | with_reducible exact HBA.out.drew | with_reducible exact Below.refl _ _ | exact (Below.refl _ _).drew)).mono ?_); (rintro e w4 ⟨rfl, HBA, G3⟩))
        | (go_at_call 6; (with_reducible refine (HC3.out _ (by first | with_reducible exact HBA.out | with_reducible exact HBA.out.drew | with_reducible exact Below.refl _ _ | exact (Below.refl _ _).drew)).mono ?_); (rintro e w4 ⟨rfl, HBA, G3⟩))
        | (go_at_call 7; (with_reducible refine (HC4.out _ (by first | with_reducible exact HBA.out | with_reducible exact HBA.out.drew | with_reducible exact Below.refl _ _ | exact (Below.refl _ _).drew)).mono ?_); (rintro e w4 ⟨rfl, HBA, G3⟩))
        | (go_at_call 8; (with_reducible refine (HC5.out _ (by first | with_reducible exact HBA.out | with_reducible exact HBA.out.drew | with_reducible exact Below.refl _ _ | exact (Below.refl _ _).drew)).mono ?_); (rintro e w4 ⟨rfl, HBA, G3⟩))
        | (go_at_call 9; (with_reducible refine (HC6.out _ (by first | with_reducible exact HBA.out | with_reducible exact HBA.out.drew | with_reducible exact Below.refl _ _ | exact (Below.refl _ _).drew)).mono ?_); (rintro e w4 ⟨rfl, HBA, G3⟩))
        | (go_at_call 8; (with_reducible refine (HC7.out _ (by first | with_reducible exact HBA.out | with_reducible exact HBA.out.drew | with_reducible exact Below.refl _ _ | exact (Below.refl _ _).drew)).mono ?_); (rintro e w4 ⟨rfl, HBA, G3⟩))
        | (go_at_call 9; (with_reducible refine (HC8.out _ (by first | with_reducible exact HBA.out | with_reducible exact HBA.out.drew | with_reducible exact Below.refl _ _ | exact (Below.refl _ _).drew)).mono ?_); (rintro e w4 ⟨rfl, HBA, G3⟩))
        | (go_at_call 10; (with_reducible refine (HC9.out _ (by first | with_reducible exact HBA.out | with_reducible exact HBA.out.drew | with_reducible exact Below.refl _ _ | exact (Below.refl _ _).drew)).mono ?_); (rintro e w4 ⟨rfl, HBA, G3⟩))
        | fail)
      all_goals
        go_wp2_with fail
        go_ret
        exact ⟨rfl, HBW.out.trans (HBA.out.mono HBW.out.size)⟩
end Go.Proofs.YtcnfmngcfnpkkaaDoor
