
/-
  like: has a pool what it must have?
-/
import Derived.Test.YtipflplilkecjaaDqEg
import Derived.Test.YtipflplilkecjaaDqEt
import Derived.Test.YtipflplilkecjaaDqEs
import Derived.Test.YtipflplilkecjaaDqEp
set_option linter.unusedVariables false
set_option linter.unusedSimpArgs false
namespace Go.Proofs.Ytipflplilkecjaa
open Go.RowKit Plain

set_option maxRecDepth 100000 in
set_option maxHeartbeats 8000000 in
theorem like_any (g d s room : Nat) (Dq : Nat → Prop) (L : List (List Int)) (Q : List Int) (w : World) (hp : Pl w g d s room Dq L Q) (E : Nat → Prop) (lA gA : Option Addr) (lc gc : Nat) (hd : DocP w E lA lc gA gc L Q) (N M : Nat) (hN : L.length = N) (hM : Q.length = M) (hM6 : M ≤ 100000) :
    Calls Try.prog 10 #[.pointer (some ⟨g, 0, none⟩), .agg (DocV room lA N lc gA M gc)] w fun e w' => e = .returned (.bool true) ∧ Below w.heap.size w w' := by
  obtain ⟨hlr, hr1, hr8, hN64⟩ := hp.row
  rw [hN] at hN64
  have hflen : L.flatten.length ≤ 512 := by
    have key : ∀ k, k ≤ L.length → ((L.take k).flatten).length ≤ k * 8 := by
      intro k
      induction k with
      | zero => intro _; simp
      | succ k ih =>
        intro hk
        have hx : L[k]? = some L[k] := List.getElem?_eq_getElem (by omega)
        rw [flat_succ hx, List.length_append]
        have := ih (by omega)
        have := hlr k _ hx
        omega
    have := key L.length (Nat.le_refl _)
    rw [List.take_length, hN] at this
    omega
  obtain ⟨T, hT⟩ : ∃ T, (L.flatten ++ Q).length = T := ⟨_, rfl⟩
  have hT6 : T ≤ 200000 := by rw [← hT, List.length_append, hM]; omega
  have hbx := Blk.new w 28 (DocV room lA N lc gA M gc)
  have hb0 : Below w.heap.size w (w.alloc (.cells (DocV room lA N lc gA M gc) 28)) := (Below.refl _ w).alloc (Nat.le_refl _) _
  have HP := Lib.hid hp; have HD := Lib.hid hd; have HN := Lib.hid hN; have HM := Lib.hid hM; have HT := Lib.hid hT; have HLR := Lib.hid hlr; have HST := Lib.hid (⟨hbx, hb0⟩ : Blk _ w.heap.size 28 (DocV room lA N lc gA M gc) ∧ Below w.heap.size w _)
  clear hp hd hN hM hT hlr hb0 hflen hbx
  go_enter Try.func10, Try.ntmps10
  go_wp2_with fail
  go_loopw [5] (fun s5 wr => ∃ j : Nat, j ≤ N + 2 ∧ s5 = .int .i64 ((j : Int) - 1) ∧ Hid (Blk wr w.heap.size 28 (DocV room lA N lc gA M gc) ∧ Below w.heap.size w wr)) (fun s5 _ => N + 2 - (intOf s5 + 1).toNat)
  case atStart => exact ⟨0, by omega, rfl, HST⟩
  case round =>
    clear HST
    obtain ⟨j, hj, rfl, HI⟩ := hrel
    have x1 : wr.cell? ⟨w.heap.size, 1, none⟩ = some (.slice lA N lc) := (HI.out.1.cell 1).trans rfl
    have x2 : wr.cell? ⟨w.heap.size, 2, none⟩ = some (.slice gA M gc) := (HI.out.1.cell 2).trans rfl
    have hpl := HP.out.below HI.out.2 (Nat.le_refl _)
    have hd0 := HD.out.below HI.out.2 (Nat.le_refl _)
    have hzb := HI.out.1.lt
    by_cases hend : j = N + 2
    · have hle : ¬ (j : Int) - 1 ≤ (N : Int) := by omega
      have hall := refAll7 room lA gA lc gc L Q wr E hd0 N M HN.out HM.out hN64 (by omega) hr8 HLR.out
      have x0 : wr.cell? ⟨w.heap.size, 0, none⟩ = some (.int .i64 (room : Int)) := (HI.out.1.cell 0).trans rfl
      have HPL := Lib.hid hpl; have HD0 := Lib.hid hd0; have HALL := Lib.hid hall
      clear hpl hd0 hall hend
      go_wp2_with fail
      refine HALL.out.mono ?_
      rintro e W0 ⟨v, rfl, hown, hb⟩
      obtain ⟨aA, ac, hv, _, hra⟩ := hown.slice
      rw [HT.out] at hv hra
      subst hv
      have hbk := HI.out.1.below hb HI.out.1.lt
      have hbw := HI.out.2.trans (hb.mono HI.out.2.size)
      have hpl := HPL.out.below hb (Nat.le_refl _)
      have hd0 := HD0.out.below hb (Nat.le_refl _)
      have y1 : W0.cell? ⟨w.heap.size, 1, none⟩ = some (.slice lA N lc) := (hbk.cell 1).trans rfl
      have y2 : W0.cell? ⟨w.heap.size, 2, none⟩ = some (.slice gA M gc) := (hbk.cell 2).trans rfl
      have hbl := hbk.lt
      have hkeep : ∀ W, Below W0.heap.size W0 W → W.cell? ⟨w.heap.size, 1, none⟩ = some (.slice lA N lc) ∧ W.cell? ⟨w.heap.size, 2, none⟩ = some (.slice gA M gc) := fun W hb => ⟨(hb.cell (p := ⟨w.heap.size, 1, none⟩) hbl).trans y1, (hb.cell (p := ⟨w.heap.size, 2, none⟩) hbl).trans y2⟩
      have hwk : ∀ W, Below W0.heap.size W0 W → Calls Try.prog 31 #[.pointer (some ⟨g, 0, none⟩)] W fun e w' => e = .returned (.int .i64 (N : Int)) ∧ W = w' := fun W hb => by
        have := workersP g d s room Dq L Q W (hpl.below hb (Nat.le_refl _))
        rw [HN.out] at this
        exact this
      have hgl : ∀ W, Below W0.heap.size W0 W → Calls Try.prog 28 #[.pointer (some ⟨g, 0, none⟩)] W fun e w1 => ∃ A1 c1, e = .returned (.slice A1 M c1) ∧ Hid (Reads w1 w1.heap.size 1 A1 M (Q.map EnI) ∧ Below W0.heap.size W0 w1) ∧ w1.cell? ⟨w.heap.size, 1, none⟩ = some (.slice lA N lc) ∧ w1.cell? ⟨w.heap.size, 2, none⟩ = some (.slice gA M gc) := fun W hb => by
        refine (globalP g d s room Dq L Q W (hpl.below hb (Nat.le_refl _)) (by rw [HM.out]; omega)).mono ?_
        rintro e w1 ⟨v, rfl, hown, hb1⟩
        obtain ⟨A1, c1, hv, _, hr⟩ := hown.slice
        rw [HM.out] at hv hr
        subst hv
        have hb2 := hb.trans (hb1.mono hb.size)
        exact ⟨A1, c1, rfl, Lib.hid ⟨hr, hb2⟩, hkeep w1 hb2⟩
      have hsg : ∀ (w1 : World) (A1 : Option Addr) (c1 : Nat), Reads w1 w1.heap.size 1 A1 M (Q.map EnI) ∧ Below W0.heap.size W0 w1 → ∀ W, Below w1.heap.size w1 W → Calls Try.prog 18 #[.slice A1 M c1, .slice gA M gc] W fun e w2 => e = .returned (.bool true) ∧ Hid (Below W0.heap.size W0 w2) ∧ w2.cell? ⟨w.heap.size, 1, none⟩ = some (.slice lA N lc) ∧ w2.cell? ⟨w.heap.size, 2, none⟩ = some (.slice gA M gc) := fun w1 A1 c1 h1 W hb => by
        have hb2 := h1.2.trans (hb.mono h1.2.size)
        have hr2 := (hd0.glob.below hb2 (Nat.le_refl _)).reads
        rw [HM.out] at hr2
        refine (sameInts_yes Q M HM.out W _ _ A1 gA c1 gc (h1.1.below hb) hr2 (by omega)).mono ?_
        rintro e w2 ⟨rfl, m, rfl⟩
        have hb3 := below_drews hb2 m
        exact ⟨rfl, Lib.hid hb3, hkeep _ hb3⟩
      have hal : ∀ W, Below W0.heap.size W0 W → Calls Try.prog 32 #[.pointer (some ⟨g, 0, none⟩)] W fun e w3 => ∃ A3 c3, e = .returned (.slice A3 T c3) ∧ Hid (Reads w3 w3.heap.size 1 A3 T ((L.flatten ++ Q).map EnI) ∧ Below W0.heap.size W0 w3) ∧ w3.cell? ⟨w.heap.size, 1, none⟩ = some (.slice lA N lc) ∧ w3.cell? ⟨w.heap.size, 2, none⟩ = some (.slice gA M gc) := fun W hb => by
        refine (allP g d s room Dq L Q W (hpl.below hb (Nat.le_refl _)) (by rw [HT.out]; omega)).mono ?_
        rintro e w3 ⟨v, rfl, hown, hb1⟩
        obtain ⟨A1, c1, hv, _, hr⟩ := hown.slice
        rw [HT.out] at hv hr
        subst hv
        have hb2 := hb.trans (hb1.mono hb.size)
        exact ⟨A1, c1, rfl, Lib.hid ⟨hr, hb2⟩, hkeep w3 hb2⟩
      have hsa : ∀ (w1 : World) (A1 : Option Addr) (c1 : Nat), Reads w1 w1.heap.size 1 A1 T ((L.flatten ++ Q).map EnI) ∧ Below W0.heap.size W0 w1 → ∀ W, Below w1.heap.size w1 W → Calls Try.prog 18 #[.slice A1 T c1, .slice aA T ac] W fun e w4 => e = .returned (.bool true) ∧ Hid (Below W0.heap.size W0 w4) ∧ w4.cell? ⟨w.heap.size, 1, none⟩ = some (.slice lA N lc) ∧ w4.cell? ⟨w.heap.size, 2, none⟩ = some (.slice gA M gc) := fun w1 A1 c1 h1 W hb => by
        have hb2 := h1.2.trans (hb.mono h1.2.size)
        refine (sameInts_yes (L.flatten ++ Q) T HT.out W _ _ A1 aA c1 ac (h1.1.below hb) (hra.below hb2) (by omega)).mono ?_
        rintro e w2 ⟨rfl, m, rfl⟩
        have hb3 := below_drews hb2 m
        exact ⟨rfl, Lib.hid hb3, hkeep _ hb3⟩
      have hln : ∀ W, Below W0.heap.size W0 W → Calls Try.prog 26 #[.pointer (some ⟨g, 0, none⟩)] W fun e w' => e = .returned (.int .i64 (T : Int)) ∧ W = w' := fun W hb => by
        have := lenP g d s room Dq L Q W (hpl.below hb (Nat.le_refl _)) (by rw [HT.out]; omega)
        rw [HT.out] at this
        exact this
      have HWK := Lib.hid hwk; have HGL := Lib.hid hgl; have HSG := Lib.hid hsg; have HAL := Lib.hid hal; have HSA := Lib.hid hsa; have HLN := Lib.hid hln; have HBW := Lib.hid hbw
      clear hown hb hra hbk hbw hpl hd0 hkeep hwk hgl hsg hal hsa hln HPL HD0 HALL x0 x1 x2
      go_wp2_with fail
      go_region_held3 (fun w' => w'.cell? ⟨w.heap.size, 1, none⟩ = some (.slice lA N lc) ∧ w'.cell? ⟨w.heap.size, 2, none⟩ = some (.slice gA M gc))
        (first | with_reducible exact ⟨y1, y2⟩ | with_reducible exact G1 | with_reducible exact G2 | with_reducible exact G3 | with_reducible exact G4 | go_keep)
        (first
          | (go_simp; with_reducible refine (HWK.out _ (by first | with_reducible exact Below.refl _ _ | exact (Below.refl _ _).drew | exact below_drews (Below.refl _ _) _ | exact (below_drews (Below.refl _ _) _).drew | exact below_drews ((Below.refl _ _).drew) _)).mono ?_; rintro e wk ⟨rfl, rfl⟩)
          | (go_simp; with_reducible refine (HGL.out _ (by first | with_reducible exact Below.refl _ _ | exact (Below.refl _ _).drew | exact below_drews (Below.refl _ _) _ | exact (below_drews (Below.refl _ _) _).drew | exact below_drews ((Below.refl _ _).drew) _)).mono ?_
             rintro e w1 ⟨A1, c1, rfl, HR1, G1⟩
             clear HGL)
          | (go_simp; with_reducible refine (HSG.out w1 A1 c1 HR1.out _ (by first | with_reducible exact Below.refl _ _ | exact (Below.refl _ _).drew | exact below_drews (Below.refl _ _) _ | exact (below_drews (Below.refl _ _) _).drew | exact below_drews ((Below.refl _ _).drew) _)).mono ?_
             rintro e w2 ⟨rfl, HR2, G2⟩
             clear HSG)
          | (go_simp; with_reducible refine (HAL.out _ (by first | with_reducible exact HR2.out | exact HR2.out.drew | exact below_drews HR2.out _)).mono ?_
             rintro e w3 ⟨A3, c3, rfl, HR3, G3⟩
             clear HAL)
          | (go_simp; with_reducible refine (HSA.out w3 A3 c3 HR3.out _ (by first | with_reducible exact Below.refl _ _ | exact (Below.refl _ _).drew | exact below_drews (Below.refl _ _) _ | exact (below_drews (Below.refl _ _) _).drew | exact below_drews ((Below.refl _ _).drew) _)).mono ?_
             rintro e w4 ⟨rfl, HR4, G4⟩
             clear HSA)
          | (go_simp; with_reducible refine (HLN.out _ (by first | with_reducible exact HR4.out | exact HR4.out.drew | exact below_drews HR4.out _)).mono ?_; rintro e w5 ⟨rfl, rfl⟩)
          | fail)
      all_goals
        go_wp2_with fail
        go_ret
        exact ⟨rfl, HBW.out.trans (HR4.out.mono HBW.out.size)⟩
    · have hle : (j : Int) - 1 ≤ (N : Int) := by omega
      have hnext : IntKind.i64.wrap ((j : Int) - 1 + 1) = ((j + 1 : Nat) : Int) - 1 := by rw [IntWalk.i64_in _ (by omega)]; omega
      by_cases hin : 1 ≤ j ∧ j - 1 < N
      · obtain ⟨k, rfl⟩ : ∃ k, j = k + 1 := ⟨j - 1, by omega⟩
        have e1 : ((k + 1 : Nat) : Int) - 1 = (k : Int) := by omega
        rw [e1] at hle hnext
        rw [e1]
        have hkL : k < L.length := by rw [HN.out]; omega
        have hx : L[k]? = some L[k] := List.getElem?_eq_getElem hkL
        have hlk := HLR.out k _ hx
        generalize L[k] = l at *
        obtain ⟨ad, A, c, e0, hab, hcr, hrx⟩ := hd0.at_ hx
        subst e0
        obtain ⟨n, hn⟩ : ∃ n, l.length = n := ⟨_, rfl⟩
        rw [hn] at hcr hlk
        have how := ownP_yes g d s room Dq L Q wr hpl k l hx
        have k0 : (k : Int) ≥ 0 := by omega
        have k1 : (k : Int) < (N : Int) := by omega
        have k2 : (0 : Int) ≤ (k : Int) := by omega
        have HOW := Lib.hid how; have HNL := Lib.hid hn; have HRX := Lib.hid hrx
        clear how hn hrx hpl hd0 hx hin hend e1 hkL
        go_wp2_with fail
        refine HOW.out.mono ?_
        rintro e w1 ⟨v, rfl, hown, hb⟩
        obtain ⟨A1, c1, hv, _, hr1⟩ := hown.slice
        rw [HNL.out] at hv hr1
        subst hv
        have hr2 := (HRX.out.below hb (Nat.le_refl _)).reads
        rw [HNL.out] at hr2
        have hsm := sameInts_yes l n HNL.out w1 _ _ A1 A c1 c hr1 hr2 (by omega)
        have HSM := Lib.hid hsm
        have HI2 := Lib.hid (⟨HI.out.1.below hb HI.out.1.lt, HI.out.2.trans (hb.mono HI.out.2.size)⟩ : Blk w1 w.heap.size 28 (DocV room (some ad) N lc gA M gc) ∧ Below w.heap.size w w1)
        clear hown hb hr1 hr2 hsm HOW HRX hcr x1 x2
        go_wp2_with fail
        refine HSM.out.mono ?_
        rintro e w2 ⟨rfl, m, rfl⟩
        go_wp2_with fail
        exact ⟨⟨k + 1 + 1, by omega, by first | rfl | (rw [← hnext]; rfl) | go_num, Lib.hid ⟨HI2.out.1.drewN m, below_drews HI2.out.2 m⟩⟩, by simp [intOf]; omega⟩
      · have hno : (j : Int) - 1 < 0 ∨ (L.length : Int) ≤ (j : Int) - 1 := by rw [HN.out]; omega
        have how := ownP_no g d s room Dq L Q wr hpl ((j : Int) - 1) hno
        have HOW := Lib.hid how
        have hcond : ¬ (j : Int) - 1 ≥ 0 ∨ ((j : Int) - 1 ≥ 0 ∧ ¬ (j : Int) - 1 < (N : Int)) := by omega
        clear how hpl hd0 hno hin hend
        rcases hcond with q1 | ⟨q1, q2⟩
        all_goals
          go_wp2_with fail
          refine HOW.out.mono ?_
          rintro e w1 ⟨v, rfl, hown, hb⟩
          obtain ⟨A1, c1, hv, _, hr1⟩ := hown.slice
          rw [List.length_nil] at hv hr1
          subst hv
          have hsm := sameInts_yes [] 0 rfl w1 _ 0 A1 none c1 0 hr1 Reads.none_ (by omega)
          have HSM := Lib.hid hsm
          have HI2 := Lib.hid (⟨HI.out.1.below hb HI.out.1.lt, HI.out.2.trans (hb.mono HI.out.2.size)⟩ : Blk w1 w.heap.size 28 (DocV room lA N lc gA M gc) ∧ Below w.heap.size w w1)
          clear hown hb hr1 hsm HOW x1 x2
          go_wp2_with fail
          refine HSM.out.mono ?_
          rintro e w2 ⟨rfl, m, rfl⟩
          go_wp2_with fail
          exact ⟨⟨j + 1, by omega, by first | rfl | go_num, Lib.hid ⟨HI2.out.1.drewN m, below_drews HI2.out.2 m⟩⟩, by simp [intOf]; omega⟩
end Go.Proofs.Ytipflplilkecjaa
