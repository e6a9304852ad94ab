
/-
  The walk of ChansChoice.
-/
import Derived.Test.YtbgigkamlnchcaaRows
import Derived.WalkKit
import Derived.ProofKit
import Derived.OpenShut
import Derived.ShutString
import Derived.ChangeOld
import Derived.Below
import Derived.Test.YtbgigkamlnchcaaChCh
import Derived.Test.YtbgigkamlnchcaaChOpen
namespace Go.Proofs.Ytbgigkamlnchcaa.chansChoice
open Go.ChangeShapes Go.WideShapes Go.ChangeAt Go.RowKit Go.Proofs.Ytbgigkamlnchcaa Go.Proofs.Ytbgigkamlnchcaa.Plain
open Go.ChangeMaps (open_string shut_string)
set_option linter.unusedVariables false


/-- Where the numbers are sent first: none waits to receive. -/
structure FstI (i : Nat) (s : Ck) : Prop where
  ok : CkOk (2 * i) 4 s
  rq : s.rq = List.replicate 4 []
theorem FstI.start : FstI 0 (newV 4) := ⟨CkOk.new 4, rfl⟩
theorem FstI.send {i : Nat} {s : Ck} (h : FstI i s) {m : Nat} (hm : m < 4) (r t v : Int) : FstI (i + 1) (sendV s m r t v).1 := by
  have hg : gl s.rq m = [] := by rw [h.rq]; exact gl_rep 4 m
  exact ⟨(h.ok.send hm r t v).mono (by omega), by rw [send_rq hg]; exact h.rq⟩
set_option maxRecDepth 100000 in
set_option maxHeartbeats 40000000 in
theorem walk (x0 y0 z0 u0 : Int) (a1 : Option Addr) (len1 cap1 : Nat) (z1 : List Int) (a2 : Option Addr) (len2 cap2 : Nat) (z2 : List Int) (a3 : Int) (w : World) (w0 : ((Lit.int .i64 x0).wf = true ∧ (Lit.int .i64 y0).wf = true) ∧ (Lit.int .i64 z0).wf = true ∧ (Lit.int .i64 u0).wf = true) (w1 : IsRow .i64 w a1 len1 cap1 z1) (w2 : IsRow .i64 w a2 len2 cap2 z2) (w3 : (Lit.int .i64 a3).wf = true) :
    Calls Try.prog 6 #[.agg #[.int .i64 x0, .int .i64 y0, .int .i64 z0, .int .i64 u0], .slice a1 len1 cap1, .slice a2 len2 cap2, .int .i64 a3] w fun e w' => e = .returned (.bool true) ∧ Below w.heap.size w w' := by
  have bx := wf_i64 w0.1.1
  have bY := wf_i64 w0.1.2
  have bz := wf_i64 w0.2.1
  have bu := wf_i64 w0.2.2
  obtain ⟨l1, hl1, hr1, hb1, hc1, hm1⟩ := row_int w1
  obtain ⟨l2, hl2, hr2, hb2, hc2, hm2⟩ := row_int w2
  have b3 := wf_i64 w3
  have rn1 := RN.of_reads hr1 hl1 hc1
  have rn2 := RN.of_reads hr2 hl2 hc2
  have hnew := fun W => new_ch W 4 (by omega)
  have hnew2 := fun W => refNew_any W 4 (by omega)
  have hrm := fun W m hm => room_any W x0 y0 z0 u0 m hm bx bY bz bu
  have hch := fun W (hb : Below w.heap.size w W) => choice_any W _ a2 len2 cap2 l2 (rn2.below hb (Nat.le_refl _)) hl2 hb2
  have hcv := choiceV_ok l2
  generalize choiceV l2 = own at *
  have har3 := fun W (k : Int) h1 h2 => around_any a3 k W b3.1 b3.2 h1 h2
  have HNEW := Lib.hid hnew; have HNEW2 := Lib.hid hnew2; have HLV := Lib.hid lives_ch; have HRM := Lib.hid hrm; have HCH := Lib.hid hch; have HCV := Lib.hid hcv; have HAR3 := Lib.hid har3
  have HRN1 := Lib.hid rn1; have HL1 := Lib.hid hl1; have HB1 := Lib.hid hb1
  obtain ⟨n10, hn10⟩ : ∃ k, k = min len1 10 := ⟨_, rfl⟩
  have HN10 := Lib.hid hn10
  have hn1010 : n10 ≤ 10 := by omega
  have hn10l : n10 ≤ len1 := by omega
  clear hnew hnew2 hrm hch hcv har3 rn1 rn2 hr1 hr2 hl1 hl2 hb1 hb2 w0 w1 w2 w3 hn10 bx bY bz bu hc1 hc2 hm1 hm2 b3
  go_enter Try.func6, Try.ntmps6
  obtain ⟨W0, hW0⟩ : ∃ W, W = w.alloc (.cells #[.int .i64 x0, .int .i64 y0, .int .i64 z0, .int .i64 u0] 22) := ⟨_, rfl⟩
  have k0 : Blk W0 w.heap.size 22 #[.int .i64 x0, .int .i64 y0, .int .i64 z0, .int .i64 u0] := by rw [hW0]; exact Blk.new w _ _
  have hb0 : Below w.heap.size w W0 := by rw [hW0]; exact (Below.refl _ _).alloc (Nat.le_refl _) _
  have HW0 := Lib.hid hW0; have K0 := Lib.hid k0; have HB0 := Lib.hid hb0
  clear hW0 k0 hb0
  go_upto_region 1 with fail
  rw [← HW0.out]
  clear HW0
  go_wp2_with fail
  refine (HNEW.out _).mono ?_
  rintro e w1 ⟨b1, b2, b3, rfl, hM, hbel⟩
  obtain ⟨w2, hw2⟩ : ∃ W, W = w1.alloc (.cells (mkC b1 b2 b3 4) 28) := ⟨_, rfl⟩
  rw [← hw2] at hM hbel
  obtain ⟨g, hg⟩ : ∃ g, g = w1.heap.size := ⟨_, rfl⟩
  rw [← hg] at hM
  have HM := Lib.hid hM; have HBEL := Lib.hid hbel; have HW2 := Lib.hid hw2; have HG := Lib.hid hg
  clear hM hbel hw2 hg HNEW
  go_upto_region 2 with fail
  rw [← HW2.out, ← HG.out]
  clear HW2
  go_wp2_with fail
  refine (HNEW2.out _).mono ?_
  rintro e w3 ⟨r1, r2, r3, rfl, hat⟩
  obtain ⟨w4, hw4⟩ : ∃ W, W = w3.alloc (.cells (mkC r1 r2 r3 4) 28) := ⟨_, rfl⟩
  obtain ⟨gr, hgr⟩ : ∃ g, g = w3.heap.size := ⟨_, rfl⟩
  obtain ⟨hMr, hbr⟩ := new_box hat (by omega)
  rw [← hw4, ← hgr] at hMr
  rw [← hw4] at hbr
  have hM4 := HM.out.below hbr (Nat.le_refl _)
  have hbw4 : Below W0.heap.size W0 w4 := HBEL.out.trans (hbr.mono HBEL.out.size)
  have hsm := refSame_yes w4 _ _ (zN b1 b2 b3 4) (zN r1 r2 r3 4) 4 0 (newV 4) (hM4.doc (CkOk.new 4)) (hMr.doc (CkOk.new 4)) (CkOk.new 4) (by omega) (by omega)
  obtain ⟨p0, p1, p2, p3, p4, p5, p6, p7, p8, p9⟩ := hM4.all10
  obtain ⟨s0, s1, s2, s3, s4, s5, s6, s7, s8, s9⟩ := hMr.all10
  have HM4 := Lib.hid hM4; have HBW4 := Lib.hid hbw4; have HSM := Lib.hid hsm; have HW4 := Lib.hid hw4; have HGR := Lib.hid hgr
  clear hMr hbr hM4 hbw4 hsm hat HM HBEL HNEW2 hw4 hgr
  go_upto_region 3 with fail
  rw [← HW4.out, ← HGR.out]
  clear HW4 HGR
  go_wp2_with fail
  refine HSM.out.mono ?_
  rintro e w5 ⟨rfl, hb5⟩
  have hM5 := HM4.out.below hb5 (Nat.le_refl _)
  have hst : ChSt W0 w5 (mkH b1 b2 b3 4 g) (newV 4) := ⟨hM5, HBW4.out.trans (hb5.mono HBW4.out.size)⟩
  have HST := Lib.hid hst
  clear hM5 hst hb5 p0 p1 p2 p3 p4 p5 p6 p7 p8 p9 s0 s1 s2 s3 s4 s5 s6 s7 s8 s9 HM4 HBW4 HSM
  go_wp2_with fail
  go_loopw [11] (fun s11 wr => ∃ (i : Nat) (s : Ck), i ≤ n10 ∧ s11 = .int .i64 (i : Int) ∧ Hid (ChSt W0 wr (mkH b1 b2 b3 4 g) s ∧ FstI i s)) (fun s11 _ => n10 - (intOf s11).toNat)
  case atStart => exact ⟨0, newV 4, by omega, rfl, Lib.hid ⟨HST.out, FstI.start⟩⟩
  case round =>
    clear HST
    obtain ⟨i, s, hi, rfl, HI⟩ := hrel
    by_cases hlt : i < n10
    · have hil : i < l1.length := by rw [HL1.out]; omega
      have hbw : Below w.heap.size w wr := HB0.out.trans (HI.out.1.b.mono HB0.out.size)
      obtain ⟨ad, rfl, _, hab, hcx0⟩ := HRN1.out.at_ (i := i) hil
      have hcell : ∀ W, Below w.heap.size w W → W.cell? (ad.add i) = some (.int .i64 (gn l1 i)) := fun W hb => (hb.cell (p := ad.add i) (by rw [block_of_add]; exact hab)).trans hcx0
      have hcx := hcell wr hbw
      have hbx := HB1.out _ (gn_mem_ hil)
      generalize gn l1 i = x at *
      have hfi : HI.out.2.ok = HI.out.2.ok := rfl
      have har := around_any x 4 wr hbx.1 hbx.2 (by omega) (by omega)
      rw [chV_eq] at har
      have hml := chV_lt x
      have hfst := fun r t v => HI.out.2.send hml r t v
      have hsend := fun W (hT : ChSt W0 W (mkH b1 b2 b3 4 g) s) r (t : Int) v (ht : 0 ≤ t) => send_any hT.m HI.out.2.ok (by omega) (by omega) (chV x) hml r t v ht
      generalize chV x = m at *
      have hwr10 : IntKind.i64.wrap (10 + (i : Int)) = 10 + (i : Int) := IntWalk.i64_in _ (by omega)
      have hkc : ∀ W, Below W0.heap.size W0 W → W.cell? ⟨w.heap.size, 0, none⟩ = some (.int .i64 x0) ∧ W.cell? ⟨w.heap.size, 1, none⟩ = some (.int .i64 y0) ∧ W.cell? ⟨w.heap.size, 2, none⟩ = some (.int .i64 z0) ∧ W.cell? ⟨w.heap.size, 3, none⟩ = some (.int .i64 u0) ∧ W.cell? (ad.add i) = some (.int .i64 x) := fun W hb => by
        have k2 := K0.out.below hb K0.out.lt
        exact ⟨(k2.cell 0).trans rfl, (k2.cell 1).trans rfl, (k2.cell 2).trans rfl, (k2.cell 3).trans rfl, hcell W (HB0.out.trans (hb.mono HB0.out.size))⟩
      obtain ⟨c0, c1, c2, c3, c4⟩ := hkc wr HI.out.1.b
      have hrmw := HRM.out wr.drew m hml
      have q0 : (0 : Int) ≤ (i : Int) := by omega
      have q1 : (i : Int) < (len1 : Int) := by omega
      have q2 : (i : Int) < 10 := by omega
      have HAR := Lib.hid har; have HSD := Lib.hid hsend; have HKC := Lib.hid hkc; have HFST := Lib.hid hfst; have HRMW := Lib.hid hrmw
      have HS0 := Lib.hid HI.out.1
      clear har hsend hkc hfst hbx hfi hil hcell hcx0 hab hbw HI hrmw
      generalize roomV x0 y0 z0 u0 m = rr at *
      go_wp2_with fail
      refine HAR.out.mono ?_
      rintro e w6 ⟨rfl, rfl⟩
      go_wp2_with fail
      have G0 := HKC.out wr.drew ((HS0.out.b).drew)
      go_region_held3 (fun w' => w'.cell? ⟨w.heap.size, 0, none⟩ = some (.int .i64 x0) ∧ w'.cell? ⟨w.heap.size, 1, none⟩ = some (.int .i64 y0) ∧ w'.cell? ⟨w.heap.size, 2, none⟩ = some (.int .i64 z0) ∧ w'.cell? ⟨w.heap.size, 3, none⟩ = some (.int .i64 u0) ∧ w'.cell? (ad.add i) = some (.int .i64 x))
        (first | with_reducible exact G8 | with_reducible exact G7 | with_reducible exact G0 | go_keep)
        (first
          | (go_simp; with_reducible refine HRMW.out.mono ?_
             rintro e w7 ⟨rfl, hb7⟩
             have HS7 := Lib.hid (HS0.out.later (((Below.refl _ _).drew).trans hb7))
             have G7 := HKC.out w7 HS7.out.b)
          | (go_simp; with_reducible refine (HSD.out w7 HS7.out _ _ _ (by omega)).mono ?_
             rintro e w8 ⟨rfl, hT8⟩
             have HS8 := Lib.hid (HS7.out.of hT8)
             have G8 := HKC.out w8 HS8.out.b)
          | fail)
      go_wp2_with fail
      exact ⟨⟨i + 1, _, by omega, by go_num, Lib.hid ⟨HS8.out, HFST.out _ _ _⟩⟩, by simp [intOf]; omega⟩
    · have hcases : ¬ ((i : Int) < (len1 : Int) ∧ (i : Int) < 10) := by have := HN10.out; omega
      have HST := Lib.hid HI.out.1; have HFS := Lib.hid HI.out.2
      have hcw := HCH.out wr (HB0.out.trans (HI.out.1.b.mono HB0.out.size))
      have HCW := Lib.hid hcw
      clear hcw HI HCH
      by_cases hge : (i : Int) < (len1 : Int)
      · have hge2 : ¬ (i : Int) < 10 := fun e => hcases ⟨hge, e⟩
        clear hcases
        go_wp2_with fail
        refine HCW.out.mono ?_
        rintro e w6 ⟨v, rfl, hown, hb6⟩
        obtain ⟨Ao, co, rfl⟩ := own_form_any hown
        have hrno : RN w6 (fun i => wr.heap.size ≤ i) Ao co (natI own) := RN.of_own hown
        have hlen : (natI own).length = own.length := by simp
        rw [hlen]
        have hst6 := HST.out.later hb6
        obtain ⟨hnd, hin, hk0, hk5⟩ := HCV.out
        obtain ⟨ko, hko⟩ : ∃ k, k = own.length := ⟨_, rfl⟩
        rw [← hko] at hk0 hk5 hlen ⊢
        have hWl := fun k (hk : (mkH b1 b2 b3 4 g).W k) => (HST.out.m.wlt hk).2.1
        have HRNO := Lib.hid hrno; have HLEN := Lib.hid hlen; have HST6 := Lib.hid hst6; have HND := Lib.hid hnd; have HIN := Lib.hid hin; have HKO := Lib.hid hko; have HWL := Lib.hid hWl
        have hat : ∀ j, j < ko → ∃ m : Nat, own[j]? = some m ∧ m < 4 ∧ (natI own)[j]? = some (m : Int) ∧ own.drop j = m :: own.drop (j + 1) := fun j hj => by
          have hjl : j < own.length := by omega
          refine ⟨own[j], List.getElem?_eq_getElem hjl, hin _ (List.getElem_mem hjl), ?_, List.drop_eq_getElem_cons hjl⟩
          rw [List.getElem?_map, List.getElem?_eq_getElem hjl]
          rfl
        have HAT := Lib.hid hat
        obtain ⟨WRZ, hWRZ⟩ : ∃ z, z = wr.heap.size := ⟨_, rfl⟩
        rw [← hWRZ] at HRNO HWL
        clear hown hb6 hrno hlen hst6 hnd hin hko hWl hat HST HCW HCV hWRZ
        go_wp2_with fail
        go_loopw [14, 15, 16] (fun s14 s15 s16 wr2 => ∃ (j : Nat) (wnt : Int), j ≤ ko ∧ s15 = .int .i64 (j : Int) ∧ s14 = .int .i64 wnt ∧ -1 ≤ wnt ∧ wnt ≤ 1000 ∧ Hid (ChSt W0 wr2 (mkH b1 b2 b3 4 g) s ∧ Below w6.heap.size w6 wr2 ∧ ((wnt = -1 ∧ firstV s own 0 = firstV s (own.drop j) j) ∨ (∃ p m : Nat, wnt = (p : Int) ∧ firstV s own 0 = some (p, m))))) (fun _ s15 _ _ => ko - (intOf s15).toNat)
        case atStart => exact ⟨0, -1, by omega, rfl, rfl, by omega, by omega, Lib.hid ⟨HST6.out, Below.refl _ _, .inl ⟨rfl, rfl⟩⟩⟩
        case round =>
          clear HST6
          obtain ⟨j, wnt, hj, rfl, rfl, hw1, hw2, HI⟩ := hrel
          by_cases hgo : j < ko ∧ wnt < 0
          · obtain ⟨hjk, hwn⟩ := hgo
            have hwm : wnt = -1 := by omega
            subst hwm
            obtain ⟨m, hom, hm4, hnm, hdr⟩ := HAT.out j hjk
            obtain ⟨ad, rfl, _, hab, hcx⟩ := (HRNO.out.below HI.out.2.1 (Nat.le_refl _)).at_ (i := j) (by rw [HLEN.out]; exact hjk)
            have hgn : gn (natI own) j = (m : Int) := by
              have h3 := gn_some (l := natI own) (m := j) (by rw [HLEN.out]; exact hjk)
              rw [hnm] at h3
              exact (Option.some.inj h3).symm
            rw [hgn] at hcx
            have hrd := ready_yes (HI.out.1.m.drewN 1) HFS.out.ok (by omega) (by omega) m hm4
            obtain ⟨y0', y1', y2', y3', y4', y5', y6', y7', y8', y9'⟩ := HI.out.1.m.all10
            have hfs : firstV s own 0 = firstV s (m :: own.drop (j + 1)) j := by
              rcases HI.out.2.2 with ⟨_, h⟩ | ⟨p, _, h, _⟩
              · rw [h, hdr]
              · omega
            rw [show firstV s (m :: own.drop (j + 1)) j = if readyV s m then some (j, m) else firstV s (own.drop (j + 1)) (j + 1) from rfl] at hfs
            have hkc : ∀ W, Below wr.heap.size wr W → W.cell? ⟨g, 0, none⟩ = some (.int .i64 0) ∧ W.cell? ⟨g, 1, none⟩ = some NilS ∧ W.cell? ⟨g, 2, none⟩ = some NilS ∧ W.cell? ⟨g, 3, none⟩ = some NilS ∧ W.cell? ⟨g, 4, none⟩ = some (.slice (some ⟨b1, 0, none⟩) 4 4) ∧ W.cell? ⟨g, 5, none⟩ = some NilS ∧ W.cell? ⟨g, 6, none⟩ = some NilS ∧ W.cell? ⟨g, 7, none⟩ = some NilS ∧ W.cell? ⟨g, 8, none⟩ = some (.slice (some ⟨b2, 0, none⟩) 4 4) ∧ W.cell? ⟨g, 9, none⟩ = some (.slice (some ⟨b3, 0, none⟩) 4 4) ∧ W.cell? (ad.add j) = some (.int .i64 (m : Int)) := fun W hb => by
              obtain ⟨z0', z1', z2', z3', z4', z5', z6', z7', z8', z9'⟩ := (HI.out.1.m.below hb (Nat.le_refl _)).all10
              exact ⟨z0', z1', z2', z3', z4', z5', z6', z7', z8', z9', (hb.cell (p := ad.add j) (by rw [block_of_add]; exact hab)).trans hcx⟩
            have q1 : (j : Int) < (ko : Int) := by omega
            have q0 : (0 : Int) ≤ (j : Int) := by omega
            have HSW := Lib.hid HI.out.1; have HBW := Lib.hid HI.out.2.1; have HFSV := Lib.hid hfs; have HKC := Lib.hid hkc; have HRD := Lib.hid hrd
            clear hfs hrd hkc hgn hdr hnm hom HI hab
            go_wp2_with fail
            have G0 := HKC.out wr.drew (Below.refl _ _).drew
            go_region_held3 (fun w' => w'.cell? ⟨g, 0, none⟩ = some (.int .i64 0) ∧ w'.cell? ⟨g, 1, none⟩ = some NilS ∧ w'.cell? ⟨g, 2, none⟩ = some NilS ∧ w'.cell? ⟨g, 3, none⟩ = some NilS ∧ w'.cell? ⟨g, 4, none⟩ = some (.slice (some ⟨b1, 0, none⟩) 4 4) ∧ w'.cell? ⟨g, 5, none⟩ = some NilS ∧ w'.cell? ⟨g, 6, none⟩ = some NilS ∧ w'.cell? ⟨g, 7, none⟩ = some NilS ∧ w'.cell? ⟨g, 8, none⟩ = some (.slice (some ⟨b2, 0, none⟩) 4 4) ∧ w'.cell? ⟨g, 9, none⟩ = some (.slice (some ⟨b3, 0, none⟩) 4 4) ∧ w'.cell? (ad.add j) = some (.int .i64 (m : Int)))
              (first | with_reducible exact G8 | with_reducible exact G0 | go_keep)
              (first
                | (go_simp; refine HRD.out.mono ?_
                   rintro e w8 ⟨rfl, hb8⟩
                   have hb88 := ((Below.refl wr.heap.size wr).drew).trans hb8
                   have G8 := HKC.out w8 hb88)
                | fail)
            have HB8 := Lib.hid hb88
            clear hb88 hb8 G8 G0 y0' y1' y2' y3' y4' y5' y6' y7' y8' y9'
            cases hrv : readyV s m with
            | true =>
              have hf := HFSV.out
              rw [hrv] at hf
              simp only [if_true] at hf
              have HF := Lib.hid hf
              clear hf
              go_wp2_with fail
              exact ⟨⟨j + 1, (j : Int), by omega, by go_num, rfl, by omega, by omega, Lib.hid ⟨HSW.out.later HB8.out, HBW.out.trans (HB8.out.mono HBW.out.size), .inr ⟨j, m, rfl, HF.out⟩⟩⟩, by simp [intOf]; omega⟩
            | false =>
              have hf := HFSV.out
              rw [hrv] at hf
              simp only [Bool.false_eq_true, if_false] at hf
              have HF := Lib.hid hf
              clear hf
              go_wp2_with fail
              exact ⟨⟨j + 1, -1, by omega, by go_num, rfl, by omega, by omega, Lib.hid ⟨HSW.out.later HB8.out, HBW.out.trans (HB8.out.mono HBW.out.size), .inl ⟨rfl, HF.out⟩⟩⟩, by simp [intOf]; omega⟩
          · have hrn := HRNO.out.below HI.out.2.1 (Nat.le_refl _)
            have hD0 : ∀ i, WRZ ≤ i → ¬ (mkH b1 b2 b3 4 g).W i := fun i h1 h2 => by have := HWL.out i h2; omega
            have hsel := select_any HI.out.1.m HFS.out.ok (by omega) (by omega) _ Ao ko co own hrn HKO.out.symm hk0 (by omega) HND.out HIN.out hD0 1 (by omega)
            have HSW := Lib.hid HI.out.1; have HRN2 := Lib.hid hrn; have HD0 := Lib.hid hD0
            clear hrn hD0
            by_cases hneg : wnt < 0
            · have hjk : ¬ j < ko := fun e => hgo ⟨e, hneg⟩
              have hno : firstV s own 0 = none := by
                rcases HI.out.2.2 with ⟨_, h⟩ | ⟨p, _, h, _⟩
                · rw [h, List.drop_eq_nil_of_le (by rw [← HKO.out]; omega)]
                  rfl
                · omega
              have hwm : wnt = -1 := by omega
              subst hwm
              have hsv : selectV s own 1 = (waitAll 1 own s, -1, 0, -1, false) := by
                unfold selectV
                rw [hno]
              rw [hsv] at hsel
              have har := aroundV_lt (n := a3) (m := (ko : Int)) (by omega)
              have har3 := fun W => HAR3.out W (ko : Int) (by omega) (by omega)
              obtain ⟨r, hr⟩ := Int.eq_ofNat_of_zero_le har.1
              have hrk : r < ko := by omega
              rw [hr] at har3
              obtain ⟨m, hom, hm4, hnm, _⟩ := HAT.out r hrk
              have hmem : m ∈ own := List.mem_of_getElem? hom
              have hO3 := HFS.out.ok.waitAll 1 own HIN.out
              have hrq3 : gl (waitAll 1 own s).rq m = [1] := by
                rw [waitAll_rq 1 own s m HND.out (fun k hk => by rw [HFS.out.rq]; simpa using HIN.out k hk), if_pos hmem, HFS.out.rq, gl_rep]
                rfl
              have hsd : sendV (waitAll 1 own s) m 0 2 7 = (cancelV (waitAll 1 own s) 1, 1, true) := by
                unfold sendV
                rw [hrq3]
              have hd3 := cancel_did (waitAll 1 own s) 1
              have hix99 := idxV_no (natI own) 99 0 (fun e => by
                obtain ⟨k, hk, he⟩ := List.mem_map.1 e
                have := HIN.out k hk
                omega)
              have hbig : 2 * i + own.length ≤ 100 := by rw [← HKO.out]; omega
              have HSEL := Lib.hid hsel; have HAR := Lib.hid har3; have HO3 := Lib.hid hO3; have HSD := Lib.hid hsd; have HD3 := Lib.hid hd3; have H99 := Lib.hid hix99; have HNM := Lib.hid hnm; have HBIG := Lib.hid hbig
              generalize waitAll 1 own s = s3 at *
              have q1 : ¬ (j : Int) < (ko : Int) := by omega
              clear hsel har har3 hO3 hrq3 hsd hd3 hix99 hmem hom hnm hsv hno HI hgo hjk hr hbig
              go_wp2_with fail
              refine HSEL.out.mono ?_
              rintro e w9 ⟨rfl, hT9⟩
              have hrn9 := HRN2.out.fr hT9.2 (fun i hi _ => HD0.out i hi)
              obtain ⟨ad, rfl, _, hab, hcx⟩ := hrn9.at_ (i := r) (by rw [HLEN.out]; exact hrk)
              have hgn : gn (natI own) r = (m : Int) := by
                have h3 := gn_some (l := natI own) (m := r) (by rw [HLEN.out]; exact hrk)
                rw [HNM.out] at h3
                exact (Option.some.inj h3).symm
              rw [hgn] at hcx
              have hse := send_any hT9.1 HO3.out (by have := HBIG.out; omega) (by omega) m hm4 0 2 7 (by omega)
              rw [HSD.out] at hse
              have hst9 := HSW.out.of hT9
              have q2 : (r : Int) < (ko : Int) := by omega
              have q3 : (0 : Int) ≤ (r : Int) := by omega
              have HSE := Lib.hid hse; have HST9 := Lib.hid hst9; have HRN9 := Lib.hid hrn9
              clear hT9 hse hst9 hrn9 hgn hab
              go_wp2_with fail
              refine (HAR.out _).mono ?_
              rintro e w' ⟨rfl, rfl⟩
              go_wp2_with fail
              refine HSE.out.mono ?_
              rintro e w10 ⟨rfl, hT10⟩
              have hst10 := HST9.out.of hT10
              have hca := cancel_any w10 W0.heap.size _ _ hst10.m _ _ (HO3.out.cancel 1) (by omega) (by have := HBIG.out; omega) (by omega) 1
              rw [HD3.out] at hca
              have hrn10 := HRN9.out.fr hT10.2 (fun i hi _ => HD0.out i hi)
              have HCA := Lib.hid hca; have HST10 := Lib.hid hst10; have HRN10 := Lib.hid hrn10
              clear hca hst10 hrn10 hT10 hcx
              go_wp2_with fail
              refine HCA.out.mono ?_
              rintro e w11 ⟨rfl, hT11⟩
              have hst11 := HST10.out.of hT11
              have hrn11 := HRN10.out.fr hT11.2 (fun i hi _ => HD0.out i hi)
              have hi1 := index_any w11 _ _ co ko (natI own) ((m : Nat) : Int) hrn11 HLEN.out (by omega)
              have hi2 := refIndex_any w11 _ _ co ko (natI own) ((m : Nat) : Int) hrn11 HLEN.out (by omega)
              have hi3 := index_any w11 _ _ co ko (natI own) 99 hrn11 HLEN.out (by omega)
              rw [H99.out] at hi3
              generalize idxV ((m : Nat) : Int) (natI own) 0 = ix at *
              have HI1 := Lib.hid hi1; have HI2 := Lib.hid hi2; have HI3 := Lib.hid hi3; have HST11 := Lib.hid hst11
              clear hi1 hi2 hi3 hst11 hT11 hrn11
              go_wp2_with fail
              refine HI1.out.mono ?_
              rintro e w12 ⟨rfl, rfl⟩
              go_wp2_with fail
              refine HI2.out.mono ?_
              rintro e w13 ⟨rfl, rfl⟩
              go_wp2_with fail
              refine HI3.out.mono ?_
              rintro e w14 ⟨rfl, rfl⟩
              go_wp2_with fail
              refine (HLV.out _).mono ?_
              rintro e w15 ⟨rfl, hbl⟩
              go_wp2_with fail
              go_ret
              exact ⟨rfl, HB0.out.trans ((HST11.out.b.trans (hbl.mono HST11.out.b.size)).mono HB0.out.size)⟩
            · obtain ⟨p, m, hwp, hfv⟩ : ∃ p m : Nat, wnt = (p : Int) ∧ firstV s own 0 = some (p, m) := by
                rcases HI.out.2.2 with ⟨h, _⟩ | h
                · omega
                · exact h
              subst hwp
              have hmo := firstV_mem own 0 hfv
              have hm4 := HIN.out m hmo.1
              have hrr := recv_ready HFS.out.ok hm4 1 hmo.2.2.2
              have hsv : selectV s own 1 = ((recvV s m 1).1, (p : Int), (recvV s m 1).2.1, (recvV s m 1).2.2.1, true) := by
                unfold selectV
                rw [hfv]
                simp only [hrr.1]
              rw [hsv] at hsel
              have hO9 := HFS.out.ok.recv hm4 1
              have hd9 : didV (recvV s m 1).1 1 = false := rep_did 4 1 (by rw [hrr.2]; exact HFS.out.rq)
              have HSEL := Lib.hid hsel; have HO9 := Lib.hid hO9; have HD9 := Lib.hid hd9
              have qp : decide ((p : Int) ≥ 0) = true := by simp
              have qn : ¬ (p : Int) < 0 := by omega
              have qp10 : p ≤ 1000 := by omega
              clear hsel hO9 hd9 hsv hrr hmo hfv hneg hgo HI
              generalize recvV s m 1 = res at *
              obtain ⟨s9, v9, f9, ok9⟩ := res
              by_cases hjk : (j : Int) < (ko : Int)
              · go_wp2_with fail
                refine HSEL.out.mono ?_
                rintro e w9 ⟨rfl, hT9⟩
                have hst9 := HSW.out.of hT9
                have hca := cancel_any w9 W0.heap.size _ _ hst9.m _ _ HO9.out (by omega) (by omega) (by omega) 1
                rw [HD9.out] at hca
                have HCA := Lib.hid hca; have HST9 := Lib.hid hst9
                clear hT9 hca hst9
                go_wp2_with fail
                refine HCA.out.mono ?_
                rintro e w10 ⟨rfl, hT10⟩
                have HST10 := Lib.hid (HST9.out.of hT10)
                clear hT10
                go_wp2_with fail
                refine (HLV.out _).mono ?_
                rintro e w15 ⟨rfl, hbl⟩
                go_wp2_with fail
                go_ret
                exact ⟨rfl, HB0.out.trans ((HST10.out.b.trans (hbl.mono HST10.out.b.size)).mono HB0.out.size)⟩
              · go_wp2_with fail
                refine HSEL.out.mono ?_
                rintro e w9 ⟨rfl, hT9⟩
                have hst9 := HSW.out.of hT9
                have hca := cancel_any w9 W0.heap.size _ _ hst9.m _ _ HO9.out (by omega) (by omega) (by omega) 1
                rw [HD9.out] at hca
                have HCA := Lib.hid hca; have HST9 := Lib.hid hst9
                clear hT9 hca hst9
                go_wp2_with fail
                refine HCA.out.mono ?_
                rintro e w10 ⟨rfl, hT10⟩
                have HST10 := Lib.hid (HST9.out.of hT10)
                clear hT10
                go_wp2_with fail
                refine (HLV.out _).mono ?_
                rintro e w15 ⟨rfl, hbl⟩
                go_wp2_with fail
                go_ret
                exact ⟨rfl, HB0.out.trans ((HST10.out.b.trans (hbl.mono HST10.out.b.size)).mono HB0.out.size)⟩
      · clear hcases
        go_wp2_with fail
        refine HCW.out.mono ?_
        rintro e w6 ⟨v, rfl, hown, hb6⟩
        obtain ⟨Ao, co, rfl⟩ := own_form_any hown
        have hrno : RN w6 (fun i => wr.heap.size ≤ i) Ao co (natI own) := RN.of_own hown
        have hlen : (natI own).length = own.length := by simp
        rw [hlen]
        have hst6 := HST.out.later hb6
        obtain ⟨hnd, hin, hk0, hk5⟩ := HCV.out
        obtain ⟨ko, hko⟩ : ∃ k, k = own.length := ⟨_, rfl⟩
        rw [← hko] at hk0 hk5 hlen ⊢
        have hWl := fun k (hk : (mkH b1 b2 b3 4 g).W k) => (HST.out.m.wlt hk).2.1
        have HRNO := Lib.hid hrno; have HLEN := Lib.hid hlen; have HST6 := Lib.hid hst6; have HND := Lib.hid hnd; have HIN := Lib.hid hin; have HKO := Lib.hid hko; have HWL := Lib.hid hWl
        have hat : ∀ j, j < ko → ∃ m : Nat, own[j]? = some m ∧ m < 4 ∧ (natI own)[j]? = some (m : Int) ∧ own.drop j = m :: own.drop (j + 1) := fun j hj => by
          have hjl : j < own.length := by omega
          refine ⟨own[j], List.getElem?_eq_getElem hjl, hin _ (List.getElem_mem hjl), ?_, List.drop_eq_getElem_cons hjl⟩
          rw [List.getElem?_map, List.getElem?_eq_getElem hjl]
          rfl
        have HAT := Lib.hid hat
        obtain ⟨WRZ, hWRZ⟩ : ∃ z, z = wr.heap.size := ⟨_, rfl⟩
        rw [← hWRZ] at HRNO HWL
        clear hown hb6 hrno hlen hst6 hnd hin hko hWl hat HST HCW HCV hWRZ
        go_wp2_with fail
        go_loopw [14, 15, 16] (fun s14 s15 s16 wr2 => ∃ (j : Nat) (wnt : Int), j ≤ ko ∧ s15 = .int .i64 (j : Int) ∧ s14 = .int .i64 wnt ∧ -1 ≤ wnt ∧ wnt ≤ 1000 ∧ Hid (ChSt W0 wr2 (mkH b1 b2 b3 4 g) s ∧ Below w6.heap.size w6 wr2 ∧ ((wnt = -1 ∧ firstV s own 0 = firstV s (own.drop j) j) ∨ (∃ p m : Nat, wnt = (p : Int) ∧ firstV s own 0 = some (p, m))))) (fun _ s15 _ _ => ko - (intOf s15).toNat)
        case atStart => exact ⟨0, -1, by omega, rfl, rfl, by omega, by omega, Lib.hid ⟨HST6.out, Below.refl _ _, .inl ⟨rfl, rfl⟩⟩⟩
        case round =>
          clear HST6
          obtain ⟨j, wnt, hj, rfl, rfl, hw1, hw2, HI⟩ := hrel
          by_cases hgo : j < ko ∧ wnt < 0
          · obtain ⟨hjk, hwn⟩ := hgo
            have hwm : wnt = -1 := by omega
            subst hwm
            obtain ⟨m, hom, hm4, hnm, hdr⟩ := HAT.out j hjk
            obtain ⟨ad, rfl, _, hab, hcx⟩ := (HRNO.out.below HI.out.2.1 (Nat.le_refl _)).at_ (i := j) (by rw [HLEN.out]; exact hjk)
            have hgn : gn (natI own) j = (m : Int) := by
              have h3 := gn_some (l := natI own) (m := j) (by rw [HLEN.out]; exact hjk)
              rw [hnm] at h3
              exact (Option.some.inj h3).symm
            rw [hgn] at hcx
            have hrd := ready_yes (HI.out.1.m.drewN 1) HFS.out.ok (by omega) (by omega) m hm4
            obtain ⟨y0', y1', y2', y3', y4', y5', y6', y7', y8', y9'⟩ := HI.out.1.m.all10
            have hfs : firstV s own 0 = firstV s (m :: own.drop (j + 1)) j := by
              rcases HI.out.2.2 with ⟨_, h⟩ | ⟨p, _, h, _⟩
              · rw [h, hdr]
              · omega
            rw [show firstV s (m :: own.drop (j + 1)) j = if readyV s m then some (j, m) else firstV s (own.drop (j + 1)) (j + 1) from rfl] at hfs
            have hkc : ∀ W, Below wr.heap.size wr W → W.cell? ⟨g, 0, none⟩ = some (.int .i64 0) ∧ W.cell? ⟨g, 1, none⟩ = some NilS ∧ W.cell? ⟨g, 2, none⟩ = some NilS ∧ W.cell? ⟨g, 3, none⟩ = some NilS ∧ W.cell? ⟨g, 4, none⟩ = some (.slice (some ⟨b1, 0, none⟩) 4 4) ∧ W.cell? ⟨g, 5, none⟩ = some NilS ∧ W.cell? ⟨g, 6, none⟩ = some NilS ∧ W.cell? ⟨g, 7, none⟩ = some NilS ∧ W.cell? ⟨g, 8, none⟩ = some (.slice (some ⟨b2, 0, none⟩) 4 4) ∧ W.cell? ⟨g, 9, none⟩ = some (.slice (some ⟨b3, 0, none⟩) 4 4) ∧ W.cell? (ad.add j) = some (.int .i64 (m : Int)) := fun W hb => by
              obtain ⟨z0', z1', z2', z3', z4', z5', z6', z7', z8', z9'⟩ := (HI.out.1.m.below hb (Nat.le_refl _)).all10
              exact ⟨z0', z1', z2', z3', z4', z5', z6', z7', z8', z9', (hb.cell (p := ad.add j) (by rw [block_of_add]; exact hab)).trans hcx⟩
            have q1 : (j : Int) < (ko : Int) := by omega
            have q0 : (0 : Int) ≤ (j : Int) := by omega
            have HSW := Lib.hid HI.out.1; have HBW := Lib.hid HI.out.2.1; have HFSV := Lib.hid hfs; have HKC := Lib.hid hkc; have HRD := Lib.hid hrd
            clear hfs hrd hkc hgn hdr hnm hom HI hab
            go_wp2_with fail
            have G0 := HKC.out wr.drew (Below.refl _ _).drew
            go_region_held3 (fun w' => w'.cell? ⟨g, 0, none⟩ = some (.int .i64 0) ∧ w'.cell? ⟨g, 1, none⟩ = some NilS ∧ w'.cell? ⟨g, 2, none⟩ = some NilS ∧ w'.cell? ⟨g, 3, none⟩ = some NilS ∧ w'.cell? ⟨g, 4, none⟩ = some (.slice (some ⟨b1, 0, none⟩) 4 4) ∧ w'.cell? ⟨g, 5, none⟩ = some NilS ∧ w'.cell? ⟨g, 6, none⟩ = some NilS ∧ w'.cell? ⟨g, 7, none⟩ = some NilS ∧ w'.cell? ⟨g, 8, none⟩ = some (.slice (some ⟨b2, 0, none⟩) 4 4) ∧ w'.cell? ⟨g, 9, none⟩ = some (.slice (some ⟨b3, 0, none⟩) 4 4) ∧ w'.cell? (ad.add j) = some (.int .i64 (m : Int)))
              (first | with_reducible exact G8 | with_reducible exact G0 | go_keep)
              (first
                | (go_simp; refine HRD.out.mono ?_
                   rintro e w8 ⟨rfl, hb8⟩
                   have hb88 := ((Below.refl wr.heap.size wr).drew).trans hb8
                   have G8 := HKC.out w8 hb88)
                | fail)
            have HB8 := Lib.hid hb88
            clear hb88 hb8 G8 G0 y0' y1' y2' y3' y4' y5' y6' y7' y8' y9'
            cases hrv : readyV s m with
            | true =>
              have hf := HFSV.out
              rw [hrv] at hf
              simp only [if_true] at hf
              have HF := Lib.hid hf
              clear hf
              go_wp2_with fail
              exact ⟨⟨j + 1, (j : Int), by omega, by go_num, rfl, by omega, by omega, Lib.hid ⟨HSW.out.later HB8.out, HBW.out.trans (HB8.out.mono HBW.out.size), .inr ⟨j, m, rfl, HF.out⟩⟩⟩, by simp [intOf]; omega⟩
            | false =>
              have hf := HFSV.out
              rw [hrv] at hf
              simp only [Bool.false_eq_true, if_false] at hf
              have HF := Lib.hid hf
              clear hf
              go_wp2_with fail
              exact ⟨⟨j + 1, -1, by omega, by go_num, rfl, by omega, by omega, Lib.hid ⟨HSW.out.later HB8.out, HBW.out.trans (HB8.out.mono HBW.out.size), .inl ⟨rfl, HF.out⟩⟩⟩, by simp [intOf]; omega⟩
          · have hrn := HRNO.out.below HI.out.2.1 (Nat.le_refl _)
            have hD0 : ∀ i, WRZ ≤ i → ¬ (mkH b1 b2 b3 4 g).W i := fun i h1 h2 => by have := HWL.out i h2; omega
            have hsel := select_any HI.out.1.m HFS.out.ok (by omega) (by omega) _ Ao ko co own hrn HKO.out.symm hk0 (by omega) HND.out HIN.out hD0 1 (by omega)
            have HSW := Lib.hid HI.out.1; have HRN2 := Lib.hid hrn; have HD0 := Lib.hid hD0
            clear hrn hD0
            by_cases hneg : wnt < 0
            · have hjk : ¬ j < ko := fun e => hgo ⟨e, hneg⟩
              have hno : firstV s own 0 = none := by
                rcases HI.out.2.2 with ⟨_, h⟩ | ⟨p, _, h, _⟩
                · rw [h, List.drop_eq_nil_of_le (by rw [← HKO.out]; omega)]
                  rfl
                · omega
              have hwm : wnt = -1 := by omega
              subst hwm
              have hsv : selectV s own 1 = (waitAll 1 own s, -1, 0, -1, false) := by
                unfold selectV
                rw [hno]
              rw [hsv] at hsel
              have har := aroundV_lt (n := a3) (m := (ko : Int)) (by omega)
              have har3 := fun W => HAR3.out W (ko : Int) (by omega) (by omega)
              obtain ⟨r, hr⟩ := Int.eq_ofNat_of_zero_le har.1
              have hrk : r < ko := by omega
              rw [hr] at har3
              obtain ⟨m, hom, hm4, hnm, _⟩ := HAT.out r hrk
              have hmem : m ∈ own := List.mem_of_getElem? hom
              have hO3 := HFS.out.ok.waitAll 1 own HIN.out
              have hrq3 : gl (waitAll 1 own s).rq m = [1] := by
                rw [waitAll_rq 1 own s m HND.out (fun k hk => by rw [HFS.out.rq]; simpa using HIN.out k hk), if_pos hmem, HFS.out.rq, gl_rep]
                rfl
              have hsd : sendV (waitAll 1 own s) m 0 2 7 = (cancelV (waitAll 1 own s) 1, 1, true) := by
                unfold sendV
                rw [hrq3]
              have hd3 := cancel_did (waitAll 1 own s) 1
              have hix99 := idxV_no (natI own) 99 0 (fun e => by
                obtain ⟨k, hk, he⟩ := List.mem_map.1 e
                have := HIN.out k hk
                omega)
              have hbig : 2 * i + own.length ≤ 100 := by rw [← HKO.out]; omega
              have HSEL := Lib.hid hsel; have HAR := Lib.hid har3; have HO3 := Lib.hid hO3; have HSD := Lib.hid hsd; have HD3 := Lib.hid hd3; have H99 := Lib.hid hix99; have HNM := Lib.hid hnm; have HBIG := Lib.hid hbig
              generalize waitAll 1 own s = s3 at *
              have q1 : ¬ (j : Int) < (ko : Int) := by omega
              clear hsel har har3 hO3 hrq3 hsd hd3 hix99 hmem hom hnm hsv hno HI hgo hjk hr hbig
              go_wp2_with fail
              refine HSEL.out.mono ?_
              rintro e w9 ⟨rfl, hT9⟩
              have hrn9 := HRN2.out.fr hT9.2 (fun i hi _ => HD0.out i hi)
              obtain ⟨ad, rfl, _, hab, hcx⟩ := hrn9.at_ (i := r) (by rw [HLEN.out]; exact hrk)
              have hgn : gn (natI own) r = (m : Int) := by
                have h3 := gn_some (l := natI own) (m := r) (by rw [HLEN.out]; exact hrk)
                rw [HNM.out] at h3
                exact (Option.some.inj h3).symm
              rw [hgn] at hcx
              have hse := send_any hT9.1 HO3.out (by have := HBIG.out; omega) (by omega) m hm4 0 2 7 (by omega)
              rw [HSD.out] at hse
              have hst9 := HSW.out.of hT9
              have q2 : (r : Int) < (ko : Int) := by omega
              have q3 : (0 : Int) ≤ (r : Int) := by omega
              have HSE := Lib.hid hse; have HST9 := Lib.hid hst9; have HRN9 := Lib.hid hrn9
              clear hT9 hse hst9 hrn9 hgn hab
              go_wp2_with fail
              refine (HAR.out _).mono ?_
              rintro e w' ⟨rfl, rfl⟩
              go_wp2_with fail
              refine HSE.out.mono ?_
              rintro e w10 ⟨rfl, hT10⟩
              have hst10 := HST9.out.of hT10
              have hca := cancel_any w10 W0.heap.size _ _ hst10.m _ _ (HO3.out.cancel 1) (by omega) (by have := HBIG.out; omega) (by omega) 1
              rw [HD3.out] at hca
              have hrn10 := HRN9.out.fr hT10.2 (fun i hi _ => HD0.out i hi)
              have HCA := Lib.hid hca; have HST10 := Lib.hid hst10; have HRN10 := Lib.hid hrn10
              clear hca hst10 hrn10 hT10 hcx
              go_wp2_with fail
              refine HCA.out.mono ?_
              rintro e w11 ⟨rfl, hT11⟩
              have hst11 := HST10.out.of hT11
              have hrn11 := HRN10.out.fr hT11.2 (fun i hi _ => HD0.out i hi)
              have hi1 := index_any w11 _ _ co ko (natI own) ((m : Nat) : Int) hrn11 HLEN.out (by omega)
              have hi2 := refIndex_any w11 _ _ co ko (natI own) ((m : Nat) : Int) hrn11 HLEN.out (by omega)
              have hi3 := index_any w11 _ _ co ko (natI own) 99 hrn11 HLEN.out (by omega)
              rw [H99.out] at hi3
              generalize idxV ((m : Nat) : Int) (natI own) 0 = ix at *
              have HI1 := Lib.hid hi1; have HI2 := Lib.hid hi2; have HI3 := Lib.hid hi3; have HST11 := Lib.hid hst11
              clear hi1 hi2 hi3 hst11 hT11 hrn11
              go_wp2_with fail
              refine HI1.out.mono ?_
              rintro e w12 ⟨rfl, rfl⟩
              go_wp2_with fail
              refine HI2.out.mono ?_
              rintro e w13 ⟨rfl, rfl⟩
              go_wp2_with fail
              refine HI3.out.mono ?_
              rintro e w14 ⟨rfl, rfl⟩
              go_wp2_with fail
              refine (HLV.out _).mono ?_
              rintro e w15 ⟨rfl, hbl⟩
              go_wp2_with fail
              go_ret
              exact ⟨rfl, HB0.out.trans ((HST11.out.b.trans (hbl.mono HST11.out.b.size)).mono HB0.out.size)⟩
            · obtain ⟨p, m, hwp, hfv⟩ : ∃ p m : Nat, wnt = (p : Int) ∧ firstV s own 0 = some (p, m) := by
                rcases HI.out.2.2 with ⟨h, _⟩ | h
                · omega
                · exact h
              subst hwp
              have hmo := firstV_mem own 0 hfv
              have hm4 := HIN.out m hmo.1
              have hrr := recv_ready HFS.out.ok hm4 1 hmo.2.2.2
              have hsv : selectV s own 1 = ((recvV s m 1).1, (p : Int), (recvV s m 1).2.1, (recvV s m 1).2.2.1, true) := by
                unfold selectV
                rw [hfv]
                simp only [hrr.1]
              rw [hsv] at hsel
              have hO9 := HFS.out.ok.recv hm4 1
              have hd9 : didV (recvV s m 1).1 1 = false := rep_did 4 1 (by rw [hrr.2]; exact HFS.out.rq)
              have HSEL := Lib.hid hsel; have HO9 := Lib.hid hO9; have HD9 := Lib.hid hd9
              have qp : decide ((p : Int) ≥ 0) = true := by simp
              have qn : ¬ (p : Int) < 0 := by omega
              have qp10 : p ≤ 1000 := by omega
              clear hsel hO9 hd9 hsv hrr hmo hfv hneg hgo HI
              generalize recvV s m 1 = res at *
              obtain ⟨s9, v9, f9, ok9⟩ := res
              by_cases hjk : (j : Int) < (ko : Int)
              · go_wp2_with fail
                refine HSEL.out.mono ?_
                rintro e w9 ⟨rfl, hT9⟩
                have hst9 := HSW.out.of hT9
                have hca := cancel_any w9 W0.heap.size _ _ hst9.m _ _ HO9.out (by omega) (by omega) (by omega) 1
                rw [HD9.out] at hca
                have HCA := Lib.hid hca; have HST9 := Lib.hid hst9
                clear hT9 hca hst9
                go_wp2_with fail
                refine HCA.out.mono ?_
                rintro e w10 ⟨rfl, hT10⟩
                have HST10 := Lib.hid (HST9.out.of hT10)
                clear hT10
                go_wp2_with fail
                refine (HLV.out _).mono ?_
                rintro e w15 ⟨rfl, hbl⟩
                go_wp2_with fail
                go_ret
                exact ⟨rfl, HB0.out.trans ((HST10.out.b.trans (hbl.mono HST10.out.b.size)).mono HB0.out.size)⟩
              · go_wp2_with fail
                refine HSEL.out.mono ?_
                rintro e w9 ⟨rfl, hT9⟩
                have hst9 := HSW.out.of hT9
                have hca := cancel_any w9 W0.heap.size _ _ hst9.m _ _ HO9.out (by omega) (by omega) (by omega) 1
                rw [HD9.out] at hca
                have HCA := Lib.hid hca; have HST9 := Lib.hid hst9
                clear hT9 hca hst9
                go_wp2_with fail
                refine HCA.out.mono ?_
                rintro e w10 ⟨rfl, hT10⟩
                have HST10 := Lib.hid (HST9.out.of hT10)
                clear hT10
                go_wp2_with fail
                refine (HLV.out _).mono ?_
                rintro e w15 ⟨rfl, hbl⟩
                go_wp2_with fail
                go_ret
                exact ⟨rfl, HB0.out.trans ((HST10.out.b.trans (hbl.mono HST10.out.b.size)).mono HB0.out.size)⟩
end Go.Proofs.Ytbgigkamlnchcaa.chansChoice
