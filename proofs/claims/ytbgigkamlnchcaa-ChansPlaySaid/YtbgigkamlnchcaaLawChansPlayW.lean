
/-
  The walk of ChansPlay.
-/
import Derived.Test.YtbgigkamlnchcaaRows
import Derived.WalkKit
import Derived.ProofKit
import Derived.OpenShut
import Derived.ShutString
import Derived.ChangeOld
import Derived.Below
import Derived.Test.YtbgigkamlnchcaaChHo
import Derived.Test.YtbgigkamlnchcaaChOpD
namespace Go.Proofs.Ytbgigkamlnchcaa.chansPlay
open Go.ChangeShapes Go.WideShapes Go.ChangeAt Go.RowKit Go.Proofs.Ytbgigkamlnchcaa Go.Proofs.Ytbgigkamlnchcaa.Plain
open Go.ChangeMaps (open_string shut_string)
set_option linter.unusedVariables false


set_option maxRecDepth 100000 in
set_option maxHeartbeats 40000000 in
theorem walk (x0 y0 z0 u0 : Int) (a1 : Option Addr) (len1 cap1 : Nat) (z1 : List Deed10) (w : World) (w0 : ((Lit.int .i64 x0).wf = true ∧ (Lit.int .i64 y0).wf = true) ∧ (Lit.int .i64 z0).wf = true ∧ (Lit.int .i64 u0).wf = true) (w1 : IsDeeds10 w a1 len1 cap1 z1) :
    Calls Try.prog 3 #[.agg #[.int .i64 x0, .int .i64 y0, .int .i64 z0, .int .i64 u0], .slice a1 len1 cap1] w fun e w' => e = .returned (.bool true) ∧ Below w.heap.size w w' := by
  obtain ⟨hzl, hzc, hzm, hzd⟩ := w1
  have bx := wf_i64 w0.1.1
  have bY := wf_i64 w0.1.2
  have bz := wf_i64 w0.2.1
  have bu := wf_i64 w0.2.2
  have hnew := fun W => new_ch W 4 (by omega)
  have hnew2 := fun W => refNew_any W 4 (by omega)
  have hrm := fun W m hm => room_any W x0 y0 z0 u0 m hm bx bY bz bu
  have HNEW := Lib.hid hnew; have HNEW2 := Lib.hid hnew2; have HLV := Lib.hid lives_ch; have HRM := Lib.hid hrm
  have HZL := Lib.hid hzl; have HZD := Lib.hid hzd
  have HBX := Lib.hid bx; have HBY := Lib.hid bY; have HBZ := Lib.hid bz; have HBU := Lib.hid bu
  obtain ⟨n60, hn60⟩ : ∃ k, k = min len1 60 := ⟨_, rfl⟩
  have HN60 := Lib.hid hn60
  have hn600 : n60 ≤ 60 := by omega
  have hn6l : n60 ≤ len1 := by omega
  clear hnew hnew2 hrm hzl hzd hzc hzm w0 hn60 bx bY bz bu
  go_enter Try.func3, Try.ntmps3
  obtain ⟨W0, hW0⟩ : ∃ W, W = w.alloc (.cells #[.int .i64 x0, .int .i64 y0, .int .i64 z0, .int .i64 u0] 22) := ⟨_, rfl⟩
  have k0 : Blk W0 w.heap.size 22 #[.int .i64 x0, .int .i64 y0, .int .i64 z0, .int .i64 u0] := by rw [hW0]; exact Blk.new w _ _
  have hb0 : Below w.heap.size w W0 := by rw [hW0]; exact (Below.refl _ _).alloc (Nat.le_refl _) _
  have HW0 := Lib.hid hW0; have K0 := Lib.hid k0; have HB0 := Lib.hid hb0
  have hz0 : w.heap.size < W0.heap.size := k0.lt
  clear hW0 k0 hb0
  go_upto_region 1 with fail
  rw [← HW0.out]
  clear HW0
  go_wp2_with fail
  refine (HNEW.out _).mono ?_
  rintro e w1 ⟨b1, b2, b3, rfl, hM, hbel⟩
  obtain ⟨w2, hw2⟩ : ∃ W, W = w1.alloc (.cells (mkC b1 b2 b3 4) 28) := ⟨_, rfl⟩
  rw [← hw2] at hM hbel
  obtain ⟨g, hg⟩ : ∃ g, g = w1.heap.size := ⟨_, rfl⟩
  have hgl : W0.heap.size ≤ g := by
    have h1 := hM.box
    have h2 := hM.wlt (k := b1) (.inl rfl)
    have h3 : g < w2.heap.size := by rw [hg, hw2]; simp
    have h4 := hbel.size
    rw [hw2, World.size_alloc] at h2
    omega
  rw [← hg] at hM
  have HM := Lib.hid hM; have HBEL := Lib.hid hbel; have HW2 := Lib.hid hw2; have HG := Lib.hid hg; have HGL := Lib.hid hgl
  clear hM hbel hw2 hg HNEW hgl
  go_upto_region 2 with fail
  rw [← HW2.out, ← HG.out]
  clear HW2 HG
  go_wp2_with fail
  refine (HNEW2.out _).mono ?_
  rintro e w3 ⟨r1, r2, r3, rfl, hat⟩
  obtain ⟨w4, hw4⟩ : ∃ W, W = w3.alloc (.cells (mkC r1 r2 r3 4) 28) := ⟨_, rfl⟩
  obtain ⟨gr, hgr⟩ : ∃ g, g = w3.heap.size := ⟨_, rfl⟩
  have hpi : PlI W0 w4 g gr b1 b2 b3 (zN r1 r2 r3 4) (newV 4) 0 := by
    rw [hw4, hgr]
    exact PlI.start HM.out HBEL.out HGL.out hat
  have hsm := refSame_yes w4 _ _ (zN b1 b2 b3 4) (zN r1 r2 r3 4) 4 0 (newV 4) ((show ChM w4 W0.heap.size (mkH b1 b2 b3 4 g) (newV 4) from hpi.ch.dropX (X' := fun _ => False) (fun k hk => hk.elim)).doc (CkOk.new 4)) hpi.dc (CkOk.new 4) (by omega) (by omega)
  obtain ⟨p0, p1, p2, p3, p4, p5, p6, p7, p8, p9⟩ := blk10 (show Blk w4 g 28 (mkC b1 b2 b3 4) from hpi.ch.box)
  obtain ⟨s0, s1, s2, s3, s4, s5, s6, s7, s8, s9⟩ := blk10 hpi.box
  have HPIS := Lib.hid hpi; have HSM := Lib.hid hsm; have HW4 := Lib.hid hw4; have HGR := Lib.hid hgr
  clear hsm hat hpi HM HBEL HGL HNEW2 hw4 hgr
  go_upto_region 3 with fail
  rw [← HW4.out, ← HGR.out]
  clear HW4 HGR
  go_wp2_with fail
  refine HSM.out.mono ?_
  rintro e w5 ⟨rfl, hb5⟩
  have HPI0 := Lib.hid (HPIS.out.below hb5)
  clear hb5 p0 p1 p2 p3 p4 p5 p6 p7 p8 p9 s0 s1 s2 s3 s4 s5 s6 s7 s8 s9 HPIS HSM
  go_wp2_with fail
  go_loopw [7] (fun s7 wr => ∃ (k : Nat) (z' : ChZ) (s : Ck), k ≤ n60 ∧ s7 = .int .i64 (k : Int) ∧ Hid (PlI W0 wr g gr b1 b2 b3 z' s (7 * k)) ∧ Hid (HoldI (roomV x0 y0 z0 u0) s)) (fun s7 _ => n60 - (intOf s7).toNat)
  case atStart => exact ⟨0, zN r1 r2 r3 4, newV 4, by omega, rfl, HPI0, Lib.hid (HoldI.new (fun m => (roomV_lt x0 y0 z0 u0 m).1))⟩
  case round =>
    clear HPI0
    obtain ⟨k, z', s, hk, rfl, HPI, HHI⟩ := hrel
    by_cases hlt : k < n60
    · have hk1 : k < len1 := by omega
      have hk2 : k < 60 := by omega
      obtain ⟨ad, rfl, hab, hat⟩ := HZD.out (by omega)
      have hzk : z1[k]? = some (z1[k]'(by have := HZL.out; omega)) := List.getElem?_eq_getElem (by have := HZL.out; omega)
      have hd0 := hat k _ hzk
      have had0 : (ad.add (k * 5)).block < w.heap.size := by rw [block_of_add]; exact hab
      have hdW := hd0.below had0 HB0.out
      have had : (ad.add (k * 5)).block < W0.heap.size := by omega
      have hdk := hdW.below had HPI.out.bel
      generalize z1[k]'(by have := HZL.out; omega) = dd at *
      obtain ⟨d0, d1, d2, d3, d4⟩ := hdk.cells
      obtain ⟨_, _, _, _, _, ⟨_, hbt, hbc, _⟩, hll, hrn, hlb⟩ := hdW
      have HH : HypD W0 dd.A dd.k dd.c dd.l x0 y0 z0 u0 dd.t dd.ch := ⟨hrn, hll, hlb, HBX.out, HBY.out, HBZ.out, HBU.out, hbt, hbc⟩
      obtain ⟨p0, p1, p2, p3, p4, p5, p6, p7, p8, p9⟩ := blk10 HPI.out.box
      have kr := K0.out.below HPI.out.bel hz0
      have c0 : wr.cell? ⟨w.heap.size, 0, none⟩ = some (.int .i64 x0) := (kr.cell 0).trans rfl
      have c1 : wr.cell? ⟨w.heap.size, 1, none⟩ = some (.int .i64 y0) := (kr.cell 1).trans rfl
      have c2 : wr.cell? ⟨w.heap.size, 2, none⟩ = some (.int .i64 z0) := (kr.cell 2).trans rfl
      have c3 : wr.cell? ⟨w.heap.size, 3, none⟩ = some (.int .i64 u0) := (kr.cell 3).trans rfl
      have HD1 := Lib.hid (HPI.out.did1 (ki := dd.kind) (vv := dd.v) HH (by omega) had hz0 ⟨p0, p1, p2, p3, p4, p5, p6, p7, p8, p9, d0, d1, d2, d3, d4, c0, c1, c2, c3⟩)
      have HD2 := Lib.hid (HPI.out.did2 (ki := dd.kind) (vv := dd.v) HH (by omega) had hz0 ⟨p0, p1, p2, p3, p4, p5, p6, p7, p8, p9, d0, d1, d2, d3, d4, c0, c1, c2, c3⟩)
      have hk0 : (0 : Int) ≤ (k : Int) := by omega
      have hk3 : (k : Int) < (len1 : Int) := by omega
      have hk60 : (k : Int) < 60 := by omega
      have hne1 : ¬ gr = wr.heap.size := by have := HPI.out.box.lt; omega
      have hne2 : ¬ wr.heap.size = gr := by have := HPI.out.box.lt; omega
      clear hat hzk hbt hbc hll hrn hlb HH hd0 hdk kr
      go_wp2_with fail
      go_cut [8, 9] (fun s8 s9 wx => PlC W0 g gr b1 b2 b3 z' s x0 y0 z0 u0 s8 s9 wx)
      case first =>
        go_region_held3 (fun w' => w'.cell? ⟨gr, 0, none⟩ = some (.int .i64 0) ∧ w'.cell? ⟨gr, 1, none⟩ = some (NilS) ∧ w'.cell? ⟨gr, 2, none⟩ = some (NilS) ∧ w'.cell? ⟨gr, 3, none⟩ = some (NilS) ∧ w'.cell? ⟨gr, 4, none⟩ = some (.slice z'.A1 4 z'.d1) ∧ w'.cell? ⟨gr, 5, none⟩ = some (NilS) ∧ w'.cell? ⟨gr, 6, none⟩ = some (NilS) ∧ w'.cell? ⟨gr, 7, none⟩ = some (NilS) ∧ w'.cell? ⟨gr, 8, none⟩ = some (.slice z'.A2 4 z'.d2) ∧ w'.cell? ⟨gr, 9, none⟩ = some (.slice z'.A3 4 z'.d3) ∧ w'.cell? (ad.add (k * 5)) = some (.int .i64 dd.kind) ∧ w'.cell? ⟨(ad.add (k * 5)).block, (ad.add (k * 5)).off + 1, none⟩ = some (.int .i64 dd.t) ∧ w'.cell? ⟨(ad.add (k * 5)).block, (ad.add (k * 5)).off + 2, none⟩ = some (.int .i64 dd.ch) ∧ w'.cell? ⟨(ad.add (k * 5)).block, (ad.add (k * 5)).off + 3, none⟩ = some (.int .i64 dd.v) ∧ w'.cell? ⟨(ad.add (k * 5)).block, (ad.add (k * 5)).off + 4, none⟩ = some (.slice dd.A dd.k dd.c) ∧ w'.cell? ⟨w.heap.size, 0, none⟩ = some (.int .i64 x0) ∧ w'.cell? ⟨w.heap.size, 1, none⟩ = some (.int .i64 y0) ∧ w'.cell? ⟨w.heap.size, 2, none⟩ = some (.int .i64 z0) ∧ w'.cell? ⟨w.heap.size, 3, none⟩ = some (.int .i64 u0))
          (first | with_reducible exact ⟨p0, p1, p2, p3, p4, p5, p6, p7, p8, p9, d0, d1, d2, d3, d4, c0, c1, c2, c3⟩ | with_reducible exact G3 | with_reducible exact G4 | go_keep)
          (first
            | (go_simp; (with_reducible refine (HD2.out).mono ?_); (rintro e w6 ⟨z'', rfl, HDID, G3, G4, kn⟩); (obtain ⟨t0, t1, t2, t3, t4, t5, t6, t7, t8, t9⟩ := blk10 kn); (obtain ⟨v0, v1, v2, v3, v4, v5, v6, v7, v8, v9⟩ := froE kn))
            | (go_simp; (with_reducible refine (HD1.out).mono ?_); (rintro e w6 ⟨z'', rfl, HDID, G3, G4⟩))
            | fail)
        all_goals
          have hpo := HPI
          clear p0 p1 p2 p3 p4 p5 p6 p7 p8 p9 d0 d1 d2 d3 d4 c0 c1 c2 c3
          go_wp2_with fail
          go_meet
          first
            | with_reducible exact HPI.out.after HDID.out
            | with_reducible exact HPI.out.before HDID.out
      case rest =>
        obtain ⟨nb, z'', s2, rfl, rfl, hnb, kn, hst, hl2, hd2, kb, hbel2⟩ := hcut
        clear HD1 HD2 p0 p1 p2 p3 p4 p5 p6 p7 p8 p9 d0 d1 d2 d3 d4 c0 c1 c2 c3 hne1 hne2
        have hpi := HPI.out.next hst hl2 hd2 kb hbel2
        have HHI2 := Lib.hid (HHI.out.step HPI.out.ok hst)
        obtain ⟨n0, n1, n2, n3, n4, n5, n6, n7, n8, n9⟩ := blk10 kn
        obtain ⟨t0, t1, t2, t3, t4, t5, t6, t7, t8, t9⟩ := blk10 kb
        obtain ⟨v0, v1, v2, v3, v4, v5, v6, v7, v8, v9⟩ := froE kb
        obtain ⟨W8, hW8⟩ : ∃ W, W = ((((((((((wc.setCell ⟨gr, 0, none⟩ (.int .i64 0)).setCell ⟨gr, 1, none⟩ (NilS)).setCell ⟨gr, 2, none⟩ (NilS)).setCell ⟨gr, 3, none⟩ (NilS)).setCell ⟨gr, 4, none⟩ (.slice z''.A1 4 z''.d1)).setCell ⟨gr, 5, none⟩ (NilS)).setCell ⟨gr, 6, none⟩ (NilS)).setCell ⟨gr, 7, none⟩ (NilS)).setCell ⟨gr, 8, none⟩ (.slice z''.A2 4 z''.d2)).setCell ⟨gr, 9, none⟩ (.slice z''.A3 4 z''.d3)) := ⟨_, rfl⟩
        rw [← hW8, show 7 * k + 7 = 7 * (k + 1) by omega] at hpi
        have HPI8 := Lib.hid hpi; have HW8 := Lib.hid hW8
        clear hpi hW8 kn kb hst hl2 hd2 hbel2 HPI HHI
        go_upto_region 10 with fail
        rw [← HW8.out]
        clear HW8 n0 n1 n2 n3 n4 n5 n6 n7 n8 n9 t0 t1 t2 t3 t4 t5 t6 t7 t8 t9 v0 v1 v2 v3 v4 v5 v6 v7 v8 v9
        have hsm := refSame_yes W8 _ _ (zN b1 b2 b3 4) z'' 4 (7 * (k + 1)) s2 ((show ChM W8 W0.heap.size (mkH b1 b2 b3 4 g) s2 from HPI8.out.ch.dropX (X' := fun _ => False) (fun k hk => hk.elim)).doc HPI8.out.ok) HPI8.out.dc HPI8.out.ok (by omega) (by omega)
        obtain ⟨p0, p1, p2, p3, p4, p5, p6, p7, p8, p9⟩ := blk10 (show Blk _ g 28 (mkC b1 b2 b3 4) from HPI8.out.ch.box)
        obtain ⟨y0, y1, y2, y3, y4, y5, y6, y7, y8, y9⟩ := blk10 HPI8.out.box
        have HSM := Lib.hid hsm
        clear hsm
        go_wp2_with fail
        refine HSM.out.mono ?_
        rintro e w9 ⟨rfl, hb9⟩
        have HPI7 := Lib.hid (HPI8.out.below hb9)
        clear hb9 HPI8 HSM p0 p1 p2 p3 p4 p5 p6 p7 p8 p9 y0 y1 y2 y3 y4 y5 y6 y7 y8 y9
        go_wp2_with fail
        go_loopw [10] (fun s10 w9 => ∃ (j : Nat), j ≤ 4 ∧ s10 = .int .i64 (j : Int) ∧ Hid (PlI W0 w9 g gr b1 b2 b3 z'' s2 (7 * (k + 1)))) (fun s10 _ => 4 - (intOf s10).toNat)
        case atStart => exact ⟨0, by omega, rfl, HPI7⟩
        case round =>
          clear HPI7
          obtain ⟨j, hj, rfl, HPI8⟩ := hrel
          by_cases hjp : j < 4
          · obtain ⟨w9, hw9⟩ : ∃ W, W = wr := ⟨_, rfl⟩
            rw [← hw9] at HPI8 ⊢
            clear hw9
            obtain ⟨p0, p1, p2, p3, p4, p5, p6, p7, p8, p9⟩ := blk10 (show Blk _ g 28 (mkC b1 b2 b3 4) from HPI8.out.ch.box)
            obtain ⟨y0, y1, y2, y3, y4, y5, y6, y7, y8, y9⟩ := blk10 HPI8.out.box
            have hj1 : (j : Int) < 4 := by omega
            have hj0 : (0 : Int) ≤ (j : Int) := by omega
            have hgl : g < w9.heap.size := HPI8.out.ch.box.lt
            have hbl : gr < w9.heap.size := HPI8.out.box.lt
            have hrw := HPI8.out.ok.row j
            have hke : ∀ W' w4, Below w9.heap.size w9 W' → Below W'.heap.size W' w4 → Hid (Below w9.heap.size w9 w4) ∧ (w4.cell? ⟨g, 0, none⟩ = some (.int .i64 0) ∧ w4.cell? ⟨g, 1, none⟩ = some (NilS) ∧ w4.cell? ⟨g, 2, none⟩ = some (NilS) ∧ w4.cell? ⟨g, 3, none⟩ = some (NilS) ∧ w4.cell? ⟨g, 4, none⟩ = some (.slice (some ⟨b1, 0, none⟩) 4 4) ∧ w4.cell? ⟨g, 5, none⟩ = some (NilS) ∧ w4.cell? ⟨g, 6, none⟩ = some (NilS) ∧ w4.cell? ⟨g, 7, none⟩ = some (NilS) ∧ w4.cell? ⟨g, 8, none⟩ = some (.slice (some ⟨b2, 0, none⟩) 4 4) ∧ w4.cell? ⟨g, 9, none⟩ = some (.slice (some ⟨b3, 0, none⟩) 4 4) ∧ w4.cell? ⟨gr, 0, none⟩ = some (.int .i64 0) ∧ w4.cell? ⟨gr, 1, none⟩ = some (NilS) ∧ w4.cell? ⟨gr, 2, none⟩ = some (NilS) ∧ w4.cell? ⟨gr, 3, none⟩ = some (NilS) ∧ w4.cell? ⟨gr, 4, none⟩ = some (.slice z''.A1 4 z''.d1) ∧ w4.cell? ⟨gr, 5, none⟩ = some (NilS) ∧ w4.cell? ⟨gr, 6, none⟩ = some (NilS) ∧ w4.cell? ⟨gr, 7, none⟩ = some (NilS) ∧ w4.cell? ⟨gr, 8, none⟩ = some (.slice z''.A2 4 z''.d2) ∧ w4.cell? ⟨gr, 9, none⟩ = some (.slice z''.A3 4 z''.d3)) := fun W' w4 h1 h2 => by
              have hb := h1.trans (h2.mono h1.size)
              have kg : ∀ j, w4.cell? ⟨g, j, none⟩ = w9.cell? ⟨g, j, none⟩ := fun j => hb.cell (p := ⟨g, j, none⟩) hgl
              have kb : ∀ j, w4.cell? ⟨gr, j, none⟩ = w9.cell? ⟨gr, j, none⟩ := fun j => hb.cell (p := ⟨gr, j, none⟩) hbl
              exact ⟨Lib.hid hb, (kg 0).trans p0, (kg 1).trans p1, (kg 2).trans p2, (kg 3).trans p3, (kg 4).trans p4, (kg 5).trans p5, (kg 6).trans p6, (kg 7).trans p7, (kg 8).trans p8, (kg 9).trans p9, (kb 0).trans y0, (kb 1).trans y1, (kb 2).trans y2, (kb 3).trans y3, (kb 4).trans y4, (kb 5).trans y5, (kb 6).trans y6, (kb 7).trans y7, (kb 8).trans y8, (kb 9).trans y9⟩
            have hlen : (sendersV s2 j).length ≤ 100000 := by unfold sendersV; rw [evN_len]; omega
            obtain ⟨sl, hsl⟩ : ∃ x, x = (sendersV s2 j).length := ⟨_, rfl⟩
            obtain ⟨rv, hrv⟩ : ∃ x, x = readyV s2 j := ⟨_, rfl⟩
            have hc1 : ∀ W', Below w9.heap.size w9 W' → Calls Try.prog 12 #[.agg (mkC b1 b2 b3 4), .int .i64 (j : Int)] W' fun e w4 => e = .returned (.bool rv) ∧ Hid (Below w9.heap.size w9 w4) ∧ (w4.cell? ⟨g, 0, none⟩ = some (.int .i64 0) ∧ w4.cell? ⟨g, 1, none⟩ = some (NilS) ∧ w4.cell? ⟨g, 2, none⟩ = some (NilS) ∧ w4.cell? ⟨g, 3, none⟩ = some (NilS) ∧ w4.cell? ⟨g, 4, none⟩ = some (.slice (some ⟨b1, 0, none⟩) 4 4) ∧ w4.cell? ⟨g, 5, none⟩ = some (NilS) ∧ w4.cell? ⟨g, 6, none⟩ = some (NilS) ∧ w4.cell? ⟨g, 7, none⟩ = some (NilS) ∧ w4.cell? ⟨g, 8, none⟩ = some (.slice (some ⟨b2, 0, none⟩) 4 4) ∧ w4.cell? ⟨g, 9, none⟩ = some (.slice (some ⟨b3, 0, none⟩) 4 4) ∧ w4.cell? ⟨gr, 0, none⟩ = some (.int .i64 0) ∧ w4.cell? ⟨gr, 1, none⟩ = some (NilS) ∧ w4.cell? ⟨gr, 2, none⟩ = some (NilS) ∧ w4.cell? ⟨gr, 3, none⟩ = some (NilS) ∧ w4.cell? ⟨gr, 4, none⟩ = some (.slice z''.A1 4 z''.d1) ∧ w4.cell? ⟨gr, 5, none⟩ = some (NilS) ∧ w4.cell? ⟨gr, 6, none⟩ = some (NilS) ∧ w4.cell? ⟨gr, 7, none⟩ = some (NilS) ∧ w4.cell? ⟨gr, 8, none⟩ = some (.slice z''.A2 4 z''.d2) ∧ w4.cell? ⟨gr, 9, none⟩ = some (.slice z''.A3 4 z''.d3)) := fun W' hb => by
              have hI := HPI8.out.below hb
              rw [hrv]
              exact (ready_yes hI.ch hI.ok (by omega) (by omega) j hjp).mono fun e w4 hq => ⟨hq.1, hke W' w4 hb hq.2⟩
            have hc2 : ∀ W', Below w9.heap.size w9 W' → Calls Try.prog 13 #[.agg (mkD z'' 4), .int .i64 (j : Int)] W' fun e w4 => e = .returned (.bool rv) ∧ Hid (Below w9.heap.size w9 w4) ∧ (w4.cell? ⟨g, 0, none⟩ = some (.int .i64 0) ∧ w4.cell? ⟨g, 1, none⟩ = some (NilS) ∧ w4.cell? ⟨g, 2, none⟩ = some (NilS) ∧ w4.cell? ⟨g, 3, none⟩ = some (NilS) ∧ w4.cell? ⟨g, 4, none⟩ = some (.slice (some ⟨b1, 0, none⟩) 4 4) ∧ w4.cell? ⟨g, 5, none⟩ = some (NilS) ∧ w4.cell? ⟨g, 6, none⟩ = some (NilS) ∧ w4.cell? ⟨g, 7, none⟩ = some (NilS) ∧ w4.cell? ⟨g, 8, none⟩ = some (.slice (some ⟨b2, 0, none⟩) 4 4) ∧ w4.cell? ⟨g, 9, none⟩ = some (.slice (some ⟨b3, 0, none⟩) 4 4) ∧ w4.cell? ⟨gr, 0, none⟩ = some (.int .i64 0) ∧ w4.cell? ⟨gr, 1, none⟩ = some (NilS) ∧ w4.cell? ⟨gr, 2, none⟩ = some (NilS) ∧ w4.cell? ⟨gr, 3, none⟩ = some (NilS) ∧ w4.cell? ⟨gr, 4, none⟩ = some (.slice z''.A1 4 z''.d1) ∧ w4.cell? ⟨gr, 5, none⟩ = some (NilS) ∧ w4.cell? ⟨gr, 6, none⟩ = some (NilS) ∧ w4.cell? ⟨gr, 7, none⟩ = some (NilS) ∧ w4.cell? ⟨gr, 8, none⟩ = some (.slice z''.A2 4 z''.d2) ∧ w4.cell? ⟨gr, 9, none⟩ = some (.slice z''.A3 4 z''.d3)) := fun W' hb => by
              have hI := HPI8.out.below hb
              rw [hrv]
              exact (refReady_any W' _ z'' 4 s2 hI.dc hI.ok (by omega) (by omega) j hjp).mono fun e w4 hq => ⟨hq.1, hke W' w4 hb hq.2⟩
            have hc3 : ∀ W', Below w9.heap.size w9 W' → Calls Try.prog 15 #[.agg (mkC b1 b2 b3 4), .int .i64 (j : Int)] W' fun e w4 => ∃ A c, e = .returned (.slice A sl c) ∧ Hid (RN w4 (fun _ => True) A c (sendersV s2 j)) ∧ Hid (Below W'.heap.size W' w4) ∧ Hid (Below w9.heap.size w9 w4) ∧ (w4.cell? ⟨g, 0, none⟩ = some (.int .i64 0) ∧ w4.cell? ⟨g, 1, none⟩ = some (NilS) ∧ w4.cell? ⟨g, 2, none⟩ = some (NilS) ∧ w4.cell? ⟨g, 3, none⟩ = some (NilS) ∧ w4.cell? ⟨g, 4, none⟩ = some (.slice (some ⟨b1, 0, none⟩) 4 4) ∧ w4.cell? ⟨g, 5, none⟩ = some (NilS) ∧ w4.cell? ⟨g, 6, none⟩ = some (NilS) ∧ w4.cell? ⟨g, 7, none⟩ = some (NilS) ∧ w4.cell? ⟨g, 8, none⟩ = some (.slice (some ⟨b2, 0, none⟩) 4 4) ∧ w4.cell? ⟨g, 9, none⟩ = some (.slice (some ⟨b3, 0, none⟩) 4 4) ∧ w4.cell? ⟨gr, 0, none⟩ = some (.int .i64 0) ∧ w4.cell? ⟨gr, 1, none⟩ = some (NilS) ∧ w4.cell? ⟨gr, 2, none⟩ = some (NilS) ∧ w4.cell? ⟨gr, 3, none⟩ = some (NilS) ∧ w4.cell? ⟨gr, 4, none⟩ = some (.slice z''.A1 4 z''.d1) ∧ w4.cell? ⟨gr, 5, none⟩ = some (NilS) ∧ w4.cell? ⟨gr, 6, none⟩ = some (NilS) ∧ w4.cell? ⟨gr, 7, none⟩ = some (NilS) ∧ w4.cell? ⟨gr, 8, none⟩ = some (.slice z''.A2 4 z''.d2) ∧ w4.cell? ⟨gr, 9, none⟩ = some (.slice z''.A3 4 z''.d3)) := fun W' hb => by
              have hI := HPI8.out.below hb
              refine (senders_any hI.ch hI.ok (by omega) (by omega) j hjp).mono ?_
              rintro e w4 ⟨v, rfl, hv, hq⟩
              obtain ⟨A, c, e1⟩ := own_form_any hv
              rw [← hsl] at e1
              subst e1
              exact ⟨A, c, rfl, Lib.hid ((RN.of_own_n hsl.symm hv).mono (fun _ _ _ => trivial)), Lib.hid hq, hke W' w4 hb hq⟩
            have hc4 : ∀ W', Below w9.heap.size w9 W' → Calls Try.prog 16 #[.agg (mkD z'' 4), .int .i64 (j : Int)] W' fun e w4 => ∃ A c, e = .returned (.slice A sl c) ∧ Hid (RN w4 (fun _ => True) A c (sendersV s2 j)) ∧ Hid (Below W'.heap.size W' w4) ∧ Hid (Below w9.heap.size w9 w4) ∧ (w4.cell? ⟨g, 0, none⟩ = some (.int .i64 0) ∧ w4.cell? ⟨g, 1, none⟩ = some (NilS) ∧ w4.cell? ⟨g, 2, none⟩ = some (NilS) ∧ w4.cell? ⟨g, 3, none⟩ = some (NilS) ∧ w4.cell? ⟨g, 4, none⟩ = some (.slice (some ⟨b1, 0, none⟩) 4 4) ∧ w4.cell? ⟨g, 5, none⟩ = some (NilS) ∧ w4.cell? ⟨g, 6, none⟩ = some (NilS) ∧ w4.cell? ⟨g, 7, none⟩ = some (NilS) ∧ w4.cell? ⟨g, 8, none⟩ = some (.slice (some ⟨b2, 0, none⟩) 4 4) ∧ w4.cell? ⟨g, 9, none⟩ = some (.slice (some ⟨b3, 0, none⟩) 4 4) ∧ w4.cell? ⟨gr, 0, none⟩ = some (.int .i64 0) ∧ w4.cell? ⟨gr, 1, none⟩ = some (NilS) ∧ w4.cell? ⟨gr, 2, none⟩ = some (NilS) ∧ w4.cell? ⟨gr, 3, none⟩ = some (NilS) ∧ w4.cell? ⟨gr, 4, none⟩ = some (.slice z''.A1 4 z''.d1) ∧ w4.cell? ⟨gr, 5, none⟩ = some (NilS) ∧ w4.cell? ⟨gr, 6, none⟩ = some (NilS) ∧ w4.cell? ⟨gr, 7, none⟩ = some (NilS) ∧ w4.cell? ⟨gr, 8, none⟩ = some (.slice z''.A2 4 z''.d2) ∧ w4.cell? ⟨gr, 9, none⟩ = some (.slice z''.A3 4 z''.d3)) := fun W' hb => by
              have hI := HPI8.out.below hb
              refine (refSenders_any W' _ z'' 4 s2 hI.dc hI.ok (by omega) (by omega) j hjp).mono ?_
              rintro e w4 ⟨A, jj, c, rfl, hjj, hv, hq⟩
              rw [hjj, ← hsl]
              exact ⟨A, c, rfl, Lib.hid (hv.mono (fun _ _ _ => trivial)), Lib.hid hq, hke W' w4 hb hq⟩
            have hc5 : ∀ W' A c A' c' D D', RN W' D A c (sendersV s2 j) → RN W' D' A' c' (sendersV s2 j) → Below w9.heap.size w9 W' → Calls Try.prog 14 #[.slice A sl c, .slice A' sl c'] W' fun e w4 => e = .returned (.bool true) ∧ Hid (Below w9.heap.size w9 w4) ∧ (w4.cell? ⟨g, 0, none⟩ = some (.int .i64 0) ∧ w4.cell? ⟨g, 1, none⟩ = some (NilS) ∧ w4.cell? ⟨g, 2, none⟩ = some (NilS) ∧ w4.cell? ⟨g, 3, none⟩ = some (NilS) ∧ w4.cell? ⟨g, 4, none⟩ = some (.slice (some ⟨b1, 0, none⟩) 4 4) ∧ w4.cell? ⟨g, 5, none⟩ = some (NilS) ∧ w4.cell? ⟨g, 6, none⟩ = some (NilS) ∧ w4.cell? ⟨g, 7, none⟩ = some (NilS) ∧ w4.cell? ⟨g, 8, none⟩ = some (.slice (some ⟨b2, 0, none⟩) 4 4) ∧ w4.cell? ⟨g, 9, none⟩ = some (.slice (some ⟨b3, 0, none⟩) 4 4) ∧ w4.cell? ⟨gr, 0, none⟩ = some (.int .i64 0) ∧ w4.cell? ⟨gr, 1, none⟩ = some (NilS) ∧ w4.cell? ⟨gr, 2, none⟩ = some (NilS) ∧ w4.cell? ⟨gr, 3, none⟩ = some (NilS) ∧ w4.cell? ⟨gr, 4, none⟩ = some (.slice z''.A1 4 z''.d1) ∧ w4.cell? ⟨gr, 5, none⟩ = some (NilS) ∧ w4.cell? ⟨gr, 6, none⟩ = some (NilS) ∧ w4.cell? ⟨gr, 7, none⟩ = some (NilS) ∧ w4.cell? ⟨gr, 8, none⟩ = some (.slice z''.A2 4 z''.d2) ∧ w4.cell? ⟨gr, 9, none⟩ = some (.slice z''.A3 4 z''.d3)) := fun W' A c A' c' D D' h1 h2 hb => by
              have h3 := h1.reads
              have h4 := h2.reads
              rw [← hsl] at h3 h4
              refine (sameInts_yes (sendersV s2 j) sl hsl.symm W' _ _ A A' c c' h3 h4 (by omega)).mono ?_
              intro e w4 hq
              obtain ⟨rfl, hq2⟩ := hq
              obtain ⟨kk, rfl⟩ := hq2
              exact ⟨rfl, hke W' _ hb (below_drews (Below.refl _ _) kk)⟩
            have HC1 := Lib.hid hc1; have HC2 := Lib.hid hc2; have HC3 := Lib.hid hc3; have HC4 := Lib.hid hc4; have HC5 := Lib.hid hc5
            have HBA := Lib.hid (Below.refl w9.heap.size w9)
            clear hc1 hc2 hc3 hc4 hc5 hke hgl hbl hrv hlen hsl hrw
            go_upto_region 15 with fail
            cases rv with
            | true =>
              go_region_held3 (fun w' => w'.cell? ⟨g, 0, none⟩ = some (.int .i64 0) ∧ w'.cell? ⟨g, 1, none⟩ = some (NilS) ∧ w'.cell? ⟨g, 2, none⟩ = some (NilS) ∧ w'.cell? ⟨g, 3, none⟩ = some (NilS) ∧ w'.cell? ⟨g, 4, none⟩ = some (.slice (some ⟨b1, 0, none⟩) 4 4) ∧ w'.cell? ⟨g, 5, none⟩ = some (NilS) ∧ w'.cell? ⟨g, 6, none⟩ = some (NilS) ∧ w'.cell? ⟨g, 7, none⟩ = some (NilS) ∧ w'.cell? ⟨g, 8, none⟩ = some (.slice (some ⟨b2, 0, none⟩) 4 4) ∧ w'.cell? ⟨g, 9, none⟩ = some (.slice (some ⟨b3, 0, none⟩) 4 4) ∧ w'.cell? ⟨gr, 0, none⟩ = some (.int .i64 0) ∧ w'.cell? ⟨gr, 1, none⟩ = some (NilS) ∧ w'.cell? ⟨gr, 2, none⟩ = some (NilS) ∧ w'.cell? ⟨gr, 3, none⟩ = some (NilS) ∧ w'.cell? ⟨gr, 4, none⟩ = some (.slice z''.A1 4 z''.d1) ∧ w'.cell? ⟨gr, 5, none⟩ = some (NilS) ∧ w'.cell? ⟨gr, 6, none⟩ = some (NilS) ∧ w'.cell? ⟨gr, 7, none⟩ = some (NilS) ∧ w'.cell? ⟨gr, 8, none⟩ = some (.slice z''.A2 4 z''.d2) ∧ w'.cell? ⟨gr, 9, none⟩ = some (.slice z''.A3 4 z''.d3))
                (first | with_reducible exact G3 | with_reducible exact ⟨p0, p1, p2, p3, p4, p5, p6, p7, p8, p9, y0, y1, y2, y3, y4, y5, y6, y7, y8, y9⟩ | go_keep)
                (first
                  | (go_at_call 12; (with_reducible refine (HC1.out _ (by first | with_reducible exact HBA.out | with_reducible exact HBA.out.drew | with_reducible exact Below.refl _ _ | exact (Below.refl _ _).drew)).mono ?_); (rintro e w4 ⟨rfl, HBA, G3⟩))
                  | (go_at_call 13; (with_reducible refine (HC2.out _ (by first | with_reducible exact HBA.out | with_reducible exact HBA.out.drew | with_reducible exact Below.refl _ _ | exact (Below.refl _ _).drew)).mono ?_); (rintro e w4 ⟨rfl, HBA, G3⟩))
                  | (go_at_call 15; (with_reducible refine (HC3.out _ (by first | with_reducible exact HBA.out | with_reducible exact HBA.out.drew | with_reducible exact Below.refl _ _ | exact (Below.refl _ _).drew)).mono ?_); (rintro e w4 ⟨AP, cP, rfl, HRP, HXP, HBA, G3⟩))
                  | (go_at_call 16; (with_reducible refine (HC4.out _ (by first | with_reducible exact HBA.out | with_reducible exact HBA.out.drew | with_reducible exact Below.refl _ _ | exact (Below.refl _ _).drew)).mono ?_); (rintro e w4 ⟨AR, cR, rfl, HRR, HXR, HBA, G3⟩))
                  | (go_at_call 14; (with_reducible refine (HC5.out _ _ _ _ _ _ _ (by first | with_reducible exact HRP.out | with_reducible exact HRP.out.below HXR.out (Nat.le_refl _)) (by first | with_reducible exact HRR.out | with_reducible exact HRR.out.below HXP.out (Nat.le_refl _)) (by first | with_reducible exact HBA.out | with_reducible exact HBA.out.drew | with_reducible exact Below.refl _ _ | exact (Below.refl _ _).drew)).mono ?_); (rintro e w4 ⟨rfl, HBA, G3⟩))
                  | fail)
              all_goals
                clear p0 p1 p2 p3 p4 p5 p6 p7 p8 p9 y0 y1 y2 y3 y4 y5 y6 y7 y8 y9
                have HPI9 := Lib.hid (HPI8.out.below HBA.out)
                go_wp2_with fail
                exact ⟨⟨j + 1, by omega, by go_num, HPI9⟩, by simp [intOf]; omega⟩
            | false =>
              go_region_held3 (fun w' => w'.cell? ⟨g, 0, none⟩ = some (.int .i64 0) ∧ w'.cell? ⟨g, 1, none⟩ = some (NilS) ∧ w'.cell? ⟨g, 2, none⟩ = some (NilS) ∧ w'.cell? ⟨g, 3, none⟩ = some (NilS) ∧ w'.cell? ⟨g, 4, none⟩ = some (.slice (some ⟨b1, 0, none⟩) 4 4) ∧ w'.cell? ⟨g, 5, none⟩ = some (NilS) ∧ w'.cell? ⟨g, 6, none⟩ = some (NilS) ∧ w'.cell? ⟨g, 7, none⟩ = some (NilS) ∧ w'.cell? ⟨g, 8, none⟩ = some (.slice (some ⟨b2, 0, none⟩) 4 4) ∧ w'.cell? ⟨g, 9, none⟩ = some (.slice (some ⟨b3, 0, none⟩) 4 4) ∧ w'.cell? ⟨gr, 0, none⟩ = some (.int .i64 0) ∧ w'.cell? ⟨gr, 1, none⟩ = some (NilS) ∧ w'.cell? ⟨gr, 2, none⟩ = some (NilS) ∧ w'.cell? ⟨gr, 3, none⟩ = some (NilS) ∧ w'.cell? ⟨gr, 4, none⟩ = some (.slice z''.A1 4 z''.d1) ∧ w'.cell? ⟨gr, 5, none⟩ = some (NilS) ∧ w'.cell? ⟨gr, 6, none⟩ = some (NilS) ∧ w'.cell? ⟨gr, 7, none⟩ = some (NilS) ∧ w'.cell? ⟨gr, 8, none⟩ = some (.slice z''.A2 4 z''.d2) ∧ w'.cell? ⟨gr, 9, none⟩ = some (.slice z''.A3 4 z''.d3))
                (first | with_reducible exact G3 | with_reducible exact ⟨p0, p1, p2, p3, p4, p5, p6, p7, p8, p9, y0, y1, y2, y3, y4, y5, y6, y7, y8, y9⟩ | go_keep)
                (first
                  | (go_at_call 12; (with_reducible refine (HC1.out _ (by first | with_reducible exact HBA.out | with_reducible exact HBA.out.drew | with_reducible exact Below.refl _ _ | exact (Below.refl _ _).drew)).mono ?_); (rintro e w4 ⟨rfl, HBA, G3⟩))
                  | (go_at_call 13; (with_reducible refine (HC2.out _ (by first | with_reducible exact HBA.out | with_reducible exact HBA.out.drew | with_reducible exact Below.refl _ _ | exact (Below.refl _ _).drew)).mono ?_); (rintro e w4 ⟨rfl, HBA, G3⟩))
                  | (go_at_call 15; (with_reducible refine (HC3.out _ (by first | with_reducible exact HBA.out | with_reducible exact HBA.out.drew | with_reducible exact Below.refl _ _ | exact (Below.refl _ _).drew)).mono ?_); (rintro e w4 ⟨AP, cP, rfl, HRP, HXP, HBA, G3⟩))
                  | (go_at_call 16; (with_reducible refine (HC4.out _ (by first | with_reducible exact HBA.out | with_reducible exact HBA.out.drew | with_reducible exact Below.refl _ _ | exact (Below.refl _ _).drew)).mono ?_); (rintro e w4 ⟨AR, cR, rfl, HRR, HXR, HBA, G3⟩))
                  | (go_at_call 14; (with_reducible refine (HC5.out _ _ _ _ _ _ _ (by first | with_reducible exact HRP.out | with_reducible exact HRP.out.below HXR.out (Nat.le_refl _)) (by first | with_reducible exact HRR.out | with_reducible exact HRR.out.below HXP.out (Nat.le_refl _)) (by first | with_reducible exact HBA.out | with_reducible exact HBA.out.drew | with_reducible exact Below.refl _ _ | exact (Below.refl _ _).drew)).mono ?_); (rintro e w4 ⟨rfl, HBA, G3⟩))
                  | fail)
              all_goals
                clear p0 p1 p2 p3 p4 p5 p6 p7 p8 p9 y0 y1 y2 y3 y4 y5 y6 y7 y8 y9
                have HPI9 := Lib.hid (HPI8.out.below HBA.out)
                go_wp2_with fail
                exact ⟨⟨j + 1, by omega, by go_num, HPI9⟩, by simp [intOf]; omega⟩
          · have hj1 : ¬ (j : Int) < 4 := by omega
            go_wp2_with fail
            exact ⟨⟨k + 1, z'', s2, by omega, by go_num, HPI8, HHI2⟩, by simp [intOf]; omega⟩
    · have hke : k = min len1 60 := by have := HN60.out; omega
      by_cases hge : k < len1
      · have hge2 : ¬ k < 60 := by omega
        have hg1 : (k : Int) < (len1 : Int) := by omega
        have hg2 : ¬ (k : Int) < 60 := by omega
        clear hke
        go_wp2_with fail
        refine (HLV.out _).mono ?_
        rintro e w' ⟨rfl, hbl⟩
        go_wp2_with fail
        go_ret
        exact ⟨rfl, HB0.out.trans ((HPI.out.bel.trans (hbl.mono HPI.out.bel.size)).mono (by omega))⟩
      · have hg1 : ¬ (k : Int) < (len1 : Int) := by omega
        clear hke
        go_wp2_with fail
        refine (HLV.out _).mono ?_
        rintro e w' ⟨rfl, hbl⟩
        go_wp2_with fail
        go_ret
        exact ⟨rfl, HB0.out.trans ((HPI.out.bel.trans (hbl.mono HPI.out.bel.size)).mono (by omega))⟩
end Go.Proofs.Ytbgigkamlnchcaa.chansPlay
