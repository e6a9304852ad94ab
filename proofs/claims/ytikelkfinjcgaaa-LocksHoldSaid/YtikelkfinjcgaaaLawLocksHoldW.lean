
/-
  The walk of LocksHold.
-/
import Derived.Test.YtikelkfinjcgaaaRows
import Derived.WalkKit
import Derived.ProofKit
import Derived.OpenShut
import Derived.ShutString
import Derived.ChangeOld
import Derived.Below
import Derived.Test.YtikelkfinjcgaaaLkPl
import Derived.Test.YtikelkfinjcgaaaRgOwn
import Derived.Test.YtikelkfinjcgaaaLkOpen
namespace Go.Proofs.Ytikelkfinjcgaaa.locksHold
open Go.ChangeShapes Go.WideShapes Go.ChangeAt Go.RowKit Go.Proofs.Ytikelkfinjcgaaa Go.Proofs.Ytikelkfinjcgaaa.Plain
open Go.ChangeMaps (open_string shut_string)
set_option linter.unusedVariables false


set_option maxRecDepth 100000 in
set_option maxHeartbeats 40000000 in
theorem walk (a0 : Int) (a1 : Int) (a2 : Option Addr) (len2 cap2 : Nat) (z2 : List Int) (a3 : Option Addr) (len3 cap3 : Nat) (z3 : List Deed9) (w : World) (w0 : (Lit.int .i64 a0).wf = true) (w1 : (Lit.int .i64 a1).wf = true) (w2 : IsRow .i64 w a2 len2 cap2 z2) (w3 : IsDeeds9 w a3 len3 cap3 z3) :
    Calls Try.prog 4 #[.int .i64 a0, .int .i64 a1, .slice a2 len2 cap2, .slice a3 len3 cap3] w fun e w' => e = .returned (.bool true) ∧ Below w.heap.size w w' := by
  obtain ⟨hzl, hzc, hzm, hzd⟩ := w3
  obtain ⟨l, hl, hR, hlb, hc, hn⟩ := row_int w2
  have ba := wf_i64 w0
  have bt := wf_i64 w1
  have hbeg := begin_any w a0 a1 ba.1 ba.2 bt.1 bt.2 a2 len2 cap2 l hR hl hlb
  have HBG := Lib.hid hbeg; have HZL := Lib.hid hzl; have HZD := Lib.hid hzd
  obtain ⟨n60, hn60⟩ : ∃ k, k = min len3 60 := ⟨_, rfl⟩
  have HN60 := Lib.hid hn60
  have hn600 : n60 ≤ 60 := by omega
  have hn6l : n60 ≤ len3 := by omega
  clear hbeg hzl hzd w0 w1 w2 ba bt hn60 hl hR hlb hc hn hzc hzm
  go_enter Try.func4, Try.ntmps4
  go_wp2_with fail
  refine HBG.out.mono ?_
  rintro e w1 ⟨z, z', p, q, n, s, rfl, hp, hq, hn, hS⟩
  have HSS := Lib.hid hS
  clear HBG hS
  have kg : Blk ((w1.alloc (.cells (mkC z p q n) 27)).alloc (.cells (mkC z' p q n) 27)) w1.heap.size 27 (mkC z p q n) := (Blk.new w1 _ _).alloc _
  have kb : Blk ((w1.alloc (.cells (mkC z p q n) 27)).alloc (.cells (mkC z' p q n) 27)) (w1.heap.size + 1) 27 (mkC z' p q n) := by simpa using Blk.new (w1.alloc (.cells (mkC z p q n) 27)) 27 (mkC z' p q n)
  have hb2 : Below w1.heap.size w1 ((w1.alloc (.cells (mkC z p q n) 27)).alloc (.cells (mkC z' p q n) 27)) := ((Below.refl _ w1).alloc (Nat.le_refl _) _).alloc (by simp) _
  obtain ⟨wb, hwb⟩ : ∃ W, W = ((w1.alloc (.cells (mkC z p q n) 27)).alloc (.cells (mkC z' p q n) 27)) := ⟨_, rfl⟩
  obtain ⟨g, hg⟩ : ∃ g, g = w1.heap.size := ⟨_, rfl⟩
  obtain ⟨b, hb⟩ : ∃ b, b = w1.heap.size + 1 := ⟨_, rfl⟩
  rw [← hwb] at kg kb hb2
  obtain ⟨g1, hg1⟩ := HSS.out.lk
  have hpi : PlI w wb g b z z' p q n s 8 := PlI.start HSS.out.bel hg1 HSS.out.dc HSS.out.ok hb2 (by rw [hg]; exact kg) (by rw [hb]; exact kb) (by omega) (by omega) (by omega)
  have HPI0 := Lib.hid hpi; have HWB := Lib.hid hwb; have HG := Lib.hid hg; have HB := Lib.hid hb
  clear hpi hwb hg hb kg kb hb2 hg1 HSS
  go_upto_region 2 with fail
  rw [← HB.out, ← HG.out, ← HWB.out]
  clear HB HG HWB
  go_wp2_with fail
  go_loopw [12] (fun s12 wr => ∃ (k : Nat) (z' : LkQ) (s : Lk), k ≤ n60 ∧ s12 = .int .i64 (k : Int) ∧ Hid (PlI w wr g b z z' p q n s (8 + k))) (fun s12 _ => n60 - (intOf s12).toNat)
  case atStart => exact ⟨0, z', s, by omega, rfl, HPI0⟩
  case round =>
    clear HPI0
    obtain ⟨k, z', s, hk, rfl, HPI⟩ := hrel
    by_cases hlt : k < n60
    · have hk1 : k < len3 := by omega
      have hk2 : k < 60 := by omega
      obtain ⟨ad, rfl, hab, hat⟩ := HZD.out (by omega)
      have hzk : z3[k]? = some (z3[k]'(by have := HZL.out; omega)) := List.getElem?_eq_getElem (by have := HZL.out; omega)
      have hdk := (hat k _ hzk).below (by rw [block_of_add]; exact hab) HPI.out.bel
      generalize z3[k]'(by have := HZL.out; omega) = dd at *
      obtain ⟨d0, d1, d2⟩ := hdk.cells
      obtain ⟨_, _, _, hbk, hbv, hbn⟩ := hdk
      obtain ⟨x0, x1, x2, x3, x4, x5, x6, x7, x8, x9⟩ := blk10 HPI.out.box
      have had : (ad.add (k * 3)).block < w.heap.size := by rw [block_of_add]; exact hab
      have HD1 := Lib.hid (HPI.out.did1 (ki := dd.kind) (tv := dd.v) (x := dd.n) hp hq hn (by omega) hbn.1 hbn.2 hbv.1 hbv.2 had ⟨x0, x1, x2, x3, x4, x5, x6, x7, x8, x9, d0, d1, d2⟩)
      have HD2 := Lib.hid (HPI.out.did2 (ki := dd.kind) (tv := dd.v) (x := dd.n) hp hq hn (by omega) hbn.1 hbn.2 hbv.1 hbv.2 had ⟨x0, x1, x2, x3, x4, x5, x6, x7, x8, x9, d0, d1, d2⟩)
      have hk0 : (0 : Int) ≤ (k : Int) := by omega
      have hk3 : (k : Int) < (len3 : Int) := by omega
      have hk60 : (k : Int) < 60 := by omega
      have hne1 : ¬ b = wr.heap.size := by have := HPI.out.box.lt; omega
      have hne2 : ¬ wr.heap.size = b := by have := HPI.out.box.lt; omega
      clear hat hzk hbk hbv hbn
      go_wp2_with fail
      go_cut [13, 14] (fun s13 s14 wx => PlC w g b z z' p q n (8 + k) s13 s14 wx)
      case first =>
        go_region_held3 (fun w' => w'.cell? ⟨b, 0, none⟩ = some (.int .i64 0) ∧ w'.cell? ⟨b, 1, none⟩ = some (.slice none 0 0) ∧ w'.cell? ⟨b, 2, none⟩ = some (.slice z'.A0 p z'.d0) ∧ w'.cell? ⟨b, 3, none⟩ = some (.slice z'.A1 n z'.d1) ∧ w'.cell? ⟨b, 4, none⟩ = some (.slice none 0 0) ∧ w'.cell? ⟨b, 5, none⟩ = some (.slice z'.A2 p z'.d2) ∧ w'.cell? ⟨b, 6, none⟩ = some (.slice z'.A3 q z'.d3) ∧ w'.cell? ⟨b, 7, none⟩ = some (.slice z'.A4 n z'.d4) ∧ w'.cell? ⟨b, 8, none⟩ = some (.slice none 0 0) ∧ w'.cell? ⟨b, 9, none⟩ = some (.slice none 0 0) ∧ w'.cell? (ad.add (k * 3)) = some (.int .i64 dd.kind) ∧ w'.cell? ⟨(ad.add (k * 3)).block, (ad.add (k * 3)).off + 1, none⟩ = some (.int .i64 dd.v) ∧ w'.cell? ⟨(ad.add (k * 3)).block, (ad.add (k * 3)).off + 2, none⟩ = some (.int .i64 dd.n))
          (first | with_reducible exact ⟨x0, x1, x2, x3, x4, x5, x6, x7, x8, x9, d0, d1, d2⟩ | with_reducible exact G3 | with_reducible exact G4 | go_keep)
          (first
            | (go_simp; (with_reducible refine (HD2.out).mono ?_); (rintro e w6 ⟨z'', rfl, HDID, G3, G4, kn⟩); (obtain ⟨t0, t1, t2, t3, t4, t5, t6, t7, t8, t9⟩ := blk10 kn); (obtain ⟨v0, v1, v2, v3, v4, v5, v6, v7, v8, v9⟩ := fro10 kn))
            | (go_simp; (with_reducible refine (HD1.out).mono ?_); (rintro e w6 ⟨z'', rfl, HDID, G3, G4⟩))
            | fail)
        all_goals
          have hpo := HPI
          clear x0 x1 x2 x3 x4 x5 x6 x7 x8 x9 d0 d1 d2
          go_wp2_with fail
          go_meet
          first
            | with_reducible exact HPI.out.after HDID.out
            | with_reducible exact HPI.out.before HDID.out
      case rest =>
        obtain ⟨nb, z'', s2, rfl, rfl, hnb, kn, ok2, hl2, hd2, kb, hbel2⟩ := hcut
        clear HD1 HD2 x0 x1 x2 x3 x4 x5 x6 x7 x8 x9 d0 d1 d2 hne1 hne2
        have hpi := HPI.out.next ok2 hl2 hd2 kb hbel2
        obtain ⟨n0, n1, n2, n3, n4, n5, n6, n7, n8, n9⟩ := blk10 kn
        obtain ⟨t0, t1, t2, t3, t4, t5, t6, t7, t8, t9⟩ := blk10 kb
        obtain ⟨v0, v1, v2, v3, v4, v5, v6, v7, v8, v9⟩ := fro10 kb
        obtain ⟨W8, hW8⟩ : ∃ W, W = ((((((((((wc.setCell ⟨b, 0, none⟩ (.int .i64 0)).setCell ⟨b, 1, none⟩ (.slice none 0 0)).setCell ⟨b, 2, none⟩ (.slice z''.A0 p z''.d0)).setCell ⟨b, 3, none⟩ (.slice z''.A1 n z''.d1)).setCell ⟨b, 4, none⟩ (.slice none 0 0)).setCell ⟨b, 5, none⟩ (.slice z''.A2 p z''.d2)).setCell ⟨b, 6, none⟩ (.slice z''.A3 q z''.d3)).setCell ⟨b, 7, none⟩ (.slice z''.A4 n z''.d4)).setCell ⟨b, 8, none⟩ (.slice none 0 0)).setCell ⟨b, 9, none⟩ (.slice none 0 0)) := ⟨_, rfl⟩
        rw [← hW8, show 8 + k + 1 = 8 + (k + 1) by omega] at hpi
        have HPI8 := Lib.hid hpi; have HW8 := Lib.hid hW8
        clear hpi hW8 kn kb ok2 hl2 hd2 hbel2 HPI
        go_upto_region 9 with fail
        rw [← HW8.out]
        clear HW8 n0 n1 n2 n3 n4 n5 n6 n7 n8 n9 t0 t1 t2 t3 t4 t5 t6 t7 t8 t9 v0 v1 v2 v3 v4 v5 v6 v7 v8 v9
        obtain ⟨x0, x1, x2, x3, x4, x5, x6, x7, x8, x9⟩ := blk10 (show Blk _ g 27 (mkC z p q n) from HPI8.out.lk.box)
        go_wp2_with fail
        go_loopw [15] (fun s15 w9 => ∃ (j : Nat), j ≤ p ∧ s15 = .int .i64 (j : Int) ∧ Hid (PlI w w9 g b z z'' p q n s2 (8 + (k + 1)))) (fun s15 _ => p - (intOf s15).toNat)
        case atStart => exact ⟨0, by omega, rfl, HPI8⟩
        case round =>
          clear x0 x1 x2 x3 x4 x5 x6 x7 x8 x9 HPI8
          obtain ⟨j, hj, rfl, HPI8⟩ := hrel
          obtain ⟨x0, x1, x2, x3, x4, x5, x6, x7, x8, x9⟩ := blk10 (show Blk _ g 27 (mkC z p q n) from HPI8.out.lk.box)
          by_cases hjp : j < p
          · have hj1 : (j : Int) < (p : Int) := by omega
            have hj0 : (0 : Int) ≤ (j : Int) := by omega
            have hjo : j < s2.own.length := by have := HPI8.out.dc.lo; omega
            have hjl : j < s2.lq.length := by have := HPI8.out.dc.ll; omega
            obtain ⟨b1, cap1, e1, _, _, _, e2, _⟩ := OwnI.at_ HPI8.out.lk.own hjo
            obtain ⟨b2, cap2', A2, c2, f1, _, _, _, f2, _, _⟩ := HPI8.out.lk.lq.at_ hjl
            injection e1 with e1 _ _
            injection f1 with f1 _ _
            rw [e1] at x2
            rw [f1] at x5
            have hge := (HPI8.out.ok.own _ (gn_mem hjo)).1
            have hemp := HPI8.out.ok.h1 j hjo
            have HE1 := Lib.hid e1; have HF1 := Lib.hid f1
            clear e1 f1 hjo hjl
            by_cases hv : gn s2.own j = -1
            · have he := hemp hv
              rw [he] at f2
              rw [hv] at e2
              clear hemp he hge hv
              go_wp2_with fail
              exact ⟨⟨j + 1, by omega, by go_num, HPI8⟩, by simp [intOf]; omega⟩
            · have hnn : ¬ gn s2.own j < 0 := by omega
              generalize gn s2.own j = y at *
              clear hemp hge hv f2
              go_wp2_with fail
              exact ⟨⟨j + 1, by omega, by go_num, HPI8⟩, by simp [intOf]; omega⟩
          · have hj1 : ¬ (j : Int) < (p : Int) := by omega
            go_wp2_with fail
            go_loopw [16] (fun s16 w9' => ∃ (i : Nat), i ≤ n ∧ s16 = .int .i64 (i : Int) ∧ Hid (PlI w w9' g b z z'' p q n s2 (8 + (k + 1)))) (fun s16 _ => n - (intOf s16).toNat)
            case atStart => exact ⟨0, by omega, rfl, HPI8⟩
            case round =>
              clear x0 x1 x2 x3 x4 x5 x6 x7 x8 x9 HPI8
              obtain ⟨i, hi, rfl, HPI8⟩ := hrel
              obtain ⟨x0, x1, x2, x3, x4, x5, x6, x7, x8, x9⟩ := blk10 (show Blk _ g 27 (mkC z p q n) from HPI8.out.lk.box)
              by_cases hip : i < n
              · have hi1 : (i : Int) < (n : Int) := by omega
                have hi0 : (0 : Int) ≤ (i : Int) := by omega
                have hio : i < s2.cnt.length := by have := HPI8.out.dc.ln; omega
                have hil : i < s2.dq.length := by have := HPI8.out.dc.ld; omega
                obtain ⟨b1, cap1, e1, _, _, _, e2, _⟩ := OwnI.at_ HPI8.out.lk.cnt hio
                obtain ⟨b2, cap2', A2, c2, f1, _, _, _, f2, _, _⟩ := HPI8.out.lk.dq.at_ hil
                injection e1 with e1 _ _
                injection f1 with f1 _ _
                rw [e1] at x3
                rw [f1] at x7
                have hge := (HPI8.out.ok.cnt _ (gn_mem hio)).1
                have hemp := HPI8.out.ok.h2 i hio
                have HE1 := Lib.hid e1; have HF1 := Lib.hid f1
                clear e1 f1 hio hil
                have hnn : ¬ gn s2.cnt i < 0 := by omega
                by_cases hv : 0 < gn s2.cnt i
                · have he := hemp hv
                  rw [he] at f2
                  generalize gn s2.cnt i = y at *
                  clear hemp he
                  go_wp2_with fail
                  exact ⟨⟨i + 1, by omega, by go_num, HPI8⟩, by simp [intOf]; omega⟩
                · generalize gn s2.cnt i = y at *
                  clear hemp f2
                  go_wp2_with fail
                  exact ⟨⟨i + 1, by omega, by go_num, HPI8⟩, by simp [intOf]; omega⟩
              · have hi1 : ¬ (i : Int) < (n : Int) := by omega
                go_wp2_with fail
                exact ⟨⟨k + 1, z'', s2, by omega, by go_num, HPI8⟩, by simp [intOf]; omega⟩
    · have hke : k = min len3 60 := by have := HN60.out; omega
      by_cases hge : k < len3
      · have hge2 : ¬ k < 60 := by omega
        have hg1 : (k : Int) < (len3 : Int) := by omega
        have hg2 : ¬ (k : Int) < 60 := by omega
        clear hke
        go_wp2_with fail
        refine (lives_lk _).mono ?_
        rintro e w' ⟨rfl, hbl⟩
        go_wp2_with fail
        go_ret
        exact ⟨rfl, HPI.out.bel.trans (hbl.mono HPI.out.bel.size)⟩
      · have hg1 : ¬ (k : Int) < (len3 : Int) := by omega
        clear hke
        go_wp2_with fail
        refine (lives_lk _).mono ?_
        rintro e w' ⟨rfl, hbl⟩
        go_wp2_with fail
        go_ret
        exact ⟨rfl, HPI.out.bel.trans (hbl.mono HPI.out.bel.size)⟩
end Go.Proofs.Ytikelkfinjcgaaa.locksHold
