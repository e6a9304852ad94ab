
/-
  The walk of DequePools.
-/
import Derived.Test.YtipflplilkecjaaRows
import Derived.WalkKit
import Derived.ProofKit
import Derived.OpenShut
import Derived.ShutString
import Derived.ChangeOld
import Derived.Below
import Derived.Test.YtipflplilkecjaaDqPools
import Derived.Test.YtipflplilkecjaaRgOwn
import Derived.Test.YtipflplilkecjaaDqOpen
namespace Go.Proofs.Ytipflplilkecjaa.dequePools
open Go.ChangeShapes Go.WideShapes Go.ChangeAt Go.RowKit Go.Proofs.Ytipflplilkecjaa Go.Proofs.Ytipflplilkecjaa.Plain
open Go.ChangeMaps (open_string shut_string)
set_option linter.unusedVariables false


set_option maxRecDepth 100000 in
set_option maxHeartbeats 40000000 in
theorem walk (a0 : Int) (a1 : Int) (a2 : Option Addr) (len2 cap2 : Nat) (z2 : List Deed7) (w : World) (w0 : (Lit.int .i64 a0).wf = true) (w1 : (Lit.int .i64 a1).wf = true) (w2 : IsDeeds7 w a2 len2 cap2 z2) :
    Calls Try.prog 3 #[.int .i64 a0, .int .i64 a1, .slice a2 len2 cap2] w fun e w' => e = .returned (.bool true) ∧ Below w.heap.size w w' := by
  obtain ⟨hzl, hzc, hzm, hzd⟩ := w2
  have ba := wf_i64 w0
  have bt := wf_i64 w1
  obtain ⟨n, hn⟩ : ∃ n, clampW a0 = n := ⟨_, rfl⟩
  obtain ⟨room, hroom⟩ : ∃ room, clampD a1 = room := ⟨_, rfl⟩
  have hnew := newP a0 a1 n room w hn hroom bt.1 bt.2 ba.1 ba.2
  have href := fun W => refNew7 a0 a1 n room W hn hroom
  have HNEW := Lib.hid hnew; have HREF := Lib.hid href; have HZL := Lib.hid hzl; have HZD := Lib.hid hzd
  obtain ⟨n60, hn60⟩ : ∃ k, k = min len2 60 := ⟨_, rfl⟩
  have HN60 := Lib.hid hn60
  have hn600 : n60 ≤ 60 := by omega
  have hn6l : n60 ≤ len2 := by omega
  clear hnew href hzl hzd w0 w1 ba bt hn hroom hn60
  go_enter Try.func3, Try.ntmps3
  go_wp2_with fail
  refine HNEW.out.mono ?_
  rintro e w1 ⟨g, d, s, D0, rfl, hp, hD, hb⟩
  have HP := Lib.hid hp; have HD0 := Lib.hid hD; have HB := Lib.hid hb
  clear HNEW hp hD hb
  go_wp2_with fail
  refine (HREF.out _).mono ?_
  rintro e w3 ⟨lA, lc, rfl, hdoc, hb3⟩
  obtain ⟨bx, hbx⟩ : ∃ b, b = w3.heap.size := ⟨_, rfl⟩
  have z1 := HB.out.size
  have z3 := hb3.size
  have hpi : PoI w (w3.alloc (.cells #[.int .i64 (room : Int), .slice lA n lc, .slice none 0 0] 28)) g d s bx room n D0 (List.replicate n []) [] 0 lA none lc 0 := by
    have hpl := HP.out.below hb3 (Nat.le_refl _)
    have hbd := hpl.bound
    have hbd1 := HP.out.bound
    have hbn := Blk.new w3 28 #[.int .i64 (room : Int), .slice lA n lc, .slice none 0 0]
    rw [← hbx] at hbn
    exact ⟨hpl.below ((Below.refl _ _).alloc (Nat.le_refl _) _) (Nat.le_refl _), hbn, (hdoc.mono (fun i hi hl => ⟨fun e => by have := hbd1 _ e; omega, by omega⟩)).alloc _, fun e => by have := hbd _ e; omega, HD0.out, by omega, by simp, rfl, (HB.out.trans (hb3.mono z1)).alloc (by omega) _⟩
  have HPI := Lib.hid hpi; have HBX := Lib.hid hbx
  clear hpi hbx HP HD0 HB hdoc hb3 HREF z1 z3
  go_upto_region 5 with fail
  rw [← HBX.out]
  clear HBX
  generalize w3.alloc (.cells #[.int .i64 (room : Int), .slice lA n lc, .slice none 0 0] 28) = wb at *
  obtain ⟨x0, x1, x2⟩ := blk3 HPI.out.box
  go_wp2_with fail
  refine (like_any g d s room D0 _ _ wb HPI.out.pl _ lA none lc 0 HPI.out.doc n 0 HPI.out.len HPI.out.lenq (by omega)).mono ?_
  rintro e w4 ⟨rfl, hb4⟩
  have hpi4 := HPI.out.below hb4
  have HPI4 := Lib.hid hpi4
  clear hb4 hpi4 HPI x0 x1 x2
  go_wp2_with fail
  go_loopw [9] (fun s9 wr => ∃ (k : Nat) (Dq : Nat → Prop) (L : List (List Int)) (Q : List Int) (M : Nat) (lA gA : Option Addr) (lc gc : Nat), k ≤ n60 ∧ s9 = .int .i64 (k : Int) ∧ M ≤ k ∧ Hid (PoI w wr g d s bx room n Dq L Q M lA gA lc gc)) (fun s9 _ => n60 - (intOf s9).toNat)
  case atStart => exact ⟨0, D0, _, [], 0, lA, none, lc, 0, by omega, rfl, by omega, HPI4⟩
  case round =>
    clear HPI4
    obtain ⟨k, Dq, L, Q, M, lA, gA, lc, gc, hk, rfl, hMk, HPI⟩ := hrel
    by_cases hlt : k < n60
    · have hk1 : k < len2 := by omega
      have hk2 : k < 60 := by omega
      obtain ⟨ad, rfl, hab, hat⟩ := HZD.out (by omega)
      have hzk : z2[k]? = some (z2[k]'(by have := HZL.out; omega)) := List.getElem?_eq_getElem (by have := HZL.out; omega)
      have hdk := (hat k _ hzk).below (by rw [block_of_add]; exact hab) HPI.out.bel
      generalize z2[k]'(by have := HZL.out; omega) = p at *
      obtain ⟨d0, d1, d2⟩ := hdk.cells
      obtain ⟨x0, x1, x2⟩ := blk3 HPI.out.box
      have had : (ad.add (k * 3)).block < w.heap.size := by rw [block_of_add]; exact hab
      have HD1 := Lib.hid (HPI.out.did1 (ki := p.kind) (wi := p.v) (ni := p.n) (by omega) had ⟨x0, x1, x2, d0, d1, d2⟩)
      have HD2 := Lib.hid (HPI.out.did2 (ki := p.kind) (wi := p.v) (ni := p.n) (by omega) had ⟨x0, x1, x2, d0, d1, d2⟩)
      have hk0 : (0 : Int) ≤ (k : Int) := by omega
      have hk3 : (k : Int) < (len2 : Int) := by omega
      have hk60 : (k : Int) < 60 := by omega
      have hne1 : ¬ bx = wr.heap.size := by have := HPI.out.box.lt; omega
      have hne2 : ¬ wr.heap.size = bx := by have := HPI.out.box.lt; omega
      clear hat hzk hdk
      go_wp2_with fail
      go_cut [10, 11] (fun s10 s11 wx => PoC w g d s bx room n M lA gA lc gc (doesP room L Q p.kind p.v p.n).1 (doesP room L Q p.kind p.v p.n).2 s10 s11 wx)
      case first =>
        go_region_held3 (fun w' => w'.cell? ⟨bx, 0, none⟩ = some (.int .i64 (room : Int)) ∧ w'.cell? ⟨bx, 1, none⟩ = some (.slice lA n lc) ∧ w'.cell? ⟨bx, 2, none⟩ = some (.slice gA M gc) ∧ w'.cell? (ad.add (k * 3)) = some (.int .i64 p.kind) ∧ w'.cell? ⟨(ad.add (k * 3)).block, (ad.add (k * 3)).off + 1, none⟩ = some (.int .i64 p.v) ∧ w'.cell? ⟨(ad.add (k * 3)).block, (ad.add (k * 3)).off + 2, none⟩ = some (.int .i64 p.n))
          (first | with_reducible exact ⟨x0, x1, x2, d0, d1, d2⟩ | with_reducible exact G3 | with_reducible exact G4 | go_keep)
          (first
            | (go_simp; (with_reducible refine (HD2.out).mono ?_); (rintro e w6 ⟨lA', gA', lc', gc', M', rfl, HDID, G3, G4, ⟨t0, t1, t2⟩, tz0, tz1, tz2⟩))
            | (go_simp; (with_reducible refine (HD1.out).mono ?_); (rintro e w6 ⟨lA', gA', lc', gc', M', rfl, HDID, G3, G4⟩))
            | fail)
        all_goals
          have hpo := HPI
          clear x0 x1 x2 d0 d1 d2
          go_wp2_with fail
          go_meet
          first
            | with_reducible exact HPI.out.after HDID.out
            | with_reducible exact HPI.out.before HDID.out
      case rest =>
        obtain ⟨nb, Dq', lA', gA', lc', gc', M', rfl, rfl, hnb, hM', kn, q1, q2, kb, q4, q5, q6⟩ := hcut
        have hln := doesP_len room L Q p.kind p.v p.n
        clear HD1 HD2 x0 x1 x2 d0 d1 d2 hne1 hne2
        generalize doesP room L Q p.kind p.v p.n = rr at *
        obtain ⟨L', Q'⟩ := rr
        have hlen := hln.1.trans HPI.out.len
        have hlq : M' ≤ k + 1 := by have := hln.2; have := HPI.out.lenq; rw [← hM']; omega
        obtain ⟨n0, n1, n2⟩ := blk3 kn
        obtain ⟨b0, b1, b2⟩ := blk3 kb
        have bz0 : wc.frozen? ⟨bx, 0, none⟩ = false := kb.frozen 0
        have bz1 : wc.frozen? ⟨bx, 1, none⟩ = false := kb.frozen 1
        have bz2 : wc.frozen? ⟨bx, 2, none⟩ = false := kb.frozen 2
        obtain ⟨W8, hW8⟩ : ∃ W, W = ((wc.setCell ⟨bx, 0, none⟩ (.int .i64 (room : Int))).setCell ⟨bx, 1, none⟩ (.slice lA' n lc')).setCell ⟨bx, 2, none⟩ (.slice gA' M' gc') := ⟨_, rfl⟩
        have hpi := PoI.next hM' q1 q2 kb q4 q5 HPI.out.blo q6 hlen
        rw [← hW8] at hpi
        have HPI8 := Lib.hid hpi; have HW8 := Lib.hid hW8; have HLQ := Lib.hid hlq
        clear hpi hW8 kn kb q1 q2 q4 q5 q6 hln hlen HPI hM' hlq
        go_upto_region 12 with fail
        rw [← HW8.out]
        clear HW8 n0 n1 n2 b0 b1 b2 bz0 bz1 bz2
        obtain ⟨b0, b1, b2⟩ := blk3 HPI8.out.box
        go_wp2_with fail
        refine (like_any g d s room Dq' L' Q' W8 HPI8.out.pl _ lA' gA' lc' gc' HPI8.out.doc n M' HPI8.out.len HPI8.out.lenq (by have := HLQ.out; omega)).mono ?_
        rintro e w9 ⟨rfl, hb9⟩
        have hpi9 := HPI8.out.below hb9
        have HPI9 := Lib.hid hpi9
        clear hb9 hpi9 HPI8 b0 b1 b2
        go_wp2_with fail
        exact ⟨⟨k + 1, Dq', L', Q', M', lA', gA', lc', gc', by omega, by go_num, HLQ.out, HPI9⟩, by simp [intOf]; omega⟩
    · have hke : k = min len2 60 := by have := HN60.out; omega
      by_cases hge : k < len2
      · have hge2 : ¬ k < 60 := by omega
        have hg1 : (k : Int) < (len2 : Int) := by omega
        have hg2 : ¬ (k : Int) < 60 := by omega
        clear hke
        go_wp2_with fail
        refine (lives_dq _).mono ?_
        rintro e w' ⟨rfl, hbl⟩
        go_wp2_with fail
        go_ret
        exact ⟨rfl, HPI.out.bel.trans (hbl.mono HPI.out.bel.size)⟩
      · have hg1 : ¬ (k : Int) < (len2 : Int) := by omega
        clear hke
        go_wp2_with fail
        refine (lives_dq _).mono ?_
        rintro e w' ⟨rfl, hbl⟩
        go_wp2_with fail
        go_ret
        exact ⟨rfl, HPI.out.bel.trans (hbl.mono HPI.out.bel.size)⟩
end Go.Proofs.Ytipflplilkecjaa.dequePools
