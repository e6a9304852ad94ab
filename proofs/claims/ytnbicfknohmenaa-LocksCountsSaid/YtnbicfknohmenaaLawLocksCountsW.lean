
/-
  The walk of LocksCounts.
-/
import Derived.Test.YtnbicfknohmenaaRows
import Derived.WalkKit
import Derived.ProofKit
import Derived.OpenShut
import Derived.ShutString
import Derived.ChangeOld
import Derived.Below
import Derived.Test.YtnbicfknohmenaaLkG
import Derived.Test.YtnbicfknohmenaaBools
namespace Go.Proofs.Ytnbicfknohmenaa.locksCounts
open Go.ChangeShapes Go.WideShapes Go.ChangeAt Go.RowKit Go.Proofs.Ytnbicfknohmenaa Go.Proofs.Ytnbicfknohmenaa.Plain
open Go.ChangeMaps (open_string shut_string)
set_option linter.unusedVariables false


theorem LkM.base {w : World} {B B' : Nat} {h : LkH} {s : Lk} (H : LkM w B h s) (hb : B' ≤ B) : LkM w B' h s := by
  have hs : ∀ {v : Value} {L : List (List Int)}, OwnS w B h.D v L → OwnS w B' h.D v L := fun {v L} h => by
    obtain ⟨vs, h1, h2⟩ := h
    exact ⟨vs, own_base h1 hb, h2⟩
  exact ⟨H.box, own_base H.own hb, own_base H.cnt hb, hs H.lq, hs H.wq, hs H.dq, H.n1, H.n2, H.n3, H.n4, H.xlt⟩
theorem sc_cells {w : World} {B : Nat} {z : LkQ} {g : Nat} {c : Int} {d : List Int} (H : LkM w B (mkH z g 0 0 1) (SC c d)) : ∃ b q A dc, w.cell? ⟨g, 3, none⟩ = some (.slice (some ⟨b, 0, none⟩) 1 z.d1) ∧ w.cell? ⟨b, 0, none⟩ = some (.int .i64 c) ∧ w.cell? ⟨g, 7, none⟩ = some (.slice (some ⟨q, 0, none⟩) 1 z.d4) ∧ w.cell? ⟨q, 0, none⟩ = some (.slice A d.length dc) := by
  obtain ⟨y0, y1, y2, y3, y4, y5, y6, y7, y8, y9⟩ := H.all10
  obtain ⟨b, cap, e1, e2, e3, e4, e5, e6⟩ := OwnI.at_ H.cnt (i := 0) (by simp)
  obtain ⟨q, qcap, A, dc, f1, f2, f3, f4, f5, f6, f7⟩ := H.dq.at_ (i := 0) (by simp)
  injection e1 with e1 _ _
  injection f1 with f1 _ _
  rw [e1] at y3
  rw [f1] at y7
  exact ⟨b, q, A, dc, y3, e5, y7, f5⟩
/-- Where LocksCounts stands: through, downs, ups, the count, who waits. -/
structure LC (w wr : World) (z : LkQ) (g f th dn up c : Nat) (d : List Int) : Prop where
  st : LkS w wr (mkH z g 0 0 1) (SC (c : Int) d)
  e1 : th + c = f + up
  e2 : th + d.length = dn
  e3 : 0 < c → d = []
  e4 : ∀ y ∈ d, 0 ≤ y ∧ y ≤ 1000000
theorem LC.ok {w wr : World} {z : LkQ} {g f th dn up c : Nat} {d : List Int} (h : LC w wr z g f th dn up c d) (h1 : f ≤ 10) (h2 : dn ≤ 60) (h3 : up ≤ 60) : LkOk 1000 (SC (c : Int) d) := by
  have := h.e1; have := h.e2
  exact sc_ok (by omega) h.e4 (fun h0 => h.e3 (by omega)) (by omega) (by omega)
theorem LC.down {w wr : World} {z : LkQ} {g f th dn up c : Nat} {d : List Int} (h : LC w wr z g f th dn up c d) (h1 : f ≤ 10) (h2 : dn ≤ 60) (h3 : up ≤ 60) :
    Calls Try.prog 18 #[.pointer (some ⟨g, 0, none⟩), .int .i64 0, .int .i64 (dn : Int)] wr fun e w' => ∃ b : Bool, e = .returned (.bool b) ∧ ∃ c' d', LC w w' z g f (if b then th + 1 else th) (dn + 1) up c' d' := by
  have := down_any h.st.m (h.ok h1 h2 h3) (by omega) 0 (by simp) (dn : Int) (by omega)
  rw [down_SC, show ((0 : Nat) : Int) = 0 from rfl] at this
  refine this.mono ?_
  rintro e w' ⟨rfl, hT⟩
  have e1 := h.e1; have e2 := h.e2
  by_cases hc : (c : Int) ≤ 0
  · rw [if_pos hc] at hT ⊢
    exact ⟨false, rfl, c, d ++ [(dn : Int)], h.st.of hT, by simpa using e1, by simp; omega, fun h0 => by omega, snoc_thr h.e4 (by omega) (by omega)⟩
  · rw [if_neg hc] at hT ⊢
    obtain ⟨k, rfl⟩ : ∃ k, c = k + 1 := ⟨c - 1, by omega⟩
    have hd := h.e3 (by omega)
    subst hd
    rw [show (((k + 1 : Nat) : Int) - 1) = (k : Int) by omega] at hT
    simp at e2
    exact ⟨true, rfl, k, [], h.st.of hT, by simp; omega, by simp; omega, fun _ => rfl, by simp⟩
theorem LC.up_ {w wr : World} {z : LkQ} {g f th dn up c : Nat} {d : List Int} (h : LC w wr z g f th dn up c d) (h1 : f ≤ 10) (h2 : dn ≤ 60) (h3 : up ≤ 60) :
    Calls Try.prog 19 #[.pointer (some ⟨g, 0, none⟩), .int .i64 0] wr fun e w' => ∃ (x : Int) (b : Bool), e = .returned (.int .i64 x) ∧ decide (x ≥ 0) = b ∧ ∃ c' d', LC w w' z g f (if b then th + 1 else th) dn (up + 1) c' d' := by
  have := up_any h.st.m (h.ok h1 h2 h3) (by omega) 0 (by simp)
  rw [show ((0 : Nat) : Int) = 0 from rfl] at this
  refine this.mono ?_
  rintro e w' ⟨rfl, hT⟩
  have e1 := h.e1; have e2 := h.e2
  cases d with
  | nil =>
    rw [up_SC_nil, show ((c : Int) + 1) = ((c + 1 : Nat) : Int) by omega] at hT
    exact ⟨-1, false, rfl, rfl, c + 1, [], h.st.of hT, by simp; omega, by simpa using e2, fun _ => rfl, by simp⟩
  | cons x d =>
    rw [up_SC_cons] at hT ⊢
    have hx := h.e4 x (by simp)
    simp at e2
    have hc0 : c = 0 := by
      rcases Nat.eq_zero_or_pos c with h0 | h0
      · exact h0
      · cases h.e3 h0
    exact ⟨x, true, rfl, decide_eq_true hx.1, c, d, h.st.of hT, by simp; omega, by simp; omega, fun h0 => by omega, fun y hy => h.e4 y (by simp [hy])⟩
set_option maxRecDepth 100000 in
set_option maxHeartbeats 40000000 in
theorem walk (a0 : Int) (a1 : Option Addr) (len1 cap1 : Nat) (z1 : List Bool) (w : World) (w0 : (Lit.int .i64 a0).wf = true) (w1 : IsBools w a1 len1 cap1 z1) :
    Calls Try.prog 6 #[.int .i64 a0, .slice a1 len1 cap1] w fun e w' => e = .returned (.bool true) ∧ Below w.heap.size w w' := by
  have ba := wf_i64 w0
  obtain ⟨hzl, hzc, hzm, hzd⟩ := w1
  have har := fun W => around_any a0 11 W ba.1 ba.2 (by omega) (by omega)
  have hal := aroundV_lt (n := a0) (m := 11) (by omega)
  generalize aroundV a0 11 = ra at *
  obtain ⟨f, rfl⟩ := Int.eq_ofNat_of_zero_le hal.1
  have hf : f ≤ 10 := by omega
  have hnew := fun (W : World) (b : Nat) (hb : W.cell? ⟨b, 0, none⟩ = some (.int .i64 (f : Int))) => new_lk W (fun _ => True) (some ⟨b, 0, none⟩) 1 [(f : Int)] ⟨by simp, fun _ => ⟨_, rfl, trivial, World.block_lt_of_cell? _ _ hb, fun j x hj => by
    match j, hj with
    | 0, hj =>
      simp at hj
      subst hj
      exact hb⟩⟩ 1 rfl (by omega) (fun h => by cases h) 0 0 (by omega) (by omega)
  have hnew2 := fun W b hb => hnew W b hb
  simp only [show newV 0 0 [(f : Int)] = SC (f : Int) [] from rfl, show ((0 : Nat) : Int) = 0 from rfl] at hnew2
  have HAR := Lib.hid har; have HNEW := Lib.hid hnew2; have HLV := Lib.hid lives_lk; have HZL := Lib.hid hzl; have HZD := Lib.hid hzd
  obtain ⟨n60, hn60⟩ : ∃ k, k = min len1 60 := ⟨_, rfl⟩
  have HN60 := Lib.hid hn60
  have hn600 : n60 ≤ 60 := by omega
  have hn6l : n60 ≤ len1 := by omega
  clear har hal hnew hnew2 ba w0 hzl hzd hn60
  go_enter Try.func6, Try.ntmps6
  go_wp2_with fail
  refine (HAR.out _).mono ?_
  rintro e w' ⟨rfl, rfl⟩
  go_wp2_with fail
  refine (HNEW.out _ _ (by simp)).mono ?_
  rintro e w1 ⟨z, rfl, hb, hM, hbel⟩
  obtain ⟨w2, hw2⟩ : ∃ W, W = w1.alloc (.cells (mkC z 0 0 1) 27) := ⟨_, rfl⟩
  rw [← hw2] at hM hbel
  obtain ⟨g, hg⟩ : ∃ g, g = w1.heap.size := ⟨_, rfl⟩
  rw [← hg] at hM
  obtain ⟨B1, hB1⟩ : ∃ B, B = w.alloc (.cells #[.int .i64 (f : Int)] 3) := ⟨_, rfl⟩
  have hb01 : Below w.heap.size w B1 := by rw [hB1]; exact (Below.refl _ _).alloc (Nat.le_refl _) _
  rw [← hB1] at hM hbel
  have hst : LC w w2 z g f 0 0 0 f [] := by
    exact ⟨⟨LkM.base hM hb01.size, hb01.trans (hbel.mono hb01.size)⟩, by omega, rfl, fun _ => rfl, by simp⟩
  have HI := Lib.hid hst; have HW := Lib.hid hw2; have HG := Lib.hid hg
  obtain ⟨b, q, A, dc, b1, b2, b3, b4⟩ := sc_cells hM
  clear hM hbel hb HNEW hw2 hg hst
  go_upto_region 3 with fail
  rw [← HW.out, ← HG.out]
  clear HW HG
  go_wp2_with fail
  clear b1 b2 b3 b4
  go_loopw [6, 7, 8, 9] (fun s6 s7 s8 s9 wr => ∃ (k th dn up c : Nat) (d : List Int), k ≤ n60 ∧ s9 = .int .i64 (k : Int) ∧ dn ≤ k ∧ up ≤ k ∧ s6 = .int .i64 (th : Int) ∧ s7 = .int .i64 (dn : Int) ∧ s8 = .int .i64 (up : Int) ∧ Hid (LC w wr z g f th dn up c d)) (fun _ _ _ s9 _ => n60 - (intOf s9).toNat)
  case atStart => exact ⟨0, 0, 0, 0, f, [], by omega, rfl, by omega, by omega, rfl, rfl, rfl, HI⟩
  case round =>
    clear HI
    obtain ⟨k, th, dn, up, c, d, hk, rfl, hdn, hup, rfl, rfl, rfl, HI⟩ := hrel
    by_cases hlt : k < n60
    · have hk1 : k < len1 := by omega
      have hk2 : k < 60 := by omega
      obtain ⟨ad, rfl, hab, hat⟩ := HZD.out (by omega)
      have hzk : z1[k]? = some (z1[k]'(by have := HZL.out; omega)) := List.getElem?_eq_getElem (by have := HZL.out; omega)
      have hcell := (HI.out.st.b.cell (p := ad.add k) (by rw [block_of_add]; exact hab)).trans (hat k _ hzk)
      generalize z1[k]'(by have := HZL.out; omega) = bb at *
      have q0 : (0 : Int) ≤ (k : Int) := by omega
      have q1 : (k : Int) < (len1 : Int) := by omega
      have q2 : (k : Int) < 60 := by omega
      have hE1 := HI.out.e1; have hE2 := HI.out.e2
      clear hat hzk hab
      cases bb
      · have HU := Lib.hid (HI.out.up_ hf (by omega) (by omega))
        go_wp2_with fail
        refine HU.out.mono ?_
        rintro e w3 ⟨x, bx, rfl, hx, c', d', hst⟩
        obtain ⟨b, q, A, dc, b1, b2, b3, b4⟩ := sc_cells hst.st.m
        have e1 := hst.e1; have e2 := hst.e2
        have HS := Lib.hid hst
        generalize d'.length = dl at *
        clear hst HU HI hE1 hE2
        cases bx
        · simp only [Bool.false_eq_true, if_false] at e1 e2 HS
          have r1 : decide ((th : Int) > (f : Int) + ((up : Int) + 1)) = false := by simp; omega
          have r2 : ((th : Int) + (dl : Int) != (dn : Int)) = false := by simp; omega
          have r3 : ((th : Int) + (dl : Int) == (dn : Int)) = true := by simp; omega
          have r4 : ((th : Int) + (c' : Int) != (f : Int) + ((up : Int) + 1)) = false := by simp; omega
          have r5 : ((th : Int) + (c' : Int) == (f : Int) + ((up : Int) + 1)) = true := by simp; omega
          have s1 : th ≤ 100 := by omega
          have s2 : dl ≤ 100 := by omega
          have s3 : c' ≤ 100 := by omega
          clear e1 e2
          go_wp2_with fail
          exact ⟨⟨k + 1, th, dn, up + 1, c', d', by omega, by go_num, by omega, by omega, by go_num, by go_num, by go_num, HS⟩, by simp [intOf]; omega⟩
        · simp only [if_true] at e1 e2 HS
          have r1 : decide (((th : Int) + 1) > (f : Int) + ((up : Int) + 1)) = false := by simp; omega
          have r2 : (((th : Int) + 1) + (dl : Int) != (dn : Int)) = false := by simp; omega
          have r3 : (((th : Int) + 1) + (dl : Int) == (dn : Int)) = true := by simp; omega
          have r4 : (((th : Int) + 1) + (c' : Int) != (f : Int) + ((up : Int) + 1)) = false := by simp; omega
          have r5 : (((th : Int) + 1) + (c' : Int) == (f : Int) + ((up : Int) + 1)) = true := by simp; omega
          have s1 : th ≤ 100 := by omega
          have s2 : dl ≤ 100 := by omega
          have s3 : c' ≤ 100 := by omega
          clear e1 e2
          go_wp2_with fail
          exact ⟨⟨k + 1, th + 1, dn, up + 1, c', d', by omega, by go_num, by omega, by omega, by go_num, by go_num, by go_num, HS⟩, by simp [intOf]; omega⟩
      · have HD := Lib.hid (HI.out.down hf (by omega) (by omega))
        go_wp2_with fail
        refine HD.out.mono ?_
        rintro e w3 ⟨bx, rfl, c', d', hst⟩
        obtain ⟨b, q, A, dc, b1, b2, b3, b4⟩ := sc_cells hst.st.m
        have e1 := hst.e1; have e2 := hst.e2
        have HS := Lib.hid hst
        generalize d'.length = dl at *
        clear hst HD HI hE1 hE2
        cases bx
        · simp only [Bool.false_eq_true, if_false] at e1 e2 HS
          have r1 : decide ((th : Int) > (f : Int) + (up : Int)) = false := by simp; omega
          have r2 : ((th : Int) + (dl : Int) != ((dn : Int) + 1)) = false := by simp; omega
          have r3 : ((th : Int) + (dl : Int) == ((dn : Int) + 1)) = true := by simp; omega
          have r4 : ((th : Int) + (c' : Int) != (f : Int) + (up : Int)) = false := by simp; omega
          have r5 : ((th : Int) + (c' : Int) == (f : Int) + (up : Int)) = true := by simp; omega
          have s1 : th ≤ 100 := by omega
          have s2 : dl ≤ 100 := by omega
          have s3 : c' ≤ 100 := by omega
          clear e1 e2
          go_wp2_with fail
          exact ⟨⟨k + 1, th, dn + 1, up, c', d', by omega, by go_num, by omega, by omega, by go_num, by go_num, by go_num, HS⟩, by simp [intOf]; omega⟩
        · simp only [if_true] at e1 e2 HS
          have r1 : decide (((th : Int) + 1) > (f : Int) + (up : Int)) = false := by simp; omega
          have r2 : (((th : Int) + 1) + (dl : Int) != ((dn : Int) + 1)) = false := by simp; omega
          have r3 : (((th : Int) + 1) + (dl : Int) == ((dn : Int) + 1)) = true := by simp; omega
          have r4 : (((th : Int) + 1) + (c' : Int) != (f : Int) + (up : Int)) = false := by simp; omega
          have r5 : (((th : Int) + 1) + (c' : Int) == (f : Int) + (up : Int)) = true := by simp; omega
          have s1 : th ≤ 100 := by omega
          have s2 : dl ≤ 100 := by omega
          have s3 : c' ≤ 100 := by omega
          clear e1 e2
          go_wp2_with fail
          exact ⟨⟨k + 1, th + 1, dn + 1, up, c', d', by omega, by go_num, by omega, by omega, by go_num, by go_num, by go_num, HS⟩, by simp [intOf]; omega⟩
    · have hend : ∀ W, Below w.heap.size w W → Below w.heap.size w W := fun _ h => h
      by_cases hge : k < len1
      · have hge2 : ¬ k < 60 := by have := HN60.out; omega
        have hg1 : (k : Int) < (len1 : Int) := by omega
        have hg2 : ¬ (k : Int) < 60 := by omega
        go_wp2_with fail
        refine (HLV.out _).mono ?_
        rintro e w' ⟨rfl, hbl⟩
        go_wp2_with fail
        go_ret
        exact ⟨rfl, HI.out.st.b.trans (hbl.mono HI.out.st.b.size)⟩
      · have hg1 : ¬ (k : Int) < (len1 : Int) := by omega
        go_wp2_with fail
        refine (HLV.out _).mono ?_
        rintro e w' ⟨rfl, hbl⟩
        go_wp2_with fail
        go_ret
        exact ⟨rfl, HI.out.st.b.trans (hbl.mono HI.out.st.b.size)⟩
end Go.Proofs.Ytnbicfknohmenaa.locksCounts
