/-
  The walk of RingMoves.
-/
import Derived.Test.YthlaaeopohilmaaRows
import Derived.WalkKit
import Derived.ProofKit
import Derived.OpenShut
import Derived.ShutString
import Derived.ChangeOld
import Derived.Below
import Derived.Test.YthlaaeopohilmaaRgEach
import Derived.Test.YthlaaeopohilmaaRgRef
import Derived.Test.YthlaaeopohilmaaRgMove
namespace Go.Proofs.Ythlaaeopohilmaa.ringMoves
open Go.ChangeShapes Go.WideShapes Go.ChangeAt Go.RowKit Go.Proofs.Ythlaaeopohilmaa Go.Proofs.Ythlaaeopohilmaa.Plain
open Go.ChangeMaps (open_string shut_string)
set_option linter.unusedVariables false


/-- Where RingMoves stands when all was moved, and the document's row was made longer. -/
structure MvC (w : World) (g s g2 s2 a b f f2 bx yb B2 : Nat) (L M : List Int) (Ax : Option Addr) (cx N : Nat) (wx : World) : Prop where
  r1 : RgI wx g s a f (L.drop N)
  r2 : RgI wx g2 s2 b f2 (M ++ L.take N)
  bx : Blk wx bx 27 #[.int .i64 (a : Int), .slice Ax L.length cx]
  yb : ∃ A8 c8, Blk wx yb 27 #[.int .i64 (b : Int), .slice A8 (M ++ L.take N).length c8] ∧ Reads wx wx.heap.size 1 A8 (M ++ L.take N).length ((M ++ L.take N).map EnI)
  ox : OwnI wx B2 (.slice Ax L.length cx) L
  bel : Below w.heap.size w wx
set_option maxRecDepth 100000 in
set_option maxHeartbeats 40000000 in
theorem walk (a0 : Int) (a1 : Int) (a2 : Option Addr) (len2 cap2 : Nat) (z2 : List Int) (a3 : Option Addr) (len3 cap3 : Nat) (z3 : List Int) (w : World) (w0 : (Lit.int .i64 a0).wf = true) (w1 : (Lit.int .i64 a1).wf = true) (w2 : IsRow .i64 w a2 len2 cap2 z2) (w3 : IsRow .i64 w a3 len3 cap3 z3) :
    Calls Try.prog 4 #[.int .i64 a0, .int .i64 a1, .slice a2 len2 cap2, .slice a3 len3 cap3] w fun e w' => e = .returned (.bool true) ∧ Below w.heap.size w w' := by
  obtain ⟨i0, hi0, hz0, hz1, hz2⟩ := info_parts info_int
  obtain ⟨l, hl, hR, _, hc, hn⟩ := row_int w2
  obtain ⟨m, hm, hR2, _, hc2, hn2⟩ := row_int w3
  have ba := wf_i64 w0
  have bb := wf_i64 w1
  have har := fun W => around_any a0 21 W ba.1 ba.2 (by omega) (by omega)
  have hbr := fun W => around_any a1 21 W bb.1 bb.2 (by omega) (by omega)
  have hal := aroundV_lt (n := a0) (m := 21) (by omega)
  have hbl := aroundV_lt (n := a1) (m := 21) (by omega)
  generalize aroundV a0 21 = ra at *
  generalize aroundV a1 21 = rb at *
  obtain ⟨a, rfl⟩ := Int.eq_ofNat_of_zero_le hal.1
  obtain ⟨b, rfl⟩ := Int.eq_ofNat_of_zero_le hbl.1
  have ha21 : a < 21 := by omega
  have hb21 : b < 21 := by omega
  have hrl := hR.few (m := min len2 25) (by omega)
  have hrm := hR2.few (m := min len3 25) (by omega)
  have hll : (l.take (min len2 25)).length = min len2 25 := by rw [List.length_take, hl]; omega
  have hmm : (m.take (min len3 25)).length = min len3 25 := by rw [List.length_take, hm]; omega
  generalize l.take (min len2 25) = l' at *
  generalize m.take (min len3 25) = m' at *
  obtain ⟨nl, hnl⟩ : ∃ k, k = min len2 25 := ⟨_, rfl⟩
  obtain ⟨nm, hnm⟩ : ∃ k, k = min len3 25 := ⟨_, rfl⟩
  rw [← hnl] at hrl hll
  rw [← hnm] at hrm hmm
  have hnl25 : nl ≤ 25 := by omega
  have hnm25 : nm ≤ 25 := by omega
  have HAR := Lib.hid har; have HBR := Lib.hid hbr; have HRL := Lib.hid hrl; have HRM := Lib.hid hrm; have HLL := Lib.hid hll; have HMM := Lib.hid hmm
  have HNL := Lib.hid hnl; have HNM := Lib.hid hnm
  obtain ⟨L, hLA⟩ : ∃ L, L = l'.take a := ⟨_, rfl⟩
  obtain ⟨M, hMB⟩ : ∃ M, M = m'.take b := ⟨_, rfl⟩
  have hL25 : L.length ≤ 25 := by rw [hLA, List.length_take, hll]; omega
  have hM25 : M.length ≤ 25 := by rw [hMB, List.length_take, hmm]; omega
  have HLA := Lib.hid hLA; have HMB := Lib.hid hMB
  clear hLA hMB
  clear har hbr hrl hrm hll hmm hR hR2 hl hm w0 w1 w2 w3 hal hbl ba bb hnl hnm
  go_enter Try.func4, Try.ntmps4
  go_wp2_with fail
  refine (HAR.out _).mono ?_
  rintro e w' ⟨rfl, rfl⟩
  go_wp2_with fail
  refine (HBR.out _).mono ?_
  rintro e w' ⟨rfl, rfl⟩
  clear HAR HBR
  go_upto_if 20 with fail
  go_cut [2] (fun s2 wx => s2 = .slice a2 nl cap2 ∧ w = wx)
  case first =>
    by_cases h25 : 25 < len2
    · have e25 : nl = 25 := by have := HNL.out; omega
      have E25 := Lib.hid e25
      clear e25
      go_wp2_with fail
      go_meet
      exact ⟨by rw [E25.out], rfl⟩
    · have e25 : nl = len2 := by have := HNL.out; omega
      have E25 := Lib.hid e25
      clear e25
      go_wp2_with fail
      go_meet
      exact ⟨by rw [E25.out], rfl⟩
  case rest =>
  obtain ⟨rfl, rfl⟩ := hcut
  go_upto_if 25 with fail
  go_cut [3] (fun s3 wx => s3 = .slice a3 nm cap3 ∧ w = wx)
  case first =>
    by_cases h25 : 25 < len3
    · have e25 : nm = 25 := by have := HNM.out; omega
      have E25 := Lib.hid e25
      clear e25
      go_wp2_with fail
      go_meet
      exact ⟨by rw [E25.out], rfl⟩
    · have e25 : nm = len3 := by have := HNM.out; omega
      have E25 := Lib.hid e25
      clear e25
      go_wp2_with fail
      go_meet
      exact ⟨by rw [E25.out], rfl⟩
  case rest =>
  obtain ⟨rfl, rfl⟩ := hcut
  go_wp2_with fail
  refine (new_anyI (a : Int) l' nl HLL.out w _ _ _ HRL.out (Nat.le_refl _)).mono ?_
  rintro e w1 ⟨g, s, rfl, hq, hg, hs, hb⟩
  rw [show clampR (a : Int) = a by unfold clampR; omega, ← HLA.out] at hq
  have hql := hq.lt
  have z1 := hb.size
  have HQ := Lib.hid hq; have HB := Lib.hid hb
  clear hq hb
  go_wp2_with fail
  refine (new_anyI (b : Int) m' nm HMM.out w1 _ _ _ (HRM.out.below HB.out) z1).mono ?_
  rintro e w2 ⟨g2, s2, rfl, hq2, hg2, hs2, hb2⟩
  rw [show clampR (b : Int) = b by unfold clampR; omega, ← HMB.out] at hq2
  have hql2 := hq2.lt
  have z2 := hb2.size
  have hq := HQ.out.below hb2 hql.1 hql.2
  have hbb := HB.out.trans (hb2.mono z1)
  have HQ1 := Lib.hid hq; have HQ2 := Lib.hid hq2; have HB2 := Lib.hid hbb
  clear hq hq2 hbb hb2 HQ HB
  go_wp2_with fail
  have hx := refNew_any (a : Int) (by omega) l' nl HLL.out w2 _ a2 cap2 (HRL.out.below HB2.out) (by omega) (by omega)
  rw [show clampR (a : Int) = a by unfold clampR; omega, ← HLA.out] at hx
  refine hx.mono ?_
  rintro e w3 ⟨Ax, cx, rfl, hox, hb3⟩
  clear hx
  have z3 := hb3.size
  have hq := HQ1.out.below hb3 (by omega) (by omega)
  have hq2 := HQ2.out.below hb3 hql2.1 hql2.2
  have hbb := HB2.out.trans (hb3.mono (by omega))
  have HQ1 := Lib.hid hq; have HQ2 := Lib.hid hq2; have HB3 := Lib.hid hbb
  have HXL := Lib.hid (fun i (hi : (Value.slice Ax L.length cx).ownBlock = some i) => (hox.lt i hi).2)
  have hx3 := hox.alloc (.cells #[.int .i64 (a : Int), .slice Ax L.length cx] 27)
  have hxb := Blk.new w3 27 #[.int .i64 (a : Int), .slice Ax L.length cx]
  have HOX := Lib.hid hx3; have HXB := Lib.hid hxb
  clear hq hq2 hbb hb3 HB2 hox hx3 hxb
  go_wp2_with fail
  have hy := refNew_any (b : Int) (by omega) m' nm HMM.out (w3.alloc (.cells #[.int .i64 (a : Int), .slice Ax L.length cx] 27)) _ a3 cap3 ((HRM.out.below HB3.out).alloc (by omega) _) (by simp; omega) (by omega)
  rw [show clampR (b : Int) = b by unfold clampR; omega, ← HMB.out] at hy
  refine hy.mono ?_
  rintro e w5 ⟨Ay, cy, rfl, hoy, hb5⟩
  clear hy
  simp at hoy hb5
  have z5 := hb5.size
  simp at z5
  have hq := (HQ1.out.alloc _).below hb5 (by omega) (by omega)
  have hq2 := (HQ2.out.alloc _).below hb5 (by omega) (by omega)
  have hbb := (HB3.out.alloc (by omega) (.cells #[.int .i64 (a : Int), .slice Ax L.length cx] 27)).trans (hb5.mono (by omega))
  have hxb := HXB.out.below hb5 (by omega)
  have hxo := (Fr.of_below hb5).own HOX.out (fun i hi => by have := (HOX.out.lt i hi).2; simp at this; omega)
  obtain ⟨bx, hbx⟩ : ∃ bx, bx = w3.heap.size := ⟨_, rfl⟩
  obtain ⟨W6, hW6⟩ : ∃ W, W = w5.alloc (.cells #[.int .i64 (b : Int), .slice Ay M.length cy] 27) := ⟨_, rfl⟩
  have k1 := hq.alloc (.cells #[.int .i64 (b : Int), .slice Ay M.length cy] 27)
  have k2 := hq2.alloc (.cells #[.int .i64 (b : Int), .slice Ay M.length cy] 27)
  have k3 := hxb.alloc (.cells #[.int .i64 (b : Int), .slice Ay M.length cy] 27)
  have k4 := Blk.new w5 27 #[.int .i64 (b : Int), .slice Ay M.length cy]
  have k5 := hxo.alloc (.cells #[.int .i64 (b : Int), .slice Ay M.length cy] 27)
  have k6 := hoy.alloc (.cells #[.int .i64 (b : Int), .slice Ay M.length cy] 27)
  have k7 := hbb.alloc (by omega) (.cells #[.int .i64 (b : Int), .slice Ay M.length cy] 27)
  have zx : bx < w5.heap.size := by omega
  have zg : g ≠ g2 ∧ g ≠ s2 ∧ s ≠ g2 ∧ s ≠ s2 := by omega
  have zb : w2.heap.size ≤ bx := by omega
  rw [← hW6] at k1 k2 k3 k4 k5 k6 k7
  have hxl := HXL.out
  rw [← hbx] at k3 k6 hxl
  have HXL2 := Lib.hid hxl
  clear hxl HXL
  have K1 := Lib.hid k1; have K2 := Lib.hid k2; have K3 := Lib.hid k3; have K4 := Lib.hid k4; have K5 := Lib.hid k5; have K6 := Lib.hid k6; have K7 := Lib.hid k7
  have HW6 := Lib.hid hW6; have HBX := Lib.hid hbx
  clear k1 k2 k3 k4 k5 k6 k7 hq hq2 hbb hxb hxo hoy hb5 HQ1 HQ2 HB3 HOX HXB hW6 hbx
  go_upto_region 13 with fail
  rw [← HW6.out, ← HBX.out]
  obtain ⟨yb, hyb⟩ : ∃ yb, yb = w5.heap.size := ⟨_, rfl⟩
  rw [← hyb] at K4 zx ⊢
  clear hyb
  have x1' : W6.cell? ⟨bx, 1, none⟩ = some (.slice Ax L.length cx) := (K3.out.cell 1).trans rfl
  have y1' : W6.cell? ⟨yb, 1, none⟩ = some (.slice Ay M.length cy) := (K4.out.cell 1).trans rfl
  have hLa : L.length ≤ a := K1.out.len
  have hMb : M.length ≤ b := K2.out.len
  obtain ⟨N, hN⟩ : ∃ N, N = min L.length (b - M.length) := ⟨_, rfl⟩
  have hmin : ∀ W, (Builtin.min_ #[3, 3] 3 #[.int .i64 (L.length : Int), .int .i64 ((b : Int) - (M.length : Int))]).run Try.prog W = .ok (.int .i64 (N : Int)) W := by
    intro W
    rw [run_min_int2, show (if (b : Int) - (M.length : Int) < (L.length : Int) then (b : Int) - (M.length : Int) else (L.length : Int)) = (N : Int) by split <;> omega]
  have hmv := move_any g s a 0 g2 s2 b 0 L M W6 K1.out K2.out zg.1 zg.2.1 zg.2.2.1 zg.2.2.2 N hN
  have hNL : N ≤ L.length := by omega
  have hNM : N + M.length ≤ b := by omega
  have HMV := Lib.hid hmv; have HN := Lib.hid hN
  have zx6 : bx < W6.heap.size := K3.out.lt
  have zy6 : yb < W6.heap.size := K4.out.lt
  have zgl := K1.out.lt
  have zgl2 := K2.out.lt
  clear hmv hN HW6 HBX K1 K2
  go_wp2_with fail
  refine HMV.out.mono ?_
  rintro e w7 ⟨f, f2, rfl, hq, hq2, hf⟩
  have hxb := hf.blk K3.out (by omega)
  have hyb2 := hf.blk K4.out (by omega)
  have hox : OwnI w7 w2.heap.size _ L := hf.own K5.out (fun i hi => by have := (K5.out.lt i hi).1; omega)
  have hoy := hf.own K6.out (fun i hi => by have := (K6.out.lt i hi).1; omega)
  have hbl := K7.out.trans (hf.below (by have := K7.out.size; omega) (fun i hi => by omega))
  have z7 := hf.size
  have x1 : w7.cell? ⟨bx, 1, none⟩ = some (.slice Ax L.length cx) := (hxb.cell 1).trans rfl
  have y1 : w7.cell? ⟨yb, 1, none⟩ = some (.slice Ay M.length cy) := (hyb2.cell 1).trans rfl
  have y1z : w7.frozen? ⟨yb, 1, none⟩ = false := hyb2.frozen 1
  have J1 := Lib.hid hq; have J2 := Lib.hid hq2; have J3 := Lib.hid hxb; have J4 := Lib.hid hyb2; have J5 := Lib.hid hox; have J6 := Lib.hid hoy; have J7 := Lib.hid hbl
  clear hq hq2 hf hxb hyb2 hox hoy hbl HMV K3 K4 K5 K6 K7
  go_wp2_with fail
  obtain ⟨_, _, he, hcx, hrx⟩ := J5.out.slice
  injection he with e1 _ e3
  subst e1 e3
  have hrN := hrx.few hNL
  have HRX := Lib.hid hrx; have HRN := Lib.hid hrN
  have hi0' : (0 : Int) ≤ (N : Int) := by omega
  have hi1' : (N : Int) ≤ (L.length : Int) := by omega
  have hi2' : (N : Int) ≤ (cx : Int) := by omega
  have hw2 := J6.out
  have hown7 : ∀ i, (Value.slice Ay M.length cy).ownBlock = some i → bx < i := fun i hi => by have := (J6.out.lt i hi).1; omega
  have HO7 := Lib.hid hown7
  clear hrx hrN hw2 hown7
  go_cut [] (fun wx => MvC w g s g2 s2 a b f f2 bx yb w2.heap.size L M Ax cx N wx)
  case first =>
    go_region_law (first
      | (go_must (refine step_append_any _ (by rfl) (.tmp 61) (.tmp 65) _ (by rfl) (bx + 1) 3 i0 _ 1 8 Try.underlying22 hi0 hz0 hz1 hz2 rfl (by decide) (.slice Ay M.length cy) M.length (M.map EnI) (by rfl) (J6.out.drew) w7.heap.size Ax N cx ((L.take N).map EnI) (by rfl) HRN.out.drew (by intro u hu; obtain ⟨y, _, rfl⟩ := List.mem_map.1 hu; rfl) (by unfold maxLen; omega) (by omega) (by simp; omega) ?_)
         intro v' w8 hown' hg' hat'
         have hown2 : OwnI w8 (bx + 1) v' (M ++ L.take N) := by unfold OwnI; rw [List.map_append]; simpa [show min N L.length = N by omega] using hown'
         obtain ⟨A8, c8, rfl, hc8, hr8⟩ := hown2.slice
         have hF : Fr (fun i => (Value.slice Ay M.length cy).ownBlock = some i) w7 w8 := ((Fr.refl _ w7).drew).trans (Fr.of_grown hg') (fun i _ h => h)
         have hb4 := hF.blk J4.out (own_blk_ne J6.out J4.out (by decide))
         have z3 := (hb4.cell 1).trans rfl
         have zf := hb4.frozen 1)
      | fail)
    all_goals
      go_wp2_with fail
      go_meet
      have hri := fun i (hi : (Value.slice Ay M.length cy).ownBlock = some i) => HO7.out i hi
      have hfs := (Fr.refl (fun i => i = yb) w8).setCell (p := ⟨yb, 1, none⟩) (.inl rfl) (.slice A8 (M ++ L.take N).length c8)
      have hft := (hF.mono (S := fun i => (Value.slice Ay M.length cy).ownBlock = some i ∨ i = yb) (fun i _ h => .inl h)).trans hfs (fun i _ h => .inr h)
      have hb9 := hb4.set_ 1 (.slice A8 (M ++ L.take N).length c8)
      have ho9 : OwnI (w8.setCell ⟨yb, 1, none⟩ (.slice A8 (M ++ L.take N).length c8)) (bx + 1) (.slice A8 (M ++ L.take N).length c8) (M ++ L.take N) := hfs.own hown2 (fun i hi h => own_blk_ne hown2 hb4 (by decide) (by rw [hi, h]))
      have hS : ∀ i, i ≤ bx → ¬ ((Value.slice Ay M.length cy).ownBlock = some i ∨ i = yb) := fun i hi h => by
        rcases h with h | h
        · have := hri i h; omega
        · omega
      have hox5 := hft.own J5.out (fun i hi h => by
        rcases h with h | h
        · have := hri i h
          have h5 := HXL2.out i hi
          omega
        · subst h
          exact own_blk_ne J5.out J4.out (by decide) hi)
      have hbl9 := J7.out.trans (hft.below (by have := J7.out.size; omega) (fun i hi => by
        rcases hi with h | h
        · have := hri i h; omega
        · omega))
      have hMN : (M ++ L.take N).length = M.length + N := by simp; omega
      rw [hMN] at hft hb9 ho9 hox5 hbl9
      refine ⟨J1.out.fr hft (hS g (by omega)) (hS s (by omega)), J2.out.fr hft (hS g2 (by omega)) (hS s2 (by omega)), hft.blk J3.out (hS bx (by omega)), ⟨A8, c8, by rw [hMN]; simpa using hb9, by rw [hMN]; exact Reads.of_own (by rw [← hMN]; rw [← hMN] at ho9; exact ho9)⟩, hox5, hbl9⟩
  case rest =>
  clear HO7 HRX HRN J1 J2 J3 J4 J5 J6 J7 HXL2
  have C := hcut
  clear hcut
  obtain ⟨A8, c8, hby, hry⟩ := C.yb
  obtain ⟨_, _, he, hcx2, hrx⟩ := C.ox.slice
  injection he with e1 _ e3
  subst e1 e3
  have hcut2 := hrx.cut hNL hcx2
  rw [Nat.mul_one, ← List.map_drop] at hcut2
  have x1 : wc.cell? ⟨bx, 1, none⟩ = some (.slice Ax L.length cx) := (C.bx.cell 1).trans rfl
  have y1 : wc.cell? ⟨yb, 1, none⟩ = some (.slice A8 (M ++ L.take N).length c8) := (hby.cell 1).trans rfl
  have hLN : (L.drop N).length = L.length - N := List.length_drop
  have hMN : (M ++ L.take N).length = M.length + N := by simp; omega
  rw [hMN] at y1 hry hby
  have HCU := Lib.hid hcut2; have HRY := Lib.hid hry; have HLN := Lib.hid hLN; have HMN := Lib.hid hMN; have HC := Lib.hid C
  have zw := C.bel.size
  have ho2 := C.ox.2
  clear hcut2 hry hby hLN hMN C hrx
  have hn1 : (N : Int) ≤ (L.length : Int) := by omega
  have hn2 : (L.length : Int) ≤ (cx : Int) := by omega
  have hn3 : (0 : Int) ≤ (N : Int) := by omega
  by_cases hcap : cx = N
  · have hA : ∀ (n : Nat) (c : Nat), n = L.length - N → Calls Try.prog 13 #[.pointer (some ⟨g, 0, none⟩), .slice Ax n c, .int .i64 (-1)] wc fun e w' => e = .returned (.bool true) ∧ Below wc.heap.size wc w' := by
      rintro n c rfl
      have := HCU.out
      rw [if_pos hcap] at this
      exact all_yes_n g s a f (L.drop N) _ HLN.out (-1) wc HC.out.r1 _ Ax c this (Nat.le_refl _)
    have HA := Lib.hid hA
    clear hA ho2
    go_wp2_with fail
    refine (HA.out _ _ rfl).mono ?_
    rintro e w10 ⟨rfl, hb10⟩
    have z10 := hb10.size
    have y2 : w10.cell? ⟨yb, 1, none⟩ = some (.slice A8 (M.length + N) c8) := (hb10.cell (p := ⟨yb, 1, none⟩) (by have := World.block_lt_of_cell? _ _ y1; exact this)).trans y1
    have hl2 := HC.out.r2.lt
    have hA2 := all_yes_n g2 s2 b f2 (M ++ L.take N) _ HMN.out (-1) w10 (HC.out.r2.below hb10 hl2.1 hl2.2) _ A8 c8 (HRY.out.below hb10) z10
    have hbb := HC.out.bel.trans (hb10.mono zw)
    have HA2 := Lib.hid hA2; have HBB := Lib.hid hbb
    clear hA2 hbb hb10 y1 x1 HA
    go_wp2_with fail
    refine HA2.out.mono ?_
    rintro e w11 ⟨rfl, hb11⟩
    have hbb := HBB.out.trans (hb11.mono HBB.out.size)
    have HB11 := Lib.hid hbb
    clear hb11 hbb HBB
    go_wp2_with fail
    refine (lives_any _).mono ?_
    rintro e w' ⟨rfl, hbl⟩
    go_wp2_with fail
    go_ret
    exact ⟨rfl, HB11.out.trans (hbl.mono HB11.out.size)⟩
  · obtain ⟨ad, rfl⟩ : ∃ ad, Ax = some ad := by
      rcases ho2 with ⟨h, h0⟩ | ⟨g', cap, cur, h, _⟩
      · injection h with _ _ h3
        omega
      · injection h with h1
        exact ⟨_, h1⟩
    have hA : ∀ (n : Nat) (c : Nat), n = L.length - N → Calls Try.prog 13 #[.pointer (some ⟨g, 0, none⟩), .slice (some (ad.add N)) n c, .int .i64 (-1)] wc fun e w' => e = .returned (.bool true) ∧ Below wc.heap.size wc w' := by
      rintro n c rfl
      have := HCU.out
      rw [if_neg hcap] at this
      exact all_yes_n g s a f (L.drop N) _ HLN.out (-1) wc HC.out.r1 _ _ c this (Nat.le_refl _)
    have HA := Lib.hid hA
    clear hA ho2
    go_wp2_with fail
    refine (HA.out _ _ rfl).mono ?_
    rintro e w10 ⟨rfl, hb10⟩
    have z10 := hb10.size
    have y2 : w10.cell? ⟨yb, 1, none⟩ = some (.slice A8 (M.length + N) c8) := (hb10.cell (p := ⟨yb, 1, none⟩) (by have := World.block_lt_of_cell? _ _ y1; exact this)).trans y1
    have hl2 := HC.out.r2.lt
    have hA2 := all_yes_n g2 s2 b f2 (M ++ L.take N) _ HMN.out (-1) w10 (HC.out.r2.below hb10 hl2.1 hl2.2) _ A8 c8 (HRY.out.below hb10) z10
    have hbb := HC.out.bel.trans (hb10.mono zw)
    have HA2 := Lib.hid hA2; have HBB := Lib.hid hbb
    clear hA2 hbb hb10 y1 x1 HA
    go_wp2_with fail
    refine HA2.out.mono ?_
    rintro e w11 ⟨rfl, hb11⟩
    have hbb := HBB.out.trans (hb11.mono HBB.out.size)
    have HB11 := Lib.hid hbb
    clear hb11 hbb HBB
    go_wp2_with fail
    refine (lives_any _).mono ?_
    rintro e w' ⟨rfl, hbl⟩
    go_wp2_with fail
    go_ret
    exact ⟨rfl, HB11.out.trans (hbl.mono HB11.out.size)⟩
end Go.Proofs.Ythlaaeopohilmaa.ringMoves
