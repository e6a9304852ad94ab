
/-
  Whether a thread may be: of the program; a thread that may.
-/
import Derived.Test.YtbgdgfnbdipjkaaThrF
set_option linter.unusedVariables false
set_option linter.unusedSimpArgs false
namespace Go.Proofs.Ytbgdgfnbdipjkaa
open Go.RowKit Plain

def framesB (p : PV) (l : List FrV) : Bool := decide (l.length ≤ 8) && l.all (frB p)
structure FrsRel (w wr : World) (h : PH) (p : PV) : Prop where
  pb : Blk wr w.heap.size 26 (PC h p)
  bel : Below w.heap.size w wr

set_option maxHeartbeats 4000000 in
set_option maxRecDepth 100000 in
theorem mayFrames_any (h : PH) (p : PV) (w : World) (B : Nat) (hr : RP w B h p) (hB : B ≤ w.heap.size) (hlen : Lens p) (A : Option Addr) (n c : Nat) (fs : List FrV) (hg : RG w B A n c fs) (hfl : ∀ f ∈ fs, f.locals.length ≤ 9223372036854775807) (hn : n ≤ 9223372036854775807) :
    Calls Try.prog 38 #[.agg #[.slice h.fA p.funcs.length h.fc, .int .i64 p.mutexes, .slice h.cA p.conds.length h.cc, .slice h.sA p.semas.length h.sc, .slice h.hA p.chans.length h.hc, .slice h.xA p.choices.length h.xc, .int .i64 p.threads], .slice A n c] w
      fun e w' => e = .returned (.bool (framesB p fs)) ∧ Below w.heap.size w w' := by
  have hfn : fs.length = n := by obtain ⟨ts, _, e, _⟩ := hg; exact e
  have hmf := fun (W : World) (hb : Below w.heap.size w W) (x : TFr) (hx : RI w B x.A x.f.locals.length x.c x.f.locals) (hm : x.f ∈ fs) => mayFrame_any h p W B (hr.below (hb.mono hB)) (Nat.le_trans hB hb.size) hlen x (hx.keep fun p hp => hb.cell (by omega)) (hfl _ hm)
  have HMF := Lib.hid hmf; have HG := Lib.hid hg; have HFN := Lib.hid hfn
  clear hr hg hmf hlen hfl
  by_cases h8 : n ≤ 8
  · have hv : framesB p fs = fs.all (frB p) := by unfold framesB; rw [hfn, decide_eq_true h8, Bool.true_and]
    rw [hv]
    clear hv hfn
    obtain ⟨fA, fc, cA, cc, sA, sc, hA, hc, xA, xc⟩ := h
    have hst : FrsRel w (w.alloc (.cells #[.slice fA p.funcs.length fc, .int .i64 p.mutexes, .slice cA p.conds.length cc, .slice sA p.semas.length sc, .slice hA p.chans.length hc, .slice xA p.choices.length xc, .int .i64 p.threads] 26)) ⟨fA, fc, cA, cc, sA, sc, hA, hc, xA, xc⟩ p := ⟨Blk.new w _ _, (Below.refl _ _).alloc (Nat.le_refl _) _⟩
    have HST := Lib.hid hst
    clear hst
    go_enter Try.func38, Try.ntmps38
    go_wp2_with fail
    go_loopw [12] (fun s12 wr => ∃ k : Nat, k ≤ n ∧ s12 = .int .i64 (k : Int) ∧ FrsRel w wr ⟨fA, fc, cA, cc, sA, sc, hA, hc, xA, xc⟩ p ∧ Hid ((fs.take k).all (frB p) = true)) (fun s12 _ => n - (intOf s12).toNat)
    case atStart => exact ⟨0, by omega, rfl, HST.out, by show _ = _; simp⟩
    case round =>
      obtain ⟨k, hk, rfl, g, hok⟩ := hrel
      have GH := Lib.hid g
      by_cases hlt : k < n
      · obtain ⟨ad, x, rfl, hab, hx, hc0, hc1, hc2, hri⟩ := HG.out.at_ hlt
        have d0 := (g.bel.cell (p := ad.add (k * 3)) (by rw [block_of_add]; omega)).trans hc0
        have d1 := (g.bel.cell (p := ⟨(ad.add (k * 3)).block, (ad.add (k * 3)).off + 1, none⟩) (by show (ad.add (k * 3)).block < _; rw [block_of_add]; omega)).trans hc1
        have d2 := (g.bel.cell (p := ⟨(ad.add (k * 3)).block, (ad.add (k * 3)).off + 2, none⟩) (by show (ad.add (k * 3)).block < _; rw [block_of_add]; omega)).trans hc2
        have p0 : wr.cell? ⟨w.heap.size, 0, none⟩ = some (.slice fA p.funcs.length fc) := (g.pb.cell 0).trans rfl
        have p1 : wr.cell? ⟨w.heap.size, 1, none⟩ = some (.int .i64 p.mutexes) := (g.pb.cell 1).trans rfl
        have p2 : wr.cell? ⟨w.heap.size, 2, none⟩ = some (.slice cA p.conds.length cc) := (g.pb.cell 2).trans rfl
        have p3 : wr.cell? ⟨w.heap.size, 3, none⟩ = some (.slice sA p.semas.length sc) := (g.pb.cell 3).trans rfl
        have p4 : wr.cell? ⟨w.heap.size, 4, none⟩ = some (.slice hA p.chans.length hc) := (g.pb.cell 4).trans rfl
        have p5 : wr.cell? ⟨w.heap.size, 5, none⟩ = some (.slice xA p.choices.length xc) := (g.pb.cell 5).trans rfl
        have p6 : wr.cell? ⟨w.heap.size, 6, none⟩ = some (.int .i64 p.threads) := (g.pb.cell 6).trans rfl
        have hlt0 : w.heap.size < wr.heap.size := g.pb.lt
        have hzr := g.bel.size
        have hcon := HMF.out (wr.alloc (.cells #[.int .i64 x.f.func, .int .i64 x.f.pc, .slice x.A x.f.locals.length x.c] 34)) (g.bel.alloc hzr _) x hri (List.mem_of_getElem? hx)
        have HCON := Lib.hid hcon; have HX := Lib.hid hx
        clear hc0 hc1 hc2 hri hx hcon g
        go_wp2_with fail
        refine HCON.out.mono ?_
        rintro e w5 ⟨rfl, hb5⟩
        have hb6 : Below wr.heap.size wr w5 := ((Below.refl wr.heap.size wr).alloc (Nat.le_refl _) _).trans (hb5.mono (by simp))
        have hg5 : FrsRel w w5 ⟨fA, fc, cA, cc, sA, sc, hA, hc, xA, xc⟩ p := ⟨GH.out.pb.below hb6 hlt0, GH.out.bel.trans (hb6.mono hzr)⟩
        have G5 := Lib.hid hg5
        clear hb5 hb6 hg5
        by_cases hfx : frB p x.f = true
        · have hnext : (fs.take (k + 1)).all (frB p) = true := by rw [all_take' HX.out, hfx, Bool.and_true]; exact hok.out
          have HN := Lib.hid hnext
          rw [hfx]
          clear hfx hnext
          go_wp2_with fail
          exact ⟨⟨k + 1, by omega, by go_num, G5.out, HN.out⟩, by simp [intOf]; omega⟩
        · have hfx' : frB p x.f = false := by simpa using hfx
          have hall : fs.all (frB p) = false := by rw [List.all_eq_false]; exact ⟨x.f, List.mem_of_getElem? HX.out, by simp [hfx']⟩
          have HA := Lib.hid hall
          rw [hfx']
          clear hfx hfx' hall
          go_wp2_with fail
          go_ret
          exact ⟨ret_bool HA.out.symm, G5.out.bel⟩
      · have hall : fs.all (frB p) = true := by
          have := hok.out
          rwa [List.take_of_length_le (by rw [HFN.out]; omega)] at this
        have HA := Lib.hid hall
        clear hall g
        go_wp2_with fail
        go_ret
        exact ⟨ret_bool HA.out.symm, GH.out.bel⟩
  · have hv : framesB p fs = false := by unfold framesB; rw [hfn, decide_eq_false h8, Bool.false_and]
    rw [hv]
    clear hv hfn
    obtain ⟨fA, fc, cA, cc, sA, sc, hA, hc, xA, xc⟩ := h
    go_enter Try.func38, Try.ntmps38
    go_wp2_with fail
    go_ret
    exact ⟨rfl, (Below.refl _ _).alloc (Nat.le_refl _) _⟩

set_option maxHeartbeats 4000000 in
set_option maxRecDepth 100000 in
theorem may_yes (h : PH) (p : PV) (w : World) (B : Nat) (hr : RP w B h p) (hB : B ≤ w.heap.size) (hlen : Lens p) (ht : TH) (t : TV) (D : Nat → Prop) (hr2 : RT w D ht t) (hl : LensT t) (hm : mayT p t = true) (hs9 : t.state ≠ 9) :
    Calls Try.prog 13 #[.agg #[.slice h.fA p.funcs.length h.fc, .int .i64 p.mutexes, .slice h.cA p.conds.length h.cc, .slice h.sA p.semas.length h.sc, .slice h.hA p.chans.length h.hc, .slice h.xA p.choices.length h.xc, .int .i64 p.threads], .agg #[.int .i64 t.state, .int .i64 t.on, .slice ht.fA t.frames.length ht.fc, .slice ht.sA t.stack.length ht.sc, .int .i64 t.code]] w fun e w' => e = .returned (.bool true) ∧ Below w.heap.size w w' := by
  simp only [mayT, Bool.and_eq_true, decide_eq_true_eq, if_neg hs9, Bool.not_eq_true', List.isEmpty_eq_false_iff] at hm
  obtain ⟨⟨⟨⟨⟨⟨⟨⟨⟨m1, m2⟩, m3⟩, m4⟩, m5⟩, m6⟩, m7⟩, m8⟩, m9⟩, m10, m11⟩ := hm
  have hn0 : 0 < t.frames.length := List.length_pos_iff.2 m10
  have hfb : framesB p t.frames = true := by unfold framesB; rw [decide_eq_true m5, m9]; rfl
  have hmf := fun (W : World) (hb : Below w.heap.size w W) => mayFrames_any h p W W.heap.size ((hr.below (hb.mono hB)).more (Nat.le_trans hB hb.size)) (Nat.le_refl _) hlen ht.fA t.frames.length ht.fc t.frames ((hr2.below hb).frames.rg) (fun f hf => by have := hl.locals f hf; omega) (by omega)
  have hk := fun (W : World) (hb : Below w.heap.size w W) => areKept_any t.stack W W.heap.size ht.sA t.stack.length ht.sc ((hr2.below hb).stack.ri) (by omega)
  have HMF := Lib.hid hmf; have HK := Lib.hid hk; have HFB := Lib.hid hfb; have M7 := Lib.hid m7; have M8 := Lib.hid m8
  have hs9b : (t.state == 9) = false := by simpa using hs9
  have hn0b : ((t.frames.length : Int) == 0) = false := by simp; omega
  have hse : ¬ ((16 : Int) < (t.stack.length : Int)) := by omega
  have h16 : (t.stack.length : Int) ≤ 16 := by omega
  clear hr hr2 hlen hl m9 m10 hs9 hmf hk hfb m7 m8
  obtain ⟨tA, tc, kA, kc⟩ := ht
  obtain ⟨fA, fc, cA, cc, sA, sc, hA, hc, xA, xc⟩ := h
  have hb2 : ∀ cs ds, Below w.heap.size w ((w.alloc (.cells cs 26)).alloc (.cells ds 29)) := fun cs ds => ((Below.refl _ _).alloc (Nat.le_refl _) _).alloc (by simp) _
  have HB2 := Lib.hid hb2
  clear hb2
  go_enter Try.func13, Try.ntmps13
  go_wp2_with fail
  refine (swithin_any t.state 0 9 _).mono ?_
  rintro e w' ⟨rfl, rfl⟩
  rw [show (decide ((0 : Int) ≤ t.state) && decide (t.state ≤ 9)) = true by simp; omega]
  go_wp2_with fail
  refine (HMF.out _ (HB2.out _ _)).mono ?_
  rintro e w5 ⟨rfl, hb5⟩
  rw [HFB.out]
  have hz5 := hb5.size
  simp at hz5
  have h5 : Below w.heap.size w w5 := (HB2.out _ _).trans (hb5.mono (by simp; omega))
  have hbx5 : Blk w5 (w.heap.size + 1) 29 #[.int .i64 t.state, .int .i64 t.on, .slice tA t.frames.length tc, .slice kA t.stack.length kc, .int .i64 t.code] := by
    refine Blk.below ?_ hb5 (by simp)
    simpa [m11] using Blk.new (w.alloc (.cells #[.slice fA p.funcs.length fc, .int .i64 p.mutexes, .slice cA p.conds.length cc, .slice sA p.semas.length sc, .slice hA p.chans.length hc, .slice xA p.choices.length xc, .int .i64 p.threads] 26)) 29 #[.int .i64 t.state, .int .i64 t.on, .slice tA t.frames.length tc, .slice kA t.stack.length kc, .int .i64 t.code]
  have x0 := (hbx5.cell 0).trans rfl
  have x1 := (hbx5.cell 1).trans rfl
  have x3 := (hbx5.cell 3).trans rfl
  have x4 := (hbx5.cell 4).trans rfl
  have H5 := Lib.hid h5
  clear hb5 hbx5 h5
  go_wp2_with fail
  refine (HK.out _ H5.out).mono ?_
  rintro e w6 ⟨rfl, rfl⟩
  rw [M7.out]
  go_wp2_with fail
  refine (isKept_any t.on _).mono ?_
  rintro e w7 ⟨rfl, rfl⟩
  rw [M8.out]
  go_wp2_with fail
  refine (swithin_any 0 0 6 _).mono ?_
  rintro e w8 ⟨rfl, rfl⟩
  rw [show (decide ((0 : Int) ≤ 0) && decide ((0 : Int) ≤ 6)) = true by decide]
  go_wp2_with fail
  go_ret
  exact ⟨rfl, H5.out⟩
end Go.Proofs.Ytbgdgfnbdipjkaa
