/-
  The walk of StackDeep.
-/
import Derived.Test.YtlfaocgldpdihaaRows
import Derived.WalkKit
import Derived.ProofKit
import Derived.OpenShut
import Derived.ShutString
import Derived.ChangeOld
import Derived.Below
import Derived.Test.YtlfaocgldpdihaaSDeep
import Derived.Test.YtlfaocgldpdihaaPrOpen
namespace Go.Proofs.Ytlfaocgldpdihaa.stackDeep
open Go.ChangeShapes Go.WideShapes Go.ChangeAt Go.RowKit Go.Proofs.Ytlfaocgldpdihaa Go.Proofs.Ytlfaocgldpdihaa.Plain
open Go.ChangeMaps (open_string shut_string)
set_option linter.unusedVariables false


theorem bcell {W w1 : World} (hb : Below W.heap.size W w1) : (∀ b o, b < W.heap.size → w1.cell? ⟨b, o, none⟩ = W.cell? ⟨b, o, none⟩) ∧ (∀ b o, b < W.heap.size → w1.frozen? ⟨b, o, none⟩ = W.frozen? ⟨b, o, none⟩) :=
  ⟨fun b o h => hb.cell (p := ⟨b, o, none⟩) h, fun b o h => hb.frozen (p := ⟨b, o, none⟩) h⟩
/-- Where the deed stands: the two boxes, the program, the thread. -/
structure DR (w wr : World) (gb xb BP : Nat) (h : PH) (g : PV) (ht : TH) (t : TV) : Prop where
  pb : Blk wr gb 64 #[.slice h.fA g.funcs.length h.fc, .int .i64 g.mutexes, .slice h.cA g.conds.length h.cc, .slice h.sA g.semas.length h.sc, .slice h.hA g.chans.length h.hc, .slice h.xA g.choices.length h.xc, .int .i64 g.threads]
  tb : Blk wr xb 87 #[.int .i64 t.state, .int .i64 t.on, .slice ht.fA t.frames.length ht.fc, .slice ht.sA t.stack.length ht.sc, .int .i64 t.code]
  rp : RP wr BP h g
  rt : RT wr (fun i => i ≠ xb) ht t
  bel : Below w.heap.size w wr
  may : mayT g t = true
  st : t.state ≠ 9
  h1 : w.heap.size ≤ gb
  h2 : BP ≤ xb
  h3 : gb < xb
theorem DR.drew {w wr : World} {gb xb BP : Nat} {h : PH} {g : PV} {ht : TH} {t : TV} (r : DR w wr gb xb BP h g ht t) : DR w wr.drew gb xb BP h g ht t :=
  ⟨r.pb, r.tb, r.rp.drew, r.rt.keep fun _ _ _ => rfl, r.bel.drew, r.may, r.st, r.h1, r.h2, r.h3⟩
/-- A thread that was made of the one at hand is put into its box. -/
theorem DR.next {w wr w6 : World} {gb xb BP : Nat} {h : PH} {g : PV} {ht ht' : TH} {t t' : TV} (r : DR w wr gb xb BP h g ht t) (hrt : RT w6 (fun i => i ≠ xb ∨ wr.heap.size ≤ i) ht' t') (hb6 : Below wr.heap.size wr w6) (hm : mayT g t' = true) (hs : t'.state ≠ 9) :
    DR w (((((w6.setCell ⟨xb, 0, none⟩ (.int .i64 t'.state)).setCell ⟨xb, 1, none⟩ (.int .i64 t'.on)).setCell ⟨xb, 2, none⟩ (.slice ht'.fA t'.frames.length ht'.fc)).setCell ⟨xb, 3, none⟩ (.slice ht'.sA t'.stack.length ht'.sc)).setCell ⟨xb, 4, none⟩ (.int .i64 t'.code)) gb xb BP h g ht' t' := by
  have hz := hb6.size
  have l1 := r.tb.lt
  have l2 := r.pb.lt
  have e1 := r.h1
  have e2 := r.h2
  have e3 := r.h3
  have hz0 := r.bel.size
  have hfr := (Fr.refl (fun i => i = xb) w6).set5 (g := xb) (.inl rfl) (.int .i64 t'.state) (.int .i64 t'.on) (.slice ht'.fA t'.frames.length ht'.fc) (.slice ht'.sA t'.stack.length ht'.sc) (.int .i64 t'.code)
  refine ⟨hfr.blk (r.pb.below hb6 l2) (by omega), (r.tb.below hb6 l1).set5 _ _ _ _ _, r.rp.keep fun q hq => ?_, ?_, ?_, hm, hs, e1, e2, e3⟩
  · rw [hfr.cell (by omega) (by omega), hb6.cell (by omega)]
  · have h0 : RT w6 (fun i => i ≠ xb) ht' t' := hrt.mono (E := fun i => i ≠ xb) (fun i hi _ => hi.elim id (fun e => by omega))
    exact h0.keep fun q hd hq => hfr.cell hq hd
  · exact (r.bel.trans (hb6.mono hz0)).trans (hfr.below (by omega) (fun i hi => by omega))
set_option maxRecDepth 100000 in
set_option maxHeartbeats 40000000 in
theorem walk (hd0 : PH) (q0 : PV) (a1 : Option Addr) (len1 cap1 : Nat) (z1 : List Int) (a2 : Option Addr) (len2 cap2 : Nat) (z2 : List Int) (w : World) (w0 : RP w w.heap.size hd0 q0 ∧ Fit q0 ∧ Lens q0) (w1 : IsRow .i64 w a1 len1 cap1 z1) (w2 : IsRow .i64 w a2 len2 cap2 z2) :
    Calls Try.prog 20 #[.agg #[.slice hd0.fA q0.funcs.length hd0.fc, .int .i64 q0.mutexes, .slice hd0.cA q0.conds.length hd0.cc, .slice hd0.sA q0.semas.length hd0.sc, .slice hd0.hA q0.chans.length hd0.hc, .slice hd0.xA q0.choices.length hd0.xc, .int .i64 q0.threads], .slice a1 len1 cap1, .slice a2 len2 cap2] w fun e w' => e = .returned (.bool true) ∧ Below w.heap.size w w' := by
  obtain ⟨hrp, hfit, hlen⟩ := w0
  obtain ⟨l1, hri1, hfit1, hn1⟩ := row_ri w1
  obtain ⟨l2, hri2, hfit2, hn2⟩ := row_ri w2
  have HR := Lib.hid hrp; have HF := Lib.hid hfit; have HL := Lib.hid hlen; have HR1 := Lib.hid hri1; have HR2 := Lib.hid hri2; have HF1 := Lib.hid hfit1; have HF2 := Lib.hid hfit2
  clear hrp hfit hlen w1 w2 hri1 hri2 hfit1 hfit2
  go_enter Try.func20, Try.ntmps20
  go_wp2_with fail
  refine (good_any hd0 q0 _ w.heap.size (HR.out.alloc (Nat.le_refl _) _) (by simp) HF.out).mono ?_
  rintro e w1 hm
  obtain ⟨hg, rfl, hrp, hb⟩ := hm.rp
  have hgl := good_lens q0
  have hgn := good_funcs_len q0
  have hgf := good_few q0
  clear hm
  generalize good q0 = g at *
  obtain ⟨fA, fc, cA, cc, sA, sc, hA, hc, xA, xc⟩ := hg
  simp only at hrp ⊢
  have hbw1 : Below w.heap.size w w1 := ((Below.refl _ _).alloc (Nat.le_refl _) _).trans (hb.mono (by simp))
  have HRP := Lib.hid hrp; have HB := Lib.hid hbw1; have HGL := Lib.hid hgl; have HGF := Lib.hid hgf
  have z1 : w.heap.size ≤ w1.heap.size := hbw1.size
  clear hrp hb hgl hgf hbw1
  go_wp2_with fail
  refine (new_any ⟨fA, fc, cA, cc, sA, sc, hA, hc, xA, xc⟩ g _ w1.heap.size (HRP.out.alloc (Nat.le_refl _) _) (by simp) HGF.out HGL.out.funcs 0 (by omega)).mono ?_
  rintro e w3 ⟨⟨tA, tc, kA, kc⟩, he, hrt, hb3⟩
  have he' : e = .returned (.agg #[.int .i64 0, .int .i64 0, .slice tA 1 tc, .slice kA 0 kc, .int .i64 0]) := he
  clear he
  subst he'
  have hz3 : w1.heap.size + 1 ≤ w3.heap.size := by have := hb3.size; simpa using this
  have hdr : DR w (w3.alloc (.cells #[.int .i64 0, .int .i64 0, .slice tA 1 tc, .slice kA 0 kc, .int .i64 0] 87)) w1.heap.size w3.heap.size w1.heap.size ⟨fA, fc, cA, cc, sA, sc, hA, hc, xA, xc⟩ g ⟨tA, tc, kA, kc⟩ (newT g 0) := by
    have hb1 : Below w1.heap.size w1 (w1.alloc (.cells #[.slice fA g.funcs.length fc, .int .i64 g.mutexes, .slice cA g.conds.length cc, .slice sA g.semas.length sc, .slice hA g.chans.length hc, .slice xA g.choices.length xc, .int .i64 g.threads] 64)) := (Below.refl _ _).alloc (Nat.le_refl _) _
    have hb4 : Below w1.heap.size w1 w3 := hb1.trans (hb3.mono (by simp))
    have ha : Below w3.heap.size w3 (w3.alloc (.cells #[.int .i64 0, .int .i64 0, .slice tA 1 tc, .slice kA 0 kc, .int .i64 0] 87)) := (Below.refl _ _).alloc (Nat.le_refl _) _
    refine ⟨((Blk.new w1 _ _).below hb3 (by simp)).alloc _, Blk.new _ _ _, (HRP.out.below hb4).alloc (by omega) _, (hrt.mono (E := fun i => i ≠ w3.heap.size) (fun i _ hl => by omega)).alloc _, (HB.out.trans (hb4.mono z1)).alloc (by omega) _, mayT_new HGF.out (by omega) (by omega), show (0 : Int) ≠ 9 by decide, z1, by omega, by omega⟩
  have HDR := Lib.hid hdr
  obtain ⟨gb, hgb⟩ : ∃ b, b = w1.heap.size := ⟨_, rfl⟩
  obtain ⟨xb, hxb⟩ : ∃ b, b = w3.heap.size := ⟨_, rfl⟩
  have e0 : (newT g 0).frames.length = 0 + 1 := rfl
  have e1 : (newT g 0).stack = [] := rfl
  clear hdr hrt hb3
  go_wp2_with fail
  rw [← hgb, ← hxb] at HDR ⊢
  clear hgb hxb hz3 z1
  go_loopw [9] (fun s9 wr => ∃ (k : Nat) (ht : TH) (t : TV), k ≤ len1 ∧ k ≤ 12 ∧ s9 = .int .i64 (k : Int) ∧ DR w wr gb xb gb ⟨fA, fc, cA, cc, sA, sc, hA, hc, xA, xc⟩ g ht t ∧ t.frames.length = min (k + 1) 8 ∧ t.stack = []) (fun s9 _ => 12 - (intOf s9).toNat)
  case atStart => exact ⟨0, _, _, by omega, by omega, rfl, HDR.out, e0, e1⟩
  case round =>
    obtain ⟨k, ⟨tA, tc, kA, kc⟩, t, hk1, hk2, rfl, r, hfl, hst⟩ := hrel
    have R := Lib.hid r; have HFLN := Lib.hid hfl; have HST := Lib.hid hst
    clear hfl hst
    have p0 : wr.cell? ⟨gb, 0, none⟩ = some (.slice fA g.funcs.length fc) := (r.pb.cell 0).trans rfl
    have p1 : wr.cell? ⟨gb, 1, none⟩ = some (.int .i64 g.mutexes) := (r.pb.cell 1).trans rfl
    have p2 : wr.cell? ⟨gb, 2, none⟩ = some (.slice cA g.conds.length cc) := (r.pb.cell 2).trans rfl
    have p3 : wr.cell? ⟨gb, 3, none⟩ = some (.slice sA g.semas.length sc) := (r.pb.cell 3).trans rfl
    have p4 : wr.cell? ⟨gb, 4, none⟩ = some (.slice hA g.chans.length hc) := (r.pb.cell 4).trans rfl
    have p5 : wr.cell? ⟨gb, 5, none⟩ = some (.slice xA g.choices.length xc) := (r.pb.cell 5).trans rfl
    have p6 : wr.cell? ⟨gb, 6, none⟩ = some (.int .i64 g.threads) := (r.pb.cell 6).trans rfl
    have x0 : wr.cell? ⟨xb, 0, none⟩ = some (.int .i64 t.state) := (r.tb.cell 0).trans rfl
    have x1 : wr.cell? ⟨xb, 1, none⟩ = some (.int .i64 t.on) := (r.tb.cell 1).trans rfl
    have x2 : wr.cell? ⟨xb, 2, none⟩ = some (.slice tA t.frames.length tc) := (r.tb.cell 2).trans rfl
    have x3 : wr.cell? ⟨xb, 3, none⟩ = some (.slice kA t.stack.length kc) := (r.tb.cell 3).trans rfl
    have x4 : wr.cell? ⟨xb, 4, none⟩ = some (.int .i64 t.code) := (r.tb.cell 4).trans rfl
    have zx := r.tb.lt
    have zg := r.pb.lt
    have zw := r.bel.size
    by_cases hlt : k < len1 ∧ k < 12
    · obtain ⟨hlt1, hlt2⟩ := hlt
      obtain ⟨ad1, z, rfl, hab1, hz, hc1⟩ := HR1.out.at_ hlt1
      have hzf := HF1.out z (List.mem_of_getElem? hz)
      have d1 := (r.bel.cell (p := ad1.add k) (by rw [block_of_add]; exact hab1)).trans hc1
      have hfb := around_bd z g.funcs.length (by omega)
      have har := fun W => around_any z g.funcs.length W hzf.1 hzf.2 (by omega) (by omega)
      have HAR := Lib.hid har
      clear r hz hc1 har
      generalize around z g.funcs.length = f0 at *
      obtain ⟨f, rfl⟩ := Int.eq_ofNat_of_zero_le hfb.1
      have hfn : f < g.funcs.length := by omega
      go_upto_region 6 with fail
      go_region_held3 (fun w' => w'.cell? ⟨gb, 0, none⟩ = some (.slice fA g.funcs.length fc) ∧ w'.cell? (ad1.add k) = some (.int .i64 z))
        (first | exact ⟨p0, d1⟩ | go_keep)
        ((go_simp; refine (HAR.out _).mono ?_; rintro e wq ⟨rfl, rfl⟩))
      all_goals
        clear p0 p1 p2 p3 p4 p5 p6 x0 x1 x2 x3 x4 d1 HAR
        obtain ⟨wd, hwd⟩ : ∃ W, W = wr.drew := ⟨_, rfl⟩
        have r := R.out.drew
        rw [← hwd] at r ⊢
        have zx := r.tb.lt
        have zg := r.pb.lt
        have zw := r.bel.size
        clear hwd R
        have p0 : wd.cell? ⟨gb, 0, none⟩ = some (.slice fA g.funcs.length fc) := (r.pb.cell 0).trans rfl
        have p1 : wd.cell? ⟨gb, 1, none⟩ = some (.int .i64 g.mutexes) := (r.pb.cell 1).trans rfl
        have p2 : wd.cell? ⟨gb, 2, none⟩ = some (.slice cA g.conds.length cc) := (r.pb.cell 2).trans rfl
        have p3 : wd.cell? ⟨gb, 3, none⟩ = some (.slice sA g.semas.length sc) := (r.pb.cell 3).trans rfl
        have p4 : wd.cell? ⟨gb, 4, none⟩ = some (.slice hA g.chans.length hc) := (r.pb.cell 4).trans rfl
        have p5 : wd.cell? ⟨gb, 5, none⟩ = some (.slice xA g.choices.length xc) := (r.pb.cell 5).trans rfl
        have p6 : wd.cell? ⟨gb, 6, none⟩ = some (.int .i64 g.threads) := (r.pb.cell 6).trans rfl
        have x0 : wd.cell? ⟨xb, 0, none⟩ = some (.int .i64 t.state) := (r.tb.cell 0).trans rfl
        have x1 : wd.cell? ⟨xb, 1, none⟩ = some (.int .i64 t.on) := (r.tb.cell 1).trans rfl
        have x2 : wd.cell? ⟨xb, 2, none⟩ = some (.slice tA t.frames.length tc) := (r.tb.cell 2).trans rfl
        have x3 : wd.cell? ⟨xb, 3, none⟩ = some (.slice kA t.stack.length kc) := (r.tb.cell 3).trans rfl
        have x4 : wd.cell? ⟨xb, 4, none⟩ = some (.int .i64 t.code) := (r.tb.cell 4).trans rfl

        have R := Lib.hid r
        go_wp2_with fail
        by_cases h7 : k < 7
        · refine (enter_yes ⟨fA, fc, cA, cc, sA, sc, hA, hc, xA, xc⟩ g ⟨tA, tc, kA, kc⟩ t wd gb (fun i => i ≠ xb) R.out.rp R.out.rt (by omega) HGF.out HGL.out.funcs (lensT_may HGF.out R.out.may) f hfn (by rw [HFLN.out]; omega)).mono ?_
          rintro e w5 ⟨⟨tA', tc', kA', kc'⟩, rfl, hrt5, hb5⟩
          have hn1 : (enterT g t f).frames.length = k + 2 := by simp [enterT, HFLN.out]; omega
          have hn2 : (enterT g t f).frames[k + 1]? = some (newFr g f) := by
            have : t.frames.length = k + 1 := by rw [HFLN.out]; omega
            show (t.frames ++ [newFr g f])[k + 1]? = _
            rw [List.getElem?_append_right (by omega), this, Nat.sub_self]; rfl
          have hn3 : (enterT g t f).stack = [] := HST.out
          have hm5 := mayT_enter HGF.out (show (0 : Int) ≤ (f : Int) by omega) (by omega) R.out.may R.out.st (by rw [HFLN.out]; omega)
          have hs5 : (enterT g t f).state ≠ 9 := R.out.st
          generalize enterT g t f = t' at *
          obtain ⟨ad, x, hA', hab, hxk, hc0, hc1, hc2, hri⟩ := hrt5.frames.rg.at_ (k := k + 1) (by rw [hn1]; omega)
          rw [hn2] at hxk
          injection hxk with hxk
          simp only at hA'
          subst hA'
          obtain ⟨adF, tf, hfA, habF, hiF, cF0, _, _⟩ := R.out.rp.funcs.at_ hfn
          simp only at hfA
          subst hfA
          have hfa : funcAt g f = tf.f := by unfold funcAt; rw [show ((f : Int)).toNat = f by omega, List.getD_eq_getElem?_getD, hiF]; rfl
          obtain ⟨m, hm⟩ : ∃ m : Nat, tf.f.locals = (m : Int) := Int.eq_ofNat_of_zero_le (HGF.out _ (List.mem_of_getElem? hiF)).1
          have hxl : x.f.locals.length = m := by rw [← hxk]; simp [newFr, hfa, hm]
          have hz5 := hb5.size
          have habx : (ad.add ((k + 1) * 3)).block < w5.heap.size := by rw [block_of_add]; exact hab
          have q0 : ∀ o, (w5.alloc o).cell? (ad.add ((k + 1) * 3)) = some (.int .i64 (f : Int)) := fun o => (World.cell?_alloc_lt _ _ _ habx).trans (hc0.trans (by rw [← hxk]; rfl))
          have q1 : ∀ o, (w5.alloc o).cell? ⟨(ad.add ((k + 1) * 3)).block, (ad.add ((k + 1) * 3)).off + 1, none⟩ = some (.int .i64 0) := fun o => (World.cell?_alloc_lt w5 o ⟨(ad.add ((k + 1) * 3)).block, (ad.add ((k + 1) * 3)).off + 1, none⟩ habx).trans (hc1.trans (by rw [← hxk]; rfl))
          have q2 : ∀ o, (w5.alloc o).cell? ⟨(ad.add ((k + 1) * 3)).block, (ad.add ((k + 1) * 3)).off + 2, none⟩ = some (.slice x.A m x.c) := fun o => (World.cell?_alloc_lt w5 o ⟨(ad.add ((k + 1) * 3)).block, (ad.add ((k + 1) * 3)).off + 2, none⟩ habx).trans (hc2.trans (by rw [hxl]))
          have g0 : ∀ o, (w5.alloc o).cell? (adF.add (f * 2)) = some (.int .i64 (m : Int)) := fun o => (World.cell?_alloc_lt _ _ _ (by rw [block_of_add]; omega)).trans ((hb5.cell (by rw [block_of_add]; omega)).trans (cF0.trans (by rw [hm])))
          have pb5 := fun o => (R.out.pb.below hb5 zg).alloc o
          have tb5 := fun o => (R.out.tb.below hb5 zx).alloc o
          have P0 : ∀ o, (w5.alloc o).cell? ⟨gb, 0, none⟩ = some (.slice (some adF) g.funcs.length fc) := fun o => ((pb5 o).cell 0).trans rfl
          have X0 := fun o => ((tb5 o).cell 0).trans rfl
          have X1 := fun o => ((tb5 o).cell 1).trans rfl
          have X2 := fun o => ((tb5 o).cell 2).trans rfl
          have X3 := fun o => ((tb5 o).cell 3).trans rfl
          have X4 := fun o => ((tb5 o).cell 4).trans rfl
          have Y0 := fun o => (tb5 o).frozen 0
          have Y1 := fun o => (tb5 o).frozen 1
          have Y2 := fun o => (tb5 o).frozen 2
          have Y3 := fun o => (tb5 o).frozen 3
          have Y4 := fun o => (tb5 o).frozen 4
          have hnx := fun o d => R.out.next (w6 := (w5.alloc o).drewN d) ((hrt5.alloc o).keep fun _ _ _ => rfl) (below_drews (hb5.alloc hz5 o) d) hm5 hs5
          simp only [hn1] at hnx ⊢
          have HNX := Lib.hid hnx; have HN1 := Lib.hid hn1; have HN3 := Lib.hid hn3
          have zx5 : xb < w5.heap.size := by omega
          have zg5 : gb < w5.heap.size := by omega
          have hi1 : ((k : Int) + 1) < ((k + 2 : Nat) : Int) := by omega
          have hk7 : (k : Int) < 7 := by omega
          have hmin : min ((k : Int) + 2) 8 = (k : Int) + 2 := by omega
          have hff : (f : Int) < (g.funcs.length : Int) := by omega
          clear hn1 hn2 hn3 hm5 hs5 hrt5 hb5 hc0 hc1 hc2 hri hxk hiF cF0 hfa hm hxl pb5 tb5 hnx p0 p1 p2 p3 p4 p5 p6 x0 x1 x2 x3 x4 zx zg hab habF habx
          go_wp2_with fail
          go_quiet (fail)
          go_wp2_with fail
          exact ⟨⟨k + 1, ⟨some ad, tc', kA', kc'⟩, t', by omega, by omega, by go_num, HNX.out _ _, by rw [HN1.out]; omega, HN3.out⟩, by simp [intOf]; omega⟩
        · have h8 : t.frames.length = 8 := by rw [HFLN.out]; omega
          refine (enter_no ⟨fA, fc, cA, cc, sA, sc, hA, hc, xA, xc⟩ g ⟨tA, tc, kA, kc⟩ t wd gb (fun i => i ≠ xb) R.out.rp R.out.rt (by omega) HGF.out HGL.out.funcs (lensT_may HGF.out R.out.may) f hfn (by omega)).mono ?_
          rintro e w5 ⟨⟨tA', tc', kA', kc'⟩, rfl, hrt5, hb5⟩
          have hz5 := hb5.size
          have tb5 := fun o => (R.out.tb.below hb5 zx).alloc o
          have X0 := fun o => ((tb5 o).cell 0).trans rfl
          have X1 := fun o => ((tb5 o).cell 1).trans rfl
          have X2 := fun o => ((tb5 o).cell 2).trans rfl
          have X3 := fun o => ((tb5 o).cell 3).trans rfl
          have X4 := fun o => ((tb5 o).cell 4).trans rfl
          have Y0 := fun o => (tb5 o).frozen 0
          have Y1 := fun o => (tb5 o).frozen 1
          have Y2 := fun o => (tb5 o).frozen 2
          have Y3 := fun o => (tb5 o).frozen 3
          have Y4 := fun o => (tb5 o).frozen 4
          have hnx := fun o d => R.out.next (w6 := (w5.alloc o).drewN d) ((hrt5.alloc o).keep fun _ _ _ => rfl) (below_drews (hb5.alloc hz5 o) d) R.out.may R.out.st
          simp only [h8] at hnx X0 X1 X2 X3 X4 ⊢
          have HNX := Lib.hid hnx; have HN1 := Lib.hid h8
          have zx5 : xb < w5.heap.size := by omega
          have hk7 : ¬ (k : Int) < 7 := by omega
          have hmin : min ((k : Int) + 2) 8 = 8 := by omega
          clear h8 hrt5 hb5 tb5 hnx p0 p1 p2 p3 p4 p5 p6 x0 x1 x2 x3 x4 zx zg
          go_wp2_with fail
          go_quiet (fail)
          go_wp2_with fail
          exact ⟨⟨k + 1, ⟨tA', tc', kA', kc'⟩, t, by omega, by omega, by go_num, HNX.out _ _, by rw [HN1.out]; omega, HST.out⟩, by simp [intOf]; omega⟩
    · have hst0 : t.stack.length = min 0 16 := by rw [HST.out]; rfl
      have HS0 := Lib.hid hst0
      clear hst0 r p0 p1 p2 p3 p4 p5 p6 x0 x1 x2 x3 x4 zx zg zw
      by_cases h1 : k < len1
      all_goals
        try have h2 : ¬ k < 12 := by omega
        clear hlt
        go_wp2_with fail
        go_loopw [13] (fun s13 wr => ∃ (k : Nat) (ht : TH) (t : TV), k ≤ len2 ∧ k ≤ 20 ∧ s13 = .int .i64 (k : Int) ∧ DR w wr gb xb gb ⟨fA, fc, cA, cc, sA, sc, hA, hc, xA, xc⟩ g ht t ∧ t.stack.length = min k 16) (fun s13 _ => 20 - (intOf s13).toNat)
        case atStart => exact ⟨0, _, _, by omega, by omega, rfl, R.out, HS0.out⟩
        case round =>
          obtain ⟨j, ⟨tB, tcB, kB, kcB⟩, u, hj1, hj2, rfl, r, hsl⟩ := hrel
          have R2 := Lib.hid r; have HSL := Lib.hid hsl
          clear hsl
          have x0 : wr.cell? ⟨xb, 0, none⟩ = some (.int .i64 u.state) := (r.tb.cell 0).trans rfl
          have x1 : wr.cell? ⟨xb, 1, none⟩ = some (.int .i64 u.on) := (r.tb.cell 1).trans rfl
          have x2 : wr.cell? ⟨xb, 2, none⟩ = some (.slice tB u.frames.length tcB) := (r.tb.cell 2).trans rfl
          have x3 : wr.cell? ⟨xb, 3, none⟩ = some (.slice kB u.stack.length kcB) := (r.tb.cell 3).trans rfl
          have x4 : wr.cell? ⟨xb, 4, none⟩ = some (.int .i64 u.code) := (r.tb.cell 4).trans rfl
          have zx := r.tb.lt
          have zg := r.pb.lt
          have zw := r.bel.size
          by_cases hlt : j < len2 ∧ j < 20
          · obtain ⟨hlt1, hlt2⟩ := hlt
            obtain ⟨ad2, v, rfl, hab2, hv, hc2⟩ := HR2.out.at_ hlt1
            have KS : Hid (∀ X, Below wr.heap.size wr X → X.cell? ⟨xb, 0, none⟩ = some (.int .i64 u.state) ∧ X.cell? ⟨xb, 1, none⟩ = some (.int .i64 u.on) ∧ X.cell? ⟨xb, 2, none⟩ = some (.slice tB u.frames.length tcB) ∧ X.cell? ⟨xb, 3, none⟩ = some (.slice kB u.stack.length kcB) ∧ X.cell? ⟨xb, 4, none⟩ = some (.int .i64 u.code) ∧ X.cell? (ad2.add j) = some (.int .i64 v)) := by
              intro X hX
              have tb := R2.out.tb.below hX zx
              exact ⟨(tb.cell 0).trans rfl, (tb.cell 1).trans rfl, (tb.cell 2).trans rfl, (tb.cell 3).trans rfl, (tb.cell 4).trans rfl, ((R2.out.bel.trans (hX.mono zw)).cell (p := ad2.add j) (by rw [block_of_add]; exact hab2)).trans hc2⟩
            have d1 := (KS.out wr (Below.refl _ _)).2.2.2.2.2
            clear r hv hc2
            obtain ⟨t', PY0, hm5, hs5, hn1⟩ : ∃ t' : TV, (∀ X, Below wr.heap.size wr X → Calls Try.prog 68 #[.agg #[.int .i64 u.state, .int .i64 u.on, .slice tB u.frames.length tcB, .slice kB u.stack.length kcB, .int .i64 u.code], .int .i64 v] X
                fun e w' => ∃ h' : TH, e = .returned (.tuple #[.agg #[.int .i64 t'.state, .int .i64 t'.on, .slice h'.fA t'.frames.length h'.fc, .slice h'.sA t'.stack.length h'.sc, .int .i64 t'.code], .bool (decide ((j : Int) < 16))]) ∧ RT w' (fun i => (i ≠ xb ∧ i < wr.heap.size) ∨ X.heap.size ≤ i) h' t' ∧ Below X.heap.size X w' ∧ Below wr.heap.size wr w') ∧ mayT g t' = true ∧ t'.state ≠ 9 ∧ t'.stack.length = min (j + 1) 16 := by
              have hcutR : ∀ X, Below wr.heap.size wr X → RT X (fun i => i ≠ xb ∧ i < wr.heap.size) ⟨tB, tcB, kB, kcB⟩ u := fun X hX => R2.out.rt.cut.below hX
              by_cases h16 : j < 16
              · refine ⟨pushT u v, fun X hX => (push_yes ⟨tB, tcB, kB, kcB⟩ u v X _ (hcutR X hX) (lensT_may HGF.out R2.out.may) (by rw [HSL.out]; omega)).mono fun e w' ⟨h', he, hrt, hb⟩ => ⟨h', ?_, hrt, hb, hX.trans (hb.mono hX.size)⟩, mayT_push R2.out.may R2.out.st (by rw [HSL.out]; omega), R2.out.st, ?_⟩
                · rw [he, decide_eq_true (show (j : Int) < 16 by omega)]
                · simp [pushT, HSL.out]; omega
              · refine ⟨u, fun X hX => (push_no ⟨tB, tcB, kB, kcB⟩ u v X _ (hcutR X hX) (lensT_may HGF.out R2.out.may) (by rw [HSL.out]; omega)).mono fun e w' ⟨h', he, hrt, hb⟩ => ⟨h', ?_, hrt, hb, hX.trans (hb.mono hX.size)⟩, R2.out.may, R2.out.st, ?_⟩
                · rw [he, decide_eq_false (show ¬ (j : Int) < 16 by omega)]
                · rw [HSL.out]; omega
            rw [hn1] at PY0
            have PY := Lib.hid PY0
            have HM5 := Lib.hid hm5; have HS5 := Lib.hid hs5; have HN1 := Lib.hid hn1
            clear hm5 hs5 hn1 PY0
            go_upto_region 16 with fail
            go_region_held3 (fun w' => w'.cell? ⟨xb, 0, none⟩ = some (.int .i64 u.state) ∧ w'.cell? ⟨xb, 1, none⟩ = some (.int .i64 u.on) ∧ w'.cell? ⟨xb, 2, none⟩ = some (.slice tB u.frames.length tcB) ∧ w'.cell? ⟨xb, 3, none⟩ = some (.slice kB u.stack.length kcB) ∧ w'.cell? ⟨xb, 4, none⟩ = some (.int .i64 u.code) ∧ w'.cell? (ad2.add j) = some (.int .i64 v))
              (first | (exact KS.out _ (by repeat (first | assumption | exact Below.refl _ _ | refine Below.drew ?_ | refine Below.setCell ?_ (by first | exact Nat.le_refl _ | exact h5.size | omega) _ | refine Below.alloc ?_ (by first | exact h5.size | exact Nat.le_refl _ | omega) _))))
              ((go_simp; refine (PY.out _ (by repeat (first | assumption | exact Below.refl _ _ | refine Below.drew ?_ | refine Below.setCell ?_ (by first | exact Nat.le_refl _ | omega) _ | refine Below.alloc ?_ (by first | exact Nat.le_refl _ | omega) _))).mono ?_; rintro e w5 ⟨⟨tA', tc', kA', kc'⟩, rfl, hrt5, h4, h5⟩
                obtain ⟨hcc, hff⟩ := bcell h4
                have hzz := h4.size
                simp at hzz))
            all_goals
              first
                | (obtain ⟨W6, hW6⟩ : ∃ W, W = w5.alloc (.cells #[.int .i64 t'.state, .int .i64 t'.on, .slice tA' t'.frames.length tc', .slice kA' (min (j + 1) 16) kc', .int .i64 t'.code] 87) := ⟨_, rfl⟩
                   rw [← hW6]
                   have hb6 : Below wr.heap.size wr W6 := by rw [hW6]; exact h5.alloc h5.size _
                   have hrt6 : RT W6 (fun i => i ≠ xb ∨ wr.heap.size ≤ i) ⟨tA', tc', kA', kc'⟩ t' := by rw [hW6]; exact (hrt5.alloc _).mono (fun i hi _ => hi.elim (fun e => .inl e.1) (fun e => .inr (by simpa using e)))
                   have nb : Blk W6 w5.heap.size 87 #[.int .i64 t'.state, .int .i64 t'.on, .slice tA' t'.frames.length tc', .slice kA' (min (j + 1) 16) kc', .int .i64 t'.code] := by rw [hW6]; exact Blk.new _ _ _
                   have tb6 := R2.out.tb.below hb6 zx
                   have X0 := (tb6.cell 0).trans rfl
                   have X1 := (tb6.cell 1).trans rfl
                   have X2 := (tb6.cell 2).trans rfl
                   have X3 := (tb6.cell 3).trans rfl
                   have X4 := (tb6.cell 4).trans rfl
                   have Y0 := tb6.frozen 0
                   have Y1 := tb6.frozen 1
                   have Y2 := tb6.frozen 2
                   have Y3 := tb6.frozen 3
                   have Y4 := tb6.frozen 4
                   have N0 := (nb.cell 0).trans rfl
                   have N1 := (nb.cell 1).trans rfl
                   have N2 := (nb.cell 2).trans rfl
                   have N3 := (nb.cell 3).trans rfl
                   have N4 := (nb.cell 4).trans rfl
                   have hnx := R2.out.next hrt6 hb6 HM5.out HS5.out
                   simp only [HN1.out] at hnx
                   have HNX := Lib.hid hnx
                   have zx6 : xb < W6.heap.size := tb6.lt
                   clear tb6 hnx hb6 hrt6 nb hrt5 h4 h5 hcc hff hzz hW6 x0 x1 x2 x3 x4 d1 KS PY zx zg
                   go_wp2_with fail
                   exact ⟨⟨j + 1, ⟨tA', tc', kA', kc'⟩, t', by omega, by omega, by go_num, HNX.out, HN1.out⟩, by simp [intOf]; omega⟩)
                | (obtain ⟨W6, hW6⟩ : ∃ W, W = (((((w5.setCell ⟨wr.heap.size, 0, none⟩ (.int .i64 t'.state)).setCell ⟨wr.heap.size, 1, none⟩ (.int .i64 t'.on)).setCell ⟨wr.heap.size, 2, none⟩ (.slice tA' t'.frames.length tc')).setCell ⟨wr.heap.size, 3, none⟩ (.slice kA' (min (j + 1) 16) kc')).setCell ⟨wr.heap.size, 4, none⟩ (.int .i64 t'.code)) := ⟨_, rfl⟩
                   rw [← hW6]
                   have hfr : Fr (fun i => i = wr.heap.size) w5 W6 := by rw [hW6]; exact (Fr.refl (fun i => i = wr.heap.size) w5).set5 (g := wr.heap.size) (.inl rfl) _ _ _ _ _
                   have hb6 : Below wr.heap.size wr W6 := h5.trans (hfr.below h5.size (fun i hi => by omega))
                   have hrt6 : RT W6 (fun i => i ≠ xb ∨ wr.heap.size ≤ i) ⟨tA', tc', kA', kc'⟩ t' := (hrt5.keep fun p hd hp => hfr.cell hp (fun e => by simp at hd; omega)).mono (fun i hi _ => hi.elim (fun e => .inl e.1) (fun e => .inr (by simp at e; omega)))
                   have nb0 : Blk w5 wr.heap.size 87 #[.int .i64 0, .int .i64 0, .slice none 0 0, .slice none 0 0, .int .i64 0] := (Blk.drew (Blk.new wr 87 #[.int .i64 0, .int .i64 0, .slice none 0 0, .slice none 0 0, .int .i64 0])).below h4 (by simp)
                   have nb : Blk W6 wr.heap.size 87 #[.int .i64 t'.state, .int .i64 t'.on, .slice tA' t'.frames.length tc', .slice kA' (min (j + 1) 16) kc', .int .i64 t'.code] := by rw [hW6]; exact nb0.set5 _ _ _ _ _
                   clear hfr nb0
                   have tb6 := R2.out.tb.below hb6 zx
                   have X0 := (tb6.cell 0).trans rfl
                   have X1 := (tb6.cell 1).trans rfl
                   have X2 := (tb6.cell 2).trans rfl
                   have X3 := (tb6.cell 3).trans rfl
                   have X4 := (tb6.cell 4).trans rfl
                   have Y0 := tb6.frozen 0
                   have Y1 := tb6.frozen 1
                   have Y2 := tb6.frozen 2
                   have Y3 := tb6.frozen 3
                   have Y4 := tb6.frozen 4
                   have N0 := (nb.cell 0).trans rfl
                   have N1 := (nb.cell 1).trans rfl
                   have N2 := (nb.cell 2).trans rfl
                   have N3 := (nb.cell 3).trans rfl
                   have N4 := (nb.cell 4).trans rfl
                   have hnx := R2.out.next hrt6 hb6 HM5.out HS5.out
                   simp only [HN1.out] at hnx
                   have HNX := Lib.hid hnx
                   have zx6 : xb < W6.heap.size := tb6.lt
                   clear tb6 hnx hb6 hrt6 nb hrt5 h4 h5 hcc hff hzz hW6 x0 x1 x2 x3 x4 d1 KS PY zx zg
                   go_wp2_with fail
                   exact ⟨⟨j + 1, ⟨tA', tc', kA', kc'⟩, t', by omega, by omega, by go_num, HNX.out, HN1.out⟩, by simp [intOf]; omega⟩)
          · have HMAY := Lib.hid (may_yes ⟨fA, fc, cA, cc, sA, sc, hA, hc, xA, xc⟩ g wr gb R2.out.rp (by omega) HGL.out ⟨tB, tcB, kB, kcB⟩ u _ R2.out.rt (lensT_may HGF.out R2.out.may) R2.out.may R2.out.st)
            clear r
            have p0 : wr.cell? ⟨gb, 0, none⟩ = some (.slice fA g.funcs.length fc) := (R2.out.pb.cell 0).trans rfl
            have p1 : wr.cell? ⟨gb, 1, none⟩ = some (.int .i64 g.mutexes) := (R2.out.pb.cell 1).trans rfl
            have p2 : wr.cell? ⟨gb, 2, none⟩ = some (.slice cA g.conds.length cc) := (R2.out.pb.cell 2).trans rfl
            have p3 : wr.cell? ⟨gb, 3, none⟩ = some (.slice sA g.semas.length sc) := (R2.out.pb.cell 3).trans rfl
            have p4 : wr.cell? ⟨gb, 4, none⟩ = some (.slice hA g.chans.length hc) := (R2.out.pb.cell 4).trans rfl
            have p5 : wr.cell? ⟨gb, 5, none⟩ = some (.slice xA g.choices.length xc) := (R2.out.pb.cell 5).trans rfl
            have p6 : wr.cell? ⟨gb, 6, none⟩ = some (.int .i64 g.threads) := (R2.out.pb.cell 6).trans rfl
            by_cases h3 : j < len2
            all_goals
              try have h4 : ¬ j < 20 := by omega
              clear hlt
              go_wp2_with fail
              refine HMAY.out.mono ?_
              rintro e w7 ⟨rfl, hb7⟩
              go_wp2_with fail
              refine (slives_any _).mono ?_
              rintro e w8 ⟨rfl, hb8⟩
              go_wp2_with fail
              go_ret
              exact ⟨rfl, (R2.out.bel.trans (hb7.mono zw)).trans (hb8.mono (Nat.le_trans zw hb7.size))⟩
end Go.Proofs.Ytlfaocgldpdihaa.stackDeep
