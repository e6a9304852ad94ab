
/-
  VmRc, VmRd, VmRe in one text.
-/
import Derived.Test.YtkciedcfphhenaaVmDocA
import Derived.Deep.RegionHeld3
import Derived.Deep.DeepCutAuto
import Derived.Deep.CutBlock
import Derived.Deep.QuietTactic
import Derived.BigQuiet
import Derived.IntWalk
import Derived.WalkLawsBesides
set_option linter.unusedVariables false
set_option linter.unusedSimpArgs false
namespace Go.Proofs.Ytkciedcfphhenaa
section
open Go.RowKit Plain

set_option maxHeartbeats 40000000 in
set_option maxRecDepth 100000 in
theorem stepRc (h : PH) (p : PV) (ht : TH) (t : TV) (w : World) (B : Nat) (D : Nat → Prop) (hrp : RP w B h p) (hB : B ≤ w.heap.size) (hr : RT w D ht t) (hp : mayB p = true) (hm : mayT p t = true) (hs : t.state ≠ 9) (op a : Int) (hf : fetchT p t = some ⟨op, a⟩) (hop : op = 11 ∨ op = 12 ∨ op = 13 ∨ op = 14 ∨ op = 15 ∨ op = 16 ∨ op = 17 ∨ op = 18) :
    Calls Try.prog 13 #[.agg #[.slice h.fA p.funcs.length h.fc, .int .i64 p.mutexes, .slice h.cA p.conds.length h.cc, .slice h.sA p.semas.length h.sc, .slice h.hA p.chans.length h.hc, .slice h.xA p.choices.length h.xc, .int .i64 p.threads], .agg #[.int .i64 t.state, .int .i64 t.on, .slice ht.fA t.frames.length ht.fc, .slice ht.sA t.stack.length ht.sc, .int .i64 t.code]] w fun e w' => ∃ hx : TH, e = .returned (.tuple #[.agg #[.int .i64 (stepV p t).1.state, .int .i64 (stepV p t).1.on, .slice hx.fA (stepV p t).1.frames.length hx.fc, .slice hx.sA (stepV p t).1.stack.length hx.sc, .int .i64 (stepV p t).1.code], .agg #[.int .i64 (stepV p t).2.kind, .int .i64 (stepV p t).2.a, .int .i64 (stepV p t).2.v]]) ∧ RT w' (fun i => (D i ∧ i < w.heap.size) ∨ w.heap.size ≤ i) hx (stepV p t).1 ∧ Below w.heap.size w w' := by
  have hfew := mayB_few hp
  have hl := lensT_may hfew.1 hm
  have hpos := frames_pos hm hs
  have hlen := lenT_may hm
  obtain ⟨f0, f1, f2, f3, f4, _⟩ := (frB_iff _ _).1 (lastFr_ok hm hs)
  have hfc := hfew.2.2 _ (funcAt_mem f0 f1)
  obtain ⟨n, hn⟩ := Int.eq_ofNat_of_zero_le f0
  obtain ⟨c, hc⟩ := Int.eq_ofNat_of_zero_le f2
  have hdok := step_dok hp hm hs hf
  have hjm := jump_may hp hm hs hf
  have hok := fetch_ok hp hm hs hf
  simp only at hok
  have hsv := stepV_some hf
  obtain ⟨x, q, hxq⟩ : ∃ x q, stepV p t = (x, q) := ⟨_, _, rfl⟩
  rw [hxq] at hsv ⊢
  simp only
  obtain ⟨u0, hu0⟩ : ∃ u, u = jumpT t ((lastFr t).pc + 1) := ⟨_, rfl⟩
  rw [← hu0] at hdok hjm hsv
  have hus0 : u0.stack = t.stack := by rw [hu0]; rfl
  obtain ⟨W4, hW4⟩ : ∃ W, W = ((((w.alloc (.cells #[.slice h.fA p.funcs.length h.fc, .int .i64 p.mutexes, .slice h.cA p.conds.length h.cc, .slice h.sA p.semas.length h.sc, .slice h.hA p.chans.length h.hc, .slice h.xA p.choices.length h.xc, .int .i64 p.threads] 26)).alloc (.cells #[.int .i64 t.state, .int .i64 t.on, .slice ht.fA t.frames.length ht.fc, .slice ht.sA t.stack.length ht.sc, .int .i64 t.code] 29)).alloc (.cells #[.int .i64 0, .int .i64 0, .slice none 0 0, .slice none 0 0, .int .i64 0] 29)).alloc (.cells #[.int .i64 0, .int .i64 0, .int .i64 0] 37)) := ⟨_, rfl⟩
  have hb4 : Below w.heap.size w W4 := by rw [hW4]; exact ((((Below.refl _ _).alloc (Nat.le_refl _) _).alloc (by simp) _).alloc (by simp; omega) _).alloc (by simp; omega) _
  have hpb : Blk W4 w.heap.size 26 #[.slice h.fA p.funcs.length h.fc, .int .i64 p.mutexes, .slice h.cA p.conds.length h.cc, .slice h.sA p.semas.length h.sc, .slice h.hA p.chans.length h.hc, .slice h.xA p.choices.length h.xc, .int .i64 p.threads] := by rw [hW4]; exact (((Blk.new w _ _).alloc _).alloc _).alloc _
  have htb : Blk W4 (w.heap.size + 1) 29 #[.int .i64 t.state, .int .i64 t.on, .slice ht.fA t.frames.length ht.fc, .slice ht.sA t.stack.length ht.sc, .int .i64 t.code] := by
    rw [hW4]; refine (Blk.alloc ?_ _).alloc _
    simpa using Blk.new (w.alloc (.cells #[.slice h.fA p.funcs.length h.fc, .int .i64 p.mutexes, .slice h.cA p.conds.length h.cc, .slice h.sA p.semas.length h.sc, .slice h.hA p.chans.length h.hc, .slice h.xA p.choices.length h.xc, .int .i64 p.threads] 26)) 29 #[.int .i64 t.state, .int .i64 t.on, .slice ht.fA t.frames.length ht.fc, .slice ht.sA t.stack.length ht.sc, .int .i64 t.code]
  have hr0 : Blk W4 (w.heap.size + 1 + 1) 29 #[.int .i64 0, .int .i64 0, .slice none 0 0, .slice none 0 0, .int .i64 0] := by
    rw [hW4]; refine Blk.alloc ?_ _
    simpa using Blk.new ((w.alloc (.cells #[.slice h.fA p.funcs.length h.fc, .int .i64 p.mutexes, .slice h.cA p.conds.length h.cc, .slice h.sA p.semas.length h.sc, .slice h.hA p.chans.length h.hc, .slice h.xA p.choices.length h.xc, .int .i64 p.threads] 26)).alloc (.cells #[.int .i64 t.state, .int .i64 t.on, .slice ht.fA t.frames.length ht.fc, .slice ht.sA t.stack.length ht.sc, .int .i64 t.code] 29)) 29 #[.int .i64 0, .int .i64 0, .slice none 0 0, .slice none 0 0, .int .i64 0]
  have hr1 : Blk W4 (w.heap.size + 1 + 1 + 1) 37 #[.int .i64 0, .int .i64 0, .int .i64 0] := by
    rw [hW4]; simpa using Blk.new (((w.alloc (.cells #[.slice h.fA p.funcs.length h.fc, .int .i64 p.mutexes, .slice h.cA p.conds.length h.cc, .slice h.sA p.semas.length h.sc, .slice h.hA p.chans.length h.hc, .slice h.xA p.choices.length h.xc, .int .i64 p.threads] 26)).alloc (.cells #[.int .i64 t.state, .int .i64 t.on, .slice ht.fA t.frames.length ht.fc, .slice ht.sA t.stack.length ht.sc, .int .i64 t.code] 29)).alloc (.cells #[.int .i64 0, .int .i64 0, .slice none 0 0, .slice none 0 0, .int .i64 0] 29)) 37 #[.int .i64 0, .int .i64 0, .int .i64 0]
  have hz4 : W4.heap.size = w.heap.size + 1 + 1 + 1 + 1 := by rw [hW4]; simp
  have hrpW : ∀ X, Below W4.heap.size W4 X → RP X B h p := fun X hX => hrp.below ((hb4.trans (hX.mono (by omega))).mono hB)
  have hfe := refFetch_any h p ht t W4 D ((hrpW W4 (Below.refl _ _)).more (by omega)) (hr.below hb4) (by omega) n c hn (by omega) hc (by rw [← hn]; omega) (by rw [hc] at f3; omega) (by omega)
  have hfv : (funcAt p (n : Int)).code[c]? = some ⟨op, a⟩ := by unfold fetchT at hf; rw [hn, hc] at hf; simpa using hf
  rw [hfv] at hfe
  have hfe : Calls Try.prog 33 #[.agg #[.slice h.fA p.funcs.length h.fc, .int .i64 p.mutexes, .slice h.cA p.conds.length h.cc, .slice h.sA p.semas.length h.sc, .slice h.hA p.chans.length h.hc, .slice h.xA p.choices.length h.xc, .int .i64 p.threads], .agg #[.int .i64 t.state, .int .i64 t.on, .slice ht.fA t.frames.length ht.fc, .slice ht.sA t.stack.length ht.sc, .int .i64 t.code]] W4 fun e w' => e = .returned (.tuple #[.agg #[.int .i64 op, .int .i64 a], .bool true]) ∧ Below W4.heap.size W4 w' := hfe
  -- the frame that is under way
  obtain ⟨k, hk, hkl⟩ := lastFr_ex hpos
  obtain ⟨ad, y, hEA, hab, hy, y0, y1, y2, _⟩ := hr.frames.rg.at_ (k := k) (by omega)
  have hsp : ad.spot = none := by obtain ⟨ts, _, _, _, h4, _⟩ := hr.frames.rg; rw [hEA] at h4; exact h4.spot (by omega) (by omega)
  have hyl : y.f = lastFr t := by rw [hy] at hkl; injection hkl
  rw [hyl, hc] at y1
  obtain ⟨bA, oA, pA⟩ := ad
  obtain ⟨a1, c1, s1, d1⟩ := ht
  simp only at hEA hsp hab
  subst hsp hEA
  have ha1 : ((⟨bA, oA, none⟩ : Addr).add (k * 3)) = ⟨bA, oA + k * 3, none⟩ := by unfold Addr.add; by_cases h0 : k * 3 = 0 <;> simp [h0]
  rw [ha1] at y1
  simp only at y1
  have hju := fun X (hX : Below W4.heap.size W4 X) => refJump_all ⟨some ⟨bA, oA, none⟩, c1, s1, d1⟩ t ((c : Int) + 1) X _ (((hr.mono (E := fun i => D i ∧ i < w.heap.size) (fun i h1 h2 => ⟨h1, h2⟩)).below hb4).below hX) hl hpos (by omega) u0 (by rw [hu0, hc])
  simp only at hju hfe htb hW4 ⊢
  rw [hk] at hju hfe htb hW4
  simp only [hk]
  have hlu : LensT u0 := hdok.len
  have ik : (k : Int) < (k : Int) + 1 := by omega
  have hk6 : k < 8 := by omega
  have hc6 : c ≤ 64 := by rw [hc] at f3; omega
  have p0 := (hpb.cell 0).trans rfl
  have p1 := (hpb.cell 1).trans rfl
  have p2 := (hpb.cell 2).trans rfl
  have p3 := (hpb.cell 3).trans rfl
  have p4 := (hpb.cell 4).trans rfl
  have p5 := (hpb.cell 5).trans rfl
  have p6 := (hpb.cell 6).trans rfl
  have t0 := (htb.cell 0).trans rfl
  have t1 := (htb.cell 1).trans rfl
  have t2 := (htb.cell 2).trans rfl
  have t3 := (htb.cell 3).trans rfl
  have t4 := (htb.cell 4).trans rfl
  have hpcW : ∀ X, Below W4.heap.size W4 X → X.cell? ⟨bA, oA + k * 3 + 1, none⟩ = some (.int .i64 (c : Int)) := fun X hX => ((hb4.trans (hX.mono (by omega))).cell (p := ⟨bA, oA + k * 3 + 1, none⟩) hab).trans y1
  have HFE := Lib.hid hfe; have HJU := Lib.hid hju; have HW := Lib.hid hW4; have HB4 := Lib.hid hb4; have HPB := Lib.hid hpb; have HTB := Lib.hid htb; have HR0 := Lib.hid hr0; have HR1 := Lib.hid hr1; have HZ4 := Lib.hid hz4; have HRP := Lib.hid hrpW; have HDOK := Lib.hid hdok; have HOK := Lib.hid hok; have HOPS := Lib.hid hop; have HSV := Lib.hid hsv; have HUS := Lib.hid hus0; have HLU := Lib.hid hlu; have HPC := Lib.hid hpcW; have HFEW := Lib.hid hfew
  have HD : Hid (∀ i, D i ∧ i < w.heap.size → i < w.heap.size) := fun i h => h.2
  have HRPX : Hid (∀ X, Below w.heap.size w X → RP X B h p) := fun X hX => hrp.below (hX.mono hB)
  have HBW9 := Lib.hid hB
  clear hrp hr hp hm hs hf hfew hl hpos hlen f0 f1 f2 f3 f4 hfc hn hc hdok hjm hok hsv hu0 hW4 hb4 hpb htb hr0 hr1 hz4 hrpW hfe hfv hkl hk hy y0 y1 y2 hyl ha1 hju hlu hpcW hxq hus0 hop
  go_enter Try.func13, Try.ntmps13
  go_upto_region 1 with fail
  rw [← HW.out]
  clear HW
  go_wp2_with fail
  refine HFE.out.mono ?_
  rintro e w1 ⟨rfl, hb1⟩
  have hal : Below w1.heap.size w1 (w1.alloc (.cells #[.int .i64 op, .int .i64 a] 57)) := (Below.refl _ _).alloc (Nat.le_refl _) _
  obtain ⟨W5, hW5⟩ : ∃ W, W = w1.alloc (.cells #[.int .i64 op, .int .i64 a] 57) := ⟨_, rfl⟩
  obtain ⟨ib, hib⟩ : ∃ b, b = w1.heap.size := ⟨_, rfl⟩
  have hb5 : Below W4.heap.size W4 W5 := by rw [hW5]; exact hb1.alloc hb1.size _
  have hR0 : R0 w W5 h p #[.int .i64 t.state, .int .i64 t.on, .slice (some ⟨bA, oA, none⟩) (k + 1) c1, .slice s1 t.stack.length d1, .int .i64 t.code] ib op a := by
    refine ⟨HPB.out.below hb5 HPB.out.lt, HTB.out.below hb5 HTB.out.lt, HR0.out.below hb5 HR0.out.lt, HR1.out.below hb5 HR1.out.lt, by rw [hW5, hib]; exact Blk.new _ _ _, by rw [hib]; have := hb1.size; have := HZ4.out; omega, HB4.out.trans (hb5.mono HB4.out.size)⟩
  have hz5 : W5.heap.size = ib + 1 := by rw [hW5, hib]; simp
  have HR5 := Lib.hid hR0; have HW5 := Lib.hid hW5; have HIB := Lib.hid hib; have HB5 := Lib.hid hb5; have HZ5 := Lib.hid hz5
  clear hal hb1 hR0 hW5 hib hb5 hz5 p0 p1 p2 p3 p4 p5 p6 t0 t1 t2 t3 t4 HPB HTB HR0 HR1 HFE
  go_upto_region 4 with fail
  rw [← HW5.out, ← HIB.out]
  clear HW5 HIB
  have KS : Hid (∀ X, Below W5.heap.size W5 X → X.cell? ⟨w.heap.size + 1, 0, none⟩ = some (.int .i64 t.state) ∧ X.cell? ⟨w.heap.size + 1, 1, none⟩ = some (.int .i64 t.on) ∧ X.cell? ⟨w.heap.size + 1, 2, none⟩ = some (.slice (some ⟨bA, oA, none⟩) (k + 1) c1) ∧ X.cell? ⟨w.heap.size + 1, 3, none⟩ = some (.slice s1 t.stack.length d1) ∧ X.cell? ⟨w.heap.size + 1, 4, none⟩ = some (.int .i64 t.code) ∧ X.cell? ⟨bA, oA + k * 3 + 1, none⟩ = some (.int .i64 (c : Int))) := fun X hX => by
    have g := HR5.out.tb.below hX HR5.out.tb.lt
    exact ⟨(g.cell 0).trans rfl, (g.cell 1).trans rfl, (g.cell 2).trans rfl, (g.cell 3).trans rfl, (g.cell 4).trans rfl, HPC.out X (HB5.out.trans (hX.mono HB5.out.size))⟩
  have HC : Hid (∀ X, Below W5.heap.size W5 X → Calls Try.prog 35 #[.agg #[.int .i64 t.state, .int .i64 t.on, .slice (some ⟨bA, oA, none⟩) (k + 1) c1, .slice s1 t.stack.length d1, .int .i64 t.code], .int .i64 ((c : Int) + 1)] X fun e w' => ∃ h' : TH, e = .returned (.agg #[.int .i64 u0.state, .int .i64 u0.on, .slice h'.fA u0.frames.length h'.fc, .slice h'.sA u0.stack.length h'.sc, .int .i64 u0.code]) ∧ RT w' (fun i => (D i ∧ i < w.heap.size) ∨ X.heap.size ≤ i) h' u0 ∧ Below X.heap.size X w' ∧ Below W5.heap.size W5 w') := fun X hX =>
    (HJU.out X (HB5.out.trans (hX.mono HB5.out.size))).mono fun e w' ⟨h', h1, h2, h3⟩ => ⟨h', h1, h2, h3, hX.trans (h3.mono hX.size)⟩
  have iw : IntKind.i64.wrap (k : Int) = (k : Int) := IntWalk.i64_in _ (by omega)
  have iv : IntKind.i64.wrap ((c : Int) + 1) = (c : Int) + 1 := IntWalk.i64_in _ (by omega)
  obtain ⟨s0, s1', s2, s3, s4, s5⟩ := KS.out W5 (Below.refl _ _)
  clear HJU HPC
  go_cut [8] (fun s8 wx => ∃ (jb : Nat) (h2 : TH), s8 = .pointer (some ⟨jb, 0, none⟩) ∧ TD wx (fun i => (D i ∧ i < w.heap.size) ∨ (ib < i ∧ i ≠ jb)) jb h2 u0 ∧ ib < jb ∧ Below W5.heap.size W5 wx)
  case first =>
    go_region_held3 (fun w' => w'.cell? ⟨w.heap.size + 1, 0, none⟩ = some (.int .i64 t.state) ∧ w'.cell? ⟨w.heap.size + 1, 1, none⟩ = some (.int .i64 t.on) ∧ w'.cell? ⟨w.heap.size + 1, 2, none⟩ = some (.slice (some ⟨bA, oA, none⟩) (k + 1) c1) ∧ w'.cell? ⟨w.heap.size + 1, 3, none⟩ = some (.slice s1 t.stack.length d1) ∧ w'.cell? ⟨w.heap.size + 1, 4, none⟩ = some (.int .i64 t.code) ∧ w'.cell? ⟨bA, oA + k * 3 + 1, none⟩ = some (.int .i64 (c : Int)))
      (first | (with_reducible exact KS.out _ (by repeat (first | with_reducible assumption | with_reducible exact Below.refl _ _ | with_reducible exact H5.out | with_reducible refine Below.drew ?_ | with_reducible refine Below.setCell ?_ (by first | exact Nat.le_refl _ | exact h5.size | exact H5.out.size | omega) _ | with_reducible refine Below.alloc ?_ (by first | exact h5.size | exact H5.out.size | exact Nat.le_refl _ | omega) _))) | fail)
      (first
        | (go_simp; go_at_call 35; refine (HC.out _ (by repeat (first | with_reducible assumption | with_reducible exact Below.refl _ _ | with_reducible exact H5.out | with_reducible refine Below.drew ?_ | with_reducible refine Below.setCell ?_ (by first | exact Nat.le_refl _ | exact h5.size | exact H5.out.size | omega) _ | with_reducible refine Below.alloc ?_ (by first | exact h5.size | exact H5.out.size | exact Nat.le_refl _ | omega) _))).mono ?_; rintro e w5 ⟨⟨a2, c2, s2, d2⟩, rfl, hrt5, h4, h5⟩
           first
             | (have nb0 : Blk w5 W5.heap.size 29 #[.int .i64 0, .int .i64 0, .slice none 0 0, .slice none 0 0, .int .i64 0] := (Blk.drew (Blk.new W5 29 #[.int .i64 0, .int .i64 0, .slice none 0 0, .slice none 0 0, .int .i64 0])).below h4 (by simp)
                have n0 : w5.cell? ⟨W5.heap.size, 0, none⟩ = some (.int .i64 0) := (nb0.cell 0).trans rfl
                have m0 : w5.frozen? ⟨W5.heap.size, 0, none⟩ = false := nb0.frozen 0
                have n1 : w5.cell? ⟨W5.heap.size, 1, none⟩ = some (.int .i64 0) := (nb0.cell 1).trans rfl
                have m1 : w5.frozen? ⟨W5.heap.size, 1, none⟩ = false := nb0.frozen 1
                have n2 : w5.cell? ⟨W5.heap.size, 2, none⟩ = some (.slice none 0 0) := (nb0.cell 2).trans rfl
                have m2 : w5.frozen? ⟨W5.heap.size, 2, none⟩ = false := nb0.frozen 2
                have n3 : w5.cell? ⟨W5.heap.size, 3, none⟩ = some (.slice none 0 0) := (nb0.cell 3).trans rfl
                have m3 : w5.frozen? ⟨W5.heap.size, 3, none⟩ = false := nb0.frozen 3
                have n4 : w5.cell? ⟨W5.heap.size, 4, none⟩ = some (.int .i64 0) := (nb0.cell 4).trans rfl
                have m4 : w5.frozen? ⟨W5.heap.size, 4, none⟩ = false := nb0.frozen 4
                have hzz : W5.heap.size < w5.heap.size := nb0.lt
                have H5 := Lib.hid h5; have H4 := Lib.hid h4; have HRT5 := Lib.hid hrt5
                clear nb0 h5 h4 hrt5)
             | (have H5 := Lib.hid h5; have H4 := Lib.hid h4; have HRT5 := Lib.hid hrt5
                clear h5 h4 hrt5)))
    all_goals
      go_wp2_with fail
      go_meet
      have h5 := H5.out
      have h4 := H4.out
      have hrt5 := HRT5.out
      have hs5 := h5.size
      have hz5 := HZ5.out
      have hlib := HR5.out.lt
      have hdd := HD.out
      first
        | (have htd := TD.new (hrt5.mono (E := fun i => (D i ∧ i < w.heap.size) ∨ (ib < i ∧ i ≠ w5.heap.size)) (fun i hi hlt => by rcases hi with hi | hi; exact .inl hi; exact .inr ⟨by simp at hi; omega, by omega⟩))
           simp only at htd
           with_reducible refine ⟨_, ⟨a2, c2, s2, d2⟩, rfl, htd, ?_, h5.alloc h5.size _⟩
           omega)
        | (have hp := TD.put (w1 := (W5.alloc (.cells #[.int .i64 0, .int .i64 0, .slice none 0 0, .slice none 0 0, .int .i64 0] 29)).drew) (b := W5.heap.size) hrt5 (fun i hi e => by simp at hi; have := hdd i; omega) (Blk.drew (Blk.new W5 29 #[.int .i64 0, .int .i64 0, .slice none 0 0, .slice none 0 0, .int .i64 0])) h4
           have hfr := (Fr.refl (fun i => i = W5.heap.size) w5).set5 (g := W5.heap.size) (.inl rfl) (.int .i64 u0.state) (.int .i64 u0.on) (.slice a2 u0.frames.length c2) (.slice s2 u0.stack.length d2) (.int .i64 u0.code)
           have hq := h5.trans (hfr.below h5.size (fun i hi => by omega))
           have hp2 := hp.mono (E := fun i => (D i ∧ i < w.heap.size) ∨ (ib < i ∧ i ≠ W5.heap.size)) (fun i hi _ => by rcases hi with hi | hi; exact .inl hi; exact .inr (by simp at hi; omega))
           simp only at hp2
           with_reducible exact ⟨_, ⟨a2, c2, s2, d2⟩, rfl, hp2, (by omega), hq⟩)
  case rest =>
  obtain ⟨jb, hj, rfl, htd, hjl, hbw⟩ := hcut
  have hR6 := HR5.out.below hbw
  have hlj := HR5.out.lt
  have hRJ : RJ w wc D jb (.slice none 0 0) hj u0 := ⟨htd.tb, htd.rt.mono (fun i hi _ => by rcases hi with hi | hi; exact .inl hi; exact .inr ⟨by omega, hi.2, by simp [Value.ownBlock]⟩), HLU.out⟩
  have hus : u0.stack = t.stack := HUS.out
  have hnd := needsV_nat op
  obtain ⟨nd, hnd, hnd2⟩ := hnd
  have hop26 : 0 ≤ op ∧ op ≤ 26 := HOK.out.1
  have hneed := fun W => refNeeds_any op W hop26
  have hkind := fun W => refKind_any op W hop26
  rw [hnd] at hneed
  have s3 : wc.cell? ⟨w.heap.size + 1, 3, none⟩ = some (.slice s1 t.stack.length d1) := (hR6.tb.cell 3).trans rfl
  have s6 := (hR6.ibk.cell 0).trans rfl
  have HR6 := Lib.hid hR6; have HRJ := Lib.hid hRJ; have HNEED := Lib.hid hneed; have HKIND := Lib.hid hkind; have HND := Lib.hid hnd; have HUST := Lib.hid hus; have HOP := Lib.hid hop26
  clear hR6 hRJ htd hbw hneed hkind hnd hus hop26 HC KS HB5 HR5 s0 s1' s2 s4 s5 iw iv
  by_cases hun : t.stack.length < nd
  · have hun' : (t.stack.length : Int) < (nd : Int) := by omega
    have hv := HSV.out
    rw [deedV_under HOP.out (by rw [HUST.out, HND.out]; exact hun')] at hv
    injection hv with hv1 hv2
    subst hv1 hv2
    go_upto_region 5 with fail
    go_quiet (first | (go_at_call 36; exact Calls.quiet_of_same (HNEED.out _)))
    go_wp2_with fail
    refine (refEnds_any 1 _).mono ?_
    rintro e w9 ⟨rfl, hb9⟩
    have g9 := (HR6.out.below (below_drews (Below.refl _ _) nq)).below hb9
    have r0 := (g9.r0.cell 0).trans rfl
    have y0 := g9.r0.frozen 0
    have r1 := (g9.r0.cell 1).trans rfl
    have y1 := g9.r0.frozen 1
    have r2 := (g9.r0.cell 2).trans rfl
    have y2 := g9.r0.frozen 2
    have r3 := (g9.r0.cell 3).trans rfl
    have y3 := g9.r0.frozen 3
    have r4 := (g9.r0.cell 4).trans rfl
    have y4 := g9.r0.frozen 4
    have v0 := (g9.r1.cell 0).trans rfl
    have z0 := g9.r1.frozen 0
    have v1 := (g9.r1.cell 1).trans rfl
    have z1 := g9.r1.frozen 1
    have v2 := (g9.r1.cell 2).trans rfl
    have z2 := g9.r1.frozen 2
    have G9 := Lib.hid g9
    clear g9 hb9 s3 s6
    go_wp2_with fail
    obtain ⟨k0, k1, k2, k3⟩ := G9.out.fin (D := D) (hx := ⟨none, 0, none, 0⟩) (x := (deadT 1)) ⟨1, 0, 1⟩ (dead_rt 1 _) (fun i h => absurd h id) rfl
    refine bodyPost_ret (v := .tuple #[.agg #[.int .i64 9, .int .i64 0, .slice none 0 0, .slice none 0 0, .int .i64 1], .agg #[.int .i64 1, .int .i64 0, .int .i64 1]]) (results_cells2 rfl _ _ (w.heap.size + 1 + 1) (w.heap.size + 1 + 1 + 1) 29 37 _ _ (0, 0) (0, 0) _ _ rfl rfl k0 k1 Try.underlying29 rfl (by kernel_rfl) Try.underlying37 rfl (by kernel_rfl)) rfl ?_
    exact ⟨⟨none, 0, none, 0⟩, rfl, k2, k3⟩
  · have hun' : decide ((t.stack.length : Int) < (nd : Int)) = false := decide_eq_false (by omega)
    go_upto_region 5 with fail
    go_quiet (first | (go_at_call 36; exact Calls.quiet_of_same (HNEED.out _)))
    have hb7 := below_drews (Below.refl wc.heap.size wc) nq
    have hR7 := HR6.out.below hb7
    have hJ7 : RJ w (wc.drewN nq) D jb (.slice none 0 0) hj u0 := HRJ.out.below hb7
    obtain ⟨W7, hW7⟩ : ∃ W, W = wc.drewN nq := ⟨_, rfl⟩
    rw [← hW7] at hR7 hJ7 ⊢
    have HR7 := Lib.hid hR7; have HJ7 := Lib.hid hJ7
    clear hW7 hb7 hR7 hJ7 s3 s6 HR6 HRJ hun'
    obtain ⟨i0, hi0, hz0, hz1, hz2⟩ := info_parts info_int
    go_wp2_with fail
    go_loopw [9, 10] (fun s9 s10 wr => ∃ (kk : Nat) (lA : Option Addr) (lc : Nat) (hu : TH), kk ≤ nd ∧ s9 = .slice lA kk lc ∧ s10 = .int .i64 (kk : Int) ∧ R0 w wr h p #[.int .i64 t.state, .int .i64 t.on, .slice (some ⟨bA, oA, none⟩) (k + 1) c1, .slice s1 t.stack.length d1, .int .i64 t.code] ib op a ∧ RJ w wr D jb (.slice lA kk lc) hu (popsT kk u0) ∧ wr.ownsRow (ib + 1) 3 1 (.slice lA kk lc) kk (IS (topsT kk u0))) (fun _ s10 _ => nd - (intOf s10).toNat)
    case atStart => exact ⟨0, none, 0, hj, by omega, rfl, rfl, HR7.out, HJ7.out, World.ownsRow_nil _ _ _ _⟩
    case round =>
      obtain ⟨kk, lA, lc, hu, hkk, rfl, rfl, hR, hJ, hl⟩ := hrel
      have g6 := (hR.ibk.cell 0).trans rfl
      have HR8 := Lib.hid hR; have HJ8 := Lib.hid hJ; have HL8 := Lib.hid hl
      by_cases hlt : kk < nd
      · have hlti : (kk : Int) < (nd : Int) := by omega
        have hps := popsT_stack kk u0
        rw [HUST.out] at hps
        have hpo := refPop_all hu (popsT kk u0) wr _ hJ.rt hJ.len (by have := HDOK.out.st; rw [HUST.out] at this; omega) (popsT (kk + 1) u0) (by rw [if_pos (by omega)]; rfl)
        rw [decide_eq_true (by omega)] at hpo
        have b0 := (hJ.bx.cell 0).trans rfl
        have b1 := (hJ.bx.cell 1).trans rfl
        have b2 := (hJ.bx.cell 2).trans rfl
        have b3 := (hJ.bx.cell 3).trans rfl
        have b4 := (hJ.bx.cell 4).trans rfl
        have hln : LensT (popsT (kk + 1) u0) := popsT_lens (kk + 1) HLU.out
        have htv : topsT (kk + 1) u0 = topsT kk u0 ++ [topT (popsT kk u0)] := topsT_succ kk u0
        obtain ⟨tv, htv2⟩ : ∃ v, topT (popsT kk u0) = v := ⟨_, rfl⟩
        rw [htv2] at hpo htv
        obtain ⟨un, hun2⟩ : ∃ u, popsT (kk + 1) u0 = u := ⟨_, rfl⟩
        rw [hun2] at hpo hln
        generalize popsT kk u0 = uc at *
        have HPO := Lib.hid hpo; have HLN := Lib.hid hln; have HTV := Lib.hid htv; have HUN := Lib.hid hun2
        have hbl := hR.bel.size
        have hzl := HR8.out.ibk.lt
        have hjbl := hJ.bx.lt
        clear hR hJ hl hps hpo hln htv htv2 hun2
        go_wp2_with fail
        refine (HNEED.out _).mono ?_
        rintro e wq ⟨rfl, rfl⟩
        go_wp2_with fail
        refine HPO.out.mono ?_
        rintro e w6 ⟨⟨a6, c6', s6', d6⟩, rfl, hr6, hb6⟩
        try simp only at hr6
        have hR9 := HR8.out.below hb6
        have hal : Below w6.heap.size w6 (w6.alloc (.cells #[.int .i64 un.state, .int .i64 un.on, .slice a6 un.frames.length c6', .slice s6' un.stack.length d6, .int .i64 un.code] 29)) := (Below.refl _ _).alloc (Nat.le_refl _) _
        have hsz6 := hb6.size
        obtain ⟨W8, hW8⟩ : ∃ W, W = w6.alloc (.cells #[.int .i64 un.state, .int .i64 un.on, .slice a6 un.frames.length c6', .slice s6' un.stack.length d6, .int .i64 un.code] 29) := ⟨_, rfl⟩
        obtain ⟨mb, hmb⟩ : ∃ b, b = w6.heap.size := ⟨_, rfl⟩
        have hmk : Blk W8 mb 29 #[.int .i64 un.state, .int .i64 un.on, .slice a6 un.frames.length c6', .slice s6' un.stack.length d6, .int .i64 un.code] := by rw [hW8, hmb]; exact Blk.new _ _ _
        have hb8 : Below wq.heap.size wq W8 := by rw [hW8]; exact hb6.alloc hb6.size _
        have hr8 : RT W8 (fun i => (D i ∧ i < w.heap.size) ∨ (w.heap.size + 1 + 1 + 1 < i ∧ i ≠ jb ∧ (Value.slice lA kk lc).ownBlock ≠ some i)) ⟨a6, c6', s6', d6⟩ un := by
          rw [hW8]
          refine RT.alloc (hr6.mono (fun i hi _ => ?_)) _
          rcases hi with hi | hi
          · exact hi
          · exact .inr ⟨by have := HR8.out.lt; omega, by omega, fun e => by have := (HL8.out.lt i e).2; omega⟩
        have hl8 := (Fr.of_below hb8).own HL8.out (fun i hi e => by have := (HL8.out.lt i hi).2; omega)
        have hR9 := HR8.out.below hb8
        have hj9 := HJ8.out.bx.below hb8 HJ8.out.bx.lt
        have hmj : mb ≠ jb := by rw [hmb]; omega
        have HW8 := Lib.hid hW8; have HMB := Lib.hid hmb; have HMK := Lib.hid hmk; have HRT8 := Lib.hid hr8; have HL9 := Lib.hid hl8; have HR9 := Lib.hid hR9; have HJ9 := Lib.hid hj9
        have hzl8 := hR9.ibk.lt
        have hmb8 := hmk.lt
        clear hr6 hb6 hR9 hal hW8 hmb hmk hb8 hr8 hl8 hj9 HPO b0 b1 b2 b3 b4 g6 hbl hzl hjbl hsz6
        go_upto_region 12 with fail
        rw [← HW8.out, ← HMB.out]
        clear HW8 HMB
        have m0 := (HMK.out.cell 0).trans rfl
        have m1 := (HMK.out.cell 1).trans rfl
        have m2 := (HMK.out.cell 2).trans rfl
        have m3 := (HMK.out.cell 3).trans rfl
        have m4 := (HMK.out.cell 4).trans rfl
        have j0 := (HJ9.out.cell 0).trans rfl
        have k0 := HJ9.out.frozen 0
        have j1 := (HJ9.out.cell 1).trans rfl
        have k1 := HJ9.out.frozen 1
        have j2 := (HJ9.out.cell 2).trans rfl
        have k2 := HJ9.out.frozen 2
        have j3 := (HJ9.out.cell 3).trans rfl
        have k3 := HJ9.out.frozen 3
        have j4 := (HJ9.out.cell 4).trans rfl
        have k4 := HJ9.out.frozen 4
        have hmj2 := Ne.symm hmj
        go_upto_region 13 with fail
        obtain ⟨W9, hW9⟩ : ∃ W, W = ((((W8.setCell ⟨jb, 0, none⟩ (.int .i64 un.state)).setCell ⟨jb, 1, none⟩ (.int .i64 un.on)).setCell ⟨jb, 2, none⟩ (.slice a6 un.frames.length c6')).setCell ⟨jb, 3, none⟩ (.slice s6' un.stack.length d6)).setCell ⟨jb, 4, none⟩ (.int .i64 un.code) := ⟨_, rfl⟩
        have hf9 : Fr (fun i => i = jb) W8 W9 := by rw [hW9]; exact (Fr.refl (fun i => i = jb) W8).set5 (g := jb) (.inl rfl) _ _ _ _ _
        have hb9 : Blk W9 jb 29 #[.int .i64 un.state, .int .i64 un.on, .slice a6 un.frames.length c6', .slice s6' un.stack.length d6, .int .i64 un.code] := by rw [hW9]; exact Blk.set5 HJ9.out _ _ _ _ _
        rw [← hW9]
        have hR10 := HR9.out.fr hf9 (fun i e => ⟨by have := HR9.out.lt; omega, by omega⟩)
        have hl10 := hf9.own HL9.out (fun i hi e => own_blk_ne HL9.out HJ9.out (by decide) (by rw [hi, e]))
        have hr10 := HRT8.out.keep fun y hy hl => hf9.cell hl (fun e => by have := HR9.out.lt; rcases hy with hy | hy <;> omega)
        have hz9 := hf9.size
        have hla := hl10.alloc (.cells #[.int .i64 tv] 3)
        have HR10 := Lib.hid hR10; have HL10 := Lib.hid hl10; have HLA := Lib.hid hla; have HRT := Lib.hid hr10; have HB9 := Lib.hid hb9
        clear m0 j0 k0 m1 j1 k1 m2 j2 k2 m3 j3 k3 m4 j4 k4 hf9 hW9 hR10 hl10 hla hr10 hb9 HR9 HL9 HJ9 HRT8 HMK
        go_wp2_with (at_builtin; go_must (refine wpList_append_any _ rfl (.tmp 68) (.tmp 70) _ rfl (ib + 1) 3 i0 _ 1 8 Try.underlying23 hi0 hz0 hz1 hz2 rfl (by decide) (.slice lA kk lc) _ _ rfl HLA.out (W9.heap.size + 1) (some ⟨W9.heap.size, 0, none⟩) 1 1 [.int .i64 tv] rfl ?c0 ?c3 ?c1 ?c2 (by simp; omega) ?k))
        case c0 => exact ⟨rfl, fun _ => ⟨_, rfl, by simp, fun j u hj => by
          match j, hj with
          | 0, hj => simp at hj; subst hj; simp [Addr.add]⟩⟩
        case c3 => first | rfl | (intro u hu; have e := List.mem_singleton.1 hu; subst e; rfl)
        case c1 => unfold maxLen; omega
        case c2 => omega
        case k =>
        intro v' w10 hown hg10 hat
        obtain ⟨A8, c8, rfl, _, _⟩ := own_slice hown
        have hal : Below W9.heap.size W9 (W9.alloc (.cells #[.int .i64 tv] 3)) := (Below.refl _ _).alloc (Nat.le_refl _) _
        have hf10 := Fr.of_grown hg10
        have hR11 := (HR10.out.below hal).fr hf10 (fun i e => ⟨by have := (HLA.out.lt i e).1; have := HR10.out.lt; omega, by have := (HLA.out.lt i e).1; omega⟩)
        have hb11 := hf10.blk (HB9.out.below hal HB9.out.lt) (own_blk_ne HLA.out (HB9.out.below hal HB9.out.lt) (by decide))
        have hr11 : RT w10 (fun i => (D i ∧ i < w.heap.size) ∨ (w.heap.size + 1 + 1 + 1 < i ∧ i ≠ jb ∧ (Value.slice A8 (kk + 1) c8).ownBlock ≠ some i)) ⟨a6, c6', s6', d6⟩ un := by
          have h1 := HRT.out.mono (E := fun i => ((D i ∧ i < w.heap.size) ∨ (w.heap.size + 1 + 1 + 1 < i ∧ i ≠ jb ∧ (Value.slice lA kk lc).ownBlock ≠ some i)) ∧ i < W9.heap.size) (fun i hi hl => ⟨hi, hl⟩)
          refine ((h1.below hal).keep (fun y hy hl => hf10.cell hl (fun e => ?_))).mono (fun i hi _ => ?_)
          · rcases hy.1 with h | h
            · have := (HLA.out.lt _ e).1; have := HR10.out.lt; omega
            · exact h.2.2 e
          · rcases hi.1 with h | h
            · exact .inl h
            · refine .inr ⟨h.1, h.2.1, fun e => ?_⟩
              have e' : (Value.slice A8 (kk + 1) c8).ownBlock = some i := by simpa [Value.ownBlock] using e
              rcases hat with h2 | h2
              · exact h.2.2 (by rw [← h2]; exact e')
              · rw [h2] at e'; simp at e'; omega
        have ho11 : w10.ownsRow (ib + 1) 3 1 (.slice A8 (kk + 1) c8) (kk + 1) (IS (topsT (kk + 1) u0)) := by
          rw [HTV.out]
          have e : IS (topsT kk u0 ++ [tv]) = IS (topsT kk u0) ++ [.int .i64 tv] := by simp [IS]
          rw [e]
          exact hown
        have H1 := Lib.hid hR11; have H2 := Lib.hid hb11; have H3 := Lib.hid hr11; have H4 := Lib.hid ho11
        clear hown hg10 hat hal hf10 hR11 hb11 hr11 ho11
        go_wp2_with fail
        refine ⟨⟨kk + 1, A8, c8, ⟨a6, c6', s6', d6⟩, by omega, rfl, by go_num, H1.out, ?_, H4.out⟩, by simp [intOf]; omega⟩
        rw [HUN.out]
        exact ⟨H2.out, H3.out, HLN.out⟩
      · have hkn : kk = nd := by omega
        subst hkn
        have hlti : decide ((kk : Int) < (kk : Int)) = false := decide_eq_false (by omega)
        go_wp2_with fail
        refine (HNEED.out _).mono ?_
        rintro e wq ⟨rfl, rfl⟩
        go_wp2_with fail
        refine (HKIND.out _).mono ?_
        rintro e wk ⟨rfl, rfl⟩
        have hlk := HR8.out.lt
        clear hlti g6
        rcases HOPS.out with rfl | rfl | rfl | rfl | rfl | rfl | rfl | rfl
        · have hkk : kk = 0 := by have h := HND.out; simp [needsV] at h; omega
          subst hkk
          have hJ : RJ w wk D jb (.slice lA 0 lc) hu u0 := HJ8.out
          have HJ := Lib.hid hJ
          have b5 := HJ.out.bx.lt
          have b0 := (hJ.bx.cell 0).trans rfl
          have b1 := (hJ.bx.cell 1).trans rfl
          have b2 := (hJ.bx.cell 2).trans rfl
          have b3 := (hJ.bx.cell 3).trans rfl
          have b4 := (hJ.bx.cell 4).trans rfl
          have i1 := (HR8.out.ibk.cell 1).trans rfl
          have i0 := (HR8.out.ibk.cell 0).trans rfl
          have r0 := (HR8.out.r0.cell 0).trans rfl
          have y0 := HR8.out.r0.frozen 0
          have r1 := (HR8.out.r0.cell 1).trans rfl
          have y1 := HR8.out.r0.frozen 1
          have r2 := (HR8.out.r0.cell 2).trans rfl
          have y2 := HR8.out.r0.frozen 2
          have r3 := (HR8.out.r0.cell 3).trans rfl
          have y3 := HR8.out.r0.frozen 3
          have r4 := (HR8.out.r0.cell 4).trans rfl
          have y4 := HR8.out.r0.frozen 4
          have v0 := (HR8.out.r1.cell 0).trans rfl
          have z0 := HR8.out.r1.frozen 0
          have v1 := (HR8.out.r1.cell 1).trans rfl
          have z1 := HR8.out.r1.frozen 1
          have v2 := (HR8.out.r1.cell 2).trans rfl
          have z2 := HR8.out.r1.frozen 2
          have n0 : jb ≠ w.heap.size + 1 + 1 := by omega
          have n1 : jb ≠ w.heap.size + 1 + 1 + 1 := by omega
          have n2 := Ne.symm n0
          have n3 := Ne.symm n1
          have n4 : ib ≠ w.heap.size + 1 + 1 := by omega
          have n5 : ib ≠ w.heap.size + 1 + 1 + 1 := by omega
          have n6 := Ne.symm n4
          have n7 := Ne.symm n5
          have n8 : w.heap.size + 1 + 1 ≠ w.heap.size + 1 + 1 + 1 := by omega
          have n9 := Ne.symm n8
          clear hJ
          have hv := HSV.out
          rw [deedV_ask p u0 11 a (by decide)] at hv
          injection hv with hv1 hv2
          have hv1 := hv1.symm
          subst hv1 hv2
          go_upto_region 18 with fail
          go_region
          all_goals
            go_wp2_with fail
            obtain ⟨k0, k1, k2, k3⟩ := HR8.out.fin (D := D) (hx := hu) (x := u0) ⟨kindV 11, a, 0⟩ HJ.out.rt (fun i h _ => by rcases h with h | h; exact .inl h; exact .inr h.1) rfl
            refine bodyPost_ret (v := .tuple #[.agg #[.int .i64 u0.state, .int .i64 u0.on, .slice hu.fA u0.frames.length hu.fc, .slice hu.sA u0.stack.length hu.sc, .int .i64 u0.code], .agg #[.int .i64 (kindV 11), .int .i64 a, .int .i64 0]]) (results_cells2 rfl _ _ (w.heap.size + 1 + 1) (w.heap.size + 1 + 1 + 1) 29 37 _ _ (0, 0) (0, 0) _ _ rfl rfl k0.drew k1.drew Try.underlying29 rfl (by kernel_rfl) Try.underlying37 rfl (by kernel_rfl)) rfl ?_
            exact ⟨hu, rfl, k2.below (Below.refl _ _).drew, k3.drew⟩
        · have hkk : kk = 0 := by have h := HND.out; simp [needsV] at h; omega
          subst hkk
          have hJ : RJ w wk D jb (.slice lA 0 lc) hu u0 := HJ8.out
          have HJ := Lib.hid hJ
          have b5 := HJ.out.bx.lt
          have b0 := (hJ.bx.cell 0).trans rfl
          have b1 := (hJ.bx.cell 1).trans rfl
          have b2 := (hJ.bx.cell 2).trans rfl
          have b3 := (hJ.bx.cell 3).trans rfl
          have b4 := (hJ.bx.cell 4).trans rfl
          have i1 := (HR8.out.ibk.cell 1).trans rfl
          have i0 := (HR8.out.ibk.cell 0).trans rfl
          have r0 := (HR8.out.r0.cell 0).trans rfl
          have y0 := HR8.out.r0.frozen 0
          have r1 := (HR8.out.r0.cell 1).trans rfl
          have y1 := HR8.out.r0.frozen 1
          have r2 := (HR8.out.r0.cell 2).trans rfl
          have y2 := HR8.out.r0.frozen 2
          have r3 := (HR8.out.r0.cell 3).trans rfl
          have y3 := HR8.out.r0.frozen 3
          have r4 := (HR8.out.r0.cell 4).trans rfl
          have y4 := HR8.out.r0.frozen 4
          have v0 := (HR8.out.r1.cell 0).trans rfl
          have z0 := HR8.out.r1.frozen 0
          have v1 := (HR8.out.r1.cell 1).trans rfl
          have z1 := HR8.out.r1.frozen 1
          have v2 := (HR8.out.r1.cell 2).trans rfl
          have z2 := HR8.out.r1.frozen 2
          have n0 : jb ≠ w.heap.size + 1 + 1 := by omega
          have n1 : jb ≠ w.heap.size + 1 + 1 + 1 := by omega
          have n2 := Ne.symm n0
          have n3 := Ne.symm n1
          have n4 : ib ≠ w.heap.size + 1 + 1 := by omega
          have n5 : ib ≠ w.heap.size + 1 + 1 + 1 := by omega
          have n6 := Ne.symm n4
          have n7 := Ne.symm n5
          have n8 : w.heap.size + 1 + 1 ≠ w.heap.size + 1 + 1 + 1 := by omega
          have n9 := Ne.symm n8
          clear hJ
          have hv := HSV.out
          rw [deedV_ask p u0 12 a (by decide)] at hv
          injection hv with hv1 hv2
          have hv1 := hv1.symm
          subst hv1 hv2
          go_upto_region 18 with fail
          go_region
          all_goals
            go_wp2_with fail
            obtain ⟨k0, k1, k2, k3⟩ := HR8.out.fin (D := D) (hx := hu) (x := u0) ⟨kindV 12, a, 0⟩ HJ.out.rt (fun i h _ => by rcases h with h | h; exact .inl h; exact .inr h.1) rfl
            refine bodyPost_ret (v := .tuple #[.agg #[.int .i64 u0.state, .int .i64 u0.on, .slice hu.fA u0.frames.length hu.fc, .slice hu.sA u0.stack.length hu.sc, .int .i64 u0.code], .agg #[.int .i64 (kindV 12), .int .i64 a, .int .i64 0]]) (results_cells2 rfl _ _ (w.heap.size + 1 + 1) (w.heap.size + 1 + 1 + 1) 29 37 _ _ (0, 0) (0, 0) _ _ rfl rfl k0.drew k1.drew Try.underlying29 rfl (by kernel_rfl) Try.underlying37 rfl (by kernel_rfl)) rfl ?_
            exact ⟨hu, rfl, k2.below (Below.refl _ _).drew, k3.drew⟩
        · have hkk : kk = 1 := by have h := HND.out; simp [needsV] at h; omega
          subst hkk
          have hJ : RJ w wk D jb (.slice lA 1 lc) hu (popT u0) := HJ8.out
          have HJ := Lib.hid hJ
          have hl : wk.ownsRow (ib + 1) 3 1 (.slice lA 1 lc) 1 (IS [topT u0]) := HL8.out
          obtain ⟨lb, lcap, hv, hlbb, hlbz⟩ := hl.form (by omega)
          injection hv with hv1 _ hv2
          subst hv1 hv2
          have l0 : wk.cell? ⟨lb, 0, none⟩ = some (.int .i64 (topT u0)) := (hl.cellAt 0 (by omega)).trans rfl
          have HL := Lib.hid hl
          clear hl hlbb hlbz
          have b5 := HJ.out.bx.lt
          have b0 := (hJ.bx.cell 0).trans rfl
          have b1 := (hJ.bx.cell 1).trans rfl
          have b2 := (hJ.bx.cell 2).trans rfl
          have b3 := (hJ.bx.cell 3).trans rfl
          have b4 := (hJ.bx.cell 4).trans rfl
          have i1 := (HR8.out.ibk.cell 1).trans rfl
          have i0 := (HR8.out.ibk.cell 0).trans rfl
          have r0 := (HR8.out.r0.cell 0).trans rfl
          have y0 := HR8.out.r0.frozen 0
          have r1 := (HR8.out.r0.cell 1).trans rfl
          have y1 := HR8.out.r0.frozen 1
          have r2 := (HR8.out.r0.cell 2).trans rfl
          have y2 := HR8.out.r0.frozen 2
          have r3 := (HR8.out.r0.cell 3).trans rfl
          have y3 := HR8.out.r0.frozen 3
          have r4 := (HR8.out.r0.cell 4).trans rfl
          have y4 := HR8.out.r0.frozen 4
          have v0 := (HR8.out.r1.cell 0).trans rfl
          have z0 := HR8.out.r1.frozen 0
          have v1 := (HR8.out.r1.cell 1).trans rfl
          have z1 := HR8.out.r1.frozen 1
          have v2 := (HR8.out.r1.cell 2).trans rfl
          have z2 := HR8.out.r1.frozen 2
          have n0 : jb ≠ w.heap.size + 1 + 1 := by omega
          have n1 : jb ≠ w.heap.size + 1 + 1 + 1 := by omega
          have n2 := Ne.symm n0
          have n3 := Ne.symm n1
          have n4 : ib ≠ w.heap.size + 1 + 1 := by omega
          have n5 : ib ≠ w.heap.size + 1 + 1 + 1 := by omega
          have n6 := Ne.symm n4
          have n7 := Ne.symm n5
          have n8 : w.heap.size + 1 + 1 ≠ w.heap.size + 1 + 1 + 1 := by omega
          have n9 := Ne.symm n8
          clear hJ
          have o0 : lb ≠ w.heap.size + 1 + 1 := by have := (HL.out.lt lb rfl).1; omega
          have o1 : lb ≠ w.heap.size + 1 + 1 + 1 := by have := (HL.out.lt lb rfl).1; omega
          have o2 := Ne.symm o0
          have o3 := Ne.symm o1
          have hv := HSV.out
          have hne : ¬ u0.stack = [] := fun e => by have h := HUST.out; rw [e] at h; rw [← h] at hun; simp at hun
          rw [deedV_askN p u0 13 a (by decide), popV, if_neg hne] at hv
          injection hv with hv1 hv2
          subst hv1 hv2
          clear hne
          go_upto_region 16 with fail
          go_region
          all_goals
            go_wp2_with fail
            obtain ⟨k0, k1, k2, k3⟩ := HR8.out.fin (D := D) (hx := hu) (x := (popT u0)) ⟨kindV 13, a, topT u0⟩ HJ.out.rt (fun i h _ => by rcases h with h | h; exact .inl h; exact .inr h.1) rfl
            refine bodyPost_ret (v := .tuple #[.agg #[.int .i64 (popT u0).state, .int .i64 (popT u0).on, .slice hu.fA (popT u0).frames.length hu.fc, .slice hu.sA (popT u0).stack.length hu.sc, .int .i64 (popT u0).code], .agg #[.int .i64 (kindV 13), .int .i64 a, .int .i64 (topT u0)]]) (results_cells2 rfl _ _ (w.heap.size + 1 + 1) (w.heap.size + 1 + 1 + 1) 29 37 _ _ (0, 0) (0, 0) _ _ rfl rfl k0.drew k1.drew Try.underlying29 rfl (by kernel_rfl) Try.underlying37 rfl (by kernel_rfl)) rfl ?_
            exact ⟨hu, rfl, k2.below (Below.refl _ _).drew, k3.drew⟩
        · have hkk : kk = 1 := by have h := HND.out; simp [needsV] at h; omega
          subst hkk
          have hJ : RJ w wk D jb (.slice lA 1 lc) hu (popT u0) := HJ8.out
          have HJ := Lib.hid hJ
          have hl : wk.ownsRow (ib + 1) 3 1 (.slice lA 1 lc) 1 (IS [topT u0]) := HL8.out
          obtain ⟨lb, lcap, hv, hlbb, hlbz⟩ := hl.form (by omega)
          injection hv with hv1 _ hv2
          subst hv1 hv2
          have l0 : wk.cell? ⟨lb, 0, none⟩ = some (.int .i64 (topT u0)) := (hl.cellAt 0 (by omega)).trans rfl
          have HL := Lib.hid hl
          clear hl hlbb hlbz
          have b5 := HJ.out.bx.lt
          have b0 := (hJ.bx.cell 0).trans rfl
          have b1 := (hJ.bx.cell 1).trans rfl
          have b2 := (hJ.bx.cell 2).trans rfl
          have b3 := (hJ.bx.cell 3).trans rfl
          have b4 := (hJ.bx.cell 4).trans rfl
          have i1 := (HR8.out.ibk.cell 1).trans rfl
          have i0 := (HR8.out.ibk.cell 0).trans rfl
          have r0 := (HR8.out.r0.cell 0).trans rfl
          have y0 := HR8.out.r0.frozen 0
          have r1 := (HR8.out.r0.cell 1).trans rfl
          have y1 := HR8.out.r0.frozen 1
          have r2 := (HR8.out.r0.cell 2).trans rfl
          have y2 := HR8.out.r0.frozen 2
          have r3 := (HR8.out.r0.cell 3).trans rfl
          have y3 := HR8.out.r0.frozen 3
          have r4 := (HR8.out.r0.cell 4).trans rfl
          have y4 := HR8.out.r0.frozen 4
          have v0 := (HR8.out.r1.cell 0).trans rfl
          have z0 := HR8.out.r1.frozen 0
          have v1 := (HR8.out.r1.cell 1).trans rfl
          have z1 := HR8.out.r1.frozen 1
          have v2 := (HR8.out.r1.cell 2).trans rfl
          have z2 := HR8.out.r1.frozen 2
          have n0 : jb ≠ w.heap.size + 1 + 1 := by omega
          have n1 : jb ≠ w.heap.size + 1 + 1 + 1 := by omega
          have n2 := Ne.symm n0
          have n3 := Ne.symm n1
          have n4 : ib ≠ w.heap.size + 1 + 1 := by omega
          have n5 : ib ≠ w.heap.size + 1 + 1 + 1 := by omega
          have n6 := Ne.symm n4
          have n7 := Ne.symm n5
          have n8 : w.heap.size + 1 + 1 ≠ w.heap.size + 1 + 1 + 1 := by omega
          have n9 := Ne.symm n8
          clear hJ
          have o0 : lb ≠ w.heap.size + 1 + 1 := by have := (HL.out.lt lb rfl).1; omega
          have o1 : lb ≠ w.heap.size + 1 + 1 + 1 := by have := (HL.out.lt lb rfl).1; omega
          have o2 := Ne.symm o0
          have o3 := Ne.symm o1
          have hv := HSV.out
          have hne : ¬ u0.stack = [] := fun e => by have h := HUST.out; rw [e] at h; rw [← h] at hun; simp at hun
          rw [deedV_askN p u0 14 a (by decide), popV, if_neg hne] at hv
          injection hv with hv1 hv2
          subst hv1 hv2
          clear hne
          go_upto_region 16 with fail
          go_region
          all_goals
            go_wp2_with fail
            obtain ⟨k0, k1, k2, k3⟩ := HR8.out.fin (D := D) (hx := hu) (x := (popT u0)) ⟨kindV 14, a, topT u0⟩ HJ.out.rt (fun i h _ => by rcases h with h | h; exact .inl h; exact .inr h.1) rfl
            refine bodyPost_ret (v := .tuple #[.agg #[.int .i64 (popT u0).state, .int .i64 (popT u0).on, .slice hu.fA (popT u0).frames.length hu.fc, .slice hu.sA (popT u0).stack.length hu.sc, .int .i64 (popT u0).code], .agg #[.int .i64 (kindV 14), .int .i64 a, .int .i64 (topT u0)]]) (results_cells2 rfl _ _ (w.heap.size + 1 + 1) (w.heap.size + 1 + 1 + 1) 29 37 _ _ (0, 0) (0, 0) _ _ rfl rfl k0.drew k1.drew Try.underlying29 rfl (by kernel_rfl) Try.underlying37 rfl (by kernel_rfl)) rfl ?_
            exact ⟨hu, rfl, k2.below (Below.refl _ _).drew, k3.drew⟩
        · have hkk : kk = 0 := by have h := HND.out; simp [needsV] at h; omega
          subst hkk
          have hJ : RJ w wk D jb (.slice lA 0 lc) hu u0 := HJ8.out
          have HJ := Lib.hid hJ
          have b5 := HJ.out.bx.lt
          have b0 := (hJ.bx.cell 0).trans rfl
          have b1 := (hJ.bx.cell 1).trans rfl
          have b2 := (hJ.bx.cell 2).trans rfl
          have b3 := (hJ.bx.cell 3).trans rfl
          have b4 := (hJ.bx.cell 4).trans rfl
          have i1 := (HR8.out.ibk.cell 1).trans rfl
          have i0 := (HR8.out.ibk.cell 0).trans rfl
          have r0 := (HR8.out.r0.cell 0).trans rfl
          have y0 := HR8.out.r0.frozen 0
          have r1 := (HR8.out.r0.cell 1).trans rfl
          have y1 := HR8.out.r0.frozen 1
          have r2 := (HR8.out.r0.cell 2).trans rfl
          have y2 := HR8.out.r0.frozen 2
          have r3 := (HR8.out.r0.cell 3).trans rfl
          have y3 := HR8.out.r0.frozen 3
          have r4 := (HR8.out.r0.cell 4).trans rfl
          have y4 := HR8.out.r0.frozen 4
          have v0 := (HR8.out.r1.cell 0).trans rfl
          have z0 := HR8.out.r1.frozen 0
          have v1 := (HR8.out.r1.cell 1).trans rfl
          have z1 := HR8.out.r1.frozen 1
          have v2 := (HR8.out.r1.cell 2).trans rfl
          have z2 := HR8.out.r1.frozen 2
          have n0 : jb ≠ w.heap.size + 1 + 1 := by omega
          have n1 : jb ≠ w.heap.size + 1 + 1 + 1 := by omega
          have n2 := Ne.symm n0
          have n3 := Ne.symm n1
          have n4 : ib ≠ w.heap.size + 1 + 1 := by omega
          have n5 : ib ≠ w.heap.size + 1 + 1 + 1 := by omega
          have n6 := Ne.symm n4
          have n7 := Ne.symm n5
          have n8 : w.heap.size + 1 + 1 ≠ w.heap.size + 1 + 1 + 1 := by omega
          have n9 := Ne.symm n8
          clear hJ
          have hv := HSV.out
          rw [deedV_ask p u0 15 a (by decide)] at hv
          injection hv with hv1 hv2
          have hv1 := hv1.symm
          subst hv1 hv2
          go_upto_region 18 with fail
          go_region
          all_goals
            go_wp2_with fail
            obtain ⟨k0, k1, k2, k3⟩ := HR8.out.fin (D := D) (hx := hu) (x := u0) ⟨kindV 15, a, 0⟩ HJ.out.rt (fun i h _ => by rcases h with h | h; exact .inl h; exact .inr h.1) rfl
            refine bodyPost_ret (v := .tuple #[.agg #[.int .i64 u0.state, .int .i64 u0.on, .slice hu.fA u0.frames.length hu.fc, .slice hu.sA u0.stack.length hu.sc, .int .i64 u0.code], .agg #[.int .i64 (kindV 15), .int .i64 a, .int .i64 0]]) (results_cells2 rfl _ _ (w.heap.size + 1 + 1) (w.heap.size + 1 + 1 + 1) 29 37 _ _ (0, 0) (0, 0) _ _ rfl rfl k0.drew k1.drew Try.underlying29 rfl (by kernel_rfl) Try.underlying37 rfl (by kernel_rfl)) rfl ?_
            exact ⟨hu, rfl, k2.below (Below.refl _ _).drew, k3.drew⟩
        · have hkk : kk = 0 := by have h := HND.out; simp [needsV] at h; omega
          subst hkk
          have hJ : RJ w wk D jb (.slice lA 0 lc) hu u0 := HJ8.out
          have HJ := Lib.hid hJ
          have b5 := HJ.out.bx.lt
          have b0 := (hJ.bx.cell 0).trans rfl
          have b1 := (hJ.bx.cell 1).trans rfl
          have b2 := (hJ.bx.cell 2).trans rfl
          have b3 := (hJ.bx.cell 3).trans rfl
          have b4 := (hJ.bx.cell 4).trans rfl
          have i1 := (HR8.out.ibk.cell 1).trans rfl
          have i0 := (HR8.out.ibk.cell 0).trans rfl
          have r0 := (HR8.out.r0.cell 0).trans rfl
          have y0 := HR8.out.r0.frozen 0
          have r1 := (HR8.out.r0.cell 1).trans rfl
          have y1 := HR8.out.r0.frozen 1
          have r2 := (HR8.out.r0.cell 2).trans rfl
          have y2 := HR8.out.r0.frozen 2
          have r3 := (HR8.out.r0.cell 3).trans rfl
          have y3 := HR8.out.r0.frozen 3
          have r4 := (HR8.out.r0.cell 4).trans rfl
          have y4 := HR8.out.r0.frozen 4
          have v0 := (HR8.out.r1.cell 0).trans rfl
          have z0 := HR8.out.r1.frozen 0
          have v1 := (HR8.out.r1.cell 1).trans rfl
          have z1 := HR8.out.r1.frozen 1
          have v2 := (HR8.out.r1.cell 2).trans rfl
          have z2 := HR8.out.r1.frozen 2
          have n0 : jb ≠ w.heap.size + 1 + 1 := by omega
          have n1 : jb ≠ w.heap.size + 1 + 1 + 1 := by omega
          have n2 := Ne.symm n0
          have n3 := Ne.symm n1
          have n4 : ib ≠ w.heap.size + 1 + 1 := by omega
          have n5 : ib ≠ w.heap.size + 1 + 1 + 1 := by omega
          have n6 := Ne.symm n4
          have n7 := Ne.symm n5
          have n8 : w.heap.size + 1 + 1 ≠ w.heap.size + 1 + 1 + 1 := by omega
          have n9 := Ne.symm n8
          clear hJ
          have hv := HSV.out
          rw [deedV_ask p u0 16 a (by decide)] at hv
          injection hv with hv1 hv2
          have hv1 := hv1.symm
          subst hv1 hv2
          go_upto_region 18 with fail
          go_region
          all_goals
            go_wp2_with fail
            obtain ⟨k0, k1, k2, k3⟩ := HR8.out.fin (D := D) (hx := hu) (x := u0) ⟨kindV 16, a, 0⟩ HJ.out.rt (fun i h _ => by rcases h with h | h; exact .inl h; exact .inr h.1) rfl
            refine bodyPost_ret (v := .tuple #[.agg #[.int .i64 u0.state, .int .i64 u0.on, .slice hu.fA u0.frames.length hu.fc, .slice hu.sA u0.stack.length hu.sc, .int .i64 u0.code], .agg #[.int .i64 (kindV 16), .int .i64 a, .int .i64 0]]) (results_cells2 rfl _ _ (w.heap.size + 1 + 1) (w.heap.size + 1 + 1 + 1) 29 37 _ _ (0, 0) (0, 0) _ _ rfl rfl k0.drew k1.drew Try.underlying29 rfl (by kernel_rfl) Try.underlying37 rfl (by kernel_rfl)) rfl ?_
            exact ⟨hu, rfl, k2.below (Below.refl _ _).drew, k3.drew⟩
        · have hkk : kk = 0 := by have h := HND.out; simp [needsV] at h; omega
          subst hkk
          have hJ : RJ w wk D jb (.slice lA 0 lc) hu u0 := HJ8.out
          have HJ := Lib.hid hJ
          have b5 := HJ.out.bx.lt
          have b0 := (hJ.bx.cell 0).trans rfl
          have b1 := (hJ.bx.cell 1).trans rfl
          have b2 := (hJ.bx.cell 2).trans rfl
          have b3 := (hJ.bx.cell 3).trans rfl
          have b4 := (hJ.bx.cell 4).trans rfl
          have i1 := (HR8.out.ibk.cell 1).trans rfl
          have i0 := (HR8.out.ibk.cell 0).trans rfl
          have r0 := (HR8.out.r0.cell 0).trans rfl
          have y0 := HR8.out.r0.frozen 0
          have r1 := (HR8.out.r0.cell 1).trans rfl
          have y1 := HR8.out.r0.frozen 1
          have r2 := (HR8.out.r0.cell 2).trans rfl
          have y2 := HR8.out.r0.frozen 2
          have r3 := (HR8.out.r0.cell 3).trans rfl
          have y3 := HR8.out.r0.frozen 3
          have r4 := (HR8.out.r0.cell 4).trans rfl
          have y4 := HR8.out.r0.frozen 4
          have v0 := (HR8.out.r1.cell 0).trans rfl
          have z0 := HR8.out.r1.frozen 0
          have v1 := (HR8.out.r1.cell 1).trans rfl
          have z1 := HR8.out.r1.frozen 1
          have v2 := (HR8.out.r1.cell 2).trans rfl
          have z2 := HR8.out.r1.frozen 2
          have n0 : jb ≠ w.heap.size + 1 + 1 := by omega
          have n1 : jb ≠ w.heap.size + 1 + 1 + 1 := by omega
          have n2 := Ne.symm n0
          have n3 := Ne.symm n1
          have n4 : ib ≠ w.heap.size + 1 + 1 := by omega
          have n5 : ib ≠ w.heap.size + 1 + 1 + 1 := by omega
          have n6 := Ne.symm n4
          have n7 := Ne.symm n5
          have n8 : w.heap.size + 1 + 1 ≠ w.heap.size + 1 + 1 + 1 := by omega
          have n9 := Ne.symm n8
          clear hJ
          have hv := HSV.out
          rw [deedV_ask p u0 17 a (by decide)] at hv
          injection hv with hv1 hv2
          have hv1 := hv1.symm
          subst hv1 hv2
          go_upto_region 18 with fail
          go_region
          all_goals
            go_wp2_with fail
            obtain ⟨k0, k1, k2, k3⟩ := HR8.out.fin (D := D) (hx := hu) (x := u0) ⟨kindV 17, a, 0⟩ HJ.out.rt (fun i h _ => by rcases h with h | h; exact .inl h; exact .inr h.1) rfl
            refine bodyPost_ret (v := .tuple #[.agg #[.int .i64 u0.state, .int .i64 u0.on, .slice hu.fA u0.frames.length hu.fc, .slice hu.sA u0.stack.length hu.sc, .int .i64 u0.code], .agg #[.int .i64 (kindV 17), .int .i64 a, .int .i64 0]]) (results_cells2 rfl _ _ (w.heap.size + 1 + 1) (w.heap.size + 1 + 1 + 1) 29 37 _ _ (0, 0) (0, 0) _ _ rfl rfl k0.drew k1.drew Try.underlying29 rfl (by kernel_rfl) Try.underlying37 rfl (by kernel_rfl)) rfl ?_
            exact ⟨hu, rfl, k2.below (Below.refl _ _).drew, k3.drew⟩
        · have hkk : kk = 0 := by have h := HND.out; simp [needsV] at h; omega
          subst hkk
          have hJ : RJ w wk D jb (.slice lA 0 lc) hu u0 := HJ8.out
          have HJ := Lib.hid hJ
          have b5 := HJ.out.bx.lt
          have b0 := (hJ.bx.cell 0).trans rfl
          have b1 := (hJ.bx.cell 1).trans rfl
          have b2 := (hJ.bx.cell 2).trans rfl
          have b3 := (hJ.bx.cell 3).trans rfl
          have b4 := (hJ.bx.cell 4).trans rfl
          have i1 := (HR8.out.ibk.cell 1).trans rfl
          have i0 := (HR8.out.ibk.cell 0).trans rfl
          have r0 := (HR8.out.r0.cell 0).trans rfl
          have y0 := HR8.out.r0.frozen 0
          have r1 := (HR8.out.r0.cell 1).trans rfl
          have y1 := HR8.out.r0.frozen 1
          have r2 := (HR8.out.r0.cell 2).trans rfl
          have y2 := HR8.out.r0.frozen 2
          have r3 := (HR8.out.r0.cell 3).trans rfl
          have y3 := HR8.out.r0.frozen 3
          have r4 := (HR8.out.r0.cell 4).trans rfl
          have y4 := HR8.out.r0.frozen 4
          have v0 := (HR8.out.r1.cell 0).trans rfl
          have z0 := HR8.out.r1.frozen 0
          have v1 := (HR8.out.r1.cell 1).trans rfl
          have z1 := HR8.out.r1.frozen 1
          have v2 := (HR8.out.r1.cell 2).trans rfl
          have z2 := HR8.out.r1.frozen 2
          have n0 : jb ≠ w.heap.size + 1 + 1 := by omega
          have n1 : jb ≠ w.heap.size + 1 + 1 + 1 := by omega
          have n2 := Ne.symm n0
          have n3 := Ne.symm n1
          have n4 : ib ≠ w.heap.size + 1 + 1 := by omega
          have n5 : ib ≠ w.heap.size + 1 + 1 + 1 := by omega
          have n6 := Ne.symm n4
          have n7 := Ne.symm n5
          have n8 : w.heap.size + 1 + 1 ≠ w.heap.size + 1 + 1 + 1 := by omega
          have n9 := Ne.symm n8
          clear hJ
          have hv := HSV.out
          rw [deedV_ask p u0 18 a (by decide)] at hv
          injection hv with hv1 hv2
          have hv1 := hv1.symm
          subst hv1 hv2
          go_upto_region 18 with fail
          go_region
          all_goals
            go_wp2_with fail
            obtain ⟨k0, k1, k2, k3⟩ := HR8.out.fin (D := D) (hx := hu) (x := u0) ⟨kindV 18, a, 0⟩ HJ.out.rt (fun i h _ => by rcases h with h | h; exact .inl h; exact .inr h.1) rfl
            refine bodyPost_ret (v := .tuple #[.agg #[.int .i64 u0.state, .int .i64 u0.on, .slice hu.fA u0.frames.length hu.fc, .slice hu.sA u0.stack.length hu.sc, .int .i64 u0.code], .agg #[.int .i64 (kindV 18), .int .i64 a, .int .i64 0]]) (results_cells2 rfl _ _ (w.heap.size + 1 + 1) (w.heap.size + 1 + 1 + 1) 29 37 _ _ (0, 0) (0, 0) _ _ rfl rfl k0.drew k1.drew Try.underlying29 rfl (by kernel_rfl) Try.underlying37 rfl (by kernel_rfl)) rfl ?_
            exact ⟨hu, rfl, k2.below (Below.refl _ _).drew, k3.drew⟩
end

section
open Go.RowKit Plain

set_option maxHeartbeats 40000000 in
set_option maxRecDepth 100000 in
theorem stepRd (h : PH) (p : PV) (ht : TH) (t : TV) (w : World) (B : Nat) (D : Nat → Prop) (hrp : RP w B h p) (hB : B ≤ w.heap.size) (hr : RT w D ht t) (hp : mayB p = true) (hm : mayT p t = true) (hs : t.state ≠ 9) (op a : Int) (hf : fetchT p t = some ⟨op, a⟩) (hop : op = 19 ∨ op = 20 ∨ op = 21 ∨ op = 22 ∨ op = 23 ∨ op = 24 ∨ op = 25) :
    Calls Try.prog 13 #[.agg #[.slice h.fA p.funcs.length h.fc, .int .i64 p.mutexes, .slice h.cA p.conds.length h.cc, .slice h.sA p.semas.length h.sc, .slice h.hA p.chans.length h.hc, .slice h.xA p.choices.length h.xc, .int .i64 p.threads], .agg #[.int .i64 t.state, .int .i64 t.on, .slice ht.fA t.frames.length ht.fc, .slice ht.sA t.stack.length ht.sc, .int .i64 t.code]] w fun e w' => ∃ hx : TH, e = .returned (.tuple #[.agg #[.int .i64 (stepV p t).1.state, .int .i64 (stepV p t).1.on, .slice hx.fA (stepV p t).1.frames.length hx.fc, .slice hx.sA (stepV p t).1.stack.length hx.sc, .int .i64 (stepV p t).1.code], .agg #[.int .i64 (stepV p t).2.kind, .int .i64 (stepV p t).2.a, .int .i64 (stepV p t).2.v]]) ∧ RT w' (fun i => (D i ∧ i < w.heap.size) ∨ w.heap.size ≤ i) hx (stepV p t).1 ∧ Below w.heap.size w w' := by
  have hfew := mayB_few hp
  have hl := lensT_may hfew.1 hm
  have hpos := frames_pos hm hs
  have hlen := lenT_may hm
  obtain ⟨f0, f1, f2, f3, f4, _⟩ := (frB_iff _ _).1 (lastFr_ok hm hs)
  have hfc := hfew.2.2 _ (funcAt_mem f0 f1)
  obtain ⟨n, hn⟩ := Int.eq_ofNat_of_zero_le f0
  obtain ⟨c, hc⟩ := Int.eq_ofNat_of_zero_le f2
  have hdok := step_dok hp hm hs hf
  have hjm := jump_may hp hm hs hf
  have hok := fetch_ok hp hm hs hf
  simp only at hok
  have hsv := stepV_some hf
  obtain ⟨x, q, hxq⟩ : ∃ x q, stepV p t = (x, q) := ⟨_, _, rfl⟩
  rw [hxq] at hsv ⊢
  simp only
  obtain ⟨u0, hu0⟩ : ∃ u, u = jumpT t ((lastFr t).pc + 1) := ⟨_, rfl⟩
  rw [← hu0] at hdok hjm hsv
  have hus0 : u0.stack = t.stack := by rw [hu0]; rfl
  obtain ⟨W4, hW4⟩ : ∃ W, W = ((((w.alloc (.cells #[.slice h.fA p.funcs.length h.fc, .int .i64 p.mutexes, .slice h.cA p.conds.length h.cc, .slice h.sA p.semas.length h.sc, .slice h.hA p.chans.length h.hc, .slice h.xA p.choices.length h.xc, .int .i64 p.threads] 26)).alloc (.cells #[.int .i64 t.state, .int .i64 t.on, .slice ht.fA t.frames.length ht.fc, .slice ht.sA t.stack.length ht.sc, .int .i64 t.code] 29)).alloc (.cells #[.int .i64 0, .int .i64 0, .slice none 0 0, .slice none 0 0, .int .i64 0] 29)).alloc (.cells #[.int .i64 0, .int .i64 0, .int .i64 0] 37)) := ⟨_, rfl⟩
  have hb4 : Below w.heap.size w W4 := by rw [hW4]; exact ((((Below.refl _ _).alloc (Nat.le_refl _) _).alloc (by simp) _).alloc (by simp; omega) _).alloc (by simp; omega) _
  have hpb : Blk W4 w.heap.size 26 #[.slice h.fA p.funcs.length h.fc, .int .i64 p.mutexes, .slice h.cA p.conds.length h.cc, .slice h.sA p.semas.length h.sc, .slice h.hA p.chans.length h.hc, .slice h.xA p.choices.length h.xc, .int .i64 p.threads] := by rw [hW4]; exact (((Blk.new w _ _).alloc _).alloc _).alloc _
  have htb : Blk W4 (w.heap.size + 1) 29 #[.int .i64 t.state, .int .i64 t.on, .slice ht.fA t.frames.length ht.fc, .slice ht.sA t.stack.length ht.sc, .int .i64 t.code] := by
    rw [hW4]; refine (Blk.alloc ?_ _).alloc _
    simpa using Blk.new (w.alloc (.cells #[.slice h.fA p.funcs.length h.fc, .int .i64 p.mutexes, .slice h.cA p.conds.length h.cc, .slice h.sA p.semas.length h.sc, .slice h.hA p.chans.length h.hc, .slice h.xA p.choices.length h.xc, .int .i64 p.threads] 26)) 29 #[.int .i64 t.state, .int .i64 t.on, .slice ht.fA t.frames.length ht.fc, .slice ht.sA t.stack.length ht.sc, .int .i64 t.code]
  have hr0 : Blk W4 (w.heap.size + 1 + 1) 29 #[.int .i64 0, .int .i64 0, .slice none 0 0, .slice none 0 0, .int .i64 0] := by
    rw [hW4]; refine Blk.alloc ?_ _
    simpa using Blk.new ((w.alloc (.cells #[.slice h.fA p.funcs.length h.fc, .int .i64 p.mutexes, .slice h.cA p.conds.length h.cc, .slice h.sA p.semas.length h.sc, .slice h.hA p.chans.length h.hc, .slice h.xA p.choices.length h.xc, .int .i64 p.threads] 26)).alloc (.cells #[.int .i64 t.state, .int .i64 t.on, .slice ht.fA t.frames.length ht.fc, .slice ht.sA t.stack.length ht.sc, .int .i64 t.code] 29)) 29 #[.int .i64 0, .int .i64 0, .slice none 0 0, .slice none 0 0, .int .i64 0]
  have hr1 : Blk W4 (w.heap.size + 1 + 1 + 1) 37 #[.int .i64 0, .int .i64 0, .int .i64 0] := by
    rw [hW4]; simpa using Blk.new (((w.alloc (.cells #[.slice h.fA p.funcs.length h.fc, .int .i64 p.mutexes, .slice h.cA p.conds.length h.cc, .slice h.sA p.semas.length h.sc, .slice h.hA p.chans.length h.hc, .slice h.xA p.choices.length h.xc, .int .i64 p.threads] 26)).alloc (.cells #[.int .i64 t.state, .int .i64 t.on, .slice ht.fA t.frames.length ht.fc, .slice ht.sA t.stack.length ht.sc, .int .i64 t.code] 29)).alloc (.cells #[.int .i64 0, .int .i64 0, .slice none 0 0, .slice none 0 0, .int .i64 0] 29)) 37 #[.int .i64 0, .int .i64 0, .int .i64 0]
  have hz4 : W4.heap.size = w.heap.size + 1 + 1 + 1 + 1 := by rw [hW4]; simp
  have hrpW : ∀ X, Below W4.heap.size W4 X → RP X B h p := fun X hX => hrp.below ((hb4.trans (hX.mono (by omega))).mono hB)
  have hfe := refFetch_any h p ht t W4 D ((hrpW W4 (Below.refl _ _)).more (by omega)) (hr.below hb4) (by omega) n c hn (by omega) hc (by rw [← hn]; omega) (by rw [hc] at f3; omega) (by omega)
  have hfv : (funcAt p (n : Int)).code[c]? = some ⟨op, a⟩ := by unfold fetchT at hf; rw [hn, hc] at hf; simpa using hf
  rw [hfv] at hfe
  have hfe : Calls Try.prog 33 #[.agg #[.slice h.fA p.funcs.length h.fc, .int .i64 p.mutexes, .slice h.cA p.conds.length h.cc, .slice h.sA p.semas.length h.sc, .slice h.hA p.chans.length h.hc, .slice h.xA p.choices.length h.xc, .int .i64 p.threads], .agg #[.int .i64 t.state, .int .i64 t.on, .slice ht.fA t.frames.length ht.fc, .slice ht.sA t.stack.length ht.sc, .int .i64 t.code]] W4 fun e w' => e = .returned (.tuple #[.agg #[.int .i64 op, .int .i64 a], .bool true]) ∧ Below W4.heap.size W4 w' := hfe
  -- the frame that is under way
  obtain ⟨k, hk, hkl⟩ := lastFr_ex hpos
  obtain ⟨ad, y, hEA, hab, hy, y0, y1, y2, _⟩ := hr.frames.rg.at_ (k := k) (by omega)
  have hsp : ad.spot = none := by obtain ⟨ts, _, _, _, h4, _⟩ := hr.frames.rg; rw [hEA] at h4; exact h4.spot (by omega) (by omega)
  have hyl : y.f = lastFr t := by rw [hy] at hkl; injection hkl
  rw [hyl, hc] at y1
  obtain ⟨bA, oA, pA⟩ := ad
  obtain ⟨a1, c1, s1, d1⟩ := ht
  simp only at hEA hsp hab
  subst hsp hEA
  have ha1 : ((⟨bA, oA, none⟩ : Addr).add (k * 3)) = ⟨bA, oA + k * 3, none⟩ := by unfold Addr.add; by_cases h0 : k * 3 = 0 <;> simp [h0]
  rw [ha1] at y1
  simp only at y1
  have hju := fun X (hX : Below W4.heap.size W4 X) => refJump_all ⟨some ⟨bA, oA, none⟩, c1, s1, d1⟩ t ((c : Int) + 1) X _ (((hr.mono (E := fun i => D i ∧ i < w.heap.size) (fun i h1 h2 => ⟨h1, h2⟩)).below hb4).below hX) hl hpos (by omega) u0 (by rw [hu0, hc])
  simp only at hju hfe htb hW4 ⊢
  rw [hk] at hju hfe htb hW4
  simp only [hk]
  have hlu : LensT u0 := hdok.len
  have ik : (k : Int) < (k : Int) + 1 := by omega
  have hk6 : k < 8 := by omega
  have hc6 : c ≤ 64 := by rw [hc] at f3; omega
  have p0 := (hpb.cell 0).trans rfl
  have p1 := (hpb.cell 1).trans rfl
  have p2 := (hpb.cell 2).trans rfl
  have p3 := (hpb.cell 3).trans rfl
  have p4 := (hpb.cell 4).trans rfl
  have p5 := (hpb.cell 5).trans rfl
  have p6 := (hpb.cell 6).trans rfl
  have t0 := (htb.cell 0).trans rfl
  have t1 := (htb.cell 1).trans rfl
  have t2 := (htb.cell 2).trans rfl
  have t3 := (htb.cell 3).trans rfl
  have t4 := (htb.cell 4).trans rfl
  have hpcW : ∀ X, Below W4.heap.size W4 X → X.cell? ⟨bA, oA + k * 3 + 1, none⟩ = some (.int .i64 (c : Int)) := fun X hX => ((hb4.trans (hX.mono (by omega))).cell (p := ⟨bA, oA + k * 3 + 1, none⟩) hab).trans y1
  have HFE := Lib.hid hfe; have HJU := Lib.hid hju; have HW := Lib.hid hW4; have HB4 := Lib.hid hb4; have HPB := Lib.hid hpb; have HTB := Lib.hid htb; have HR0 := Lib.hid hr0; have HR1 := Lib.hid hr1; have HZ4 := Lib.hid hz4; have HRP := Lib.hid hrpW; have HDOK := Lib.hid hdok; have HOK := Lib.hid hok; have HOPS := Lib.hid hop; have HSV := Lib.hid hsv; have HUS := Lib.hid hus0; have HLU := Lib.hid hlu; have HPC := Lib.hid hpcW; have HFEW := Lib.hid hfew
  have HD : Hid (∀ i, D i ∧ i < w.heap.size → i < w.heap.size) := fun i h => h.2
  have HRPX : Hid (∀ X, Below w.heap.size w X → RP X B h p) := fun X hX => hrp.below (hX.mono hB)
  have HBW9 := Lib.hid hB
  clear hrp hr hp hm hs hf hfew hl hpos hlen f0 f1 f2 f3 f4 hfc hn hc hdok hjm hok hsv hu0 hW4 hb4 hpb htb hr0 hr1 hz4 hrpW hfe hfv hkl hk hy y0 y1 y2 hyl ha1 hju hlu hpcW hxq hus0 hop
  go_enter Try.func13, Try.ntmps13
  go_upto_region 1 with fail
  rw [← HW.out]
  clear HW
  go_wp2_with fail
  refine HFE.out.mono ?_
  rintro e w1 ⟨rfl, hb1⟩
  have hal : Below w1.heap.size w1 (w1.alloc (.cells #[.int .i64 op, .int .i64 a] 57)) := (Below.refl _ _).alloc (Nat.le_refl _) _
  obtain ⟨W5, hW5⟩ : ∃ W, W = w1.alloc (.cells #[.int .i64 op, .int .i64 a] 57) := ⟨_, rfl⟩
  obtain ⟨ib, hib⟩ : ∃ b, b = w1.heap.size := ⟨_, rfl⟩
  have hb5 : Below W4.heap.size W4 W5 := by rw [hW5]; exact hb1.alloc hb1.size _
  have hR0 : R0 w W5 h p #[.int .i64 t.state, .int .i64 t.on, .slice (some ⟨bA, oA, none⟩) (k + 1) c1, .slice s1 t.stack.length d1, .int .i64 t.code] ib op a := by
    refine ⟨HPB.out.below hb5 HPB.out.lt, HTB.out.below hb5 HTB.out.lt, HR0.out.below hb5 HR0.out.lt, HR1.out.below hb5 HR1.out.lt, by rw [hW5, hib]; exact Blk.new _ _ _, by rw [hib]; have := hb1.size; have := HZ4.out; omega, HB4.out.trans (hb5.mono HB4.out.size)⟩
  have hz5 : W5.heap.size = ib + 1 := by rw [hW5, hib]; simp
  have HR5 := Lib.hid hR0; have HW5 := Lib.hid hW5; have HIB := Lib.hid hib; have HB5 := Lib.hid hb5; have HZ5 := Lib.hid hz5
  clear hal hb1 hR0 hW5 hib hb5 hz5 p0 p1 p2 p3 p4 p5 p6 t0 t1 t2 t3 t4 HPB HTB HR0 HR1 HFE
  go_upto_region 4 with fail
  rw [← HW5.out, ← HIB.out]
  clear HW5 HIB
  have KS : Hid (∀ X, Below W5.heap.size W5 X → X.cell? ⟨w.heap.size + 1, 0, none⟩ = some (.int .i64 t.state) ∧ X.cell? ⟨w.heap.size + 1, 1, none⟩ = some (.int .i64 t.on) ∧ X.cell? ⟨w.heap.size + 1, 2, none⟩ = some (.slice (some ⟨bA, oA, none⟩) (k + 1) c1) ∧ X.cell? ⟨w.heap.size + 1, 3, none⟩ = some (.slice s1 t.stack.length d1) ∧ X.cell? ⟨w.heap.size + 1, 4, none⟩ = some (.int .i64 t.code) ∧ X.cell? ⟨bA, oA + k * 3 + 1, none⟩ = some (.int .i64 (c : Int))) := fun X hX => by
    have g := HR5.out.tb.below hX HR5.out.tb.lt
    exact ⟨(g.cell 0).trans rfl, (g.cell 1).trans rfl, (g.cell 2).trans rfl, (g.cell 3).trans rfl, (g.cell 4).trans rfl, HPC.out X (HB5.out.trans (hX.mono HB5.out.size))⟩
  have HC : Hid (∀ X, Below W5.heap.size W5 X → Calls Try.prog 35 #[.agg #[.int .i64 t.state, .int .i64 t.on, .slice (some ⟨bA, oA, none⟩) (k + 1) c1, .slice s1 t.stack.length d1, .int .i64 t.code], .int .i64 ((c : Int) + 1)] X fun e w' => ∃ h' : TH, e = .returned (.agg #[.int .i64 u0.state, .int .i64 u0.on, .slice h'.fA u0.frames.length h'.fc, .slice h'.sA u0.stack.length h'.sc, .int .i64 u0.code]) ∧ RT w' (fun i => (D i ∧ i < w.heap.size) ∨ X.heap.size ≤ i) h' u0 ∧ Below X.heap.size X w' ∧ Below W5.heap.size W5 w') := fun X hX =>
    (HJU.out X (HB5.out.trans (hX.mono HB5.out.size))).mono fun e w' ⟨h', h1, h2, h3⟩ => ⟨h', h1, h2, h3, hX.trans (h3.mono hX.size)⟩
  have iw : IntKind.i64.wrap (k : Int) = (k : Int) := IntWalk.i64_in _ (by omega)
  have iv : IntKind.i64.wrap ((c : Int) + 1) = (c : Int) + 1 := IntWalk.i64_in _ (by omega)
  obtain ⟨s0, s1', s2, s3, s4, s5⟩ := KS.out W5 (Below.refl _ _)
  clear HJU HPC
  go_cut [8] (fun s8 wx => ∃ (jb : Nat) (h2 : TH), s8 = .pointer (some ⟨jb, 0, none⟩) ∧ TD wx (fun i => (D i ∧ i < w.heap.size) ∨ (ib < i ∧ i ≠ jb)) jb h2 u0 ∧ ib < jb ∧ Below W5.heap.size W5 wx)
  case first =>
    go_region_held3 (fun w' => w'.cell? ⟨w.heap.size + 1, 0, none⟩ = some (.int .i64 t.state) ∧ w'.cell? ⟨w.heap.size + 1, 1, none⟩ = some (.int .i64 t.on) ∧ w'.cell? ⟨w.heap.size + 1, 2, none⟩ = some (.slice (some ⟨bA, oA, none⟩) (k + 1) c1) ∧ w'.cell? ⟨w.heap.size + 1, 3, none⟩ = some (.slice s1 t.stack.length d1) ∧ w'.cell? ⟨w.heap.size + 1, 4, none⟩ = some (.int .i64 t.code) ∧ w'.cell? ⟨bA, oA + k * 3 + 1, none⟩ = some (.int .i64 (c : Int)))
      (first | (with_reducible exact KS.out _ (by repeat (first | with_reducible assumption | with_reducible exact Below.refl _ _ | with_reducible exact H5.out | with_reducible refine Below.drew ?_ | with_reducible refine Below.setCell ?_ (by first | exact Nat.le_refl _ | exact h5.size | exact H5.out.size | omega) _ | with_reducible refine Below.alloc ?_ (by first | exact h5.size | exact H5.out.size | exact Nat.le_refl _ | omega) _))) | fail)
      (first
        | (go_simp; go_at_call 35; refine (HC.out _ (by repeat (first | with_reducible assumption | with_reducible exact Below.refl _ _ | with_reducible exact H5.out | with_reducible refine Below.drew ?_ | with_reducible refine Below.setCell ?_ (by first | exact Nat.le_refl _ | exact h5.size | exact H5.out.size | omega) _ | with_reducible refine Below.alloc ?_ (by first | exact h5.size | exact H5.out.size | exact Nat.le_refl _ | omega) _))).mono ?_; rintro e w5 ⟨⟨a2, c2, s2, d2⟩, rfl, hrt5, h4, h5⟩
           first
             | (have nb0 : Blk w5 W5.heap.size 29 #[.int .i64 0, .int .i64 0, .slice none 0 0, .slice none 0 0, .int .i64 0] := (Blk.drew (Blk.new W5 29 #[.int .i64 0, .int .i64 0, .slice none 0 0, .slice none 0 0, .int .i64 0])).below h4 (by simp)
                have n0 : w5.cell? ⟨W5.heap.size, 0, none⟩ = some (.int .i64 0) := (nb0.cell 0).trans rfl
                have m0 : w5.frozen? ⟨W5.heap.size, 0, none⟩ = false := nb0.frozen 0
                have n1 : w5.cell? ⟨W5.heap.size, 1, none⟩ = some (.int .i64 0) := (nb0.cell 1).trans rfl
                have m1 : w5.frozen? ⟨W5.heap.size, 1, none⟩ = false := nb0.frozen 1
                have n2 : w5.cell? ⟨W5.heap.size, 2, none⟩ = some (.slice none 0 0) := (nb0.cell 2).trans rfl
                have m2 : w5.frozen? ⟨W5.heap.size, 2, none⟩ = false := nb0.frozen 2
                have n3 : w5.cell? ⟨W5.heap.size, 3, none⟩ = some (.slice none 0 0) := (nb0.cell 3).trans rfl
                have m3 : w5.frozen? ⟨W5.heap.size, 3, none⟩ = false := nb0.frozen 3
                have n4 : w5.cell? ⟨W5.heap.size, 4, none⟩ = some (.int .i64 0) := (nb0.cell 4).trans rfl
                have m4 : w5.frozen? ⟨W5.heap.size, 4, none⟩ = false := nb0.frozen 4
                have hzz : W5.heap.size < w5.heap.size := nb0.lt
                have H5 := Lib.hid h5; have H4 := Lib.hid h4; have HRT5 := Lib.hid hrt5
                clear nb0 h5 h4 hrt5)
             | (have H5 := Lib.hid h5; have H4 := Lib.hid h4; have HRT5 := Lib.hid hrt5
                clear h5 h4 hrt5)))
    all_goals
      go_wp2_with fail
      go_meet
      have h5 := H5.out
      have h4 := H4.out
      have hrt5 := HRT5.out
      have hs5 := h5.size
      have hz5 := HZ5.out
      have hlib := HR5.out.lt
      have hdd := HD.out
      first
        | (have htd := TD.new (hrt5.mono (E := fun i => (D i ∧ i < w.heap.size) ∨ (ib < i ∧ i ≠ w5.heap.size)) (fun i hi hlt => by rcases hi with hi | hi; exact .inl hi; exact .inr ⟨by simp at hi; omega, by omega⟩))
           simp only at htd
           with_reducible refine ⟨_, ⟨a2, c2, s2, d2⟩, rfl, htd, ?_, h5.alloc h5.size _⟩
           omega)
        | (have hp := TD.put (w1 := (W5.alloc (.cells #[.int .i64 0, .int .i64 0, .slice none 0 0, .slice none 0 0, .int .i64 0] 29)).drew) (b := W5.heap.size) hrt5 (fun i hi e => by simp at hi; have := hdd i; omega) (Blk.drew (Blk.new W5 29 #[.int .i64 0, .int .i64 0, .slice none 0 0, .slice none 0 0, .int .i64 0])) h4
           have hfr := (Fr.refl (fun i => i = W5.heap.size) w5).set5 (g := W5.heap.size) (.inl rfl) (.int .i64 u0.state) (.int .i64 u0.on) (.slice a2 u0.frames.length c2) (.slice s2 u0.stack.length d2) (.int .i64 u0.code)
           have hq := h5.trans (hfr.below h5.size (fun i hi => by omega))
           have hp2 := hp.mono (E := fun i => (D i ∧ i < w.heap.size) ∨ (ib < i ∧ i ≠ W5.heap.size)) (fun i hi _ => by rcases hi with hi | hi; exact .inl hi; exact .inr (by simp at hi; omega))
           simp only at hp2
           with_reducible exact ⟨_, ⟨a2, c2, s2, d2⟩, rfl, hp2, (by omega), hq⟩)
  case rest =>
  obtain ⟨jb, hj, rfl, htd, hjl, hbw⟩ := hcut
  have hR6 := HR5.out.below hbw
  have hlj := HR5.out.lt
  have hRJ : RJ w wc D jb (.slice none 0 0) hj u0 := ⟨htd.tb, htd.rt.mono (fun i hi _ => by rcases hi with hi | hi; exact .inl hi; exact .inr ⟨by omega, hi.2, by simp [Value.ownBlock]⟩), HLU.out⟩
  have hus : u0.stack = t.stack := HUS.out
  have hnd := needsV_nat op
  obtain ⟨nd, hnd, hnd2⟩ := hnd
  have hop26 : 0 ≤ op ∧ op ≤ 26 := HOK.out.1
  have hneed := fun W => refNeeds_any op W hop26
  have hkind := fun W => refKind_any op W hop26
  rw [hnd] at hneed
  have s3 : wc.cell? ⟨w.heap.size + 1, 3, none⟩ = some (.slice s1 t.stack.length d1) := (hR6.tb.cell 3).trans rfl
  have s6 := (hR6.ibk.cell 0).trans rfl
  have HR6 := Lib.hid hR6; have HRJ := Lib.hid hRJ; have HNEED := Lib.hid hneed; have HKIND := Lib.hid hkind; have HND := Lib.hid hnd; have HUST := Lib.hid hus; have HOP := Lib.hid hop26
  clear hR6 hRJ htd hbw hneed hkind hnd hus hop26 HC KS HB5 HR5 s0 s1' s2 s4 s5 iw iv
  by_cases hun : t.stack.length < nd
  · have hun' : (t.stack.length : Int) < (nd : Int) := by omega
    have hv := HSV.out
    rw [deedV_under HOP.out (by rw [HUST.out, HND.out]; exact hun')] at hv
    injection hv with hv1 hv2
    subst hv1 hv2
    go_upto_region 5 with fail
    go_quiet (first | (go_at_call 36; exact Calls.quiet_of_same (HNEED.out _)))
    go_wp2_with fail
    refine (refEnds_any 1 _).mono ?_
    rintro e w9 ⟨rfl, hb9⟩
    have g9 := (HR6.out.below (below_drews (Below.refl _ _) nq)).below hb9
    have r0 := (g9.r0.cell 0).trans rfl
    have y0 := g9.r0.frozen 0
    have r1 := (g9.r0.cell 1).trans rfl
    have y1 := g9.r0.frozen 1
    have r2 := (g9.r0.cell 2).trans rfl
    have y2 := g9.r0.frozen 2
    have r3 := (g9.r0.cell 3).trans rfl
    have y3 := g9.r0.frozen 3
    have r4 := (g9.r0.cell 4).trans rfl
    have y4 := g9.r0.frozen 4
    have v0 := (g9.r1.cell 0).trans rfl
    have z0 := g9.r1.frozen 0
    have v1 := (g9.r1.cell 1).trans rfl
    have z1 := g9.r1.frozen 1
    have v2 := (g9.r1.cell 2).trans rfl
    have z2 := g9.r1.frozen 2
    have G9 := Lib.hid g9
    clear g9 hb9 s3 s6
    go_wp2_with fail
    obtain ⟨k0, k1, k2, k3⟩ := G9.out.fin (D := D) (hx := ⟨none, 0, none, 0⟩) (x := (deadT 1)) ⟨1, 0, 1⟩ (dead_rt 1 _) (fun i h => absurd h id) rfl
    refine bodyPost_ret (v := .tuple #[.agg #[.int .i64 9, .int .i64 0, .slice none 0 0, .slice none 0 0, .int .i64 1], .agg #[.int .i64 1, .int .i64 0, .int .i64 1]]) (results_cells2 rfl _ _ (w.heap.size + 1 + 1) (w.heap.size + 1 + 1 + 1) 29 37 _ _ (0, 0) (0, 0) _ _ rfl rfl k0 k1 Try.underlying29 rfl (by kernel_rfl) Try.underlying37 rfl (by kernel_rfl)) rfl ?_
    exact ⟨⟨none, 0, none, 0⟩, rfl, k2, k3⟩
  · have hun' : decide ((t.stack.length : Int) < (nd : Int)) = false := decide_eq_false (by omega)
    go_upto_region 5 with fail
    go_quiet (first | (go_at_call 36; exact Calls.quiet_of_same (HNEED.out _)))
    have hb7 := below_drews (Below.refl wc.heap.size wc) nq
    have hR7 := HR6.out.below hb7
    have hJ7 : RJ w (wc.drewN nq) D jb (.slice none 0 0) hj u0 := HRJ.out.below hb7
    obtain ⟨W7, hW7⟩ : ∃ W, W = wc.drewN nq := ⟨_, rfl⟩
    rw [← hW7] at hR7 hJ7 ⊢
    have HR7 := Lib.hid hR7; have HJ7 := Lib.hid hJ7
    clear hW7 hb7 hR7 hJ7 s3 s6 HR6 HRJ hun'
    obtain ⟨i0, hi0, hz0, hz1, hz2⟩ := info_parts info_int
    go_wp2_with fail
    go_loopw [9, 10] (fun s9 s10 wr => ∃ (kk : Nat) (lA : Option Addr) (lc : Nat) (hu : TH), kk ≤ nd ∧ s9 = .slice lA kk lc ∧ s10 = .int .i64 (kk : Int) ∧ R0 w wr h p #[.int .i64 t.state, .int .i64 t.on, .slice (some ⟨bA, oA, none⟩) (k + 1) c1, .slice s1 t.stack.length d1, .int .i64 t.code] ib op a ∧ RJ w wr D jb (.slice lA kk lc) hu (popsT kk u0) ∧ wr.ownsRow (ib + 1) 3 1 (.slice lA kk lc) kk (IS (topsT kk u0))) (fun _ s10 _ => nd - (intOf s10).toNat)
    case atStart => exact ⟨0, none, 0, hj, by omega, rfl, rfl, HR7.out, HJ7.out, World.ownsRow_nil _ _ _ _⟩
    case round =>
      obtain ⟨kk, lA, lc, hu, hkk, rfl, rfl, hR, hJ, hl⟩ := hrel
      have g6 := (hR.ibk.cell 0).trans rfl
      have HR8 := Lib.hid hR; have HJ8 := Lib.hid hJ; have HL8 := Lib.hid hl
      by_cases hlt : kk < nd
      · have hlti : (kk : Int) < (nd : Int) := by omega
        have hps := popsT_stack kk u0
        rw [HUST.out] at hps
        have hpo := refPop_all hu (popsT kk u0) wr _ hJ.rt hJ.len (by have := HDOK.out.st; rw [HUST.out] at this; omega) (popsT (kk + 1) u0) (by rw [if_pos (by omega)]; rfl)
        rw [decide_eq_true (by omega)] at hpo
        have b0 := (hJ.bx.cell 0).trans rfl
        have b1 := (hJ.bx.cell 1).trans rfl
        have b2 := (hJ.bx.cell 2).trans rfl
        have b3 := (hJ.bx.cell 3).trans rfl
        have b4 := (hJ.bx.cell 4).trans rfl
        have hln : LensT (popsT (kk + 1) u0) := popsT_lens (kk + 1) HLU.out
        have htv : topsT (kk + 1) u0 = topsT kk u0 ++ [topT (popsT kk u0)] := topsT_succ kk u0
        obtain ⟨tv, htv2⟩ : ∃ v, topT (popsT kk u0) = v := ⟨_, rfl⟩
        rw [htv2] at hpo htv
        obtain ⟨un, hun2⟩ : ∃ u, popsT (kk + 1) u0 = u := ⟨_, rfl⟩
        rw [hun2] at hpo hln
        generalize popsT kk u0 = uc at *
        have HPO := Lib.hid hpo; have HLN := Lib.hid hln; have HTV := Lib.hid htv; have HUN := Lib.hid hun2
        have hbl := hR.bel.size
        have hzl := HR8.out.ibk.lt
        have hjbl := hJ.bx.lt
        clear hR hJ hl hps hpo hln htv htv2 hun2
        go_wp2_with fail
        refine (HNEED.out _).mono ?_
        rintro e wq ⟨rfl, rfl⟩
        go_wp2_with fail
        refine HPO.out.mono ?_
        rintro e w6 ⟨⟨a6, c6', s6', d6⟩, rfl, hr6, hb6⟩
        try simp only at hr6
        have hR9 := HR8.out.below hb6
        have hal : Below w6.heap.size w6 (w6.alloc (.cells #[.int .i64 un.state, .int .i64 un.on, .slice a6 un.frames.length c6', .slice s6' un.stack.length d6, .int .i64 un.code] 29)) := (Below.refl _ _).alloc (Nat.le_refl _) _
        have hsz6 := hb6.size
        obtain ⟨W8, hW8⟩ : ∃ W, W = w6.alloc (.cells #[.int .i64 un.state, .int .i64 un.on, .slice a6 un.frames.length c6', .slice s6' un.stack.length d6, .int .i64 un.code] 29) := ⟨_, rfl⟩
        obtain ⟨mb, hmb⟩ : ∃ b, b = w6.heap.size := ⟨_, rfl⟩
        have hmk : Blk W8 mb 29 #[.int .i64 un.state, .int .i64 un.on, .slice a6 un.frames.length c6', .slice s6' un.stack.length d6, .int .i64 un.code] := by rw [hW8, hmb]; exact Blk.new _ _ _
        have hb8 : Below wq.heap.size wq W8 := by rw [hW8]; exact hb6.alloc hb6.size _
        have hr8 : RT W8 (fun i => (D i ∧ i < w.heap.size) ∨ (w.heap.size + 1 + 1 + 1 < i ∧ i ≠ jb ∧ (Value.slice lA kk lc).ownBlock ≠ some i)) ⟨a6, c6', s6', d6⟩ un := by
          rw [hW8]
          refine RT.alloc (hr6.mono (fun i hi _ => ?_)) _
          rcases hi with hi | hi
          · exact hi
          · exact .inr ⟨by have := HR8.out.lt; omega, by omega, fun e => by have := (HL8.out.lt i e).2; omega⟩
        have hl8 := (Fr.of_below hb8).own HL8.out (fun i hi e => by have := (HL8.out.lt i hi).2; omega)
        have hR9 := HR8.out.below hb8
        have hj9 := HJ8.out.bx.below hb8 HJ8.out.bx.lt
        have hmj : mb ≠ jb := by rw [hmb]; omega
        have HW8 := Lib.hid hW8; have HMB := Lib.hid hmb; have HMK := Lib.hid hmk; have HRT8 := Lib.hid hr8; have HL9 := Lib.hid hl8; have HR9 := Lib.hid hR9; have HJ9 := Lib.hid hj9
        have hzl8 := hR9.ibk.lt
        have hmb8 := hmk.lt
        clear hr6 hb6 hR9 hal hW8 hmb hmk hb8 hr8 hl8 hj9 HPO b0 b1 b2 b3 b4 g6 hbl hzl hjbl hsz6
        go_upto_region 12 with fail
        rw [← HW8.out, ← HMB.out]
        clear HW8 HMB
        have m0 := (HMK.out.cell 0).trans rfl
        have m1 := (HMK.out.cell 1).trans rfl
        have m2 := (HMK.out.cell 2).trans rfl
        have m3 := (HMK.out.cell 3).trans rfl
        have m4 := (HMK.out.cell 4).trans rfl
        have j0 := (HJ9.out.cell 0).trans rfl
        have k0 := HJ9.out.frozen 0
        have j1 := (HJ9.out.cell 1).trans rfl
        have k1 := HJ9.out.frozen 1
        have j2 := (HJ9.out.cell 2).trans rfl
        have k2 := HJ9.out.frozen 2
        have j3 := (HJ9.out.cell 3).trans rfl
        have k3 := HJ9.out.frozen 3
        have j4 := (HJ9.out.cell 4).trans rfl
        have k4 := HJ9.out.frozen 4
        have hmj2 := Ne.symm hmj
        go_upto_region 13 with fail
        obtain ⟨W9, hW9⟩ : ∃ W, W = ((((W8.setCell ⟨jb, 0, none⟩ (.int .i64 un.state)).setCell ⟨jb, 1, none⟩ (.int .i64 un.on)).setCell ⟨jb, 2, none⟩ (.slice a6 un.frames.length c6')).setCell ⟨jb, 3, none⟩ (.slice s6' un.stack.length d6)).setCell ⟨jb, 4, none⟩ (.int .i64 un.code) := ⟨_, rfl⟩
        have hf9 : Fr (fun i => i = jb) W8 W9 := by rw [hW9]; exact (Fr.refl (fun i => i = jb) W8).set5 (g := jb) (.inl rfl) _ _ _ _ _
        have hb9 : Blk W9 jb 29 #[.int .i64 un.state, .int .i64 un.on, .slice a6 un.frames.length c6', .slice s6' un.stack.length d6, .int .i64 un.code] := by rw [hW9]; exact Blk.set5 HJ9.out _ _ _ _ _
        rw [← hW9]
        have hR10 := HR9.out.fr hf9 (fun i e => ⟨by have := HR9.out.lt; omega, by omega⟩)
        have hl10 := hf9.own HL9.out (fun i hi e => own_blk_ne HL9.out HJ9.out (by decide) (by rw [hi, e]))
        have hr10 := HRT8.out.keep fun y hy hl => hf9.cell hl (fun e => by have := HR9.out.lt; rcases hy with hy | hy <;> omega)
        have hz9 := hf9.size
        have hla := hl10.alloc (.cells #[.int .i64 tv] 3)
        have HR10 := Lib.hid hR10; have HL10 := Lib.hid hl10; have HLA := Lib.hid hla; have HRT := Lib.hid hr10; have HB9 := Lib.hid hb9
        clear m0 j0 k0 m1 j1 k1 m2 j2 k2 m3 j3 k3 m4 j4 k4 hf9 hW9 hR10 hl10 hla hr10 hb9 HR9 HL9 HJ9 HRT8 HMK
        go_wp2_with (at_builtin; go_must (refine wpList_append_any _ rfl (.tmp 68) (.tmp 70) _ rfl (ib + 1) 3 i0 _ 1 8 Try.underlying23 hi0 hz0 hz1 hz2 rfl (by decide) (.slice lA kk lc) _ _ rfl HLA.out (W9.heap.size + 1) (some ⟨W9.heap.size, 0, none⟩) 1 1 [.int .i64 tv] rfl ?c0 ?c3 ?c1 ?c2 (by simp; omega) ?k))
        case c0 => exact ⟨rfl, fun _ => ⟨_, rfl, by simp, fun j u hj => by
          match j, hj with
          | 0, hj => simp at hj; subst hj; simp [Addr.add]⟩⟩
        case c3 => first | rfl | (intro u hu; have e := List.mem_singleton.1 hu; subst e; rfl)
        case c1 => unfold maxLen; omega
        case c2 => omega
        case k =>
        intro v' w10 hown hg10 hat
        obtain ⟨A8, c8, rfl, _, _⟩ := own_slice hown
        have hal : Below W9.heap.size W9 (W9.alloc (.cells #[.int .i64 tv] 3)) := (Below.refl _ _).alloc (Nat.le_refl _) _
        have hf10 := Fr.of_grown hg10
        have hR11 := (HR10.out.below hal).fr hf10 (fun i e => ⟨by have := (HLA.out.lt i e).1; have := HR10.out.lt; omega, by have := (HLA.out.lt i e).1; omega⟩)
        have hb11 := hf10.blk (HB9.out.below hal HB9.out.lt) (own_blk_ne HLA.out (HB9.out.below hal HB9.out.lt) (by decide))
        have hr11 : RT w10 (fun i => (D i ∧ i < w.heap.size) ∨ (w.heap.size + 1 + 1 + 1 < i ∧ i ≠ jb ∧ (Value.slice A8 (kk + 1) c8).ownBlock ≠ some i)) ⟨a6, c6', s6', d6⟩ un := by
          have h1 := HRT.out.mono (E := fun i => ((D i ∧ i < w.heap.size) ∨ (w.heap.size + 1 + 1 + 1 < i ∧ i ≠ jb ∧ (Value.slice lA kk lc).ownBlock ≠ some i)) ∧ i < W9.heap.size) (fun i hi hl => ⟨hi, hl⟩)
          refine ((h1.below hal).keep (fun y hy hl => hf10.cell hl (fun e => ?_))).mono (fun i hi _ => ?_)
          · rcases hy.1 with h | h
            · have := (HLA.out.lt _ e).1; have := HR10.out.lt; omega
            · exact h.2.2 e
          · rcases hi.1 with h | h
            · exact .inl h
            · refine .inr ⟨h.1, h.2.1, fun e => ?_⟩
              have e' : (Value.slice A8 (kk + 1) c8).ownBlock = some i := by simpa [Value.ownBlock] using e
              rcases hat with h2 | h2
              · exact h.2.2 (by rw [← h2]; exact e')
              · rw [h2] at e'; simp at e'; omega
        have ho11 : w10.ownsRow (ib + 1) 3 1 (.slice A8 (kk + 1) c8) (kk + 1) (IS (topsT (kk + 1) u0)) := by
          rw [HTV.out]
          have e : IS (topsT kk u0 ++ [tv]) = IS (topsT kk u0) ++ [.int .i64 tv] := by simp [IS]
          rw [e]
          exact hown
        have H1 := Lib.hid hR11; have H2 := Lib.hid hb11; have H3 := Lib.hid hr11; have H4 := Lib.hid ho11
        clear hown hg10 hat hal hf10 hR11 hb11 hr11 ho11
        go_wp2_with fail
        refine ⟨⟨kk + 1, A8, c8, ⟨a6, c6', s6', d6⟩, by omega, rfl, by go_num, H1.out, ?_, H4.out⟩, by simp [intOf]; omega⟩
        rw [HUN.out]
        exact ⟨H2.out, H3.out, HLN.out⟩
      · have hkn : kk = nd := by omega
        subst hkn
        have hlti : decide ((kk : Int) < (kk : Int)) = false := decide_eq_false (by omega)
        go_wp2_with fail
        refine (HNEED.out _).mono ?_
        rintro e wq ⟨rfl, rfl⟩
        go_wp2_with fail
        refine (HKIND.out _).mono ?_
        rintro e wk ⟨rfl, rfl⟩
        have hlk := HR8.out.lt
        clear hlti g6
        rcases HOPS.out with rfl | rfl | rfl | rfl | rfl | rfl | rfl
        · have hkk : kk = 0 := by have h := HND.out; simp [needsV] at h; omega
          subst hkk
          have hJ : RJ w wk D jb (.slice lA 0 lc) hu u0 := HJ8.out
          have HJ := Lib.hid hJ
          have b5 := HJ.out.bx.lt
          have b0 := (hJ.bx.cell 0).trans rfl
          have b1 := (hJ.bx.cell 1).trans rfl
          have b2 := (hJ.bx.cell 2).trans rfl
          have b3 := (hJ.bx.cell 3).trans rfl
          have b4 := (hJ.bx.cell 4).trans rfl
          have i1 := (HR8.out.ibk.cell 1).trans rfl
          have i0 := (HR8.out.ibk.cell 0).trans rfl
          have r0 := (HR8.out.r0.cell 0).trans rfl
          have y0 := HR8.out.r0.frozen 0
          have r1 := (HR8.out.r0.cell 1).trans rfl
          have y1 := HR8.out.r0.frozen 1
          have r2 := (HR8.out.r0.cell 2).trans rfl
          have y2 := HR8.out.r0.frozen 2
          have r3 := (HR8.out.r0.cell 3).trans rfl
          have y3 := HR8.out.r0.frozen 3
          have r4 := (HR8.out.r0.cell 4).trans rfl
          have y4 := HR8.out.r0.frozen 4
          have v0 := (HR8.out.r1.cell 0).trans rfl
          have z0 := HR8.out.r1.frozen 0
          have v1 := (HR8.out.r1.cell 1).trans rfl
          have z1 := HR8.out.r1.frozen 1
          have v2 := (HR8.out.r1.cell 2).trans rfl
          have z2 := HR8.out.r1.frozen 2
          have n0 : jb ≠ w.heap.size + 1 + 1 := by omega
          have n1 : jb ≠ w.heap.size + 1 + 1 + 1 := by omega
          have n2 := Ne.symm n0
          have n3 := Ne.symm n1
          have n4 : ib ≠ w.heap.size + 1 + 1 := by omega
          have n5 : ib ≠ w.heap.size + 1 + 1 + 1 := by omega
          have n6 := Ne.symm n4
          have n7 := Ne.symm n5
          have n8 : w.heap.size + 1 + 1 ≠ w.heap.size + 1 + 1 + 1 := by omega
          have n9 := Ne.symm n8
          clear hJ
          have hv := HSV.out
          rw [deedV_ask p u0 19 a (by decide)] at hv
          injection hv with hv1 hv2
          have hv1 := hv1.symm
          subst hv1 hv2
          go_upto_region 18 with fail
          go_region
          all_goals
            go_wp2_with fail
            obtain ⟨k0, k1, k2, k3⟩ := HR8.out.fin (D := D) (hx := hu) (x := u0) ⟨kindV 19, a, 0⟩ HJ.out.rt (fun i h _ => by rcases h with h | h; exact .inl h; exact .inr h.1) rfl
            refine bodyPost_ret (v := .tuple #[.agg #[.int .i64 u0.state, .int .i64 u0.on, .slice hu.fA u0.frames.length hu.fc, .slice hu.sA u0.stack.length hu.sc, .int .i64 u0.code], .agg #[.int .i64 (kindV 19), .int .i64 a, .int .i64 0]]) (results_cells2 rfl _ _ (w.heap.size + 1 + 1) (w.heap.size + 1 + 1 + 1) 29 37 _ _ (0, 0) (0, 0) _ _ rfl rfl k0.drew k1.drew Try.underlying29 rfl (by kernel_rfl) Try.underlying37 rfl (by kernel_rfl)) rfl ?_
            exact ⟨hu, rfl, k2.below (Below.refl _ _).drew, k3.drew⟩
        · have hkk : kk = 0 := by have h := HND.out; simp [needsV] at h; omega
          subst hkk
          have hJ : RJ w wk D jb (.slice lA 0 lc) hu u0 := HJ8.out
          have HJ := Lib.hid hJ
          have b5 := HJ.out.bx.lt
          have b0 := (hJ.bx.cell 0).trans rfl
          have b1 := (hJ.bx.cell 1).trans rfl
          have b2 := (hJ.bx.cell 2).trans rfl
          have b3 := (hJ.bx.cell 3).trans rfl
          have b4 := (hJ.bx.cell 4).trans rfl
          have i1 := (HR8.out.ibk.cell 1).trans rfl
          have i0 := (HR8.out.ibk.cell 0).trans rfl
          have r0 := (HR8.out.r0.cell 0).trans rfl
          have y0 := HR8.out.r0.frozen 0
          have r1 := (HR8.out.r0.cell 1).trans rfl
          have y1 := HR8.out.r0.frozen 1
          have r2 := (HR8.out.r0.cell 2).trans rfl
          have y2 := HR8.out.r0.frozen 2
          have r3 := (HR8.out.r0.cell 3).trans rfl
          have y3 := HR8.out.r0.frozen 3
          have r4 := (HR8.out.r0.cell 4).trans rfl
          have y4 := HR8.out.r0.frozen 4
          have v0 := (HR8.out.r1.cell 0).trans rfl
          have z0 := HR8.out.r1.frozen 0
          have v1 := (HR8.out.r1.cell 1).trans rfl
          have z1 := HR8.out.r1.frozen 1
          have v2 := (HR8.out.r1.cell 2).trans rfl
          have z2 := HR8.out.r1.frozen 2
          have n0 : jb ≠ w.heap.size + 1 + 1 := by omega
          have n1 : jb ≠ w.heap.size + 1 + 1 + 1 := by omega
          have n2 := Ne.symm n0
          have n3 := Ne.symm n1
          have n4 : ib ≠ w.heap.size + 1 + 1 := by omega
          have n5 : ib ≠ w.heap.size + 1 + 1 + 1 := by omega
          have n6 := Ne.symm n4
          have n7 := Ne.symm n5
          have n8 : w.heap.size + 1 + 1 ≠ w.heap.size + 1 + 1 + 1 := by omega
          have n9 := Ne.symm n8
          clear hJ
          have hv := HSV.out
          rw [deedV_ask p u0 20 a (by decide)] at hv
          injection hv with hv1 hv2
          have hv1 := hv1.symm
          subst hv1 hv2
          go_upto_region 18 with fail
          go_region
          all_goals
            go_wp2_with fail
            obtain ⟨k0, k1, k2, k3⟩ := HR8.out.fin (D := D) (hx := hu) (x := u0) ⟨kindV 20, a, 0⟩ HJ.out.rt (fun i h _ => by rcases h with h | h; exact .inl h; exact .inr h.1) rfl
            refine bodyPost_ret (v := .tuple #[.agg #[.int .i64 u0.state, .int .i64 u0.on, .slice hu.fA u0.frames.length hu.fc, .slice hu.sA u0.stack.length hu.sc, .int .i64 u0.code], .agg #[.int .i64 (kindV 20), .int .i64 a, .int .i64 0]]) (results_cells2 rfl _ _ (w.heap.size + 1 + 1) (w.heap.size + 1 + 1 + 1) 29 37 _ _ (0, 0) (0, 0) _ _ rfl rfl k0.drew k1.drew Try.underlying29 rfl (by kernel_rfl) Try.underlying37 rfl (by kernel_rfl)) rfl ?_
            exact ⟨hu, rfl, k2.below (Below.refl _ _).drew, k3.drew⟩
        · have hkk : kk = 0 := by have h := HND.out; simp [needsV] at h; omega
          subst hkk
          have hJ : RJ w wk D jb (.slice lA 0 lc) hu u0 := HJ8.out
          have HJ := Lib.hid hJ
          have b5 := HJ.out.bx.lt
          have b0 := (hJ.bx.cell 0).trans rfl
          have b1 := (hJ.bx.cell 1).trans rfl
          have b2 := (hJ.bx.cell 2).trans rfl
          have b3 := (hJ.bx.cell 3).trans rfl
          have b4 := (hJ.bx.cell 4).trans rfl
          have i1 := (HR8.out.ibk.cell 1).trans rfl
          have i0 := (HR8.out.ibk.cell 0).trans rfl
          have r0 := (HR8.out.r0.cell 0).trans rfl
          have y0 := HR8.out.r0.frozen 0
          have r1 := (HR8.out.r0.cell 1).trans rfl
          have y1 := HR8.out.r0.frozen 1
          have r2 := (HR8.out.r0.cell 2).trans rfl
          have y2 := HR8.out.r0.frozen 2
          have r3 := (HR8.out.r0.cell 3).trans rfl
          have y3 := HR8.out.r0.frozen 3
          have r4 := (HR8.out.r0.cell 4).trans rfl
          have y4 := HR8.out.r0.frozen 4
          have v0 := (HR8.out.r1.cell 0).trans rfl
          have z0 := HR8.out.r1.frozen 0
          have v1 := (HR8.out.r1.cell 1).trans rfl
          have z1 := HR8.out.r1.frozen 1
          have v2 := (HR8.out.r1.cell 2).trans rfl
          have z2 := HR8.out.r1.frozen 2
          have n0 : jb ≠ w.heap.size + 1 + 1 := by omega
          have n1 : jb ≠ w.heap.size + 1 + 1 + 1 := by omega
          have n2 := Ne.symm n0
          have n3 := Ne.symm n1
          have n4 : ib ≠ w.heap.size + 1 + 1 := by omega
          have n5 : ib ≠ w.heap.size + 1 + 1 + 1 := by omega
          have n6 := Ne.symm n4
          have n7 := Ne.symm n5
          have n8 : w.heap.size + 1 + 1 ≠ w.heap.size + 1 + 1 + 1 := by omega
          have n9 := Ne.symm n8
          clear hJ
          have hv := HSV.out
          rw [deedV_ask p u0 21 a (by decide)] at hv
          injection hv with hv1 hv2
          have hv1 := hv1.symm
          subst hv1 hv2
          go_upto_region 18 with fail
          go_region
          all_goals
            go_wp2_with fail
            obtain ⟨k0, k1, k2, k3⟩ := HR8.out.fin (D := D) (hx := hu) (x := u0) ⟨kindV 21, a, 0⟩ HJ.out.rt (fun i h _ => by rcases h with h | h; exact .inl h; exact .inr h.1) rfl
            refine bodyPost_ret (v := .tuple #[.agg #[.int .i64 u0.state, .int .i64 u0.on, .slice hu.fA u0.frames.length hu.fc, .slice hu.sA u0.stack.length hu.sc, .int .i64 u0.code], .agg #[.int .i64 (kindV 21), .int .i64 a, .int .i64 0]]) (results_cells2 rfl _ _ (w.heap.size + 1 + 1) (w.heap.size + 1 + 1 + 1) 29 37 _ _ (0, 0) (0, 0) _ _ rfl rfl k0.drew k1.drew Try.underlying29 rfl (by kernel_rfl) Try.underlying37 rfl (by kernel_rfl)) rfl ?_
            exact ⟨hu, rfl, k2.below (Below.refl _ _).drew, k3.drew⟩
        · have hkk : kk = 1 := by have h := HND.out; simp [needsV] at h; omega
          subst hkk
          have hJ : RJ w wk D jb (.slice lA 1 lc) hu (popT u0) := HJ8.out
          have HJ := Lib.hid hJ
          have hl : wk.ownsRow (ib + 1) 3 1 (.slice lA 1 lc) 1 (IS [topT u0]) := HL8.out
          obtain ⟨lb, lcap, hv, hlbb, hlbz⟩ := hl.form (by omega)
          injection hv with hv1 _ hv2
          subst hv1 hv2
          have l0 : wk.cell? ⟨lb, 0, none⟩ = some (.int .i64 (topT u0)) := (hl.cellAt 0 (by omega)).trans rfl
          have HL := Lib.hid hl
          clear hl hlbb hlbz
          have b5 := HJ.out.bx.lt
          have b0 := (hJ.bx.cell 0).trans rfl
          have b1 := (hJ.bx.cell 1).trans rfl
          have b2 := (hJ.bx.cell 2).trans rfl
          have b3 := (hJ.bx.cell 3).trans rfl
          have b4 := (hJ.bx.cell 4).trans rfl
          have i1 := (HR8.out.ibk.cell 1).trans rfl
          have i0 := (HR8.out.ibk.cell 0).trans rfl
          have r0 := (HR8.out.r0.cell 0).trans rfl
          have y0 := HR8.out.r0.frozen 0
          have r1 := (HR8.out.r0.cell 1).trans rfl
          have y1 := HR8.out.r0.frozen 1
          have r2 := (HR8.out.r0.cell 2).trans rfl
          have y2 := HR8.out.r0.frozen 2
          have r3 := (HR8.out.r0.cell 3).trans rfl
          have y3 := HR8.out.r0.frozen 3
          have r4 := (HR8.out.r0.cell 4).trans rfl
          have y4 := HR8.out.r0.frozen 4
          have v0 := (HR8.out.r1.cell 0).trans rfl
          have z0 := HR8.out.r1.frozen 0
          have v1 := (HR8.out.r1.cell 1).trans rfl
          have z1 := HR8.out.r1.frozen 1
          have v2 := (HR8.out.r1.cell 2).trans rfl
          have z2 := HR8.out.r1.frozen 2
          have n0 : jb ≠ w.heap.size + 1 + 1 := by omega
          have n1 : jb ≠ w.heap.size + 1 + 1 + 1 := by omega
          have n2 := Ne.symm n0
          have n3 := Ne.symm n1
          have n4 : ib ≠ w.heap.size + 1 + 1 := by omega
          have n5 : ib ≠ w.heap.size + 1 + 1 + 1 := by omega
          have n6 := Ne.symm n4
          have n7 := Ne.symm n5
          have n8 : w.heap.size + 1 + 1 ≠ w.heap.size + 1 + 1 + 1 := by omega
          have n9 := Ne.symm n8
          clear hJ
          have o0 : lb ≠ w.heap.size + 1 + 1 := by have := (HL.out.lt lb rfl).1; omega
          have o1 : lb ≠ w.heap.size + 1 + 1 + 1 := by have := (HL.out.lt lb rfl).1; omega
          have o2 := Ne.symm o0
          have o3 := Ne.symm o1
          have hv := HSV.out
          have hne : ¬ u0.stack = [] := fun e => by have h := HUST.out; rw [e] at h; rw [← h] at hun; simp at hun
          rw [deedV_askN p u0 22 a (by decide), popV, if_neg hne] at hv
          injection hv with hv1 hv2
          subst hv1 hv2
          clear hne
          go_upto_region 16 with fail
          go_region
          all_goals
            go_wp2_with fail
            obtain ⟨k0, k1, k2, k3⟩ := HR8.out.fin (D := D) (hx := hu) (x := (popT u0)) ⟨kindV 22, a, topT u0⟩ HJ.out.rt (fun i h _ => by rcases h with h | h; exact .inl h; exact .inr h.1) rfl
            refine bodyPost_ret (v := .tuple #[.agg #[.int .i64 (popT u0).state, .int .i64 (popT u0).on, .slice hu.fA (popT u0).frames.length hu.fc, .slice hu.sA (popT u0).stack.length hu.sc, .int .i64 (popT u0).code], .agg #[.int .i64 (kindV 22), .int .i64 a, .int .i64 (topT u0)]]) (results_cells2 rfl _ _ (w.heap.size + 1 + 1) (w.heap.size + 1 + 1 + 1) 29 37 _ _ (0, 0) (0, 0) _ _ rfl rfl k0.drew k1.drew Try.underlying29 rfl (by kernel_rfl) Try.underlying37 rfl (by kernel_rfl)) rfl ?_
            exact ⟨hu, rfl, k2.below (Below.refl _ _).drew, k3.drew⟩
        · have hkk : kk = 0 := by have h := HND.out; simp [needsV] at h; omega
          subst hkk
          have hJ : RJ w wk D jb (.slice lA 0 lc) hu u0 := HJ8.out
          have HJ := Lib.hid hJ
          have b5 := HJ.out.bx.lt
          have b0 := (hJ.bx.cell 0).trans rfl
          have b1 := (hJ.bx.cell 1).trans rfl
          have b2 := (hJ.bx.cell 2).trans rfl
          have b3 := (hJ.bx.cell 3).trans rfl
          have b4 := (hJ.bx.cell 4).trans rfl
          have i1 := (HR8.out.ibk.cell 1).trans rfl
          have i0 := (HR8.out.ibk.cell 0).trans rfl
          have r0 := (HR8.out.r0.cell 0).trans rfl
          have y0 := HR8.out.r0.frozen 0
          have r1 := (HR8.out.r0.cell 1).trans rfl
          have y1 := HR8.out.r0.frozen 1
          have r2 := (HR8.out.r0.cell 2).trans rfl
          have y2 := HR8.out.r0.frozen 2
          have r3 := (HR8.out.r0.cell 3).trans rfl
          have y3 := HR8.out.r0.frozen 3
          have r4 := (HR8.out.r0.cell 4).trans rfl
          have y4 := HR8.out.r0.frozen 4
          have v0 := (HR8.out.r1.cell 0).trans rfl
          have z0 := HR8.out.r1.frozen 0
          have v1 := (HR8.out.r1.cell 1).trans rfl
          have z1 := HR8.out.r1.frozen 1
          have v2 := (HR8.out.r1.cell 2).trans rfl
          have z2 := HR8.out.r1.frozen 2
          have n0 : jb ≠ w.heap.size + 1 + 1 := by omega
          have n1 : jb ≠ w.heap.size + 1 + 1 + 1 := by omega
          have n2 := Ne.symm n0
          have n3 := Ne.symm n1
          have n4 : ib ≠ w.heap.size + 1 + 1 := by omega
          have n5 : ib ≠ w.heap.size + 1 + 1 + 1 := by omega
          have n6 := Ne.symm n4
          have n7 := Ne.symm n5
          have n8 : w.heap.size + 1 + 1 ≠ w.heap.size + 1 + 1 + 1 := by omega
          have n9 := Ne.symm n8
          clear hJ
          have hv := HSV.out
          rw [deedV_ask p u0 23 a (by decide)] at hv
          injection hv with hv1 hv2
          have hv1 := hv1.symm
          subst hv1 hv2
          go_upto_region 18 with fail
          go_region
          all_goals
            go_wp2_with fail
            obtain ⟨k0, k1, k2, k3⟩ := HR8.out.fin (D := D) (hx := hu) (x := u0) ⟨kindV 23, a, 0⟩ HJ.out.rt (fun i h _ => by rcases h with h | h; exact .inl h; exact .inr h.1) rfl
            refine bodyPost_ret (v := .tuple #[.agg #[.int .i64 u0.state, .int .i64 u0.on, .slice hu.fA u0.frames.length hu.fc, .slice hu.sA u0.stack.length hu.sc, .int .i64 u0.code], .agg #[.int .i64 (kindV 23), .int .i64 a, .int .i64 0]]) (results_cells2 rfl _ _ (w.heap.size + 1 + 1) (w.heap.size + 1 + 1 + 1) 29 37 _ _ (0, 0) (0, 0) _ _ rfl rfl k0.drew k1.drew Try.underlying29 rfl (by kernel_rfl) Try.underlying37 rfl (by kernel_rfl)) rfl ?_
            exact ⟨hu, rfl, k2.below (Below.refl _ _).drew, k3.drew⟩
        · have hkk : kk = 0 := by have h := HND.out; simp [needsV] at h; omega
          subst hkk
          have hJ : RJ w wk D jb (.slice lA 0 lc) hu u0 := HJ8.out
          have HJ := Lib.hid hJ
          have b5 := HJ.out.bx.lt
          have b0 := (hJ.bx.cell 0).trans rfl
          have b1 := (hJ.bx.cell 1).trans rfl
          have b2 := (hJ.bx.cell 2).trans rfl
          have b3 := (hJ.bx.cell 3).trans rfl
          have b4 := (hJ.bx.cell 4).trans rfl
          have i1 := (HR8.out.ibk.cell 1).trans rfl
          have i0 := (HR8.out.ibk.cell 0).trans rfl
          have r0 := (HR8.out.r0.cell 0).trans rfl
          have y0 := HR8.out.r0.frozen 0
          have r1 := (HR8.out.r0.cell 1).trans rfl
          have y1 := HR8.out.r0.frozen 1
          have r2 := (HR8.out.r0.cell 2).trans rfl
          have y2 := HR8.out.r0.frozen 2
          have r3 := (HR8.out.r0.cell 3).trans rfl
          have y3 := HR8.out.r0.frozen 3
          have r4 := (HR8.out.r0.cell 4).trans rfl
          have y4 := HR8.out.r0.frozen 4
          have v0 := (HR8.out.r1.cell 0).trans rfl
          have z0 := HR8.out.r1.frozen 0
          have v1 := (HR8.out.r1.cell 1).trans rfl
          have z1 := HR8.out.r1.frozen 1
          have v2 := (HR8.out.r1.cell 2).trans rfl
          have z2 := HR8.out.r1.frozen 2
          have n0 : jb ≠ w.heap.size + 1 + 1 := by omega
          have n1 : jb ≠ w.heap.size + 1 + 1 + 1 := by omega
          have n2 := Ne.symm n0
          have n3 := Ne.symm n1
          have n4 : ib ≠ w.heap.size + 1 + 1 := by omega
          have n5 : ib ≠ w.heap.size + 1 + 1 + 1 := by omega
          have n6 := Ne.symm n4
          have n7 := Ne.symm n5
          have n8 : w.heap.size + 1 + 1 ≠ w.heap.size + 1 + 1 + 1 := by omega
          have n9 := Ne.symm n8
          clear hJ
          have hv := HSV.out
          rw [deedV_ask p u0 24 a (by decide)] at hv
          injection hv with hv1 hv2
          have hv1 := hv1.symm
          subst hv1 hv2
          go_upto_region 18 with fail
          go_region
          all_goals
            go_wp2_with fail
            obtain ⟨k0, k1, k2, k3⟩ := HR8.out.fin (D := D) (hx := hu) (x := u0) ⟨kindV 24, a, 0⟩ HJ.out.rt (fun i h _ => by rcases h with h | h; exact .inl h; exact .inr h.1) rfl
            refine bodyPost_ret (v := .tuple #[.agg #[.int .i64 u0.state, .int .i64 u0.on, .slice hu.fA u0.frames.length hu.fc, .slice hu.sA u0.stack.length hu.sc, .int .i64 u0.code], .agg #[.int .i64 (kindV 24), .int .i64 a, .int .i64 0]]) (results_cells2 rfl _ _ (w.heap.size + 1 + 1) (w.heap.size + 1 + 1 + 1) 29 37 _ _ (0, 0) (0, 0) _ _ rfl rfl k0.drew k1.drew Try.underlying29 rfl (by kernel_rfl) Try.underlying37 rfl (by kernel_rfl)) rfl ?_
            exact ⟨hu, rfl, k2.below (Below.refl _ _).drew, k3.drew⟩
        · have hkk : kk = 1 := by have h := HND.out; simp [needsV] at h; omega
          subst hkk
          have hJ : RJ w wk D jb (.slice lA 1 lc) hu (popT u0) := HJ8.out
          have HJ := Lib.hid hJ
          have hl : wk.ownsRow (ib + 1) 3 1 (.slice lA 1 lc) 1 (IS [topT u0]) := HL8.out
          obtain ⟨lb, lcap, hv, hlbb, hlbz⟩ := hl.form (by omega)
          injection hv with hv1 _ hv2
          subst hv1 hv2
          have l0 : wk.cell? ⟨lb, 0, none⟩ = some (.int .i64 (topT u0)) := (hl.cellAt 0 (by omega)).trans rfl
          have HL := Lib.hid hl
          clear hl hlbb hlbz
          have b5 := HJ.out.bx.lt
          have b0 := (hJ.bx.cell 0).trans rfl
          have b1 := (hJ.bx.cell 1).trans rfl
          have b2 := (hJ.bx.cell 2).trans rfl
          have b3 := (hJ.bx.cell 3).trans rfl
          have b4 := (hJ.bx.cell 4).trans rfl
          have i1 := (HR8.out.ibk.cell 1).trans rfl
          have i0 := (HR8.out.ibk.cell 0).trans rfl
          have r0 := (HR8.out.r0.cell 0).trans rfl
          have y0 := HR8.out.r0.frozen 0
          have r1 := (HR8.out.r0.cell 1).trans rfl
          have y1 := HR8.out.r0.frozen 1
          have r2 := (HR8.out.r0.cell 2).trans rfl
          have y2 := HR8.out.r0.frozen 2
          have r3 := (HR8.out.r0.cell 3).trans rfl
          have y3 := HR8.out.r0.frozen 3
          have r4 := (HR8.out.r0.cell 4).trans rfl
          have y4 := HR8.out.r0.frozen 4
          have v0 := (HR8.out.r1.cell 0).trans rfl
          have z0 := HR8.out.r1.frozen 0
          have v1 := (HR8.out.r1.cell 1).trans rfl
          have z1 := HR8.out.r1.frozen 1
          have v2 := (HR8.out.r1.cell 2).trans rfl
          have z2 := HR8.out.r1.frozen 2
          have n0 : jb ≠ w.heap.size + 1 + 1 := by omega
          have n1 : jb ≠ w.heap.size + 1 + 1 + 1 := by omega
          have n2 := Ne.symm n0
          have n3 := Ne.symm n1
          have n4 : ib ≠ w.heap.size + 1 + 1 := by omega
          have n5 : ib ≠ w.heap.size + 1 + 1 + 1 := by omega
          have n6 := Ne.symm n4
          have n7 := Ne.symm n5
          have n8 : w.heap.size + 1 + 1 ≠ w.heap.size + 1 + 1 + 1 := by omega
          have n9 := Ne.symm n8
          clear hJ
          have o0 : lb ≠ w.heap.size + 1 + 1 := by have := (HL.out.lt lb rfl).1; omega
          have o1 : lb ≠ w.heap.size + 1 + 1 + 1 := by have := (HL.out.lt lb rfl).1; omega
          have o2 := Ne.symm o0
          have o3 := Ne.symm o1
          have hv := HSV.out
          have hne : ¬ u0.stack = [] := fun e => by have h := HUST.out; rw [e] at h; rw [← h] at hun; simp at hun
          rw [deedV_askN p u0 25 a (by decide), popV, if_neg hne] at hv
          injection hv with hv1 hv2
          subst hv1 hv2
          clear hne
          go_upto_region 16 with fail
          go_region
          all_goals
            go_wp2_with fail
            obtain ⟨k0, k1, k2, k3⟩ := HR8.out.fin (D := D) (hx := hu) (x := (popT u0)) ⟨kindV 25, a, topT u0⟩ HJ.out.rt (fun i h _ => by rcases h with h | h; exact .inl h; exact .inr h.1) rfl
            refine bodyPost_ret (v := .tuple #[.agg #[.int .i64 (popT u0).state, .int .i64 (popT u0).on, .slice hu.fA (popT u0).frames.length hu.fc, .slice hu.sA (popT u0).stack.length hu.sc, .int .i64 (popT u0).code], .agg #[.int .i64 (kindV 25), .int .i64 a, .int .i64 (topT u0)]]) (results_cells2 rfl _ _ (w.heap.size + 1 + 1) (w.heap.size + 1 + 1 + 1) 29 37 _ _ (0, 0) (0, 0) _ _ rfl rfl k0.drew k1.drew Try.underlying29 rfl (by kernel_rfl) Try.underlying37 rfl (by kernel_rfl)) rfl ?_
            exact ⟨hu, rfl, k2.below (Below.refl _ _).drew, k3.drew⟩
end

section
open Go.RowKit Plain

set_option maxHeartbeats 8000000 in
set_option maxRecDepth 100000 in
theorem stepRn (h : PH) (p : PV) (ht : TH) (t : TV) (w : World) (B : Nat) (D : Nat → Prop) (hrp : RP w B h p) (hB : B ≤ w.heap.size) (hr : RT w D ht t) (hp : mayB p = true) (hm : mayT p t = true) (hs : t.state ≠ 9) (hf : fetchT p t = none) :
    Calls Try.prog 13 #[.agg #[.slice h.fA p.funcs.length h.fc, .int .i64 p.mutexes, .slice h.cA p.conds.length h.cc, .slice h.sA p.semas.length h.sc, .slice h.hA p.chans.length h.hc, .slice h.xA p.choices.length h.xc, .int .i64 p.threads], .agg #[.int .i64 t.state, .int .i64 t.on, .slice ht.fA t.frames.length ht.fc, .slice ht.sA t.stack.length ht.sc, .int .i64 t.code]] w fun e w' => ∃ hx : TH, e = .returned (.tuple #[.agg #[.int .i64 (stepV p t).1.state, .int .i64 (stepV p t).1.on, .slice hx.fA (stepV p t).1.frames.length hx.fc, .slice hx.sA (stepV p t).1.stack.length hx.sc, .int .i64 (stepV p t).1.code], .agg #[.int .i64 (stepV p t).2.kind, .int .i64 (stepV p t).2.a, .int .i64 (stepV p t).2.v]]) ∧ RT w' (fun i => (D i ∧ i < w.heap.size) ∨ w.heap.size ≤ i) hx (stepV p t).1 ∧ Below w.heap.size w w' := by
  have hfew := mayB_few hp
  have hl := lensT_may hfew.1 hm
  have hpos := frames_pos hm hs
  have hlen := lenT_may hm
  obtain ⟨f0, f1, f2, f3, f4, _⟩ := (frB_iff _ _).1 (lastFr_ok hm hs)
  have hfc := hfew.2.2 _ (funcAt_mem f0 f1)
  obtain ⟨n, hn⟩ := Int.eq_ofNat_of_zero_le f0
  obtain ⟨c, hc⟩ := Int.eq_ofNat_of_zero_le f2
  have hsv := stepV_none hf
  obtain ⟨x, q, hxq⟩ : ∃ x q, stepV p t = (x, q) := ⟨_, _, rfl⟩
  rw [hxq] at hsv ⊢
  simp only
  obtain ⟨W4, hW4⟩ : ∃ W, W = ((((w.alloc (.cells #[.slice h.fA p.funcs.length h.fc, .int .i64 p.mutexes, .slice h.cA p.conds.length h.cc, .slice h.sA p.semas.length h.sc, .slice h.hA p.chans.length h.hc, .slice h.xA p.choices.length h.xc, .int .i64 p.threads] 26)).alloc (.cells #[.int .i64 t.state, .int .i64 t.on, .slice ht.fA t.frames.length ht.fc, .slice ht.sA t.stack.length ht.sc, .int .i64 t.code] 29)).alloc (.cells #[.int .i64 0, .int .i64 0, .slice none 0 0, .slice none 0 0, .int .i64 0] 29)).alloc (.cells #[.int .i64 0, .int .i64 0, .int .i64 0] 37)) := ⟨_, rfl⟩
  have hb4 : Below w.heap.size w W4 := by rw [hW4]; exact ((((Below.refl _ _).alloc (Nat.le_refl _) _).alloc (by simp) _).alloc (by simp; omega) _).alloc (by simp; omega) _
  have hpb : Blk W4 w.heap.size 26 #[.slice h.fA p.funcs.length h.fc, .int .i64 p.mutexes, .slice h.cA p.conds.length h.cc, .slice h.sA p.semas.length h.sc, .slice h.hA p.chans.length h.hc, .slice h.xA p.choices.length h.xc, .int .i64 p.threads] := by rw [hW4]; exact (((Blk.new w _ _).alloc _).alloc _).alloc _
  have htb : Blk W4 (w.heap.size + 1) 29 #[.int .i64 t.state, .int .i64 t.on, .slice ht.fA t.frames.length ht.fc, .slice ht.sA t.stack.length ht.sc, .int .i64 t.code] := by
    rw [hW4]; refine (Blk.alloc ?_ _).alloc _
    simpa using Blk.new (w.alloc (.cells #[.slice h.fA p.funcs.length h.fc, .int .i64 p.mutexes, .slice h.cA p.conds.length h.cc, .slice h.sA p.semas.length h.sc, .slice h.hA p.chans.length h.hc, .slice h.xA p.choices.length h.xc, .int .i64 p.threads] 26)) 29 #[.int .i64 t.state, .int .i64 t.on, .slice ht.fA t.frames.length ht.fc, .slice ht.sA t.stack.length ht.sc, .int .i64 t.code]
  have hr0 : Blk W4 (w.heap.size + 1 + 1) 29 #[.int .i64 0, .int .i64 0, .slice none 0 0, .slice none 0 0, .int .i64 0] := by
    rw [hW4]; refine Blk.alloc ?_ _
    simpa using Blk.new ((w.alloc (.cells #[.slice h.fA p.funcs.length h.fc, .int .i64 p.mutexes, .slice h.cA p.conds.length h.cc, .slice h.sA p.semas.length h.sc, .slice h.hA p.chans.length h.hc, .slice h.xA p.choices.length h.xc, .int .i64 p.threads] 26)).alloc (.cells #[.int .i64 t.state, .int .i64 t.on, .slice ht.fA t.frames.length ht.fc, .slice ht.sA t.stack.length ht.sc, .int .i64 t.code] 29)) 29 #[.int .i64 0, .int .i64 0, .slice none 0 0, .slice none 0 0, .int .i64 0]
  have hr1 : Blk W4 (w.heap.size + 1 + 1 + 1) 37 #[.int .i64 0, .int .i64 0, .int .i64 0] := by
    rw [hW4]; simpa using Blk.new (((w.alloc (.cells #[.slice h.fA p.funcs.length h.fc, .int .i64 p.mutexes, .slice h.cA p.conds.length h.cc, .slice h.sA p.semas.length h.sc, .slice h.hA p.chans.length h.hc, .slice h.xA p.choices.length h.xc, .int .i64 p.threads] 26)).alloc (.cells #[.int .i64 t.state, .int .i64 t.on, .slice ht.fA t.frames.length ht.fc, .slice ht.sA t.stack.length ht.sc, .int .i64 t.code] 29)).alloc (.cells #[.int .i64 0, .int .i64 0, .slice none 0 0, .slice none 0 0, .int .i64 0] 29)) 37 #[.int .i64 0, .int .i64 0, .int .i64 0]
  have hz4 : W4.heap.size = w.heap.size + 1 + 1 + 1 + 1 := by rw [hW4]; simp
  have hrpW : ∀ X, Below W4.heap.size W4 X → RP X B h p := fun X hX => hrp.below ((hb4.trans (hX.mono (by omega))).mono hB)
  have hfe := refFetch_any h p ht t W4 D ((hrpW W4 (Below.refl _ _)).more (by omega)) (hr.below hb4) (by omega) n c hn (by omega) hc (by rw [← hn]; omega) (by rw [hc] at f3; omega) (by omega)
  have hfv : (funcAt p (n : Int)).code[c]? = none := by unfold fetchT at hf; rw [hn, hc] at hf; simpa using hf
  rw [hfv] at hfe
  have hfe : Calls Try.prog 33 #[.agg #[.slice h.fA p.funcs.length h.fc, .int .i64 p.mutexes, .slice h.cA p.conds.length h.cc, .slice h.sA p.semas.length h.sc, .slice h.hA p.chans.length h.hc, .slice h.xA p.choices.length h.xc, .int .i64 p.threads], .agg #[.int .i64 t.state, .int .i64 t.on, .slice ht.fA t.frames.length ht.fc, .slice ht.sA t.stack.length ht.sc, .int .i64 t.code]] W4 fun e w' => e = .returned (.tuple #[.agg #[.int .i64 0, .int .i64 0], .bool false]) ∧ Below W4.heap.size W4 w' := hfe
  injection hsv with hv1 hv2
  subst hv1 hv2
  have p0 := (hpb.cell 0).trans rfl
  have p1 := (hpb.cell 1).trans rfl
  have p2 := (hpb.cell 2).trans rfl
  have p3 := (hpb.cell 3).trans rfl
  have p4 := (hpb.cell 4).trans rfl
  have p5 := (hpb.cell 5).trans rfl
  have p6 := (hpb.cell 6).trans rfl
  have t0 := (htb.cell 0).trans rfl
  have t1 := (htb.cell 1).trans rfl
  have t2 := (htb.cell 2).trans rfl
  have t3 := (htb.cell 3).trans rfl
  have t4 := (htb.cell 4).trans rfl
  have HFE := Lib.hid hfe; have HW := Lib.hid hW4; have HB4 := Lib.hid hb4; have HPB := Lib.hid hpb; have HTB := Lib.hid htb; have HR0 := Lib.hid hr0; have HR1 := Lib.hid hr1; have HZ4 := Lib.hid hz4
  clear hrp hr hp hm hs hf hfew hl hpos hlen f0 f1 f2 f3 f4 hfc hn hc hW4 hb4 hpb htb hr0 hr1 hz4 hrpW hfe hfv hxq
  go_enter Try.func13, Try.ntmps13
  go_upto_region 1 with fail
  rw [← HW.out]
  clear HW
  go_wp2_with fail
  refine HFE.out.mono ?_
  rintro e w1 ⟨rfl, hb1⟩
  obtain ⟨W5, hW5⟩ : ∃ W, W = w1.alloc (.cells #[.int .i64 0, .int .i64 0] 57) := ⟨_, rfl⟩
  obtain ⟨ib, hib⟩ : ∃ b, b = w1.heap.size := ⟨_, rfl⟩
  have hb5 : Below W4.heap.size W4 W5 := by rw [hW5]; exact hb1.alloc hb1.size _
  have hR0 : R0 w W5 h p #[.int .i64 t.state, .int .i64 t.on, .slice ht.fA t.frames.length ht.fc, .slice ht.sA t.stack.length ht.sc, .int .i64 t.code] ib 0 0 := by
    refine ⟨HPB.out.below hb5 HPB.out.lt, HTB.out.below hb5 HTB.out.lt, HR0.out.below hb5 HR0.out.lt, HR1.out.below hb5 HR1.out.lt, by rw [hW5, hib]; exact Blk.new _ _ _, by rw [hib]; have := hb1.size; have := HZ4.out; omega, HB4.out.trans (hb5.mono HB4.out.size)⟩
  have HR5 := Lib.hid hR0; have HW5 := Lib.hid hW5; have HIB := Lib.hid hib
  clear hb1 hR0 hW5 hib hb5 p0 p1 p2 p3 p4 p5 p6 t0 t1 t2 t3 t4 HPB HTB HR0 HR1 HFE
  go_upto_region 3 with fail
  rw [← HW5.out]
  clear HW5 HIB
  go_wp2_with fail
  refine (refEnds_any 6 _).mono ?_
  rintro e w9 ⟨rfl, hb9⟩
  have g9 := HR5.out.below hb9
  have r0 := (g9.r0.cell 0).trans rfl
  have y0 := g9.r0.frozen 0
  have r1 := (g9.r0.cell 1).trans rfl
  have y1 := g9.r0.frozen 1
  have r2 := (g9.r0.cell 2).trans rfl
  have y2 := g9.r0.frozen 2
  have r3 := (g9.r0.cell 3).trans rfl
  have y3 := g9.r0.frozen 3
  have r4 := (g9.r0.cell 4).trans rfl
  have y4 := g9.r0.frozen 4
  have v0 := (g9.r1.cell 0).trans rfl
  have z0 := g9.r1.frozen 0
  have v1 := (g9.r1.cell 1).trans rfl
  have z1 := g9.r1.frozen 1
  have v2 := (g9.r1.cell 2).trans rfl
  have z2 := g9.r1.frozen 2
  have G9 := Lib.hid g9
  clear g9 hb9
  go_wp2_with fail
  obtain ⟨k0, k1, k2, k3⟩ := G9.out.fin (D := D) (hx := ⟨none, 0, none, 0⟩) (x := (deadT 6)) ⟨1, 0, 6⟩ (dead_rt 6 _) (fun i h => absurd h id) rfl
  refine bodyPost_ret (v := .tuple #[.agg #[.int .i64 9, .int .i64 0, .slice none 0 0, .slice none 0 0, .int .i64 6], .agg #[.int .i64 1, .int .i64 0, .int .i64 6]]) (results_cells2 rfl _ _ (w.heap.size + 1 + 1) (w.heap.size + 1 + 1 + 1) 29 37 _ _ (0, 0) (0, 0) _ _ rfl rfl k0 k1 Try.underlying29 rfl (by kernel_rfl) Try.underlying37 rfl (by kernel_rfl)) rfl ?_
  exact ⟨⟨none, 0, none, 0⟩, rfl, k2, k3⟩

theorem refStep5_any (h : PH) (p : PV) (ht : TH) (t : TV) (w : World) (B : Nat) (D : Nat → Prop) (hrp : RP w B h p) (hB : B ≤ w.heap.size) (hr : RT w D ht t) (hp : mayB p = true) (hm : mayT p t = true) (hs : t.state ≠ 9) :
    Calls Try.prog 13 #[.agg #[.slice h.fA p.funcs.length h.fc, .int .i64 p.mutexes, .slice h.cA p.conds.length h.cc, .slice h.sA p.semas.length h.sc, .slice h.hA p.chans.length h.hc, .slice h.xA p.choices.length h.xc, .int .i64 p.threads], .agg #[.int .i64 t.state, .int .i64 t.on, .slice ht.fA t.frames.length ht.fc, .slice ht.sA t.stack.length ht.sc, .int .i64 t.code]] w fun e w' => ∃ hx : TH, e = .returned (.tuple #[.agg #[.int .i64 (stepV p t).1.state, .int .i64 (stepV p t).1.on, .slice hx.fA (stepV p t).1.frames.length hx.fc, .slice hx.sA (stepV p t).1.stack.length hx.sc, .int .i64 (stepV p t).1.code], .agg #[.int .i64 (stepV p t).2.kind, .int .i64 (stepV p t).2.a, .int .i64 (stepV p t).2.v]]) ∧ RT w' (fun i => (D i ∧ i < w.heap.size) ∨ w.heap.size ≤ i) hx (stepV p t).1 ∧ Below w.heap.size w w' := by
  cases hf : fetchT p t with
  | none => exact stepRn h p ht t w B D hrp hB hr hp hm hs hf
  | some i =>
    obtain ⟨op, a⟩ := i
    have hok := (fetch_ok hp hm hs hf).1
    simp only at hok
    have hc : (op = 0 ∨ op = 1 ∨ op = 2 ∨ op = 3 ∨ op = 4) ∨ (op = 5 ∨ op = 6 ∨ op = 7 ∨ op = 8 ∨ op = 9 ∨ op = 10 ∨ op = 26) ∨ (op = 11 ∨ op = 12 ∨ op = 13 ∨ op = 14 ∨ op = 15 ∨ op = 16 ∨ op = 17 ∨ op = 18) ∨ (op = 19 ∨ op = 20 ∨ op = 21 ∨ op = 22 ∨ op = 23 ∨ op = 24 ∨ op = 25) := by omega
    rcases hc with hc | hc | hc | hc
    · exact stepRa h p ht t w B D hrp hB hr hp hm hs op a hf hc
    · exact stepRb h p ht t w B D hrp hB hr hp hm hs op a hf hc
    · exact stepRc h p ht t w B D hrp hB hr hp hm hs op a hf hc
    · exact stepRd h p ht t w B D hrp hB hr hp hm hs op a hf hc

/-- Where the document's Run stands. -/
structure RunD (w wr : World) (D : Nat → Prop) (h : PH) (p : PV) (hk : TH) (tk : TV) : Prop where
  pb : Blk wr w.heap.size 26 #[.slice h.fA p.funcs.length h.fc, .int .i64 p.mutexes, .slice h.cA p.conds.length h.cc, .slice h.sA p.semas.length h.sc, .slice h.hA p.chans.length h.hc, .slice h.xA p.choices.length h.xc, .int .i64 p.threads]
  tb : Blk wr (w.heap.size + 1) 29 #[.int .i64 tk.state, .int .i64 tk.on, .slice hk.fA tk.frames.length hk.fc, .slice hk.sA tk.stack.length hk.sc, .int .i64 tk.code]
  r0 : Blk wr (w.heap.size + 1 + 1) 29 #[.int .i64 0, .int .i64 0, .slice none 0 0, .slice none 0 0, .int .i64 0]
  r1 : Blk wr (w.heap.size + 1 + 1 + 1) 37 #[.int .i64 0, .int .i64 0, .int .i64 0]
  rt : RT wr (fun i => (D i ∧ i < w.heap.size) ∨ w.heap.size + 1 + 1 + 1 < i) hk tk
  bel : Below w.heap.size w wr
  lt : w.heap.size + 1 + 1 + 1 < wr.heap.size
set_option maxHeartbeats 8000000 in
set_option maxRecDepth 100000 in
theorem refRun5_any (h : PH) (p : PV) (ht : TH) (t : TV) (w : World) (B : Nat) (D : Nat → Prop) (hrp : RP w B h p) (hB : B ≤ w.heap.size) (hr : RT w D ht t) (hp : mayB p = true) (hm : mayT p t = true) (hs : t.state ≠ 9) (most : Int) (hmo : most ≤ 1000000) :
    Calls Try.prog 21 #[.agg #[.slice h.fA p.funcs.length h.fc, .int .i64 p.mutexes, .slice h.cA p.conds.length h.cc, .slice h.sA p.semas.length h.sc, .slice h.hA p.chans.length h.hc, .slice h.xA p.choices.length h.xc, .int .i64 p.threads], .agg #[.int .i64 t.state, .int .i64 t.on, .slice ht.fA t.frames.length ht.fc, .slice ht.sA t.stack.length ht.sc, .int .i64 t.code], .int .i64 most] w fun e w' => ∃ hx : TH, e = .returned (.tuple #[.agg #[.int .i64 (runV p most.toNat t).1.state, .int .i64 (runV p most.toNat t).1.on, .slice hx.fA (runV p most.toNat t).1.frames.length hx.fc, .slice hx.sA (runV p most.toNat t).1.stack.length hx.sc, .int .i64 (runV p most.toNat t).1.code], .agg #[.int .i64 (runV p most.toNat t).2.1.kind, .int .i64 (runV p most.toNat t).2.1.a, .int .i64 (runV p most.toNat t).2.1.v], .int .i64 ((runV p most.toNat t).2.2 : Int)]) ∧ RT w' (fun i => (D i ∧ i < w.heap.size) ∨ w.heap.size ≤ i) hx (runV p most.toNat t).1 ∧ Below w.heap.size w w' := by
  obtain ⟨m, hmm⟩ : ∃ m, most.toNat = m := ⟨_, rfl⟩
  rw [hmm]
  have hmk : ∀ k : Nat, k < m ↔ (k : Int) < most := fun k => by omega
  have hm6 : m ≤ 1000000 := by omega
  have HMK := Lib.hid hmk
  clear hmm hmk
  obtain ⟨x, q, n, hxq⟩ : ∃ x q n, runV p m t = (x, q, n) := ⟨_, _, _, rfl⟩
  rw [hxq]
  simp only
  have HXQ := Lib.hid hxq
  clear hxq
  have hst := RunAt.start (m := m) hm hs
  obtain ⟨W4, hW4⟩ : ∃ W, W = ((((w.alloc (.cells #[.slice h.fA p.funcs.length h.fc, .int .i64 p.mutexes, .slice h.cA p.conds.length h.cc, .slice h.sA p.semas.length h.sc, .slice h.hA p.chans.length h.hc, .slice h.xA p.choices.length h.xc, .int .i64 p.threads] 26)).alloc (.cells #[.int .i64 t.state, .int .i64 t.on, .slice ht.fA t.frames.length ht.fc, .slice ht.sA t.stack.length ht.sc, .int .i64 t.code] 29)).alloc (.cells #[.int .i64 0, .int .i64 0, .slice none 0 0, .slice none 0 0, .int .i64 0] 29)).alloc (.cells #[.int .i64 0, .int .i64 0, .int .i64 0] 37)) := ⟨_, rfl⟩
  have hb4 : Below w.heap.size w W4 := by rw [hW4]; exact ((((Below.refl _ _).alloc (Nat.le_refl _) _).alloc (by simp) _).alloc (by simp; omega) _).alloc (by simp; omega) _
  have hrd : RunD w W4 D h p ht t := by
    refine ⟨?_, ?_, ?_, ?_, (((hr.mono (E := fun i => D i ∧ i < w.heap.size) (fun i h1 h2 => ⟨h1, h2⟩)).below hb4).mono (fun i hi _ => .inl hi)), hb4, by rw [hW4]; simp⟩
    · rw [hW4]; exact (((Blk.new w _ _).alloc _).alloc _).alloc _
    · rw [hW4]; refine (Blk.alloc ?_ _).alloc _
      simpa using Blk.new (w.alloc (.cells #[.slice h.fA p.funcs.length h.fc, .int .i64 p.mutexes, .slice h.cA p.conds.length h.cc, .slice h.sA p.semas.length h.sc, .slice h.hA p.chans.length h.hc, .slice h.xA p.choices.length h.xc, .int .i64 p.threads] 26)) 29 #[.int .i64 t.state, .int .i64 t.on, .slice ht.fA t.frames.length ht.fc, .slice ht.sA t.stack.length ht.sc, .int .i64 t.code]
    · rw [hW4]; refine Blk.alloc ?_ _
      simpa using Blk.new ((w.alloc (.cells #[.slice h.fA p.funcs.length h.fc, .int .i64 p.mutexes, .slice h.cA p.conds.length h.cc, .slice h.sA p.semas.length h.sc, .slice h.hA p.chans.length h.hc, .slice h.xA p.choices.length h.xc, .int .i64 p.threads] 26)).alloc (.cells #[.int .i64 t.state, .int .i64 t.on, .slice ht.fA t.frames.length ht.fc, .slice ht.sA t.stack.length ht.sc, .int .i64 t.code] 29)) 29 #[.int .i64 0, .int .i64 0, .slice none 0 0, .slice none 0 0, .int .i64 0]
    · rw [hW4]; simpa using Blk.new (((w.alloc (.cells #[.slice h.fA p.funcs.length h.fc, .int .i64 p.mutexes, .slice h.cA p.conds.length h.cc, .slice h.sA p.semas.length h.sc, .slice h.hA p.chans.length h.hc, .slice h.xA p.choices.length h.xc, .int .i64 p.threads] 26)).alloc (.cells #[.int .i64 t.state, .int .i64 t.on, .slice ht.fA t.frames.length ht.fc, .slice ht.sA t.stack.length ht.sc, .int .i64 t.code] 29)).alloc (.cells #[.int .i64 0, .int .i64 0, .slice none 0 0, .slice none 0 0, .int .i64 0] 29)) 37 #[.int .i64 0, .int .i64 0, .int .i64 0]
  have HRD0 := Lib.hid hrd; have HW := Lib.hid hW4; have HP := Lib.hid hp; have HST := Lib.hid hst
  have HRPX : Hid (∀ X, Below w.heap.size w X → RP X B h p) := fun X hX => hrp.below (hX.mono hB)
  have HBB := Lib.hid hB
  clear hrp hB hr hp hm hs hst hW4 hb4 hrd
  go_enter Try.func21, Try.ntmps21
  go_upto_region 1 with fail
  rw [← HW.out]
  clear HW
  go_wp2_with fail
  go_loopw [9] (fun s wr => ∃ (k : Nat) (hk : TH) (tk : TV), k ≤ m ∧ s = .int .i64 (k : Int) ∧ Hid (RunD w wr D h p hk tk) ∧ Hid (RunAt p m t k tk q0)) (fun s _ => m - (intOf s).toNat)
  case atStart => exact ⟨0, ht, t, by omega, rfl, HRD0, HST⟩
  case round =>
    clear HRD0 HST
    obtain ⟨k, hk, tk, hkm, rfl, HRD, HRA⟩ := hrel
    have hlw := HRD.out.lt
    by_cases hlt : k < m
    · have hlti := (HMK.out k).1 hlt
      obtain ⟨_, hmk, hsk, _⟩ := HRA.out.1 rfl
      have hnx := HRA.out.step HP.out rfl hlt
      have hcal := refStep5_any h p hk tk wr B _ (HRPX.out wr HRD.out.bel) (Nat.le_trans HBB.out HRD.out.bel.size) HRD.out.rt HP.out hmk hsk
      obtain ⟨x2, q2, hx2⟩ : ∃ x2 q2, stepV p tk = (x2, q2) := ⟨_, _, rfl⟩
      rw [hx2] at hnx hcal
      simp only at hnx hcal
      have HNX := Lib.hid hnx; have HCAL := Lib.hid hcal
      have p0 : wr.cell? ⟨w.heap.size, 0, none⟩ = some (.slice h.fA p.funcs.length h.fc) := (HRD.out.pb.cell 0).trans rfl
      have p1 : wr.cell? ⟨w.heap.size, 1, none⟩ = some (.int .i64 p.mutexes) := (HRD.out.pb.cell 1).trans rfl
      have p2 : wr.cell? ⟨w.heap.size, 2, none⟩ = some (.slice h.cA p.conds.length h.cc) := (HRD.out.pb.cell 2).trans rfl
      have p3 : wr.cell? ⟨w.heap.size, 3, none⟩ = some (.slice h.sA p.semas.length h.sc) := (HRD.out.pb.cell 3).trans rfl
      have p4 : wr.cell? ⟨w.heap.size, 4, none⟩ = some (.slice h.hA p.chans.length h.hc) := (HRD.out.pb.cell 4).trans rfl
      have p5 : wr.cell? ⟨w.heap.size, 5, none⟩ = some (.slice h.xA p.choices.length h.xc) := (HRD.out.pb.cell 5).trans rfl
      have p6 : wr.cell? ⟨w.heap.size, 6, none⟩ = some (.int .i64 p.threads) := (HRD.out.pb.cell 6).trans rfl
      have t0 : wr.cell? ⟨w.heap.size + 1, 0, none⟩ = some (.int .i64 tk.state) := (HRD.out.tb.cell 0).trans rfl
      have t1 : wr.cell? ⟨w.heap.size + 1, 1, none⟩ = some (.int .i64 tk.on) := (HRD.out.tb.cell 1).trans rfl
      have t2 : wr.cell? ⟨w.heap.size + 1, 2, none⟩ = some (.slice hk.fA tk.frames.length hk.fc) := (HRD.out.tb.cell 2).trans rfl
      have t3 : wr.cell? ⟨w.heap.size + 1, 3, none⟩ = some (.slice hk.sA tk.stack.length hk.sc) := (HRD.out.tb.cell 3).trans rfl
      have t4 : wr.cell? ⟨w.heap.size + 1, 4, none⟩ = some (.int .i64 tk.code) := (HRD.out.tb.cell 4).trans rfl
      clear hmk hsk hnx hcal hx2
      go_wp2_with fail
      refine HCAL.out.mono ?_
      rintro e w5 ⟨⟨xA, xc, xB, xd⟩, rfl, hrt5, hb5⟩
      try simp only at hrt5
      obtain ⟨ab, hab⟩ : ∃ b, b = w5.heap.size := ⟨_, rfl⟩
      obtain ⟨W7, hW7⟩ : ∃ W, W = (w5.alloc (.cells #[.int .i64 x2.state, .int .i64 x2.on, .slice xA x2.frames.length xc, .slice xB x2.stack.length xd, .int .i64 x2.code] 29)).alloc (.cells #[.int .i64 q2.kind, .int .i64 q2.a, .int .i64 q2.v] 37) := ⟨_, rfl⟩
      have ha7 : Below w5.heap.size w5 W7 := by rw [hW7]; exact ((Below.refl _ _).alloc (Nat.le_refl _) _).alloc (by simp) _
      have kx : Blk W7 ab 29 #[.int .i64 x2.state, .int .i64 x2.on, .slice xA x2.frames.length xc, .slice xB x2.stack.length xd, .int .i64 x2.code] := by rw [hW7, hab]; exact (Blk.new _ _ _).alloc _
      have kq : Blk W7 (ab + 1) 37 #[.int .i64 q2.kind, .int .i64 q2.a, .int .i64 q2.v] := by rw [hW7, hab]; simpa using Blk.new (w5.alloc (.cells #[.int .i64 x2.state, .int .i64 x2.on, .slice xA x2.frames.length xc, .slice xB x2.stack.length xd, .int .i64 x2.code] 29)) 37 #[.int .i64 q2.kind, .int .i64 q2.a, .int .i64 q2.v]
      have hb7 : Below wr.heap.size wr W7 := hb5.trans (ha7.mono hb5.size)
      have hrt7 := hrt5.below ha7
      have ktb := HRD.out.tb.below hb7 HRD.out.tb.lt
      have hsz5 := hb5.size
      have hf9 : Fr (fun i => i = w.heap.size + 1) W7 (((((W7.setCell ⟨w.heap.size + 1, 0, none⟩ (.int .i64 x2.state)).setCell ⟨w.heap.size + 1, 1, none⟩ (.int .i64 x2.on)).setCell ⟨w.heap.size + 1, 2, none⟩ (.slice xA x2.frames.length xc)).setCell ⟨w.heap.size + 1, 3, none⟩ (.slice xB x2.stack.length xd)).setCell ⟨w.heap.size + 1, 4, none⟩ (.int .i64 x2.code)) := (Fr.refl (fun i => i = w.heap.size + 1) W7).set5 (g := w.heap.size + 1) (.inl rfl) _ _ _ _ _
      obtain ⟨W9, hW9⟩ : ∃ W, W = (((((W7.setCell ⟨w.heap.size + 1, 0, none⟩ (.int .i64 x2.state)).setCell ⟨w.heap.size + 1, 1, none⟩ (.int .i64 x2.on)).setCell ⟨w.heap.size + 1, 2, none⟩ (.slice xA x2.frames.length xc)).setCell ⟨w.heap.size + 1, 3, none⟩ (.slice xB x2.stack.length xd)).setCell ⟨w.heap.size + 1, 4, none⟩ (.int .i64 x2.code)) := ⟨_, rfl⟩
      have hb9 : Blk W9 (w.heap.size + 1) 29 #[.int .i64 x2.state, .int .i64 x2.on, .slice xA x2.frames.length xc, .slice xB x2.stack.length xd, .int .i64 x2.code] := by rw [hW9]; exact Blk.set5 ktb _ _ _ _ _
      rw [← hW9] at hf9
      have hrd : RunD w W9 D h p ⟨xA, xc, xB, xd⟩ x2 := by
        refine ⟨hf9.blk (HRD.out.pb.below hb7 HRD.out.pb.lt) (by omega), hb9, hf9.blk (HRD.out.r0.below hb7 HRD.out.r0.lt) (by omega), hf9.blk (HRD.out.r1.below hb7 HRD.out.r1.lt) (by omega), ?_, (HRD.out.bel.trans (hb7.mono HRD.out.bel.size)).trans (hf9.below (HRD.out.bel.trans (hb7.mono HRD.out.bel.size)).size (fun i e => by omega)), by have := hf9.size; have := hb7.size; omega⟩
        have h1 : RT W7 (fun i => (D i ∧ i < w.heap.size) ∨ w.heap.size + 1 + 1 + 1 < i) ⟨xA, xc, xB, xd⟩ x2 := hrt7.mono (fun i hi _ => by
          rcases hi with ⟨hi | hi, _⟩ | hi
          · exact .inl hi
          · exact .inr hi
          · exact .inr (by omega))
        exact h1.keep (fun y hy hl => hf9.cell hl (fun e => by rcases hy with hy | hy <;> omega))
      have kq9 := hf9.blk kq (by rw [hab]; omega)
      have HRD9 := Lib.hid hrd; have KX := Lib.hid kx; have KT := Lib.hid ktb; have HW7 := Lib.hid hW7; have HAB := Lib.hid hab; have HW9 := Lib.hid hW9; have KQ9 := Lib.hid kq9
      clear hrd kx ktb hW7 hab hW9 ha7 kq hb7 hrt7 hf9 hb9 kq9 hrt5 hb5 p0 p1 p2 p3 p4 p5 p6 t0 t1 t2 t3 t4 HCAL HRD
      go_upto_region 4 with fail
      rw [← HW7.out, ← HAB.out]
      clear HW7
      have a0 : W7.cell? ⟨ab, 0, none⟩ = some (.int .i64 x2.state) := (KX.out.cell 0).trans rfl
      have a1 : W7.cell? ⟨ab, 1, none⟩ = some (.int .i64 x2.on) := (KX.out.cell 1).trans rfl
      have a2 : W7.cell? ⟨ab, 2, none⟩ = some (.slice xA x2.frames.length xc) := (KX.out.cell 2).trans rfl
      have a3 : W7.cell? ⟨ab, 3, none⟩ = some (.slice xB x2.stack.length xd) := (KX.out.cell 3).trans rfl
      have a4 : W7.cell? ⟨ab, 4, none⟩ = some (.int .i64 x2.code) := (KX.out.cell 4).trans rfl
      have t0 : W7.cell? ⟨w.heap.size + 1, 0, none⟩ = some (.int .i64 tk.state) := (KT.out.cell 0).trans rfl
      have f0 : W7.frozen? ⟨w.heap.size + 1, 0, none⟩ = false := KT.out.frozen 0
      have t1 : W7.cell? ⟨w.heap.size + 1, 1, none⟩ = some (.int .i64 tk.on) := (KT.out.cell 1).trans rfl
      have f1 : W7.frozen? ⟨w.heap.size + 1, 1, none⟩ = false := KT.out.frozen 1
      have t2 : W7.cell? ⟨w.heap.size + 1, 2, none⟩ = some (.slice hk.fA tk.frames.length hk.fc) := (KT.out.cell 2).trans rfl
      have f2 : W7.frozen? ⟨w.heap.size + 1, 2, none⟩ = false := KT.out.frozen 2
      have t3 : W7.cell? ⟨w.heap.size + 1, 3, none⟩ = some (.slice hk.sA tk.stack.length hk.sc) := (KT.out.cell 3).trans rfl
      have f3 : W7.frozen? ⟨w.heap.size + 1, 3, none⟩ = false := KT.out.frozen 3
      have t4 : W7.cell? ⟨w.heap.size + 1, 4, none⟩ = some (.int .i64 tk.code) := (KT.out.cell 4).trans rfl
      have f4 : W7.frozen? ⟨w.heap.size + 1, 4, none⟩ = false := KT.out.frozen 4
      go_upto_region 5 with fail
      rw [← HW9.out]
      clear HW9 a0 t0 f0 a1 t1 f1 a2 t2 f2 a3 t3 f3 a4 t4 f4
      have c0 := (KQ9.out.cell 0).trans rfl
      have c1 := (KQ9.out.cell 1).trans rfl
      have c2 := (KQ9.out.cell 2).trans rfl
      by_cases hq : q2.kind = 0
      · have hqb : (q2.kind == 0) = true := by simpa using hq
        have hq0 := (HNX.out.1 hq).1
        subst hq0
        clear hq hqb HAB
        go_wp2_with fail
        exact ⟨⟨k + 1, ⟨xA, xc, xB, xd⟩, x2, by omega, by go_num, HRD9, HNX⟩, by simp [intOf]; omega⟩
      · have hfin := HNX.out.stop (.inr hq) (by omega)
        rw [HXQ.out] at hfin
        injection hfin with e1 e2
        injection e2 with e2 e3
        subst e1 e2 e3
        have hqb : (q.kind == 0) = false := by simpa using hq
        clear hq HNX
        have HRD := HRD9
        have hn9 := HRD.out.lt
        have habz : w.heap.size + 1 + 1 + 1 < ab := by have := HAB.out; omega
        have t0 : W9.cell? ⟨w.heap.size + 1, 0, none⟩ = some (.int .i64 x.state) := (HRD.out.tb.cell 0).trans rfl
        have t1 : W9.cell? ⟨w.heap.size + 1, 1, none⟩ = some (.int .i64 x.on) := (HRD.out.tb.cell 1).trans rfl
        have t2 : W9.cell? ⟨w.heap.size + 1, 2, none⟩ = some (.slice xA x.frames.length xc) := (HRD.out.tb.cell 2).trans rfl
        have t3 : W9.cell? ⟨w.heap.size + 1, 3, none⟩ = some (.slice xB x.stack.length xd) := (HRD.out.tb.cell 3).trans rfl
        have t4 : W9.cell? ⟨w.heap.size + 1, 4, none⟩ = some (.int .i64 x.code) := (HRD.out.tb.cell 4).trans rfl
        have r0 : W9.cell? ⟨w.heap.size + 1 + 1, 0, none⟩ = some (.int .i64 0) := (HRD.out.r0.cell 0).trans rfl
        have y0 : W9.frozen? ⟨w.heap.size + 1 + 1, 0, none⟩ = false := HRD.out.r0.frozen 0
        have r1 : W9.cell? ⟨w.heap.size + 1 + 1, 1, none⟩ = some (.int .i64 0) := (HRD.out.r0.cell 1).trans rfl
        have y1 : W9.frozen? ⟨w.heap.size + 1 + 1, 1, none⟩ = false := HRD.out.r0.frozen 1
        have r2 : W9.cell? ⟨w.heap.size + 1 + 1, 2, none⟩ = some (.slice none 0 0) := (HRD.out.r0.cell 2).trans rfl
        have y2 : W9.frozen? ⟨w.heap.size + 1 + 1, 2, none⟩ = false := HRD.out.r0.frozen 2
        have r3 : W9.cell? ⟨w.heap.size + 1 + 1, 3, none⟩ = some (.slice none 0 0) := (HRD.out.r0.cell 3).trans rfl
        have y3 : W9.frozen? ⟨w.heap.size + 1 + 1, 3, none⟩ = false := HRD.out.r0.frozen 3
        have r4 : W9.cell? ⟨w.heap.size + 1 + 1, 4, none⟩ = some (.int .i64 0) := (HRD.out.r0.cell 4).trans rfl
        have y4 : W9.frozen? ⟨w.heap.size + 1 + 1, 4, none⟩ = false := HRD.out.r0.frozen 4
        have v0 : W9.cell? ⟨w.heap.size + 1 + 1 + 1, 0, none⟩ = some (.int .i64 0) := (HRD.out.r1.cell 0).trans rfl
        have z0 : W9.frozen? ⟨w.heap.size + 1 + 1 + 1, 0, none⟩ = false := HRD.out.r1.frozen 0
        have v1 : W9.cell? ⟨w.heap.size + 1 + 1 + 1, 1, none⟩ = some (.int .i64 0) := (HRD.out.r1.cell 1).trans rfl
        have z1 : W9.frozen? ⟨w.heap.size + 1 + 1 + 1, 1, none⟩ = false := HRD.out.r1.frozen 1
        have v2 : W9.cell? ⟨w.heap.size + 1 + 1 + 1, 2, none⟩ = some (.int .i64 0) := (HRD.out.r1.cell 2).trans rfl
        have z2 : W9.frozen? ⟨w.heap.size + 1 + 1 + 1, 2, none⟩ = false := HRD.out.r1.frozen 2
        have n4 : w.heap.size + 1 + 1 ≠ w.heap.size + 1 + 1 + 1 := by omega
        have n5 := Ne.symm n4
        have n6 : w.heap.size + 1 ≠ w.heap.size + 1 + 1 := by omega
        have n7 := Ne.symm n6
        have n8 : w.heap.size + 1 ≠ w.heap.size + 1 + 1 + 1 := by omega
        have n9 := Ne.symm n8
        have m4 : ab + 1 ≠ w.heap.size + 1 + 1 := by omega
        have m5 := Ne.symm m4
        have m6 : ab + 1 ≠ w.heap.size + 1 + 1 + 1 := by omega
        have m7 := Ne.symm m6
        clear HAB HRD9
        go_upto_region 7 with fail
        go_region
        all_goals
          go_wp2_with fail
          have hbx := two_boxes (v0 := .int .i64 x.state) (v1 := .int .i64 x.on) (v2 := .slice xA x.frames.length xc) (v3 := .slice xB x.stack.length xd) (v4 := .int .i64 x.code) (q0 := .int .i64 q.kind) (q1 := .int .i64 q.a) (q2 := .int .i64 q.v) HRD.out.r0 HRD.out.r1 HRD.out.bel (by omega)
          obtain ⟨k0, k1, k2⟩ := hbx
          refine bodyPost_ret (v := .tuple #[.agg #[.int .i64 x.state, .int .i64 x.on, .slice xA x.frames.length xc, .slice xB x.stack.length xd, .int .i64 x.code], .agg #[.int .i64 q.kind, .int .i64 q.a, .int .i64 q.v], .int .i64 (((k + 1 : Nat) : Int) : Int)]) (results_cells2s rfl _ _ (w.heap.size + 1 + 1) (w.heap.size + 1 + 1 + 1) 29 37 _ _ (0, 0) (0, 0) _ _ _ rfl rfl rfl k0.drew k1.drew Try.underlying29 rfl (by kernel_rfl) Try.underlying37 rfl (by kernel_rfl)) rfl ?_
          exact ⟨⟨xA, xc, xB, xd⟩, rfl, (((HRD.out.rt.keep (fun y hy hl => k2.cell hl (fun e => by rcases hy with hy | hy <;> omega))).mono (fun i hi _ => by rcases hi with hi | hi; exact .inl hi; exact .inr (by omega)))).below (Below.refl _ _).drew, (HRD.out.bel.trans (k2.below HRD.out.bel.size (fun i e => by omega))).drew⟩
    · have hlti : ¬ (k : Int) < most := fun h => hlt ((HMK.out k).2 h)
      have hfin := HRA.out.stop (.inl hlt) hkm
      rw [HXQ.out] at hfin
      injection hfin with e1 e2
      injection e2 with e2 e3
      subst e1 e2 e3
      clear HRA
      have t0 : wr.cell? ⟨w.heap.size + 1, 0, none⟩ = some (.int .i64 x.state) := (HRD.out.tb.cell 0).trans rfl
      have t1 : wr.cell? ⟨w.heap.size + 1, 1, none⟩ = some (.int .i64 x.on) := (HRD.out.tb.cell 1).trans rfl
      have t2 : wr.cell? ⟨w.heap.size + 1, 2, none⟩ = some (.slice hk.fA x.frames.length hk.fc) := (HRD.out.tb.cell 2).trans rfl
      have t3 : wr.cell? ⟨w.heap.size + 1, 3, none⟩ = some (.slice hk.sA x.stack.length hk.sc) := (HRD.out.tb.cell 3).trans rfl
      have t4 : wr.cell? ⟨w.heap.size + 1, 4, none⟩ = some (.int .i64 x.code) := (HRD.out.tb.cell 4).trans rfl
      have r0 : wr.cell? ⟨w.heap.size + 1 + 1, 0, none⟩ = some (.int .i64 0) := (HRD.out.r0.cell 0).trans rfl
      have y0 : wr.frozen? ⟨w.heap.size + 1 + 1, 0, none⟩ = false := HRD.out.r0.frozen 0
      have r1 : wr.cell? ⟨w.heap.size + 1 + 1, 1, none⟩ = some (.int .i64 0) := (HRD.out.r0.cell 1).trans rfl
      have y1 : wr.frozen? ⟨w.heap.size + 1 + 1, 1, none⟩ = false := HRD.out.r0.frozen 1
      have r2 : wr.cell? ⟨w.heap.size + 1 + 1, 2, none⟩ = some (.slice none 0 0) := (HRD.out.r0.cell 2).trans rfl
      have y2 : wr.frozen? ⟨w.heap.size + 1 + 1, 2, none⟩ = false := HRD.out.r0.frozen 2
      have r3 : wr.cell? ⟨w.heap.size + 1 + 1, 3, none⟩ = some (.slice none 0 0) := (HRD.out.r0.cell 3).trans rfl
      have y3 : wr.frozen? ⟨w.heap.size + 1 + 1, 3, none⟩ = false := HRD.out.r0.frozen 3
      have r4 : wr.cell? ⟨w.heap.size + 1 + 1, 4, none⟩ = some (.int .i64 0) := (HRD.out.r0.cell 4).trans rfl
      have y4 : wr.frozen? ⟨w.heap.size + 1 + 1, 4, none⟩ = false := HRD.out.r0.frozen 4
      have v0 : wr.cell? ⟨w.heap.size + 1 + 1 + 1, 0, none⟩ = some (.int .i64 0) := (HRD.out.r1.cell 0).trans rfl
      have z0 : wr.frozen? ⟨w.heap.size + 1 + 1 + 1, 0, none⟩ = false := HRD.out.r1.frozen 0
      have v1 : wr.cell? ⟨w.heap.size + 1 + 1 + 1, 1, none⟩ = some (.int .i64 0) := (HRD.out.r1.cell 1).trans rfl
      have z1 : wr.frozen? ⟨w.heap.size + 1 + 1 + 1, 1, none⟩ = false := HRD.out.r1.frozen 1
      have v2 : wr.cell? ⟨w.heap.size + 1 + 1 + 1, 2, none⟩ = some (.int .i64 0) := (HRD.out.r1.cell 2).trans rfl
      have z2 : wr.frozen? ⟨w.heap.size + 1 + 1 + 1, 2, none⟩ = false := HRD.out.r1.frozen 2
      have n4 : w.heap.size + 1 + 1 ≠ w.heap.size + 1 + 1 + 1 := by omega
      have n5 := Ne.symm n4
      go_upto_region 8 with fail
      go_wp2_with fail
      have hbx := two_boxes (v0 := .int .i64 x.state) (v1 := .int .i64 x.on) (v2 := .slice hk.fA x.frames.length hk.fc) (v3 := .slice hk.sA x.stack.length hk.sc) (v4 := .int .i64 x.code) (q0 := .int .i64 0) (q1 := .int .i64 0) (q2 := .int .i64 0) HRD.out.r0 HRD.out.r1 HRD.out.bel (by omega)
      obtain ⟨k0, k1, k2⟩ := hbx
      refine bodyPost_ret (v := .tuple #[.agg #[.int .i64 x.state, .int .i64 x.on, .slice hk.fA x.frames.length hk.fc, .slice hk.sA x.stack.length hk.sc, .int .i64 x.code], .agg #[.int .i64 0, .int .i64 0, .int .i64 0], .int .i64 (n : Int)]) (results_cells2s rfl _ _ (w.heap.size + 1 + 1) (w.heap.size + 1 + 1 + 1) 29 37 _ _ (0, 0) (0, 0) _ _ _ rfl rfl rfl k0 k1 Try.underlying29 rfl (by kernel_rfl) Try.underlying37 rfl (by kernel_rfl)) rfl ?_
      exact ⟨hk, rfl, (((HRD.out.rt.keep (fun y hy hl => k2.cell hl (fun e => by rcases hy with hy | hy <;> omega))).mono (fun i hi _ => by rcases hi with hi | hi; exact .inl hi; exact .inr (by omega)))), (HRD.out.bel.trans (k2.below HRD.out.bel.size (fun i e => by omega)))⟩
end
end Go.Proofs.Ytkciedcfphhenaa
