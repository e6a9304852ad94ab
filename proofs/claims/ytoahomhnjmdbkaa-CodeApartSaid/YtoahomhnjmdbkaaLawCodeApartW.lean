
/-
  The walk of CodeApart.
-/
import Derived.Test.YtoahomhnjmdbkaaRows
import Derived.WalkKit
import Derived.ProofKit
import Derived.OpenShut
import Derived.ShutString
import Derived.ChangeOld
import Derived.Below
import Derived.Test.YtoahomhnjmdbkaaCsD
import Derived.Test.YtoahomhnjmdbkaaCsW
import Derived.Test.YtoahomhnjmdbkaaCsN
import Derived.Test.YtoahomhnjmdbkaaPrOpen
import Derived.Test.YtoahomhnjmdbkaaCLives
import Derived.Test.YtoahomhnjmdbkaaSame
namespace Go.Proofs.Ytoahomhnjmdbkaa.codeApart
open Go.ChangeShapes Go.WideShapes Go.ChangeAt Go.RowKit Go.Proofs.Ytoahomhnjmdbkaa Go.Proofs.Ytoahomhnjmdbkaa.Plain
open Go.ChangeMaps (open_string shut_string)
set_option linter.unusedVariables false


/-- Where Clone's rows stand while they are turned. -/
structure Ap (W wr : World) (g8 base : Nat) (mu th : Int) (vf vc vs vh vx : Value) (cs ss hs : List Int) (fs : List TF) (ls : List TL) : Prop where
  ob : Blk wr g8 26 #[vf, .int .i64 mu, vc, vs, vh, vx, .int .i64 th]
  op : OP wr base vf vc vs vh vx cs ss hs fs ls
  one : ∀ t ∈ ls, 1 ≤ t.l.length
  bel : Below base W wr
theorem Ap.below {W wr w2 : World} {g8 base : Nat} {mu th : Int} {vf vc vs vh vx : Value} {cs ss hs : List Int} {fs : List TF} {ls : List TL} (g : Ap W wr g8 base mu th vf vc vs vh vx cs ss hs fs ls) (hb : Below wr.heap.size wr w2) (hz : base ≤ wr.heap.size) : Ap W w2 g8 base mu th vf vc vs vh vx cs ss hs fs ls :=
  ⟨g.ob.below hb g.ob.lt, g.op.below hb, g.one, g.bel.trans (hb.mono hz)⟩
theorem Ap.setI {W wr : World} {g8 base : Nat} {mu th : Int} {vf vc vs vh vx : Value} {cs ss hs : List Int} {fs : List TF} {ls : List TL} (g : Ap W wr g8 base mu th vf vc vs vh vx cs ss hs fs ls) {i k b : Nat} {t : TF} (hi : fs[i]? = some t) (hA : t.A = some ⟨b, 0, none⟩) (hk : k < t.f.code.length) (x : IV) :
    Ap W ((wr.setCell ⟨b, k * 2, none⟩ (.int .i64 x.op)).setCell ⟨b, k * 2 + 1, none⟩ (.int .i64 x.a)) g8 base mu th vf vc vs vh vx cs ss hs (fs.set i { t with f := { t.f with code := t.f.code.set k x } }) ls := by
  have hrow : (fs.map TF.row)[i]? = some t.row := by simp [hi]
  have ho := g.op.code.1 _ (List.mem_of_getElem? hrow)
  have hown : t.row.1.ownBlock = some b := by simp [TF.row, TF.val, hA, Value.ownBlock]
  have hne : g8 ≠ b := fun e => own_blk_ne ho g.ob (by decide) (by rw [hown, e])
  have hlb := (ho.lt b hown).1
  exact ⟨(g.ob.far (p := ⟨b, k * 2, none⟩) hne _).far (p := ⟨b, k * 2 + 1, none⟩) hne _, g.op.setI hi hA hk x, g.one, (g.bel.setCell (p := ⟨b, k * 2, none⟩) hlb _).setCell (p := ⟨b, k * 2 + 1, none⟩) hlb _⟩
theorem Ap.setLoc {W wr : World} {g8 base : Nat} {mu th : Int} {vf vc vs vh vx : Value} {cs ss hs : List Int} {fs : List TF} {ls : List TL} (g : Ap W wr g8 base mu th vf vc vs vh vx cs ss hs fs ls) {i b cap : Nat} {t : TF} (hi : fs[i]? = some t) (hv : vf = .slice (some ⟨b, 0, none⟩) fs.length cap) (x : Int) :
    Ap W (wr.setCell ⟨b, i * 2, none⟩ (.int .i64 x)) g8 base mu th vf vc vs vh vx cs ss hs (fs.set i { t with f := { t.f with locals := x } }) ls := by
  have hown : vf.ownBlock = some b := by simp [hv, Value.ownBlock]
  have hne : g8 ≠ b := fun e => own_blk_ne g.op.frow g.ob (by decide) (by rw [hown, e])
  exact ⟨g.ob.far (p := ⟨b, i * 2, none⟩) hne _, g.op.setLoc hi hv x, g.one, g.bel.setCell (p := ⟨b, i * 2, none⟩) (g.op.frow.lt b hown).1 _⟩
theorem Ap.setL {W wr : World} {g8 base : Nat} {mu th : Int} {vf vc vs vh vx : Value} {cs ss hs : List Int} {fs : List TF} {ls : List TL} (g : Ap W wr g8 base mu th vf vc vs vh vx cs ss hs fs ls) {i k b : Nat} {t : TL} (hi : ls[i]? = some t) (hA : t.A = some ⟨b, 0, none⟩) (x : Int) :
    Ap W (wr.setCell ⟨b, k, none⟩ (.int .i64 x)) g8 base mu th vf vc vs vh vx cs ss hs fs (ls.set i { t with l := t.l.set k x }) := by
  have hrow : (irow vc cs :: irow vs ss :: irow vh hs :: ls.map TL.row)[i + 1 + 1 + 1]? = some t.row := by simp [hi]
  have ho := g.op.ints.1 _ (List.mem_of_getElem? hrow)
  have hown : t.row.1.ownBlock = some b := by simp [TL.row, TL.val, hA, Value.ownBlock]
  have hne : g8 ≠ b := fun e => own_blk_ne ho g.ob (by decide) (by rw [hown, e])
  refine ⟨g.ob.far (p := ⟨b, k, none⟩) hne _, g.op.setL hi hA x, fun u hu => ?_, g.bel.setCell (p := ⟨b, k, none⟩) (ho.lt b hown).1 _⟩
  rcases List.mem_or_eq_of_mem_set hu with hu | rfl
  · exact g.one u hu
  · simpa using g.one t (List.mem_of_getElem? hi)
theorem Ap.setH {W wr : World} {g8 base : Nat} {mu th : Int} {vf vc vs vh vx : Value} {cs ss hs : List Int} {fs : List TF} {ls : List TL} (g : Ap W wr g8 base mu th vf vc vs vh vx cs ss hs fs ls) {k b cap : Nat} (hv : vh = .slice (some ⟨b, 0, none⟩) hs.length cap) (x : Int) :
    Ap W (wr.setCell ⟨b, k, none⟩ (.int .i64 x)) g8 base mu th vf vc vs vh vx cs ss (hs.set k x) fs ls := by
  have ho := g.op.ints.1 (irow vh hs) (by simp)
  have hown : (irow vh hs).1.ownBlock = some b := by simp [irow, hv, Value.ownBlock]
  have hne : g8 ≠ b := fun e => own_blk_ne ho g.ob (by decide) (by rw [hown, e])
  exact ⟨g.ob.far (p := ⟨b, k, none⟩) hne _, g.op.setH hv x, g.one, g.bel.setCell (p := ⟨b, k, none⟩) (ho.lt b hown).1 _⟩
set_option maxRecDepth 100000 in
set_option maxHeartbeats 40000000 in
theorem walk (hd0 : PH) (q0 : PV) (hd1 : PH) (q1 : PV) (w : World) (w0 : RP w w.heap.size hd0 q0 ∧ Fit q0 ∧ Lens q0) (w1 : RP w w.heap.size hd1 q1 ∧ Fit q1 ∧ Lens q1) :
    Calls Try.prog 6 #[.agg #[.slice hd0.fA q0.funcs.length hd0.fc, .int .i64 q0.mutexes, .slice hd0.cA q0.conds.length hd0.cc, .slice hd0.sA q0.semas.length hd0.sc, .slice hd0.hA q0.chans.length hd0.hc, .slice hd0.xA q0.choices.length hd0.xc, .int .i64 q0.threads], .agg #[.slice hd1.fA q1.funcs.length hd1.fc, .int .i64 q1.mutexes, .slice hd1.cA q1.conds.length hd1.cc, .slice hd1.sA q1.semas.length hd1.sc, .slice hd1.hA q1.chans.length hd1.hc, .slice hd1.xA q1.choices.length hd1.xc, .int .i64 q1.threads]] w fun e w' => e = .returned (.bool true) ∧ Below w.heap.size w w' := by
  obtain ⟨hrp, hfit, hlen⟩ := w0
  obtain ⟨hrp1, hfit1, hlen1⟩ := w1
  have hp0 := good_puts q0 hfit
  have hp1 := good_puts q1 hfit1
  have hone : ∀ l ∈ (good q0).choices, 1 ≤ l.length := fun l hl => by
    have hm := good_mayC q0 hfit
    simp only [mayC, choicesB, Bool.and_eq_true] at hm
    have hc := List.all_eq_true.1 hm.1.1.2.2 l hl
    simp only [choiceC, Bool.and_eq_true, Bool.not_eq_true', List.isEmpty_eq_false_iff] at hc
    exact List.length_pos_iff.2 hc.1.1
  obtain ⟨T1, T2, T3⟩ := two w 26 26 #[.slice hd0.fA q0.funcs.length hd0.fc, .int .i64 q0.mutexes, .slice hd0.cA q0.conds.length hd0.cc, .slice hd0.sA q0.semas.length hd0.sc, .slice hd0.hA q0.chans.length hd0.hc, .slice hd0.xA q0.choices.length hd0.xc, .int .i64 q0.threads] #[.slice hd1.fA q1.funcs.length hd1.fc, .int .i64 q1.mutexes, .slice hd1.cA q1.conds.length hd1.cc, .slice hd1.sA q1.semas.length hd1.sc, .slice hd1.hA q1.chans.length hd1.hc, .slice hd1.xA q1.choices.length hd1.xc, .int .i64 q1.threads]
  obtain ⟨W0, hW0⟩ : ∃ X, X = (w.alloc (.cells #[.slice hd0.fA q0.funcs.length hd0.fc, .int .i64 q0.mutexes, .slice hd0.cA q0.conds.length hd0.cc, .slice hd0.sA q0.semas.length hd0.sc, .slice hd0.hA q0.chans.length hd0.hc, .slice hd0.xA q0.choices.length hd0.xc, .int .i64 q0.threads] 26)).alloc (.cells #[.slice hd1.fA q1.funcs.length hd1.fc, .int .i64 q1.mutexes, .slice hd1.cA q1.conds.length hd1.cc, .slice hd1.sA q1.semas.length hd1.sc, .slice hd1.hA q1.chans.length hd1.hc, .slice hd1.xA q1.choices.length hd1.xc, .int .i64 q1.threads] 26) := ⟨_, rfl⟩
  rw [← hW0] at T1 T2 T3
  have z1 := T1.lt
  have z2 := T2.lt
  have hr0 : RP W0 w.heap.size hd0 q0 := hrp.below T3
  have hk3 : ∀ X, Below W0.heap.size W0 X → (X.cell? ⟨w.heap.size + 1, 0, none⟩ = some (.slice hd1.fA q1.funcs.length hd1.fc) ∧ X.cell? ⟨w.heap.size + 1, 1, none⟩ = some (.int .i64 q1.mutexes) ∧ X.cell? ⟨w.heap.size + 1, 2, none⟩ = some (.slice hd1.cA q1.conds.length hd1.cc) ∧ X.cell? ⟨w.heap.size + 1, 3, none⟩ = some (.slice hd1.sA q1.semas.length hd1.sc) ∧ X.cell? ⟨w.heap.size + 1, 4, none⟩ = some (.slice hd1.hA q1.chans.length hd1.hc) ∧ X.cell? ⟨w.heap.size + 1, 5, none⟩ = some (.slice hd1.xA q1.choices.length hd1.xc) ∧ X.cell? ⟨w.heap.size + 1, 6, none⟩ = some (.int .i64 q1.threads)) ∧ RP X w.heap.size hd1 q1 := fun X hX =>
    ⟨⟨((T2.below hX z2).cell 0).trans rfl, ((T2.below hX z2).cell 1).trans rfl, ((T2.below hX z2).cell 2).trans rfl, ((T2.below hX z2).cell 3).trans rfl, ((T2.below hX z2).cell 4).trans rfl, ((T2.below hX z2).cell 5).trans rfl, ((T2.below hX z2).cell 6).trans rfl⟩, hrp1.below (T3.trans (hX.mono (by omega)))⟩
  obtain ⟨m0, m1, m2, m3, m4, m5, m6⟩ : W0.cell? ⟨w.heap.size, 0, none⟩ = some (.slice hd0.fA q0.funcs.length hd0.fc) ∧ W0.cell? ⟨w.heap.size, 1, none⟩ = some (.int .i64 q0.mutexes) ∧ W0.cell? ⟨w.heap.size, 2, none⟩ = some (.slice hd0.cA q0.conds.length hd0.cc) ∧ W0.cell? ⟨w.heap.size, 3, none⟩ = some (.slice hd0.sA q0.semas.length hd0.sc) ∧ W0.cell? ⟨w.heap.size, 4, none⟩ = some (.slice hd0.hA q0.chans.length hd0.hc) ∧ W0.cell? ⟨w.heap.size, 5, none⟩ = some (.slice hd0.xA q0.choices.length hd0.xc) ∧ W0.cell? ⟨w.heap.size, 6, none⟩ = some (.int .i64 q0.threads) := ⟨((T1).cell 0).trans rfl, ((T1).cell 1).trans rfl, ((T1).cell 2).trans rfl, ((T1).cell 3).trans rfl, ((T1).cell 4).trans rfl, ((T1).cell 5).trans rfl, ((T1).cell 6).trans rfl⟩
  have HW0 := Lib.hid hW0.symm; have HR0 := Lib.hid hr0; have HK3 := Lib.hid hk3; have HF0 := Lib.hid hfit; have HF1 := Lib.hid hfit1; have HP0 := Lib.hid hp0; have HP1 := Lib.hid hp1; have HONE := Lib.hid hone; have HT3 := Lib.hid T3
  clear hrp hlen hrp1 hlen1 hfit hfit1 hp0 hp1 hone hr0 hk3 hW0 T1 T2 T3
  go_enter Try.func6, Try.ntmps6
  go_upto_region 1 with fail
  rw [HW0.out]
  go_wp2_with fail
  refine (good_any hd0 q0 W0 w.heap.size HR0.out (by omega) HF0.out).mono ?_
  rintro e w1 hm
  obtain ⟨hg, rfl, hrg, hbg⟩ := hm.rp
  clear hm m0 m1 m2 m3 m4 m5 m6
  generalize good q0 = g at *
  obtain ⟨fA, fc, cA, cc, sA, sc, hA, hc, xA, xc⟩ := hg
  simp only at hrg ⊢
  obtain ⟨U1, hU1⟩ : ∃ X, X = w1.alloc (.cells #[.slice fA g.funcs.length fc, .int .i64 g.mutexes, .slice cA g.conds.length cc, .slice sA g.semas.length sc, .slice hA g.chans.length hc, .slice xA g.choices.length xc, .int .i64 g.threads] 26) := ⟨_, rfl⟩
  have hb1 : Below w1.heap.size w1 U1 := by rw [hU1]; exact (Below.refl _ _).alloc (Nat.le_refl _) _
  have hk1 : Blk U1 w1.heap.size 26 #[.slice fA g.funcs.length fc, .int .i64 g.mutexes, .slice cA g.conds.length cc, .slice sA g.semas.length sc, .slice hA g.chans.length hc, .slice xA g.choices.length xc, .int .i64 g.threads] := by rw [hU1]; exact Blk.new _ _ _
  have hz1 := hbg.size
  have hzU : U1.heap.size = w1.heap.size + 1 := by rw [hU1]; simp
  obtain ⟨hm3, hrp3⟩ := HK3.out U1 (hbg.trans (hb1.mono hz1))
  obtain ⟨n0, n1, n2, n3, n4, n5, n6⟩ := hm3
  have HU1 := Lib.hid hU1.symm; have HRG := Lib.hid hrg; have HK1 := Lib.hid hk1; have HRP3 := Lib.hid hrp3
  have HBU : Hid (Below w.heap.size w U1) := HT3.out.trans ((hbg.trans (hb1.mono hz1)).mono (by omega))
  have HB1 := Lib.hid hb1
  clear hrg hbg hU1 hb1 hk1 hrp3
  go_upto_region 2 with fail
  rw [HU1.out]
  go_wp2_with fail
  refine (good_any hd1 q1 U1 w.heap.size HRP3.out (by omega) HF1.out).mono ?_
  rintro e w2 hm
  obtain ⟨hk, rfl, hrk, hbk⟩ := hm.rp
  clear hm n0 n1 n2 n3 n4 n5 n6
  generalize good q1 = k at *
  obtain ⟨fA', fc', cA', cc', sA', sc', hA', hc', xA', xc'⟩ := hk
  simp only at hrk ⊢
  obtain ⟨U2, hU2⟩ : ∃ X, X = w2.alloc (.cells #[.slice fA' k.funcs.length fc', .int .i64 k.mutexes, .slice cA' k.conds.length cc', .slice sA' k.semas.length sc', .slice hA' k.chans.length hc', .slice xA' k.choices.length xc', .int .i64 k.threads] 26) := ⟨_, rfl⟩
  have hb2 : Below w2.heap.size w2 U2 := by rw [hU2]; exact (Below.refl _ _).alloc (Nat.le_refl _) _
  have hk2 : Blk U2 w2.heap.size 26 #[.slice fA' k.funcs.length fc', .int .i64 k.mutexes, .slice cA' k.conds.length cc', .slice sA' k.semas.length sc', .slice hA' k.chans.length hc', .slice xA' k.choices.length xc', .int .i64 k.threads] := by rw [hU2]; exact Blk.new _ _ _
  have hz2 := hbk.size
  have hzU2 : U2.heap.size = w2.heap.size + 1 := by rw [hU2]; simp
  have hk12 : Blk U2 w1.heap.size 26 #[.slice fA g.funcs.length fc, .int .i64 g.mutexes, .slice cA g.conds.length cc, .slice sA g.semas.length sc, .slice hA g.chans.length hc, .slice xA g.choices.length xc, .int .i64 g.threads] := (HK1.out.below hbk (by omega)).below hb2 (by omega)
  have hKG : ∀ X, Below U2.heap.size U2 X → (X.cell? ⟨w1.heap.size, 0, none⟩ = some (.slice fA g.funcs.length fc) ∧ X.cell? ⟨w1.heap.size, 1, none⟩ = some (.int .i64 g.mutexes) ∧ X.cell? ⟨w1.heap.size, 2, none⟩ = some (.slice cA g.conds.length cc) ∧ X.cell? ⟨w1.heap.size, 3, none⟩ = some (.slice sA g.semas.length sc) ∧ X.cell? ⟨w1.heap.size, 4, none⟩ = some (.slice hA g.chans.length hc) ∧ X.cell? ⟨w1.heap.size, 5, none⟩ = some (.slice xA g.choices.length xc) ∧ X.cell? ⟨w1.heap.size, 6, none⟩ = some (.int .i64 g.threads)) ∧ (X.cell? ⟨w2.heap.size, 0, none⟩ = some (.slice fA' k.funcs.length fc') ∧ X.cell? ⟨w2.heap.size, 1, none⟩ = some (.int .i64 k.mutexes) ∧ X.cell? ⟨w2.heap.size, 2, none⟩ = some (.slice cA' k.conds.length cc') ∧ X.cell? ⟨w2.heap.size, 3, none⟩ = some (.slice sA' k.semas.length sc') ∧ X.cell? ⟨w2.heap.size, 4, none⟩ = some (.slice hA' k.chans.length hc') ∧ X.cell? ⟨w2.heap.size, 5, none⟩ = some (.slice xA' k.choices.length xc') ∧ X.cell? ⟨w2.heap.size, 6, none⟩ = some (.int .i64 k.threads)) := fun X hX =>
    ⟨⟨((hk12.below hX (by omega)).cell 0).trans rfl, ((hk12.below hX (by omega)).cell 1).trans rfl, ((hk12.below hX (by omega)).cell 2).trans rfl, ((hk12.below hX (by omega)).cell 3).trans rfl, ((hk12.below hX (by omega)).cell 4).trans rfl, ((hk12.below hX (by omega)).cell 5).trans rfl, ((hk12.below hX (by omega)).cell 6).trans rfl⟩, ⟨((hk2.below hX (by omega)).cell 0).trans rfl, ((hk2.below hX (by omega)).cell 1).trans rfl, ((hk2.below hX (by omega)).cell 2).trans rfl, ((hk2.below hX (by omega)).cell 3).trans rfl, ((hk2.below hX (by omega)).cell 4).trans rfl, ((hk2.below hX (by omega)).cell 5).trans rfl, ((hk2.below hX (by omega)).cell 6).trans rfl⟩⟩
  have hRG : ∀ X, Below U2.heap.size U2 X → RP X U2.heap.size ⟨fA, fc, cA, cc, sA, sc, hA, hc, xA, xc⟩ g ∧ RP X U2.heap.size ⟨fA', fc', cA', cc', sA', sc', hA', hc', xA', xc'⟩ k := fun X hX =>
    ⟨(HRG.out.below (((HB1.out).trans (hbk.mono (by omega))).trans ((hb2.mono (by omega)).trans (hX.mono (by omega))))).more (by omega), (hrk.below (hb2.trans (hX.mono (by omega)))).more (by omega)⟩
  have HU2 := Lib.hid hU2.symm; have HKG := Lib.hid hKG; have HRG2 := Lib.hid hRG
  have HBU2 : Hid (Below w.heap.size w U2) := HBU.out.trans ((hbk.trans (hb2.mono hz2)).mono (by have := HBU.out.size; omega))
  clear hrk hbk hU2 hb2 hk2 hk12 hKG hRG HRG HK1 HRP3 HU1 HB1 HK3 HR0 HW0
  obtain ⟨⟨m0, m1, m2, m3, m4, m5, m6⟩, _⟩ := HKG.out U2 (Below.refl _ _)
  go_upto_region 3 with fail
  rw [HU2.out]
  go_wp2_with fail
  refine (refWrite_any ⟨fA, fc, cA, cc, sA, sc, hA, hc, xA, xc⟩ g U2 U2.heap.size (HRG2.out U2 (Below.refl _ _)).1 (Nat.le_refl _) HP0.out).mono ?_
  rintro e w3 ⟨v3, rfl, ho3⟩
  have hb3 := ho3.bel
  obtain ⟨⟨n0, n1, n2, n3, n4, n5, n6⟩, _⟩ := HKG.out w3 hb3
  have HO3 := Lib.hid ho3; have HB3 := Lib.hid hb3
  clear ho3 hb3 m0 m1 m2 m3 m4 m5 m6
  go_wp2_with fail
  refine (cloneP_any ⟨fA, fc, cA, cc, sA, sc, hA, hc, xA, xc⟩ g w3 U2.heap.size (HRG2.out w3 HB3.out).1 HB3.out.size (puts_short3 HP0.out)).mono ?_
  rintro e w4 ⟨vf, vc, vs, vh, vx, fs, ls, rfl, hop, hfs, hls, hb4⟩
  clear n0 n1 n2 n3 n4 n5 n6
  obtain ⟨⟨bF, bfc, bC, bcc, bS, bsc, bH, bhc, bX, bxc⟩, rfl, rfl, rfl, rfl, rfl, _⟩ := hop.rp g.mutexes g.threads
  obtain ⟨U4, hU4⟩ : ∃ X, X = w4.alloc (.cells #[.slice bF fs.length bfc, .int .i64 g.mutexes, .slice bC g.conds.length bcc, .slice bS g.semas.length bsc, .slice bH g.chans.length bhc, .slice bX ls.length bxc, .int .i64 g.threads] 26) := ⟨_, rfl⟩
  have hba4 : Below w4.heap.size w4 U4 := by rw [hU4]; exact (Below.refl _ _).alloc (Nat.le_refl _) _
  have hbk4 : Blk U4 w4.heap.size 26 #[.slice bF fs.length bfc, .int .i64 g.mutexes, .slice bC g.conds.length bcc, .slice bS g.semas.length bsc, .slice bH g.chans.length bhc, .slice bX ls.length bxc, .int .i64 g.threads] := by rw [hU4]; exact Blk.new _ _ _
  have hz4 := hb4.size
  have hap : Ap w3 U4 w4.heap.size w3.heap.size g.mutexes g.threads (.slice bF fs.length bfc) (.slice bC g.conds.length bcc) (.slice bS g.semas.length bsc) (.slice bH g.chans.length bhc) (.slice bX ls.length bxc) g.conds g.semas g.chans fs ls :=
    ⟨hbk4, hop.below hba4, fun t ht => HONE.out _ (by rw [← hls]; exact List.mem_map_of_mem ht), hb4.trans (hba4.mono hz4)⟩
  have HAP := Lib.hid hap; have HU4 := Lib.hid hU4.symm
  have hfn : fs.length = g.funcs.length := by rw [← hfs, List.length_map]
  have hfc : ∀ t ∈ fs, t.f.code.length ≤ 1000 := fun t ht => (puts_short3 HP0.out).code _ (by rw [← hfs]; exact List.mem_map_of_mem ht)
  have hg1000 := HP0.out.funcs.1
  have HFC := Lib.hid hfc; have HFN := Lib.hid hfn
  have hb24 : ∀ X, Below U4.heap.size U4 X → Below U2.heap.size U2 X := fun X hX => (HB3.out.trans (hap.bel.mono (by have := HB3.out.size; omega))).trans (hX.mono (by have := hap.bel.size; have := HB3.out.size; omega))
  have HB24 := Lib.hid hb24
  have HS5 : Hid (∀ X, Below U4.heap.size U4 X → ((X.cell? ⟨w1.heap.size, 0, none⟩ = some (.slice fA g.funcs.length fc) ∧ X.cell? ⟨w1.heap.size, 1, none⟩ = some (.int .i64 g.mutexes) ∧ X.cell? ⟨w1.heap.size, 2, none⟩ = some (.slice cA g.conds.length cc) ∧ X.cell? ⟨w1.heap.size, 3, none⟩ = some (.slice sA g.semas.length sc) ∧ X.cell? ⟨w1.heap.size, 4, none⟩ = some (.slice hA g.chans.length hc) ∧ X.cell? ⟨w1.heap.size, 5, none⟩ = some (.slice xA g.choices.length xc) ∧ X.cell? ⟨w1.heap.size, 6, none⟩ = some (.int .i64 g.threads)) ∧ (X.cell? ⟨w2.heap.size, 0, none⟩ = some (.slice fA' k.funcs.length fc') ∧ X.cell? ⟨w2.heap.size, 1, none⟩ = some (.int .i64 k.mutexes) ∧ X.cell? ⟨w2.heap.size, 2, none⟩ = some (.slice cA' k.conds.length cc') ∧ X.cell? ⟨w2.heap.size, 3, none⟩ = some (.slice sA' k.semas.length sc') ∧ X.cell? ⟨w2.heap.size, 4, none⟩ = some (.slice hA' k.chans.length hc') ∧ X.cell? ⟨w2.heap.size, 5, none⟩ = some (.slice xA' k.choices.length xc') ∧ X.cell? ⟨w2.heap.size, 6, none⟩ = some (.int .i64 k.threads))) ∧ X.cell? ⟨w4.heap.size, 0, none⟩ = some (.slice bF fs.length bfc)) := fun X hX => ⟨HKG.out X (HB24.out X hX), ((hbk4.below hX hbk4.lt).cell 0).trans rfl⟩
  obtain ⟨b, hb⟩ : ∃ b, b = decide (g = k) := ⟨_, rfl⟩
  have CS1 : Hid (∀ X, Below U4.heap.size U4 X → Calls Try.prog 18 #[.agg #[.slice fA g.funcs.length fc, .int .i64 g.mutexes, .slice cA g.conds.length cc, .slice sA g.semas.length sc, .slice hA g.chans.length hc, .slice xA g.choices.length xc, .int .i64 g.threads], .agg #[.slice fA' k.funcs.length fc', .int .i64 k.mutexes, .slice cA' k.conds.length cc', .slice sA' k.semas.length sc', .slice hA' k.chans.length hc', .slice xA' k.choices.length xc', .int .i64 k.threads]] X fun e w' => e = .returned (.bool b) ∧ Below U4.heap.size U4 w') := fun X hX => by
    rw [hb]
    have h2 := HRG2.out X (HB24.out X hX)
    have hs := (HB24.out X hX).size
    exact (same_any ⟨fA, fc, cA, cc, sA, sc, hA, hc, xA, xc⟩ ⟨fA', fc', cA', cc', sA', sc', hA', hc', xA', xc'⟩ g k X (h2.1.more hs) (h2.2.more hs) (puts_short3 HP0.out) (puts_short3 HP1.out)).mono fun e w' ⟨h1, h2⟩ => ⟨h1, hX.trans (h2.mono hX.size)⟩
  have CS2 : Hid (∀ X, Below U4.heap.size U4 X → Calls Try.prog 17 #[.agg #[.slice fA g.funcs.length fc, .int .i64 g.mutexes, .slice cA g.conds.length cc, .slice sA g.semas.length sc, .slice hA g.chans.length hc, .slice xA g.choices.length xc, .int .i64 g.threads], .agg #[.slice fA' k.funcs.length fc', .int .i64 k.mutexes, .slice cA' k.conds.length cc', .slice sA' k.semas.length sc', .slice hA' k.chans.length hc', .slice xA' k.choices.length xc', .int .i64 k.threads]] X fun e w' => e = .returned (.bool b) ∧ Below U4.heap.size U4 w') := fun X hX => by
    rw [hb]
    have h2 := HRG2.out X (HB24.out X hX)
    have hs := (HB24.out X hX).size
    exact (refSame_any ⟨fA, fc, cA, cc, sA, sc, hA, hc, xA, xc⟩ ⟨fA', fc', cA', cc', sA', sc', hA', hc', xA', xc'⟩ g k X (h2.1.more hs) (h2.2.more hs) (puts_short3 HP0.out) (puts_short3 HP1.out)).mono fun e w' ⟨h1, h2⟩ => ⟨h1, hX.trans (h2.mono hX.size)⟩
  have hlsl : ls.length ≤ 1000 := by rw [← List.length_map (f := TL.l), hls]; exact HP0.out.choices.1
  clear hb hfs hls hop hb4 hba4 hbk4 hap hU4 hfc hb24 hfn
  rw [HFN.out] at HS5
  have hbq := Below.refl U4.heap.size U4
  obtain ⟨⟨⟨m0, m1, m2, m3, m4, m5, m6⟩, n0, n1, n2, n3, n4, n5, n6⟩, x8⟩ := HS5.out U4 hbq
  go_upto_region 5 with fail
  rw [HU4.out]
  cases b
  all_goals
    go_region_held3 (fun X => ((X.cell? ⟨w1.heap.size, 0, none⟩ = some (.slice fA g.funcs.length fc) ∧ X.cell? ⟨w1.heap.size, 1, none⟩ = some (.int .i64 g.mutexes) ∧ X.cell? ⟨w1.heap.size, 2, none⟩ = some (.slice cA g.conds.length cc) ∧ X.cell? ⟨w1.heap.size, 3, none⟩ = some (.slice sA g.semas.length sc) ∧ X.cell? ⟨w1.heap.size, 4, none⟩ = some (.slice hA g.chans.length hc) ∧ X.cell? ⟨w1.heap.size, 5, none⟩ = some (.slice xA g.choices.length xc) ∧ X.cell? ⟨w1.heap.size, 6, none⟩ = some (.int .i64 g.threads)) ∧ (X.cell? ⟨w2.heap.size, 0, none⟩ = some (.slice fA' k.funcs.length fc') ∧ X.cell? ⟨w2.heap.size, 1, none⟩ = some (.int .i64 k.mutexes) ∧ X.cell? ⟨w2.heap.size, 2, none⟩ = some (.slice cA' k.conds.length cc') ∧ X.cell? ⟨w2.heap.size, 3, none⟩ = some (.slice sA' k.semas.length sc') ∧ X.cell? ⟨w2.heap.size, 4, none⟩ = some (.slice hA' k.chans.length hc') ∧ X.cell? ⟨w2.heap.size, 5, none⟩ = some (.slice xA' k.choices.length xc') ∧ X.cell? ⟨w2.heap.size, 6, none⟩ = some (.int .i64 k.threads))) ∧ X.cell? ⟨w4.heap.size, 0, none⟩ = some (.slice bF g.funcs.length bfc))
      (first | (exact HS5.out _ (by repeat (first | with_reducible assumption | with_reducible exact Below.refl _ _ | with_reducible refine Below.drew ?_))) | go_keep)
      ((go_simp
        first
        | (refine (CS1.out _ (by repeat (first | with_reducible assumption | with_reducible exact Below.refl _ _ | with_reducible refine Below.drew ?_))).mono ?_
           rintro e w6 ⟨rfl, hb6⟩)
        | (refine (CS2.out _ (by repeat (first | with_reducible assumption | with_reducible exact Below.refl _ _ | with_reducible refine Below.drew ?_))).mono ?_
           rintro e w7 ⟨rfl, hb7⟩)))
  all_goals
    obtain ⟨M, hM⟩ : ∃ M, M = ls.length := ⟨_, rfl⟩
    have hap := HAP.out.below hb7 HAP.out.bel.size
    rw [HFN.out, ← hM] at hap
    have hb37 : Below w3.heap.size w3 w7 := hap.bel
    obtain ⟨A3, c3, rfl, how3, hbw3⟩ := HO3.out
    have HA7 := Lib.hid hap; have HW3 := Lib.hid how3; have HFN2 := Lib.hid HFN.out; have HM := Lib.hid hM.symm; have HFC2 := Lib.hid HFC.out
    have hMl : M ≤ 1000 := by rw [hM]; exact hlsl
    have hHl := HP0.out.chans.1
    clear x8
    have x8 := (hap.ob.cell 0).trans rfl
    clear hap how3 hbw3 hM HS5 CS1 CS2 hbq hb6 hb7 m0 m1 m2 m3 m4 m5 m6 n0 n1 n2 n3 n4 n5 n6 HU4 HB24
    go_wp2_with fail
    go_loopw [9] (fun s wr => ∃ (i : Nat) (fs : List TF), i ≤ g.funcs.length ∧ s = .int .i64 (i : Int) ∧ fs.length = g.funcs.length ∧ (∀ t ∈ fs, t.f.code.length ≤ 1000) ∧ Ap w3 wr w4.heap.size w3.heap.size g.mutexes g.threads (.slice bF g.funcs.length bfc) (.slice bC g.conds.length bcc) (.slice bS g.semas.length bsc) (.slice bH g.chans.length bhc) (.slice bX M bxc) g.conds g.semas g.chans fs ls) (fun s _ => g.funcs.length - (intOf s).toNat)
    case atStart => exact ⟨0, fs, by omega, rfl, HFN2.out, HFC2.out, HA7.out⟩
    case round =>
      clear x8
      obtain ⟨i, fs2, hi, rfl, hl2, hc2, g2⟩ := hrel
      by_cases hlt : i < g.funcs.length
      · have hti : fs2[i]? = some (fs2[i]'(by omega)) := List.getElem?_eq_getElem _
        generalize fs2[i]'(by omega) = t at hti
        have hfr := g2.op.frow
        rw [hl2] at hfr
        obtain ⟨bf, cap, hv, hbb, hbz⟩ := hfr.form (by omega)
        injection hv with hv1 _ hv2
        subst hv1 hv2
        have hn1 := hc2 t (List.mem_of_getElem? hti)
        obtain ⟨n0, hn0⟩ : ∃ n, n = t.f.code.length := ⟨_, rfl⟩
        rw [← hn0] at hn1
        have x8 := (g2.ob.cell 0).trans rfl
        have G2 := Lib.hid g2; have HL2 := Lib.hid hl2; have HC2 := Lib.hid hc2; have HTI := Lib.hid hti; have HN0 := Lib.hid hn0.symm
        clear g2 hl2 hc2 hti hn0 hfr
        go_wp2_with fail
        clear x8
        go_loopw [10] (fun s wx => ∃ (k2 : Nat) (fs3 : List TF) (u : TF), k2 ≤ n0 ∧ s = .int .i64 (k2 : Int) ∧ fs3.length = g.funcs.length ∧ (∀ t ∈ fs3, t.f.code.length ≤ 1000) ∧ fs3[i]? = some u ∧ u.f.code.length = n0 ∧ Ap w3 wx w4.heap.size w3.heap.size g.mutexes g.threads (.slice (some ⟨bf, 0, none⟩) g.funcs.length bfc) (.slice bC g.conds.length bcc) (.slice bS g.semas.length bsc) (.slice bH g.chans.length bhc) (.slice bX M bxc) g.conds g.semas g.chans fs3 ls) (fun s _ => n0 - (intOf s).toNat)
        case atStart => exact ⟨0, fs2, t, by omega, rfl, HL2.out, HC2.out, HTI.out, HN0.out, G2.out⟩
        case round =>
          obtain ⟨k2, fs3, u, hk2, rfl, hl3, hc3, hui, hun, g3⟩ := hrel
          have x8 := (g3.ob.cell 0).trans rfl
          have hfr := g3.op.frow
          rw [hl3] at hfr
          obtain ⟨e0, e1⟩ := FS_at hui
          have r0 := (hfr.cellAt (i * 2) (by omega)).trans e0
          have r1 := (hfr.cellAt (i * 2 + 1) (by omega)).trans e1
          have rz := hfr.frozenAt (i * 2)
          rw [hun] at r1
          have hset : ∀ v : TF, v.f.code.length ≤ 1000 → ∀ t ∈ fs3.set i v, t.f.code.length ≤ 1000 := fun v hv t ht => by
            rcases List.mem_or_eq_of_mem_set ht with h | h
            · exact hc3 t h
            · rw [h]; exact hv
          by_cases hlt2 : k2 < n0
          · have ho := g3.op.code.1 u.row (List.mem_map_of_mem (List.mem_of_getElem? hui))
            simp only [TF.row, TF.val] at ho
            obtain ⟨b, cap2, hv, hbb2, hbz2⟩ := ho.form (by omega)
            injection hv with hA _ hv2
            rw [hA] at ho r1
            obtain ⟨iv, hiv⟩ : ∃ iv, u.f.code[k2]? = some iv := ⟨_, List.getElem?_eq_getElem (by omega)⟩
            obtain ⟨s0, s1⟩ := CS_at hiv
            have t0 := (ho.cellAt (k2 * 2) (by omega)).trans s0
            have t1 := (ho.cellAt (k2 * 2 + 1) (by omega)).trans s1
            have tz0 := ho.frozenAt (k2 * 2)
            have tz1 := ho.frozenAt (k2 * 2 + 1)
            have G3 := Lib.hid (g3.setI (k := k2) hui hA (by rw [hun]; exact hlt2) ⟨26, 0⟩)
            have HS := Lib.hid (hset { u with f := { u.f with code := u.f.code.set k2 ⟨26, 0⟩ } } (by rw [List.length_set, hun]; exact hn1))
            have HL3 : Hid ((fs3.set i { u with f := { u.f with code := u.f.code.set k2 ⟨26, 0⟩ } }).length = g.funcs.length) := by show _ = _; simp [hl3]
            have HGT : Hid ((fs3.set i { u with f := { u.f with code := u.f.code.set k2 ⟨26, 0⟩ } })[i]? = some { u with f := { u.f with code := u.f.code.set k2 ⟨26, 0⟩ } }) := List.getElem?_set_self (by omega)
            have HUN : Hid ((u.f.code.set k2 ⟨26, 0⟩).length = n0) := by show _ = _; simp [hun]
            clear g3 hl3 hc3 hui hun hfr e0 e1 hset ho s0 s1 hA hiv
            go_wp2_with fail
            exact ⟨⟨k2 + 1, _, _, by omega, by go_num, HL3.out, HS.out, HGT.out, HUN.out, G3.out⟩, by simp [intOf]; omega⟩
          · have G3 := Lib.hid (g3.setLoc hui (cap := bfc) (by rw [hl3]) 8)
            have HS := Lib.hid (hset { u with f := { u.f with locals := 8 } } (by have := hc3 u (List.mem_of_getElem? hui); exact this))
            have HL3 : Hid ((fs3.set i { u with f := { u.f with locals := 8 } }).length = g.funcs.length) := by show _ = _; simp [hl3]
            clear g3 hl3 hc3 hui hun hfr e0 e1 hset
            go_wp2_with fail
            exact ⟨⟨i + 1, _, by omega, by go_num, HL3.out, HS.out, G3.out⟩, by simp [intOf]; omega⟩
      · have x8 := (g2.ob.cell 0).trans rfl
        have x5 := (g2.ob.cell 5).trans rfl
        have G2 := Lib.hid g2
        clear g2 hl2 hc2
        go_wp2_with fail
        clear x8 x5
        go_loopw [11] (fun s wr => ∃ (j : Nat) (ls2 : List TL), j ≤ M ∧ s = .int .i64 (j : Int) ∧ ls2.length = M ∧ Ap w3 wr w4.heap.size w3.heap.size g.mutexes g.threads (.slice bF g.funcs.length bfc) (.slice bC g.conds.length bcc) (.slice bS g.semas.length bsc) (.slice bH g.chans.length bhc) (.slice bX M bxc) g.conds g.semas g.chans fs2 ls2) (fun s _ => M - (intOf s).toNat)
        case atStart => exact ⟨0, ls, by omega, rfl, HM.out, G2.out⟩
        case round =>
          clear G2
          obtain ⟨j, ls2, hj, rfl, hl3, g3⟩ := hrel
          by_cases hlt2 : j < M
          · have hti : ls2[j]? = some (ls2[j]'(by omega)) := List.getElem?_eq_getElem _
            generalize ls2[j]'(by omega) = t at hti
            have hlr := g3.op.lrow
            rw [hl3] at hlr
            obtain ⟨bx, cap, hv, hbb, hbz⟩ := hlr.form (by omega)
            injection hv with hv1 _ hv2
            subst hv1 hv2
            have x5 := (g3.ob.cell 5).trans rfl
            have r1 := (hlr.cellAt j (by omega)).trans (LS_at hti)
            have h1 := g3.one t (List.mem_of_getElem? hti)
            have ho := g3.op.ints.1 t.row (by simp; exact .inr (.inr (.inr ⟨t, List.mem_of_getElem? hti, rfl⟩)))
            simp only [TL.row, TL.val] at ho
            obtain ⟨b, cap2, hv, hbb2, hbz2⟩ := ho.form (by omega)
            injection hv with hA _ hv2
            rw [hA] at ho r1
            obtain ⟨iv, hiv⟩ : ∃ iv, t.l[0]? = some iv := ⟨_, List.getElem?_eq_getElem (by omega)⟩
            have t0 := (ho.cellAt 0 (by omega)).trans (IS_at hiv)
            have tz0 := ho.frozenAt 0
            have G3 := Lib.hid (g3.setL (k := 0) hti hA 7)
            have HL3 : Hid ((ls2.set j { t with l := t.l.set 0 7 }).length = M) := by show _ = _; simp [hl3]
            have h1i : (0 : Int) < (t.l.length : Int) := by omega
            clear g3 hl3 hti hlr ho hA hiv
            go_wp2_with fail
            exact ⟨⟨j + 1, _, by omega, by go_num, HL3.out, G3.out⟩, by simp [intOf]; omega⟩
          · have x5 := (g3.ob.cell 5).trans rfl
            have x4 := (g3.ob.cell 4).trans rfl
            have G3 := Lib.hid g3
            clear g3 hl3
            go_wp2_with fail
            clear x5 x4
            go_loopw [12] (fun s wr => ∃ (m : Nat) (hs2 : List Int), m ≤ g.chans.length ∧ s = .int .i64 (m : Int) ∧ hs2.length = g.chans.length ∧ Ap w3 wr w4.heap.size w3.heap.size g.mutexes g.threads (.slice bF g.funcs.length bfc) (.slice bC g.conds.length bcc) (.slice bS g.semas.length bsc) (.slice bH g.chans.length bhc) (.slice bX M bxc) g.conds g.semas hs2 fs2 ls2) (fun s _ => g.chans.length - (intOf s).toNat)
            case atStart => exact ⟨0, g.chans, by omega, rfl, rfl, G3.out⟩
            case round =>
              clear G3
              obtain ⟨m, hs2, hm, rfl, hl4, g4⟩ := hrel
              by_cases hlt3 : m < g.chans.length
              · have ho := g4.op.ints.1 (irow (.slice bH g.chans.length bhc) hs2) (by simp)
                simp only [irow] at ho
                rw [hl4] at ho
                obtain ⟨bh, cap, hv, hbb, hbz⟩ := ho.form (by omega)
                injection hv with hv1 _ hv2
                subst hv1 hv2
                have x4 := (g4.ob.cell 4).trans rfl
                obtain ⟨iv, hiv⟩ : ∃ iv, hs2[m]? = some iv := ⟨_, List.getElem?_eq_getElem (by omega)⟩
                have t0 := (ho.cellAt m (by omega)).trans (IS_at hiv)
                have tz0 := ho.frozenAt m
                have G4 := Lib.hid (g4.setH (k := m) (cap := bhc) (by rw [hl4]) 8)
                have HL4 : Hid ((hs2.set m 8).length = g.chans.length) := by show _ = _; simp [hl4]
                clear g4 hl4 ho hiv
                go_wp2_with fail
                exact ⟨⟨m + 1, _, by omega, by go_num, HL4.out, G4.out⟩, by simp [intOf]; omega⟩
              · have x4 := (g4.ob.cell 4).trans rfl
                have hbx : Below U2.heap.size U2 wr := HB3.out.trans (g4.bel.mono HB3.out.size)
                obtain ⟨⟨m0, m1, m2, m3, m4, m5, m6⟩, _⟩ := HKG.out wr hbx
                have hrw := (HRG2.out wr hbx).1
                have zw39 := g4.bel.size
                have hr3 : Reads wr w3.heap.size 1 A3 (progL g).length (BS (progL g)) := (Reads.of_own HW3.out).keep fun p hp => g4.bel.cell hp
                have HBX := Lib.hid hbx; have HRW := Lib.hid hrw; have HR3 := Lib.hid hr3
                clear g4 hl4 hbx hrw hr3
                go_wp2_with fail
                refine (refWrite_any ⟨fA, fc, cA, cc, sA, sc, hA, hc, xA, xc⟩ g wr U2.heap.size HRW.out HBX.out.size HP0.out).mono ?_
                rintro e w9 ⟨v9, rfl, A9, c9, rfl, how9, hbw9⟩
                have HR9 := Lib.hid (Reads.of_own how9)
                have HR39 : Hid (Reads w9 w3.heap.size 1 A3 (progL g).length (BS (progL g))) := HR3.out.keep fun p hp => hbw9.cell (by have := HBX.out.size; have := HB3.out.size; omega)
                have HB9 : Hid (Below U2.heap.size U2 w9) := HBX.out.trans (hbw9.mono HBX.out.size)
                clear how9 hbw9
                have hsame := same_yes (progL g) (progL g).length rfl w9 w9.heap.size w3.heap.size A9 A3 c9 c3 HR9.out HR39.out (by
                  have h1 := funcsL_len g.funcs HP0.out.funcs.1 HP0.out.funcs.2
                  have h2 := listsL_len g.choices HP0.out.choices.1 HP0.out.choices.2
                  have h3 := listL_len g.conds HP0.out.conds.1 HP0.out.conds.2
                  have h4 := listL_len g.semas HP0.out.semas.1 HP0.out.semas.2
                  have h5 := listL_len g.chans HP0.out.chans.1 HP0.out.chans.2
                  have h6 := shortI_len HP0.out.mutexes
                  have h7 := shortI_len HP0.out.threads
                  simp only [progL, List.length_append]
                  omega)
                have HSM := Lib.hid hsame
                clear hsame
                go_wp2_with fail
                refine HSM.out.mono ?_
                rintro e w10 ⟨rfl, d, rfl⟩
                clear HSM
                go_wp2_with fail
                refine (clives_any _).mono ?_
                rintro e w11 ⟨rfl, hb11⟩
                have HFIN : Hid (Below w.heap.size w w11) := HBU2.out.trans (((below_drews HB9.out d).trans (hb11.mono HB9.out.size)).mono HBU2.out.size)
                clear hb11
                go_wp2_with fail
                go_ret
                exact ⟨rfl, HFIN.out⟩
end Go.Proofs.Ytoahomhnjmdbkaa.codeApart
